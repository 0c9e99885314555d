import PyProof.Rows.All
import Wide.All
import OpenK.AllK
import Wide.FinOn
import HandS.Iter
import KE.KeyNested
import PyProof.DictRoadsH
import HandS.ForMost
import HandS.ForExc
import HandS.Wide
import HandS.TupAny
import HandS.SetFor
import HandS.ExcIs
import HandS.IsInst
import HandS.RaiseMore
import HandS.Style
import HandS.Zip
import HandS.Deep
import PyProof.Rows.ReprR
import KE.GoesNew
import KE.GoesEnum
import HandS.TupMul
import HandS.More
import KE.KRevSl
import HandS.Conv
import PySem.Challenge.RW_brineways_k17_drawn_and_skimmed
set_option Elab.async false
set_option linter.all false
set_option maxRecDepth 100000
/-! dicts whose keys are None, ints and tuples of ints, together -/
namespace Bw
open PySem PySem.Spec PyProof.Rows L2
abbrev NK := PySem.NestedKey
/-- the keys that are served -/
inductive KyIs (h : Heap) : NK → Value → Prop
  | non : KyIs h .none .none
  | int (i : Int) (t : Tok) : KyIs h (.num i) (.int i t)
  | tup {is : List Int} {a : Addr} (n : NestedIs h (.tup (is.map .num)) (.ref a)) : KyIs h (.tup (is.map .num)) (.ref a)
/-- the hash, without the world -/
def hN : NK → Int
  | .none => reduceHash 0xFCA86420
  | .num i => hashInt i
  | .text _ => 0
  | .tup ks => reduceHash (Builtin.Tuple.tupleHashOf (ks.map fun k => match k with | .num i => hashInt i | _ => 0))
theorem hashes_nums (w : World) : ∀ is : List Int, NestedKey.hashes w (is.map .num) = (is.map NestedKey.num).map (fun k => match k with | .num i => hashInt i | _ => 0)
  | [] => rfl
  | i :: is => by
    rw [List.map_cons, NestedKey.hashes, NestedKey.hash, hashes_nums w is]
    rfl
theorem depth_nums : ∀ is : List Int, NestedKey.depthAll (is.map .num) = 0
  | [] => rfl
  | i :: is => by rw [List.map_cons, NestedKey.depthAll, depth_nums is]; rfl
section
variable {h h' : Heap} {k k2 : NK} {v : Value}
theorem KyIs.nest (x : KyIs h k v) : NestedIs h k v := by
  cases x with
  | non => exact .none
  | int i t => exact .int i t
  | tup n => exact n
theorem KyIs.deep (x : KyIs h k v) : k.depth ≤ 1 := by
  cases x with
  | non => exact Nat.zero_le _
  | int i t => exact Nat.zero_le _
  | tup n => rw [NestedKey.depth, depth_nums]; exact Nat.le_refl _
theorem KyIs.hash (x : KyIs h k v) (w : World) : k.hash w = hN k := by
  cases x with
  | non => rw [NestedKey.hash]; rfl
  | int i t => rw [NestedKey.hash]; rfl
  | tup n => rw [NestedKey.hash, hashes_nums]; rfl
theorem KyIs.inj (x : KyIs h k v) (y : KyIs h k2 v) : k = k2 := NestedIs.inj _ _ _ x.nest y.nest
theorem KyIs.stay (x : KyIs h k v) (q : ∀ b o vs n, h.get? b = some o → o.data = .seq vs n → h'.get? b = some o) : KyIs h' k v := by
  cases x with
  | non => exact .non
  | int i t => exact .int i t
  | tup n => exact .tup (NestedIs.at q _ _ n)
end
abbrev R3 := List (NK × Value × Value)
def ent3 (x : NK × Value × Value) : DictEntry := ⟨hN x.1, x.2.1, x.2.2⟩
def look3 (xs : R3) (k : NK) : Option (Value × Value) := (xs.find? fun x => decide (x.1 = k)).map (·.2)
def put3 (xs : R3) (k : NK) (kv v : Value) : R3 := if (look3 xs k).isSome = true then xs.map (fun x => if x.1 = k then (x.1, x.2.1, v) else x) else xs ++ [(k, kv, v)]
/-- the dict at d -/
def Dic3 (h : Heap) (d : Addr) (xs : R3) : Prop := ∃ o es ep, h.get? d = some o ∧ o.ExactDict ∧ o.data = .dict es ep ∧ es.toList = xs.map ent3 ∧ (xs.map (·.1)).Nodup
theorem ent3_at {es : Array DictEntry} {xs : R3} (q : es.toList = xs.map ent3) (j : Nat) : es[j]? = (xs[j]?).map ent3 := by rw [← Array.getElem?_toList, q, List.getElem?_map]
theorem ent3_size {es : Array DictEntry} {xs : R3} (q : es.toList = xs.map ent3) : es.size = xs.length := by rw [← Array.length_toList, q, List.length_map]
theorem Dic3.ty {s : Shared} {d : Addr} {xs : R3} (m : Dic3 s.heap d xs) : s.TypeIs (.ref d) "dict" := by
  obtain ⟨o, _, _, g, c, _⟩ := m
  exact ⟨o, g, c.1⟩
section
variable {P : Program} {w : World} {A : Around} {E : Value → Shared → Prop} {s : Shared}
end
end Bw
namespace Bw
open PySem PySem.Spec PyProof.Rows L2
/-- which places have the hash -/
def hp3 (es : Array DictEntry) (k : NK) (i : Nat) : Bool := (es[i]?.map (·.hash)) == some (hN k)
/-- none of the first i is the key -/
def No3 (xs : R3) (k : NK) (i : Nat) : Prop := ∀ j p, j < i → xs[j]? ≠ some (k, p)
section
variable {P : Program} {w : World} {A : Around} {E : Value → Shared → Prop} {s : Shared} {es : Array DictEntry} {xs : R3} {k : NK}
theorem hp3_of (q : es.toList = xs.map ent3) {j : Nat} {p : Value × Value} (e : xs[j]? = some (k, p)) : hp3 es k j = true := by
  unfold hp3
  rw [ent3_at q j, e]
  simp [ent3]
theorem No3.skip (q : es.toList = xs.map ent3) {i x : Nat} (a : No3 xs k i) (sk : ∀ j, i ≤ j → j < x → hp3 es k j = false) : No3 xs k x := fun j p hj e => by
  rcases Nat.lt_or_ge j i with z | z
  · exact a j p z e
  · have := sk j z hj
    rw [hp3_of q e] at this
    cases this
theorem No3.next {x : Nat} {k2 : NK} {p2 : Value × Value} (a : No3 xs k x) (e2 : xs[x]? = some (k2, p2)) (ne : ¬ k2 = k) : No3 xs k (x + 1) := fun j p hj e => by
  rcases Nat.lt_or_ge j x with z | z
  · exact a j p z e
  · have : j = x := by omega
    subst this
    rw [e2] at e
    injection e with e
    injection e with e
    exact ne e
theorem No3.all (q : es.toList = xs.map ent3) {i : Nat} (a : No3 xs k i) (hr : [] = (List.range' i (es.size - i)).filter (hp3 es k)) (j : Nat) (p : Value × Value) : xs[j]? ≠ some (k, p) := fun e => by
  have hj : j < es.size := by
    rw [ent3_size q]
    rcases Nat.lt_or_ge j xs.length with z | z
    · exact z
    · rw [List.getElem?_eq_none z] at e; cases e
  rcases Nat.lt_or_ge j i with z | z
  · exact a j p z e
  · have := List.filter_eq_nil_iff.mp hr.symm j (List.mem_range'_1.mpr ⟨z, by omega⟩)
    rw [hp3_of q e] at this
    exact this rfl
end
end Bw
namespace Bw
open PySem PySem.Spec PyProof.Rows L2
section
variable {P : Program} {w : World} {A : Around} {E : Value → Shared → Prop} {s : Shared} {xs : R3} {k : NK} {d : Addr} {key : Value}
end
end Bw
/-! data-level readings -/
namespace Bw
open PySem PySem.Spec PyProof.Rows L2
inductive D where
  | non | bl (b : Bool) | int (i : Int) | str (z : Str) | tup (ds : List D) | lst (ds : List D) | ptr (n : Nat) | exv (x : Str) | scr (ds : List D) | emp | dpt (n : Nat) | npt (n : Nat)
/-- what stands at a numbered address: a list, a dict -/
inductive Kd where
  | lst | dic | nst
abbrev Th := Addr × Kd
abbrev Mem := List (Option (List D))
abbrev Env := List (Option D)
inductive Rp (K : PySem.W.Frag) (G : Hp) : V → D → Prop
  | non : Rp K G .non .non
  | bl (b : Bool) : Rp K G (.bl b) (.bl b)
  | int (i : Int) : Rp K G (.int i) (.int i)
  | str (z : Str) : Rp K G (.str z) (.str z)
  | tup {a : Addr} {xs : List V} {ds : List D} (h : SqT K G a xs) (l : xs.length = ds.length) (e : ∀ (i : Nat) (v : V) (d : D), xs[i]? = some v → ds[i]? = some d → Rp K G v d) : Rp K G (.ref a) (.tup ds)
  | emp {a : Addr} (h : G a = some (.dK [])) : Rp K G (.ref a) .emp
  | scr {a : Addr} {xs : List V} {ds : List D} (h : SqL K G a xs) (l : xs.length = ds.length) (e : ∀ (i : Nat) (v : V) (d : D), xs[i]? = some v → ds[i]? = some d → Rp K G v d) : Rp K G (.ref a) (.scr ds)
  | lst {a : Addr} {xs : List V} {ds : List D} (h : G a = some (.lst xs)) (l : xs.length = ds.length) (e : ∀ (i : Nat) (v : V) (d : D), xs[i]? = some v → ds[i]? = some d → Rp K G v d) : Rp K G (.ref a) (.lst ds)
theorem seqT {K : PySem.W.Frag} {H H' : Hp} {a : Addr} {xs : List V} (e : Same H H') (h : SqT K H a xs) : SqT K H' a xs := by
  rcases h with (h | ⟨o, h⟩) | h
  · exact .inl (.inl (e _ _ h))
  · exact .inl (.inr ⟨o, e _ _ h⟩)
  · exact .inr h
theorem Rp.mono {K : PySem.W.Frag} {G G' : Hp} (s : Same G G') {v : V} {d : D} (h : Rp K G v d) : Rp K G' v d := by
  induction h with
  | non => exact .non
  | bl b => exact .bl b
  | int i => exact .int i
  | str z => exact .str z
  | tup h l e ih => exact .tup (seqT s h) l ih
  | lst h l e ih => exact .lst (s _ _ h) l ih
  | scr h l e ih => exact .scr (s.seq h) l ih
  | emp h => exact .emp (s _ _ h)
/-- lists of values and data -/
structure RpL (K : PySem.W.Frag) (G : Hp) (xs : List V) (ds : List D) : Prop where
  len : xs.length = ds.length
  get : ∀ (i : Nat) (v : V) (d : D), xs[i]? = some v → ds[i]? = some d → Rp K G v d
theorem RpL.mono {K : PySem.W.Frag} {G G' : Hp} (s : Same G G') {xs : List V} {ds : List D} (h : RpL K G xs ds) : RpL K G' xs ds := ⟨h.len, fun i v d a b => (h.get i v d a b).mono s⟩
theorem RpL.nil {K : PySem.W.Frag} {G : Hp} : RpL K G [] [] := ⟨rfl, fun i v d h => by simp at h⟩
theorem RpL.cons {K : PySem.W.Frag} {G : Hp} {v : V} {d : D} {xs : List V} {ds : List D} (h : Rp K G v d) (r : RpL K G xs ds) : RpL K G (v :: xs) (d :: ds) := by
  refine ⟨by simp [r.len], fun i w e h1 h2 => ?_⟩
  cases i with
  | zero => simp at h1 h2; subst h1; subst h2; exact h
  | succ i => exact r.get i w e (by simpa using h1) (by simpa using h2)
theorem RpL.uncons {K : PySem.W.Frag} {G : Hp} {xs : List V} {d : D} {ds : List D} (r : RpL K G xs (d :: ds)) : ∃ v ys, xs = v :: ys ∧ Rp K G v d ∧ RpL K G ys ds := by
  cases xs with
  | nil => exact absurd r.len (by simp)
  | cons v ys => exact ⟨v, ys, rfl, r.get 0 v d rfl rfl, by have := r.len; simpa using this, fun i w e h1 h2 => r.get (i + 1) w e (by simpa using h1) (by simpa using h2)⟩
theorem RpL.nil_of {K : PySem.W.Frag} {G : Hp} {xs : List V} (r : RpL K G xs []) : xs = [] := by
  cases xs with
  | nil => rfl
  | cons v ys => exact absurd r.len (by simp)
theorem RpL.append {K : PySem.W.Frag} {G : Hp} {xs ys : List V} {ds es : List D} (h : RpL K G xs ds) (r : RpL K G ys es) : RpL K G (xs ++ ys) (ds ++ es) := by
  refine ⟨by simp [h.len, r.len], fun i w e h1 h2 => ?_⟩
  by_cases hi : i < xs.length
  · rw [List.getElem?_append_left hi] at h1
    rw [List.getElem?_append_left (by rw [← h.len]; exact hi)] at h2
    exact h.get i w e h1 h2
  · rw [List.getElem?_append_right (by omega)] at h1
    rw [List.getElem?_append_right (by rw [← h.len]; omega), ← h.len] at h2
    exact r.get _ w e h1 h2
theorem RpL.at {K : PySem.W.Frag} {G : Hp} {xs : List V} {ds : List D} (r : RpL K G xs ds) {i : Nat} {d : D} (h : ds[i]? = some d) : ∃ v, xs[i]? = some v ∧ Rp K G v d := by
  have hi : i < ds.length := by
    rcases Nat.lt_or_ge i ds.length with q | q
    · exact q
    · rw [List.getElem?_eq_none q] at h; cases h
  have hx : i < xs.length := by rw [r.len]; exact hi
  exact ⟨xs[i], List.getElem?_eq_getElem hx, r.get i _ d (List.getElem?_eq_getElem hx) h⟩
theorem RpL.set {K : PySem.W.Frag} {G : Hp} {xs : List V} {ds : List D} (r : RpL K G xs ds) {j : Nat} {v : V} {d : D} (h : Rp K G v d) : RpL K G (xs.set j v) (ds.set j d) := by
  refine ⟨by simp [r.len], fun i w e h1 h2 => ?_⟩
  by_cases hj : j = i
  · subst hj
    rw [List.getElem?_set_self'] at h1 h2
    cases e1 : xs[j]? with
    | none => rw [e1] at h1; cases h1
    | some a =>
      cases e2 : ds[j]? with
      | none => rw [e2] at h2; cases h2
      | some b =>
        rw [e1] at h1; rw [e2] at h2
        simp at h1 h2; subst h1; subst h2; exact h
  · rw [List.getElem?_set_ne hj] at h1 h2
    exact r.get i w e h1 h2
/-- at a an error of the class cls, without a dict of its own -/
def ExQ (cls : Value) (a : Addr) : HO := .ext fun h => ∃ (oe : Obj) (vs : Array Value), h.get? a = some oe ∧ Zc cls none oe ∧ oe.data = .fields vs
/-- a value: data, or a mutable list by its number, or an error by its class's name -/
inductive Rv (K : PySem.W.Frag) (θ : List Th) (G : Hp) : V → D → Prop
  | dat {v : V} {d : D} (h : Rp K G v d) : Rv K θ G v d
  | ptr {n : Nat} {a : Addr} (h : θ[n]? = some (a, .lst)) : Rv K θ G (.ref a) (.ptr n)
  | dpt {n : Nat} {a : Addr} (h : θ[n]? = some (a, .dic)) : Rv K θ G (.ref a) (.dpt n)
  | npt {n : Nat} {a : Addr} (h : θ[n]? = some (a, .nst)) : Rv K θ G (.ref a) (.npt n)
  | exv {x : Str} {a C : Addr} (hn : PySem.W.nsIn K mainGlobals x = some (some (.ref C))) (h : G a = some (ExQ (.ref C) a)) : Rv K θ G (.ref a) (.exv x)
theorem pre_get {θ θ' : List Th} (p : θ <+: θ') {n : Nat} {a : Th} (h : θ[n]? = some a) : θ'[n]? = some a := by
  obtain ⟨r, rfl⟩ := p
  have hn : n < θ.length := by
    rcases Nat.lt_or_ge n θ.length with q | q
    · exact q
    · rw [List.getElem?_eq_none q] at h; cases h
  rw [List.getElem?_append_left hn]; exact h
theorem Rv.mono {K : PySem.W.Frag} {θ θ' : List Th} {G G' : Hp} (p : θ <+: θ') (s : Same G G') {v : V} {d : D} (h : Rv K θ G v d) : Rv K θ' G' v d := by
  cases h with
  | dat h => exact .dat (h.mono s)
  | ptr h => exact .ptr (pre_get p h)
  | dpt h => exact .dpt (pre_get p h)
  | npt h => exact .npt (pre_get p h)
  | exv hn h => exact .exv hn (s _ _ h)
structure RvL (K : PySem.W.Frag) (θ : List Th) (G : Hp) (xs : List V) (ds : List D) : Prop where
  len : xs.length = ds.length
  get : ∀ (i : Nat) (v : V) (d : D), xs[i]? = some v → ds[i]? = some d → Rv K θ G v d
theorem RvL.mono {K : PySem.W.Frag} {θ θ' : List Th} {G G' : Hp} (p : θ <+: θ') (s : Same G G') {xs : List V} {ds : List D} (h : RvL K θ G xs ds) : RvL K θ' G' xs ds := ⟨h.len, fun i v d a b => (h.get i v d a b).mono p s⟩
theorem RvL.same {K : PySem.W.Frag} {θ : List Th} {G G' : Hp} (s : Same G G') {xs : List V} {ds : List D} (h : RvL K θ G xs ds) : RvL K θ G' xs ds := h.mono (List.prefix_refl _) s
/-- keys of dicts, as data -/
def intsD : List D → Option (List Int)
  | [] => some []
  | .int i :: r => (intsD r).map (i :: ·)
  | _ :: _ => none
def keyN : D → Option NK
  | .non => some .none
  | .int i => some (.num i)
  | .tup ds => (intsD ds).map fun is => .tup (is.map .num)
  | _ => none
abbrev VE := List (NK × V × V)
abbrev DEs := List (D × D)
/-- a dict of these keys and values stands at a -/
def DH (a : Addr) (es : VE) : HO := .ext fun h => (a == sysModules) = false ∧ es.length ≤ sizeLine ∧ ∃ rows : R3, Paired (fun (p : NK × V × V) (q : NK × Value × Value) => p.1 = q.1 ∧ RelV p.2.1 q.2.1 ∧ RelV p.2.2 q.2.2) es rows ∧ Dic3 h a rows
def RpE (K : PySem.W.Frag) (G : Hp) : VE → DEs → Prop := Paired fun (p : NK × V × V) (q : D × D) => keyN q.1 = some p.1 ∧ Rp K G p.2.1 q.1 ∧ Rp K G p.2.2 q.2
theorem RpE.mono {K : PySem.W.Frag} {G G' : Hp} (s : Same G G') {xs : VE} {es : DEs} (h : RpE K G xs es) : RpE K G' xs es := Paired.mapP h fun p q z => ⟨z.1, z.2.1.mono s, z.2.2.mono s⟩
/-- a dict's cell: whether it is locked, its pairs -/
def enc (b : Bool) (es : DEs) : List D := .bl b :: es.map fun q => .tup [q.1, q.2]
/-- a locked dict is known for good, another one stands in the heap alone -/
def DicAt (G H : Hp) (a : Addr) (b : Bool) (xs : VE) : Prop := if b = true then ∃ o, G a = some (.frz o (DH a xs)) else G a = none ∧ H a = some (DH a xs)
theorem DicAt.keep {G G' H H' : Hp} {a : Addr} {b : Bool} {xs : VE} (h : DicAt G H a b xs) (s : Same G G') (g : G a = none → G' a = none) (e : H' a = H a) : DicAt G' H' a b xs := by
  unfold DicAt at h ⊢
  cases b with
  | true => obtain ⟨o, h⟩ := h; exact ⟨o, s _ _ h⟩
  | false => exact ⟨g h.1, e.trans h.2⟩
/-- the heap -/
structure Rs (K : PySem.W.Frag) (θ : List Th) (G H : Hp) (M : Mem) : Prop where
  sub : Same G H
  len : θ.length = M.length
  nd : (θ.map (·.1)).Nodup
  live : ∀ (n : Nat) (t : Th), θ[n]? = some t → H t.1 ≠ none
  mem : ∀ (n : Nat) (a : Addr) (ds : List D), θ[n]? = some (a, .lst) → M[n]? = some (some ds) → G a = none ∧ ∃ xs, H a = some (.lst xs) ∧ RpL K G xs ds
  dic : ∀ (n : Nat) (a : Addr) (b : Bool) (es : DEs), θ[n]? = some (a, .dic) → M[n]? = some (some (enc b es)) → ∃ xs, DicAt G H a b xs ∧ RpE K G xs es
  nst : ∀ (n : Nat) (a : Addr) (ds : List D), θ[n]? = some (a, .nst) → M[n]? = some (some ds) → G a = none ∧ ∃ xs, H a = some (.lst xs) ∧ RvL K (θ.take n) G xs ds
theorem Rs.inj {K : PySem.W.Frag} {θ : List Th} {G H : Hp} {M : Mem} (r : Rs K θ G H M) {n m : Nat} {t u : Th} (h1 : θ[n]? = some t) (h2 : θ[m]? = some u) (e : t.1 = u.1) : n = m := by
  have a1 : (θ.map (·.1))[n]? = some t.1 := by rw [List.getElem?_map, h1]; rfl
  have a2 : (θ.map (·.1))[m]? = some u.1 := by rw [List.getElem?_map, h2]; rfl
  exact (List.getElem?_inj (List.getElem?_eq_some_iff.mp a1).1 r.nd).mp (a1.trans (e ▸ a2.symm))
/-- the slots -/
structure Rσ (K : PySem.W.Frag) (θ : List Th) (G : Hp) (σ : L2.St) (ρ : Env) : Prop where
  len : σ.length = ρ.length
  get : ∀ (i : Nat) (d : D), ρ[i]? = some (some d) → ∃ v, σ[i]? = some (some v) ∧ Rv K θ G v d
theorem Rσ.mono {K : PySem.W.Frag} {θ θ' : List Th} {G G' : Hp} (p : θ <+: θ') (s : Same G G') {σ : L2.St} {ρ : Env} (h : Rσ K θ G σ ρ) : Rσ K θ' G' σ ρ :=
  ⟨h.len, fun i d e => by obtain ⟨v, a, b⟩ := h.get i d e; exact ⟨v, a, b.mono p s⟩⟩
theorem Rσ.set {K : PySem.W.Frag} {θ : List Th} {G : Hp} {σ : L2.St} {ρ : Env} (h : Rσ K θ G σ ρ) {i : Nat} {v : V} {d : D} (r : Rv K θ G v d) : Rσ K θ G (σ.set i (some v)) (ρ.set i (some d)) := by
  refine ⟨by simp [h.len], fun j e hj => ?_⟩
  by_cases hij : i = j
  · subst hij
    rw [List.getElem?_set_self'] at hj ⊢
    cases e1 : ρ[i]? with
    | none => rw [e1] at hj; cases hj
    | some a =>
      rw [e1] at hj
      simp at hj; subst hj
      have hi : i < σ.length := by
        rw [h.len]
        rcases Nat.lt_or_ge i ρ.length with q | q
        · exact q
        · rw [List.getElem?_eq_none q] at e1; cases e1
      rw [List.getElem?_eq_getElem hi]
      exact ⟨v, rfl, r⟩
  · rw [List.getElem?_set_ne hij] at hj ⊢
    exact h.get j e hj
theorem Rσ.start {K : PySem.W.Frag} {θ : List Th} {G : Hp} {N : List Str} {vs : List V} {ds : List D} (l : vs.length = ds.length) (h : ∀ (i : Nat) (v : V) (d : D), vs[i]? = some v → ds[i]? = some d → Rv K θ G v d) (k : Nat) (hk : k = N.length - ds.length) :
    Rσ K θ G (L2.start N vs) (ds.map some ++ List.replicate k none) := by
  unfold L2.start
  refine ⟨by simp [l, hk], fun i d hi => ?_⟩
  by_cases q : i < ds.length
  · rw [List.getElem?_append_left (by simpa using q)] at hi
    rw [List.getElem?_append_left (by simpa [l] using q)]
    rw [List.getElem?_map, List.getElem?_eq_getElem q] at hi
    rw [List.getElem?_map, List.getElem?_eq_getElem (by rw [l]; exact q)]
    simp at hi; subst hi
    exact ⟨_, rfl, h i _ _ (List.getElem?_eq_getElem (by rw [l]; exact q)) (List.getElem?_eq_getElem q)⟩
  · rw [List.getElem?_append_right (by simpa using q), List.getElem?_replicate] at hi
    split at hi <;> cases hi
/-! ### a new object, a store -/
theorem Rs.fresh {K : PySem.W.Frag} {θ : List Th} {G H : Hp} {M : Mem} (r : Rs K θ G H M) {p : Addr} (hp : H p = none) : G p = none := by
  cases e : G p with
  | none => rfl
  | some o => rw [r.sub _ _ e] at hp; cases hp
theorem same_upd {H : Hp} {p : Addr} {o : HO} (h : H p = none) : Same H (upd H p o) := fun b x e => by
  rw [upd_ne (ne_of_none e h)]
  exact e
theorem live_upd {H : Hp} {a p : Addr} {o : HO} (h : H a ≠ none) : (upd H p o) a ≠ none := by
  by_cases q : a = p
  · subst q; rw [upd_same]; exact fun z => by cases z
  · rw [upd_ne q]; exact h
/-- an immutable thing laid -/
theorem Rs.laid {K : PySem.W.Frag} {θ : List Th} {G H : Hp} {M : Mem} (r : Rs K θ G H M) {p : Addr} (hp : H p = none) (o : HO) : Rs K θ (upd G p o) (upd H p o) M := by
  have ne : ∀ (n : Nat) (t : Th), θ[n]? = some t → t.1 ≠ p := fun n t h z => r.live n t h (by rw [z]; exact hp)
  refine ⟨fun b x e => ?_, r.len, r.nd, fun n a h => live_upd (r.live n a h), fun n a ds h1 h2 => ?_, fun n a b es h1 h2 => ?_, fun n a ds h1 h2 => ?_⟩
  · by_cases hb : b = p
    · subst hb; rw [upd_same] at e ⊢; exact e
    · rw [upd_ne hb] at e ⊢; exact r.sub _ _ e
  · obtain ⟨g, xs, hx, rl⟩ := r.mem n a ds h1 h2
    have ha : a ≠ p := ne n _ h1
    refine ⟨by rw [upd_ne ha]; exact g, xs, by rw [upd_ne ha]; exact hx, rl.mono (same_upd (r.fresh hp))⟩
  · obtain ⟨xs, hx, rl⟩ := r.dic n a b es h1 h2
    have ha : a ≠ p := ne n _ h1
    exact ⟨xs, hx.keep (same_upd (r.fresh hp)) (fun g => by rw [upd_ne ha]; exact g) (upd_ne ha), rl.mono (same_upd (r.fresh hp))⟩
  · obtain ⟨g, xs, hx, rl⟩ := r.nst n a ds h1 h2
    have ha : a ≠ p := ne n _ h1
    exact ⟨by rw [upd_ne ha]; exact g, xs, by rw [upd_ne ha]; exact hx, rl.same (same_upd (r.fresh hp))⟩
/-- a numbered thing laid -/
theorem Rs.laidT {K : PySem.W.Frag} {θ : List Th} {G H : Hp} {M : Mem} (r : Rs K θ G H M) {p : Addr} (hp : H p = none) {k : Kd} {o : HO} {c : Option (List D)}
    (hm : ∀ ds, k = .lst → c = some ds → ∃ xs, o = .lst xs ∧ RpL K G xs ds) (hd : ∀ b es, k = .dic → c = some (enc b es) → b = false ∧ ∃ xs, o = DH p xs ∧ RpE K G xs es) (hn : ∀ ds, k = .nst → c = some ds → ∃ xs, o = .lst xs ∧ RvL K θ G xs ds) :
    Rs K (θ ++ [(p, k)]) G (upd H p o) (M ++ [c]) := by
  have ne : ∀ (n : Nat) (t : Th), θ[n]? = some t → t.1 ≠ p := fun n t h z => r.live n t h (by rw [z]; exact hp)
  have at_ : ∀ (n : Nat) (t : Th), (θ ++ [(p, k)])[n]? = some t → θ[n]? = some t ∨ (n = θ.length ∧ t = (p, k)) := fun n t h => by
    by_cases hn : n < θ.length
    · rw [List.getElem?_append_left hn] at h; exact .inl h
    · rw [List.getElem?_append_right (by omega)] at h
      have : n - θ.length = 0 := by
        rcases Nat.eq_zero_or_pos (n - θ.length) with q | q
        · exact q
        · rw [List.getElem?_eq_none (by simp; omega)] at h; cases h
      rw [this] at h
      simp at h
      exact .inr ⟨by omega, h.symm⟩
  have inM : ∀ (n : Nat) (t : Th), θ[n]? = some t → (M ++ [c])[n]? = M[n]? := fun n t h => List.getElem?_append_left (by rw [← r.len]; exact (List.getElem?_eq_some_iff.mp h).1)
  have lastM : (M ++ [c])[θ.length]? = some c := by rw [r.len, List.getElem?_append_right (Nat.le_refl _), Nat.sub_self]; rfl
  refine ⟨fun b x e => same_upd hp _ _ (r.sub _ _ e), by simp [r.len], ?_, fun n t h => ?_, fun n a es h1 h2 => ?_, fun n a b es h1 h2 => ?_, fun n a es h1 h2 => ?_⟩
  · rw [List.map_append, List.nodup_append]
    refine ⟨r.nd, by simp, fun a ha b hb => ?_⟩
    simp at hb; subst hb
    rintro rfl
    obtain ⟨t, ht, e⟩ := List.mem_map.mp ha
    obtain ⟨n, hn⟩ := List.mem_iff_getElem?.mp ht
    exact ne n t hn e
  · rcases at_ n t h with h | ⟨_, h⟩
    · exact live_upd (r.live n t h)
    · subst h
      show upd H p o p ≠ none
      rw [upd_same]; exact fun z => by cases z
  · rcases at_ n _ h1 with h | ⟨hn, h⟩
    · rw [inM n _ h] at h2
      obtain ⟨g, ys, hy, rl⟩ := r.mem n a es h h2
      exact ⟨g, ys, by rw [upd_ne (ne n _ h)]; exact hy, rl⟩
    · injection h with e1 e2
      subst e1; subst hn
      rw [lastM] at h2
      obtain ⟨xs, e3, rl⟩ := hm es e2.symm (Option.some.inj h2)
      exact ⟨r.fresh hp, xs, by rw [upd_same, e3], rl⟩
  · rcases at_ n _ h1 with h | ⟨hn, h⟩
    · rw [inM n _ h] at h2
      obtain ⟨ys, hy, rl⟩ := r.dic n a b es h h2
      exact ⟨ys, hy.keep (Same.refl _) (fun g => g) (upd_ne (ne n _ h)), rl⟩
    · injection h with e1 e2
      subst e1; subst hn
      rw [lastM] at h2
      obtain ⟨e4, xs, e3, rl⟩ := hd b es e2.symm (Option.some.inj h2)
      subst e4
      exact ⟨xs, ⟨r.fresh hp, by rw [upd_same, e3]⟩, rl⟩
  · have tk : ∀ n, n ≤ θ.length → (θ ++ [(p, k)]).take n = θ.take n := fun n h => List.take_append_of_le_length h
    rcases at_ n _ h1 with h | ⟨hn', h⟩
    · rw [inM n _ h] at h2
      obtain ⟨g, ys, hy, rl⟩ := r.nst n a es h h2
      refine ⟨g, ys, by rw [upd_ne (ne n _ h)]; exact hy, ?_⟩
      rw [tk n (Nat.le_of_lt (List.getElem?_eq_some_iff.mp h).1)]; exact rl
    · injection h with e1 e2
      subst e1; subst hn'
      rw [lastM] at h2
      obtain ⟨xs, e3, rl⟩ := hn es e2.symm (Option.some.inj h2)
      refine ⟨r.fresh hp, xs, by rw [upd_same, e3], ?_⟩
      rw [tk _ (Nat.le_refl _), List.take_length]; exact rl
/-- a mutable list laid -/
theorem Rs.laidM {K : PySem.W.Frag} {θ : List Th} {G H : Hp} {M : Mem} (r : Rs K θ G H M) {p : Addr} (hp : H p = none) {xs : List V} {ds : List D} (h : RpL K G xs ds) :
    Rs K (θ ++ [(p, .lst)]) G (upd H p (.lst xs)) (M ++ [some ds]) := r.laidT hp (fun es _ e => ⟨xs, rfl, by cases e; exact h⟩) (fun b es e _ => by cases e) fun ds e _ => by cases e
end Bw
namespace Bw
open PySem PySem.Spec PyProof.Rows L2
/-- a wish of an error, by its class's name -/
abbrev WN := Str → L2.St → Hp → Prop
inductive Res (α : Type) where
  | ok (a : α) | exc (C : Str)
abbrev Ev (α : Type) := Env → Mem → Option (Res α × Mem)
def ret {α : Type} (a : α) : Ev α := fun _ M => some (.ok a, M)
def stk {α : Type} : Ev α := fun _ _ => none
def bnd {α β : Type} (f : Ev α) (g : α → Ev β) : Ev β := fun ρ M =>
  match f ρ M with
  | some (.ok a, M1) => g a ρ M1
  | some (.exc C, M1) => some (.exc C, M1)
  | none => none
abbrev Rd' (A B : Type) := List Th → Hp → A → B → Prop
/-- a reading t and what it gives, f, from θ0, G0 on -/
def Snd (K : PySem.W.Frag) (W : WN) {A α : Type} (R : List Th → Hp → A → α → Prop) (θ0 : List Th) (G0 : Hp) (t : L2.St → Hp → (A → Hp → Prop) → Prop) (f : Ev α) : Prop :=
  ∀ (ρ : Env) (M : Mem) (r : Res α) (M' : Mem) (θ : List Th) (G : Hp) (σ : L2.St) (H : Hp) (Q : A → Hp → Prop), θ0 <+: θ → Same G0 G → f ρ M = some (r, M') → Rs K θ G H M → Rσ K θ G σ ρ →
    (∀ (θ' : List Th) (G' H' : Hp), θ <+: θ' → Same G G' → Rs K θ' G' H' M' → (∀ C, r = .exc C → W C σ H') ∧ (∀ d v, r = .ok d → R θ' G' v d → Q v H')) → t σ H Q
section
variable {K : PySem.W.Frag} {W : WN} {A B α β : Type} {R : List Th → Hp → A → α → Prop} {R2 : List Th → Hp → B → β → Prop} {θ0 θ1 : List Th} {G0 G1 : Hp}
theorem Snd.mono {t : L2.St → Hp → (A → Hp → Prop) → Prop} {f : Ev α} (h : Snd K W R θ0 G0 t f) (p : θ0 <+: θ1) (s : Same G0 G1) : Snd K W R θ1 G1 t f :=
  fun ρ M r M' θ G σ H Q p' s' e rs rv k => h ρ M r M' θ G σ H Q (p.trans p') (s.trans s') e rs rv k
theorem Snd.bind {t : L2.St → Hp → (A → Hp → Prop) → Prop} {f : Ev α} {k : A → L2.St → Hp → (B → Hp → Prop) → Prop} {g : α → Ev β} (h : Snd K W R θ0 G0 t f)
    (h2 : ∀ θ G v d, θ0 <+: θ → Same G0 G → R θ G v d → Snd K W R2 θ G (k v) (g d)) : Snd K W R2 θ0 G0 (fun σ H Q => t σ H fun v H1 => k v σ H1 Q) (bnd f g) := by
  intro ρ M r M' θ G σ H Q p s e rs rv kk
  unfold bnd at e
  cases q : f ρ M with
  | none => rw [q] at e; cases e
  | some z =>
    obtain ⟨r1, M1⟩ := z
    rw [q] at e
    refine h ρ M r1 M1 θ G σ H _ p s q rs rv fun θ' G' H' p' s' rs' => ?_
    cases r1 with
    | exc C =>
      simp at e
      obtain ⟨e1, e2⟩ := e
      subst e1; subst e2
      exact ⟨fun C' h => (kk θ' G' H' p' s' rs').1 C' (by cases h; rfl), fun d v h => by cases h⟩
    | ok a =>
      refine ⟨fun C' h => (by cases h), fun d v h rel => ?_⟩
      cases h
      exact h2 θ' G' v a (p.trans p') (s.trans s') rel ρ M1 r M' θ' G' σ H' Q (List.prefix_refl _) (Same.refl _) e rs' (rv.mono p' s')
        fun θ2 G2 H2 p2 s2 rs2 => kk θ2 G2 H2 (p'.trans p2) (s'.trans s2) rs2
theorem Snd.ret {v : A} {d : α} (h : ∀ θ G, θ0 <+: θ → Same G0 G → R θ G v d) : Snd K W R θ0 G0 (fun _ H Q => Q v H) (ret d) := by
  intro ρ M r M' θ G σ H Q p s e rs rv kk
  unfold Bw.ret at e
  simp at e
  obtain ⟨e1, e2⟩ := e
  subst e1; subst e2
  exact (kk θ G H (List.prefix_refl _) (Same.refl _) rs).2 d v rfl (h θ G p s)
theorem Snd.stk {t : L2.St → Hp → (A → Hp → Prop) → Prop} : Snd K W R θ0 G0 t (stk (α := α)) := by
  intro ρ M r M' θ G σ H Q p s e
  cases e
theorem Snd.of_eq {t t' : L2.St → Hp → (A → Hp → Prop) → Prop} {f : Ev α} (h : Snd K W R θ0 G0 t f) (e : t = t') : Snd K W R θ0 G0 t' f := e ▸ h
end
/-! ### the relations -/
abbrev RV (K : PySem.W.Frag) : List Th → Hp → V → D → Prop := fun θ G v d => Rv K θ G v d
abbrev RB : List Th → Hp → Bool → Bool → Prop := fun _ _ b c => b = c
abbrev RL (K : PySem.W.Frag) : List Th → Hp → List V → List D → Prop := fun θ G v d => RvL K θ G v d
theorem RvL.nil {K : PySem.W.Frag} {θ : List Th} {G : Hp} : RvL K θ G [] [] := ⟨rfl, fun i v d h => by simp at h⟩
theorem RvL.cons {K : PySem.W.Frag} {θ : List Th} {G : Hp} {v : V} {d : D} {xs : List V} {ds : List D} (h : Rv K θ G v d) (r : RvL K θ G xs ds) : RvL K θ G (v :: xs) (d :: ds) := by
  refine ⟨by simp [r.len], fun i w e h1 h2 => ?_⟩
  cases i with
  | zero => simp at h1 h2; subst h1; subst h2; exact h
  | succ i => exact r.get i w e (by simpa using h1) (by simpa using h2)
theorem RvL.uncons {K : PySem.W.Frag} {θ : List Th} {G : Hp} {xs : List V} {d : D} {ds : List D} (r : RvL K θ G xs (d :: ds)) : ∃ v ys, xs = v :: ys ∧ Rv K θ G v d ∧ RvL K θ G ys ds := by
  cases xs with
  | nil => exact absurd r.len (by simp)
  | cons v ys => exact ⟨v, ys, rfl, r.get 0 v d rfl rfl, by have := r.len; simpa using this, fun i w e h1 h2 => r.get (i + 1) w e (by simpa using h1) (by simpa using h2)⟩
theorem RvL.nil_of {K : PySem.W.Frag} {θ : List Th} {G : Hp} {xs : List V} (r : RvL K θ G xs []) : xs = [] := by
  cases xs with
  | nil => rfl
  | cons v ys => exact absurd r.len (by simp)
/-- no pointers -/
def D.np : D → Bool
  | .ptr _ => false
  | .exv _ => false
  | .dpt _ => false
  | .npt _ => false
  | _ => true
theorem Rv.rp {K : PySem.W.Frag} {θ : List Th} {G : Hp} {v : V} {d : D} (h : Rv K θ G v d) (n : d.np = true) : Rp K G v d := by
  cases h with
  | dat h => exact h
  | ptr h => cases n
  | exv _ h => cases n
  | dpt h => cases n
  | npt h => cases n
theorem RvL.rp {K : PySem.W.Frag} {θ : List Th} {G : Hp} {xs : List V} {ds : List D} (h : RvL K θ G xs ds) (n : ds.all D.np = true) : RpL K G xs ds :=
  ⟨h.len, fun i v d a b => (h.get i v d a b).rp (by rw [List.all_eq_true] at n; exact n d (List.mem_of_getElem? b))⟩
/-! ### expressions -/
def DE (X : Cx) (W : WN) (e : Expr) (f : Ev D) : Prop := ∃ t, PE X e t ∧ ∀ θ G, Snd X.K W (RV X.K) θ G t f
def DT (X : Cx) (W : WN) (e : Expr) (f : Ev Bool) : Prop := ∃ t, PT X e t ∧ ∀ θ G, Snd X.K W RB θ G t f
def DW (X : Cx) (W : WN) (e : Expr) (f : Ev Bool) : Prop := ∃ t, PW X e t ∧ ∀ θ G, Snd X.K W RB θ G t f
def DA (X : Cx) (W : WN) (es : List Expr) (f : Ev (List D)) : Prop := ∃ t, PA X es t ∧ ∀ θ G, Snd X.K W (RL X.K) θ G t f
section
variable {X : Cx} {W : WN} {pos : Pos}
def dVar (i : Nat) : Ev D := fun ρ M => match ρ[i]? with
  | some (some d) => some (.ok d, M)
  | _ => none
theorem de_var (i : Nat) {x : Str} (hN : X.N[i]? = some x := by rfl) (hv : Vis X.env.scope x := by first | exact Or.inl rfl | exact Or.inr (Or.inl rfl) | exact Or.inr (Or.inr rfl)) (hd : (x == ("__debug__" : Str)) = false := by decide)
    (hcd : (x == ("__classdict__" : Str)) = false := by decide) : DE X W (.Name x pos) (dVar i) := by
  refine ⟨tVar i, pe_var hN hv hd hcd, fun θ0 G0 ρ M r M' θ G σ H Q p s e rs rv kk => ?_⟩
  unfold dVar at e
  cases q : ρ[i]? with
  | none => rw [q] at e; cases e
  | some z =>
    cases z with
    | none => rw [q] at e; cases e
    | some d =>
      rw [q] at e
      simp at e
      obtain ⟨e1, e2⟩ := e
      subst e1; subst e2
      obtain ⟨v, hv, r⟩ := rv.get i d q
      exact ⟨v, hv, (kk θ G H (List.prefix_refl _) (Same.refl _) rs).2 d v rfl r⟩
theorem snd_c {K : PySem.W.Frag} {θ : List Th} {G : Hp} {v : V} {d : D} (h : ∀ G, Rp K G v d) : Snd K W (RV K) θ G (tC v) (ret d) := Snd.ret fun _ G _ _ => .dat (h G)
theorem de_int {i : Int} {j : Nat} : DE X W (.Constant (.int i) j pos) (ret (.int i)) := ⟨_, pe_int, fun _ _ => snd_c fun _ => .int i⟩
theorem de_bl {b : Bool} {j : Nat} : DE X W (.Constant (.bool b) j pos) (ret (.bl b)) := ⟨_, pe_bl, fun _ _ => snd_c fun _ => .bl b⟩
theorem de_str {z : Str} {j : Nat} : DE X W (.Constant (.str z) j pos) (ret (.str z)) := ⟨_, pe_str, fun _ _ => snd_c fun _ => .str z⟩
/-- by two values -/
def SndO (K : PySem.W.Frag) (W : WN) (r : R2) (o : D → D → Ev D) : Prop := ∀ θ G x y d e, Rv K θ G x d → Rv K θ G y e → Snd K W (RV K) θ G (fun _ H Q => r x y H Q) (o d e)
theorem snd_op {K : PySem.W.Frag} {r : R2} {o : D → D → Ev D} {ta tb : TE} {f g : Ev D} (h : SndO K W r o) {θ : List Th} {G : Hp} (ha : ∀ θ G, Snd K W (RV K) θ G ta f) (hb : ∀ θ G, Snd K W (RV K) θ G tb g) :
    Snd K W (RV K) θ G (tOp r ta tb) (bnd f fun d => bnd g fun e => o d e) :=
  (ha θ G).bind (k := fun x σ H1 Q => tb σ H1 fun y H2 => r x y H2 Q) fun θ1 G1 v d _ _ hv => (hb θ1 G1).bind (k := fun y σ H2 Q => r v y H2 Q) fun θ2 G2 u e p s hu => h θ2 G2 v u d e (hv.mono p s) hu
theorem de_op {op : Operator} {r : R2} {o : D → D → Ev D} {a b : Expr} {f g : Ev D} (ho : OpR X (binaryOp op) r) (so : SndO X.K W r o) (ha : DE X W a f) (hb : DE X W b g) : DE X W (.BinOp a op b pos) (bnd f fun d => bnd g fun e => o d e) := by
  obtain ⟨ta, pa, sa⟩ := ha
  obtain ⟨tb, pb, sb⟩ := hb
  exact ⟨_, pe_op ho pa pb, fun θ G => snd_op so sa sb⟩
theorem de_cmp {op : CmpOp} {r : R2} {o : D → D → Ev D} {a b : Expr} {f g : Ev D} (ho : OpR X (compareOp op) r) (so : SndO X.K W r o) (ha : DE X W a f) (hb : DE X W b g) (hm : behindInMarks op b = false) : DE X W (.Compare a [op] [b] pos) (bnd f fun d => bnd g fun e => o d e) := by
  obtain ⟨ta, pa, sa⟩ := ha
  obtain ⟨tb, pb, sb⟩ := hb
  exact ⟨_, pe_cmpR ho pa pb hm, fun θ G => snd_op so sa sb⟩
/-- a bool as a test -/
def asB (d : D) : Ev Bool := match d with
  | .bl b => ret b
  | _ => stk
theorem snd_tB {K : PySem.W.Frag} {t : TE} {f : Ev D} (h : ∀ θ G, Snd K W (RV K) θ G t f) (θ : List Th) (G : Hp) : Snd K W RB θ G (tB t) (bnd f asB) := by
  refine (h θ G).bind (k := fun x _ H1 Q => ∃ c, x = .bl c ∧ Q c H1) fun θ1 G1 v d _ _ hv => ?_
  cases d with
  | bl b =>
    cases hv with
    | dat hv =>
      cases hv
      intro ρ M r M' θ G σ H Q p s e rs rv kk
      exact ⟨b, rfl, Snd.ret (K := K) (W := W) (R := RB) (θ0 := θ1) (G0 := G1) (v := b) (d := b) (fun _ _ _ _ => rfl) ρ M r M' θ G σ H Q p s e rs rv kk⟩
  | _ => exact Snd.stk
theorem dt_val {e : Expr} {f : Ev D} (h : DE X W e f) (he : ∀ whole, isTrue e X.env whole = (do let v ← whole; standAt e.pos; holding [v] (truthy v)) := by intro _; rfl) : DT X W e (bnd f asB) := by
  obtain ⟨t, p, s⟩ := h
  exact ⟨_, pt_val p he, snd_tB s⟩
theorem dt_cmp {op : CmpOp} {r : R2} {o : D → D → Ev D} {a b : Expr} {f g : Ev D} (ho : OpR X (compareOp op) r) (so : SndO X.K W r o) (ha : DE X W a f) (hb : DE X W b g) (hm : behindInMarks op b = false) : DT X W (.Compare a [op] [b] pos) (bnd (bnd f fun d => bnd g fun e => o d e) asB) := by
  obtain ⟨ta, pa, sa⟩ := ha
  obtain ⟨tb, pb, sb⟩ := hb
  exact ⟨_, pt_cmpR ho pa pb hm, snd_tB fun θ G => snd_op so sa sb⟩
/-! tests -/
def dAnd (f g : Ev Bool) : Ev Bool := bnd f fun c => if c = true then g else ret false
def dOr (f g : Ev Bool) : Ev Bool := bnd f fun c => if c = true then ret true else g
def dNot (f : Ev Bool) : Ev Bool := bnd f fun c => ret (!c)
theorem snd_b {K : PySem.W.Frag} {θ : List Th} {G : Hp} {b : Bool} : Snd K W RB θ G (fun _ H Q => Q b H) (ret b) := Snd.ret fun _ _ _ _ => rfl
theorem dw_and1 {a : Expr} {f : Ev Bool} (h : DT X W a f) : DW X W (.BoolOp .And [a] pos) f := by obtain ⟨t, p, s⟩ := h; exact ⟨_, pw_and1 p, s⟩
theorem dw_or1 {a : Expr} {f : Ev Bool} (h : DT X W a f) : DW X W (.BoolOp .Or [a] pos) f := by obtain ⟨t, p, s⟩ := h; exact ⟨_, pw_or1 p, s⟩
theorem dw_and {a b : Expr} {rest : List Expr} {f g : Ev Bool} (h : DT X W a f) (h2 : DW X W (.BoolOp .And (b :: rest) pos) g) : DW X W (.BoolOp .And (a :: b :: rest) pos) (dAnd f g) := by
  obtain ⟨t, p, s⟩ := h
  obtain ⟨u, p2, s2⟩ := h2
  refine ⟨_, pw_and p p2, fun θ G => (s θ G).bind (k := fun c σ H1 Q => if c = true then u σ H1 Q else Q false H1) fun θ1 G1 v d _ _ hv => ?_⟩
  cases hv
  cases v with
  | true => simpa using s2 θ1 G1
  | false => simpa using snd_b (K := X.K) (W := W) (θ := θ1) (G := G1) (b := false)
theorem dw_or {a b : Expr} {rest : List Expr} {f g : Ev Bool} (h : DT X W a f) (h2 : DW X W (.BoolOp .Or (b :: rest) pos) g) : DW X W (.BoolOp .Or (a :: b :: rest) pos) (dOr f g) := by
  obtain ⟨t, p, s⟩ := h
  obtain ⟨u, p2, s2⟩ := h2
  refine ⟨_, pw_or p p2, fun θ G => (s θ G).bind (k := fun c σ H1 Q => if c = true then Q true H1 else u σ H1 Q) fun θ1 G1 v d _ _ hv => ?_⟩
  cases hv
  cases v with
  | false => simpa using s2 θ1 G1
  | true => simpa using snd_b (K := X.K) (W := W) (θ := θ1) (G := G1) (b := true)
theorem DW.dt {e : Expr} {f : Ev Bool} (h : DW X W e f) : DT X W e f := by obtain ⟨t, p, s⟩ := h; exact ⟨t, p.pt, s⟩
theorem dt_not {a : Expr} {f : Ev Bool} (h : DT X W a f) : DT X W (.UnaryOp .Not a pos) (dNot f) := by
  obtain ⟨t, p, s⟩ := h
  refine ⟨_, pt_not p, fun θ G => (s θ G).bind (k := fun c σ H1 Q => Q (!c) H1) fun θ1 G1 v d _ _ hv => ?_⟩
  cases hv
  exact snd_b
/-! as values -/
def dAndV (f g : Ev D) : Ev D := bnd f fun d => bnd (asB d) fun c => if c = true then g else ret (.bl false)
def dOrV (f g : Ev D) : Ev D := bnd f fun d => bnd (asB d) fun c => if c = true then ret (.bl true) else g
def dNotV (f : Ev D) : Ev D := bnd f fun d => bnd (asB d) fun c => ret (.bl (!c))
theorem rv_bl {K : PySem.W.Frag} {θ : List Th} {G : Hp} {b : Bool} : Rv K θ G (.bl b) (.bl b) := .dat (.bl b)
theorem snd_asB {K : PySem.W.Frag} {A α : Type} {R : List Th → Hp → A → α → Prop} {θ : List Th} {G : Hp} {v : V} {d : D} {k : Bool → L2.St → Hp → (A → Hp → Prop) → Prop} {g : Bool → Ev α} (hv : Rv K θ G v d) (h : ∀ c, Snd K W R θ G (k c) (g c)) :
    Snd K W R θ G (fun σ H1 Q => ∃ c, v = .bl c ∧ k c σ H1 Q) (bnd (asB d) g) := by
  cases d with
  | bl b =>
    cases hv with
    | dat hv =>
      cases hv
      intro ρ M r M' θ G σ H Q p s e rs rv kk
      exact ⟨b, rfl, h b ρ M r M' θ G σ H Q p s e rs rv kk⟩
  | _ => exact Snd.stk
theorem de_one {op : BoolOp} {a : Expr} {f : Ev D} (h : DE X W a f) : DE X W (.BoolOp op [a] pos) f := by obtain ⟨t, p, s⟩ := h; exact ⟨_, pe_one p, s⟩
theorem de_and {a b : Expr} {rest : List Expr} {f g : Ev D} (h : DE X W a f) (h2 : DE X W (.BoolOp .And (b :: rest) pos) g) : DE X W (.BoolOp .And (a :: b :: rest) pos) (dAndV f g) := by
  obtain ⟨t, p, s⟩ := h
  obtain ⟨u, p2, s2⟩ := h2
  refine ⟨_, pe_and p p2, fun θ G => (s θ G).bind (k := fun x σ H1 Q => ∃ c, x = .bl c ∧ if c = true then u σ H1 Q else Q (.bl false) H1) fun θ1 G1 v d _ _ hv => snd_asB hv fun c => ?_⟩
  cases c with
  | true => simpa using s2 θ1 G1
  | false => simpa using Snd.ret (K := X.K) (W := W) (R := RV X.K) (θ0 := θ1) (G0 := G1) (v := .bl false) (d := .bl false) fun _ _ _ _ => rv_bl
theorem de_not {a : Expr} {f : Ev D} (h : DE X W a f) : DE X W (.UnaryOp .Not a pos) (dNotV f) := by
  obtain ⟨t, p, s⟩ := h
  refine ⟨_, pe_not p, fun θ G => (s θ G).bind (R2 := RV X.K) (k := fun (x : V) (σ : L2.St) (H1 : Hp) (Q : V → Hp → Prop) => ∃ c, x = .bl c ∧ Q (.bl (!c)) H1) fun θ1 G1 v d _ _ hv => snd_asB (k := fun (c : Bool) (_ : L2.St) (H1 : Hp) (Q : V → Hp → Prop) => Q (V.bl (!c)) H1) hv fun c => Snd.ret fun _ _ _ _ => rv_bl⟩
def dIf (c : Ev Bool) (f g : Ev D) : Ev D := bnd c fun b => if b = true then f else g
theorem de_if {c a b : Expr} {h : Ev Bool} {f g : Ev D} (hc : DT X W c h) (ha : DE X W a f) (hb : DE X W b g) : DE X W (.IfExp c a b pos) (dIf h f g) := by
  obtain ⟨t, p, s⟩ := hc
  obtain ⟨u, p2, s2⟩ := ha
  obtain ⟨z, p3, s3⟩ := hb
  refine ⟨_, pe_ifExp p p2 p3, fun θ G => (s θ G).bind (k := fun c σ H1 Q => if c = true then u σ H1 Q else z σ H1 Q) fun θ1 G1 v d _ _ hv => ?_⟩
  cases hv
  cases v with
  | true => simpa using s2 θ1 G1
  | false => simpa using s3 θ1 G1
/-! arguments -/
def dNil : Ev (List D) := ret []
def dCons (f : Ev D) (g : Ev (List D)) : Ev (List D) := bnd f fun d => bnd g fun ds => ret (d :: ds)
theorem da_nil : DA X W [] dNil := ⟨_, pa_nil, fun _ _ => Snd.ret fun _ _ _ _ => RvL.nil⟩
theorem da_cons {e : Expr} {es : List Expr} {f : Ev D} {g : Ev (List D)} (ha : DE X W e f) (hr : DA X W es g) (hs : starEach (e :: es) X.env = (false, eval e X.env) :: starEach es X.env := by rfl) : DA X W (e :: es) (dCons f g) := by
  obtain ⟨t, p, s⟩ := ha
  obtain ⟨u, p2, s2⟩ := hr
  exact ⟨_, pa_cons p p2 hs, fun θ G => (s θ G).bind (k := fun x σ H1 Q => u σ H1 fun xs H2 => Q (x :: xs) H2) fun θ1 G1 v d _ _ hv => (s2 θ1 G1).bind (k := fun xs σ H2 Q => Q (v :: xs) H2) fun θ2 G2 vs ds p s hvs => Snd.ret fun θ3 G3 p3 s3 => RvL.cons (hv.mono (p.trans p3) (s.trans s3)) (hvs.mono p3 s3)⟩
/-- by a list of values -/
def SndC (K : PySem.W.Frag) (W : WN) (r : List V → Hp → VK → Prop) (o : List D → Ev D) : Prop := ∀ θ G xs ds, RvL K θ G xs ds → Snd K W (RV K) θ G (fun _ H Q => r xs H Q) (o ds)
theorem snd_args {K : PySem.W.Frag} {r : List V → Hp → VK → Prop} {o : List D → Ev D} (h : SndC K W r o) {t : TA} {f : Ev (List D)} (s : ∀ θ G, Snd K W (RL K) θ G t f) (θ : List Th) (G : Hp) : Snd K W (RV K) θ G (fun σ H Q => t σ H fun vs H1 => r vs H1 Q) (bnd f o) :=
  (s θ G).bind (k := fun vs _ H1 Q => r vs H1 Q) fun θ1 G1 v d _ _ hv => h θ1 G1 v d hv
/-- a tuple, a list that stays as it is -/
def oTup (ds : List D) : Ev D := if ds.all D.np = true ∧ ds.length ≤ 16777216 then ret (.tup ds) else stk
def oLst (ds : List D) : Ev D := if ds.all D.np = true ∧ ds.length ≤ 16777216 then ret (.lst ds) else stk
theorem rp_tup {K : PySem.W.Frag} {G : Hp} {p : Addr} {xs : List V} {ds : List D} (h : G p = some (.tup xs)) (r : RpL K G xs ds) : Rp K G (.ref p) (.tup ds) := .tup (.inl (.inl h)) r.len r.get
theorem rp_lst {K : PySem.W.Frag} {G : Hp} {p : Addr} {xs : List V} {ds : List D} (h : G p = some (.lst xs)) (r : RpL K G xs ds) : Rp K G (.ref p) (.lst ds) := .lst h r.len r.get
theorem snd_tup {K : PySem.W.Frag} : SndC K W (fun xs H1 Q => xs.length ≤ sizeLine ∧ ∀ p, H1 p = none → Q (.ref p) (upd H1 p (.tup xs))) oTup := by
  intro θ0 G0 xs ds hx
  unfold oTup
  split
  · rename_i hc
    have hp := hx.rp hc.1
    intro ρ M r M' θ G σ H Q p s e rs rv kk
    unfold ret at e
    simp at e
    obtain ⟨e1, e2⟩ := e
    subst e1; subst e2
    refine ⟨by rw [hp.len, sizeLine_eq]; exact hc.2, fun a ha => ?_⟩
    have g := rs.fresh ha
    exact (kk θ (upd G a (.tup xs)) _ (List.prefix_refl _) (same_upd g) (rs.laid ha _)).2 _ _ rfl (.dat (rp_tup upd_same (hp.mono (s.trans (same_upd g)))))
  · exact Snd.stk
theorem snd_lst {K : PySem.W.Frag} : SndC K W (fun xs H1 Q => xs.length ≤ sizeLine ∧ ∀ p, H1 p = none → Q (.ref p) (upd H1 p (.lst xs))) oLst := by
  intro θ0 G0 xs ds hx
  unfold oLst
  split
  · rename_i hc
    have hp := hx.rp hc.1
    intro ρ M r M' θ G σ H Q p s e rs rv kk
    unfold ret at e
    simp at e
    obtain ⟨e1, e2⟩ := e
    subst e1; subst e2
    refine ⟨by rw [hp.len, sizeLine_eq]; exact hc.2, fun a ha => ?_⟩
    have g := rs.fresh ha
    exact (kk θ (upd G a (.lst xs)) _ (List.prefix_refl _) (same_upd g) (rs.laid ha _)).2 _ _ rfl (.dat (rp_lst upd_same (hp.mono (s.trans (same_upd g)))))
  · exact Snd.stk
/-- a list that will change -/
def oNew (ds : List D) : Ev D := fun _ M => if ds.all D.np = true ∧ ds.length ≤ 16777216 then some (.ok (.ptr M.length), M ++ [some ds]) else none
theorem snd_lstM {K : PySem.W.Frag} : SndC K W (fun xs H1 Q => xs.length ≤ sizeLine ∧ ∀ p, H1 p = none → Q (.ref p) (upd H1 p (.lst xs))) oNew := by
  intro θ0 G0 xs ds hx ρ M r M' θ G σ H Q p s e rs rv kk
  unfold oNew at e
  split at e
  · rename_i hc
    have hp := hx.rp hc.1
    simp at e
    obtain ⟨e1, e2⟩ := e
    subst e1; subst e2
    refine ⟨by rw [hp.len, sizeLine_eq]; exact hc.2, fun a ha => ?_⟩
    refine (kk (θ ++ [(a, .lst)]) G _ (List.prefix_append _ _) (Same.refl _) (rs.laidM ha (hp.mono s))).2 _ _ rfl (.ptr ?_)
    rw [← rs.len, List.getElem?_append_right (Nat.le_refl _), Nat.sub_self]
    rfl
  · cases e
theorem de_tup {es : List Expr} {f : Ev (List D)} {x1 : Nat} (h : DA X W es f) : DE X W (.Tuple es x1 pos) (bnd f oTup) := by
  obtain ⟨t, p, s⟩ := h
  exact ⟨_, pe_tup p, snd_args snd_tup s⟩
theorem de_lst {es : List Expr} {f : Ev (List D)} (h : DA X W es f) : DE X W (.List es pos) (bnd f oLst) := by
  obtain ⟨t, p, s⟩ := h
  exact ⟨_, pe_lst p, snd_args snd_lst s⟩
theorem de_lstM {es : List Expr} {f : Ev (List D)} (h : DA X W es f) : DE X W (.List es pos) (bnd f oNew) := by
  obtain ⟨t, p, s⟩ := h
  exact ⟨_, pe_lst p, snd_args snd_lstM s⟩
end
end Bw
namespace Bw
open PySem PySem.Spec PyProof.Rows L2
section
variable {X : Cx} {W : WN} {pos : Pos}
/-! ### numbers -/
def oI (C : Int → Int → Bool) (g : Int → Int → D) (d e : D) : Ev D := match d, e with
  | .int i, .int j => if C i j = true then ret (g i j) else stk
  | _, _ => stk
theorem snd_rI {K : PySem.W.Frag} {C : Int → Int → Prop} {C' : Int → Int → Bool} {g : Int → Int → V} {g' : Int → Int → D} (hC : ∀ i j, C' i j = true → C i j) (hg : ∀ i j G, Rp K G (g i j) (g' i j)) : SndO K W (rI C g) (oI C' g') := by
  intro θ G x y d e hx hy
  unfold oI
  split
  · rename_i i j
    split
    · rename_i c
      cases hx with
      | dat hx =>
        cases hy with
        | dat hy =>
          cases hx; cases hy
          intro ρ M r M' θ1 G1 σ H Q p s e rs rv kk
          exact ⟨i, j, rfl, rfl, hC i j c, Snd.ret (K := K) (W := W) (R := RV K) (θ0 := θ) (G0 := G) (v := g i j) (d := g' i j) (fun _ G _ _ => .dat (hg i j G)) ρ M r M' θ1 G1 σ H Q p s e rs rv kk⟩
    · exact Snd.stk
  · exact Snd.stk
theorem snd_rI0 {K : PySem.W.Frag} {g : Int → Int → V} {g' : Int → Int → D} (hg : ∀ i j G, Rp K G (g i j) (g' i j)) : SndO K W (rI0 g) (oI (fun _ _ => true) g') := by
  intro θ G x y d e hx hy
  have h := snd_rI (K := K) (W := W) (C := fun _ _ => True) (C' := fun _ _ => true) (g := g) (g' := g') (fun _ _ _ => trivial) hg θ G x y d e hx hy
  intro ρ M r M' θ1 G1 σ H Q p s e rs rv kk
  obtain ⟨i, j, a, b, _, q⟩ := h ρ M r M' θ1 G1 σ H Q p s e rs rv kk
  exact ⟨i, j, a, b, q⟩
def oAdd (d e : D) : Ev D := match d, e with
  | .int i, .int j => ret (.int (i + j))
  | .lst a, .lst b => if a.length + b.length ≤ 16777216 then ret (.lst (a ++ b)) else stk
  | .tup a, .tup b => if a.length + b.length ≤ 16777216 then ret (.tup (a ++ b)) else stk
  | _, _ => stk
def rAdd2 (K : PySem.W.Frag) : R2 := fun x y H Q => rI0 (fun i j => .int (i + j)) x y H Q ∨ rCat x y H Q ∨ rCatA K x y H Q
theorem op_add2 : OpR X (binaryOp .Add) (rAdd2 X.K) := by
  intro pins s σ H x y v u Q I rx ry h
  rcases h with h | h | h
  · exact op_add pins s σ H x y v u Q I rx ry h
  · exact op_cat pins s σ H x y v u Q I rx ry h
  · exact op_catA pins s σ H x y v u Q I rx ry h
theorem RpL.nil_iff {K : PySem.W.Frag} {G : Hp} {xs : List V} {ds : List D} (r : RpL K G xs ds) : xs = [] ↔ ds = [] := by
  constructor
  · intro e; subst e; exact List.eq_nil_of_length_eq_zero r.len.symm
  · intro e; subst e; exact r.nil_of
theorem snd_add {K : PySem.W.Frag} : SndO K W (rAdd2 K) oAdd := by
  intro θ G x y d e hx hy
  unfold oAdd
  split
  · rename_i i j
    intro ρ M r M' θ1 G1 σ H Q p s e rs rv kk
    exact .inl (snd_rI0 (K := K) (W := W) (g := fun i j => .int (i + j)) (g' := fun i j => .int (i + j)) (fun i j _ => .int _) θ G x y (.int i) (.int j) hx hy ρ M r M' θ1 G1 σ H Q p s e rs rv kk)
  · rename_i a b
    split
    · rename_i hl
      cases hx with
      | dat hx =>
        cases hy with
        | dat hy =>
          cases hx with
          | lst h1 l1 g1 =>
            cases hy with
            | lst h2 l2 g2 =>
              rename_i pa xs pb ys
              intro ρ M r M' θ1 G1 σ H Q p s e rs rv kk
              unfold ret at e
              cases e
              refine .inr (.inl ⟨pa, pb, xs, ys, rfl, rfl, rs.sub _ _ (s _ _ h1), rs.sub _ _ (s _ _ h2), by rw [l1, l2, sizeLine_eq]; exact hl, fun q hq => ?_⟩)
              have g := rs.fresh hq
              have r12 : RpL K G (xs ++ ys) (a ++ b) := RpL.append ⟨l1, g1⟩ ⟨l2, g2⟩
              exact (kk θ1 (upd G1 q (.lst (xs ++ ys))) _ (List.prefix_refl _) (same_upd g) (rs.laid hq _)).2 _ _ rfl (.dat (rp_lst upd_same (r12.mono (s.trans (same_upd g)))))
    · exact Snd.stk
  · rename_i a b
    split
    · rename_i hl
      cases hx with
      | dat hx =>
        cases hy with
        | dat hy =>
          cases hx with
          | tup h1 l1 g1 =>
            cases hy with
            | tup h2 l2 g2 =>
              rename_i pa xs pb ys
              intro ρ M r M' θ1 G1 σ H Q p s e rs rv kk
              unfold ret at e
              cases e
              have r1 : RpL K G xs a := ⟨l1, g1⟩
              have r2 : RpL K G ys b := ⟨l2, g2⟩
              refine .inr (.inr ⟨pa, pb, xs, ys, rfl, rfl, seqT rs.sub (seqT s h1), seqT rs.sub (seqT s h2), by rw [l1, l2, sizeLine_eq]; exact hl, fun z => ?_, fun _ z => ?_, fun _ _ q hq => ?_⟩)
              · rw [r1.nil_iff.mp z, List.nil_append] at kk
                exact (kk θ1 G1 H (List.prefix_refl _) (Same.refl _) rs).2 _ _ rfl (.dat ((Rp.tup h2 l2 g2).mono s))
              · rw [r2.nil_iff.mp z, List.append_nil] at kk
                exact (kk θ1 G1 H (List.prefix_refl _) (Same.refl _) rs).2 _ _ rfl (.dat ((Rp.tup h1 l1 g1).mono s))
              · have g := rs.fresh hq
                exact (kk θ1 (upd G1 q (.tup (xs ++ ys))) _ (List.prefix_refl _) (same_upd g) (rs.laid hq _)).2 _ _ rfl (.dat (rp_tup upd_same ((r1.append r2).mono (s.trans (same_upd g)))))
    · exact Snd.stk
  · exact Snd.stk
def oSub : D → D → Ev D := oI (fun _ _ => true) fun i j => .int (i - j)
def oMul : D → D → Ev D := oI (fun i j => decide (i.natAbs.log2 + j.natAbs.log2 < 1000000)) fun i j => .int (i * j)
def oDiv : D → D → Ev D := oI (fun i j => decide (j ≠ 0 ∧ j.natAbs.log2 < 9000)) fun i j => .int (i.fdiv j)
def oMod : D → D → Ev D := oI (fun i j => decide (j ≠ 0)) fun i j => .int (i.fmod j)
def oPow : D → D → Ev D := oI (fun i j => decide (0 ≤ j ∧ j ≤ 1000000 ∧ i.natAbs < 2 ^ 64)) fun i j => .int (i ^ j.toNat)
def CDivZ (_ j : Int) : Prop := j ≠ 0 ∧ j.natAbs.log2 < 9000
theorem op_fdivZ : OpR X (binaryOp .FloorDiv) (rI CDivZ fun i j => .int (i.fdiv j)) := opI fun i j _ _ _ _ _ hc q => floordiv_int hc.1 q (.inl (PyProof.noPylong_of_log2 hc.2))
variable {a b : Expr} {f g : Ev D}
theorem de_add (ha : DE X W a f) (hb : DE X W b g) : DE X W (.BinOp a .Add b pos) (bnd f fun d => bnd g fun e => oAdd d e) := de_op op_add2 snd_add ha hb
theorem de_sub (ha : DE X W a f) (hb : DE X W b g) : DE X W (.BinOp a .Sub b pos) (bnd f fun d => bnd g fun e => oSub d e) := de_op op_sub (snd_rI0 fun i j _ => .int _) ha hb
theorem de_mul (ha : DE X W a f) (hb : DE X W b g) : DE X W (.BinOp a .Mult b pos) (bnd f fun d => bnd g fun e => oMul d e) := de_op op_mulW (snd_rI (fun i j h => by unfold CMulW; exact of_decide_eq_true h) fun i j _ => .int _) ha hb
theorem de_div (ha : DE X W a f) (hb : DE X W b g) : DE X W (.BinOp a .FloorDiv b pos) (bnd f fun d => bnd g fun e => oDiv d e) := de_op op_fdivZ (snd_rI (fun i j h => by unfold CDivZ; exact of_decide_eq_true h) fun i j _ => .int _) ha hb
theorem de_mod (ha : DE X W a f) (hb : DE X W b g) : DE X W (.BinOp a .Mod b pos) (bnd f fun d => bnd g fun e => oMod d e) := de_op op_modN (snd_rI (fun i j h => of_decide_eq_true h) fun i j _ => .int _) ha hb
theorem de_pow (ha : DE X W a f) (hb : DE X W b g) : DE X W (.BinOp a .Pow b pos) (bnd f fun d => bnd g fun e => oPow d e) := de_op op_pow (snd_rI (fun i j h => by unfold CPow; exact of_decide_eq_true h) fun i j _ => .int _) ha hb
def oLt : D → D → Ev D := oI (fun _ _ => true) fun i j => .bl (decide (i < j))
def oLe : D → D → Ev D := oI (fun _ _ => true) fun i j => .bl (decide (i ≤ j))
def oGt : D → D → Ev D := oI (fun _ _ => true) fun i j => .bl (decide (j < i))
def oGe : D → D → Ev D := oI (fun _ _ => true) fun i j => .bl (decide (j ≤ i))
theorem de_lt (ha : DE X W a f) (hb : DE X W b g) : DE X W (.Compare a [.Lt] [b] pos) (bnd f fun d => bnd g fun e => oLt d e) := de_cmp op_lt (snd_rI0 fun i j _ => .bl _) ha hb (nomark _)
theorem dt_lt (ha : DE X W a f) (hb : DE X W b g) : DT X W (.Compare a [.Lt] [b] pos) (bnd (bnd f fun d => bnd g fun e => oLt d e) asB) := dt_cmp op_lt (snd_rI0 fun i j _ => .bl _) ha hb (nomark _)
theorem dt_le (ha : DE X W a f) (hb : DE X W b g) : DT X W (.Compare a [.LtE] [b] pos) (bnd (bnd f fun d => bnd g fun e => oLe d e) asB) := dt_cmp op_le (snd_rI0 fun i j _ => .bl _) ha hb (nomark _)
theorem dt_gt (ha : DE X W a f) (hb : DE X W b g) : DT X W (.Compare a [.Gt] [b] pos) (bnd (bnd f fun d => bnd g fun e => oGt d e) asB) := dt_cmp op_gt (snd_rI0 fun i j _ => .bl _) ha hb (nomark _)
/-! ### equality of data -/
mutual
def toPy : D → PyData
  | .non => .none
  | .bl b => .bool b
  | .int i => .int i
  | .str z => .str z
  | .tup ds => .tuple (toPys ds)
  | .lst ds => .list (toPys ds)
  | .ptr _ => .none
  | .exv _ => .none
  | .dpt _ => .none
  | .npt _ => .none
  | .emp => .none
  | .scr ds => .list (toPys ds)
def toPys : List D → List PyData
  | [] => []
  | d :: ds => toPy d :: toPys ds
end
theorem dpAll_of {K : PySem.W.Frag} {H : Hp} : ∀ {xs : List V} {ds : List D}, xs.length = ds.length → (∀ (i : Nat) (v : V) (d : D), xs[i]? = some v → ds[i]? = some d → Dp K H v (toPy d)) → DpAll K H xs (toPys ds)
  | [], [], _, _ => .nil
  | v :: xs, d :: ds, l, h => .cons (h 0 v d rfl rfl) (dpAll_of (by simpa using l) fun i v d a b => h (i + 1) v d (by simpa using a) (by simpa using b))
  | [], _ :: _, l, _ => absurd l (by simp)
  | _ :: _, [], l, _ => absurd l (by simp)
mutual
/-- data that may be compared -/
def D.pl : D → Bool
  | .ptr _ => false
  | .dpt _ => false
  | .npt _ => false
  | .exv _ => false
  | .emp => false
  | .tup ds => plL ds
  | .lst ds => plL ds
  | .scr ds => plL ds
  | _ => true
def plL : List D → Bool
  | [] => true
  | d :: ds => D.pl d && plL ds
end
theorem plL_get : ∀ (ds : List D) (i : Nat) (d : D), plL ds = true → ds[i]? = some d → d.pl = true
  | [], i, d, _, h => by simp at h
  | e :: ds, 0, d, h, h2 => by
    simp at h2; subst h2
    unfold plL at h
    exact (Bool.and_eq_true_iff.mp h).1
  | e :: ds, i + 1, d, h, h2 => by
    unfold plL at h
    exact plL_get ds i d (Bool.and_eq_true_iff.mp h).2 (by simpa using h2)
theorem pl_np {d : D} (h : d.pl = true) : d.np = true := by
  cases d <;> first | rfl | (unfold D.pl at h; cases h)
theorem Rp.dp {K : PySem.W.Frag} {G : Hp} {v : V} {d : D} (h : Rp K G v d) (pl : d.pl = true) : Dp K G v (toPy d) := by
  induction h with
  | non => exact .non
  | bl b => exact .bl b
  | int i => exact .int i
  | str z => exact .str z
  | emp h => unfold D.pl at pl; cases pl
  | tup h l e ih => exact .tup h (dpAll_of l fun i v d a b => ih i v d a b (plL_get _ i d (by unfold D.pl at pl; exact pl) b))
  | lst h l e ih => exact .lst (.inl (.inl h)) (dpAll_of l fun i v d a b => ih i v d a b (plL_get _ i d (by unfold D.pl at pl; exact pl) b))
  | scr h l e ih => exact .lst h (dpAll_of l fun i v d a b => ih i v d a b (plL_get _ i d (by unfold D.pl at pl; exact pl) b))
def oEq (d e : D) : Ev D := if d.pl = true ∧ e.pl = true ∧ SeqAt.shaped (toPy d) = true ∧ SeqAt.shaped (toPy e) = true then ret (.bl (PyData.eqv (toPy d) (toPy e))) else stk
def oNe (d e : D) : Ev D := if d.pl = true ∧ e.pl = true ∧ SeqAt.shaped (toPy d) = true ∧ SeqAt.shaped (toPy e) = true then ret (.bl (!PyData.eqv (toPy d) (toPy e))) else stk
theorem snd_eqD {K : PySem.W.Frag} : SndO K W (rEqD K) oEq := by
  intro θ G x y d e hx hy
  unfold oEq
  split
  · rename_i c
    intro ρ M r M' θ1 G1 σ H Q p s e1 rs rv kk
    exact ⟨_, _, (((hx.rp (pl_np c.1)).mono s).mono rs.sub).dp c.1, (((hy.rp (pl_np c.2.1)).mono s).mono rs.sub).dp c.2.1, c.2.2.1, c.2.2.2, Snd.ret (K := K) (W := W) (R := RV K) (θ0 := θ) (G0 := G) (fun _ _ _ _ => rv_bl) ρ M r M' θ1 G1 σ H Q p s e1 rs rv kk⟩
  · exact Snd.stk
theorem snd_neD {K : PySem.W.Frag} : SndO K W (rNeD K) oNe := by
  intro θ G x y d e hx hy
  unfold oNe
  split
  · rename_i c
    intro ρ M r M' θ1 G1 σ H Q p s e1 rs rv kk
    exact ⟨_, _, (((hx.rp (pl_np c.1)).mono s).mono rs.sub).dp c.1, (((hy.rp (pl_np c.2.1)).mono s).mono rs.sub).dp c.2.1, c.2.2.1, c.2.2.2, Snd.ret (K := K) (W := W) (R := RV K) (θ0 := θ) (G0 := G) (fun _ _ _ _ => rv_bl) ρ M r M' θ1 G1 σ H Q p s e1 rs rv kk⟩
  · exact Snd.stk
theorem de_eq (hu : X.A.units + 64 < cLine) (ha : DE X W a f) (hb : DE X W b g) : DE X W (.Compare a [.Eq] [b] pos) (bnd f fun d => bnd g fun e => oEq d e) := de_cmp (op_eqD hu) snd_eqD ha hb (nomark _)
theorem dt_eq (hu : X.A.units + 64 < cLine) (ha : DE X W a f) (hb : DE X W b g) : DT X W (.Compare a [.Eq] [b] pos) (bnd (bnd f fun d => bnd g fun e => oEq d e) asB) := dt_cmp (op_eqD hu) snd_eqD ha hb (nomark _)
theorem dt_ne (hu : X.A.units + 64 < cLine) (ha : DE X W a f) (hb : DE X W b g) : DT X W (.Compare a [.NotEq] [b] pos) (bnd (bnd f fun d => bnd g fun e => oNe d e) asB) := dt_cmp (op_neD hu) snd_neD ha hb (nomark _)
/-! ### -x, abs, max, min, int, len -/
def oNeg (d : D) : Ev D := match d with
  | .int i => ret (.int (-i))
  | _ => stk
theorem de_neg (ha : DE X W a f) : DE X W (.UnaryOp .USub a pos) (bnd f oNeg) := by
  obtain ⟨t, p, s⟩ := ha
  refine ⟨_, pe_un un_neg p, fun θ G => (s θ G).bind (R2 := RV X.K) (k := fun (x : V) (_ : L2.St) (H : Hp) (Q : V → Hp → Prop) => rU (fun i => .int (-i)) x H Q) fun θ1 G1 v d _ _ hv => ?_⟩
  unfold oNeg
  split
  · rename_i i
    cases hv with
    | dat hv =>
      cases hv
      intro ρ M r M' θ2 G2 σ H Q p s e rs rv kk
      exact ⟨i, rfl, Snd.ret (K := X.K) (W := W) (R := RV X.K) (θ0 := θ1) (G0 := G1) (d := .int (-i)) (fun _ G _ _ => .dat (.int _)) ρ M r M' θ2 G2 σ H Q p s e rs rv kk⟩
  · exact Snd.stk
theorem de_callB {id : String} {r : List V → Hp → VK → Prop} {o : List D → Ev D} {x : Str} {p : Pos} {e : Expr} {es : List Expr} {h : Ev (List D)} (hc : CallR X (.builtin id) r) (so : SndC X.K W r o) (hm : X.mg x = none) (hv : bootBuiltins x = some (.builtin id)) (ha : DA X W (e :: es) h) (hg : Gl X x := by rfl) (hn : x ≠ "__name__" := by decide) (hdb : (x == ("__debug__" : Str)) = false := by decide)
    (he : starEach (e :: es) X.env = (false, eval e X.env) :: starEach es X.env := by rfl) (hpl : (backTo pos (starEach es X.env)).any (·.1) = false := by rfl) : DE X W (.Call (.Name x p) (e :: es) [] pos) (bnd h o) := by
  obtain ⟨t, q, s⟩ := ha
  exact ⟨_, pe_callB hc hg hm hv q hn hdb he hpl, snd_args so s⟩
theorem de_callTy {T : String} {r : List V → Hp → VK → Prop} {o : List D → Ev D} {x : Str} {p : Pos} {e : Expr} {es : List Expr} {h : Ev (List D)} (hc : CallR X (.type T) r) (so : SndC X.K W r o) (hm : X.mg x = none) (hv : bootBuiltins x = some (.type T)) (ha : DA X W (e :: es) h) (hg : Gl X x := by rfl) (hn : x ≠ "__name__" := by decide) (hdb : (x == ("__debug__" : Str)) = false := by decide)
    (he : starEach (e :: es) X.env = (false, eval e X.env) :: starEach es X.env := by rfl) (hpl : (backTo pos (starEach es X.env)).any (·.1) = false := by rfl) : DE X W (.Call (.Name x p) (e :: es) [] pos) (bnd h o) := by
  obtain ⟨t, q, s⟩ := ha
  exact ⟨_, pe_callTy hc hg hm hv q hn hdb he hpl, snd_args so s⟩
def o1I (h : Int → D) (ds : List D) : Ev D := match ds with
  | [.int i] => ret (h i)
  | _ => stk
def o2I (h : Int → Int → D) (ds : List D) : Ev D := match ds with
  | [.int i, .int j] => ret (h i j)
  | _ => stk
theorem vals1 {K : PySem.W.Frag} {θ : List Th} {G : Hp} {xs : List V} {d : D} (h : RvL K θ G xs [d]) : ∃ v, xs = [v] ∧ Rv K θ G v d := by
  obtain ⟨v, ys, rfl, hv, r⟩ := h.uncons
  rw [r.nil_of]
  exact ⟨v, rfl, hv⟩
theorem vals2 {K : PySem.W.Frag} {θ : List Th} {G : Hp} {xs : List V} {d e : D} (h : RvL K θ G xs [d, e]) : ∃ v u, xs = [v, u] ∧ Rv K θ G v d ∧ Rv K θ G u e := by
  obtain ⟨v, ys, rfl, hv, r⟩ := h.uncons
  obtain ⟨u, rfl, hu⟩ := vals1 r
  exact ⟨v, u, rfl, hv, hu⟩
theorem Rv.int_of {K : PySem.W.Frag} {θ : List Th} {G : Hp} {v : V} {i : Int} (h : Rv K θ G v (.int i)) : v = .int i := by
  cases h with
  | dat h => cases h; rfl
theorem Rv.bl_of {K : PySem.W.Frag} {θ : List Th} {G : Hp} {v : V} {i : Bool} (h : Rv K θ G v (.bl i)) : v = .bl i := by
  cases h with
  | dat h => cases h; rfl
theorem snd_1I {K : PySem.W.Frag} {r : List V → Hp → VK → Prop} {h : Int → D} {h' : Int → V} (hr : ∀ i H Q, Q (h' i) H → r [.int i] H Q) (hh : ∀ i G, Rp K G (h' i) (h i)) : SndC K W r (o1I h) := by
  intro θ0 G0 xs ds hx
  unfold o1I
  split
  · rename_i i
    obtain ⟨v, rfl, hv⟩ := vals1 hx
    rw [hv.int_of]
    intro ρ M r M' θ G σ H Q p s e rs rv kk
    exact hr i H Q (Snd.ret (K := K) (W := W) (R := RV K) (θ0 := θ0) (G0 := G0) (d := h i) (fun _ G _ _ => .dat (hh i G)) ρ M r M' θ G σ H Q p s e rs rv kk)
  · exact Snd.stk
theorem snd_2I {K : PySem.W.Frag} {r : List V → Hp → VK → Prop} {h : Int → Int → D} {h' : Int → Int → V} (hr : ∀ i j H Q, Q (h' i j) H → r [.int i, .int j] H Q) (hh : ∀ i j G, Rp K G (h' i j) (h i j)) : SndC K W r (o2I h) := by
  intro θ0 G0 xs ds hx
  unfold o2I
  split
  · rename_i i j
    obtain ⟨v, u, rfl, hv, hu⟩ := vals2 hx
    rw [hv.int_of, hu.int_of]
    intro ρ M r M' θ G σ H Q p s e rs rv kk
    exact hr i j H Q (Snd.ret (K := K) (W := W) (R := RV K) (θ0 := θ0) (G0 := G0) (d := h i j) (fun _ G _ _ => .dat (hh i j G)) ρ M r M' θ G σ H Q p s e rs rv kk)
  · exact Snd.stk
def oAbs : List D → Ev D := o1I fun i => .int (if i < 0 then -i else i)
def oMax : List D → Ev D := o2I fun i j => .int (if j > i then j else i)
def oMin : List D → Ev D := o2I fun i j => .int (if j < i then j else i)
def oToInt (ds : List D) : Ev D := match ds with
  | [.int i] => ret (.int i)
  | [.bl b] => ret (.int (if b then 1 else 0))
  | _ => stk
variable {p : Pos} {e : Expr} {es : List Expr} {h : Ev (List D)}
theorem de_abs (hm : X.mg "abs" = none) (ha : DA X W (e :: es) h) (hg : Gl X "abs" := by rfl) (he : starEach (e :: es) X.env = (false, eval e X.env) :: starEach es X.env := by rfl) (hpl : (backTo pos (starEach es X.env)).any (·.1) = false := by rfl) : DE X W (.Call (.Name "abs" p) (e :: es) [] pos) (bnd h oAbs) :=
  de_callB call_abs (snd_1I (h' := fun i => .int (if i < 0 then -i else i)) (fun i H Q q => ⟨i, rfl, q⟩) fun i G => .int _) hm (by decide +kernel) ha hg (by decide) (by decide) he hpl
theorem de_max (hc : X.calm = true) (hm : X.mg "max" = none) (ha : DA X W (e :: es) h) (hg : Gl X "max" := by rfl) (he : starEach (e :: es) X.env = (false, eval e X.env) :: starEach es X.env := by rfl) (hpl : (backTo pos (starEach es X.env)).any (·.1) = false := by rfl) : DE X W (.Call (.Name "max" p) (e :: es) [] pos) (bnd h oMax) :=
  de_callB (call_max2 hc) (snd_2I (h' := fun i j => .int (if j > i then j else i)) (fun i j H Q q => ⟨i, j, rfl, q⟩) fun i j G => .int _) hm (by decide +kernel) ha hg (by decide) (by decide) he hpl
theorem de_min (hc : X.calm = true) (hm : X.mg "min" = none) (ha : DA X W (e :: es) h) (hg : Gl X "min" := by rfl) (he : starEach (e :: es) X.env = (false, eval e X.env) :: starEach es X.env := by rfl) (hpl : (backTo pos (starEach es X.env)).any (·.1) = false := by rfl) : DE X W (.Call (.Name "min" p) (e :: es) [] pos) (bnd h oMin) :=
  de_callB (call_min2 hc) (snd_2I (h' := fun i j => .int (if j < i then j else i)) (fun i j H Q q => ⟨i, j, rfl, q⟩) fun i j G => .int _) hm (by decide +kernel) ha hg (by decide) (by decide) he hpl
/-! sequences -/
def seqOf (d : D) (M : Mem) : Option (List D) := match d with
  | .tup ds => some ds
  | .lst ds => some ds
  | .scr ds => some ds
  | .ptr n => match M[n]? with
    | some (some ds) => some ds
    | _ => none
  | _ => none
theorem seq_of {K : PySem.W.Frag} {θ : List Th} {G H : Hp} {M : Mem} {v : V} {d : D} {ds : List D} (rs : Rs K θ G H M) (hv : Rv K θ G v d) (h : seqOf d M = some ds) : ∃ a xs, v = .ref a ∧ (SqL K H a xs ∨ SqT K H a xs) ∧ RpL K G xs ds := by
  unfold seqOf at h
  split at h
  · cases h
    cases hv with
    | dat hv =>
      cases hv with
      | tup q l e => exact ⟨_, _, rfl, .inr (seqT rs.sub q), l, e⟩
  · cases h
    cases hv with
    | dat hv =>
      cases hv with
      | lst q l e => exact ⟨_, _, rfl, .inl (.inl (.inl (rs.sub _ _ q))), l, e⟩
  · cases h
    cases hv with
    | dat hv =>
      cases hv with
      | scr q l e => exact ⟨_, _, rfl, .inl (rs.sub.seq q), l, e⟩
  · rename_i n
    split at h
    · rename_i es hm
      cases h
      cases hv with
      | dat hv => cases hv
      | ptr hn =>
        obtain ⟨g, xs, hx, rl⟩ := rs.mem n _ _ hn hm
        exact ⟨_, xs, rfl, .inl (.inl (.inl hx)), rl⟩
    · cases h
  · cases h
def oLen (ds : List D) : Ev D := fun ρ M => match ds with
  | [d] => match seqOf d M with
    | some es => some (.ok (.int es.length), M)
    | none => none
  | _ => none
theorem snd_len {K : PySem.W.Frag} : SndC K W (fun xs H Q => ∃ p ys, xs = [.ref p] ∧ (SqL K H p ys ∨ SqT K H p ys) ∧ Q (.int ys.length) H) oLen := by
  intro θ0 G0 xs ds hx ρ M r M' θ G σ H Q p s e rs rv kk
  unfold oLen at e
  split at e
  · rename_i d
    split at e
    · rename_i es he
      cases e
      obtain ⟨v, rfl, hv⟩ := vals1 hx
      obtain ⟨a, xs, rfl, q, rl⟩ := seq_of rs (hv.mono p s) he
      refine ⟨a, xs, rfl, q, (kk θ G H (List.prefix_refl _) (Same.refl _) rs).2 _ _ rfl ?_⟩
      rw [rl.len]
      exact .dat (.int _)
    · cases e
  · cases e
theorem de_len (hm : X.mg "len" = none) (ha : DA X W (e :: es) h) (hg : Gl X "len" := by rfl) (he : starEach (e :: es) X.env = (false, eval e X.env) :: starEach es X.env := by rfl) (hpl : (backTo pos (starEach es X.env)).any (·.1) = false := by rfl) : DE X W (.Call (.Name "len" p) (e :: es) [] pos) (bnd h oLen) :=
  de_callB call_len_seq snd_len hm PySem.boot_len ha hg (by decide) (by decide) he hpl
/-! x[i] -/
def oIx (d e : D) : Ev D := fun ρ M => match e, seqOf d M with
  | .int i, some ds => match atI ds i with
    | some x => some (.ok x, M)
    | none => none
  | _, _ => none
theorem atI_of {K : PySem.W.Frag} {G : Hp} {xs : List V} {ds : List D} (r : RpL K G xs ds) {i : Int} {d : D} (h : atI ds i = some d) : ∃ v, atI xs i = some v ∧ Rp K G v d := by
  unfold atI at h ⊢
  rw [r.len]
  cases q : ixN ds.length i with
  | none => rw [q] at h; cases h
  | some j =>
    rw [q] at h
    exact r.at h
def rIxLT (K : PySem.W.Frag) : R2 := fun x y H Q => rIxL K x y H Q ∨ rIxT K x y H Q
theorem ix_LT : IxR X (rIxLT X.K) := ix_list.or ix_tup
theorem snd_ix {K : PySem.W.Frag} : SndO K W (rIxLT K) oIx := by
  intro θ0 G0 x y d e hx hy ρ M r M' θ G σ H Q p s e1 rs rv kk
  unfold oIx at e1
  split at e1
  · rename_i i ds hd
    split at e1
    · rename_i z hz
      cases e1
      have hi := hy.int_of
      subst hi
      obtain ⟨a, xs, rfl, q, rl⟩ := seq_of rs (hx.mono p s) hd
      obtain ⟨v, ev, rz⟩ := atI_of rl hz
      have fin := (kk θ G H (List.prefix_refl _) (Same.refl _) rs).2 _ v rfl (.dat rz)
      rcases q with q | q
      · exact .inl ⟨a, xs, i, v, rfl, rfl, q, ev, fin⟩
      · exact .inr ⟨a, xs, i, v, rfl, rfl, q, ev, fin⟩
    · cases e1
  · cases e1
theorem de_ix (ha : DE X W a f) (hb : DE X W b g) (hs : PlainIx b := by exact fun _ _ => rfl) : DE X W (.Subscript a b pos) (bnd f fun d => bnd g fun e => oIx d e) := by
  obtain ⟨ta, pa, sa⟩ := ha
  obtain ⟨tb, pb, sb⟩ := hb
  exact ⟨_, pe_ix ix_LT pa pb hs, fun θ G => snd_op snd_ix sa sb⟩
end
end Bw
namespace Bw
open PySem PySem.Spec PyProof.Rows L2
inductive Out where
  | nx (ρ : Env) | rt (d : D) | bk (ρ : Env) | ct (ρ : Env) | ex (C : Str) (ρ : Env)
abbrev Sv := Env → Mem → Option (Out × Mem)
/-- what the ends ask -/
structure Cont (K : PySem.W.Frag) (W : WN) (Dn : Ends) (o : Out) (θ : List Th) (G H : Hp) : Prop where
  nx : ∀ ρ σ, o = .nx ρ → Rσ K θ G σ ρ → Dn.nx σ H
  bk : ∀ ρ σ, o = .bk ρ → Rσ K θ G σ ρ → Dn.bk σ H
  ct : ∀ ρ σ, o = .ct ρ → Rσ K θ G σ ρ → Dn.ct σ H
  rt : ∀ d v, o = .rt d → Rv K θ G v d → Dn.rt v H
  ex : ∀ C ρ σ, o = .ex C ρ → Rσ K θ G σ ρ → W C σ H
def SndS (K : PySem.W.Frag) (W : WN) (t : TS) (f : Sv) : Prop :=
  ∀ (ρ : Env) (M : Mem) (o : Out) (M' : Mem) (θ : List Th) (G : Hp) (σ : L2.St) (H : Hp) (Dn : Ends), f ρ M = some (o, M') → Rs K θ G H M → Rσ K θ G σ ρ →
    (∀ (θ' : List Th) (G' H' : Hp), θ <+: θ' → Same G G' → Rs K θ' G' H' M' → Cont K W Dn o θ' G' H') → t Dn σ H
def DS (X : Cx) (W : WN) (st : Stmt) (f : Sv) : Prop := ∃ t, PS X st t ∧ SndS X.K W t f
def DSs (X : Cx) (W : WN) (st : List Stmt) (f : Sv) : Prop := ∃ t, PSs X st t ∧ SndS X.K W t f
/-- an expression, then a statement by its value -/
def thenS {α : Type} (f : Ev α) (g : α → Sv) : Sv := fun ρ M => match f ρ M with
  | some (.ok a, M1) => g a ρ M1
  | some (.exc C, M1) => some (.ex C ρ, M1)
  | none => none
def sNext : Sv := fun ρ M => some (.nx ρ, M)
def sSeq (f g : Sv) : Sv := fun ρ M => match f ρ M with
  | some (.nx ρ1, M1) => g ρ1 M1
  | r => r
section
variable {X : Cx} {W : WN} {pos : Pos} {K : PySem.W.Frag}
theorem snd_then {A α : Type} {R : List Th → Hp → A → α → Prop} {t : L2.St → Hp → (A → Hp → Prop) → Prop} {f : Ev α} {k : A → TS} {g : α → Sv} (h : ∀ θ G, Snd K W R θ G t f)
    (h2 : ∀ θ G v d, R θ G v d → ∀ (ρ : Env) (M : Mem) (o : Out) (M' : Mem) (σ : L2.St) (H : Hp) (Dn : Ends), g d ρ M = some (o, M') → Rs K θ G H M → Rσ K θ G σ ρ →
      (∀ (θ' : List Th) (G' H' : Hp), θ <+: θ' → Same G G' → Rs K θ' G' H' M' → Cont K W Dn o θ' G' H') → k v Dn σ H) :
    SndS K W (fun Dn σ H => t σ H fun v H1 => k v Dn σ H1) (thenS f g) := by
  intro ρ M o M' θ G σ H Dn e rs rv kk
  unfold thenS at e
  cases q : f ρ M with
  | none => rw [q] at e; cases e
  | some z =>
    obtain ⟨r1, M1⟩ := z
    rw [q] at e
    refine h θ G ρ M r1 M1 θ G σ H _ (List.prefix_refl _) (Same.refl _) q rs rv fun θ' G' H' p' s' rs' => ?_
    cases r1 with
    | exc C =>
      simp at e
      obtain ⟨e1, e2⟩ := e
      subst e1; subst e2
      exact ⟨fun C' h => by cases h; exact (kk θ' G' H' p' s' rs').ex C ρ σ rfl (rv.mono p' s'), fun d v h => (by cases h)⟩
    | ok a =>
      refine ⟨fun C' h => (by cases h), fun d v h rel => ?_⟩
      cases h
      exact h2 θ' G' v a rel ρ M1 o M' σ H' Dn e rs' (rv.mono p' s') fun θ2 G2 H2 p2 s2 rs2 => kk θ2 G2 H2 (p'.trans p2) (s'.trans s2) rs2
theorem dss_nil : DSs X W [] sNext := by
  refine ⟨_, pss_nil, fun ρ M o M' θ G σ H Dn e rs rv kk => ?_⟩
  unfold sNext at e
  cases e
  exact (kk θ G H (List.prefix_refl _) (Same.refl _) rs).nx ρ σ rfl rv
theorem snd_seq {t u : TS} {f g : Sv} (s1 : SndS K W t f) (s2 : SndS K W u g) : SndS K W (tSeq t u) (sSeq f g) := by
  intro ρ M o M' θ G σ H Dn e rs rv kk
  unfold sSeq at e
  cases q : f ρ M with
  | none => rw [q] at e; cases e
  | some z =>
    obtain ⟨o1, M1⟩ := z
    rw [q] at e
    refine s1 ρ M o1 M1 θ G σ H _ q rs rv fun θ' G' H' p' s' rs' => ?_
    cases o1 with
    | nx ρ1 =>
      refine ⟨fun ρ2 σ2 h r2 => ?_, fun ρ2 σ2 h => (by cases h), fun ρ2 σ2 h => (by cases h), fun d v h => (by cases h), fun C ρ2 σ2 h => (by cases h)⟩
      cases h
      exact s2 ρ1 M1 o M' θ' G' σ2 H' Dn e rs' r2 fun θ2 G2 H2 p2 s2 rs2 => kk θ2 G2 H2 (p'.trans p2) (s'.trans s2) rs2
    | bk ρ1 =>
      cases e
      have c := kk θ' G' H' p' s' rs'
      exact ⟨fun ρ2 σ2 h => (by cases h), c.bk, c.ct, c.rt, c.ex⟩
    | ct ρ1 =>
      cases e
      have c := kk θ' G' H' p' s' rs'
      exact ⟨fun ρ2 σ2 h => (by cases h), c.bk, c.ct, c.rt, c.ex⟩
    | rt d =>
      cases e
      have c := kk θ' G' H' p' s' rs'
      exact ⟨fun ρ2 σ2 h => (by cases h), c.bk, c.ct, c.rt, c.ex⟩
    | ex C ρ1 =>
      cases e
      have c := kk θ' G' H' p' s' rs'
      exact ⟨fun ρ2 σ2 h => (by cases h), c.bk, c.ct, c.rt, c.ex⟩
theorem dss_cons {st : Stmt} {rest : List Stmt} {f g : Sv} (h1 : DS X W st f) (h2 : DSs X W rest g) : DSs X W (st :: rest) (sSeq f g) := by
  obtain ⟨t, p, s⟩ := h1
  obtain ⟨u, p2, s2⟩ := h2
  exact ⟨_, pss_cons p p2, snd_seq s s2⟩
theorem dss_one {st : Stmt} {f : Sv} (h1 : DS X W st f) : DSs X W [st] f := by
  obtain ⟨t, p, s⟩ := h1
  exact ⟨_, pss_one p, s⟩
/-! ### targets -/
abbrev Tg := D → Env → Option Env
/-- which slots a target writes -/
def Wr (sl : List Nat) (σ σ' : L2.St) : Prop := ∀ vs : List Nat, (∀ i ∈ sl, i ∈ vs) → wipe σ' vs = wipe σ vs
theorem wipe_set {σ : L2.St} {i : Nat} {x : Option V} : ∀ vs : List Nat, wipe (σ.set i x) vs = if i ∈ vs then wipe σ vs else (wipe σ vs).set i x
  | [] => by simp [wipe]
  | v :: vs => by
    unfold wipe
    rw [wipe_set vs]
    by_cases h : i ∈ vs
    · simp [h]
    · by_cases hv : i = v
      · subst hv; simp [h]
      · simp [h, hv, List.set_comm _ _ hv]
theorem Wr.refl {sl : List Nat} {σ : L2.St} : Wr sl σ σ := fun _ _ => rfl
def SndG (K : PySem.W.Frag) (g : TG) (b : Tg) (sl : List Nat) : Prop := ∀ (d : D) (ρ ρ' : Env) (θ : List Th) (G : Hp) (σ : L2.St) (H : Hp) (M : Mem) (Q : L2.St → Hp → Prop) (v : V), b d ρ = some ρ' → Rs K θ G H M → Rσ K θ G σ ρ → Rv K θ G v d → (∀ σ', Rσ K θ G σ' ρ' → Wr sl σ σ' → Q σ' H) → g v σ H Q
def SndGs (K : PySem.W.Frag) (g : TGs) (b : List D → Env → Option Env) (sl : List Nat) : Prop := ∀ (ds : List D) (ρ ρ' : Env) (θ : List Th) (G : Hp) (σ : L2.St) (H : Hp) (M : Mem) (Q : L2.St → Hp → Prop) (vs : List V), b ds ρ = some ρ' → Rs K θ G H M → Rσ K θ G σ ρ → RpL K G vs ds → (∀ σ', Rσ K θ G σ' ρ' → Wr sl σ σ' → Q σ' H) → g vs σ H Q
def DG (X : Cx) (tg : Expr) (b : Tg) (sl : List Nat) : Prop := ∃ g, PG X tg g ∧ SndG X.K g b sl
def DGs (X : Cx) (tg : List Expr) (b : List D → Env → Option Env) (sl : List Nat) : Prop := ∃ g, PGs X tg g ∧ SndGs X.K g b sl
def gNm (i : Nat) : Tg := fun d ρ => some (ρ.set i (some d))
def gNl : List D → Env → Option Env := fun ds ρ => match ds with
  | [] => some ρ
  | _ => none
def gCn (b : Tg) (c : List D → Env → Option Env) : List D → Env → Option Env := fun ds ρ => match ds with
  | d :: r => match b d ρ with
    | some ρ1 => c r ρ1
    | none => none
  | [] => none
def gTp (n : Nat) (c : List D → Env → Option Env) : Tg := fun d ρ => match d with
  | .tup ds => if ds.length = n then c ds ρ else none
  | _ => none
def gLs (n : Nat) (c : List D → Env → Option Env) : Tg := fun d ρ => match d with
  | .lst ds => if ds.length = n then c ds ρ else none
  | _ => none
theorem dg_name (i : Nat) {x : Str} (hN : X.N.Nodup) (hi : X.N[i]? = some x := by rfl) (hx : Loc X.env.scope x := by first | exact .inl rfl | exact .inr rfl) (hf : X.fn x = true ∨ X.env.scope.names.lookup x = some .local := by first | exact .inl rfl | exact .inr rfl) : DG X (.Name x pos) (gNm i) [i] := by
  refine ⟨_, pg_name hN hi hx hf, fun d ρ ρ' θ G σ H M Q v e rs rv hv k => ?_⟩
  unfold gNm at e
  cases e
  exact k _ (rv.set hv) fun vs h => by rw [wipe_set, if_pos (h i (by simp))]
theorem dgs_nil : DGs X [] gNl [] := by
  refine ⟨_, pgs_nil, fun ds ρ ρ' θ G σ H M Q vs e rs rv hv k => ?_⟩
  unfold gNl at e
  split at e
  · cases e
    exact ⟨hv.nil_of, k _ rv Wr.refl⟩
  · cases e
theorem dgs_cons {e : Expr} {es : List Expr} {b : Tg} {c : List D → Env → Option Env} {sl sl2 : List Nat} (h1 : DG X e b sl) (h2 : DGs X es c sl2) (hs : (assignEach (e :: es) X.env).map (·.2) = assign e X.env :: (assignEach es X.env).map (·.2) := by rfl) : DGs X (e :: es) (gCn b c) (sl ++ sl2) := by
  obtain ⟨g, p, s⟩ := h1
  obtain ⟨u, p2, s2⟩ := h2
  refine ⟨_, pgs_cons p p2 hs, fun ds ρ ρ' θ G σ H M Q vs e rs rv hv k => ?_⟩
  unfold gCn at e
  split at e
  · rename_i d r
    split at e
    · rename_i ρ1 h1
      obtain ⟨v, ys, rfl, hv1, hvs⟩ := hv.uncons
      exact ⟨v, ys, rfl, s d ρ ρ1 θ G σ H M _ v h1 rs rv (.dat hv1) fun σ1 r1 w1 => s2 r ρ1 ρ' θ G σ1 H M Q ys e rs r1 hvs fun σ2 r2 w2 => k σ2 r2 fun vs h => (w2 vs fun i hi => h i (by simp [hi])).trans (w1 vs fun i hi => h i (by simp [hi]))⟩
    · cases e
  · cases e
theorem dg_tup {es : List Expr} {k n : Nat} {c : List D → Env → Option Env} {sl : List Nat} (hc : X.calm = true) (h : DGs X es c sl) (hn : (assignEach es X.env).length = n := by rfl) (hst : (assignEach es X.env).findIdx? (·.1) = none := by rfl) : DG X (.Tuple es k pos) (gTp n c) sl := by
  obtain ⟨g, p, s⟩ := h
  refine ⟨_, pg_tup hc p hn hst, fun d ρ ρ' θ G σ H M Q v e rs rv hv k => ?_⟩
  unfold gTp at e
  split at e
  · rename_i ds
    split at e
    · rename_i hl
      cases hv with
      | dat hv =>
        cases hv with
        | tup q l g => exact ⟨_, _, rfl, seqT rs.sub q, l.trans hl, s ds ρ ρ' θ G σ H M Q _ e rs rv ⟨l, g⟩ k⟩
    · cases e
  · cases e
theorem dg_lst {es : List Expr} {k n : Nat} {c : List D → Env → Option Env} {sl : List Nat} (hc : X.calm = true) (h : DGs X es c sl) (hn : (assignEach es X.env).length = n := by rfl) (hst : (assignEach es X.env).findIdx? (·.1) = none := by rfl) : DG X (.Tuple es k pos) (gLs n c) sl := by
  obtain ⟨g, p, s⟩ := h
  refine ⟨_, pg_lst hc p hn hst, fun d ρ ρ' θ G σ H M Q v e rs rv hv k => ?_⟩
  unfold gLs at e
  split at e
  · rename_i ds
    split at e
    · rename_i hl
      cases hv with
      | dat hv =>
        cases hv with
        | lst q l g => exact ⟨_, _, rfl, .inl (.inl (rs.sub _ _ q)), l.trans hl, s ds ρ ρ' θ G σ H M Q _ e rs rv ⟨l, g⟩ k⟩
    · cases e
  · cases e
/-! ### statements -/
def sAsg (f : Ev D) (b : Tg) : Sv := thenS f fun d ρ M => match b d ρ with
  | some ρ1 => some (.nx ρ1, M)
  | none => none
theorem snd_asg {t : TE} {g : TG} {f : Ev D} {b : Tg} {sl : List Nat} (s : ∀ θ G, Snd K W (RV K) θ G t f) (s2 : SndG K g b sl) : SndS K W (tAsg t g) (sAsg f b) := by
  refine snd_then (k := fun v (Dn : Ends) σ H1 => g v σ H1 Dn.nx) s fun θ G v d hv ρ M o M' σ H Dn e rs rv kk => ?_
  split at e
  · rename_i ρ1 h1
    cases e
    exact s2 d ρ ρ1 θ G σ H M _ v h1 rs rv hv fun σ' r' _ => (kk θ G H (List.prefix_refl _) (Same.refl _) rs).nx ρ1 σ' rfl r'
  · cases e
theorem ds_set (i : Nat) {x : Str} {e : Expr} {f : Ev D} {pos' : Pos} (hN : X.N.Nodup) (he : DE X W e f) (hi : X.N[i]? = some x := by rfl) (hx : Loc X.env.scope x := by first | exact .inl rfl | exact .inr rfl) (hs : swapsWith e (some (.Name x pos')) pos.line X.env = pure false := by rfl) (hf : X.fn x = true ∨ X.env.scope.names.lookup x = some .local := by first | exact .inl rfl | exact .inr rfl) :
    DS X W (.Assign [.Name x pos'] e pos) (sAsg f (gNm i)) := by
  obtain ⟨t, p, s⟩ := he
  refine ⟨_, ps_set hN hi hx p hs hf, snd_asg (sl := [i]) s fun d ρ ρ' θ G σ H M Q v e rs rv hv k => ?_⟩
  unfold gNm at e
  cases e
  exact k _ (rv.set hv) fun vs h => by rw [wipe_set, if_pos (h i (by simp))]
theorem ds_asg {tg e : Expr} {f : Ev D} {b : Tg} {sl : List Nat} (he : DE X W e f) (hg : DG X tg b sl) (hs : swapsWithSole [tg] e pos.line X.env = pure false := by rfl) (hw : swappedStores [tg] e X.env = pure none := by rfl)
    (h1 : (assignEach [tg] X.env).map (·.2) = [assign tg X.env] := by rfl) : DS X W (.Assign [tg] e pos) (sAsg f b) := by
  obtain ⟨t, p, s⟩ := he
  obtain ⟨g, p2, s2⟩ := hg
  exact ⟨_, ps_asg p p2 hs hw h1, snd_asg s s2⟩
/-- a, b = x, y -/
def sPar (i j : Nat) (f : Ev (List D)) : Sv := thenS f fun ds ρ M => match ds with
  | [d, e] => some (.nx ((ρ.set i (some d)).set j (some e)), M)
  | _ => none
theorem ds_par (i j : Nat) {x y : Str} {a b : Expr} {f : Ev (List D)} {px py pt : Pos} {kt k2 : Nat} {pt2 : Pos} (hN : X.N.Nodup) (ha : DA X W [a, b] f) (hc : X.calm = true := by rfl) (hi : X.N[i]? = some x := by rfl) (hj : X.N[j]? = some y := by rfl) (hij : i ≠ j := by decide)
    (hx : X.env.scope.names.lookup x = some .local := by rfl) (hy : X.env.scope.names.lookup y = some .local := by rfl)
    (hw : swappedStores [.Tuple [.Name x px, .Name y py] kt pt] (.Tuple [a, b] k2 pt2) X.env = pure (some [x, y]) := by rfl)
    (hs : swapsWithSole [.Tuple [.Name x px, .Name y py] kt pt] (.Tuple [a, b] k2 pt2) pos.line X.env = pure false := by rfl) :
    DS X W (.Assign [.Tuple [.Name x px, .Name y py] kt pt] (.Tuple [a, b] k2 pt2) pos) (sPar i j f) := by
  obtain ⟨t, p, s⟩ := ha
  refine ⟨_, ps_par hc hN hi hj hij hx hy p hw hs, ?_⟩
  refine snd_then (k := fun vs (Dn : Ends) σ H1 => ∃ v w, vs = [v, w] ∧ Dn.nx ((σ.set i (some v)).set j (some w)) H1) s fun θ G vs ds hv ρ M o M' σ H Dn e rs rv kk => ?_
  split at e
  · rename_i d e'
    cases e
    obtain ⟨v, u, rfl, h1, h2⟩ := vals2 hv
    exact ⟨v, u, rfl, (kk θ G H (List.prefix_refl _) (Same.refl _) rs).nx _ _ rfl ((rv.set h1).set h2)⟩
  · cases e
def sRet (f : Ev D) : Sv := thenS f fun d _ M => some (.rt d, M)
theorem ds_ret {e : Expr} {f : Ev D} (he : DE X W e f) : DS X W (.Return (some e) pos) (sRet f) := by
  obtain ⟨t, p, s⟩ := he
  refine ⟨_, ps_ret p, ?_⟩
  refine snd_then (k := fun v (Dn : Ends) σ H1 => Dn.rt v H1) s fun θ G v d hv ρ M o M' σ H Dn e rs rv kk => ?_
  cases e
  exact (kk θ G H (List.prefix_refl _) (Same.refl _) rs).rt d v rfl hv
def sExpr (f : Ev D) : Sv := thenS f fun _ ρ M => some (.nx ρ, M)
theorem ds_expr {e : Expr} {f : Ev D} (he : DE X W e f) (hs : swapsWith e none pos.line X.env = pure false := by rfl) : DS X W (.Expr e pos) (sExpr f) := by
  obtain ⟨t, p, s⟩ := he
  refine ⟨_, ps_expr p hs, ?_⟩
  refine snd_then (k := fun v (Dn : Ends) σ H1 => Dn.nx σ H1) s fun θ G v d hv ρ M o M' σ H Dn e rs rv kk => ?_
  cases e
  exact (kk θ G H (List.prefix_refl _) (Same.refl _) rs).nx ρ σ rfl rv
def sIf (c : Ev Bool) (f g : Sv) : Sv := thenS c fun b => if b = true then f else g
theorem ds_if {c : Expr} {a b : List Stmt} {h : Ev Bool} {f g : Sv} (hc : DT X W c h) (ha : DSs X W a f) (hb : DSs X W b g) : DS X W (.If c a b pos) (sIf h f g) := by
  obtain ⟨t, p, s⟩ := hc
  obtain ⟨u, p2, s2⟩ := ha
  obtain ⟨z, p3, s3⟩ := hb
  refine ⟨_, ps_if p p2 p3, ?_⟩
  refine snd_then (k := fun (b : Bool) (Dn : Ends) σ H1 => if b = true then u Dn σ H1 else z Dn σ H1) s fun θ G v d hv ρ M o M' σ H Dn e rs rv kk => ?_
  cases hv
  cases v with
  | true =>
    rw [if_pos rfl] at e ⊢
    exact s2 ρ M o M' θ G σ H Dn e rs rv kk
  | false =>
    rw [if_neg Bool.false_ne_true] at e ⊢
    exact s3 ρ M o M' θ G σ H Dn e rs rv kk
def sNever : Sv := fun _ _ => none
/-! ### while -/
def whileF (c : Ev Bool) (b : Sv) : Nat → Sv
  | 0 => fun _ _ => none
  | n + 1 => fun ρ M => match c ρ M with
    | some (.ok true, M1) => match b ρ M1 with
      | some (.nx ρ2, M2) => whileF c b n ρ2 M2
      | some (.ct ρ2, M2) => whileF c b n ρ2 M2
      | some (.bk ρ2, M2) => some (.nx ρ2, M2)
      | r => r
    | some (.ok false, M1) => some (.nx ρ, M1)
    | some (.exc C, M1) => some (.ex C ρ, M1)
    | none => none
theorem whileF_succ {c : Ev Bool} {b : Sv} : ∀ {n : Nat} {ρ : Env} {M : Mem} {r : Out × Mem}, whileF c b n ρ M = some r → whileF c b (n + 1) ρ M = some r
  | 0, ρ, M, r, h => by cases h
  | n + 1, ρ, M, r, h => by
    unfold whileF at h ⊢
    cases q : c ρ M with
    | none => rw [q] at h; cases h
    | some z =>
      obtain ⟨x, M1⟩ := z
      rw [q] at h
      cases x with
      | exc C => exact h
      | ok k =>
        cases k with
        | false => exact h
        | true =>
          dsimp only at h ⊢
          cases q2 : b ρ M1 with
          | none => rw [q2] at h; cases h
          | some z2 =>
            obtain ⟨o, M2⟩ := z2
            rw [q2] at h
            cases o with
            | nx ρ2 => exact whileF_succ h
            | ct ρ2 => exact whileF_succ h
            | bk ρ2 => exact h
            | rt d => exact h
            | ex C ρ2 => exact h
theorem whileF_le {c : Ev Bool} {b : Sv} {m n : Nat} (h : m ≤ n) {ρ : Env} {M : Mem} {r : Out × Mem} (e : whileF c b m ρ M = some r) : whileF c b n ρ M = some r := by
  induction h with
  | refl => exact e
  | step _ ih => exact whileF_succ ih
open Classical in
noncomputable def sWhile (c : Ev Bool) (b : Sv) : Sv := fun ρ M => if h : ∃ r n, whileF c b n ρ M = some r then some (Classical.choose h) else none
theorem sWhile_eq {c : Ev Bool} {b : Sv} {n : Nat} {ρ : Env} {M : Mem} {r : Out × Mem} (e : whileF c b n ρ M = some r) : sWhile c b ρ M = some r := by
  have h : ∃ r n, whileF c b n ρ M = some r := ⟨r, n, e⟩
  unfold sWhile
  rw [dif_pos h]
  obtain ⟨m, hm⟩ := Classical.choose_spec h
  have e1 := whileF_le (Nat.le_max_left m n) hm
  have e2 := whileF_le (Nat.le_max_right m n) e
  rw [e1] at e2
  exact e2
theorem sWhile_of {c : Ev Bool} {b : Sv} {ρ : Env} {M : Mem} {r : Out × Mem} (e : sWhile c b ρ M = some r) : ∃ n, whileF c b n ρ M = some r := by
  unfold sWhile at e
  split at e
  · rename_i h
    obtain ⟨m, hm⟩ := Classical.choose_spec h
    exact ⟨m, by rw [hm]; exact e⟩
  · cases e
theorem ds_while {c : Expr} {body : List Stmt} {h : Ev Bool} {f : Sv} (hp : PassesOwn (model X.prog X.w) X.A X.env X.xe) (hc : DT X W c h) (hb : DSs X W body f) : DS X W (.While c body [] pos) (sWhile h f) := by
  obtain ⟨tc, p, s⟩ := hc
  obtain ⟨tb, p2, s2⟩ := hb
  refine ⟨_, ps_while hp p p2, fun ρ M o M' θ G σ H Dn e rs rv kk => ?_⟩
  obtain ⟨n, hn⟩ := sWhile_of e
  refine ⟨fun m σ1 H1 => ∃ ρ1 M1 θ1 G1, θ <+: θ1 ∧ Same G G1 ∧ Rs X.K θ1 G1 H1 M1 ∧ Rσ X.K θ1 G1 σ1 ρ1 ∧ whileF h f m ρ1 M1 = some (o, M'), ⟨n, ρ, M, θ, G, List.prefix_refl _, Same.refl _, rs, rv, hn⟩, ?_⟩
  rintro m σ1 H1 ⟨ρ1, M1, θ1, G1, pr, sa, rs1, rv1, w⟩
  cases m with
  | zero => cases w
  | succ m =>
    unfold whileF at w
    cases q : h ρ1 M1 with
    | none => rw [q] at w; cases w
    | some z =>
      obtain ⟨x, M2⟩ := z
      rw [q] at w
      refine s θ1 G1 ρ1 M1 x M2 θ1 G1 σ1 H1 _ (List.prefix_refl _) (Same.refl _) q rs1 rv1 fun θ2 G2 H2 p2 sa2 rs2 => ?_
      cases x with
      | exc C =>
        cases w
        exact ⟨fun C' h => by cases h; exact (kk θ2 G2 H2 (pr.trans p2) (sa.trans sa2) rs2).ex C ρ1 σ1 rfl (rv1.mono p2 sa2), fun d v h => (by cases h)⟩
      | ok k =>
        refine ⟨fun C' h => (by cases h), fun d v h hv => ?_⟩
        cases h
        cases hv
        cases k with
        | false =>
          cases w
          rw [if_neg Bool.false_ne_true]
          exact (kk θ2 G2 H2 (pr.trans p2) (sa.trans sa2) rs2).nx ρ1 σ1 rfl (rv1.mono p2 sa2)
        | true =>
          rw [if_pos rfl]
          dsimp only at w
          refine ⟨fun σ3 H3 => ∃ ρ3 M3 θ3 G3, θ <+: θ3 ∧ Same G G3 ∧ Rs X.K θ3 G3 H3 M3 ∧ Rσ X.K θ3 G3 σ3 ρ3 ∧ whileF h f m ρ3 M3 = some (o, M'), fun σ' H' hN => ⟨m, Nat.lt_succ_self m, hN⟩, ?_⟩
          cases q2 : f ρ1 M2 with
          | none => rw [q2] at w; cases w
          | some z2 =>
            obtain ⟨o2, M3⟩ := z2
            rw [q2] at w
            refine s2 ρ1 M2 o2 M3 θ2 G2 σ1 H2 _ q2 rs2 (rv1.mono p2 sa2) fun θ3 G3 H3 p3 sa3 rs3 => ?_
            have pr3 := (pr.trans p2).trans p3
            have sm3 := (sa.trans sa2).trans sa3
            cases o2 with
            | nx ρ3 => exact ⟨fun ρ4 σ4 h r4 => by cases h; exact ⟨ρ3, M3, θ3, G3, pr3, sm3, rs3, r4, w⟩, fun _ _ h => (by cases h), fun _ _ h => (by cases h), fun _ _ h => (by cases h), fun _ _ _ h => (by cases h)⟩
            | ct ρ3 => exact ⟨fun _ _ h => (by cases h), fun _ _ h => (by cases h), fun ρ4 σ4 h r4 => by cases h; exact ⟨ρ3, M3, θ3, G3, pr3, sm3, rs3, r4, w⟩, fun _ _ h => (by cases h), fun _ _ _ h => (by cases h)⟩
            | bk ρ3 =>
              cases w
              exact ⟨fun _ _ h => (by cases h), fun ρ4 σ4 h r4 => by cases h; exact (kk θ3 G3 H3 pr3 sm3 rs3).nx ρ3 σ4 rfl r4, fun _ _ h => (by cases h), fun _ _ h => (by cases h), fun _ _ _ h => (by cases h)⟩
            | rt d =>
              cases w
              exact ⟨fun _ _ h => (by cases h), fun _ _ h => (by cases h), fun _ _ h => (by cases h), (kk θ3 G3 H3 pr3 sm3 rs3).rt, fun _ _ _ h => (by cases h)⟩
            | ex C ρ3 =>
              cases w
              exact ⟨fun _ _ h => (by cases h), fun _ _ h => (by cases h), fun _ _ h => (by cases h), fun _ _ h => (by cases h), (kk θ3 G3 H3 pr3 sm3 rs3).ex⟩
/-! ### for -/
def forF (b : Tg) (f : Sv) : List D → Sv
  | [] => fun ρ M => some (.nx ρ, M)
  | d :: ds => fun ρ M => match b d ρ with
    | none => none
    | some ρ1 => match f ρ1 M with
      | some (.nx ρ2, M2) => forF b f ds ρ2 M2
      | some (.ct ρ2, M2) => forF b f ds ρ2 M2
      | some (.bk ρ2, M2) => some (.nx ρ2, M2)
      | r => r
/-- what an iterator yields, from θ, G on -/
structure RI (K : PySem.W.Frag) (θ0 : List Th) (G0 : Hp) (J : It) (ds : List D) : Prop where
  go : ∀ (i : Nat) (θ : List Th) (G H : Hp) (M : Mem), θ0 <+: θ → Same G0 G → Rs K θ G H M → i < ds.length → J.go i H
  stop : ∀ (θ : List Th) (G H : Hp) (M : Mem), θ0 <+: θ → Same G0 G → Rs K θ G H M → J.stop ds.length H
  yld : ∀ (i : Nat) (d : D) (θ : List Th) (G H : Hp) (M : Mem) (x : V) (H' : Hp), θ0 <+: θ → Same G0 G → Rs K θ G H M → ds[i]? = some d → J.yld i H x H' → ∃ G', Same G G' ∧ Rs K θ G' H' M ∧ Rv K θ G' x d
def DI (X : Cx) (W : WN) (tg iter : Expr) (f : Ev (List D)) : Prop := ∃ wi, PI X tg iter wi ∧ ∀ θ G, Snd X.K W (RI X.K) θ G wi f
def sFor (h : Ev (List D)) (b : Tg) (f : Sv) : Sv := thenS h fun ds => forF b f ds
theorem ds_for {tg iter : Expr} {body : List Stmt} {h : Ev (List D)} {b : Tg} {f : Sv} {sl : List Nat} (hp : PassesOwn (model X.prog X.w) X.A X.env X.xe) (hi : DI X W tg iter h) (hg : DG X tg b sl) (hb : DSs X W body f) (hc : X.calm = true := by rfl)
    (hs : ∀ x, foldedSetIterable iter X.env x = pure x := by intro _; rfl) : DS X W (.For tg iter body [] pos) (sFor h b f) := by
  obtain ⟨wi, p, s⟩ := hi
  obtain ⟨g, pg, sg⟩ := hg
  obtain ⟨tb, p2, s2⟩ := hb
  refine ⟨_, ps_for hp hc p pg p2 hs, ?_⟩
  refine snd_then (R := RI X.K) (k := fun (J : It) (Dn : Ends) σ H1 => ∃ W : Nat → Nat → L2.St → Hp → Prop, (∃ m, W 0 m σ H1) ∧ ∀ i m σ H, W i m σ H →
    (J.stop i H ∧ Dn.nx σ H) ∨ (J.go i H ∧ ∃ N : L2.St → Hp → Prop, (∀ σ' H', N σ' H' → ∃ m', m' < m ∧ W (i + 1) m' σ' H') ∧ ∀ x H', J.yld i H x H' → g x σ H' fun σ2 H2 => tb { Dn with nx := N, ct := N, bk := Dn.nx } σ2 H2)) s ?_
  intro θ G J ds hJ ρ M o M' σ H Dn e rs rv kk
  refine ⟨fun i m σ1 H1 => ∃ ρ1 M1 θ1 G1, m + i = ds.length ∧ θ <+: θ1 ∧ Same G G1 ∧ Rs X.K θ1 G1 H1 M1 ∧ Rσ X.K θ1 G1 σ1 ρ1 ∧ forF b f (ds.drop i) ρ1 M1 = some (o, M'), ⟨ds.length, ρ, M, θ, G, rfl, List.prefix_refl _, Same.refl _, rs, rv, e⟩, ?_⟩
  rintro i m σ1 H1 ⟨ρ1, M1, θ1, G1, hm, pr, sa, rs1, rv1, w⟩
  by_cases hi : i < ds.length
  · right
    have hd : ds.drop i = ds[i] :: ds.drop (i + 1) := List.drop_eq_getElem_cons hi
    rw [hd] at w
    unfold forF at w
    refine ⟨hJ.go i θ1 G1 H1 M1 pr sa rs1 hi, fun σ3 H3 => ∃ ρ3 M3 θ3 G3, θ <+: θ3 ∧ Same G G3 ∧ Rs X.K θ3 G3 H3 M3 ∧ Rσ X.K θ3 G3 σ3 ρ3 ∧ forF b f (ds.drop (i + 1)) ρ3 M3 = some (o, M'), fun σ' H' hN => ?_, fun x H' hy => ?_⟩
    · obtain ⟨ρ3, M3, θ3, G3, a1, a2, a3, a4, a5⟩ := hN
      exact ⟨m - 1, by omega, ρ3, M3, θ3, G3, by omega, a1, a2, a3, a4, a5⟩
    · obtain ⟨G2, sa2, rs2, rx⟩ := hJ.yld i ds[i] θ1 G1 H1 M1 x H' pr sa rs1 (List.getElem?_eq_getElem hi) hy
      cases q : b ds[i] ρ1 with
      | none => rw [q] at w; cases w
      | some ρ2 =>
        rw [q] at w
        dsimp only at w
        refine sg ds[i] ρ1 ρ2 θ1 G2 σ1 H' M1 _ x q rs2 (rv1.mono (List.prefix_refl _) sa2) rx fun σ2 r2 _ => ?_
        cases q2 : f ρ2 M1 with
        | none => rw [q2] at w; cases w
        | some z2 =>
          obtain ⟨o2, M3⟩ := z2
          rw [q2] at w
          refine s2 ρ2 M1 o2 M3 θ1 G2 σ2 H' _ q2 rs2 r2 fun θ3 G3 H3 p3 sa3 rs3 => ?_
          have pr3 := pr.trans p3
          have sm3 := (sa.trans sa2).trans sa3
          cases o2 with
          | nx ρ3 => exact ⟨fun ρ4 σ4 h r4 => by cases h; exact ⟨ρ3, M3, θ3, G3, pr3, sm3, rs3, r4, w⟩, fun _ _ h => (by cases h), fun _ _ h => (by cases h), fun _ _ h => (by cases h), fun _ _ _ h => (by cases h)⟩
          | ct ρ3 => exact ⟨fun _ _ h => (by cases h), fun _ _ h => (by cases h), fun ρ4 σ4 h r4 => by cases h; exact ⟨ρ3, M3, θ3, G3, pr3, sm3, rs3, r4, w⟩, fun _ _ h => (by cases h), fun _ _ _ h => (by cases h)⟩
          | bk ρ3 =>
            cases w
            exact ⟨fun _ _ h => (by cases h), fun ρ4 σ4 h r4 => by cases h; exact (kk θ3 G3 H3 pr3 sm3 rs3).nx ρ3 σ4 rfl r4, fun _ _ h => (by cases h), fun _ _ h => (by cases h), fun _ _ _ h => (by cases h)⟩
          | rt d =>
            cases w
            exact ⟨fun _ _ h => (by cases h), fun _ _ h => (by cases h), fun _ _ h => (by cases h), (kk θ3 G3 H3 pr3 sm3 rs3).rt, fun _ _ _ h => (by cases h)⟩
          | ex C ρ3 =>
            cases w
            exact ⟨fun _ _ h => (by cases h), fun _ _ h => (by cases h), fun _ _ h => (by cases h), fun _ _ h => (by cases h), (kk θ3 G3 H3 pr3 sm3 rs3).ex⟩
  · left
    have hd : ds.drop i = [] := List.drop_eq_nil_of_le (by omega)
    rw [hd] at w
    cases w
    have hi2 : i = ds.length := by omega
    subst hi2
    exact ⟨hJ.stop θ1 G1 H1 _ pr sa rs1, (kk θ1 G1 H1 pr sa rs1).nx ρ1 σ1 rfl rv1⟩
end
end Bw
namespace Bw
open PySem PySem.Spec PyProof.Rows L2
/-! ### the heap once more -/
theorem Rs.take {K : PySem.W.Frag} {θ : List Th} {G H : Hp} {M : Mem} (r : Rs K θ G H M) (n : Nat) : Rs K (θ.take n) G H (M.take n) := by
  have gt : ∀ (m : Nat) (a : Th), (θ.take n)[m]? = some a → θ[m]? = some a := fun m a h => by
    rw [List.getElem?_take] at h
    split at h
    · exact h
    · cases h
  have gm : ∀ (m : Nat) (c : Option (List D)), (M.take n)[m]? = some c → M[m]? = some c := fun m a h => by
    rw [List.getElem?_take] at h
    split at h
    · exact h
    · cases h
  refine ⟨r.sub, by simp [r.len], r.nd.sublist ((List.take_sublist _ _).map _), fun m a h => r.live m a (gt m a h), fun m a ds h1 h2 => r.mem m a ds (gt m _ h1) (gm m _ h2), fun m a b es h1 h2 => r.dic m a b es (gt m _ h1) (gm m _ h2), fun m a ds h1 h2 => ?_⟩
  obtain ⟨g, xs, hx, rl⟩ := r.nst m a ds (gt m _ h1) (gm m _ h2)
  have hm : m < n := by
    rw [List.getElem?_take] at h1
    split at h1
    · assumption
    · cases h1
  refine ⟨g, xs, hx, ?_⟩
  rw [List.take_take, Nat.min_eq_left (Nat.le_of_lt hm)]; exact rl
theorem Rs.freeze {K : PySem.W.Frag} {θ : List Th} {G H : Hp} {M : Mem} (r : Rs K θ G H M) {n : Nat} {a : Addr} {ds : List D} (h1 : θ[n]? = some (a, .lst)) (h2 : M[n]? = some (some ds)) :
    ∃ G', Same G G' ∧ Rp K G' (.ref a) (.lst ds) ∧ Rs K θ G' H (M.set n none) := by
  obtain ⟨g, xs, hx, rl⟩ := r.mem n a ds h1 h2
  have sm : Same G (upd G a (.lst xs)) := same_upd g
  have old : ∀ (m : Nat) (c : List D), (M.set n none)[m]? = some (some c) → n ≠ m ∧ M[m]? = some (some c) := fun m c e2 => by
    by_cases hm : n = m
    · subst hm
      rw [List.getElem?_set_self'] at e2
      cases q : M[n]? with
      | none => rw [q] at e2; cases e2
      | some z => rw [q] at e2; cases e2
    · rw [List.getElem?_set_ne hm] at e2
      exact ⟨hm, e2⟩
  refine ⟨upd G a (.lst xs), sm, rp_lst upd_same (rl.mono sm), fun b o e => ?_, by simp [r.len], r.nd, r.live, fun m b es e1 e2 => ?_, fun m b z es e1 e2 => ?_, fun m b es e1 e2 => ?_⟩
  · by_cases hb : b = a
    · subst hb; rw [upd_same] at e; cases e; exact hx
    · rw [upd_ne hb] at e; exact r.sub _ _ e
  · obtain ⟨hm, e2⟩ := old m es e2
    obtain ⟨g2, ys, hy, rl2⟩ := r.mem m b es e1 e2
    have hb : b ≠ a := fun z => hm (r.inj h1 e1 z.symm)
    exact ⟨by rw [upd_ne hb]; exact g2, ys, hy, rl2.mono sm⟩
  · obtain ⟨hm, e2⟩ := old m _ e2
    obtain ⟨ys, hy, rl2⟩ := r.dic m b z es e1 e2
    have hb : b ≠ a := fun z => hm (r.inj h1 e1 z.symm)
    exact ⟨ys, hy.keep sm (fun g => by rw [upd_ne hb]; exact g) rfl, rl2.mono sm⟩
  · obtain ⟨hm, e2⟩ := old m es e2
    obtain ⟨g2, ys, hy, rl2⟩ := r.nst m b es e1 e2
    have hb : b ≠ a := fun z => hm (r.inj h1 e1 z.symm)
    exact ⟨by rw [upd_ne hb]; exact g2, ys, hy, rl2.same sm⟩
/-- a numbered thing is changed -/
theorem Rs.putT {K : PySem.W.Frag} {θ : List Th} {G H : Hp} {M : Mem} (r : Rs K θ G H M) {n : Nat} {a : Addr} {k : Kd} {o : HO} {c : Option (List D)} (h1 : θ[n]? = some (a, k)) (g : G a = none)
    (hm : ∀ ds, k = .lst → c = some ds → ∃ xs, o = .lst xs ∧ RpL K G xs ds) (hd : ∀ b es, k = .dic → c = some (enc b es) → b = false ∧ ∃ xs, o = DH a xs ∧ RpE K G xs es) (hn : ∀ ds, k = .nst → c = some ds → ∃ xs, o = .lst xs ∧ RvL K (θ.take n) G xs ds) :
    Rs K θ G (upd H a o) (M.set n c) := by
  have i1 : n < θ.length := (List.getElem?_eq_some_iff.mp h1).1
  have cell : ∀ (m : Nat) (b : Addr) (k2 : Kd) (z : Option (List D)), θ[m]? = some (b, k2) → (M.set n c)[m]? = some z → (n ≠ m ∧ b ≠ a ∧ M[m]? = some z) ∨ (n = m ∧ b = a ∧ k2 = k ∧ c = z) := fun m b k2 z e1 e2 => by
    by_cases hm : n = m
    · subst hm
      rw [h1] at e1
      injection e1 with e1
      injection e1 with e1 e3
      rw [List.getElem?_set_self (by rw [← r.len]; exact i1)] at e2
      exact .inr ⟨rfl, e1.symm, e3.symm, Option.some.inj e2⟩
    · rw [List.getElem?_set_ne hm] at e2
      exact .inl ⟨hm, fun z => hm (r.inj h1 e1 z.symm), e2⟩
  refine ⟨fun b o e => ?_, by simp [r.len], r.nd, fun m b h => live_upd (r.live m b h), fun m b es e1 e2 => ?_, fun m b z es e1 e2 => ?_, fun m b es e1 e2 => ?_⟩
  · have hb : b ≠ a := ne_of_none e g
    rw [upd_ne hb]; exact r.sub _ _ e
  · rcases cell m b _ _ e1 e2 with ⟨_, hb, e2⟩ | ⟨_, hb, hk, e2⟩
    · obtain ⟨g2, ys, hy, rl2⟩ := r.mem m b es e1 e2
      exact ⟨g2, ys, by rw [upd_ne hb]; exact hy, rl2⟩
    · subst hb
      obtain ⟨xs, e3, rl⟩ := hm es hk.symm e2
      exact ⟨g, xs, by rw [upd_same, e3], rl⟩
  · rcases cell m b _ _ e1 e2 with ⟨_, hb, e2⟩ | ⟨_, hb, hk, e2⟩
    · obtain ⟨ys, hy, rl2⟩ := r.dic m b z es e1 e2
      exact ⟨ys, hy.keep (Same.refl _) (fun g => g) (upd_ne hb), rl2⟩
    · subst hb
      obtain ⟨e4, xs, e3, rl⟩ := hd z es hk.symm e2
      subst e4
      exact ⟨xs, ⟨g, by rw [upd_same, e3]⟩, rl⟩
  · rcases cell m b _ _ e1 e2 with ⟨_, hb, e2⟩ | ⟨hm', hb, hk, e5⟩
    · obtain ⟨g2, ys, hy, rl2⟩ := r.nst m b es e1 e2
      exact ⟨g2, ys, by rw [upd_ne hb]; exact hy, rl2⟩
    · subst hb; subst hm'
      obtain ⟨xs, e3, rl⟩ := hn es hk.symm e5
      exact ⟨g, xs, by rw [upd_same, e3], rl⟩
/-- a mutable list is changed -/
theorem Rs.put {K : PySem.W.Frag} {θ : List Th} {G H : Hp} {M : Mem} (r : Rs K θ G H M) {n : Nat} {a : Addr} {ds : List D} {xs : List V} (h1 : θ[n]? = some (a, .lst)) (g : G a = none) (rl : RpL K G xs ds) :
    Rs K θ G (upd H a (.lst xs)) (M.set n (some ds)) := r.putT h1 g (fun es _ e => ⟨xs, rfl, by cases e; exact rl⟩) (fun b es e _ => by cases e) fun ds e _ => by cases e
theorem pre_take {θ θ' : List Th} (p : θ <+: θ') {n : Nat} (h : θ.length ≤ n) : θ <+: θ'.take n := by
  obtain ⟨r, rfl⟩ := p
  rw [List.take_append]
  rw [List.take_of_length_le h]
  exact List.prefix_append _ _
section
variable {X : Cx} {W : WN} {pos : Pos} {K : PySem.W.Frag}
/-! ### what a for walks -/
def oRng1 (ds : List D) : Ev (List D) := match ds with
  | [.int j] => if -(2 ^ 62) ≤ j ∧ j < 2 ^ 62 then ret ((List.range j.toNat).map fun (i : Nat) => D.int (i : Int)) else stk
  | _ => stk
theorem ri_range {θ : List Th} {G : Hp} {n : Nat} : RI K θ G (Itr 0 n) ((List.range n).map fun (i : Nat) => D.int (i : Int)) := by
  refine ⟨fun i θ G H M _ _ _ h => by simpa [Itr] using h, fun θ G H M _ _ _ => by simp [Itr], fun i d θ G H M x H' _ _ rs h y => ?_⟩
  obtain ⟨rfl, rfl⟩ := y
  refine ⟨G, Same.refl _, rs, ?_⟩
  rw [List.getElem?_map] at h
  have hi : i < n := by
    rcases Nat.lt_or_ge i n with q | q
    · exact q
    · rw [List.getElem?_eq_none (by simpa using q)] at h; cases h
  rw [List.getElem?_range hi] at h
  cases h
  rw [Int.zero_add]
  exact .dat (.int _)
theorem di_range1 {tg : Expr} {a : Expr} {p : Pos} {h : Ev (List D)} (hm : X.mg "range" = none) (ha : DA X W [a] h) (hg : Gl X "range" := by rfl) (hs : starEach [a] X.env = [(false, eval a X.env)] := by rfl) : DI X W tg (.Call (.Name "range" p) [a] [] pos) (bnd h oRng1) := by
  obtain ⟨t, q, s⟩ := ha
  refine ⟨_, pi_range1 hg hm q hs, fun θ G => (s θ G).bind (R2 := RI X.K) (k := fun (vs : List V) (_ : L2.St) (H1 : Hp) (R : It → Hp → Prop) => ∃ j : Int, vs = [.int j] ∧ -(2 ^ 62) ≤ j ∧ j < 2 ^ 62 ∧ R (Itr 0 j.toNat) H1) fun θ1 G1 v d _ _ hv => ?_⟩
  unfold oRng1
  split
  · rename_i j
    split
    · rename_i hj
      obtain ⟨u, rfl, hu⟩ := vals1 hv
      rw [hu.int_of]
      intro ρ M r M' θ2 G2 σ H Q p s e rs rv kk
      exact ⟨j, rfl, hj.1, hj.2, Snd.ret (K := X.K) (W := W) (R := RI X.K) (θ0 := θ1) (G0 := G1) (fun _ _ _ _ => ri_range) ρ M r M' θ2 G2 σ H Q p s e rs rv kk⟩
    · exact Snd.stk
  · exact Snd.stk
def oItL (d : D) : Ev (List D) := match d with
  | .lst ds => ret ds
  | _ => stk
def oItT (d : D) : Ev (List D) := match d with
  | .tup ds => ret ds
  | _ => stk
theorem ri_list {θ : List Th} {G : Hp} {a : Addr} {xs : List V} {ds : List D} (h : SqL K G a xs) (r : RpL K G xs ds) : RI K θ G (Itl K a) ds := by
  refine ⟨fun i θ1 G1 H M _ s rs hi => ?_, fun θ1 G1 H M _ s rs => ?_, fun i d θ1 G1 H M x H' _ s rs hd y => ?_⟩
  · obtain ⟨v, hv, _⟩ := r.at (List.getElem?_eq_getElem hi)
    exact ⟨xs, v, rs.sub.seq (s.seq h), hv⟩
  · exact ⟨xs, rs.sub.seq (s.seq h), by rw [r.len]; exact Nat.le_refl _⟩
  · obtain ⟨rfl, y⟩ := y
    have := y xs (rs.sub.seq (s.seq h))
    exact ⟨G1, Same.refl _, rs, .dat ((r.get i x d this hd).mono s)⟩
theorem ri_tup {θ : List Th} {G : Hp} {a : Addr} {xs : List V} {ds : List D} (h : SqT K G a xs) (r : RpL K G xs ds) : RI K θ G (Itt K a) ds := by
  refine ⟨fun i θ1 G1 H M _ s rs hi => ?_, fun θ1 G1 H M _ s rs => ?_, fun i d θ1 G1 H M x H' _ s rs hd y => ?_⟩
  · obtain ⟨v, hv, _⟩ := r.at (List.getElem?_eq_getElem hi)
    exact ⟨xs, v, seqT rs.sub (seqT s h), hv⟩
  · exact ⟨xs, seqT rs.sub (seqT s h), by rw [r.len]; exact Nat.le_refl _⟩
  · obtain ⟨rfl, y⟩ := y
    have := y xs (seqT rs.sub (seqT s h))
    exact ⟨G1, Same.refl _, rs, .dat ((r.get i x d this hd).mono s)⟩
theorem RI.mono {θ0 θ1 : List Th} {G0 G1 : Hp} {J : It} {ds : List D} (h : RI K θ0 G0 J ds) (p : θ0 <+: θ1) (s : Same G0 G1) : RI K θ1 G1 J ds :=
  ⟨fun i θ G H M p1 s1 => h.go i θ G H M (p.trans p1) (s.trans s1), fun θ G H M p1 s1 => h.stop θ G H M (p.trans p1) (s.trans s1), fun i d θ G H M x H' p1 s1 => h.yld i d θ G H M x H' (p.trans p1) (s.trans s1)⟩
theorem di_list {tg e : Expr} {f : Ev D} (h : DE X W e f) : DI X W tg e (bnd f oItL) := by
  obtain ⟨t, q, s⟩ := h
  refine ⟨_, pi_list q, fun θ G => (s θ G).bind (R2 := RI X.K) (k := fun (x : V) (_ : L2.St) (H1 : Hp) (R : It → Hp → Prop) => ∃ a, x = .ref a ∧ (∃ xs, SqL X.K H1 a xs) ∧ R (Itl X.K a) H1) fun θ1 G1 v d _ _ hv => ?_⟩
  unfold oItL
  split
  · rename_i ds
    cases hv with
    | dat hv =>
      cases hv with
      | lst hq l g =>
        rename_i a xs
        intro ρ M r M' θ2 G2 σ H Q p s e rs rv kk
        exact ⟨a, rfl, ⟨xs, .inl (.inl (rs.sub _ _ (s _ _ hq)))⟩, Snd.ret (K := X.K) (W := W) (R := RI X.K) (θ0 := θ1) (G0 := G1) (fun _ _ p s => (ri_list (.inl (.inl hq)) ⟨l, g⟩).mono p s) ρ M r M' θ2 G2 σ H Q p s e rs rv kk⟩
  · exact Snd.stk
/-! ### x[i] = e -/
def sStore (f fo fi : Ev D) : Sv := thenS f fun d => thenS fo fun o => thenS fi fun i => fun ρ M => match o, i with
  | .ptr n, .int k => match M[n]? with
    | some (some ds) => match ixN ds.length k with
      | some j => if d.np = true then some (.nx ρ, M.set n (some (ds.set j d))) else none
      | none => none
    | _ => none
  | _, _ => none
theorem snd_then' {A α : Type} {R : List Th → Hp → A → α → Prop} {t : L2.St → Hp → (A → Hp → Prop) → Prop} {f : Ev α} {k : A → TS} {g : α → Sv} {θ0 : List Th} {G0 : Hp} (h : ∀ θ G, Snd K W R θ G t f)
    (h2 : ∀ θ G v d, θ0 <+: θ → Same G0 G → R θ G v d → ∀ (ρ : Env) (M : Mem) (o : Out) (M' : Mem) (σ : L2.St) (H : Hp) (Dn : Ends), g d ρ M = some (o, M') → Rs K θ G H M → Rσ K θ G σ ρ →
      (∀ (θ' : List Th) (G' H' : Hp), θ <+: θ' → Same G G' → Rs K θ' G' H' M' → Cont K W Dn o θ' G' H') → k v Dn σ H) :
    ∀ (ρ : Env) (M : Mem) (o : Out) (M' : Mem) (θ : List Th) (G : Hp) (σ : L2.St) (H : Hp) (Dn : Ends), θ0 <+: θ → Same G0 G → thenS f g ρ M = some (o, M') → Rs K θ G H M → Rσ K θ G σ ρ →
      (∀ (θ' : List Th) (G' H' : Hp), θ <+: θ' → Same G G' → Rs K θ' G' H' M' → Cont K W Dn o θ' G' H') → t σ H fun v H1 => k v Dn σ H1 := by
  intro ρ M o M' θ G σ H Dn p0 s0 e rs rv kk
  unfold thenS at e
  cases q : f ρ M with
  | none => rw [q] at e; cases e
  | some z =>
    obtain ⟨r1, M1⟩ := z
    rw [q] at e
    refine h θ G ρ M r1 M1 θ G σ H _ (List.prefix_refl _) (Same.refl _) q rs rv fun θ' G' H' p' s' rs' => ?_
    cases r1 with
    | exc C =>
      simp at e
      obtain ⟨e1, e2⟩ := e
      subst e1; subst e2
      exact ⟨fun C' h => by cases h; exact (kk θ' G' H' p' s' rs').ex C ρ σ rfl (rv.mono p' s'), fun d v h => (by cases h)⟩
    | ok a =>
      refine ⟨fun C' h => (by cases h), fun d v h rel => ?_⟩
      cases h
      exact h2 θ' G' v a (p0.trans p') (s0.trans s') rel ρ M1 o M' σ H' Dn e rs' (rv.mono p' s') fun θ2 G2 H2 p2 s2 rs2 => kk θ2 G2 H2 (p'.trans p2) (s'.trans s2) rs2
theorem ds_store {o i e : Expr} {f fo fi : Ev D} {spos : Pos} (he : DE X W e f) (ho : DE X W o fo) (hi : DE X W i fi)
    (ha : ∀ v, assign (.Subscript o i pos) X.env v = (do
      let ov ← holding [v] (eval o X.env)
      let iv ← holding [v, ov] (eval i X.env)
      standAt pos
      holding [v, ov, iv] (setItem ov iv v)
      release [v, ov, iv] []) := by intro _; rfl)
    (hs : swapsWithSole [.Subscript o i pos] e spos.line X.env = pure false := by rfl) (hw : swappedStores [.Subscript o i pos] e X.env = pure none := by rfl)
    (h1 : (assignEach [.Subscript o i pos] X.env).map (·.2) = [assign (.Subscript o i pos) X.env] := by rfl) : DS X W (.Assign [.Subscript o i pos] e spos) (sStore f fo fi) := by
  obtain ⟨t, p, s⟩ := he
  obtain ⟨to, po, so⟩ := ho
  obtain ⟨ti, pi, si⟩ := hi
  refine ⟨_, ps_asg p (pg_sub po pi set_list ha) hs hw h1, ?_⟩
  unfold sStore
  refine snd_then (k := fun v (Dn : Ends) σ H1 => to σ H1 fun o H1 => ti σ H1 fun i H2 => rSetL o i v H2 fun H3 => Dn.nx σ H3) s fun θ G v d hv ρ M o M' σ H Dn e rs rv kk => ?_
  refine snd_then' (θ0 := θ) (G0 := G) (k := fun o (Dn : Ends) σ H1 => ti σ H1 fun i H2 => rSetL o i v H2 fun H3 => Dn.nx σ H3) so (fun θ1 G1 vo do' p1 s1 hvo ρ M o M' σ H Dn e rs rv kk => ?_) ρ M o M' θ G σ H Dn (List.prefix_refl _) (Same.refl _) e rs rv kk
  refine snd_then' (θ0 := θ1) (G0 := G1) (k := fun i (Dn : Ends) σ H2 => rSetL vo i v H2 fun H3 => Dn.nx σ H3) si (fun θ2 G2 vi di p2 s2 hvi ρ M o M' σ H Dn e rs rv kk => ?_) ρ M o M' θ1 G1 σ H Dn (List.prefix_refl _) (Same.refl _) e rs rv kk
  split at e
  · rename_i n k hyp
    split at e
    · rename_i ds hm
      split at e
      · rename_i j hj
        split at e
        · rename_i hnp
          simp at e
          obtain ⟨e1, e2⟩ := e
          subst e1; subst e2
          have hvi' := hvi.int_of
          subst hvi'
          cases hvo with
          | dat hvo => cases hvo
          | ptr hn =>
            have hn2 := pre_get p2 hn
            obtain ⟨g, xs, hx, rl⟩ := rs.mem n _ ds hn2 hm
            refine ⟨_, xs, k, j, rfl, rfl, hx, by rw [rl.len]; exact hj, ?_⟩
            have rd := (hv.rp hnp).mono (s1.trans s2)
            exact (kk θ2 G2 _ (List.prefix_refl _) (Same.refl _) (rs.put hn2 g (rl.set (j := j) rd))).nx ρ σ rfl rv
        · cases e
      · cases e
    · cases e
  · cases e
/-! ### x.append(e) -/
def oApp (o d : D) : Ev D := fun ρ M => match o with
  | .ptr n => match M[n]? with
    | some (some ds) => if d.np = true ∧ ds.length < 16777216 then some (.ok .non, M.set n (some (ds ++ [d]))) else none
    | _ => none
  | _ => none
def okPtr (o : D) : Ev D := fun ρ M => match o with
  | .ptr n => match M[n]? with
    | some (some _) => some (.ok o, M)
    | _ => none
  | _ => none
/-! ### comprehensions -/
def wipeD (ρ : Env) : List Nat → Env
  | [] => ρ
  | v :: vs => (wipeD ρ vs).set v none
theorem rσ_none {θ : List Th} {G : Hp} {σ : L2.St} {ρ : Env} (r : Rσ K θ G σ ρ) (i : Nat) : Rσ K θ G (σ.set i none) (ρ.set i none) := by
  refine ⟨by simp [r.len], fun j d h => ?_⟩
  by_cases hij : i = j
  · subst hij
    rw [List.getElem?_set_self'] at h
    cases q : ρ[i]? with
    | none => rw [q] at h; cases h
    | some z => rw [q] at h; simp at h
  · rw [List.getElem?_set_ne hij] at h ⊢
    exact r.get j d h
theorem rσ_wipe {θ : List Th} {G : Hp} {σ : L2.St} {ρ : Env} (r : Rσ K θ G σ ρ) : ∀ vs : List Nat, Rσ K θ G (wipe σ vs) (wipeD ρ vs)
  | [] => r
  | v :: vs => rσ_none (rσ_wipe r vs) v
theorem wipe_wipe {σ : L2.St} : ∀ {vs : List Nat}, (∀ us : List Nat, (∀ i ∈ vs, i ∈ us) → wipe (wipe σ vs) us = wipe σ us)
  | [] => fun us h => rfl
  | v :: vs => fun us h => by
    show wipe ((wipe σ vs).set v none) us = wipe σ us
    rw [wipe_set, if_pos (h v (by simp))]
    exact wipe_wipe us fun i hi => h i (by simp [hi])
def lcGo (b : Tg) (tt : Ev Bool) (te : Ev D) (n0 : Nat) (ρw : Env) : List D → Mem → Option Mem
  | [], M => some M
  | d :: ds, M => match b d ρw with
    | none => none
    | some ρ1 => match tt ρ1 M with
      | some (.ok true, M1) => match te ρ1 M1 with
        | some (.ok y, M2) => match M2[n0]? with
          | some (some acc) => if y.np = true ∧ acc.length < 16777216 then lcGo b tt te n0 ρw ds (M2.set n0 (some (acc ++ [y]))) else none
          | _ => none
        | _ => none
      | some (.ok false, M1) => lcGo b tt te n0 ρw ds M1
      | _ => none
def lcEnd (n0 : Nat) (M' : Mem) : Option (Res D × Mem) := match M'[n0]? with
  | some (some acc) => some (.ok (.lst acc), if M'.length = n0 + 1 then M'.take n0 else M'.set n0 none)
  | _ => none
def oLc (b : Tg) (tt : Ev Bool) (te : Ev D) (vs : List Nat) (ds : List D) : Ev D := fun ρ M => match lcGo b tt te M.length (wipeD ρ vs) ds (M ++ [some []]) with
  | some M' => lcEnd M.length M'
  | none => none
def W0 : WN := fun _ _ _ => False
theorem snd_lc {wi : TI} {g : TG} {tt : TT} {te : TE} {vs : List Nat} {h : Ev (List D)} {b : Tg} {ft : Ev Bool} {fe : Ev D} {sl : List Nat} (hsl : ∀ i ∈ sl, i ∈ vs) (s : ∀ θ G, Snd K W (RI K) θ G wi h) (sg : SndG K g b sl) (st : ∀ θ G, Snd K W0 RB θ G tt ft) (se : ∀ θ G, Snd K W0 (RV K) θ G te fe) (θ : List Th) (G : Hp) :
    Snd K W (RV K) θ G (tLc wi g tt te vs) (bnd h (oLc b ft fe vs)) := by
  refine (s θ G).bind (R2 := RV K) (k := fun (J : It) (σ : L2.St) (H1 : Hp) (Q : V → Hp → Prop) => ∀ D, H1 D = none → ∃ W : Nat → Nat → Hp → Prop, (∃ m, W 0 m (upd H1 D (.lst []))) ∧ ∀ i m H, W i m H →
    (J.stop i H ∧ Q (.ref D) H) ∨ (J.go i H ∧ ∃ Nx : Hp → Prop, (∀ H', Nx H' → ∃ m', m' < m ∧ W (i + 1) m' H') ∧ ∀ x H', J.yld i H x H' → g x (wipe σ vs) H' fun σ2 H2 => wipe σ2 vs = wipe σ vs ∧ tt σ2 H2 fun b H3 =>
      if b = true then te σ2 H3 fun y H4 => ∃ acc, H4 D = some (.lst acc) ∧ acc.length < sizeLine ∧ Nx (upd H4 D (.lst (acc ++ [y]))) else Nx H3)) fun θ1 G1 J ds _ _ hJ => ?_
  intro ρ M r M' θ2 G2 σ H Q p2 s2 e rs rv kk a ha
  unfold oLc at e
  cases q : lcGo b ft fe M.length (wipeD ρ vs) ds (M ++ [some []]) with
  | none => rw [q] at e; cases e
  | some Me =>
    rw [q] at e
    have rs0 : Rs K (θ2 ++ [(a, Kd.lst)]) G2 (upd H a (.lst [])) (M ++ [some []]) := rs.laidM ha RpL.nil
    have hN0 : (θ2 ++ [(a, Kd.lst)])[M.length]? = some (a, Kd.lst) := by
      rw [← rs.len, List.getElem?_append_right (Nat.le_refl _), Nat.sub_self]; rfl
    refine ⟨fun i m H3 => ∃ M3 θ3 G3, m + i = ds.length ∧ (θ2 ++ [(a, Kd.lst)]) <+: θ3 ∧ Same G2 G3 ∧ Rs K θ3 G3 H3 M3 ∧ lcGo b ft fe M.length (wipeD ρ vs) (ds.drop i) M3 = some Me, ⟨ds.length, _, _, G2, rfl, List.prefix_refl _, Same.refl _, rs0, q⟩, ?_⟩
    rintro i m H3 ⟨M3, θ3, G3, hm, p3, s3, rs3, w⟩
    have p23 : θ2 <+: θ3 := (List.prefix_append _ _).trans p3
    by_cases hi : i < ds.length
    · right
      have hd : ds.drop i = ds[i] :: ds.drop (i + 1) := List.drop_eq_getElem_cons hi
      rw [hd] at w
      unfold lcGo at w
      refine ⟨hJ.go i θ3 G3 H3 M3 (p2.trans p23) (s2.trans s3) rs3 hi, fun H4 => ∃ M4 θ4 G4, (θ2 ++ [(a, Kd.lst)]) <+: θ4 ∧ Same G2 G4 ∧ Rs K θ4 G4 H4 M4 ∧ lcGo b ft fe M.length (wipeD ρ vs) (ds.drop (i + 1)) M4 = some Me, fun H4 hN => ?_, fun x H4 hy => ?_⟩
      · obtain ⟨M4, θ4, G4, a1, a2, a3, a4⟩ := hN
        exact ⟨m - 1, by omega, M4, θ4, G4, by omega, a1, a2, a3, a4⟩
      · obtain ⟨G4, s4, rs4, rx⟩ := hJ.yld i ds[i] θ3 G3 H3 M3 x H4 (p2.trans p23) (s2.trans s3) rs3 (List.getElem?_eq_getElem hi) hy
        cases qb : b ds[i] (wipeD ρ vs) with
        | none => rw [qb] at w; cases w
        | some ρ1 =>
          rw [qb] at w
          dsimp only at w
          refine sg ds[i] (wipeD ρ vs) ρ1 θ3 G4 (wipe σ vs) H4 M3 _ x qb rs4 (rσ_wipe (rv.mono p23 (s3.trans s4)) vs) rx fun σ5 r5 w5 => ?_
          refine ⟨by rw [w5 vs hsl]; exact wipe_wipe vs fun i hi => hi, ?_⟩
          cases qt : ft ρ1 M3 with
          | none => rw [qt] at w; cases w
          | some zt =>
            obtain ⟨rt, M5⟩ := zt
            rw [qt] at w
            refine st θ3 G4 ρ1 M3 rt M5 θ3 G4 σ5 H4 _ (List.prefix_refl _) (Same.refl _) qt rs4 r5 fun θ6 G6 H6 p6 s6 rs6 => ?_
            cases rt with
            | exc C => cases w
            | ok c =>
              refine ⟨fun C h => (by cases h), fun d v hd hv => ?_⟩
              cases hd
              cases hv
              cases c with
              | false =>
                rw [if_neg Bool.false_ne_true]
                exact ⟨M5, θ6, G6, p3.trans p6, (s3.trans s4).trans s6, rs6, w⟩
              | true =>
                rw [if_pos rfl]
                dsimp only at w
                cases qe : fe ρ1 M5 with
                | none => rw [qe] at w; cases w
                | some ze =>
                  obtain ⟨re, M7⟩ := ze
                  rw [qe] at w
                  refine se θ6 G6 ρ1 M5 re M7 θ6 G6 σ5 H6 _ (List.prefix_refl _) (Same.refl _) qe rs6 (r5.mono p6 s6) fun θ8 G8 H8 p8 s8 rs8 => ?_
                  cases re with
                  | exc C => cases w
                  | ok y =>
                    refine ⟨fun C h => (by cases h), fun d v hd hv => ?_⟩
                    cases hd
                    dsimp only at w
                    split at w
                    · rename_i acc hacc
                      split at w
                      · rename_i hc
                        have h8 : θ8[M.length]? = some (a, Kd.lst) := pre_get ((p3.trans p6).trans p8) hN0
                        obtain ⟨g8, xs, hx, rl⟩ := rs8.mem _ _ _ h8 hacc
                        refine ⟨xs, hx, by rw [rl.len, sizeLine_eq]; exact hc.2, _, θ8, G8, (p3.trans p6).trans p8, ((s3.trans s4).trans s6).trans s8, rs8.put h8 g8 (rl.append (RpL.cons (hv.rp hc.1) RpL.nil)), w⟩
                      · cases w
                    · cases w
    · left
      have hd : ds.drop i = [] := List.drop_eq_nil_of_le (by omega)
      rw [hd] at w
      unfold lcGo at w
      cases w
      have hi2 : i = ds.length := by omega
      subst hi2
      refine ⟨hJ.stop θ3 G3 H3 _ (p2.trans p23) (s2.trans s3) rs3, ?_⟩
      unfold lcEnd at e
      dsimp only at e
      split at e
      · rename_i acc hacc
        simp at e
        obtain ⟨e1, e2⟩ := e
        subst e1
        have h3 : θ3[M.length]? = some (a, Kd.lst) := pre_get p3 hN0
        obtain ⟨G9, s9, rp9, rs9⟩ := rs3.freeze h3 hacc
        split at e2
        · rename_i hl
          subst e2
          have rs10 := rs9.take M.length
          rw [List.take_set_of_le (Nat.le_refl _)] at rs10
          exact (kk (θ3.take M.length) G9 H3 (pre_take p23 (by rw [rs.len]; exact Nat.le_refl _)) (s3.trans s9) rs10).2 _ _ rfl (.dat rp9)
        · subst e2
          exact (kk θ3 G9 H3 p23 (s3.trans s9) rs9).2 _ _ rfl (.dat rp9)
      · cases e
end
end Bw
namespace Bw
open PySem PySem.Spec PyProof.Rows L2
/-! ### xs.count(True) -/
def eqkB (k : Bool) (v : Value) : Bool := match v with
  | .bool n => n == k
  | _ => false
section
variable {X : Cx} {W : WN} {pos : Pos} {K : PySem.W.Frag}
def rCntB (K : PySem.W.Frag) : V → List V → Hp → VK → Prop := fun x xs H Q => ∃ (p : Addr) (ns : List Bool) (k : Bool), x = .ref p ∧ xs = [.bl k] ∧ SqL K H p (ns.map V.bl) ∧ Q (.int (ns.count k : Nat)) H
theorem bls_of : ∀ {ns : List Bool} {its : List Value}, Vals (ns.map V.bl) its → its = ns.map Value.bool
  | [], _, h => by cases h; rfl
  | n :: ns, _, h => by
    cases h with
    | cons a b => rw [bls_of b]; cases a; rfl
theorem cntB (k : Bool) : ∀ ns : List Bool, (ns.map Value.bool).countP (eqkB k) = ns.count k
  | [] => rfl
  | n :: ns => by rw [List.map_cons, List.countP_cons, List.count_cons, cntB k ns] <;> rfl
theorem mt_bcount : MtR X "list.count" (rCntB X.K) := by
  intro pins s σ H x xs v us Q I rx rxs h
  obtain ⟨p, ns, k, rfl, rfl, hs, q⟩ := h
  cases rx
  obtain ⟨u, rfl, ru⟩ := rxs.one
  cases ru
  obtain ⟨its, rv, ⟨⟨cls, dd, data, sl⟩, n, ho, hc, hdn, hd⟩, hlen⟩ := I.list hs
  simp only at hc hd
  subst hc hd
  have hi := bls_of rv
  subst hi
  refine call_meets PySem.F.slot_list_count ⟨_, ho, rfl⟩ PySem.F.entry_list_count (PySem.F.args_list_count_2 _ _)
    (SeqAt.list_countAt p (ns.map Value.bool).toArray n dd sl (.bool k) (eqkB k)) ⟨ho, fun y hy => ?_, ?_⟩
  · simp at hy
    rcases hy with ⟨hy, rfl⟩ | ⟨hy, rfl⟩ <;> exact SeqAt.EqAt.bool_bool _ k
  · have ec : (ns.map Value.bool).toArray.toList.countP (eqkB k) = ns.count k := cntB k ns
    refine ⟨.int (ns.count k : Nat), H, I.tok _, ⟨s.toks, ?_⟩, q⟩
    show Value.int (((ns.map Value.bool).toArray.toList.countP (eqkB k) : Nat) : Int) s.toks = Value.int ((ns.count k : Nat) : Int) s.toks
    rw [ec]
def blsOf : List D → Option (List Bool)
  | [] => some []
  | .bl b :: r => (blsOf r).map (b :: ·)
  | _ => none
def oCntB (d : D) (es : List D) : Ev D := match d, es with
  | .lst ds, [.bl k] => match blsOf ds with
    | some ns => ret (.int (ns.count k : Nat))
    | none => stk
  | _, _ => stk
theorem rpl_bls {G : Hp} : ∀ {ds : List D} {xs : List V} {ns : List Bool}, blsOf ds = some ns → RpL K G xs ds → xs = ns.map V.bl
  | [], xs, ns, h, r => by cases h; rw [r.nil_of]; rfl
  | d :: ds, xs, ns, h, r => by
    cases d with
    | bl b =>
      simp only [blsOf] at h
      cases q : blsOf ds with
      | none => rw [q] at h; cases h
      | some ms =>
        rw [q] at h
        cases h
        obtain ⟨v, ys, rfl, hv, rs⟩ := r.uncons
        rw [rpl_bls q rs]
        cases hv; rfl
    | _ => cases h
/-- o.m(e, ..) of a list that stays as it is -/
theorem de_cntB {o e : Expr} {es : List Expr} {apos : Pos} {f : Ev D} {h : Ev (List D)} (ho : DE X W o f) (ha : DA X W (e :: es) h)
    (hbase : attributeBase o "count" X.env (eval o X.env) = eval o X.env := by rfl)
    (hfew : ((backTo pos (starEach (e :: es) X.env)).all (fun x => !x.1) && (backToKw pos (keywordEach [] X.env)).all (fun x => x.1.isSome)
      && decide ((e :: es).length + ([] : List Keyword).length + (if ([] : List Keyword).isEmpty then 0 else 1) < 30)) = true := by rfl)
    (hline : (apos.endLine == pos.line) = true := by rfl) (hs : starEach (e :: es) X.env = (false, eval e X.env) :: starEach es X.env := by rfl) (hplain : (backTo pos (starEach es X.env)).any (·.1) = false := by rfl) :
    DE X W (.Call (.Attribute o "count" apos) (e :: es) [] pos) (bnd f fun d => bnd (oItL d) fun _ => bnd h fun es => oCntB d es) := by
  obtain ⟨to, po, so⟩ := ho
  obtain ⟨t, p, s⟩ := ha
  refine ⟨_, pe_bm PySem.F.plainAttrs_list PySem.F.slot_list_count PySem.F.type_list_count mt_bcount po p hbase hfew hline hs hplain, fun θ G => ?_⟩
  refine (so θ G).bind (R2 := RV X.K) (k := fun (x : V) (σ : L2.St) (H1 : Hp) (Q : V → Hp → Prop) => tyV X.K "list" x H1 ∧ t σ H1 fun xs H2 => rCntB X.K x xs H2 Q) fun θ1 G1 v d _ _ hv => ?_
  unfold oItL
  split
  · rename_i ds
    cases hv with
    | dat hv =>
      cases hv with
      | lst hq l g =>
        rename_i a xs
        intro ρ M r M' θ2 G2 σ H Q p s1 e rs rv kk
        refine ⟨.inl ⟨rfl, xs, .inl (.inl (rs.sub _ _ (s1 _ _ hq)))⟩, ?_⟩
        refine (s θ1 G1).bind (R2 := RV X.K) (k := fun (ys : List V) (_ : L2.St) (H2 : Hp) (Q : V → Hp → Prop) => rCntB X.K (.ref a) ys H2 Q) (g := fun es => oCntB (.lst ds) es) (fun θ3 G3 ys es _ s3 hy => ?_) ρ M r M' θ2 G2 σ H Q p s1 e rs rv kk
        unfold oCntB
        split
        · rename_i d1 d2 k e1
          split
          · rename_i ns hns
            cases e1
            obtain ⟨u, rfl, hu⟩ := vals1 hy
            rw [hu.bl_of]
            have ex := rpl_bls hns ⟨l, g⟩
            subst ex
            intro ρ M r M' θ4 G4 σ H Q p4 s4 e rs rv kk
            exact ⟨a, ns, k, rfl, rfl, .inl (.inl (rs.sub _ _ (s4 _ _ (s3 _ _ hq)))), Snd.ret (K := X.K) (W := W) (R := RV X.K) (θ0 := θ3) (G0 := G3) (fun _ _ _ _ => .dat (.int _)) ρ M r M' θ4 G4 σ H Q p4 s4 e rs rv kk⟩
          · exact Snd.stk
        · exact Snd.stk
  · exact Snd.stk
/-- xs.append(e) -/
theorem de_append {o e : Expr} {apos : Pos} {f fe : Ev D} (ho : DE X W o f) (ha : DE X W e fe)
    (hbase : attributeBase o "append" X.env (eval o X.env) = eval o X.env := by rfl)
    (hfew : ((backTo pos (starEach [e] X.env)).all (fun x => !x.1) && (backToKw pos (keywordEach [] X.env)).all (fun x => x.1.isSome)
      && decide ([e].length + ([] : List Keyword).length + (if ([] : List Keyword).isEmpty then 0 else 1) < 30)) = true := by rfl)
    (hline : (apos.endLine == pos.line) = true := by rfl) (hs : starEach [e] X.env = (false, eval e X.env) :: starEach [] X.env := by rfl) (hplain : (backTo pos (starEach [] X.env)).any (·.1) = false := by rfl) :
    DE X W (.Call (.Attribute o "append" apos) [e] [] pos) (bnd f fun d => bnd (okPtr d) fun d => bnd fe fun y => oApp d y) := by
  obtain ⟨to, po, so⟩ := ho
  obtain ⟨t, p, s⟩ := ha
  refine ⟨_, pe_bm PySem.F.plainAttrs_list PySem.F.slot_list_append PySem.F.type_list_append mt_append po (pa_cons p pa_nil hs) hbase hfew hline hs hplain, fun θ G => ?_⟩
  refine (so θ G).bind (R2 := RV X.K) (k := fun (x : V) (σ : L2.St) (H1 : Hp) (Q : V → Hp → Prop) => tyV X.K "list" x H1 ∧ (tCons t tNil) σ H1 fun xs H2 => rAppend x xs H2 Q) fun θ1 G1 v d _ _ hv => ?_
  intro ρ M r M' θ2 G2 σ H Q p2 s1 e rs rv kk
  unfold bnd at e
  unfold okPtr at e
  cases hv with
  | dat hv => cases hv <;> cases e
  | exv _ _ => cases e
  | dpt _ => cases e
  | npt _ => cases e
  | ptr hn =>
    rename_i n a
    dsimp only at e
    cases q : M[n]? with
    | none => rw [q] at e; cases e
    | some z =>
      cases z with
      | none => rw [q] at e; cases e
      | some ds0 =>
        rw [q] at e
        dsimp only at e
        obtain ⟨g0, xs0, hx0, rl0⟩ := rs.mem n a ds0 (pre_get p2 hn) q
        refine ⟨.inl ⟨rfl, xs0, .inl (.inl hx0)⟩, ?_⟩
        show t σ H fun x H1 => rAppend (.ref a) [x] H1 Q
        cases qe : fe ρ M with
        | none => rw [qe] at e; cases e
        | some ze =>
          obtain ⟨re, M3⟩ := ze
          rw [qe] at e
          refine s θ2 G2 ρ M re M3 θ2 G2 σ H _ (List.prefix_refl _) (Same.refl _) qe rs rv fun θ4 G4 H4 p4 s4 rs4 => ?_
          cases re with
          | exc C =>
            dsimp only at e
            simp at e
            obtain ⟨e1, e2⟩ := e
            subst e1; subst e2
            exact ⟨fun C' h => (kk θ4 G4 H4 p4 s4 rs4).1 C' (by cases h; rfl), fun d v h => (by cases h)⟩
          | ok y =>
            refine ⟨fun C h => (by cases h), fun d v hd hv => ?_⟩
            cases hd
            unfold oApp at e
            dsimp only at e
            split at e
            · rename_i ds hds
              split at e
              · rename_i hc
                simp at e
                obtain ⟨e1, e2⟩ := e
                subst e1; subst e2
                have h4 := pre_get (p2.trans p4) hn
                obtain ⟨g, xs, hx, rl⟩ := rs4.mem n a ds h4 hds
                exact ⟨a, xs, v, rfl, rfl, hx, by rw [rl.len, sizeLine_eq]; exact hc.2, (kk θ4 G4 _ p4 s4 (rs4.put h4 g (rl.append (RpL.cons (hv.rp hc.1) RpL.nil)))).2 _ _ rfl (.dat .non)⟩
              · cases e
            · cases e
/-! ### comprehension rules -/
def DTs (X : Cx) (W : WN) (es : List Expr) (f : Ev Bool) : Prop := ∃ t, PTs X es t ∧ ∀ θ G, Snd X.K W RB θ G t f
theorem dts_nil : DTs X W [] (ret true) := ⟨_, pts_nil, fun _ _ => snd_b⟩
theorem dts_one {c : Expr} {f : Ev Bool} (h : DT X W c f) : DTs X W [c] f := by obtain ⟨t, p, s⟩ := h; exact ⟨_, pts_one p, s⟩
/-- the reading of what is given -/
def tOf (K : PySem.W.Frag) (W : WN) {A α : Type} (R : List Th → Hp → A → α → Prop) (f : Ev α) : L2.St → Hp → (A → Hp → Prop) → Prop := fun σ H Q => ∃ (ρ : Env) (M : Mem) (r : Res α) (M' : Mem) (θ : List Th) (G : Hp), f ρ M = some (r, M') ∧ Rs K θ G H M ∧ Rσ K θ G σ ρ ∧
  ∀ (θ' : List Th) (G' H' : Hp), θ <+: θ' → Same G G' → Rs K θ' G' H' M' → (∀ C, r = .exc C → W C σ H') ∧ (∀ d v, r = .ok d → R θ' G' v d → Q v H')
theorem snd_of {A α : Type} {R : List Th → Hp → A → α → Prop} {f : Ev α} (θ : List Th) (G : Hp) : Snd K W R θ G (tOf K W R f) f :=
  fun ρ M r M' θ1 G1 σ H Q _ _ e rs rv kk => ⟨ρ, M, r, M', θ1, G1, e, rs, rv, kk⟩
theorem Snd.can {A α : Type} {R : List Th → Hp → A → α → Prop} {f : Ev α} {t : L2.St → Hp → (A → Hp → Prop) → Prop} (s : ∀ θ G, Snd K W R θ G t f) {σ : L2.St} {H : Hp} {Q : A → Hp → Prop} (h : tOf K W R f σ H Q) : t σ H Q := by
  obtain ⟨ρ, M, r, M', θ, G, e, rs, rv, kk⟩ := h
  exact s θ G ρ M r M' θ G σ H Q (List.prefix_refl _) (Same.refl _) e rs rv kk
theorem DE.can {e : Expr} {f : Ev D} (h : DE X W e f) : PE X e (tOf X.K W (RV X.K) f) := by
  obtain ⟨t, p, s⟩ := h
  exact ⟨fun pins s1 σ H Q I q => p.run pins s1 σ H Q I (Snd.can s q)⟩
theorem DTs.can {es : List Expr} {f : Ev Bool} (h : DTs X W es f) : PTs X es (tOf X.K W RB f) := by
  obtain ⟨t, p, s⟩ := h
  exact ⟨fun pins s1 σ H Q I q => p.run pins s1 σ H Q I (Snd.can s q)⟩
def gOf (K : PySem.W.Frag) (b : Tg) (sl : List Nat) : TG := fun v σ H Q => ∃ (d : D) (ρ ρ' : Env) (θ : List Th) (G : Hp) (M : Mem), b d ρ = some ρ' ∧ Rs K θ G H M ∧ Rσ K θ G σ ρ ∧ Rv K θ G v d ∧ ∀ σ', Rσ K θ G σ' ρ' → Wr sl σ σ' → Q σ' H
theorem sndG_of {b : Tg} {sl : List Nat} : SndG K (gOf K b sl) b sl := fun d ρ ρ' θ G σ H M Q v e rs rv hv k => ⟨d, ρ, ρ', θ, G, M, e, rs, rv, hv, k⟩
theorem DG.can {tg : Expr} {b : Tg} {sl : List Nat} (h : DG X tg b sl) : PG X tg (gOf X.K b sl) := by
  obtain ⟨t, p, s⟩ := h
  refine ⟨fun pins s1 σ H v u Q I r q => p.run pins s1 σ H v u Q I r ?_⟩
  obtain ⟨d, ρ, ρ', θ, G, M, e, rs, rv, hv, k⟩ := q
  exact s d ρ ρ' θ G σ H M Q v e rs rv hv k
theorem de_lc {elt tg iter : Expr} {ifs : List Expr} {scope : Scope} (own : List (Str × Nat)) {h : Ev (List D)} {b : Tg} {ft : Ev Bool} {fe : Ev D} {sl : List Nat} (hN : X.N.Nodup) (ok : BlkOk X.N X.env.scope scope own) (hi : DI X W tg iter h)
    (hg : ∀ (s : Shared) (H : Hp) (C : Addr) (cl : List (Str × Addr)) (fp : List Addr), DG (X.blk s H scope (compEnvC scope cl C X.env) fp) tg b sl)
    (ht : ∀ (s : Shared) (H : Hp) (C : Addr) (cl : List (Str × Addr)) (fp : List Addr), DTs (X.blk s H scope (compEnvC scope cl C X.env) fp) W0 ifs ft)
    (he : ∀ (s : Shared) (H : Hp) (C : Addr) (cl : List (Str × Addr)) (fp : List Addr), DE (X.blk s H scope (compEnvC scope cl C X.env) fp) W0 elt fe)
    (hsl : ∀ i ∈ sl, i ∈ own.map (·.2) := by decide)
    (hc : X.calm = true := by rfl) (hs : ∀ x, foldedSetIterable iter X.env x = pure x := by intro _; rfl) : DE X W (.ListComp elt [⟨tg, iter, ifs, 0⟩] scope pos) (bnd h (oLc b ft fe (own.map (·.2)))) := by
  obtain ⟨wi, pi, si⟩ := hi
  exact ⟨_, pe_lc (g := gOf X.K b sl) (tt := tOf X.K W0 RB ft) (te := tOf X.K W0 (RV X.K) fe) hc hN pi ok (fun s H C cl fp => (hg s H C cl fp).can) (fun s H C cl fp => (ht s H C cl fp).can) (fun s H C cl fp => (he s H C cl fp).can) hs, snd_lc hsl si sndG_of (fun θ G => snd_of θ G) fun θ G => snd_of θ G⟩
/-! ### calls of defs -/
abbrev Fd := List D → Mem → Option (Res D × Mem)
def spF (K : PySem.W.Frag) (mg : Str → Option Value) (n : Nat) (F : Fd) : Sp := fun vs H Q E => ∃ (θ : List Th) (G : Hp) (ds : List D) (M : Mem) (r : Res D) (M' : Mem), Rs K θ G H M ∧ RvL K θ G vs ds ∧ ds.length = n ∧ F ds M = some (r, M') ∧
  ∀ (θ' : List Th) (G' H' : Hp), θ <+: θ' → Same G G' → Rs K θ' G' H' M' → (∀ x C, r = .exc x → mg x = some (.ref C) → E (.ref C) none H') ∧ (∀ d v, r = .ok d → Rv K θ' G' v d → Q v H')
def oCall (n : Nat) (F : Fd) (ds : List D) : Ev D := fun _ M => if ds.length = n then F ds M else none
/-- how the wishes by names and by classes go together -/
def WOk (mg : Str → Option Value) (WC : WX) (W : WN) : Prop := ∀ x σ H, W x σ H → ∀ C, mg x = some (.ref C) → WC (.ref C) none σ H
theorem wok0 {mg : Str → Option Value} : WOk mg (fun _ _ _ _ => False) W0 := fun _ _ _ h => h.elim
theorem pass_0 {σ : L2.St} {E : XK} : PassesAt CX0 X σ E := fun _ _ _ _ _ _ h => h.elim
/-- how a body's end is the call's -/
inductive Exit : Out → Mem → Res D → Mem → Prop
  | rt {d : D} {M' g : Mem} (h : ∀ n, d = .ptr n ∨ d = .npt n → n < M'.length) (h2 : ∀ n, d ≠ .dpt n) : Exit (.rt d) (M' ++ g) (.ok d) M'
  | nx {ρ : Env} {M' g : Mem} : Exit (.nx ρ) (M' ++ g) (.ok .non) M'
  | ex {C : Str} {ρ : Env} {M' g : Mem} : Exit (.ex C ρ) (M' ++ g) (.exc C) M'
def startD (N : List Str) (ds : List D) : Env := ds.map some ++ List.replicate (N.length - ds.length) none
theorem body_ok {mg : Str → Option Value} {N : List Str} {n : Nat} {F : Fd} {t : TS} {fb : Sv} {W : WN} {vs : List V} {H : Hp} {Q : VK} {E : XK} (hW : ∀ x σ H, (∀ C, mg x = some (.ref C) → E (.ref C) none H) → W x σ H) (s : SndS K W t fb)
    (hF : ∀ ds M r M', ds.length = n → F ds M = some (r, M') → M.length ≤ M'.length ∧ ∃ o M2, fb (startD N ds) M = some (o, M2) ∧ Exit o M2 r M') (h : spF K mg n F vs H Q E) : t { nx := fun _ H' => Q .non H', rt := Q } (L2.start N vs) H := by
  obtain ⟨θ, G, ds, M, r, M', rs, rv, hl, e, kk⟩ := h
  obtain ⟨hle, o, M2, e2, ex⟩ := hF ds M r M' hl e
  refine s (startD N ds) M o M2 θ G (L2.start N vs) H _ e2 rs (Rσ.start rv.len rv.get _ rfl) fun θ' G' H' p' s' rs' => ?_
  have tk : ∀ {g : Mem}, M2 = M' ++ g → Rs K (θ'.take M'.length) G' H' M' ∧ θ <+: θ'.take M'.length := fun {g} h => by
    subst h
    have := rs'.take M'.length
    rw [List.take_left] at this
    exact ⟨this, pre_take p' (by rw [rs.len]; exact hle)⟩
  cases ex with
  | rt hp hq =>
    obtain ⟨r1, r2⟩ := tk rfl
    refine ⟨fun ρ σ h => (by cases h), fun ρ σ h => (by cases h), fun ρ σ h => (by cases h), fun d v h hv => ?_, fun C ρ σ h => (by cases h)⟩
    cases h
    refine (kk _ G' H' r2 s' r1).2 _ v rfl ?_
    cases hv with
    | dat hv => exact .dat hv
    | exv hn h => exact .exv hn h
    | dpt hn => exact absurd rfl (hq _)
    | ptr hn =>
      refine .ptr ?_
      rw [List.getElem?_take_of_lt (hp _ (.inl rfl))]
      exact hn
    | npt hn =>
      refine .npt ?_
      rw [List.getElem?_take_of_lt (hp _ (.inr rfl))]
      exact hn
  | nx =>
    obtain ⟨r1, r2⟩ := tk rfl
    refine ⟨fun ρ σ h _ => ?_, fun ρ σ h => (by cases h), fun ρ σ h => (by cases h), fun d v h => (by cases h), fun C ρ σ h => (by cases h)⟩
    exact (kk _ G' H' r2 s' r1).2 .non .non rfl (.dat .non)
  | ex =>
    obtain ⟨r1, r2⟩ := tk rfl
    refine ⟨fun ρ σ h => (by cases h), fun ρ σ h => (by cases h), fun ρ σ h => (by cases h), fun d v h => (by cases h), fun C ρ σ h _ => ?_⟩
    cases h
    exact hW _ _ _ fun C hC => (kk _ G' H' r2 s' r1).1 _ C rfl hC
theorem spF_len {mg : Str → Option Value} {n : Nat} {F : Fd} {vs : List V} {H : Hp} {Q : VK} {E : XK} (h : spF K mg n F vs H Q E) : vs.length = n := by
  obtain ⟨θ, G, ds, M, r, M', rs, rv, hl, e, kk⟩ := h
  rw [rv.len]; exact hl
theorem wokX {mg : Str → Option Value} {E : XK} : WOk mg (fun cls d _ H => E cls d H) (fun x _ H => ∀ C, mg x = some (.ref C) → E (.ref C) none H) := fun _ _ _ h C hC => h C hC
end
end Bw
namespace Bw
open PySem PySem.Spec PyProof.Rows L2
def D.ptLt (d : D) (k : Nat) : Bool := match d with
  | .ptr n => decide (n < k)
  | .npt n => decide (n < k)
  | .dpt _ => false
  | _ => true
/-- a def's worth, from its body; so many new lists stay -/
def runF (keep : Nat) (N : List Str) (fb : Sv) : Fd := fun ds M => match fb (startD N ds) M with
  | some (.rt d, M2) => if M.length + keep ≤ M2.length ∧ d.ptLt (M.length + keep) = true then some (.ok d, M2.take (M.length + keep)) else none
  | some (.nx _, M2) => if M.length + keep ≤ M2.length then some (.ok .non, M2.take (M.length + keep)) else none
  | _ => none
theorem runF_ok {keep n : Nat} {N : List Str} {fb : Sv} : ∀ ds M r M', ds.length = n → runF keep N fb ds M = some (r, M') → M.length ≤ M'.length ∧ ∃ o M2, fb (startD N ds) M = some (o, M2) ∧ Exit o M2 r M' := by
  intro ds M r M' _ h
  unfold runF at h
  split at h
  · rename_i d M2 e
    split at h
    · rename_i hc
      cases h
      refine ⟨by rw [List.length_take]; omega, _, _, e, ?_⟩
      have e2 : M2 = M2.take (M.length + keep) ++ M2.drop (M.length + keep) := (List.take_append_drop _ _).symm
      have ex := Exit.rt (d := d) (M' := M2.take (M.length + keep)) (g := M2.drop (M.length + keep)) (fun n hn => by
        rw [List.length_take]
        rcases hn with hn | hn
        · subst hn
          have := of_decide_eq_true hc.2
          omega
        · subst hn
          have := of_decide_eq_true hc.2
          omega) fun n hn => by subst hn; cases hc.2
      rw [← e2] at ex
      exact ex
    · cases h
  · rename_i ρ M2 e
    split at h
    · rename_i hc
      cases h
      refine ⟨by rw [List.length_take]; omega, _, _, e, ?_⟩
      have e2 : M2 = M2.take (M.length + keep) ++ M2.drop (M.length + keep) := (List.take_append_drop _ _).symm
      have ex := Exit.nx (ρ := ρ) (M' := M2.take (M.length + keep)) (g := M2.drop (M.length + keep))
      rw [← e2] at ex
      exact ex
    · cases h
  · cases h
theorem runF_nx {keep : Nat} {N : List Str} {fb : Sv} : ∀ ds M C M', runF keep N fb ds M ≠ some (.exc C, M') := by
  intro ds M C M' h
  unfold runF at h
  split at h
  · split at h <;> cases h
  · split at h <;> cases h
  · cases h
/-- what a body gives, as the def's worth -/
theorem runF_rt {N : List Str} {fb : Sv} {ds : List D} {M M2 : Mem} {d : D} (h : fb (startD N ds) M = some (.rt d, M2)) (hl : M.length ≤ M2.length) (hp : d.np = true) : runF 0 N fb ds M = some (.ok d, M2.take M.length) := by
  unfold runF
  rw [h]
  dsimp only
  rw [if_pos]
  · rfl
  · refine ⟨hl, ?_⟩
    cases d <;> first | rfl | cases hp
theorem runF_pure {N : List Str} {fb : Sv} {ds : List D} {M : Mem} {d : D} (h : fb (startD N ds) M = some (.rt d, M)) (hp : d.np = true) : runF 0 N fb ds M = some (.ok d, M) := by
  rw [runF_rt h (Nat.le_refl _) hp, List.take_length]
/-- the law's promise: no error -/
def spL (K : PySem.W.Frag) (n : Nat) (F : Fd) : Sp := fun vs H Q _ => ∃ (θ : List Th) (G : Hp) (ds : List D) (M : Mem) (d : D) (M' : Mem), Rs K θ G H M ∧ RvL K θ G vs ds ∧ ds.length = n ∧ F ds M = some (.ok d, M') ∧
  ∀ (θ' : List Th) (G' H' : Hp), θ <+: θ' → Same G G' → Rs K θ' G' H' M' → ∀ v, Rv K θ' G' v d → Q v H'
theorem spL_imp {K : PySem.W.Frag} {mg : Str → Option Value} {n : Nat} {F : Fd} (vs : List V) (H : Hp) (Q : VK) (E : XK) (h : spL K n F vs H Q E) : spF K mg n F vs H Q E := by
  obtain ⟨θ, G, ds, M, d, M', rs, rv, hl, e, kk⟩ := h
  exact ⟨θ, G, ds, M, .ok d, M', rs, rv, hl, e, fun θ' G' H' p s rs' => ⟨fun x C h => (by cases h), fun d' v h hv => by cases h; exact kk θ' G' H' p s rs' v hv⟩⟩
/-- the law's start -/
theorem law_start {K : PySem.W.Frag} {F : Fd} {H : Hp} {a : Addr} {ns : List Int} (hl : ns.length ≤ 63) (hS : SqL K H a (ns.map V.int)) (hF : ∀ ns : List Int, ns.length ≤ 63 → ∃ M', F [.scr (ns.map D.int)] [] = some (.ok (.bl true), M')) : spL K 1 F [.ref a] H (fun v _ => v = .bl true) fun _ _ _ => False := by
  obtain ⟨M', e⟩ := hF ns hl
  refine ⟨[], H, _, [], _, M', ⟨Same.refl _, rfl, List.nodup_nil, fun n a h => by simp at h, fun n a ds h => by simp at h, fun n a b es h => by simp at h, fun n a ds h => by simp at h⟩, RvL.cons (.dat (.scr hS (by simp) fun i v d h1 h2 => ?_)) RvL.nil, rfl, e, fun θ' G' H' p s rs v hv => hv.bl_of⟩
  rw [List.getElem?_map] at h1 h2
  cases q : ns[i]? with
  | none => rw [q] at h1; cases h1
  | some n =>
    rw [q] at h1 h2
    cases h1; cases h2
    exact .int n
end Bw
namespace Bw
open PySem PySem.Spec PyProof.Rows L2
/-! ### an error that was caught, kept as a value -/
theorem exq_ok {P : Program} {w : World} {H : Hp} {h : Heap} {a : Addr} {cls : Value} {oe : Obj} {vs : Array Value} (e : h.get? a = some oe) (z : Zc cls none oe) (d : oe.data = .fields vs) : ObjOk P w H h a (ExQ cls a) :=
  ⟨⟨oe, vs, e, z, d⟩, ⟨oe, e⟩, fun _ h2 ⟨o1, v1, e1, z1, d1⟩ k => ⟨o1, v1, k o1 e1, z1, d1⟩⟩
section
variable {X : Cx} {pins : List (Addr × Obj)} {σ : L2.St} {H : Hp} {s : Shared}
/-- an object that is there and is not tracked, new since the entry, is tracked from here on -/
theorem inv_track {a : Addr} {oe : Obj} {vs : Array Value} {cls : Value} (I : Inv X pins σ H s) (new : X.s_0.heap.get? a = none) (np : ∀ p ∈ X.pn ++ pins, p.1 ≠ a) (e : s.heap.get? a = some oe) (d : oe.data = .fields vs) (z : Zc cls none oe) (na : H a = none) (nL : a ≠ X.env.locals) :
    Inv X pins σ (upd H a (ExQ cls a)) s := by
  have ne : ∀ {b : Addr} {o : HO}, H b = some o → b ≠ a := fun q => ne_of_none q na
  obtain ⟨hok, hos, hbare, hbase, hloc, hcell, hfree, hfreeC, hpin, hh, hlen⟩ := I
  refine ⟨hok, hos, hbare, ⟨hbase.keep, hbase.slot, fun b o q n x => ?_, hbase.there, fun b xs q => ?_, fun b o u q => ?_, fun b ps q => ?_⟩, hloc, hcell, ?_, fun x c q => ?_, fun p hp => ?_, ?_, hlen⟩
  · rw [upd_ne (fun t => by rw [t, new] at q; cases q)]
    exact hbase.free b o q n x
  · have q2 := hbase.tups b xs q
    rw [upd_ne (ne q2)]; exact q2
  · have q2 := hbase.frzs b o u q
    rw [upd_ne (ne q2)]; exact q2
  · obtain ⟨more, q2⟩ := hbase.tbls b ps q
    exact ⟨more, by rw [upd_ne (ne q2)]; exact q2⟩
  · rw [upd_ne (Ne.symm nL)]; exact hfree
  · have nc : c ≠ a := fun t => by
      obtain ⟨v, ⟨o, eo, ho⟩⟩ := hcell x c q
      rw [t, e] at eo
      cases eo
      first
        | (rw [d] at ho; cases ho)
        | (obtain ⟨_, ho⟩ := ho; rw [d] at ho; cases ho)
    rw [upd_ne nc]; exact hfreeC x c q
  · obtain ⟨p1, p2, p3⟩ := hpin p hp
    exact ⟨p1, by rw [upd_ne (np p hp)]; exact p2, p3⟩
  · intro b u q
    by_cases hb : b = a
    · subst hb
      rw [upd_same] at q
      cases q
      exact exq_ok e z d
    · rw [upd_ne hb] at q
      exact (hh b u q).stay (fun _ _ _ t => t) (fun c t => by rw [upd_ne (ne t)]; exact t) fun c xs t => by rw [upd_ne (ne t)]; exact t
end
end Bw
namespace Bw
open PySem PySem.Spec PyProof.Rows L2
/-- the wish of the body of a try whose one clause is «except c as n», n in slot i; behind the suite the error stands as a value -/
def wK (K : PySem.W.Frag) (c : Value) (i : Nat) (ts : Addr → Value → Option Addr → TS) (Wo : WX) (Dn : Ends) : WX := fun cls d σ H =>
  d = none ∧ ∃ b, PySem.W.exmOne K cls c = some b ∧ (b = false → Wo cls d σ H) ∧
    (b = true → ∀ a, H a = none → ts a cls d { nx := fun σ1 H1 => Dn.nx (σ1.set i none) (upd H1 a (ExQ cls a)), rt := fun v H1 => Dn.rt v (upd H1 a (ExQ cls a)), bk := fun σ1 H1 => Dn.bk (σ1.set i none) (upd H1 a (ExQ cls a)), ct := fun σ1 H1 => Dn.ct (σ1.set i none) (upd H1 a (ExQ cls a)) } (σ.set i (some (.ref a))) H)
section
variable {X : Cx} {x n : Str} {c : Value} {i : Nat} {body more : List Stmt} {first : Stmt} {np pos hpos : Pos} {tb : WX → TS} {ts : Addr → Value → Option Addr → TS} {Wo : WX}
end
end Bw
namespace Bw
open PySem PySem.Spec PyProof.Rows L2
section
variable {X : Cx} {W : WN} {pos : Pos} {K : PySem.W.Frag}
/-! ### isinstance -/
/-- a value's kind, errors that were caught too -/
def TyQ (K : PySem.W.Frag) (H : Hp) (x : V) (t : Value) : Prop := TyX K H x t ∨ ∃ a C, x = .ref a ∧ t = .ref C ∧ H a = some (ExQ (.ref C) a) ∧ ExcC K C
theorem kitq {pins : List (Addr × Obj)} {σ : L2.St} {H : Hp} {s : Shared} {x : V} {u t : Value} (I : Inv X pins σ H s) (rx : RelV x u) (ty : TyQ X.K H x t) : ∃ P : Heap → Prop, PySem.W.KitX X.K u t P ∧ P s.heap ∧ u ≠ .builtin "__main__.__loader__#opaque" := by
  rcases ty with ty | ⟨a, C, rfl, rfl, ha, c⟩
  · exact kit_of I rx ty
  · cases rx
    obtain ⟨⟨⟨oc, od, oda, osl⟩, vs, e, ⟨z1, z2⟩, d⟩, _, _⟩ := I.hok a _ ha
    dsimp only at z1 z2 d
    subst z1 z2 d
    exact ⟨_, PySem.W.handS_kitx_exc c.hg c.hk c.hs c.hd c.ha c.hn c.ht c.hm, ⟨e, rfl, rfl, trivial⟩, fun z => nomatch z⟩
def rQ1 (K : PySem.W.Frag) (c : V) (u : Value) : List V → Hp → VK → Prop := fun xs H Q => ∃ (x : V) (t : Value) (b : Bool), xs = [x, c] ∧ TyQ K H x t ∧ PySem.W.kitOne K t u = some b ∧ Q (.bl b) H
theorem call_Q1 {c : V} {u : Value} (k : ClsV c u) : CallR X (.builtin "isinstance") (rQ1 X.K c u) := by
  intro pins s σ H xs us Q I r h
  obtain ⟨x, t, b, rfl, ty, e, q⟩ := h
  obtain ⟨u1, u2, rfl, r1, r2⟩ := L2.vals2 r
  cases k.eq r2
  obtain ⟨P, Z, p, hx⟩ := kitq I r1 ty
  exact PySem.W.kia_one Z I.kIn p e hx fun tk => ⟨.bl b, H, I.tok tk, rfl, q⟩
def rQT (K : PySem.W.Frag) (cs : List V) (ws : List Value) : List V → Hp → VK → Prop := fun xs H Q => ∃ (x : V) (tp : Addr) (t : Value) (b : Bool), xs = [x, .ref tp] ∧ H tp = some (.tup cs) ∧ TyQ K H x t ∧ PySem.W.kitAny K t ws = some b ∧ Q (.bl b) H
/-- the answer, by the kind: tb of a built-in type, tx of an error's class -/
def oIsi (tb : String → Option Bool) (tx : Str → Option Bool) (d : D) : Ev D := fun _ M =>
  let o : Option Bool := match d with
    | .non => tb "NoneType"
    | .bl _ => tb "bool"
    | .int _ => tb "int"
    | .str _ => tb "str"
    | .tup _ => tb "tuple"
    | .lst _ => tb "list"
    | .scr _ => tb "list"
    | .emp => tb "dict"
    | .ptr n => match M[n]? with
      | some (some _) => tb "list"
      | _ => none
    | .exv x => tx x
    | .dpt _ => none
    | .npt _ => none
  match o with
  | some b => some (.ok (.bl b), M)
  | none => none
/-- what is to be known of the classes that are asked for -/
structure IsiOk (K : PySem.W.Frag) (ask : Value → Option Bool) (tb : String → Option Bool) (tx : Str → Option Bool) : Prop where
  tb : ∀ a b, tb a = some b → ask (.type a) = some b
  tx : ∀ x C b, tx x = some b → PySem.W.nsIn K mainGlobals x = some (some (.ref C)) → ask (.ref C) = some b ∧ ExcC K C
theorem tyq_of {θ : List Th} {G H : Hp} {M : Mem} {v : V} {d : D} {ask : Value → Option Bool} {tb : String → Option Bool} {tx : Str → Option Bool} (rs : Rs K θ G H M) (hv : Rv K θ G v d) (ok : IsiOk K ask tb tx) {ρ : Env} {r : Res D} {M' : Mem} (e : oIsi tb tx d ρ M = some (r, M')) : ∃ b t, r = .ok (.bl b) ∧ M' = M ∧ TyQ K H v t ∧ ask t = some b := by
  have sqT : ∀ {a xs}, SqT K G a xs → TyX K H (.ref a) (.type "tuple") := fun {a xs} h => by
    rcases seqT rs.sub h with (h | ⟨o, h⟩) | ⟨o, its, n, h1, h2, _⟩
    · exact .base (.tup h)
    · exact .fTuple h
    · exact .kTuple h1 h2
  have sqL : ∀ {a xs}, SqL K H a xs → TyX K H (.ref a) (.type "list") := fun {a xs} h => by
    rcases h with (h | ⟨o, h⟩) | ⟨o, its, n, h1, h2, _⟩
    · exact .base (.lst h)
    · exact .base (.frz h)
    · exact .kList h1 h2
  have go : ∀ {o : Option Bool} {t : Value}, (match o with | some b => some (Res.ok (D.bl b), M) | none => none) = some (r, M') → TyQ K H v t → (∀ b, o = some b → ask t = some b) → ∃ b t, r = .ok (.bl b) ∧ M' = M ∧ TyQ K H v t ∧ ask t = some b := by
    intro o t h1 h2 h3
    cases o with
    | none => cases h1
    | some b => cases h1; exact ⟨b, t, rfl, rfl, h2, h3 b rfl⟩
  unfold oIsi at e
  cases hv with
  | dat hv =>
    cases hv with
    | non => exact go e (.inl (.base .non)) fun b h => ok.tb _ b h
    | bl _ => exact go e (.inl (.base (.bl _))) fun b h => ok.tb _ b h
    | int _ => exact go e (.inl (.base (.int _))) fun b h => ok.tb _ b h
    | str _ => exact go e (.inl (.base (.str _))) fun b h => ok.tb _ b h
    | tup h _ _ => exact go e (.inl (sqT h)) fun b h => ok.tb _ b h
    | lst h _ _ => exact go e (.inl (.base (.lst (rs.sub _ _ h)))) fun b h => ok.tb _ b h
    | scr h _ _ => exact go e (.inl (sqL (rs.sub.seq h))) fun b h => ok.tb _ b h
    | emp h => exact go e (.inl (.base (.dK (rs.sub _ _ h)))) fun b h => ok.tb _ b h
  | @ptr n a hn =>
    cases q : M[n]? with
    | none => dsimp only at e; rw [q] at e; cases e
    | some z =>
      cases z with
      | none => dsimp only at e; rw [q] at e; cases e
      | some ds =>
        dsimp only at e
        rw [q] at e
        obtain ⟨_, xs, hx, _⟩ := rs.mem n a ds hn q
        exact go e (.inl (sqL (.inl (.inl hx)))) fun b h => ok.tb _ b h
  | dpt _ => cases e
  | npt _ => cases e
  | @exv x a C hn h =>
    dsimp only at e
    cases q : tx x with
    | none => rw [q] at e; cases e
    | some b =>
      rw [q] at e
      obtain ⟨q1, q2⟩ := ok.tx x C b q hn
      exact go (o := some b) e (.inr ⟨a, C, rfl, rfl, rs.sub _ _ h, q2⟩) fun b' h' => by cases h'; exact q1
variable {p p2 : Pos} {e : Expr} {f : Ev D}
/-- isinstance(e, c), c by its name -/
theorem de_isi {cx : Str} {c : V} {u : Value} {tb : String → Option Bool} {tx : Str → Option Bool} (hc : PE X (.Name cx p2) (tC c)) (k : ClsV c u) (ok : IsiOk X.K (fun t => PySem.W.kitOne X.K t u) tb tx) (hm : X.mg "isinstance" = none) (he : DE X W e f) (hg : Gl X "isinstance" := by rfl)
    (hs : starEach [e, .Name cx p2] X.env = (false, eval e X.env) :: starEach [.Name cx p2] X.env := by rfl) (hs2 : starEach [.Name cx p2] X.env = (false, eval (.Name cx p2) X.env) :: starEach [] X.env := by rfl) (hpl : (backTo pos (starEach [.Name cx p2] X.env)).any (·.1) = false := by rfl) :
    DE X W (.Call (.Name "isinstance" p) [e, .Name cx p2] [] pos) (bnd f (oIsi tb tx)) := by
  obtain ⟨t, q, s⟩ := he
  refine ⟨_, pe_callB (call_Q1 k) hg hm (by decide +kernel) (pa_cons q (pa_cons hc pa_nil hs2) hs) (by decide) (by decide) hs hpl, fun θ G => ?_⟩
  refine (s θ G).bind (R2 := RV X.K) (k := fun (x : V) (_ : L2.St) (H1 : Hp) (Q : V → Hp → Prop) => rQ1 X.K c u [x, c] H1 Q) fun θ1 G1 v d _ _ hv => ?_
  intro ρ M r M' θ2 G2 σ H Q p2 s2 e rs rv kk
  obtain ⟨b, t, rfl, rfl, ty, q2⟩ := tyq_of rs (hv.mono p2 s2) ok e
  exact ⟨v, t, b, rfl, ty, q2, (kk θ2 G2 H (List.prefix_refl _) (Same.refl _) rs).2 _ _ rfl rv_bl⟩
/-! ### repr of a truth -/
def oRepr (ds : List D) : Ev D := match ds with
  | [.bl b] => ret (.str (if b then "True" else "False"))
  | _ => stk
/-! ### x in a list of truths; is True, is False -/
def oInB (d e : D) : Ev D := match d, e with
  | .bl b, .lst ds => match blsOf ds with
    | some bs => ret (.bl (bs.contains b))
    | none => stk
  | _, _ => stk
variable {a b : Expr} {g : Ev D}
/-! ### raise, try -/
def sRaise (x : Str) : Sv := fun ρ M => some (.ex x ρ, M)
theorem ds_raise {WC : WX} {x : Str} {C : Addr} {m : Str} {j : Nat} {p3 pos2 : Pos} (hw : WOk X.mg WC W) (hc : X.calm = true) (tk : Takes X WC) (q : PySem.W.excIn X.K C [.type "ValueError", .type "Exception", .type "BaseException", .type "object"] "ValueError.__new__" = true) (gC : X.mg x = some (.ref C)) (kC : PySem.W.keepIn X.K (.ref C) = true) (r : Raises X (.ref C)) (hg : Gl X x := by rfl) (hdb : (x == ("__debug__" : Str)) = false := by decide) :
    DS X W (.Raise (some (.Call (.Name x p) [.Constant (.str m) j p3] [] pos)) none pos2) (sRaise x) := by
  refine ⟨_, ps_raise hc tk (pmk_own PySem.F.excBase_ValueError q gC kC r hg hdb), fun ρ M o M' θ G σ H Dn e rs rv kk => ?_⟩
  unfold sRaise at e
  cases e
  exact hw x σ H ((kk θ G H (List.prefix_refl _) (Same.refl _) rs).ex x ρ σ rfl rv) C gC
end
end Bw
namespace Bw
open PySem PySem.Spec PyProof.Rows L2
section
variable {X : Cx} {W : WN} {pos : Pos} {K : PySem.W.Frag}
/-- the reading of a body's worth -/
def tSOf (K : PySem.W.Frag) (W : WN) (f : Sv) : TS := fun Dn σ H => ∃ (ρ : Env) (M : Mem) (o : Out) (M' : Mem) (θ : List Th) (G : Hp), f ρ M = some (o, M') ∧ Rs K θ G H M ∧ Rσ K θ G σ ρ ∧
  ∀ (θ' : List Th) (G' H' : Hp), θ <+: θ' → Same G G' → Rs K θ' G' H' M' → Cont K W Dn o θ' G' H'
theorem DSs.can {sts : List Stmt} {f : Sv} (h : DSs X W sts f) : PSs X sts (tSOf X.K W f) := by
  obtain ⟨t, p, s⟩ := h
  refine ⟨fun pins s1 σ H Dn I q => p.run pins s1 σ H Dn I ?_⟩
  obtain ⟨ρ, M, o, M', θ, G, e, rs, rv, kk⟩ := q
  exact s ρ M o M' θ G σ H Dn e rs rv kk
/-- wishes by names, out of wishes by classes -/
def wnOf (mg : Str → Option Value) (WC : WX) : WN := fun x σ H => ∀ C, mg x = some (.ref C) → WC (.ref C) none σ H
theorem wokT {mg : Str → Option Value} {WC : WX} : WOk mg WC (wnOf mg WC) := fun _ _ _ h C hC => h C hC
/-- try: .. except c as n: m = n; mt: which classes the clause takes -/
def sTry (mt : Str → Option Bool) (i j : Nat) (f : Sv) : Sv := fun ρ M => match f ρ M with
  | some (.ex x ρ1, M1) => match mt x with
    | some true => if i < ρ1.length then some (.nx (((ρ1.set i (some (.exv x))).set j (some (.exv x))).set i none), M1) else none
    | some false => some (.ex x ρ1, M1)
    | none => none
  | r => r
end
/-- a def's worth, errors too -/
def runX (N : List Str) (fb : Sv) : Fd := fun ds M => match fb (startD N ds) M with
  | some (.rt d, M2) => if M.length ≤ M2.length ∧ d.ptLt M.length = true then some (.ok d, M2.take M.length) else none
  | some (.nx _, M2) => if M.length ≤ M2.length then some (.ok .non, M2.take M.length) else none
  | some (.ex x _, M2) => if M.length ≤ M2.length then some (.exc x, M2.take M.length) else none
  | _ => none
theorem runX_ok {n : Nat} {N : List Str} {fb : Sv} : ∀ ds M r M', ds.length = n → runX N fb ds M = some (r, M') → M.length ≤ M'.length ∧ ∃ o M2, fb (startD N ds) M = some (o, M2) ∧ Exit o M2 r M' := by
  intro ds M r M' _ h
  unfold runX at h
  have cut : ∀ M2 : Mem, M2 = M2.take M.length ++ M2.drop M.length := fun M2 => (List.take_append_drop _ _).symm
  split at h
  · rename_i d M2 e
    split at h
    · rename_i hc
      cases h
      refine ⟨by rw [List.length_take]; omega, _, _, e, ?_⟩
      have ex := Exit.rt (d := d) (M' := M2.take M.length) (g := M2.drop M.length) (fun n hn => by
        rw [List.length_take]
        rcases hn with hn | hn
        · subst hn
          have := of_decide_eq_true hc.2
          omega
        · subst hn
          have := of_decide_eq_true hc.2
          omega) fun n hn => by subst hn; cases hc.2
      rw [← cut M2] at ex
      exact ex
    · cases h
  · rename_i ρ M2 e
    split at h
    · cases h
      refine ⟨by rw [List.length_take]; omega, _, _, e, ?_⟩
      have ex := Exit.nx (ρ := ρ) (M' := M2.take M.length) (g := M2.drop M.length)
      rw [← cut M2] at ex
      exact ex
    · cases h
  · rename_i x ρ M2 e
    split at h
    · cases h
      refine ⟨by rw [List.length_take]; omega, _, _, e, ?_⟩
      have ex := Exit.ex (C := x) (ρ := ρ) (M' := M2.take M.length) (g := M2.drop M.length)
      rw [← cut M2] at ex
      exact ex
    · cases h
  · cases h
theorem runX_rt {N : List Str} {fb : Sv} {ds : List D} {M : Mem} {d : D} (h : fb (startD N ds) M = some (.rt d, M)) (hp : d.np = true) : runX N fb ds M = some (.ok d, M) := by
  unfold runX
  rw [h]
  dsimp only
  rw [if_pos ⟨Nat.le_refl _, by cases d <;> first | rfl | cases hp⟩, List.take_length]
theorem runX_ex {N : List Str} {fb : Sv} {ds : List D} {M : Mem} {x : Str} {ρ : Env} (h : fb (startD N ds) M = some (.ex x ρ, M)) : runX N fb ds M = some (.exc x, M) := by
  unfold runX
  rw [h]
  dsimp only
  rw [if_pos (Nat.le_refl _), List.take_length]
/-- x is True, x is False -/
def oIsB (d e : D) : Ev D := match d, e with
  | .bl a, .bl b => ret (.bl (decide (a = b)))
  | _, _ => stk
section
variable {X : Cx} {W : WN} {pos : Pos} {a b : Expr} {f g : Ev D}
end
theorem kit_own {K : PySem.W.Frag} {E C : Addr} {b : Bool} (hd : PySem.W.hasDictIn K C = true) (ht : PySem.W.typeIn K (.ref C) = some (.type "type")) (hs : PySem.W.subIn K (.ref E) (.ref C) = some b) (he : PySem.W.subIn K (.ref E) (.ref E) = some true) : PySem.W.kitOne K (.ref E) (.ref C) = some b := by
  unfold PySem.W.kitOne
  split
  · rename_i h
    have e : Value.ref E = Value.ref C := by simpa using h
    cases e
    rw [he] at hs
    exact hs
  · obtain ⟨cd, hc, _⟩ := PySem.W.any_some hd
    unfold PySem.W.kitCls
    dsimp only
    rw [if_pos (by rw [hc, ht]; rfl)]
    exact hs
theorem kit_type {K : PySem.W.Frag} {E : Addr} {T : String} {b : Bool} (hm : PySem.W.kitMeta T = true) (hs : PySem.W.subIn K (.ref E) (.type T) = some b) : PySem.W.kitOne K (.ref E) (.type T) = some b := by
  unfold PySem.W.kitOne
  rw [if_neg (by simp)]
  unfold PySem.W.kitCls
  dsimp only
  rw [if_pos hm]
  exact hs
/-- x is not True, x is not False -/
def oIsnB (d e : D) : Ev D := match d, e with
  | .bl a, .bl b => ret (.bl (!decide (a = b)))
  | _, _ => stk
section
variable {X : Cx} {W : WN} {pos : Pos} {a b : Expr} {f g : Ev D}
end
end Bw
namespace Bw
open PySem PySem.Spec PyProof.Rows L2
/-! ### fractions as rationals -/
def frQ (q : Rat) : D := .tup [.int q.num, .int (q.den : Int)]
def Bd (n : Nat) (q : Rat) : Prop := q.num.natAbs < 2 ^ n ∧ q.den < 2 ^ n
theorem Bd.mono {m n : Nat} {q : Rat} (h : Bd m q) (l : m ≤ n) : Bd n q := ⟨Nat.lt_of_lt_of_le h.1 (Nat.pow_le_pow_right (by decide) l), Nat.lt_of_lt_of_le h.2 (Nat.pow_le_pow_right (by decide) l)⟩
def MulOk (i j : Int) : Prop := i.natAbs.log2 + j.natAbs.log2 < 1000000
def DivOk (j : Int) : Prop := j ≠ 0 ∧ j.natAbs.log2 < 9000
theorem log2_le_of {n a : Nat} (h : n < 2 ^ a) : n.log2 ≤ a := by
  rcases Nat.eq_zero_or_pos n with rfl | hp
  · simp
  · exact Nat.le_of_lt ((Nat.log2_lt (by omega)).mpr h)
theorem MulOk.of {i j : Int} {a b : Nat} (hi : i.natAbs < 2 ^ a) (hj : j.natAbs < 2 ^ b) (h : a + b < 1000000 := by decide) : MulOk i j := by
  have := log2_le_of hi
  have := log2_le_of hj
  unfold MulOk; omega
theorem DivOk.of {j : Int} {b : Nat} (h0 : j ≠ 0) (hj : j.natAbs < 2 ^ b) (h : b < 9000 := by decide) : DivOk j := ⟨h0, Nat.lt_of_le_of_lt (log2_le_of hj) h⟩
theorem oMul_int {i j : Int} (h : MulOk i j) (ρ : Env) (M : Mem) : oMul (.int i) (.int j) ρ M = some (.ok (.int (i * j)), M) := by
  unfold oMul oI
  dsimp only
  rw [if_pos (decide_eq_true (show i.natAbs.log2 + j.natAbs.log2 < 1000000 from h))]; rfl
theorem oDiv_int {i j : Int} (h : DivOk j) (ρ : Env) (M : Mem) : oDiv (.int i) (.int j) ρ M = some (.ok (.int (i.fdiv j)), M) := by
  unfold oDiv oI
  dsimp only
  rw [if_pos (decide_eq_true (show j ≠ 0 ∧ j.natAbs.log2 < 9000 from h))]; rfl
theorem oMod_int {i j : Int} (h : j ≠ 0) (ρ : Env) (M : Mem) : oMod (.int i) (.int j) ρ M = some (.ok (.int (i.fmod j)), M) := by
  unfold oMod oI
  dsimp only
  rw [if_pos (decide_eq_true h)]; rfl
theorem oAdd_int {i j : Int} (ρ : Env) (M : Mem) : oAdd (.int i) (.int j) ρ M = some (.ok (.int (i + j)), M) := rfl
theorem oSub_int {i j : Int} (ρ : Env) (M : Mem) : oSub (.int i) (.int j) ρ M = some (.ok (.int (i - j)), M) := rfl
theorem oLt_int {i j : Int} (ρ : Env) (M : Mem) : oLt (.int i) (.int j) ρ M = some (.ok (.bl (decide (i < j))), M) := rfl
theorem oLe_int {i j : Int} (ρ : Env) (M : Mem) : oLe (.int i) (.int j) ρ M = some (.ok (.bl (decide (i ≤ j))), M) := rfl
theorem oGt_int {i j : Int} (ρ : Env) (M : Mem) : oGt (.int i) (.int j) ρ M = some (.ok (.bl (decide (j < i))), M) := rfl
theorem oGe_int {i j : Int} (ρ : Env) (M : Mem) : oGe (.int i) (.int j) ρ M = some (.ok (.bl (decide (j ≤ i))), M) := rfl
theorem oNeg_int {i : Int} (ρ : Env) (M : Mem) : oNeg (.int i) ρ M = some (.ok (.int (-i)), M) := rfl
theorem oEq_int {i j : Int} (ρ : Env) (M : Mem) : oEq (.int i) (.int j) ρ M = some (.ok (.bl (decide (i = j))), M) := by
  unfold oEq
  rw [if_pos ⟨rfl, rfl, by rfl, by rfl⟩]
  show some (Res.ok (D.bl (PyData.eqv (.int i) (.int j))), M) = _
  simp only [PyData.eqv]
  congr
theorem oNe_int {i j : Int} (ρ : Env) (M : Mem) : oNe (.int i) (.int j) ρ M = some (.ok (.bl (!decide (i = j))), M) := by
  unfold oNe
  rw [if_pos ⟨rfl, rfl, by rfl, by rfl⟩]
  show some (Res.ok (D.bl (!PyData.eqv (.int i) (.int j))), M) = _
  simp only [PyData.eqv]
  congr
theorem eqv_fr (x y : Rat) : PyData.eqv (toPy (frQ x)) (toPy (frQ y)) = decide (x = y) := by
  simp only [frQ, toPy, toPys, PyData.eqv, PyData.eqvAll, Bool.and_true]
  rw [Bool.eq_iff_iff]
  simp only [Bool.and_eq_true, beq_iff_eq, decide_eq_true_eq]
  constructor
  · rintro ⟨a, b⟩
    exact Rat.ext a (by exact_mod_cast b)
  · rintro rfl; exact ⟨rfl, rfl⟩
theorem shaped_fr (x : Rat) : SeqAt.shaped (toPy (frQ x)) = true := by rfl
theorem oEq_fr (x y : Rat) (ρ : Env) (M : Mem) : oEq (frQ x) (frQ y) ρ M = some (.ok (.bl (decide (x = y))), M) := by
  unfold oEq
  rw [if_pos ⟨rfl, rfl, shaped_fr x, shaped_fr y⟩, eqv_fr]; rfl
theorem oNe_fr (x y : Rat) (ρ : Env) (M : Mem) : oNe (frQ x) (frQ y) ρ M = some (.ok (.bl (!decide (x = y))), M) := by
  unfold oNe
  rw [if_pos ⟨rfl, rfl, shaped_fr x, shaped_fr y⟩, eqv_fr]; rfl
theorem oEq_bl {i j : Bool} (ρ : Env) (M : Mem) : oEq (.bl i) (.bl j) ρ M = some (.ok (.bl (decide (i = j))), M) := by
  cases i <;> cases j <;> rfl
theorem oNe_bl {i j : Bool} (ρ : Env) (M : Mem) : oNe (.bl i) (.bl j) ρ M = some (.ok (.bl (!decide (i = j))), M) := by
  cases i <;> cases j <;> rfl
theorem np_fr (x : Rat) : (frQ x).np = true := rfl
/-! uniqueness of lowest terms -/
theorem rat_uniq {q : Rat} {n : Int} {d : Nat} (hd : d ≠ 0) (hc : n.natAbs.Coprime d) (h : n * (q.den : Int) = q.num * (d : Int)) : q.num = n ∧ q.den = d := by
  have e : mkRat n d = q := by
    rw [← Rat.mkRat_self q, Rat.mkRat_eq_iff hd q.den_nz]; exact h
  have e2 : mkRat n d = ⟨n, d, hd, hc⟩ := by
    rw [← Rat.normalize_eq_mkRat hd, Rat.normalize_eq]
    have g : n.natAbs.gcd d = 1 := hc
    simp [g]
  rw [e2] at e
  subst e
  exact ⟨rfl, rfl⟩
theorem fr_of {q : Rat} {n d : Int} (hd : 0 < d) (hc : Int.gcd n d = 1) (h : n * (q.den : Int) = q.num * d) : D.tup [.int n, .int d] = frQ q := by
  obtain ⟨k, rfl⟩ : ∃ k : Nat, d = k := ⟨d.toNat, by omega⟩
  have hk : k ≠ 0 := by omega
  obtain ⟨a, b⟩ := rat_uniq (q := q) hk (by simpa [Nat.Coprime, Int.gcd] using hc) h
  unfold frQ
  rw [a, b]
theorem fdiv_nat (i : Int) (n : Nat) : i.fdiv (n : Int) = i / (n : Int) := Int.fdiv_eq_ediv_of_nonneg i (Int.natCast_nonneg n)
theorem fmod_nat (i : Int) (n : Nat) : i.fmod (n : Int) = i % (n : Int) := Int.fmod_eq_emod_of_nonneg i (Int.natCast_nonneg n)
theorem gcd_fmod (a b : Int) : Int.gcd b (a.fmod b) = Int.gcd a b := by
  have h : a.fmod b = a - b * (a.fdiv b) := by have := Int.mul_fdiv_add_fmod a b; omega
  rw [h, Int.gcd_sub_mul_left_right, Int.gcd_comm]
theorem natAbs_fmod_lt (a : Int) {b : Int} (h : b ≠ 0) : (a.fmod b).natAbs < b.natAbs := by
  rcases Int.lt_or_gt_of_ne h with hb | hb
  · have h3 := Int.fmod_eq_emod (a := a) (b := b)
    have h1 := Int.emod_nonneg a h
    have h2 := Int.emod_lt_of_neg a hb
    have h4 : ¬ (0 ≤ b) := by omega
    simp only [h4, false_or] at h3
    split at h3
    · rename_i hd
      have := Int.emod_eq_zero_of_dvd hd
      omega
    · rename_i hd
      have : a % b ≠ 0 := fun z => hd (Int.dvd_of_emod_eq_zero z)
      omega
  · have h1 := Int.fmod_nonneg_of_pos a hb
    have h2 := Int.fmod_lt_of_pos a hb
    omega
end Bw
namespace Bw
open PySem PySem.Spec PyProof.Rows L2
/-! ### evaluation, step by step -/
section
variable {α β : Type}
def bindR (x : Option (Res α × Mem)) (k : α → Mem → Option (Res β × Mem)) : Option (Res β × Mem) := match x with
  | some (.ok a, M) => k a M
  | some (.exc C, M) => some (.exc C, M)
  | none => none
theorem bindR_ok (a : α) (M : Mem) (k : α → Mem → Option (Res β × Mem)) : bindR (some (.ok a, M)) k = k a M := rfl
def thenR (x : Option (Res α × Mem)) (ρ : Env) (k : α → Mem → Option (Out × Mem)) : Option (Out × Mem) := match x with
  | some (.ok a, M) => k a M
  | some (.exc C, M) => some (.ex C ρ, M)
  | none => none
theorem thenR_ok (a : α) (M : Mem) (ρ : Env) (k : α → Mem → Option (Out × Mem)) : thenR (some (.ok a, M)) ρ k = k a M := rfl
theorem bnd_ap (f : Ev α) (g : α → Ev β) (ρ : Env) (M : Mem) : bnd f g ρ M = bindR (f ρ M) fun a M1 => g a ρ M1 := rfl
theorem ret_ap (a : α) (ρ : Env) (M : Mem) : ret a ρ M = some (.ok a, M) := rfl
theorem thenS_ap (f : Ev α) (g : α → Sv) (ρ : Env) (M : Mem) : thenS f g ρ M = thenR (f ρ M) ρ fun a M1 => g a ρ M1 := rfl
def varR (x : Option (Option D)) (M : Mem) : Option (Res D × Mem) := match x with
  | some (some d) => some (.ok d, M)
  | _ => none
theorem varR_ok (d : D) (M : Mem) : varR (some (some d)) M = some (.ok d, M) := rfl
theorem dVar_ap (i : Nat) (ρ : Env) (M : Mem) : dVar i ρ M = varR ρ[i]? M := by
  unfold dVar varR
  rfl
def seqR (x : Option (Out × Mem)) (g : Sv) : Option (Out × Mem) := match x with
  | some (.nx ρ1, M1) => g ρ1 M1
  | r => r
theorem seqR_nx (ρ : Env) (M : Mem) (g : Sv) : seqR (some (.nx ρ, M)) g = g ρ M := rfl
theorem seqR_rt (d : D) (M : Mem) (g : Sv) : seqR (some (.rt d, M)) g = some (.rt d, M) := rfl
theorem seqR_ex (C : Str) (d : Env) (M : Mem) (g : Sv) : seqR (some (.ex C d, M)) g = some (.ex C d, M) := rfl
theorem sSeq_ap (f g : Sv) (ρ : Env) (M : Mem) : sSeq f g ρ M = seqR (f ρ M) g := by
  unfold sSeq seqR
  rfl
def asgR (x : Option Env) (M : Mem) : Option (Out × Mem) := match x with
  | some ρ => some (.nx ρ, M)
  | none => none
theorem asgR_ok (ρ : Env) (M : Mem) : asgR (some ρ) M = some (.nx ρ, M) := rfl
theorem sAsg_ap (f : Ev D) (b : Tg) (ρ : Env) (M : Mem) : sAsg f b ρ M = thenR (f ρ M) ρ fun d M1 => asgR (b d ρ) M1 := by
  unfold sAsg
  rw [thenS_ap]
  congr
theorem gNm_ap (i : Nat) (d : D) (ρ : Env) : gNm i d ρ = some (ρ.set i (some d)) := rfl
def gcnR (x : Option Env) (k : Env → Option Env) : Option Env := match x with
  | some ρ => k ρ
  | none => none
theorem gcnR_ok (ρ : Env) (k : Env → Option Env) : gcnR (some ρ) k = k ρ := rfl
theorem gCn_ap (b : Tg) (c : List D → Env → Option Env) (d : D) (r : List D) (ρ : Env) : gCn b c (d :: r) ρ = gcnR (b d ρ) fun ρ1 => c r ρ1 := by
  unfold gCn gcnR
  rfl
theorem gNl_ap (ρ : Env) : gNl [] ρ = some ρ := rfl
theorem gTp_ap (n : Nat) (c : List D → Env → Option Env) (ds : List D) (ρ : Env) (h : ds.length = n) : gTp n c (.tup ds) ρ = c ds ρ := by
  unfold gTp
  dsimp only
  rw [if_pos h]
theorem gTp_fr (c : List D → Env → Option Env) (q : Rat) (ρ : Env) : gTp 2 c (frQ q) ρ = c [.int q.num, .int (q.den : Int)] ρ := rfl
theorem gLs_ap (n : Nat) (c : List D → Env → Option Env) (ds : List D) (ρ : Env) (h : ds.length = n) : gLs n c (.lst ds) ρ = c ds ρ := by
  unfold gLs
  dsimp only
  rw [if_pos h]
theorem sPar_ap (i j : Nat) (f : Ev (List D)) (ρ : Env) (M : Mem) : sPar i j f ρ M = thenR (f ρ M) ρ fun ds M1 => match ds with
  | [d, e] => some (.nx ((ρ.set i (some d)).set j (some e)), M1)
  | _ => none := rfl
theorem sRet_ap (f : Ev D) (ρ : Env) (M : Mem) : sRet f ρ M = thenR (f ρ M) ρ fun d M1 => some (.rt d, M1) := rfl
theorem sExpr_ap (f : Ev D) (ρ : Env) (M : Mem) : sExpr f ρ M = thenR (f ρ M) ρ fun d M1 => some (.nx ρ, M1) := rfl
theorem sNext_ap (ρ : Env) (M : Mem) : sNext ρ M = some (.nx ρ, M) := rfl
theorem sIf_ap (c : Ev Bool) (f g : Sv) (ρ : Env) (M : Mem) : sIf c f g ρ M = thenR (c ρ M) ρ fun b M1 => if b = true then f ρ M1 else g ρ M1 := by
  unfold sIf
  rw [thenS_ap]
  congr
  funext b M1
  split <;> rfl
theorem dNil_ap (ρ : Env) (M : Mem) : dNil ρ M = some (.ok [], M) := rfl
theorem dCons_ap (f : Ev D) (g : Ev (List D)) (ρ : Env) (M : Mem) : dCons f g ρ M = bindR (f ρ M) fun d M1 => bindR (g ρ M1) fun ds M2 => some (.ok (d :: ds), M2) := rfl
theorem oTup_ap (ds : List D) (ρ : Env) (M : Mem) (h : ds.all D.np = true) (l : ds.length ≤ 16777216) : oTup ds ρ M = some (.ok (.tup ds), M) := by
  unfold oTup
  rw [if_pos ⟨h, l⟩]; rfl
theorem oLst_ap (ds : List D) (ρ : Env) (M : Mem) (h : ds.all D.np = true) (l : ds.length ≤ 16777216) : oLst ds ρ M = some (.ok (.lst ds), M) := by
  unfold oLst
  rw [if_pos ⟨h, l⟩]; rfl
theorem oCall_ap (n : Nat) (F : Fd) (ds : List D) (ρ : Env) (M : Mem) (h : ds.length = n) : oCall n F ds ρ M = F ds M := by
  unfold oCall
  rw [if_pos h]
theorem asB_ap (b : Bool) (ρ : Env) (M : Mem) : asB (.bl b) ρ M = some (.ok b, M) := rfl
theorem dAnd_ap (f g : Ev Bool) (ρ : Env) (M : Mem) : dAnd f g ρ M = bindR (f ρ M) fun c M1 => if c = true then g ρ M1 else some (.ok false, M1) := by
  unfold dAnd
  rw [bnd_ap]
  congr
  funext b M1
  split <;> rfl
theorem dOr_ap (f g : Ev Bool) (ρ : Env) (M : Mem) : dOr f g ρ M = bindR (f ρ M) fun c M1 => if c = true then some (.ok true, M1) else g ρ M1 := by
  unfold dOr
  rw [bnd_ap]
  congr
  funext b M1
  split <;> rfl
theorem dNot_ap (f : Ev Bool) (ρ : Env) (M : Mem) : dNot f ρ M = bindR (f ρ M) fun c M1 => some (.ok (!c), M1) := rfl
theorem dAndV_ap (f g : Ev D) (ρ : Env) (M : Mem) : dAndV f g ρ M = bindR (f ρ M) fun d M1 => bindR (asB d ρ M1) fun c M1 => if c = true then g ρ M1 else some (.ok (.bl false), M1) := by
  unfold dAndV
  rw [bnd_ap]
  congr
  funext b M1
  rw [bnd_ap]
  congr
  funext b M1
  split <;> rfl
theorem dOrV_ap (f g : Ev D) (ρ : Env) (M : Mem) : dOrV f g ρ M = bindR (f ρ M) fun d M1 => bindR (asB d ρ M1) fun c M1 => if c = true then some (.ok (.bl true), M1) else g ρ M1 := by
  unfold dOrV
  rw [bnd_ap]
  congr
  funext b M1
  rw [bnd_ap]
  congr
  funext b M1
  split <;> rfl
theorem dNotV_ap (f : Ev D) (ρ : Env) (M : Mem) : dNotV f ρ M = bindR (f ρ M) fun d M1 => bindR (asB d ρ M1) fun c M1 => some (.ok (.bl (!c)), M1) := rfl
theorem dIf_ap (c : Ev Bool) (f g : Ev D) (ρ : Env) (M : Mem) : dIf c f g ρ M = bindR (c ρ M) fun b M1 => if b = true then f ρ M1 else g ρ M1 := by
  unfold dIf
  rw [bnd_ap]
  congr
  funext b M1
  split <;> rfl
theorem oPow_ap (i : Int) (n : Nat) (ρ : Env) (M : Mem) (h : n ≤ 1000000) (hi : i.natAbs < 2 ^ 64) : oPow (.int i) (.int (n : Int)) ρ M = some (.ok (.int (i ^ n)), M) := by
  unfold oPow oI
  dsimp only
  rw [if_pos (decide_eq_true ⟨by omega, by omega, hi⟩)]; rfl
theorem oAdd_lst (a b : List D) (ρ : Env) (M : Mem) (h : a.length + b.length ≤ 16777216) : oAdd (.lst a) (.lst b) ρ M = some (.ok (.lst (a ++ b)), M) := by
  unfold oAdd
  dsimp only
  rw [if_pos h]; rfl
theorem oAbs_ap (i : Int) (ρ : Env) (M : Mem) : oAbs [.int i] ρ M = some (.ok (.int (if i < 0 then -i else i)), M) := rfl
theorem oMax_ap (i j : Int) (ρ : Env) (M : Mem) : oMax [.int i, .int j] ρ M = some (.ok (.int (if j > i then j else i)), M) := rfl
theorem oMin_ap (i j : Int) (ρ : Env) (M : Mem) : oMin [.int i, .int j] ρ M = some (.ok (.int (if j < i then j else i)), M) := rfl
theorem oToInt_b (b : Bool) (ρ : Env) (M : Mem) : oToInt [.bl b] ρ M = some (.ok (.int (if b then 1 else 0)), M) := rfl
theorem oToInt_i (b : Int) (ρ : Env) (M : Mem) : oToInt [.int b] ρ M = some (.ok (.int b), M) := rfl
theorem oLen_lst (ds : List D) (ρ : Env) (M : Mem) : oLen [.lst ds] ρ M = some (.ok (.int ds.length), M) := rfl
theorem oLen_scr (ds : List D) (ρ : Env) (M : Mem) : oLen [.scr ds] ρ M = some (.ok (.int ds.length), M) := rfl
theorem oLen_tup (ds : List D) (ρ : Env) (M : Mem) : oLen [.tup ds] ρ M = some (.ok (.int ds.length), M) := rfl
def ixR (x : Option D) (M : Mem) : Option (Res D × Mem) := match x with
  | some d => some (.ok d, M)
  | none => none
theorem ixR_ok (d : D) (M : Mem) : ixR (some d) M = some (.ok d, M) := rfl
theorem oIx_lst (ds : List D) (i : Int) (ρ : Env) (M : Mem) : oIx (.lst ds) (.int i) ρ M = ixR (atI ds i) M := by
  unfold oIx ixR seqOf
  dsimp only
  all_goals (split <;> rename_i h <;> rw [h])
theorem oIx_scr (ds : List D) (i : Int) (ρ : Env) (M : Mem) : oIx (.scr ds) (.int i) ρ M = ixR (atI ds i) M := by
  unfold oIx ixR seqOf
  dsimp only
  all_goals (split <;> rename_i h <;> rw [h])
theorem oIx_tup (ds : List D) (i : Int) (ρ : Env) (M : Mem) : oIx (.tup ds) (.int i) ρ M = ixR (atI ds i) M := by
  unfold oIx ixR seqOf
  dsimp only
  all_goals (split <;> rename_i h <;> rw [h])
theorem oIx_ptr {n : Nat} {ds : List D} (i : Int) (ρ : Env) {M : Mem} (h : M[n]? = some (some ds)) : oIx (.ptr n) (.int i) ρ M = ixR (atI ds i) M := by
  unfold oIx ixR seqOf
  dsimp only
  rw [h]
  all_goals (try dsimp only)
  all_goals (split <;> rename_i h <;> rw [h])
theorem oIx_fr0 (q : Rat) (ρ : Env) (M : Mem) : oIx (frQ q) (.int 0) ρ M = some (.ok (.int q.num), M) := rfl
theorem oIx_fr1 (q : Rat) (ρ : Env) (M : Mem) : oIx (frQ q) (.int 1) ρ M = some (.ok (.int (q.den : Int)), M) := rfl
theorem oRng1_ap (j : Int) (ρ : Env) (M : Mem) (h1 : 0 ≤ j) (h : j < 2 ^ 62) : oRng1 [.int j] ρ M = some (.ok ((List.range j.toNat).map fun (i : Nat) => D.int (i : Int)), M) := by
  unfold oRng1
  dsimp only
  rw [if_pos ⟨by omega, h⟩]; rfl
theorem oItL_ap (ds : List D) (ρ : Env) (M : Mem) : oItL (.lst ds) ρ M = some (.ok ds, M) := rfl
theorem oItT_ap (ds : List D) (ρ : Env) (M : Mem) : oItT (.tup ds) ρ M = some (.ok ds, M) := rfl
theorem sFor_ap (h : Ev (List D)) (b : Tg) (f : Sv) (ρ : Env) (M : Mem) : sFor h b f ρ M = thenR (h ρ M) ρ fun ds M1 => forF b f ds ρ M1 := rfl
def ofR (x : Option (Out × Mem)) (k : Env → Mem → Option (Out × Mem)) : Option (Out × Mem) := match x with
  | some (.nx ρ2, M2) => k ρ2 M2
  | some (.ct ρ2, M2) => k ρ2 M2
  | some (.bk ρ2, M2) => some (.nx ρ2, M2)
  | r => r
theorem ofR_nx (ρ : Env) (M : Mem) (k : Env → Mem → Option (Out × Mem)) : ofR (some (.nx ρ, M)) k = k ρ M := rfl
def forB (x : Option Env) (k : Env → Option (Out × Mem)) : Option (Out × Mem) := match x with
  | none => none
  | some ρ => k ρ
theorem forB_ok (ρ : Env) (k : Env → Option (Out × Mem)) : forB (some ρ) k = k ρ := rfl
theorem forF_nil (b : Tg) (f : Sv) (ρ : Env) (M : Mem) : forF b f [] ρ M = some (.nx ρ, M) := rfl
theorem forF_cons (b : Tg) (f : Sv) (d : D) (ds : List D) (ρ : Env) (M : Mem) : forF b f (d :: ds) ρ M = forB (b d ρ) fun ρ1 => ofR (f ρ1 M) fun ρ2 M2 => forF b f ds ρ2 M2 := by
  conv => lhs; unfold forF
  unfold forB ofR
  rfl
/-- x[i] = e -/
theorem sStore_ap (f fo fi : Ev D) (ρ : Env) (M : Mem) : sStore f fo fi ρ M = thenR (f ρ M) ρ fun d M1 => thenR (fo ρ M1) ρ fun o M2 => thenR (fi ρ M2) ρ fun i M3 => match o, i with
  | .ptr n, .int k => match M3[n]? with
    | some (some ds) => match ixN ds.length k with
      | some j => if d.np = true then some (.nx ρ, M3.set n (some (ds.set j d))) else none
      | none => none
    | _ => none
  | _, _ => none := rfl
end
theorem atI_0 {α : Type} (a : α) (l : List α) : atI (a :: l) 0 = some a := by
  unfold atI ixN
  simp
theorem atI_nat' {α : Type} (l : List α) (n : Nat) : atI l (n : Int) = l[n]? := by
  unfold atI ixN
  rw [if_pos (by omega)]
  by_cases h : n < l.length
  · rw [if_pos (by omega)]; simp
  · rw [if_neg (by omega)]; simp; omega
end Bw
/-! calls where no repr is under way -/
namespace Bw
open PySem PySem.Spec PyProof.Rows L2
structure Rg (k : Nat) (A : Around) : Prop where
  r : Room k A
  g : A.guards = some []
theorem Rg.mono {j k : Nat} {A : Around} (h : Rg k A) (l : j ≤ k) : Rg j A := ⟨h.r.mono l, h.g⟩
theorem Rg.units {k : Nat} {A : Around} (h : Rg k A) : A.units + 64 < cLine := h.r.units
theorem Rg.un200 {k : Nat} {A : Around} (h : Rg k A) : A.units + 200 < cLine := by have := h.r.un; omega
/-- a def's promise, no repr under way -/
structure GOk (P : Program) (w : World) (K : PySem.W.Frag) (mg : Str → Option Value) (base : Heap) (C : CXT) (k : Nat) (f : Addr) (fd : FuncData) (ps : List Str) (sp : Sp) : Prop where
  n : ∀ vs H Q E, sp vs H Q E → vs.length = ps.length
  go : ∀ (A : Around) (ou : List PySem.Env) (s : Shared) (H : Hp) (ar : Args) (us : List Value) (vs : List V) (Q : VK) (E : XK), Rg k A → Env0 P w K mg base A ou s H → BindsTo s fd ar (ps.zip us) → Vals vs us → sp vs H Q E → codeAny (model P w) A (.call (.ref f) ar) (CR C ou P w H s Q E) s
section
variable {P : Program} {w : World} {K : PySem.W.Frag} {mg : Str → Option Value} {base : Heap} {C : CXT} {k : Nat} {f : Addr} {fd : FuncData} {ps : List Str} {sp : Sp}
theorem GOk.mono {j : Nat} (F : GOk P w K mg base C j f fd ps sp) (l : j ≤ k) : GOk P w K mg base C k f fd ps sp := ⟨F.n, fun A ou s H ar us vs Q E hr => F.go A ou s H ar us vs Q E (hr.mono l)⟩
theorem GOk.imp {sp' : Sp} (F : GOk P w K mg base C k f fd ps sp) (h : ∀ vs H Q E, sp' vs H Q E → sp vs H Q E) : GOk P w K mg base C k f fd ps sp' :=
  ⟨fun vs H Q E q => F.n vs H Q E (h vs H Q E q), fun A ou s H ar us vs Q E hr he hb hv hs => F.go A ou s H ar us vs Q E hr he hb hv (h vs H Q E hs)⟩
/-- by its body -/
theorem gok_of {x qual : Str} {st : Stmt} {N : List Str} (FU : Fun K x qual st f fd) (S : FnScope N ps (defScope st)) (hn : ∀ vs H Q E, sp vs H Q E → vs.length = ps.length)
    (hbody : ∀ (cdv : Value) (A : Around) (ou : List PySem.Env) (s : Shared) (H : Hp) (vs : List V) (Q : VK) (E : XK), Rg k (A.deeper (envOfC qual (defScope st) s.heap.objs.size f cdv)) → sp vs H Q E →
      ∃ t, PSs (cxOf C P w K mg base N qual (defScope st) f cdv A ou s H E) (defBody st) t ∧ t { nx := fun _ H' => Q .non H', rt := Q } (L2.start N vs) H) : GOk P w K mg base C (k + 1) f fd ps sp := by
  obtain ⟨oc, od, kV, doc, pm, an, cdv, ct, osl, e, lk, hcd⟩ := FU.ex
  subst e
  refine ⟨hn, fun A ou s H ar us vs Q E hr e0 hb rv hsp => ?_⟩
  have stay := fun (b : Addr) (o : Obj) (q : base.get? b = some o) => (e0.bs b o q).1
  have KX : K.In s.heap := e0.mod.kin.keeps stay
  have lim : s.heap.NoLimit := e0.mod.nolimit.keeps stay
  refine codeAny_call_function hr.r.depth (KX _ _ lk) rfl S.co S.gen rfl (PySem.W.codeRec_of KX hcd) (hb _ _ _ _ (wpAny_newFunctionEnv_cells S.kind (fun z hz => ?_) fun env he s1 ic => ?_))
  · rcases S.par z.1 (List.of_mem_zip hz).1 with q | q
    · exact Or.inl q
    · exact Or.inr ⟨q, PySem.W.cellsFrom_some _ _ _ (Or.inl q)⟩
  · subst he
    refine ⟨lim.keeps ic.toInCall.keep, codeAny_func ?_⟩
    obtain ⟨t, ht, hq⟩ := hbody cdv A ou s H vs Q E ⟨hr.r.deeper _, hr.g⟩ hsp
    refine wpAny_mono (ht.run [] s1 (L2.start N vs) H _ (inv_start S hr.r.hd e0 (hn _ _ _ _ hsp) rv ic) hq) (fun fl s2 hs => ?_) fun _ _ z => z
    cases fl with
    | brk => obtain ⟨_, _, _, z⟩ := hs; exact z.elim
    | cont => obtain ⟨_, _, _, z⟩ := hs; exact z.elim
    | next => obtain ⟨σ2, H2, J, z⟩ := hs; exact ⟨.non, H2, J.os, J.bare, J.base, J.hok, rfl, z⟩
    | ret u => obtain ⟨v, σ2, H2, J, ru, z⟩ := hs; exact ⟨v, H2, J.os, J.bare, J.base, J.hok, ru, z⟩
end
/-- g(e, ..) of a def -/
theorem pe_callG {X : Cx} {C : CXT} {k : Nat} {f : Addr} {fd : FuncData} {ps : List Str} {sp : Sp} {x : Str} {p pos : Pos} {e : Expr} {es : List Expr} {ta : TA} {E : L2.St → XK} (F : GOk X.prog X.w X.K X.mg X.base C k f fd ps sp) (hr : Rg k X.A) (hg : Gl X x) (hm : X.mg x = some (.ref f)) (hk : PySem.W.keepIn X.K (.ref f) = true) (hb : Binds X.K fd ps []) (hx : ∀ σ, PassesAt C X σ (E σ))
    (hargs : PA X (e :: es) ta) (hdb : (x == ("__debug__" : Str)) = false := by decide) (he : starEach (e :: es) X.env = (false, eval e X.env) :: starEach es X.env := by rfl) (hpl : (backTo pos (starEach es X.env)).any (·.1) = false := by rfl) :
    PE X (.Call (.Name x p) (e :: es) [] pos) (tCallS sp E ta) := by
  refine ⟨fun pins s σ H Q I h => wpAny_Call_Name_kw (ld_glob I hg hm (PySem.W.callWith_K (h₀ := X.base) I.ok.mod.kin hk (thn (hargs.run pos pins s σ H _ I h) fun us s1 z => ?_) he hpl) hdb)⟩
  obtain ⟨vs, H1, I1, rv, q⟩ := z
  have hl : us.length = ps.length := rv.length.symm.trans (F.n _ _ _ _ q)
  have b := hb s1 us I1.kIn (by rw [List.append_nil]; exact hl)
  rw [List.append_nil] at b
  refine ⟨I1.kIn, wpAny_call (codeAny_mono (F.go X.A X.stack s1 H1 ⟨us, []⟩ us vs Q (E σ) hr I1.env0 b rv q) fun res s2 hq => ?_)⟩
  rcases res with er | fl
  · exact hx σ pins H1 s1 er s2 I1 hq
  · cases fl <;> first | exact I1.after hq | exact False.elim hq
/-- the head: the law's promise at the heap behind the top -/
theorem headG {P : Program} {w : World} {K : PySem.W.Frag} {mg mb : Str → Option Value} {k : Nat} {fa sa : Addr} {fd : FuncData} {x : Str} {sp : Sp} {st : Shared} {us : List Value} {ns : List Int} (KX : K.In st.heap) (nsG : st.heap.Ns mainGlobals mg) (nsB : st.heap.Ns builtinsNs mb) (bbt : ∀ y : Str, y ≠ "__name__" → mb y = bootBuiltins y) (lim : st.heap.NoLimit) (ng : st.gens = #[])
    (hs : st.heap.get? sa = some { cls := .type "list", data := .seq us.toArray }) (ii : IntsAre us ns) (hl : ns.length ≤ sizeLine) (hr : Room k callerA) (F : ∀ b : Heap, K.In b → b.Ns mainGlobals mg → GOk P w K mg b CX0 k fa fd [x] sp) (bi : ∀ (s : Shared) (u : Value), BindsTo s fd ⟨[u], []⟩ [(x, u)])
    (hsp : ∀ H : Hp, SqL K H sa (ns.map V.int) → sp [.ref sa] H (fun v _ => v = .bl true) fun _ _ _ => False) : codeAny (model P w) callerA (.call (.ref fa) ⟨[.ref sa], []⟩) (fun r s' => r = .ok (.ret (.bool true)) ∧ OldK st.heap s'.heap ∧ s'.os = st.os ∧ AllBare s'.gens) st := by
  have main : ∀ H : Hp, Only H → SqL K H sa (ns.map V.int) → HOk P w H st.heap → (∀ b, H b ≠ none → b = sa ∧ K.lookup sa = none) → codeAny (model P w) callerA (.call (.ref fa) ⟨[.ref sa], []⟩) (fun r s' => r = .ok (.ret (.bool true)) ∧ OldK st.heap s'.heap ∧ s'.os = st.os ∧ AllBare s'.gens) st := by
    intro H oH sH kH only
    have offD : ∀ {b : Addr} {o : Obj} {es : Array DictEntry} {ep : Nat}, st.heap.get? b = some o → o.data = .dict es ep → H b = none := by
      intro b o es ep e d
      by_cases z : H b = none
      · exact z
      · have zz := (only b z).1
        rw [zz, hs] at e
        cases e
        cases d
    have back : ∀ {b : Addr} {m : Str → Option Value}, st.heap.Ns b m → (hidT st.heap H).Ns b m := by
      rintro b m ⟨o, es, ep, e, d, rest⟩
      exact ⟨o, es, ep, hidT_get e (offD e d), d, rest⟩
    have kin : K.In (hidT st.heap H) := by
      intro b o e
      refine hidT_get (KX b o e) ?_
      by_cases z : H b = none
      · exact z
      · obtain ⟨z1, z2⟩ := only b z
        rw [z1, z2] at e
        cases e
    obtain ⟨ml, nl, ql⟩ := lim
    have md : Mod K mg (hidT st.heap H) := ⟨kin, back nsG, ⟨mb, back nsB, bbt⟩, ml, back nl, ql⟩
    have en : Env0 P w K mg (hidT st.heap H) callerA [] st H := ⟨rfl, md, fun b o e => of_hidT e, Nat.le_of_eq (hidT_size _ _), trivial, fun b hb => (by cases hb), kH, .of_eq ng⟩
    refine codeAny_mono ((F _ kin (back nsG)).go callerA [] st H ⟨[.ref sa], []⟩ [.ref sa] [.ref sa] _ _ ⟨hr, rfl⟩ en (bi st (.ref sa)) (.cons rfl .nil) (hsp H sH)) fun r s' h => ?_
    rcases r with er | fl
    · exact False.elim h
    · cases fl with
      | ret u =>
        obtain ⟨v, H2, os, bare, un, k2, ru, q⟩ := h
        have qv : v = .bl true := q
        subst qv
        have eu : u = Value.bool true := ru
        subst eu
        refine ⟨rfl, OldK.of_keep fun b o e => ?_, os, bare⟩
        by_cases z : H b = none
        · exact un.keep b o e z (fun y => by cases y) (fun y => by cases y)
        · rcases oH b with y | ⟨ob, xs, y⟩
          · exact absurd y z
          · have e1 := (kH b _ y).1
            have e2 := (k2 b _ (un.frzs b ob _ y)).1
            rw [e] at e1
            cases e1
            exact e2
      | _ => exact False.elim h
  have rv := vals_ints ii
  cases hk : K.lookup sa with
  | some o =>
    have e := KX sa o hk
    rw [hs] at e
    cases e
    exact main (fun _ => none) (fun _ => Or.inl rfl) (.inr ⟨_, us.toArray, _, hk, rfl, rfl, rfl, by rw [List.size_toArray, ii.length]; exact hl, by simpa using rv⟩) (fun b u z => by cases z) fun b z => absurd rfl z
  | none =>
    let Hs : Hp := fun b => if b = sa then some (.frz { cls := .type "list", data := .seq us.toArray } (.lst (ns.map V.int))) else none
    have at_ : Hs sa = some (.frz { cls := .type "list", data := .seq us.toArray } (.lst (ns.map V.int))) := if_pos rfl
    have off : ∀ b, b ≠ sa → Hs b = none := fun b z => if_neg z
    refine main Hs (fun b => ?_) (.inl (.inr ⟨_, at_⟩)) (fun b u z => ?_) fun b z => ?_
    · by_cases y : b = sa
      · subst y; exact Or.inr ⟨_, _, at_⟩
      · exact Or.inl (off b y)
    · by_cases y : b = sa
      · subst y
        rw [at_] at z
        cases z
        exact ⟨hs, by rw [List.length_map]; exact hl, us, _, rv, hs⟩
      · rw [off b y] at z; cases z
    · by_cases y : b = sa
      · exact ⟨y, hk⟩
      · exact absurd (off b y) z
theorem walkG {l : PySem.W.OpenLaw} {n k : Nat} {q : Program} {loose : List Str} {XP : (Str → Option Value) → Heap → Prop} {YP : World → Heap → Prop} {d : DefRec} {K : Params → PySem.W.Frag} {sp : World → Sp} {x : Str} (mo : l.most = some n) (hz : n ≤ sizeLine) (df : d.params.defaults = []) (hr : Room k callerA) (hY : ∀ (w : World) (h : Heap), YP w h → (K w.params).In h)
    (F : ∀ (w : World) (mg : Str → Option Value) (fa : Addr) (h : Heap), (K w.params).In h → h.Ns mainGlobals mg → mg d.name = some (.ref fa) → ∃ fd : FuncData, (∀ (s : Shared) (u : Value), BindsTo s fd ⟨[u], []⟩ [(x, u)]) ∧ ∀ b : Heap, (K w.params).In b → b.Ns mainGlobals mg → GOk l.prog w (K w.params) mg b CX0 k fa fd [x] (sp w))
    (hsp : ∀ (w : World) (H : Hp) (a : Addr) (ns : List Int), ns.length ≤ n → SqL (K w.params) H a (ns.map V.int) → sp w [.ref a] H (fun v _ => v = .bl true) fun _ _ _ => False) : PySem.W.WalkO q loose XP YP l.row.toRowW d [] (fun f vs => PySem.call f vs) := by
  refine Att.attach_call mo df fun w s0 s1 mg mb fa o pm cd doc a vs ns G Y ho hd hcd hmg hobj hints hlen hgen => ?_
  have KX := hY w _ Y
  obtain ⟨fd, b, hF⟩ := F w mg fa _ KX G.T.g hmg
  exact headG KX G.T.g G.T.b G.T.builtins G.T.nolimit hgen hobj hints (Nat.le_trans hlen hz) hr hF b fun H hS => hsp w H a ns hlen hS
end Bw
set_option maxHeartbeats 4000000
/-! t[::-1] of a tuple; x in a tuple; repr of data -/
namespace Bw
open PySem PySem.Spec PyProof.Rows L2 HT
section
variable {prog : Program} {w : World} {A : Around} {E : Value → Shared → Prop} {s : Shared}
theorem adj_rev (n : Nat) : Builtin.Slice.sliceAdjust none none (-1) (n : Int) = ((n : Int) - 1, -1) := by
  unfold Builtin.Slice.sliceAdjust
  simp
theorem places_rev (n : Nat) : Builtin.Slice.slicePlaces ((n : Int) - 1) (-1) (-1) = n := by
  unfold Builtin.Slice.slicePlaces
  simp
  omega
theorem applied_rev {sl : Addr} {vk : Value} {n : Nat} {Q : Int × Int × Nat → Shared → Prop} (hs : s.heap.IsSliceOf sl .none .none vk) (pk : IsPart vk (some (-1))) (h : Q ((n : Int) - 1, -1, n) s) : wpAny (model prog w) A (Builtin.Slice.sliceApplied (.ref sl) (pure (n : Int))) Q E s := by
  obtain ⟨os, hos, hcs, hds⟩ := id hs
  unfold Builtin.Slice.sliceApplied Builtin.Slice.sliceFields
  refine wpAny_bind (wpAny_bind (wpAny_field hos hds (x := .none) rfl (wpAny_bind (wpAny_field hos hds (x := .none) rfl (wpAny_bind (wpAny_field hos hds (x := vk) rfl (wpAny_pure ?z)))))))
  case z =>
    refine wpAny_bind (slicePart_ pk ?_)
    show wpAny _ _ (if ((-1 : Int) == 0) = true then _ else _) _ _ s
    rw [if_neg (by decide)]
    refine wpAny_bind (slicePart_ .none (wpAny_bind (slicePart_ .none (wpAny_bind (wpAny_pure ?_)))))
    show wpAny _ _ (match Builtin.Slice.sliceAdjust none none (-1) (n : Int) with | (lo, hi) => pure (lo, (-1 : Int), Builtin.Slice.slicePlaces lo hi (-1))) _ _ s
    rw [adj_rev]
    show wpAny _ _ (pure ((n : Int) - 1, (-1 : Int), Builtin.Slice.slicePlaces ((n : Int) - 1) (-1) (-1))) _ _ s
    rw [places_rev]
    exact wpAny_pure h
theorem pick_rev (xs : Array Value) : ((List.range xs.size).filterMap fun (m : Nat) => xs[(((xs.size : Int) - 1) + (m : Int) * -1).toNat]?).toArray = xs.toList.reverse.toArray := by
  congr 1
  have e : ∀ k : Nat, k ≤ xs.size → ((List.range k).filterMap fun (m : Nat) => xs[(((xs.size : Int) - 1) + (m : Int) * -1).toNat]?) = xs.toList.reverse.take k := by
    intro k
    induction k with
    | zero => intro _; simp
    | succ k ih =>
      intro hk
      rw [List.range_succ, List.filterMap_append, ih (by omega), List.take_succ]
      congr 1
      have e1 : (((xs.size : Int) - 1) + (k : Int) * -1).toNat = xs.size - 1 - k := by omega
      have e2 : xs.size - 1 - k < xs.size := by omega
      rw [List.getElem?_reverse (by rw [Array.length_toList]; omega)]
      simp only [List.filterMap_cons, List.filterMap_nil, e1, Array.getElem?_toList, Array.length_toList]
      rw [Array.getElem?_eq_getElem e2]
      rfl
  rw [e _ (Nat.le_refl _), List.take_of_length_le (by simp)]
theorem getItem_tuple_rev {t sl : Addr} {items : Array Value} {vk : Value} {Q : Value → Shared → Prop} (ht : IsTup s.heap t items) (hs : s.heap.IsSliceOf sl .none .none vk) (pk : IsPart vk (some (-1)))
    (h : Q (.ref s.heap.objs.size) { s with heap := s.heap.push { cls := .type "tuple", data := .seq items.toList.reverse.toArray } }) (hz : items.size ≤ sizeLine) : wpAny (model prog w) A (getItem (.ref t) (.ref sl)) Q E s := by
  have ok : sizeOk (.seq items.toList.reverse.toArray) := by
    show items.toList.reverse.toArray.size ≤ sizeLine
    simpa using hz
  obtain ⟨os, hos, hcs, hds⟩ := id hs
  have ty : s.TypeIs (.ref sl) "slice" := ⟨os, hos, hcs⟩
  unfold getItem
  try with_reducible refine wpAny_holding ?_
  first | refine wpAny_bind (wpAny_pure ?_) | skip
  refine wpAny_bind (wpAny_sequenceKey ht.typeIs (by decide) (wpAny_bind (wpAny_callSpecial?_slot (name := Str.ofString "__getitem__") ht.typeIs PyProof.Rows.slot_tuple_getitem (wpAny_call_entry PyProof.Rows.slot_tuple_getitem ht.typeIs entry_tuple_getitem ?z (args_tuple_getitem _ _)))))
  case z =>
    show wpAny _ _ (Builtin.Tuple.tupleItemsOf (.ref t) >>= _) _ _ s
    refine wpAny_bind (tupleItemsOf_ ht (wpAny_bind (wpAny_typeOf ty ?_)))
    rw [if_pos (by decide)]
    refine wpAny_bind (applied_rev hs pk ?_)
    have no : ¬ ((((items.size : Int) - 1) == 0 && (-1 : Int) == 1 && items.size == items.size) = true) := by simp
    show wpAny _ _ (if (((items.size : Int) - 1) == 0 && (-1 : Int) == 1 && items.size == items.size) = true then _ else _) _ _ s
    rw [if_neg no, pick_rev]
    first
      | exact wpAny_bind (m := Builtin.Tuple.tupleExact _) (wpAny_newObj_type (wpAny_pure ⟨_, rfl, wpAny_pure h⟩) ok)
      | exact wpAny_bind (m := Builtin.Tuple.tupleExact _) (wpAny_newObj_type (wpAny_bind (wpAny_pure (wpAny_pure ⟨_, rfl, wpAny_pure h⟩))) ok)
      | exact wpAny_bind (wpAny_bind (m := Builtin.Tuple.tupleExact _) (wpAny_newObj_type (wpAny_pure (wpAny_pure ⟨_, rfl, wpAny_pure h⟩)) ok))
      | exact wpAny_bind (wpAny_bind (m := Builtin.Tuple.tupleExact _) (wpAny_newObj_type (wpAny_pure ⟨_, rfl, wpAny_pure h⟩) ok))
end
section
variable {X : Cx}
/-- x[::-1] of a list or a tuple -/
def tRv (K : PySem.W.Frag) (te : TE) : TE := fun σ H Q => te σ H fun x H1 => ∃ a xs, x = .ref a ∧ ((SqL K H1 a xs ∧ ∀ p, H1 p = none → Q (.ref p) (upd H1 p (.lst xs.reverse))) ∨ (SqT K H1 a xs ∧ ∀ p, H1 p = none → Q (.ref p) (upd H1 p (.tup xs.reverse))))
theorem pe_rv {e : Expr} {te : TE} {k : Nat} {p1 p2 p3 pos : Pos} (he : PE X e te) : PE X (.Subscript e (.Slice none none (some (.UnaryOp .USub (.Constant (.int 1) k p1) p2)) p3) pos) (tRv X.K te) := by
  refine ⟨fun pins s σ H Q I h => Subscript_ (thn (he.run pins s σ H _ I h) fun v s1 z1 => ?_)⟩
  obtain ⟨x, H1, I1, r1, a, xs, ex, q⟩ := z1
  subst ex
  cases r1
  have step : PO X (some (.UnaryOp .USub (.Constant (.int 1) k p1) p2)) (tPart (tUn (rU fun i => .int (-i)) (tC (.int 1)))) := po_some (pe_un un_neg pe_int)
  refine wpAny_Slice (thn (po_none.run pins s1 σ H1 (fun o H2 => o = none ∧ H2 = H1) I1 ⟨rfl, rfl⟩) fun vl s2 z2 => ?_)
  obtain ⟨l, H2, I2, pl, el, e2⟩ := z2
  subst el e2
  refine thn (po_none.run pins s2 σ H2 (fun o H3 => o = none ∧ H3 = H2) I2 ⟨rfl, rfl⟩) fun vu s3 z3 => ?_
  obtain ⟨u, H3, I3, pu, eu, e3⟩ := z3
  subst eu e3
  refine thn (step.run pins s3 σ H3 (fun o H4 => o = some (-1) ∧ H4 = H3) I3 ⟨1, rfl, -1, rfl, rfl, rfl⟩) fun vk s4 z4 => ?_
  obtain ⟨o, H4, I4, pk, eo, e4⟩ := z4
  subst eo e4
  have I5 : Inv X pins σ H4 { s4 with heap := s4.heap.push { cls := .type "slice", data := .fields #[vl, vu, vk] } } := I4.kept (t' := s4.toks) fun b ob q => Heap.get?_push_of_some _ q
  show wpAny (model X.prog X.w) X.A (subscriptTail e (.Slice none none (some (.UnaryOp .USub (.Constant (.int 1) k p1) p2)) p3) (.ref a) (.ref s4.heap.objs.size)) (EP X pins σ Q) X.xe _
  rcases q with ⟨hx, q⟩ | ⟨hx, q⟩
  · obtain ⟨its, r, ht, hz⟩ := I5.list hx
    have hn := r.length
    refine tail_any (ops := [.ref a, .ref s4.heap.objs.size]) ht.isList.typeIs (PySem.slot_list_getitem.lookup) (wpAny_getItem_list_slice ht.isList (Heap.IsSliceOf.new _ vl vu vk) pl pu pk (by decide) ?_ (by rw [List.size_toArray]; omega)) (by with_unfolding_all rfl)
    rw [PySem.W.krv_pick]
    exact ⟨.ref _, _, I5.laid (t' := s4.toks) (o := .lst xs.reverse) (fun b ob q => Heap.get?_push_of_some _ q) (Nat.le_refl _) ⟨by rw [List.length_reverse]; exact hz, _, 0, r.reverse, Heap.get?_push_size _ rfl⟩, rfl, q _ (I5.hok.fresh (Nat.le_refl _))⟩
  · obtain ⟨its, r, ht, hz⟩ := I5.tuple hx
    have hn := r.length
    cases pl
    cases pu
    refine tail_any (ops := [.ref a, .ref s4.heap.objs.size]) ht.typeIs (PyProof.Rows.slot_tuple_getitem.lookup) (getItem_tuple_rev ht (Heap.IsSliceOf.new _ .none .none vk) pk ?_ (by rw [List.size_toArray]; omega)) (by with_unfolding_all rfl)
    exact ⟨.ref _, _, I5.laid (t' := s4.toks) (o := .tup xs.reverse) (fun b ob q => Heap.get?_push_of_some _ q) (Nat.le_refl _) ⟨by rw [List.length_reverse]; exact hz, _, r.reverse, IsTup.new _ _⟩, rfl, q _ (I5.hok.fresh (Nat.le_refl _))⟩
/-- x in t, x not in t -/
def rInT (K : PySem.W.Frag) (neg : Bool) : R2 := fun x y H Q => ∃ d ds, Dp K H x d ∧ Dp K H y (.tuple ds) ∧ SeqAt.shaped d = true ∧ SeqAt.shaped (.tuple ds) = true ∧ Q (.bl (if neg then !ds.any fun z => PyData.eqv z d else ds.any fun z => PyData.eqv z d)) H
/-- repr of data -/
def rRepr (K : PySem.W.Frag) : List V → Hp → VK → Prop := fun xs H Q => ∃ x d, xs = [x] ∧ Dp K H x d ∧ d.showable = true ∧ d.hasDict = false ∧ d.depth ≤ 100 ∧ d.shown.length ≤ sizeLine ∧ Q (.str d.shown) H
theorem call_reprD (hg : X.A.guards = some []) (hu : X.A.units + 200 < cLine) : CallR X (.builtin "repr") (rRepr X.K) := by
  intro pins s σ H xs us Q I r h
  obtain ⟨x, d, rfl, hd, hs, hn, hp, hz, q⟩ := h
  obtain ⟨u, rfl, ru⟩ := L2.vals1 r
  obtain ⟨as, rd⟩ := Dp.reads I d x u hd ru
  cases rd with
  | none => exact PySem.P.repr_of_none ⟨.str _, H, I.tok _, ⟨_, rfl⟩, q⟩
  | bool b => exact PySem.P.repr_of_bool ⟨.str _, H, I.tok _, ⟨_, by cases b <;> rfl⟩, q⟩
  | int i t => exact PySem.P.repr_of_int (by simpa [PyData.showable] using hs) ⟨.str _, H, I.tok _, ⟨_, rfl⟩, q⟩
  | str z t => exact PySem.P.repr_of_str ⟨.str _, H, I.tok _, ⟨_, rfl⟩, q⟩ hz
  | list a b c e => exact repr_of_reads' (Reads.list a b c e) hs (PyData.noDict_hsm hn) hg (by omega) (fun _ _ z => z) (fun h' v tk k => ⟨.str _, H, I.kept (t' := tk) k, ⟨_, rfl⟩, q⟩) hz
  | tuple a b c e => exact repr_of_reads' (Reads.tuple a b c e) hs (PyData.noDict_hsm hn) hg (by omega) (fun _ _ z => z) (fun h' v tk k => ⟨.str _, H, I.kept (t' := tk) k, ⟨_, rfl⟩, q⟩) hz
  | dict _ _ _ _ _ => cases hn
end
end Bw
namespace Bw
open PySem PySem.Spec PyProof.Rows L2 RZ
section
variable {X : Cx} {W : WN} {pos : Pos} {K : PySem.W.Frag}
/-! ### calls of defs, no repr under way -/
theorem de_callG {C : CXT} {WC : WX} {k n : Nat} {f : Addr} {fd : FuncData} {ps : List Str} {F : Fd} {x : Str} {p : Pos} {e : Expr} {es : List Expr} {h : Ev (List D)} (hw : WOk X.mg WC W) (FO : GOk X.prog X.w X.K X.mg X.base C k f fd ps (spF X.K X.mg n F)) (hr : Rg k X.A) (hm : X.mg x = some (.ref f)) (hk : PySem.W.keepIn X.K (.ref f) = true) (hb : Binds X.K fd ps []) (hx : ∀ σ, PassesAt C X σ (WE WC σ))
    (hargs : DA X W (e :: es) h) (hg : Gl X x := by rfl) (hdb : (x == ("__debug__" : Str)) = false := by decide) (he : starEach (e :: es) X.env = (false, eval e X.env) :: starEach es X.env := by rfl) (hpl : (backTo pos (starEach es X.env)).any (·.1) = false := by rfl) :
    DE X W (.Call (.Name x p) (e :: es) [] pos) (bnd h (oCall n F)) := by
  obtain ⟨t, q, s⟩ := hargs
  refine ⟨_, pe_callG FO hr hg hm hk hb hx q hdb he hpl, fun θ G => ?_⟩
  refine (s θ G).bind (R2 := RV X.K) (k := fun (vs : List V) (σ : L2.St) (H1 : Hp) (Q : V → Hp → Prop) => spF X.K X.mg n F vs H1 Q (WE WC σ)) fun θ1 G1 vs ds _ _ hv => ?_
  intro ρ M r M' θ2 G2 σ H Q p2 s2 e rs rv kk
  unfold oCall at e
  split at e
  · rename_i hl
    exact ⟨θ2, G2, ds, M, r, M', rs, hv.mono p2 s2, hl, e, fun θ' G' H' a b c => ⟨fun x C h1 h2 => hw _ _ _ ((kk θ' G' H' a b c).1 x h1) C h2, (kk θ' G' H' a b c).2⟩⟩
  · cases e
/-! ### repr of data -/
def oReprD (ds : List D) : Ev D := match ds with
  | [d] => if d.pl = true ∧ (toPy d).showable = true ∧ (toPy d).hasDict = false ∧ (toPy d).depth ≤ 100 ∧ (toPy d).shown.length ≤ 16777216 then ret (.str (toPy d).shown) else stk
  | _ => stk
theorem snd_reprD : SndC K W (rRepr K) oReprD := by
  intro θ0 G0 xs ds hx
  unfold oReprD
  split
  · rename_i d
    split
    · rename_i c
      obtain ⟨v, rfl, hv⟩ := vals1 hx
      intro ρ M r M' θ G σ H Q p s e rs rv kk
      exact ⟨v, toPy d, rfl, (((hv.rp (pl_np c.1)).mono s).mono rs.sub).dp c.1, c.2.1, c.2.2.1, c.2.2.2.1, by rw [sizeLine_eq]; exact c.2.2.2.2, Snd.ret (K := K) (W := W) (R := RV K) (θ0 := θ0) (G0 := G0) (fun _ _ _ _ => .dat (.str _)) ρ M r M' θ G σ H Q p s e rs rv kk⟩
    · exact Snd.stk
  · exact Snd.stk
variable {p p2 : Pos} {e : Expr} {es : List Expr} {h : Ev (List D)} {f g : Ev D} {a b c : Expr}
theorem de_reprD (hr : ∃ k, Rg k X.A) (hm : X.mg "repr" = none) (ha : DA X W (e :: es) h) (hg : Gl X "repr" := by rfl) (he : starEach (e :: es) X.env = (false, eval e X.env) :: starEach es X.env := by rfl) (hpl : (backTo pos (starEach es X.env)).any (·.1) = false := by rfl) : DE X W (.Call (.Name "repr" p) (e :: es) [] pos) (bnd h oReprD) := by
  obtain ⟨k, hr⟩ := hr
  exact de_callB (call_reprD hr.g hr.un200) snd_reprD hm (by decide +kernel) ha hg (by decide) (by decide) he hpl
/-! ### tuple(..), list(..) -/
theorem seqL_of {θ : List Th} {G H : Hp} {M : Mem} {v : V} {d : D} {ds : List D} (rs : Rs K θ G H M) (hv : Rv K θ G v d) (h : seqOf d M = some ds) : (∃ a xs, v = .ref a ∧ SqL K H a xs ∧ RpL K G xs ds) ∨ ∃ a xs, v = .ref a ∧ SqT K H a xs ∧ RpL K G xs ds ∧ Rp K G v (.tup ds) := by
  cases hv with
  | dat q =>
    cases q with
    | tup h1 l g => cases h; exact .inr ⟨_, _, rfl, seqT rs.sub h1, ⟨l, g⟩, .tup h1 l g⟩
    | lst h1 l g => cases h; exact .inl ⟨_, _, rfl, .inl (.inl (rs.sub _ _ h1)), l, g⟩
    | scr h1 l g => cases h; exact .inl ⟨_, _, rfl, rs.sub.seq h1, l, g⟩
    | _ => cases h
  | ptr hn =>
    rename_i n a
    unfold seqOf at h
    dsimp only at h
    split at h
    · rename_i es hm
      cases h
      obtain ⟨g, xs, hx, rl⟩ := rs.mem n _ _ hn hm
      exact .inl ⟨_, xs, rfl, .inl (.inl hx), rl⟩
    · cases h
  | dpt _ => cases h
  | npt _ => cases h
  | exv _ _ => cases h
def oSq (k : List D → D) (ds : List D) : Ev D := fun ρ M => match ds with
  | [d] => match seqOf d M with
    | some es => some (.ok (k es), M)
    | none => none
  | _ => none
def oTupOf : List D → Ev D := oSq .tup
def oLstOf : List D → Ev D := oSq .lst
theorem snd_tupOf : SndC K W (fun xs H Q => ∃ p ys, xs = [.ref p] ∧ ((SqL K H p ys ∧ ∀ l, H l = none → Q (.ref l) (upd H l (.tup ys))) ∨ (SqT K H p ys ∧ Q (.ref p) H))) oTupOf := by
  intro θ0 G0 xs ds hx ρ M r M' θ G σ H Q p s e rs rv kk
  unfold oTupOf oSq at e
  split at e
  · rename_i d
    split at e
    · rename_i es he
      cases e
      obtain ⟨v, rfl, hv⟩ := vals1 hx
      rcases seqL_of rs (hv.mono p s) he with ⟨a, xs, rfl, q, rl⟩ | ⟨a, xs, rfl, q, rl, rp⟩
      · refine ⟨a, xs, rfl, .inl ⟨q, fun l hl => ?_⟩⟩
        have g := rs.fresh hl
        exact (kk θ (upd G l (.tup xs)) _ (List.prefix_refl _) (same_upd g) (rs.laid hl _)).2 _ _ rfl (.dat (rp_tup upd_same (rl.mono (same_upd g))))
      · exact ⟨a, xs, rfl, .inr ⟨q, (kk θ G H (List.prefix_refl _) (Same.refl _) rs).2 _ _ rfl (.dat rp)⟩⟩
    · cases e
  · cases e
theorem de_tupOf (hm : X.mg "tuple" = none) (ha : DA X W (e :: es) h) (hg : Gl X "tuple" := by rfl) (he : starEach (e :: es) X.env = (false, eval e X.env) :: starEach es X.env := by rfl) (hpl : (backTo pos (starEach es X.env)).any (·.1) = false := by rfl) : DE X W (.Call (.Name "tuple" p) (e :: es) [] pos) (bnd h oTupOf) :=
  de_callTy call_tuple_of snd_tupOf hm (by decide +kernel) ha hg (by decide) (by decide) he hpl
/-! ### any, all -/
def oBs (k : List Bool → Bool) (ds : List D) : Ev D := match ds with
  | [.lst es] => match blsOf es with
    | some bs => ret (.bl (k bs))
    | none => stk
  | _ => stk
def oAny : List D → Ev D := oBs fun bs => bs.any id
def oAll : List D → Ev D := oBs fun bs => bs.all id
/-! ### constants of the module -/
theorem de_const {x : Str} {ca : Addr} {d : D} (hm : X.mg x = some (.ref ca)) (hd : ∀ G, Rp X.K G (.ref ca) d) (hg : Gl X x := by rfl) (hdb : (x == ("__debug__" : Str)) = false := by decide) : DE X W (.Name x pos) (ret d) := ⟨_, pe_glob (v := .ref ca) hg hm rfl (hd := hdb), fun _ _ => snd_c hd⟩
/-! ### is None -/
def D.isN : D → Bool
  | .non => true
  | _ => false
theorem Rv.isN {θ : List Th} {G : Hp} {v : V} {d : D} (h : Rv K θ G v d) : decide (v = .non) = d.isN := by
  cases h with
  | dat h => cases h <;> first | rfl | exact decide_eq_false (fun z => by cases z)
  | ptr h => exact decide_eq_false (fun z => by cases z)
  | exv _ h => exact decide_eq_false (fun z => by cases z)
  | dpt h => exact decide_eq_false (fun z => by cases z)
  | npt h => exact decide_eq_false (fun z => by cases z)
def oIsN (d e : D) : Ev D := match e with
  | .non => ret (.bl d.isN)
  | _ => stk
def oNotN (d e : D) : Ev D := match e with
  | .non => ret (.bl (!d.isN))
  | _ => stk
/-! ### truth of a sequence -/
def asTru (d : D) : Ev Bool := fun ρ M => match d with
  | .bl b => some (.ok b, M)
  | d => match seqOf d M with
    | some es => some (.ok (!es.isEmpty), M)
    | none => none
theorem dt_tru (h : DE X W e f) (he : ∀ whole, isTrue e X.env whole = (do let v ← whole; standAt e.pos; holding [v] (truthy v)) := by intro _; rfl) : DT X W e (bnd f asTru) := by
  obtain ⟨t, q, s⟩ := h
  refine ⟨_, pt_truth q he, fun θ G => (s θ G).bind (R2 := RB) (k := fun (x : V) (_ : L2.St) (H : Hp) (Q : Bool → Hp → Prop) => ∃ k, TruV X.K x H k ∧ Q k H) fun θ1 G1 v d _ _ hv => ?_⟩
  intro ρ M r M' θ2 G2 σ H Q p s e rs rv kk
  unfold asTru at e
  split at e
  · rename_i b
    cases e
    rw [hv.bl_of]
    exact ⟨b, rfl, (kk θ2 G2 H (List.prefix_refl _) (Same.refl _) rs).2 _ _ rfl rfl⟩
  · split at e
    · rename_i es he
      cases e
      obtain ⟨a, xs, rfl, q, rl⟩ := seq_of rs (hv.mono p s) he
      have ee : xs.isEmpty = es.isEmpty := by
        have := rl.len
        cases xs <;> cases es <;> simp_all
      refine ⟨!es.isEmpty, ?_, (kk θ2 G2 H (List.prefix_refl _) (Same.refl _) rs).2 _ _ rfl rfl⟩
      rw [← ee]
      rcases q with q | q
      · exact .inl ⟨xs, q, rfl⟩
      · exact .inr (.inl ⟨xs, q, rfl⟩)
    · cases e
/-! ### a < b < c -/
def dChain (f g h : Ev D) (o o' : D → D → Ev D) : Ev D := bnd f fun x => bnd g fun y => bnd (o x y) fun z => bnd (asB z) fun k => if k = true then bnd h fun w => o' y w else ret (.bl false)
/-! ### == of lists that change -/
def frz (M : Mem) (d : D) : D := match d with
  | .ptr n => match M[n]? with
    | some (some ds) => .lst ds
    | _ => d
  | _ => d
def oEqM (d e : D) : Ev D := fun ρ M => oEq (frz M d) (frz M e) ρ M
def oNeM (d e : D) : Ev D := fun ρ M => oNe (frz M d) (frz M e) ρ M
theorem frz_dp {θ : List Th} {G H : Hp} {M : Mem} {v : V} {d : D} (rs : Rs K θ G H M) (hv : Rv K θ G v d) (pl : (frz M d).pl = true) : Dp K H v (toPy (frz M d)) := by
  have base : ∀ {d : D}, Rv K θ G v d → d.pl = true → Dp K H v (toPy d) := fun hv pl => ((hv.rp (pl_np pl)).mono rs.sub).dp pl
  cases hv with
  | dat q =>
    have ef : frz M d = d := by cases q <;> rfl
    rw [ef] at pl ⊢
    exact base (.dat q) pl
  | exv hn q => exact base (.exv hn q) pl
  | dpt q => exact base (.dpt q) pl
  | npt q => exact base (.npt q) pl
  | ptr hn =>
    rename_i n a
    unfold frz at pl ⊢
    dsimp only at pl ⊢
    split at pl
    · rename_i ds hm
      obtain ⟨g, xs, hx, rl⟩ := rs.mem n _ _ hn hm
      exact .lst (.inl (.inl hx)) (dpAll_of rl.len fun i v d a b => ((rl.get i v d a b).mono rs.sub).dp (plL_get _ i d (by unfold D.pl at pl; exact pl) b))
    · cases pl
theorem snd_neM : SndO K W (rNeD K) oNeM := by
  intro θ G x y d e hx hy ρ M r M' θ1 G1 σ H Q p s e1 rs rv kk
  unfold oNeM oNe at e1
  split at e1
  · rename_i c
    exact ⟨_, _, frz_dp rs (hx.mono p s) c.1, frz_dp rs (hy.mono p s) c.2.1, c.2.2.1, c.2.2.2, Snd.ret (K := K) (W := W) (R := RV K) (θ0 := θ) (G0 := G) (fun _ _ _ _ => rv_bl) ρ M r M' θ1 G1 σ H Q p s e1 rs rv kk⟩
  · cases e1
theorem dt_neM (hu : X.A.units + 64 < cLine) (ha : DE X W a f) (hb : DE X W b g) : DT X W (.Compare a [.NotEq] [b] pos) (bnd (bnd f fun d => bnd g fun e => oNeM d e) asB) := dt_cmp (op_neD hu) snd_neM ha hb (nomark _)
/-! ### x in a row -/
def oInD (neg : Bool) (d e : D) : Ev D :=
  if d.pl = true ∧ e.pl = true ∧ SeqAt.shaped (toPy d) = true ∧ SeqAt.shaped (toPy e) = true then match e with
    | .tup es => ret (.bl (if neg then !(toPys es).any fun z => PyData.eqv z (toPy d) else (toPys es).any fun z => PyData.eqv z (toPy d)))
    | .lst es => ret (.bl (if neg then !(toPys es).any fun z => PyData.eqv z (toPy d) else (toPys es).any fun z => PyData.eqv z (toPy d)))
    | _ => stk
  else stk
def rInLT (K : PySem.W.Frag) (neg : Bool) : R2 := fun x y H Q => rInT K neg x y H Q ∨ ∃ d ds, Dp K H x d ∧ Dp K H y (.list ds) ∧ SeqAt.shaped d = true ∧ SeqAt.shaped (.list ds) = true ∧ Q (.bl (if neg then !ds.any fun z => PyData.eqv z d else ds.any fun z => PyData.eqv z d)) H
/-! ### slices -/
abbrev RO : List Th → Hp → Option Int → Option Int → Prop := fun _ _ x y => x = y
def DO (X : Cx) (W : WN) (e : Option Expr) (g : Ev (Option Int)) : Prop := ∃ t, PO X e t ∧ ∀ θ G, Snd X.K W RO θ G t g
def asI (d : D) : Ev (Option Int) := match d with
  | .int i => ret (some i)
  | _ => stk
theorem do_none : DO X W none (ret none) := ⟨_, po_none, fun _ _ => Snd.ret fun _ _ _ _ => rfl⟩
theorem do_some (h : DE X W e f) : DO X W (some e) (bnd f asI) := by
  obtain ⟨t, q, s⟩ := h
  refine ⟨_, po_some q, fun θ G => (s θ G).bind (R2 := RO) (k := fun (x : V) (_ : L2.St) (H : Hp) (Q : Option Int → Hp → Prop) => ∃ i, x = .int i ∧ Q (some i) H) fun θ1 G1 v d _ _ hv => ?_⟩
  unfold asI
  split
  · rename_i i
    rw [hv.int_of]
    intro ρ M r M' θ2 G2 σ H Q p s e rs rv kk
    exact ⟨i, rfl, Snd.ret (K := X.K) (W := W) (R := RO) (θ0 := θ1) (G0 := G1) (fun _ _ _ _ => rfl) ρ M r M' θ2 G2 σ H Q p s e rs rv kk⟩
  · exact Snd.stk
def cutD (ds : List D) (lo hi : Option Int) : List D := (ds.drop (HT.sIx ds.length 0 lo)).take (HT.sIx ds.length ds.length hi - HT.sIx ds.length 0 lo)
theorem RpL.drop {G : Hp} {xs : List V} {ds : List D} (r : RpL K G xs ds) (n : Nat) : RpL K G (xs.drop n) (ds.drop n) := ⟨by simp [r.len], fun i v d h1 h2 => r.get (n + i) v d (by simpa using h1) (by simpa using h2)⟩
theorem RpL.take {G : Hp} {xs : List V} {ds : List D} (r : RpL K G xs ds) (n : Nat) : RpL K G (xs.take n) (ds.take n) := by
  refine ⟨by simp [r.len], fun i v d h1 h2 => ?_⟩
  rw [List.getElem?_take] at h1 h2
  split at h1
  · rename_i hi
    rw [if_pos hi] at h2
    exact r.get i v d h1 h2
  · cases h1
theorem RpL.cut {G : Hp} {xs : List V} {ds : List D} (r : RpL K G xs ds) (lo hi : Option Int) : RpL K G (cutV xs lo hi) (cutD ds lo hi) := by
  unfold cutV cutD
  rw [r.len]
  exact (r.drop _).take _
theorem RpL.reverse {G : Hp} {xs : List V} {ds : List D} (r : RpL K G xs ds) : RpL K G xs.reverse ds.reverse := by
  refine ⟨by simp [r.len], fun i v d h1 h2 => ?_⟩
  have hi : i < xs.length := by
    rcases Nat.lt_or_ge i xs.length with q | q
    · exact q
    · rw [List.getElem?_eq_none (by simpa using q)] at h1; cases h1
  rw [List.getElem?_reverse hi] at h1
  rw [List.getElem?_reverse (by rw [← r.len]; exact hi), ← r.len] at h2
  exact r.get _ v d h1 h2
/-- a list's items -/
def lseq (d : D) (M : Mem) : Option (List D) := match d with
  | .tup _ => none
  | d => seqOf d M
theorem lseq_of {θ : List Th} {G H : Hp} {M : Mem} {v : V} {d : D} {ds : List D} (rs : Rs K θ G H M) (hv : Rv K θ G v d) (h : lseq d M = some ds) : ∃ a xs, v = .ref a ∧ SqL K H a xs ∧ RpL K G xs ds := by
  cases hv with
  | dat q =>
    cases q with
    | lst h1 l g => cases h; exact ⟨_, _, rfl, .inl (.inl (rs.sub _ _ h1)), l, g⟩
    | scr h1 l g => cases h; exact ⟨_, _, rfl, rs.sub.seq h1, l, g⟩
    | _ => cases h
  | ptr hn =>
    rename_i n a
    unfold lseq seqOf at h
    dsimp only at h
    split at h
    · rename_i es hm
      cases h
      obtain ⟨g, xs, hx, rl⟩ := rs.mem n _ _ hn hm
      exact ⟨_, xs, rfl, .inl (.inl hx), rl⟩
    · cases h
  | dpt _ => cases h
  | npt _ => cases h
  | exv _ _ => cases h
def oSl (d : D) (lo hi : Option Int) : Ev D := fun ρ M => match d with
  | .tup ds => some (.ok (.tup (cutD ds lo hi)), M)
  | d => match lseq d M with
    | some ds => some (.ok (.lst (cutD ds lo hi)), M)
    | none => none
theorem de_slice {lo hi : Option Expr} {gl gh : Ev (Option Int)} (ha : DE X W a f) (hl : DO X W lo gl) (hh : DO X W hi gh) : DE X W (.Subscript a (.Slice lo hi none p2) pos) (bnd f fun d => bnd gl fun l => bnd gh fun u => oSl d l u) := by
  obtain ⟨t, q, s⟩ := ha
  obtain ⟨tl, pl, sl⟩ := hl
  obtain ⟨th, ph, sh⟩ := hh
  refine ⟨_, pe_slice (sl_tupA.or sl_list) q pl ph, fun θ G => ?_⟩
  refine (s θ G).bind (R2 := RV X.K) (k := fun (x : V) (σ : L2.St) (H1 : Hp) (Q : V → Hp → Prop) => tl σ H1 fun l H2 => th σ H2 fun u H3 => rSlA X.K x l u H3 Q ∨ rSlL X.K x l u H3 Q) fun θ1 G1 v d _ _ hv => ?_
  refine (sl θ1 G1).bind (R2 := RV X.K) (k := fun (l : Option Int) (σ : L2.St) (H2 : Hp) (Q : V → Hp → Prop) => th σ H2 fun u H3 => rSlA X.K v l u H3 Q ∨ rSlL X.K v l u H3 Q) fun θ2 G2 l l' p2 s2 hl => ?_
  cases hl
  refine (sh θ2 G2).bind (R2 := RV X.K) (k := fun (u : Option Int) (_ : L2.St) (H3 : Hp) (Q : V → Hp → Prop) => rSlA X.K v l u H3 Q ∨ rSlL X.K v l u H3 Q) fun θ3 G3 u u' p3 s3 hu => ?_
  cases hu
  intro ρ M r M' θ4 G4 σ H Q p4 s4 e rs rv kk
  have hv4 := hv.mono ((p2.trans p3).trans p4) ((s2.trans s3).trans s4)
  have lay : ∀ {xs : List V} {ds : List D}, RpL X.K G4 xs ds → ∀ q, H q = none → (r = .ok (.lst (cutD ds l u))) → M' = M → Q (.ref q) (upd H q (.lst (cutV xs l u))) := by
    intro xs ds rl q hq e1 e2
    subst e1; subst e2
    have g := rs.fresh hq
    exact (kk θ4 (upd G4 q (.lst (cutV xs l u))) _ (List.prefix_refl _) (same_upd g) (rs.laid hq _)).2 _ _ rfl (.dat (rp_lst upd_same ((rl.cut l u).mono (same_upd g))))
  unfold oSl at e
  split at e
  · rename_i ds
    cases e
    cases hv4 with
    | dat hd =>
      cases hd with
      | tup h1 l1 g1 =>
        rename_i a xs
        have rl : RpL X.K G4 xs ds := ⟨l1, g1⟩
        refine .inl ⟨a, xs, rfl, seqT rs.sub h1, fun hw => ?_, fun _ q hq => ?_⟩
        · have ec : cutD ds l u = ds := by
            unfold cutD
            rw [rl.len] at hw
            rw [hw.1, hw.2]
            simp
          rw [ec] at kk
          exact (kk θ4 G4 H (List.prefix_refl _) (Same.refl _) rs).2 _ _ rfl (.dat (.tup h1 l1 g1))
        · have g := rs.fresh hq
          exact (kk θ4 (upd G4 q (.tup (cutV xs l u))) _ (List.prefix_refl _) (same_upd g) (rs.laid hq _)).2 _ _ rfl (.dat (rp_tup upd_same ((rl.cut l u).mono (same_upd g))))
  · split at e
    · rename_i ds hd
      cases e
      obtain ⟨a, xs, rfl, q, rl⟩ := lseq_of rs hv4 hd
      exact .inr ⟨a, xs, rfl, q, fun q hq => lay rl q hq rfl rfl⟩
    · cases e
/-! ### x[::-1] -/
def oRv (d : D) : Ev D := fun ρ M => match d with
  | .tup ds => some (.ok (.tup ds.reverse), M)
  | d => match lseq d M with
    | some ds => some (.ok (.lst ds.reverse), M)
    | none => none
theorem de_rv {k : Nat} {p1 p3 p4 : Pos} (ha : DE X W a f) : DE X W (.Subscript a (.Slice none none (some (.UnaryOp .USub (.Constant (.int 1) k p1) p3)) p4) pos) (bnd f oRv) := by
  obtain ⟨t, q, s⟩ := ha
  refine ⟨_, pe_rv q, fun θ G => ?_⟩
  refine (s θ G).bind (R2 := RV X.K) (k := fun (x : V) (σ : L2.St) (H1 : Hp) (Q : V → Hp → Prop) => ∃ a xs, x = .ref a ∧ ((SqL X.K H1 a xs ∧ ∀ p, H1 p = none → Q (.ref p) (upd H1 p (.lst xs.reverse))) ∨ (SqT X.K H1 a xs ∧ ∀ p, H1 p = none → Q (.ref p) (upd H1 p (.tup xs.reverse))))) fun θ1 G1 v d _ _ hv => ?_
  intro ρ M r M' θ4 G4 σ H Q p4 s4 e rs rv kk
  have hv4 := hv.mono p4 s4
  unfold oRv at e
  split at e
  · rename_i ds
    cases e
    cases hv4 with
    | dat hd =>
      cases hd with
      | tup h1 l1 g1 =>
        rename_i a xs
        have rl : RpL X.K G4 xs ds := ⟨l1, g1⟩
        refine ⟨a, xs, rfl, .inr ⟨seqT rs.sub h1, fun q hq => ?_⟩⟩
        have g := rs.fresh hq
        exact (kk θ4 (upd G4 q (.tup xs.reverse)) _ (List.prefix_refl _) (same_upd g) (rs.laid hq _)).2 _ _ rfl (.dat (rp_tup upd_same (rl.reverse.mono (same_upd g))))
  · split at e
    · rename_i ds hd
      cases e
      obtain ⟨a, xs, rfl, q, rl⟩ := lseq_of rs hv4 hd
      refine ⟨a, xs, rfl, .inl ⟨q, fun q hq => ?_⟩⟩
      have g := rs.fresh hq
      exact (kk θ4 (upd G4 q (.lst xs.reverse)) _ (List.prefix_refl _) (same_upd g) (rs.laid hq _)).2 _ _ rfl (.dat (rp_lst upd_same (rl.reverse.mono (same_upd g))))
    · cases e
/-! ### for over a list or a tuple -/
def iSeq (K : PySem.W.Frag) (tl : TE) : TI := fun σ H R => tl σ H fun x H1 => (∃ a, x = .ref a ∧ (∃ xs, SqL K H1 a xs) ∧ R (Itl K a) H1) ∨ ∃ a, x = .ref a ∧ (∃ xs, SqT K H1 a xs) ∧ R (Itt K a) H1
theorem pi_seq {tg l : Expr} {tl : TE} (hl : PE X l tl) : PI X tg l (iSeq X.K tl) := by
  refine ⟨fun pins s σ H R I h => thn (hl.run pins s σ H _ I h) fun v s1 z => ?_⟩
  obtain ⟨x, H1, I1, r1, q1⟩ := z
  have new : ∀ b, b ∈ [s1.heap.objs.size] → b = s1.heap.objs.size := fun b hb => by simpa using hb
  rcases q1 with ⟨a, e, ⟨xs, hq⟩, q⟩ | ⟨a, e, ⟨xs, hq⟩, q⟩
  · subst e
    cases r1
    obtain ⟨its, _, pl, _⟩ := I1.list hq
    refine wpAny_pyIter_list pl.isList ⟨_, [s1.heap.objs.size], _, _, H1, rfl, I1.kept (t' := s1.toks) fun b o e => Heap.get?_push_of_some _ e, turn_list a _, ⟨_, Heap.get?_push_size _ rfl, rfl, rfl⟩, fun b hb => ?_, q⟩
    rw [new b hb]
    exact I1.fpOk (Nat.le_refl _) (I1.hok.fresh (Nat.le_refl _))
  · subst e
    cases r1
    obtain ⟨its, _, pl, _⟩ := I1.tuple hq
    refine wpAny_pyIter_tuple (show s1.heap.IsTuple a its.toArray from pl) ⟨_, [s1.heap.objs.size], _, _, H1, rfl, I1.kept (t' := s1.toks) fun b o e => Heap.get?_push_of_some _ e, turn_tuple a _, ⟨_, Heap.get?_push_size _ rfl, rfl, rfl⟩, fun b hb => ?_, q⟩
    rw [new b hb]
    exact I1.fpOk (Nat.le_refl _) (I1.hok.fresh (Nat.le_refl _))
def oItS (d : D) : Ev (List D) := match d with
  | .lst ds => ret ds
  | .tup ds => ret ds
  | _ => stk
theorem di_seq {tg : Expr} (h : DE X W e f) : DI X W tg e (bnd f oItS) := by
  obtain ⟨t, q, s⟩ := h
  refine ⟨_, pi_seq q, fun θ G => (s θ G).bind (R2 := RI X.K) (k := fun (x : V) (_ : L2.St) (H1 : Hp) (R : It → Hp → Prop) => (∃ a, x = .ref a ∧ (∃ xs, SqL X.K H1 a xs) ∧ R (Itl X.K a) H1) ∨ ∃ a, x = .ref a ∧ (∃ xs, SqT X.K H1 a xs) ∧ R (Itt X.K a) H1) fun θ1 G1 v d _ _ hv => ?_⟩
  unfold oItS
  split
  · rename_i ds
    cases hv with
    | dat hv =>
      cases hv with
      | lst hq l g =>
        rename_i a xs
        intro ρ M r M' θ2 G2 σ H Q p s e rs rv kk
        exact .inl ⟨a, rfl, ⟨xs, .inl (.inl (rs.sub _ _ (s _ _ hq)))⟩, Snd.ret (K := X.K) (W := W) (R := RI X.K) (θ0 := θ1) (G0 := G1) (fun _ _ p s => (ri_list (.inl (.inl hq)) ⟨l, g⟩).mono p s) ρ M r M' θ2 G2 σ H Q p s e rs rv kk⟩
  · rename_i ds
    cases hv with
    | dat hv =>
      cases hv with
      | tup hq l g =>
        rename_i a xs
        intro ρ M r M' θ2 G2 σ H Q p s e rs rv kk
        exact .inr ⟨a, rfl, ⟨xs, seqT rs.sub (seqT s hq)⟩, Snd.ret (K := X.K) (W := W) (R := RI X.K) (θ0 := θ1) (G0 := G1) (fun _ _ p s => (ri_tup hq ⟨l, g⟩).mono p s) ρ M r M' θ2 G2 σ H Q p s e rs rv kk⟩
  · exact Snd.stk
/-! ### zip of two tuples, of two lists -/
def zipD (a b : List D) : List D := (a.zip b).map fun q => .tup [q.1, q.2]
def oZip (ds : List D) : Ev (List D) := match ds with
  | [.tup a, .tup b] => ret (zipD a b)
  | [.lst a, .lst b] => ret (zipD a b)
  | _ => stk
theorem rp_pair {G : Hp} {q : Addr} {x y : V} {u v : D} (h : G q = some (.tup [x, y])) (hx : Rp K G x u) (hy : Rp K G y v) : Rp K G (.ref q) (.tup [u, v]) := rp_tup h (RpL.cons hx (RpL.cons hy RpL.nil))
/-! ### x += e of numbers -/
def sAug (i : Nat) (f : Ev D) (o : D → D → Ev D) : Sv := fun ρ M => match ρ[i]? with
  | some (some d) => thenS f (fun e => thenS (o d e) fun z ρ M => some (.nx (ρ.set i (some z)), M)) ρ M
  | _ => none
def oAddI (d e : D) : Ev D := match d, e with
  | .int i, .int j => ret (.int (i + j))
  | _, _ => stk
def oSubI (d e : D) : Ev D := match d, e with
  | .int i, .int j => ret (.int (i - j))
  | _, _ => stk
end
/-! ### defs -/
section
variable {K : PySem.W.Frag} {P : Program} {w : World} {mg : Str → Option Value} {base : Heap} {x qual : Str} {st : Stmt} {f : Addr} {fd : FuncData} {N ps : List Str} {k n : Nat} {F : Fd} {fb : Sv}
theorem fn_okG (FU : Fun K x qual st f fd) (S : FnScope N ps (defScope st)) (hn : ps.length = n)
    (body : ∀ (cdv : Value) (A : Around) (outer : List PySem.Env) (s : Shared) (H : Hp) (E : XK), Rg k (A.deeper (envOfC qual (defScope st) s.heap.objs.size f cdv)) → DSs (cxOf CX0 P w K mg base N qual (defScope st) f cdv A outer s H E).nox W0 (defBody st) fb)
    (hF : ∀ ds M r M', ds.length = n → F ds M = some (r, M') → M.length ≤ M'.length ∧ ∃ o M2, fb (startD N ds) M = some (o, M2) ∧ Exit o M2 r M')
    (hx : ∀ ds M C M', F ds M ≠ some (.exc C, M')) : GOk P w K mg base CX0 (k + 1) f fd ps (spF K mg n F) := by
  refine gok_of FU S (fun vs H Q E h => (spF_len h).trans hn.symm) fun cdv A outer s H vs Q E hr h => ?_
  obtain ⟨t, p, sn⟩ := body cdv A outer s H E hr
  refine ⟨t, p.nox, ?_⟩
  obtain ⟨θ, G, ds, M, r, M', rs, rv, hl, e, kk⟩ := h
  obtain ⟨hle, o, M2, e2, ex⟩ := hF ds M r M' hl e
  cases r with
  | exc C => exact absurd e (hx ds M C M')
  | ok d =>
    exact body_ok (mg := fun _ => some (.ref 0)) (W := W0) (E := fun _ _ _ => False) (fun _ _ _ h => h 0 rfl) sn hF ⟨θ, G, ds, M, .ok d, M', rs, rv, hl, e, fun θ' G' H' p' s' rs' => ⟨fun x C hC => (by cases hC), (kk θ' G' H' p' s' rs').2⟩⟩
theorem fn_okXG (FU : Fun K x qual st f fd) (S : FnScope N ps (defScope st)) (hn : ps.length = n)
    (body : ∀ (cdv : Value) (A : Around) (outer : List PySem.Env) (s : Shared) (H : Hp) (E : XK), Rg k (A.deeper (envOfC qual (defScope st) s.heap.objs.size f cdv)) → DSs (cxOf (L2.CX P w) P w K mg base N qual (defScope st) f cdv A outer s H E) (fun x _ H => ∀ C, mg x = some (.ref C) → E (.ref C) none H) (defBody st) fb)
    (hF : ∀ ds M r M', ds.length = n → F ds M = some (r, M') → M.length ≤ M'.length ∧ ∃ o M2, fb (startD N ds) M = some (o, M2) ∧ Exit o M2 r M') : GOk P w K mg base (L2.CX P w) (k + 1) f fd ps (spF K mg n F) := by
  refine gok_of FU S (fun vs H Q E h => (spF_len h).trans hn.symm) fun cdv A outer s H vs Q E hr h => ?_
  obtain ⟨t, p, sn⟩ := body cdv A outer s H E hr
  exact ⟨t, p, body_ok (fun _ _ _ h => h) sn hF h⟩
end
end Bw
namespace Bw
open PySem PySem.Spec PyProof.Rows L2
theorem rp_c2 {K : PySem.W.Frag} {a : Addr} {od : Option Addr} {n : Nat} {sl : Array (Option Value)} {t0 t1 : Tok} {i j : Int} (l : K.lookup a = some ⟨.type "tuple", od, .seq #[.int i t0, .int j t1] n, sl⟩) (G : Hp) : Rp K G (.ref a) (.tup [.int i, .int j]) := by
  have r : RpL K G [V.int i, V.int j] [.int i, .int j] := RpL.cons (.int i) (RpL.cons (.int j) RpL.nil)
  have v : Vals [V.int i, V.int j] [Value.int i t0, Value.int j t1] := .cons ⟨t0, rfl⟩ (.cons ⟨t1, rfl⟩ .nil)
  have z : (#[Value.int i t0, Value.int j t1] : Array Value).size ≤ sizeLine := by rw [sizeLine_eq]; simp
  exact .tup (.inr ⟨_, _, n, l, rfl, rfl, z, v⟩) r.len r.get
end Bw
namespace Bw
open PySem PySem.Spec PyProof.Rows L2
/-! ### == of texts -/
def oEqS (d e : D) : Ev D := match d, e with
  | .str a, .str b => ret (.bl (decide (a = b)))
  | _, _ => stk
def oNeS (d e : D) : Ev D := match d, e with
  | .str a, .str b => ret (.bl (!decide (a = b)))
  | _, _ => stk
section
variable {X : Cx} {W : WN} {pos : Pos} {K : PySem.W.Frag} {a b : Expr} {f g : Ev D}
theorem Rv.str_of {θ : List Th} {G : Hp} {v : V} {z : Str} (h : Rv K θ G v (.str z)) : v = .str z := by
  cases h with
  | dat h => cases h; rfl
theorem dec_str (a b : Str) : decide (V.str a = V.str b) = decide (a = b) := by
  by_cases h : a = b
  · subst h; simp
  · rw [decide_eq_false h, decide_eq_false fun z => h (by cases z; rfl)]
theorem snd_neS : SndO K W rNe oNeS := by
  intro θ G x y d e hx hy
  unfold oNeS
  split
  · rename_i a b
    rw [hx.str_of, hy.str_of]
    intro ρ M r M' θ1 G1 σ H Q p s e rs rv kk
    refine ⟨rfl, ?_⟩
    rw [dec_str]
    exact Snd.ret (K := K) (W := W) (R := RV K) (θ0 := θ) (G0 := G) (fun _ _ _ _ => rv_bl) ρ M r M' θ1 G1 σ H Q p s e rs rv kk
  · exact Snd.stk
theorem dt_neS (ha : DE X W a f) (hb : DE X W b g) : DT X W (.Compare a [.NotEq] [b] pos) (bnd (bnd f fun d => bnd g fun e => oNeS d e) asB) := dt_cmp op_ne snd_neS ha hb (nomark _)
end
theorem oEqS_ap (a b : Str) (ρ : Env) (M : Mem) : oEqS (.str a) (.str b) ρ M = some (.ok (.bl (decide (a = b))), M) := rfl
theorem oNeS_ap (a b : Str) (ρ : Env) (M : Mem) : oNeS (.str a) (.str b) ρ M = some (.ok (.bl (!decide (a = b))), M) := rfl
/-! ### what is shown -/
structure Sh (k n : Nat) (d : D) : Prop where
  pl : d.pl = true
  sh : (toPy d).showable = true
  nd : (toPy d).hasDict = false
  dp : (toPy d).depth ≤ k
  ln : (toPy d).shown.length ≤ 2000 * n
theorem Sh.mono {k n k' n' : Nat} {d : D} (h : Sh k n d) (hk : k ≤ k') (hn : n ≤ n') : Sh k' n' d := ⟨h.pl, h.sh, h.nd, Nat.le_trans h.dp hk, Nat.le_trans h.ln (Nat.mul_le_mul_left _ hn)⟩
theorem Sh.int {i : Int} (h : i.natAbs.log2 < 1920) : Sh 0 1 (.int i) := ⟨rfl, by simpa [toPy, PyData.showable] using h, rfl, by simp [toPy, PyData.depth], by
  have := int_text_len_1921 h
  simp only [toPy, PyData.shown]
  omega⟩
theorem Sh.non : Sh 0 1 .non := ⟨rfl, rfl, rfl, by simp [toPy, PyData.depth], by show (PySem.Str.ofString "None").length ≤ _; decide⟩
theorem Sh.bl (b : Bool) : Sh 0 1 (.bl b) := ⟨rfl, rfl, rfl, by simp [toPy, PyData.depth], by cases b <;> simp only [toPy, PyData.shown] <;> decide⟩
theorem plL_of : ∀ {ds : List D}, (∀ d ∈ ds, d.pl = true) → plL ds = true
  | [], _ => rfl
  | d :: ds, h => by
    unfold plL
    rw [h d (by simp), plL_of fun e he => h e (by simp [he])]
    rfl
theorem shL_of : ∀ {ds : List D}, (∀ d ∈ ds, (toPy d).showable = true) → PyData.showableAll (toPys ds) = true
  | [], _ => rfl
  | d :: ds, h => by
    simp only [toPys, PyData.showableAll]
    rw [h d (by simp), shL_of fun e he => h e (by simp [he])]
    rfl
theorem ndL_of : ∀ {ds : List D}, (∀ d ∈ ds, (toPy d).hasDict = false) → PyData.hasDictAll (toPys ds) = false
  | [], _ => rfl
  | d :: ds, h => by
    simp only [toPys, PyData.hasDictAll]
    rw [h d (by simp), ndL_of fun e he => h e (by simp [he])]
    rfl
theorem dpL_of {k : Nat} : ∀ {ds : List D}, (∀ d ∈ ds, (toPy d).depth ≤ k) → PyData.depthAll (toPys ds) ≤ k
  | [], _ => by simp [toPys, PyData.depthAll]
  | d :: ds, h => by
    simp only [toPys, PyData.depthAll]
    have h1 := h d (by simp)
    have h2 := dpL_of (ds := ds) fun e he => h e (by simp [he])
    omega
theorem lnL_of {n : Nat} : ∀ {ds : List D}, (∀ d ∈ ds, (toPy d).shown.length ≤ n) → piled (PyData.shownAll (toPys ds)) ≤ ds.length * (n + 2)
  | [], _ => by simp [toPys, PyData.shownAll, piled]
  | d :: ds, h => by
    simp only [toPys, PyData.shownAll]
    rw [piled_cons]
    have h1 := h d (by simp)
    have h2 := lnL_of (ds := ds) fun e he => h e (by simp [he])
    rw [List.length_cons, Nat.succ_mul]
    omega
theorem textFrom_le : ∀ (ts : List Str) (k : Nat) (acc : Str), (textFrom k acc ts).length ≤ acc.length + piled ts
  | [], k, acc => by simp [textFrom]
  | t :: ts, k, acc => by
    unfold textFrom
    refine Nat.le_trans (textFrom_le ts _ _) ?_
    rw [strLen_append, strLen_append, piled_cons]
    have : ((if k > 0 then ", " else "" : String) : Str).length ≤ 2 := by split <;> decide
    omega
theorem join_le (ts : List Str) : (Str.join ", " ts).length ≤ piled ts := by
  cases ts with
  | nil => exact Nat.zero_le _
  | cons t r =>
    have := join_length_add (t :: r) (by simp)
    omega
theorem Sh.tup {k n : Nat} {ds : List D} (h : ∀ d ∈ ds, Sh k n d) : Sh (k + 1) (ds.length * (n + 1) + 1) (.tup ds) := by
  refine ⟨?_, ?_, ?_, ?_, ?_⟩
  · unfold D.pl; exact plL_of fun d hd => (h d hd).pl
  · simp only [toPy, PyData.showable]; exact shL_of fun d hd => (h d hd).sh
  · simp only [toPy, PyData.hasDict]; exact ndL_of fun d hd => (h d hd).nd
  · simp only [toPy, PyData.depth]
    have := dpL_of fun d hd => (h d hd).dp
    omega
  · simp only [toPy, PyData.shown]
    have h1 := lnL_of fun d hd => (h d hd).ln
    have h2 := join_le (PyData.shownAll (toPys ds))
    unfold tupleText
    rw [strLen_append, strLen_append]
    have e1 : (("(" : String) : Str).length = 1 := by decide
    have e2 : ((if (PyData.shownAll (toPys ds)).length == 1 then ",)" else ")" : String) : Str).length ≤ 2 := by split <;> decide
    have e3 : ds.length * (2000 * n + 2) ≤ 2000 * (ds.length * (n + 1)) := by
      have a1 : 2000 * n + 2 ≤ 2000 * (n + 1) := by omega
      have a2 := Nat.mul_le_mul_left ds.length a1
      have a3 : ds.length * (2000 * (n + 1)) = 2000 * (ds.length * (n + 1)) := Nat.mul_left_comm _ _ _
      omega
    rw [e1]
    omega
theorem Sh.lst {k n : Nat} {ds : List D} (h : ∀ d ∈ ds, Sh k n d) : Sh (k + 1) (ds.length * (n + 1) + 1) (.lst ds) := by
  refine ⟨?_, ?_, ?_, ?_, ?_⟩
  · unfold D.pl; exact plL_of fun d hd => (h d hd).pl
  · simp only [toPy, PyData.showable]; exact shL_of fun d hd => (h d hd).sh
  · simp only [toPy, PyData.hasDict]; exact ndL_of fun d hd => (h d hd).nd
  · simp only [toPy, PyData.depth]
    have := dpL_of fun d hd => (h d hd).dp
    omega
  · simp only [toPy, PyData.shown]
    have h1 := lnL_of fun d hd => (h d hd).ln
    have h2 := textFrom_le (PyData.shownAll (toPys ds)) 0 "["
    unfold listText
    rw [strLen_append]
    have e1 : (("[" : String) : Str).length = 1 := by decide
    have e2 : (("]" : String) : Str).length = 1 := by decide
    have e3 : ds.length * (2000 * n + 2) ≤ 2000 * (ds.length * (n + 1)) := by
      have a1 : 2000 * n + 2 ≤ 2000 * (n + 1) := by omega
      have a2 := Nat.mul_le_mul_left ds.length a1
      have a3 : ds.length * (2000 * (n + 1)) = 2000 * (ds.length * (n + 1)) := Nat.mul_left_comm _ _ _
      omega
    rw [e1] at h2
    rw [e2]
    omega
theorem bd_log {q : Rat} (h : Bd 1900 q) : q.num.natAbs.log2 < 1920 ∧ ((q.den : Int)).natAbs.log2 < 1920 := by
  have h1 := log2_le_of h.1
  have h2 := log2_le_of h.2
  rw [Int.natAbs_natCast]
  omega
theorem Sh.fr {q : Rat} (h : Bd 1900 q) : Sh 1 5 (frQ q) := by
  obtain ⟨h1, h2⟩ := bd_log h
  have t := Sh.tup (k := 0) (n := 1) (ds := [.int q.num, .int (q.den : Int)]) (by
    simp only [List.mem_cons, List.not_mem_nil, or_false]
    rintro d (rfl | rfl)
    · exact Sh.int h1
    · exact Sh.int h2)
  exact t
theorem oReprD_ap {k n : Nat} {d : D} (h : Sh k n d) (hk : k ≤ 100) (hn : n ≤ 8000) (ρ : Env) (M : Mem) : oReprD [d] ρ M = some (.ok (.str (toPy d).shown), M) := by
  unfold oReprD
  dsimp only
  rw [if_pos ⟨h.pl, h.sh, h.nd, Nat.le_trans h.dp hk, by have := h.ln; omega⟩]
  rfl
/-! ### evaluation of the new parts -/
theorem oItS_lst (ds : List D) (ρ : Env) (M : Mem) : oItS (.lst ds) ρ M = some (.ok ds, M) := rfl
theorem oItS_tup (ds : List D) (ρ : Env) (M : Mem) : oItS (.tup ds) ρ M = some (.ok ds, M) := rfl
theorem oTupOf_lst (ds : List D) (ρ : Env) (M : Mem) : oTupOf [.lst ds] ρ M = some (.ok (.tup ds), M) := rfl
theorem oTupOf_tup (ds : List D) (ρ : Env) (M : Mem) : oTupOf [.tup ds] ρ M = some (.ok (.tup ds), M) := rfl
theorem oLstOf_lst (ds : List D) (ρ : Env) (M : Mem) : oLstOf [.lst ds] ρ M = some (.ok (.lst ds), M) := rfl
theorem oLstOf_tup (ds : List D) (ρ : Env) (M : Mem) : oLstOf [.tup ds] ρ M = some (.ok (.lst ds), M) := rfl
theorem oTupOf_ptr {n : Nat} {ds : List D} (ρ : Env) {M : Mem} (h : M[n]? = some (some ds)) : oTupOf [.ptr n] ρ M = some (.ok (.tup ds), M) := by
  unfold oTupOf oSq seqOf
  dsimp only
  rw [h]
theorem oRv_lst (ds : List D) (ρ : Env) (M : Mem) : oRv (.lst ds) ρ M = some (.ok (.lst ds.reverse), M) := rfl
theorem oRv_tup (ds : List D) (ρ : Env) (M : Mem) : oRv (.tup ds) ρ M = some (.ok (.tup ds.reverse), M) := rfl
theorem oAdd_tup (a b : List D) (ρ : Env) (M : Mem) (h : a.length + b.length ≤ 16777216) : oAdd (.tup a) (.tup b) ρ M = some (.ok (.tup (a ++ b)), M) := by
  unfold oAdd
  dsimp only
  rw [if_pos h]; rfl
theorem dChain_ap (f g h : Ev D) (o o' : D → D → Ev D) (ρ : Env) (M : Mem) : dChain f g h o o' ρ M = bindR (f ρ M) fun x M1 => bindR (g ρ M1) fun y M2 => bindR (o x y ρ M2) fun z M3 => bindR (asB z ρ M3) fun k M4 => if k = true then bindR (h ρ M4) fun w M5 => o' y w ρ M5 else some (.ok (.bl false), M4) := by
  unfold dChain
  simp only [bnd_ap]
  congr
  funext x M1
  congr
  funext y M2
  congr
  funext z M3
  congr
  funext k M4
  split <;> rfl
theorem okPtr_ap {n : Nat} {ds : List D} (ρ : Env) {M : Mem} (h : M[n]? = some (some ds)) : okPtr (.ptr n) ρ M = some (.ok (.ptr n), M) := by
  unfold okPtr
  dsimp only
  rw [h]
theorem oApp_ap {n : Nat} {ds : List D} {d : D} (ρ : Env) {M : Mem} (h : M[n]? = some (some ds)) (hd : d.np = true) (hl : ds.length < 16777216) : oApp (.ptr n) d ρ M = some (.ok .non, M.set n (some (ds ++ [d]))) := by
  unfold oApp
  dsimp only
  rw [h]
  dsimp only
  rw [if_pos ⟨hd, hl⟩]
theorem asTru_bl (b : Bool) (ρ : Env) (M : Mem) : asTru (.bl b) ρ M = some (.ok b, M) := rfl
theorem asTru_tup (ds : List D) (ρ : Env) (M : Mem) : asTru (.tup ds) ρ M = some (.ok (!ds.isEmpty), M) := rfl
theorem asTru_lst (ds : List D) (ρ : Env) (M : Mem) : asTru (.lst ds) ρ M = some (.ok (!ds.isEmpty), M) := rfl
theorem oIsN_ap (d : D) (ρ : Env) (M : Mem) : oIsN d .non ρ M = some (.ok (.bl d.isN), M) := rfl
theorem oNotN_ap (d : D) (ρ : Env) (M : Mem) : oNotN d .non ρ M = some (.ok (.bl (!d.isN)), M) := rfl
theorem asI_ap (i : Int) (ρ : Env) (M : Mem) : asI (.int i) ρ M = some (.ok (some i), M) := rfl
theorem oSl_tup (ds : List D) (l u : Option Int) (ρ : Env) (M : Mem) : oSl (.tup ds) l u ρ M = some (.ok (.tup (cutD ds l u)), M) := rfl
theorem oSl_lst (ds : List D) (l u : Option Int) (ρ : Env) (M : Mem) : oSl (.lst ds) l u ρ M = some (.ok (.lst (cutD ds l u)), M) := rfl
theorem oZip_tup (a b : List D) (ρ : Env) (M : Mem) : oZip [.tup a, .tup b] ρ M = some (.ok (zipD a b), M) := rfl
theorem oZip_lst (a b : List D) (ρ : Env) (M : Mem) : oZip [.lst a, .lst b] ρ M = some (.ok (zipD a b), M) := rfl
theorem oAddI_ap (i j : Int) (ρ : Env) (M : Mem) : oAddI (.int i) (.int j) ρ M = some (.ok (.int (i + j)), M) := rfl
/-! ### rows of plain data -/
theorem shaped_row {ds : List D} (h : ∀ d ∈ ds, (toPy d).canLay0 = true ∧ (toPy d).depth ≤ 60) : SeqAt.shaped (.list (toPys ds)) = true ∧ SeqAt.shaped (.tuple (toPys ds)) = true := by
  have h1 : PyData.canLayAll0 (toPys ds) = true := by
    induction ds with
    | nil => rfl
    | cons d ds ih =>
      simp only [toPys, PyData.canLayAll0]
      rw [(h d (by simp)).1, ih fun e he => h e (by simp [he])]
      rfl
  have h2 := dpL_of (k := 60) fun d hd => (h d hd).2
  constructor <;> (unfold SeqAt.shaped; simp only [PyData.canLay0, PyData.depth, h1, Bool.true_and]; exact decide_eq_true (by omega))
theorem oNe_nil (ρ : Env) (M : Mem) : oNe (.lst []) (.lst []) ρ M = some (.ok (.bl false), M) := rfl
end Bw
namespace Bw
open PySem PySem.Spec PyProof.Rows L2
/-- isinstance of several built-in types -/
def kitBs (a : String) : List String → Option Bool
  | [] => some false
  | T :: l => match kitB a T with
    | some true => some true
    | some false => kitBs a l
    | none => none
end Bw
/-! dicts of mixed keys: the readings -/
namespace Bw
open PySem PySem.Spec PyProof.Rows L2
/-- a value as a key -/
inductive KyV (K : PySem.W.Frag) (H : Hp) : V → NK → Prop
  | non : KyV K H .non .none
  | int (i : Int) : KyV K H (.int i) (.num i)
  | tup {a : Addr} {is : List Int} (h : SqT K H a (is.map V.int)) : KyV K H (.ref a) (.tup (is.map .num))
theorem nestedInts {h : Heap} : ∀ {is : List Int} {us : List Value}, Vals (is.map V.int) us → NestedAll h (is.map .num) us
  | [], us, r => by cases r; exact .nil
  | i :: is, us, r => by
    rw [List.map_cons] at r
    cases r with
    | cons a b =>
      obtain ⟨t, rfl⟩ := a
      exact .cons (.int i t) (nestedInts b)
theorem KyV.ky {X : Cx} {pins : List (Addr × Obj)} {σ : L2.St} {H : Hp} {s : Shared} {v : V} {k : NK} {u : Value} (I : Inv X pins σ H s) (x : KyV X.K H v k) (r : RelV v u) : KyIs s.heap k u := by
  cases x with
  | non => cases (show u = Value.none from r); exact .non
  | int i => obtain ⟨t, rfl⟩ := r; exact .int i t
  | tup q =>
    cases (show u = Value.ref _ from r)
    obtain ⟨its, rv, ⟨o, e, c, n, d⟩, _⟩ := I.tuple q
    exact .tup (.tup e c d (by simpa using nestedInts rv))
theorem KyV.mono {K : PySem.W.Frag} {G H : Hp} {v : V} {k : NK} (s : Same G H) (x : KyV K G v k) : KyV K H v k := by
  cases x with
  | non => exact .non
  | int i => exact .int i
  | tup q => exact .tup (seqT s q)
def lookV (es : VE) (k : NK) : Option (V × V) := (es.find? fun x => decide (x.1 = k)).map (·.2)
def putV (es : VE) (k : NK) (kv v : V) : VE := if (lookV es k).isSome = true then es.map (fun x => if x.1 = k then (x.1, x.2.1, v) else x) else es ++ [(k, kv, v)]
abbrev PV : VE → R3 → Prop := Paired fun (p : NK × V × V) (q : NK × Value × Value) => p.1 = q.1 ∧ RelV p.2.1 q.2.1 ∧ RelV p.2.2 q.2.2
theorem PV.look {es : VE} {rows : R3} (h : PV es rows) (k : NK) : (lookV es k = none ∧ look3 rows k = none) ∨ ∃ p q, lookV es k = some p ∧ look3 rows k = some q ∧ RelV p.1 q.1 ∧ RelV p.2 q.2 := by
  induction h with
  | nil => exact .inl ⟨rfl, rfl⟩
  | @cons p q ps qs r t ih =>
    by_cases e : p.1 = k
    · right
      refine ⟨p.2, q.2, ?_, ?_, r.2.1, r.2.2⟩
      · unfold lookV; rw [List.find?_cons_of_pos (by simpa using e)]; rfl
      · unfold look3; rw [List.find?_cons_of_pos (by simpa using r.1.symm.trans e)]; rfl
    · have e2 : ¬ q.1 = k := fun z => e (r.1.trans z)
      unfold lookV look3 at ih ⊢
      rw [List.find?_cons_of_neg (by simpa using e), List.find?_cons_of_neg (by simpa using e2)]
      exact ih
theorem PV.put {es : VE} {rows : R3} (h : PV es rows) {k : NK} {kv v : V} {ku u : Value} (rk : RelV kv ku) (rv : RelV v u) : PV (putV es k kv v) (put3 rows k ku u) := by
  unfold putV put3
  have map : PV (es.map (fun x => if x.1 = k then (x.1, x.2.1, v) else x)) (rows.map (fun x => if x.1 = k then (x.1, x.2.1, u) else x)) := by
    clear rk
    induction h with
    | nil => exact .nil
    | @cons p q ps qs r t ih =>
      rw [List.map_cons, List.map_cons]
      refine .cons ?_ ih
      by_cases e : p.1 = k
      · rw [if_pos e, if_pos (r.1.symm.trans e)]; exact ⟨r.1, r.2.1, rv⟩
      · rw [if_neg e, if_neg (fun z => e (r.1.trans z))]; exact r
  rcases PV.look h k with ⟨e1, e2⟩ | ⟨p, q, e1, e2, _⟩
  · rw [e1, e2]
    exact Paired.snoc h ⟨rfl, rk, rv⟩
  · rw [e1, e2]
    exact map
/-- what is known of a dict -/
structure D3 (K : PySem.W.Frag) (H : Hp) (a : Addr) (es : VE) : Prop where
  rd : Rd H a (DH a es)
  ky : ∀ p ∈ es, KyV K H p.2.1 p.1
section
variable {X : Cx} {pins : List (Addr × Obj)} {σ : L2.St} {H : Hp} {s : Shared} {a : Addr} {es : VE}
theorem PV.keys {rows : R3} (h : PV es rows) (I : Inv X pins σ H s) (ky : ∀ p ∈ es, KyV X.K H p.2.1 p.1) : ∀ x ∈ rows, KyIs s.heap x.1 x.2.1 := by
  induction h with
  | nil => intro x hx; cases hx
  | @cons p q ps qs r t ih =>
    intro x hx
    rcases List.mem_cons.mp hx with e | hx
    · subst e
      rw [← r.1]
      exact (ky p (by simp)).ky I r.2.1
    · exact ih (fun p hp => ky p (by simp [hp])) x hx
theorem DH.new {P : Program} {w : World} {H' : Hp} {h' : Heap} {es : VE} {rows : R3} (h1 : (a == sysModules) = false) (h2 : es.length ≤ sizeLine) (h3 : PV es rows) (h4 : Dic3 h' a rows) : ObjOk P w H' h' a (DH a es) := by
  refine ⟨⟨h1, h2, rows, h3, h4⟩, ?_, fun g1 g2 q k => ?_⟩
  · obtain ⟨o, _, _, e, _⟩ := h4; exact ⟨o, e⟩
  · obtain ⟨q1, q2, rows, q3, o, es, ep, e, r⟩ := q
    exact ⟨q1, q2, rows, q3, o, es, ep, k o e, r⟩
end
/-- d[y] -/
def rIx3 (K : PySem.W.Frag) : R2 := fun x y H Q => ∃ a es k p, x = .ref a ∧ D3 K H a es ∧ KyV K H y k ∧ lookV es k = some p ∧ Q p.2 H
/-- y in d -/
def rIn3 (K : PySem.W.Frag) : R2 := fun y x H Q => ∃ a es k, x = .ref a ∧ D3 K H a es ∧ KyV K H y k ∧ Q (.bl (lookV es k).isSome) H
/-- d[y] = v -/
def rSet3 (K : PySem.W.Frag) : TSet := fun o i v H Q => ∃ a es k, o = .ref a ∧ H a = some (DH a es) ∧ (∀ p ∈ es, KyV K H p.2.1 p.1) ∧ KyV K H i k ∧ es.length < sizeLine ∧ Q (upd H a (DH a (putV es k i v)))
/-- d.get(y, z) -/
def tGet3 (K : PySem.W.Frag) (td ty tx : TE) : TE := fun σ H Q => td σ H fun x H1 => ∃ a es, x = .ref a ∧ D3 K H1 a es ∧ ty σ H1 fun y H2 => tx σ H2 fun z H3 => ∃ es3 k, D3 K H3 a es3 ∧ KyV K H3 y k ∧ Q (((lookV es3 k).map (·.2)).getD z) H3
section
variable {X : Cx} {o i e f : Expr} {pos apos cpos : Pos} {td ty tx : TE}
end
/-! ### for y in d -/
/-- the keys of the locked dict -/
def Itk3 (d : Addr) (o : Obj) (es : VE) : It :=
  ⟨fun i H => H d = some (.frz o (DH d es)) ∧ i < es.length, fun i H x H' => H' = H ∧ ∃ k v, es[i]? = some (k, x, v), fun i H => H d = some (.frz o (DH d es)) ∧ es.length ≤ i⟩
section
variable {P : Program} {w : World} {K : PySem.W.Frag} {tg : Expr} {d : Addr} {o : Obj} {en : Array DictEntry} {ep : Nat}
end
def iKeys3 (td : TE) : TI := fun σ H R => td σ H fun x H1 => ∃ d o es, x = .ref d ∧ H1 d = some (.frz o (DH d es)) ∧ R (Itk3 d o es) H1
end Bw
/-! dicts, by data -/
namespace Bw
open PySem PySem.Spec PyProof.Rows L2
def decs : List D → Option DEs
  | [] => some []
  | .tup [k, v] :: r => (decs r).map ((k, v) :: ·)
  | _ :: _ => none
def dec (ds : List D) : Option (Bool × DEs) := match ds with
  | .bl b :: r => (decs r).map (b, ·)
  | _ => none
def dicOf (d : D) (M : Mem) : Option (Nat × Bool × DEs) := match d with
  | .dpt n => match M[n]? with
    | some (some ds) => (dec ds).map (n, ·)
    | _ => none
  | _ => none
section
variable {K : PySem.W.Frag} {θ : List Th} {G H : Hp} {M : Mem} {v : V} {d : D} {n : Nat} {b : Bool} {es : DEs}
theorem ints_of : ∀ {ds : List D} {is : List Int}, intsD ds = some is → ds = is.map D.int
  | [], is, h => by cases h; rfl
  | d :: r, is, h => by
    unfold intsD at h
    split at h
    · rename_i h0; cases h0
    · rename_i i r' e0
      cases e0
      cases q : intsD r with
      | none => rw [q] at h; cases h
      | some ps => rw [q] at h; cases h; rw [List.map_cons, ints_of q]
    · cases h
theorem rpl_ints : ∀ {is : List Int} {xs : List V}, RpL K G xs (is.map D.int) → xs = is.map V.int
  | [], xs, r => r.nil_of
  | i :: is, xs, r => by
    rw [List.map_cons] at r
    obtain ⟨w, ys, rfl, h1, h2⟩ := r.uncons
    cases h1
    rw [List.map_cons, rpl_ints h2]
theorem ky_of {k : NK} (h : Rp K G v d) (e : keyN d = some k) : KyV K G v k := by
  cases h with
  | non => cases e; exact .non
  | int i => cases e; exact .int i
  | @tup a xs ds h l g =>
    unfold keyN at e
    dsimp only at e
    cases q : intsD ds with
    | none => rw [q] at e; cases e
    | some is =>
      rw [q] at e
      cases e
      have e2 := ints_of q
      subst e2
      have e3 := rpl_ints ⟨l, g⟩
      subst e3
      exact .tup h
  | _ => cases e
def lookD (es : DEs) (k : NK) : Option D := (es.find? fun p => decide (keyN p.1 = some k)).map (·.2)
def putD (es : DEs) (k : NK) (kd x : D) : DEs := if (lookD es k).isSome = true then es.map (fun p => if keyN p.1 = some k then (p.1, x) else p) else es ++ [(kd, x)]
theorem RpE.look {xs : VE} (h : RpE K G xs es) (k : NK) : (lookV xs k = none ∧ lookD es k = none) ∨ ∃ p x, lookV xs k = some p ∧ lookD es k = some x ∧ Rp K G p.2 x := by
  unfold RpE at h
  induction h with
  | nil => exact .inl ⟨rfl, rfl⟩
  | @cons p q ps qs r t ih =>
    by_cases e : p.1 = k
    · right
      refine ⟨p.2, q.2, ?_, ?_, r.2.2⟩
      · unfold lookV; rw [List.find?_cons_of_pos (by simpa using e)]; rfl
      · unfold lookD; rw [List.find?_cons_of_pos (by rw [r.1, e]; simp)]; rfl
    · unfold lookV lookD at ih ⊢
      rw [List.find?_cons_of_neg (by simpa using e), List.find?_cons_of_neg (by rw [r.1]; simpa using e)]
      exact ih
theorem RpE.put {xs : VE} (h : RpE K G xs es) {k : NK} {kv u : V} {kd x : D} (e : keyN kd = some k) (rk : Rp K G kv kd) (rv : Rp K G u x) : RpE K G (putV xs k kv u) (putD es k kd x) := by
  unfold putV putD
  have map : RpE K G (xs.map (fun x => if x.1 = k then (x.1, x.2.1, u) else x)) (es.map (fun p => if keyN p.1 = some k then (p.1, x) else p)) := by
    unfold RpE at h ⊢
    clear rk e
    induction h with
    | nil => exact .nil
    | @cons p q ps qs r t ih =>
      rw [List.map_cons, List.map_cons]
      refine .cons ?_ ih
      by_cases e : p.1 = k
      · rw [if_pos e, if_pos (by rw [r.1, e])]; exact ⟨r.1, r.2.1, rv⟩
      · rw [if_neg e, if_neg (by rw [r.1]; simpa using e)]; exact r
  rcases h.look k with ⟨e1, e2⟩ | ⟨p, q, e1, e2, _⟩
  · rw [e1, e2]
    exact Paired.snoc h ⟨e, rk, rv⟩
  · rw [e1, e2]
    exact map
theorem RpE.keys {xs : VE} (h : RpE K G xs es) : ∀ p ∈ xs, KyV K G p.2.1 p.1 := by
  unfold RpE at h
  induction h with
  | nil => intro p hp; cases hp
  | @cons p q ps qs r t ih =>
    intro z hz
    rcases List.mem_cons.mp hz with e | hz
    · subst e; exact ky_of r.2.1 r.1
    · exact ih z hz
theorem DicAt.d3 {a : Addr} {xs : VE} (rs : Rs K θ G H M) (h : DicAt G H a b xs) (r : RpE K G xs es) : D3 K H a xs := by
  refine ⟨?_, fun p hp => (r.keys p hp).mono rs.sub⟩
  unfold DicAt at h
  cases b with
  | true => obtain ⟨o, h⟩ := h; exact .inr ⟨o, rs.sub _ _ h⟩
  | false => exact .inl h.2
end
/-- d[y] -/
def oDIx (d e : D) : Ev D := fun _ M => match dicOf d M, keyN e with
  | some (_, _, es), some k => match lookD es k with
    | some x => some (.ok x, M)
    | none => none
  | _, _ => none
def oDIn (e d : D) : Ev D := fun _ M => match dicOf d M, keyN e with
  | some (_, _, es), some k => some (.ok (.bl (lookD es k).isSome), M)
  | _, _ => none
def okDic (d : D) : Ev D := fun _ M => match dicOf d M with
  | some _ => some (.ok d, M)
  | none => none
def oDGt (d e z : D) : Ev D := fun _ M => match dicOf d M, keyN e with
  | some (_, _, es), some k => if z.np = true then some (.ok ((lookD es k).getD z), M) else none
  | _, _ => none
def oDNew : Ev D := fun _ M => some (.ok (.dpt M.length), M ++ [some (enc false [])])
def sDPut (f fo fi : Ev D) : Sv := thenS f fun x => thenS fo fun o => thenS fi fun i => fun ρ M => match dicOf o M, keyN i with
  | some (n, false, es), some k => if x.np = true ∧ i.np = true ∧ es.length < 16777216 then some (.nx ρ, M.set n (some (enc false (putD es k i x)))) else none
  | _, _ => none
section
variable {X : Cx} {W : WN} {pos : Pos} {K : PySem.W.Frag}
end
end Bw
/-! dicts walked -/
namespace Bw
open PySem PySem.Spec PyProof.Rows L2
def del (G : Hp) (a : Addr) : Hp := fun b => if b = a then none else G b
theorem del_ne {G : Hp} {a b : Addr} (h : b ≠ a) : del G a b = G b := if_neg h
section
variable {K : PySem.W.Frag} {G H : Hp} {a : Addr} {o : Obj} {xs : VE}
theorem Rp.del {v : V} {d : D} (h : Rp K G v d) (e : G a = some (.frz o (DH a xs))) : Rp K (del G a) v d := by
  have ne : ∀ {b : Addr} {u : HO}, G b = some u → (∀ o' : Obj, u ≠ .frz o' (DH a xs)) → b ≠ a := fun {b u} q n z => by
    subst z
    rw [e] at q
    cases q
    exact n _ rfl
  induction h with
  | non => exact .non
  | bl b => exact .bl b
  | int i => exact .int i
  | str z => exact .str z
  | tup h l _ ih =>
    refine .tup ?_ l ih
    rcases h with (h | ⟨o', h⟩) | h
    · exact .inl (.inl (by rw [del_ne (ne h fun _ z => by cases z)]; exact h))
    · exact .inl (.inr ⟨o', by rw [del_ne (ne h fun _ z => by cases z)]; exact h⟩)
    · exact .inr h
  | lst h l _ ih => exact .lst (by rw [del_ne (ne h fun _ z => by cases z)]; exact h) l ih
  | scr h l _ ih =>
    refine .scr ?_ l ih
    rcases h with (h | ⟨o', h⟩) | h
    · exact .inl (.inl (by rw [del_ne (ne h fun _ z => by cases z)]; exact h))
    · exact .inl (.inr ⟨o', by rw [del_ne (ne h fun _ z => by cases z)]; exact h⟩)
    · exact .inr h
  | emp h => exact .emp (by rw [del_ne (ne h fun _ z => by cases z)]; exact h)
theorem Rv.del {θ : List Th} {v : V} {d : D} (h : Rv K θ G v d) (e : G a = some (.frz o (DH a xs))) : Rv K θ (del G a) v d := by
  cases h with
  | dat h => exact .dat (h.del e)
  | ptr h => exact .ptr h
  | dpt h => exact .dpt h
  | npt h => exact .npt h
  | exv hn h => exact .exv hn (by
      rw [del_ne fun z => ?_]
      · exact h
      · subst z; rw [e] at h; cases h)
theorem RpL.del {vs : List V} {ds : List D} (h : RpL K G vs ds) (e : G a = some (.frz o (DH a xs))) : RpL K (del G a) vs ds := ⟨h.len, fun i v d p q => (h.get i v d p q).del e⟩
theorem RvL.del {θ : List Th} {vs : List V} {ds : List D} (h : RvL K θ G vs ds) (e : G a = some (.frz o (DH a xs))) : RvL K θ (del G a) vs ds := ⟨h.len, fun i v d p q => (h.get i v d p q).del e⟩
theorem RpE.del {ys : VE} {es : DEs} (h : RpE K G ys es) (e : G a = some (.frz o (DH a xs))) : RpE K (del G a) ys es := Paired.mapP h fun p q z => ⟨z.1, z.2.1.del e, z.2.2.del e⟩
variable {θ : List Th} {M : Mem} {n : Nat} {es : DEs}
end
open Classical in
/-- the dict in slot i is locked while f runs -/
noncomputable def dLk (i : Nat) (f : Ev D) : Ev D := fun ρ M => match ρ[i]? with
  | some (some d) => match dicOf d M with
    | some (n, false, es) => match f ρ (M.set n (some (enc true es))) with
      | some (.ok x, M2) => if M2[n]? = some (some (enc true es)) then some (.ok x, M2.set n (some (enc false es))) else none
      | some (.exc C, M2) => some (.exc C, M2)
      | none => none
    | _ => none
  | _ => none
section
variable {X : Cx} {W : WN} {pos : Pos} {K : PySem.W.Frag}
def oItD (d : D) : Ev (List D) := fun _ M => match dicOf d M with
  | some (_, true, es) => some (.ok (es.map (·.1)), M)
  | _ => none
end
end Bw
/-! lists that change, once more -/
namespace Bw
open PySem PySem.Spec PyProof.Rows L2
/-- the parts of a list that stands, changing or not -/
def lstAt (d : D) (M : Mem) : Option (List D) := match d with
  | .lst ds => some ds
  | .ptr n => match M[n]? with
    | some (some ds) => some ds
    | _ => none
  | _ => none
section
variable {X : Cx} {W : WN} {pos : Pos} {K : PySem.W.Frag}
theorem lstAt_of {θ : List Th} {G H : Hp} {M : Mem} {v : V} {d : D} {ds : List D} (rs : Rs K θ G H M) (hv : Rv K θ G v d) (h : lstAt d M = some ds) : ∃ a xs, v = .ref a ∧ H a = some (.lst xs) ∧ RpL K G xs ds := by
  cases hv with
  | dat q =>
    cases q with
    | lst h1 l g => cases h; exact ⟨_, _, rfl, rs.sub _ _ h1, l, g⟩
    | _ => cases h
  | ptr hn =>
    rename_i n a
    unfold lstAt at h
    dsimp only at h
    split at h
    · rename_i es hm
      cases h
      obtain ⟨g, xs, hx, rl⟩ := rs.mem n _ _ hn hm
      exact ⟨_, xs, rfl, hx, rl⟩
    · cases h
  | dpt _ => cases h
  | npt _ => cases h
  | exv _ _ => cases h
/-- a + b, a list that will change -/
def oAddN (d e : D) : Ev D := fun ρ M => match lstAt d M, lstAt e M with
  | some a, some b => if a.length + b.length ≤ 16777216 then some (.ok (.ptr M.length), M ++ [some (a ++ b)]) else none
  | _, _ => none
/-- repr of a list that changes -/
def oReprM (ds : List D) : Ev D := fun ρ M => match ds with
  | [d] => oReprD [frz M d] ρ M
  | _ => none
/-- a list that changes is walked, and stays as it is from then on -/
def oItF (d : D) : Ev (List D) := fun ρ M => match d with
  | .ptr n => match M[n]? with
    | some (some ds) => some (.ok ds, M.set n none)
    | _ => none
  | _ => none
theorem di_frz {tg e : Expr} {f : Ev D} (h : DE X W e f) : DI X W tg e (bnd f oItF) := by
  obtain ⟨t, q, s⟩ := h
  refine ⟨_, pi_list q, fun θ G => (s θ G).bind (R2 := RI X.K) (k := fun (x : V) (_ : L2.St) (H1 : Hp) (R : It → Hp → Prop) => ∃ a, x = .ref a ∧ (∃ xs, SqL X.K H1 a xs) ∧ R (Itl X.K a) H1) fun θ1 G1 v d _ _ hv => ?_⟩
  intro ρ M r M' θ2 G2 σ H Q p2 s2 e rs rv kk
  unfold oItF at e
  split at e
  · rename_i n
    split at e
    · rename_i ds hm
      cases e
      cases hv.mono p2 s2 with
      | dat hv => cases hv
      | ptr hn =>
        obtain ⟨g, xs, hx, rl⟩ := rs.mem n _ ds hn hm
        obtain ⟨G', s', rp, rs'⟩ := rs.freeze hn hm
        cases rp with
        | lst hq l gg =>
          exact ⟨_, rfl, ⟨xs, .inl (.inl hx)⟩, (kk θ2 G' H (List.prefix_refl _) s' rs').2 _ _ rfl (ri_list (.inl (.inl hq)) ⟨l, gg⟩)⟩
    · cases e
  · cases e
end
end Bw
namespace Bw
open PySem PySem.Spec PyProof.Rows L2
section
variable {X : Cx} {W : WN} {K : PySem.W.Frag}
/-! ### enumerate of a list that stays -/
def enumFrom (n : Nat) : List D → List D
  | [] => []
  | d :: ds => .tup [.int (n : Int), d] :: enumFrom (n + 1) ds
theorem enum_len : ∀ (ds : List D) (n : Nat), (enumFrom n ds).length = ds.length
  | [], _ => rfl
  | _ :: ds, n => by rw [enumFrom, List.length_cons, List.length_cons, enum_len ds]
theorem enum_get : ∀ {ds : List D} {n i : Nat} {d : D}, (enumFrom n ds)[i]? = some d → ∃ u, ds[i]? = some u ∧ d = .tup [.int ((n + i : Nat) : Int), u]
  | [], n, i, d, h => by cases h
  | x :: ds, n, 0, d, h => by
    rw [enumFrom] at h
    cases h
    exact ⟨x, rfl, rfl⟩
  | x :: ds, n, i + 1, d, h => by
    rw [enumFrom] at h
    obtain ⟨u, h1, h2⟩ := enum_get (ds := ds) (n := n + 1) (i := i) (d := d) h
    refine ⟨u, h1, ?_⟩
    rw [h2]
    congr 3
    omega
def oEnum (ds : List D) : Ev (List D) := match ds with
  | [.lst a] => ret (enumFrom 0 a)
  | _ => stk
theorem ri_enumL {θ : List Th} {G : Hp} {a : Addr} {xs : List V} {ds : List D} (ha : SqL K G a xs) (r1 : RpL K G xs ds) : RI K θ G (Ite K a) (enumFrom 0 ds) := by
  refine ⟨fun i θ1 G1 H M _ s rs hi => ?_, fun θ1 G1 H M _ s rs => ?_, fun i d θ1 G1 H M x H' _ s rs hd y => ?_⟩
  · rw [enum_len] at hi
    obtain ⟨v, hv, _⟩ := r1.at (List.getElem?_eq_getElem (show i < ds.length by omega))
    exact ⟨xs, v, rs.sub.seq (s.seq ha), hv⟩
  · refine ⟨xs, rs.sub.seq (s.seq ha), ?_⟩
    rw [enum_len, r1.len]
    omega
  · obtain ⟨T, x1, rfl, hT, rfl, h1⟩ := y
    obtain ⟨u, hu, rfl⟩ := enum_get hd
    have g := rs.fresh hT
    have e1 := h1 xs (rs.sub.seq (s.seq ha))
    refine ⟨upd G1 T (.tup [.int (i : Nat), x1]), same_upd g, rs.laid hT _, .dat ?_⟩
    rw [Nat.zero_add]
    exact rp_pair upd_same (.int _) (((r1.get i _ _ e1 hu).mono s).mono (same_upd g))
theorem di_enum {elts : List Expr} {kk : Nat} {tpos p pos : Pos} {e : Expr} {h : Ev (List D)} (hm : X.mg "enumerate" = none) (ha : DA X W [e] h) (hg : Gl X "enumerate" := by rfl) (hs : starEach [e] X.env = [(false, eval e X.env)] := by rfl) :
    DI X W (.Tuple elts kk tpos) (.Call (.Name "enumerate" p) [e] [] pos) (bnd h oEnum) := by
  obtain ⟨t, q, s⟩ := ha
  refine ⟨_, pi_enum hg hm q hs, fun θ G => (s θ G).bind (R2 := RI X.K) (k := fun (vs : List V) (_ : L2.St) (H1 : Hp) (R : It → Hp → Prop) => ∃ a xs, vs = [.ref a] ∧ SqL X.K H1 a xs ∧ R (Ite X.K a) H1) fun θ1 G1 vs ds _ _ hv => ?_⟩
  unfold oEnum
  split
  · rename_i da
    obtain ⟨v, rfl, h1⟩ := vals1 hv
    cases h1 with
    | dat h1 =>
      cases h1 with
      | lst q1 l1 g1 =>
        intro ρ M r M' θ2 G2 σ H Q p s e rs rv kk
        exact ⟨_, _, rfl, .inl (.inl (rs.sub _ _ (s _ _ q1))), Snd.ret (K := X.K) (W := W) (R := RI X.K) (θ0 := θ1) (G0 := G1) (fun _ _ p s => (ri_enumL (.inl (.inl q1)) ⟨l1, g1⟩).mono p s) ρ M r M' θ2 G2 σ H Q p s e rs rv kk⟩
  · exact Snd.stk
theorem oEnum_lst (a : List D) (ρ : Env) (M : Mem) : oEnum [.lst a] ρ M = some (.ok (enumFrom 0 a), M) := rfl
end
end Bw
/-! sum and sorted of a list of ints -/
namespace Bw
open PySem PySem.Spec PyProof.Rows L2
section
variable {X : Cx} {W : WN} {K : PySem.W.Frag}
def insOf : List D → Option (List Int)
  | [] => some []
  | .int b :: r => (insOf r).map (b :: ·)
  | _ => none
theorem rpl_ins {G : Hp} : ∀ {ds : List D} {xs : List V} {ns : List Int}, insOf ds = some ns → RpL K G xs ds → xs = ns.map V.int
  | [], xs, ns, h, r => by cases h; rw [r.nil_of]; rfl
  | d :: ds, xs, ns, h, r => by
    cases d with
    | int b =>
      simp only [insOf] at h
      cases q : insOf ds with
      | none => rw [q] at h; cases h
      | some ms =>
        rw [q] at h
        cases h
        obtain ⟨x, xs', rfl, h1, h2⟩ := r.uncons
        rw [rpl_ins q h2]
        cases h1
        rfl
    | _ => simp only [insOf] at h; cases h
def oSum (ds : List D) : Ev D := match ds with
  | [.lst es] => match insOf es with
    | some bs => ret (.int bs.sum)
    | none => stk
  | _ => stk
theorem snd_sum : SndC K W (rSum K) oSum := by
  intro θ0 G0 xs ds hx
  unfold oSum
  split
  · rename_i es
    split
    · rename_i bs hb
      obtain ⟨v, rfl, hv⟩ := vals1 hx
      cases hv with
      | dat q =>
        cases q with
        | lst h1 l g1 =>
          rename_i a ys
          have ey := rpl_ins hb ⟨l, g1⟩
          subst ey
          intro ρ M r M' θ G σ H Q p s e rs rv kk
          exact ⟨a, bs, rfl, .inl (.inl (rs.sub _ _ (s _ _ h1))), Snd.ret (K := K) (W := W) (R := RV K) (θ0 := θ0) (G0 := G0) (fun _ _ _ _ => .dat (.int _)) ρ M r M' θ G σ H Q p s e rs rv kk⟩
    · exact Snd.stk
  · exact Snd.stk
theorem de_sum {e : Expr} {es : List Expr} {h : Ev (List D)} {p pos : Pos} (hc : X.calm = true) (hm : X.mg "sum" = none) (ha : DA X W (e :: es) h) (hg : Gl X "sum" := by rfl) (he : starEach (e :: es) X.env = (false, eval e X.env) :: starEach es X.env := by rfl) (hpl : (backTo pos (starEach es X.env)).any (·.1) = false := by rfl) : DE X W (.Call (.Name "sum" p) (e :: es) [] pos) (bnd h oSum) :=
  de_callB (cr_sum hc) snd_sum hm (by decide +kernel) ha hg (by decide) (by decide) he hpl
end
end Bw
/-! lists that change, joined to ones that stay; list() that will change -/
namespace Bw
open PySem PySem.Spec PyProof.Rows L2
section
variable {X : Cx} {W : WN} {pos : Pos} {K : PySem.W.Frag}
/-- a + b, a list that stays -/
def oAddL (d e : D) : Ev D := fun ρ M => match lstAt d M, lstAt e M with
  | some a, some b => if a.length + b.length ≤ 16777216 then some (.ok (.lst (a ++ b)), M) else none
  | _, _ => none
theorem snd_addL : SndO K W (rAdd2 K) oAddL := by
  intro θ0 G0 x y d e hx hy ρ M r M' θ G σ H Q p s ee rs rv kk
  unfold oAddL at ee
  split at ee
  · rename_i a b h1 h2
    split at ee
    · rename_i hl
      cases ee
      obtain ⟨pa, xs, rfl, q1, r1⟩ := lstAt_of rs (hx.mono p s) h1
      obtain ⟨pb, ys, rfl, q2, r2⟩ := lstAt_of rs (hy.mono p s) h2
      refine .inr (.inl ⟨pa, pb, xs, ys, rfl, rfl, q1, q2, by rw [r1.len, r2.len, sizeLine_eq]; exact hl, fun q hq => ?_⟩)
      have g := rs.fresh hq
      exact (kk θ (upd G q (.lst (xs ++ ys))) _ (List.prefix_refl _) (same_upd g) (rs.laid hq _)).2 _ _ rfl (.dat (rp_lst upd_same ((r1.append r2).mono (same_upd g))))
    · cases ee
  · cases ee
theorem de_addL {a b : Expr} {f g : Ev D} (ha : DE X W a f) (hb : DE X W b g) : DE X W (.BinOp a .Add b pos) (bnd f fun d => bnd g fun e => oAddL d e) := de_op op_add2 snd_addL ha hb
/-- list(x), a list that will change -/
def oLstN (ds : List D) : Ev D := fun ρ M => match ds with
  | [d] => match seqOf d M with
    | some es => some (.ok (.ptr M.length), M ++ [some es])
    | none => none
  | _ => none
theorem snd_lstN : SndC K W (fun xs H Q => ∃ p ys, xs = [.ref p] ∧ (SqL K H p ys ∨ SqT K H p ys) ∧ ∀ l, H l = none → Q (.ref l) (upd H l (.lst ys))) oLstN := by
  intro θ0 G0 xs ds hx ρ M r M' θ G σ H Q p s e rs rv kk
  unfold oLstN at e
  split at e
  · rename_i d
    split at e
    · rename_i es he
      cases e
      obtain ⟨v, rfl, hv⟩ := vals1 hx
      obtain ⟨a, xs, rfl, q, rl⟩ := seq_of rs (hv.mono p s) he
      refine ⟨a, xs, rfl, q, fun l hl => ?_⟩
      refine (kk (θ ++ [(l, .lst)]) G _ (List.prefix_append _ _) (Same.refl _) (rs.laidM hl rl)).2 _ _ rfl (.ptr ?_)
      rw [← rs.len, List.getElem?_append_right (Nat.le_refl _), Nat.sub_self]
      rfl
    · cases e
  · cases e
theorem de_lstN {p : Pos} {e : Expr} {es : List Expr} {h : Ev (List D)} (hm : X.mg "list" = none) (ha : DA X W (e :: es) h) (hg : Gl X "list" := by rfl) (he : starEach (e :: es) X.env = (false, eval e X.env) :: starEach es X.env := by rfl) (hpl : (backTo pos (starEach es X.env)).any (·.1) = false := by rfl) : DE X W (.Call (.Name "list" p) (e :: es) [] pos) (bnd h oLstN) :=
  de_callTy call_list_of snd_lstN hm (by decide +kernel) ha hg (by decide) (by decide) he hpl
theorem oAddL_lp {a es : List D} {n : Nat} (ρ : Env) {M : Mem} (h : M[n]? = some (some es)) (hl : a.length + es.length ≤ 16777216) : oAddL (.lst a) (.ptr n) ρ M = some (.ok (.lst (a ++ es)), M) := by
  unfold oAddL lstAt
  dsimp only
  rw [h]
  dsimp only
  rw [if_pos hl]
theorem oLstN_lst (a : List D) (ρ : Env) (M : Mem) : oLstN [.lst a] ρ M = some (.ok (.ptr M.length), M ++ [some a]) := rfl
end
end Bw
/-! a list so many times, that will change -/
namespace Bw
open PySem PySem.Spec PyProof.Rows L2
section
variable {X : Cx} {W : WN} {pos : Pos} {K : PySem.W.Frag}
def oRepN (d e : D) : Ev D := fun ρ M => match lstAt d M, e with
  | some a, .int k => if 0 ≤ k ∧ k < 1000000 ∧ a.length * k.toNat ≤ 16777216 then some (.ok (.ptr M.length), M ++ [some (List.replicate k.toNat a).flatten]) else none
  | _, _ => none
end
end Bw
/-! zip of a tuple and a list -/
namespace Bw
open PySem PySem.Spec PyProof.Rows L2
def ItM (K : PySem.W.Frag) (a b : Addr) : It where
  go := fun i H => ∃ (us ws : List V) (x y : V), SqT K H a us ∧ SqL K H b ws ∧ us[i]? = some x ∧ ws[i]? = some y
  yld := fun i H v H' => ∃ (t : Addr) (x y : V), v = .ref t ∧ H t = none ∧ H' = upd H t (.tup [x, y]) ∧ (∀ us, SqT K H a us → us[i]? = some x) ∧ (∀ ws, SqL K H b ws → ws[i]? = some y)
  stop := fun i H => ∃ us ws : List V, SqT K H a us ∧ SqL K H b ws ∧ i = min us.length ws.length
def atM (z t0 t1 j1 j2 a b : Addr) (i : Nat) (h : Heap) : Prop := IsZip h z t0 t1 .none ∧ IsTupOf2 h t0 (.ref j1) (.ref j2) ∧ (∃ p q, IsTupOf2 h t1 p q) ∧ h.IsTupleIter j1 a i ∧ h.IsListIter j2 b i
def iZipM (K : PySem.W.Frag) (ta : TA) : TI := fun σ H R => ta σ H fun vs H1 => ∃ a b us ws, vs = [.ref a, .ref b] ∧ SqT K H1 a us ∧ SqL K H1 b ws ∧ R (ItM K a b) H1
section
variable {X : Cx} {W : WN} {pos : Pos} {K : PySem.W.Frag}
def oZipM (ds : List D) : Ev (List D) := match ds with
  | [.tup a, .lst b] => ret (zipD a b)
  | _ => stk
end
end Bw
/-! enumerate of a tuple -/
namespace Bw
open PySem PySem.Spec PyProof.Rows L2
abbrev enObj (it : Nat) : Obj := { cls := .type "enumerate", data := .fields #[.none, .bool false, .ref it, rawInt 0, .none, .none] }
def ItN (K : PySem.W.Frag) (a : Addr) : It where
  go := fun i H => ∃ (us : List V) (x : V), SqT K H a us ∧ us[i]? = some x
  yld := fun i H v H' => ∃ (t : Addr) (x : V), v = .ref t ∧ H t = none ∧ H' = upd H t (.tup [.int (i : Nat), x]) ∧ (∀ us, SqT K H a us → us[i]? = some x)
  stop := fun i H => ∃ us : List V, SqT K H a us ∧ i = us.length
def atN (e j a : Addr) (i : Nat) (h : Heap) : Prop := (∃ old, IsEnum h e j ((0 : Int) + (i : Int)) old) ∧ h.IsTupleIter j a i
def iEnT (K : PySem.W.Frag) (ta : TA) : TI := fun σ H R => ta σ H fun vs H1 => ∃ a us, vs = [.ref a] ∧ SqT K H1 a us ∧ R (ItN K a) H1
section
variable {X : Cx} {W : WN} {pos : Pos} {K : PySem.W.Frag}
def oEnT (ds : List D) : Ev (List D) := match ds with
  | [.tup a] => ret (enumFrom 0 a)
  | _ => stk
end
end Bw
/-! lists that hold lists that will change -/
namespace Bw
open PySem PySem.Spec PyProof.Rows L2
section
variable {X : Cx} {W : WN} {pos : Pos} {K : PySem.W.Frag}
def oNewN (ds : List D) : Ev D := fun _ M => if ds.length ≤ 16777216 then some (.ok (.npt M.length), M ++ [some ds]) else none
/-! x[i] of it -/
def oIxN (d e : D) : Ev D := fun ρ M => match d, e with
  | .npt n, .int i => match M[n]? with
    | some (some ds) => match atI ds i with
      | some x => some (.ok x, M)
      | none => none
    | _ => none
  | _, _ => none
/-! x[i] = e -/
def sStoreN (f fo fi : Ev D) : Sv := thenS f fun d => thenS fo fun o => thenS fi fun i => fun ρ M => match o, i with
  | .npt n, .int k => match M[n]? with
    | some (some ds) => match ixN ds.length k with
      | some j => if d.np = true then some (.nx ρ, M.set n (some (ds.set j d))) else none
      | none => none
    | _ => none
  | _, _ => none
/-! xs.pop(i) -/
def oPopI (d y : D) : Ev D := fun ρ M => match d, y with
  | .ptr n, .int i => match M[n]? with
    | some (some ds) => match seqIndex? i ds.length with
      | some k => match ds[k]? with
        | some x => if -(2 ^ 63) ≤ i ∧ i < 2 ^ 63 then some (.ok x, M.set n (some (ds.eraseIdx k))) else none
        | none => none
      | none => none
    | _ => none
  | _, _ => none
/-! evaluation -/
end
end Bw
/-! the first place of a truth in a list of truths; 1 << n -/
namespace Bw
open PySem PySem.Spec PyProof.Rows L2
section
variable {X : Cx} {W : WN} {pos : Pos} {K : PySem.W.Frag}
def idxB (k : Bool) : List Bool → Option Nat
  | [] => none
  | b :: r => if b = k then some 0 else (idxB k r).map (· + 1)
theorem idxB_at {k : Bool} : ∀ {l : List Bool} {j : Nat}, idxB k l = some j → l[j]? = some k ∧ ∀ m b, m < j → l[m]? = some b → (b == k) = false
  | [], j, h => by cases h
  | b :: r, j, h => by
    unfold idxB at h
    split at h
    · rename_i hb
      cases h
      exact ⟨by rw [hb]; rfl, fun m b hm => absurd hm (by omega)⟩
    · rename_i hb
      cases q : idxB k r with
      | none => rw [q] at h; cases h
      | some i =>
        rw [q] at h
        cases h
        obtain ⟨h1, h2⟩ := idxB_at q
        refine ⟨by simpa using h1, fun m c hm hc => ?_⟩
        cases m with
        | zero =>
          simp at hc
          subst hc
          simpa using hb
        | succ m => exact h2 m c (by dsimp only at hm; omega) (by simpa using hc)
def oIdxB (d : D) (es : List D) : Ev D := match d, es with
  | .lst ds, [.bl k] => match blsOf ds with
    | some ns => match idxB k ns with
      | some j => ret (.int (j : Nat))
      | none => stk
    | none => stk
  | _, _ => stk
theorem de_idxB {o e : Expr} {es : List Expr} {apos : Pos} {f : Ev D} {h : Ev (List D)} (ho : DE X W o f) (ha : DA X W (e :: es) h)
    (hbase : attributeBase o "index" X.env (eval o X.env) = eval o X.env := by rfl)
    (hfew : ((backTo pos (starEach (e :: es) X.env)).all (fun x => !x.1) && (backToKw pos (keywordEach [] X.env)).all (fun x => x.1.isSome)
      && decide ((e :: es).length + ([] : List Keyword).length + (if ([] : List Keyword).isEmpty then 0 else 1) < 30)) = true := by rfl)
    (hline : (apos.endLine == pos.line) = true := by rfl) (hs : starEach (e :: es) X.env = (false, eval e X.env) :: starEach es X.env := by rfl) (hplain : (backTo pos (starEach es X.env)).any (·.1) = false := by rfl) :
    DE X W (.Call (.Attribute o "index" apos) (e :: es) [] pos) (bnd f fun d => bnd (oItL d) fun _ => bnd h fun es => oIdxB d es) := by
  obtain ⟨to, po, so⟩ := ho
  obtain ⟨t, p, s⟩ := ha
  refine ⟨_, pe_bm PySem.F.plainAttrs_list PySem.F.slot_list_index PySem.F.type_list_index mt_index po p hbase hfew hline hs hplain, fun θ G => ?_⟩
  refine (so θ G).bind (R2 := RV X.K) (k := fun (x : V) (σ : L2.St) (H1 : Hp) (Q : V → Hp → Prop) => tyV X.K "list" x H1 ∧ t σ H1 fun xs H2 => rIndex X.K x xs H2 Q) fun θ1 G1 v d _ _ hv => ?_
  unfold oItL
  split
  · rename_i ds
    cases hv with
    | dat hv =>
      cases hv with
      | lst hq l g =>
        rename_i a xs
        intro ρ M r M' θ2 G2 σ H Q p s1 e rs rv kk
        refine ⟨.inl ⟨rfl, xs, .inl (.inl (rs.sub _ _ (s1 _ _ hq)))⟩, ?_⟩
        refine (s θ1 G1).bind (R2 := RV X.K) (k := fun (ys : List V) (_ : L2.St) (H2 : Hp) (Q : V → Hp → Prop) => rIndex X.K (.ref a) ys H2 Q) (g := fun es => oIdxB (.lst ds) es) (fun θ3 G3 ys es _ s3 hy => ?_) ρ M r M' θ2 G2 σ H Q p s1 e rs rv kk
        unfold oIdxB
        split
        · rename_i d1 d2 k e1
          split
          · rename_i ns hns
            cases e1
            obtain ⟨u, rfl, hu⟩ := vals1 hy
            rw [hu.bl_of]
            have ex := rpl_bls hns ⟨l, g⟩
            subst ex
            split
            · rename_i j hj
              obtain ⟨j1, j2⟩ := idxB_at hj
              intro ρ M r M' θ4 G4 σ H Q p4 s4 e rs rv kk
              refine ⟨a, ns.map V.bl, .bl k, j, .bl k, rfl, rfl, .inl (.inl (rs.sub _ _ (s4 _ _ (s3 _ _ hq)))), rfl, ?_, ?_, ?_, ?_, Snd.ret (K := X.K) (W := W) (R := RV X.K) (θ0 := θ3) (G0 := G3) (fun _ _ _ _ => .dat (.int _)) ρ M r M' θ4 G4 σ H Q p4 s4 e rs rv kk⟩
              · rw [List.all_eq_true]
                intro y hy
                rw [List.mem_map] at hy
                obtain ⟨b, _, rfl⟩ := hy
                rfl
              · rw [List.getElem?_map, j1]; rfl
              · show (k == k) = true
                simp
              · intro m z hm hz
                rw [List.getElem?_map] at hz
                cases q : ns[m]? with
                | none => rw [q] at hz; cases hz
                | some b =>
                  rw [q] at hz
                  cases hz
                  exact j2 m b hm q
            · exact Snd.stk
          · exact Snd.stk
        · exact Snd.stk
  · exact Snd.stk
/-! << -/
def oShl (d e : D) : Ev D := match d, e with
  | .int i, .int j => if 0 ≤ j ∧ j ≤ 1000000 ∧ i.natAbs < 2 ^ 64 then ret (.int (i * 2 ^ j.toNat)) else stk
  | _, _ => stk
end
end Bw
namespace Bw
open PySem PySem.Spec PyProof.Rows L2
end Bw
namespace Bw
open PySem PySem.Spec PyProof.Rows L2
end Bw
/-! repr of data that hold {} and no list; a tuple so many times -/
namespace Bw
open PySem PySem.Spec PyProof.Rows L2
mutual
def toPyE : D → PyData
  | .non => .none
  | .bl b => .bool b
  | .int i => .int i
  | .str z => .str z
  | .tup ds => .tuple (toPysE ds)
  | .emp => .dict []
  | _ => .none
def toPysE : List D → List PyData
  | [] => []
  | d :: ds => toPyE d :: toPysE ds
end
mutual
def D.plE : D → Bool
  | .non => true
  | .bl _ => true
  | .int _ => true
  | .str _ => true
  | .emp => true
  | .tup ds => plEL ds
  | _ => false
def plEL : List D → Bool
  | [] => true
  | d :: ds => d.plE && plEL ds
end
section
variable {X : Cx} {pins : List (Addr × Obj)} {σ : L2.St} {H : Hp} {s : Shared}
end
def rReprE (K : PySem.W.Frag) : List V → Hp → VK → Prop := fun xs H Q => ∃ x d, xs = [x] ∧ Rp K H x d ∧ d.plE = true ∧ (toPyE d).showable = true ∧ (toPyE d).depth ≤ 100 ∧ (toPyE d).shown.length ≤ sizeLine ∧ Q (.str (toPyE d).shown) H
/-- either way -/
def oReprA (ds : List D) : Ev D := match ds with
  | [d] => if d.plE = true then (if (toPyE d).showable = true ∧ (toPyE d).depth ≤ 100 ∧ (toPyE d).shown.length ≤ 16777216 then ret (.str (toPyE d).shown) else stk) else oReprD [d]
  | _ => stk
section
variable {X : Cx} {W : WN} {pos : Pos} {K : PySem.W.Frag}
/-! a tuple so many times -/
def oRepT (d e : D) : Ev D := match d, e with
  | .tup ds, .int k => if ds ≠ [] ∧ 2 ≤ k ∧ k ≤ 1000 ∧ ds.length ≤ 1000 then ret (.tup (List.replicate k.toNat ds).flatten) else stk
  | _, _ => stk
end
end Bw
/-! a tuple once, or no time -/
namespace Bw
open PySem PySem.Spec PyProof.Rows L2
def rRepA (K : PySem.W.Frag) : R2 := fun x y H Q => ∃ l k xs, x = .ref l ∧ y = .int k ∧ SqT K H l xs ∧ xs ≠ [] ∧ ((k = 1 ∧ Q (.ref l) H) ∨ (-(2 ^ 63) ≤ k ∧ k ≤ 0 ∧ ∀ p, H p = none → Q (.ref p) (upd H p (.tup []))))
/-- a tuple so many times, any number -/
def oRepU (d e : D) : Ev D := match d, e with
  | .tup ds, .int k => if ds ≠ [] ∧ -1000 ≤ k ∧ k ≤ 1000 ∧ ds.length ≤ 1000 then ret (.tup (List.replicate k.toNat ds).flatten) else stk
  | _, _ => stk
section
variable {X : Cx} {W : WN} {pos : Pos} {K : PySem.W.Frag}
end
end Bw
/-! a list that will change no more -/
namespace Bw
open PySem PySem.Spec PyProof.Rows L2
section
variable {X : Cx} {W : WN} {pos : Pos} {K : PySem.W.Frag}
def oFrz (d : D) : Ev D := fun ρ M => match d with
  | .ptr n => match M[n]? with
    | some (some ds) => some (.ok (.lst ds), M.set n none)
    | _ => none
  | _ => none
end
end Bw
/-! range with a beginning, range downward -/
namespace Bw
open PySem PySem.Spec PyProof.Rows L2
section
variable {X : Cx} {W : WN} {pos : Pos} {K : PySem.W.Frag}
def oRng2 (ds : List D) : Ev (List D) := match ds with
  | [.int i, .int j] => if -(2 ^ 62) ≤ i ∧ i < 2 ^ 62 ∧ -(2 ^ 62) ≤ j ∧ j < 2 ^ 62 then ret ((List.range (j - i).toNat).map fun (k : Nat) => D.int (i + (k : Int))) else stk
  | _ => stk
def oRngD (ds : List D) : Ev (List D) := match ds with
  | [.int i, .int j, .int c] => if c = -1 ∧ -(2 ^ 62) ≤ i ∧ i < 2 ^ 62 ∧ -(2 ^ 62) ≤ j ∧ j < 2 ^ 62 then ret ((List.range (i - j).toNat).map fun (k : Nat) => D.int (i - (k : Int))) else stk
  | _ => stk
end
end Bw
/-! sorted whole numbers -/
namespace Bw
open PySem PySem.Spec PyProof.Rows L2
def srtI (ns : List Int) : List Int := ns.mergeSort fun a b => decide (a ≤ b)
section
variable {X : Cx} {W : WN} {pos : Pos} {K : PySem.W.Frag}
def oSrt (ds : List D) : Ev D := fun ρ M => match ds with
  | [d] => match lstAt d M with
    | some es => match insOf es with
      | some ns => if ns.length < 64 then some (.ok (.lst ((srtI ns).map D.int)), M) else none
      | none => none
    | none => none
  | _ => none
end
end Bw
/-! xs.extend(ys), xs.insert(i, y), of a list that changes -/
namespace Bw
open PySem PySem.Spec PyProof.Rows L2
section
variable {X : Cx} {W : WN} {pos : Pos} {K : PySem.W.Frag}
def SndM (K : PySem.W.Frag) (W : WN) (r : V → List V → Hp → VK → Prop) (op : D → List D → Ev D) : Prop := ∀ θ G n a xs ds, θ[n]? = some (a, Kd.lst) → RvL K θ G xs ds → Snd K W (RV K) θ G (fun _ H Q => r (.ref a) xs H Q) (op (.ptr n) ds)
def oExt (o : D) (ds : List D) : Ev D := fun ρ M => match o, ds with
  | .ptr n, [d] => match M[n]?, lstAt d M with
    | some (some xs), some es => if xs.length + es.length ≤ 16777216 then some (.ok .non, M.set n (some (xs ++ es))) else none
    | _, _ => none
  | _, _ => none
def oIns (o : D) (ds : List D) : Ev D := fun ρ M => match o, ds with
  | .ptr n, [.int i, d] => match M[n]? with
    | some (some xs) => if d.np = true ∧ 0 ≤ i ∧ i < 2 ^ 62 ∧ xs.length < 16777216 then some (.ok .non, M.set n (some (xs.take i.toNat ++ [d] ++ xs.drop i.toNat))) else none
    | _ => none
  | _, _ => none
abbrev rInsert : V → List V → Hp → VK → Prop := fun x vs H Q => ∃ (l : Addr) (xs : List V) (i : Int) (y : V), x = .ref l ∧ vs = [.int i, y] ∧ H l = some (.lst xs) ∧ xs.length < sizeLine ∧ 0 ≤ i ∧ i < 2 ^ 63 ∧ Q .non (upd H l (.lst (xs.take i.toNat ++ [y] ++ xs.drop i.toNat)))
end
end Bw
/-! xs[lo:hi:step] of a list -/
namespace Bw
open PySem PySem.Spec PyProof.Rows L2
def pickL {α : Type} (xs : List α) (lo hi : Option Int) (k : Int) : List α :=
  (sliceRange (sliceBounds lo hi (some k) xs.length).1 (sliceBounds lo hi (some k) xs.length).2.1 (sliceBounds lo hi (some k) xs.length).2.2).filterMap (xs[·]?)
section
variable {X : Cx} {W : WN} {pos : Pos} {K : PySem.W.Frag}
def tSs (K : PySem.W.Frag) (te : TE) (tl th tk : TO) : TE := fun σ H Q => te σ H fun x H1 => tl σ H1 fun lo H2 => th σ H2 fun hi H3 => tk σ H3 fun st H4 => ∃ a xs k, x = .ref a ∧ st = some k ∧ k ≠ 0 ∧ SqL K H4 a xs ∧ (pickL xs lo hi k).length ≤ sizeLine ∧ ∀ p, H4 p = none → Q (.ref p) (upd H4 p (.lst (pickL xs lo hi k)))
def oSlS (d : D) (lo hi st : Option Int) : Ev D := fun ρ M => match lseq d M, st with
  | some ds, some k => if k ≠ 0 ∧ (pickL ds lo hi k).length ≤ 16777216 then some (.ok (.lst (pickL ds lo hi k)), M) else none
  | _, _ => none
end
end Bw
/-! a comprehension over a list that changes, which stays as it was while it is walked -/
namespace Bw
open PySem PySem.Spec PyProof.Rows L2
section
variable {X : Cx} {W : WN} {pos : Pos} {K : PySem.W.Frag}
def RIM (K : PySem.W.Frag) (θ : List Th) (_ : Hp) (J : It) (n : Nat) : Prop := ∃ a, θ[n]? = some (a, Kd.lst) ∧ J = Itl K a
def oItM (d : D) : Ev Nat := fun ρ M => match d with
  | .ptr n => match M[n]? with
    | some (some _) => some (.ok n, M)
    | _ => none
  | _ => none
def DIM (X : Cx) (W : WN) (tg iter : Expr) (f : Ev Nat) : Prop := ∃ wi, PI X tg iter wi ∧ ∀ θ G, Snd X.K W (RIM X.K) θ G wi f
open Classical in
noncomputable def lcGoM (b : Tg) (tt : Ev Bool) (te : Ev D) (n0 n : Nat) (ds0 : List D) (ρw : Env) : List D → Mem → Option Mem
  | [], M => if M[n]? = some (some ds0) then some M else none
  | d :: ds, M => if M[n]? = some (some ds0) then (match b d ρw with
    | none => none
    | some ρ1 => match tt ρ1 M with
      | some (.ok true, M1) => match te ρ1 M1 with
        | some (.ok y, M2) => match M2[n0]? with
          | some (some acc) => if y.np = true ∧ acc.length < 16777216 then lcGoM b tt te n0 n ds0 ρw ds (M2.set n0 (some (acc ++ [y]))) else none
          | _ => none
        | _ => none
      | some (.ok false, M1) => lcGoM b tt te n0 n ds0 ρw ds M1
      | _ => none) else none
noncomputable def oLcM (b : Tg) (tt : Ev Bool) (te : Ev D) (vs : List Nat) (n : Nat) : Ev D := fun ρ M => match M[n]? with
  | some (some ds0) => match lcGoM b tt te M.length n ds0 (wipeD ρ vs) ds0 (M ++ [some []]) with
    | some M' => lcEnd M.length M'
    | none => none
  | _ => none
end
end Bw
/-! xs.extend of a tuple, and of a list -/
namespace Bw
open PySem PySem.Spec PyProof.Rows L2
section
variable {X : Cx} {W : WN} {pos : Pos} {K : PySem.W.Frag}
def rExtT (K : PySem.W.Frag) : V → List V → Hp → VK → Prop := fun x vs H Q => ∃ l b xs zs, x = .ref l ∧ vs = [.ref b] ∧ H l = some (.lst xs) ∧ SqT K H b zs ∧ xs.length + zs.length ≤ sizeLine ∧ Q .non (upd H l (.lst (xs ++ zs)))
def rExtU (K : PySem.W.Frag) : V → List V → Hp → VK → Prop := fun x vs H Q => rExtend x vs H Q ∨ rExtT K x vs H Q
def oExU (o : D) (ds : List D) : Ev D := fun ρ M => match o, ds with
  | .ptr n, [.tup es] => match M[n]? with
    | some (some xs) => if xs.length + es.length ≤ 16777216 then some (.ok .non, M.set n (some (xs ++ es))) else none
    | _ => none
  | o, ds => oExt o ds ρ M
end
end Bw
/-! a comprehension of two walks; xs += ys -/
namespace Bw
open PySem PySem.Spec PyProof.Rows L2
section
variable {X : Cx} {W : WN} {pos : Pos} {K : PySem.W.Frag}
theorem DI.can {tg e : Expr} {f : Ev (List D)} (h : DI X W tg e f) : PI X tg e (tOf X.K W (RI X.K) f) := by
  obtain ⟨t, p, s⟩ := h
  exact ⟨fun pins s1 σ H R I q => p.run pins s1 σ H R I (Snd.can s q)⟩
def lc2Go (b : Tg) (tt : Ev Bool) (h1 : Ev (List D)) (b1 : Tg) (tt1 : Ev Bool) (te : Ev D) (vs1 : List Nat) (n0 : Nat) (ρw : Env) : List D → Mem → Option Mem
  | [], M => some M
  | d :: ds, M => match b d ρw with
    | none => none
    | some ρ1 => match tt ρ1 M with
      | some (.ok true, M1) => match h1 ρ1 M1 with
        | some (.ok ds1, M2) => match lcGo b1 tt1 te n0 (wipeD ρ1 vs1) ds1 M2 with
          | some M3 => lc2Go b tt h1 b1 tt1 te vs1 n0 ρw ds M3
          | none => none
        | _ => none
      | some (.ok false, M1) => lc2Go b tt h1 b1 tt1 te vs1 n0 ρw ds M1
      | _ => none
def oLc2 (b : Tg) (tt : Ev Bool) (h1 : Ev (List D)) (b1 : Tg) (tt1 : Ev Bool) (te : Ev D) (vs vs1 : List Nat) (ds : List D) : Ev D := fun ρ M => match lc2Go b tt h1 b1 tt1 te vs1 M.length (wipeD ρ vs) ds (M ++ [some []]) with
  | some M' => lcEnd M.length M'
  | none => none
/-! ### xs += ys -/
def sAugL (i : Nat) (f : Ev D) : Sv := fun ρ M => match ρ[i]? with
  | some (some (.ptr n)) => thenS f (fun e ρ M => match M[n]?, lstAt e M with
    | some (some xs), some es => if xs.length + es.length ≤ 16777216 then some (.nx (ρ.set i (some (.ptr n))), M.set n (some (xs ++ es))) else none
    | _, _ => none) ρ M
  | _ => none
end
end Bw
/-! a comprehension whose list will change; a comprehension of two walks that is named -/
namespace Bw
open PySem PySem.Spec PyProof.Rows L2
section
variable {X : Cx} {W : WN} {pos : Pos} {K : PySem.W.Frag}
def oLcP (b : Tg) (tt : Ev Bool) (te : Ev D) (vs : List Nat) (ds : List D) : Ev D := fun ρ M => match lcGo b tt te M.length (wipeD ρ vs) ds (M ++ [some []]) with
  | some M' => match M'[M.length]? with
    | some (some _) => some (.ok (.ptr M.length), M')
    | _ => none
  | none => none
end
end Bw
/-! list(range(n)) -/
namespace Bw
open PySem PySem.Spec PyProof.Rows L2
section
variable {X : Cx} {W : WN} {pos : Pos} {K : PySem.W.Frag}
def oLstR (d : D) : Ev D := match d with
  | .int n => if 0 ≤ n ∧ n ≤ 1000000 then ret (.lst ((List.range n.toNat).map fun (i : Nat) => D.int (i : Int))) else stk
  | _ => stk
end
end Bw
namespace Bw
open PySem PySem.Spec PyProof.Rows L2
/-! ### a slot whose list will change no more, from a statement on -/
def sFrzV (i : Nat) : Sv := fun ρ M => match ρ[i]? with
  | some (some (.ptr n)) => match M[n]? with
    | some (some ds) => some (.nx (ρ.set i (some (.lst ds))), M.set n none)
    | _ => none
  | _ => none
theorem sFrzV_ap {i n : Nat} {ρ : Env} {M : Mem} {ds : List D} (h : ρ[i]? = some (some (.ptr n))) (hm : M[n]? = some (some ds)) : sFrzV i ρ M = some (.nx (ρ.set i (some (.lst ds))), M.set n none) := by
  unfold sFrzV; rw [h]; dsimp only; rw [hm]
theorem ds_frzv {X : Cx} {W : WN} {st : Stmt} {f : Sv} (i : Nat) (h : DS X W st f) : DS X W st (sSeq f (sFrzV i)) := by
  obtain ⟨t, p, s⟩ := h
  refine ⟨t, p, fun ρ M o M' θ G σ H Dn e rs rv kk => ?_⟩
  unfold sSeq at e
  cases q : f ρ M with
  | none => rw [q] at e; cases e
  | some z =>
    obtain ⟨o1, M1⟩ := z
    rw [q] at e
    refine s ρ M o1 M1 θ G σ H Dn q rs rv fun θ' G' H' p' s' rs' => ?_
    cases o1 with
    | nx ρ1 =>
      dsimp only at e
      unfold sFrzV at e
      split at e
      · rename_i n hn
        split at e
        · rename_i ds hm
          cases e
          refine ⟨fun ρ2 σ2 h r2 => ?_, fun _ _ h => (by cases h), fun _ _ h => (by cases h), fun _ _ h => (by cases h), fun _ _ _ h => (by cases h)⟩
          cases h
          obtain ⟨v, hv, rl⟩ := r2.get i _ hn
          cases rl with
          | dat z => cases z
          | ptr ht =>
            obtain ⟨G2, sm, rp, rs2⟩ := rs'.freeze ht hm
            refine (kk θ' G2 H' p' (s'.trans sm) rs2).nx _ _ rfl ?_
            have r3 := (r2.mono (List.prefix_refl _) sm).set (i := i) (.dat rp)
            have hi : i < σ2.length := (List.getElem?_eq_some_iff.mp hv).1
            have e4 := (List.getElem?_eq_some_iff.mp hv).2
            rw [← e4, List.set_getElem_self] at r3
            exact r3
        · cases e
      · cases e
    | bk ρ1 => cases e; exact kk θ' G' H' p' s' rs'
    | ct ρ1 => cases e; exact kk θ' G' H' p' s' rs'
    | rt d => cases e; exact kk θ' G' H' p' s' rs'
    | ex x ρ1 => cases e; exact kk θ' G' H' p' s' rs'
end Bw
namespace Bw
open PySem PySem.Spec PyProof.Rows L2
/-! ### defs called where an error is handled -/
/-- room for so many calls, whatever is handled; no repr under way -/
structure Rh (k : Nat) (A : Around) : Prop where
  dp : A.depth + 3 * k + 5 < recursionLimit
  un : A.units + 16 * k + 200 < cLine
  g : A.guards = some []
section
variable {j k : Nat} {A : Around}
theorem Rg.hot (h : Rg k A) : Rh k A := ⟨h.r.dp, h.r.un, h.g⟩
theorem Rh.mono (h : Rh k A) (l : j ≤ k) : Rh j A := ⟨by have := h.dp; omega, by have := h.un; omega, h.g⟩
theorem Rh.units (h : Rh k A) : A.units + 64 < cLine := by have := h.un; omega
theorem Rh.mark (h : Rh k A) (x : Option Value) : Rh k (A.mark x) := ⟨h.dp, h.un, h.g⟩
theorem Rh.deep (h : Rh (k + 1) A) (env : PySem.Env) : Rh k (A.deeper env) :=
  ⟨by have := h.dp; show A.depth + 1 + 3 * k + 5 < _; omega, by have := h.un; show A.units + 3 + 16 * k + 200 < _; omega, h.g⟩
end
abbrev hx (X : Cx) : Cx := { X with calm := false }
theorem ok_hx {X Y : Cx} (q : X.Ok) (e : Y = { X with A := Y.A, calm := false, pn := Y.pn, xe := Y.xe }) (hf : Y.A.frames = X.A.frames) : Y.Ok := by
  rw [e]
  have f2 := q.frames
  rw [← hf] at f2
  exact ⟨q.mod, q.kind, q.glob, q.blt, q.above, q.inj, q.has, q.cab, fun z => (by cases z),
    f2, q.stk, q.exf, q.bs, q.bsz, q.noex, q.exfs, q.funs, q.frf⟩
/-- a def's promise, whatever is handled -/
structure HCk (P : Program) (w : World) (K : PySem.W.Frag) (mg : Str → Option Value) (base : Heap) (C : CXT) (k : Nat) (f : Addr) (fd : FuncData) (ps : List Str) (sp : Sp) : Prop where
  n : ∀ vs H Q E, sp vs H Q E → vs.length = ps.length
  go : ∀ (A : Around) (ou : List PySem.Env) (s : Shared) (H : Hp) (ar : Args) (us : List Value) (vs : List V) (Q : VK) (E : XK), Rh k A → Env0 P w K mg base A ou s H → BindsTo s fd ar (ps.zip us) → Vals vs us → sp vs H Q E → codeAny (model P w) A (.call (.ref f) ar) (CR C ou P w H s Q E) s
section
variable {P : Program} {w : World} {K : PySem.W.Frag} {mg : Str → Option Value} {base : Heap} {C : CXT} {k : Nat} {f : Addr} {fd : FuncData} {ps : List Str} {sp : Sp}
theorem hck_of {x qual : Str} {st : Stmt} {N : List Str} (FU : Fun K x qual st f fd) (S : FnScope N ps (defScope st)) (hn : ∀ vs H Q E, sp vs H Q E → vs.length = ps.length)
    (hbody : ∀ (cdv : Value) (A : Around) (ou : List PySem.Env) (s : Shared) (H : Hp) (vs : List V) (Q : VK) (E : XK), Rh k (A.deeper (envOfC qual (defScope st) s.heap.objs.size f cdv)) → sp vs H Q E →
      ∃ t, PSs (hx (cxOf C P w K mg base N qual (defScope st) f cdv A ou s H E)) (defBody st) t ∧ t { nx := fun _ H' => Q .non H', rt := Q } (L2.start N vs) H) : HCk P w K mg base C (k + 1) f fd ps sp := by
  obtain ⟨oc, od, kV, doc, pm, an, cdv, ct, osl, e, lk, hcd⟩ := FU.ex
  subst e
  refine ⟨hn, fun A ou s H ar us vs Q E hr e0 hb rv hsp => ?_⟩
  have stay := fun (b : Addr) (o : Obj) (q : base.get? b = some o) => (e0.bs b o q).1
  have KX : K.In s.heap := e0.mod.kin.keeps stay
  have lim : s.heap.NoLimit := e0.mod.nolimit.keeps stay
  have dp : A.depth < recursionLimit := by have := hr.dp; omega
  refine codeAny_call_function dp (KX _ _ lk) rfl S.co S.gen rfl (PySem.W.codeRec_of KX hcd) (hb _ _ _ _ (wpAny_newFunctionEnv_cells S.kind (fun z hz => ?_) fun env he s1 ic => ?_))
  · rcases S.par z.1 (List.of_mem_zip hz).1 with q | q
    · exact Or.inl q
    · exact Or.inr ⟨q, PySem.W.cellsFrom_some _ _ _ (Or.inl q)⟩
  · subst he
    refine ⟨lim.keeps ic.toInCall.keep, codeAny_func ?_⟩
    obtain ⟨t, ht, hq⟩ := hbody cdv A ou s H vs Q E (hr.deep _) hsp
    have e00 : Env0 P w K mg base { A with handled := none } ou s H := ⟨e0.frames, e0.mod, e0.bs, e0.bsz, e0.funs, e0.frf, e0.hok, e0.bare⟩
    have I0 := inv_start (CX := C) (A := { A with handled := none }) (E := E) S rfl e00 (hn _ _ _ _ hsp) rv ic
    have I1 : Inv (hx (cxOf C P w K mg base N qual (defScope st) f cdv A ou s H E)) [] (L2.start N vs) H s1 :=
      ⟨ok_hx (X := cxOf C P w K mg base N qual (defScope st) f cdv { A with handled := none } ou s H E) I0.ok rfl rfl, I0.os, I0.bare, I0.base, I0.loc,
        I0.cell, I0.free, I0.freeC, I0.pin, I0.hok, I0.len⟩
    refine wpAny_mono (ht.run [] s1 (L2.start N vs) H _ I1 hq) (fun fl s2 hs => ?_) fun _ _ z => z
    cases fl with
    | brk => obtain ⟨_, _, _, z⟩ := hs; exact z.elim
    | cont => obtain ⟨_, _, _, z⟩ := hs; exact z.elim
    | next => obtain ⟨σ2, H2, J, z⟩ := hs; exact ⟨.non, H2, J.os, J.bare, J.base, J.hok, rfl, z⟩
    | ret u => obtain ⟨v, σ2, H2, J, ru, z⟩ := hs; exact ⟨v, H2, J.os, J.bare, J.base, J.hok, ru, z⟩
end
theorem pe_callHC {X : Cx} {C : CXT} {k : Nat} {f : Addr} {fd : FuncData} {ps : List Str} {sp : Sp} {x : Str} {p pos : Pos} {e : Expr} {es : List Expr} {ta : TA} {E : L2.St → XK} (F : HCk X.prog X.w X.K X.mg X.base C k f fd ps sp) (hr : Rh k X.A) (hg : Gl X x) (hm : X.mg x = some (.ref f)) (hk : PySem.W.keepIn X.K (.ref f) = true) (hb : Binds X.K fd ps []) (hx : ∀ σ, PassesAt C X σ (E σ))
    (hargs : PA X (e :: es) ta) (hdb : (x == ("__debug__" : Str)) = false := by decide) (he : starEach (e :: es) X.env = (false, eval e X.env) :: starEach es X.env := by rfl) (hpl : (backTo pos (starEach es X.env)).any (·.1) = false := by rfl) :
    PE X (.Call (.Name x p) (e :: es) [] pos) (tCallS sp E ta) := by
  refine ⟨fun pins s σ H Q I h => wpAny_Call_Name_kw (ld_glob I hg hm (PySem.W.callWith_K (h₀ := X.base) I.ok.mod.kin hk (thn (hargs.run pos pins s σ H _ I h) fun us s1 z => ?_) he hpl) hdb)⟩
  obtain ⟨vs, H1, I1, rv, q⟩ := z
  have hl : us.length = ps.length := rv.length.symm.trans (F.n _ _ _ _ q)
  have b := hb s1 us I1.kIn (by rw [List.append_nil]; exact hl)
  rw [List.append_nil] at b
  refine ⟨I1.kIn, wpAny_call (codeAny_mono (F.go X.A X.stack s1 H1 ⟨us, []⟩ us vs Q (E σ) hr I1.env0 b rv q) fun res s2 hq => ?_)⟩
  rcases res with er | fl
  · exact hx σ pins H1 s1 er s2 I1 hq
  · cases fl <;> first | exact I1.after hq | exact False.elim hq
section
variable {X : Cx} {W : WN} {pos : Pos} {K : PySem.W.Frag}
theorem de_callHC {C : CXT} {WC : WX} {k n : Nat} {f : Addr} {fd : FuncData} {ps : List Str} {F : Fd} {x : Str} {p : Pos} {e : Expr} {es : List Expr} {h : Ev (List D)} (hw : WOk X.mg WC W) (FO : HCk X.prog X.w X.K X.mg X.base C k f fd ps (spF X.K X.mg n F)) (hr : Rh k X.A) (hm : X.mg x = some (.ref f)) (hk : PySem.W.keepIn X.K (.ref f) = true) (hb : Binds X.K fd ps []) (hx : ∀ σ, PassesAt C X σ (WE WC σ))
    (hargs : DA X W (e :: es) h) (hg : Gl X x := by rfl) (hdb : (x == ("__debug__" : Str)) = false := by decide) (he : starEach (e :: es) X.env = (false, eval e X.env) :: starEach es X.env := by rfl) (hpl : (backTo pos (starEach es X.env)).any (·.1) = false := by rfl) :
    DE X W (.Call (.Name x p) (e :: es) [] pos) (bnd h (oCall n F)) := by
  obtain ⟨t, q, s⟩ := hargs
  refine ⟨_, pe_callHC FO hr hg hm hk hb hx q hdb he hpl, fun θ G => ?_⟩
  refine (s θ G).bind (R2 := RV X.K) (k := fun (vs : List V) (σ : L2.St) (H1 : Hp) (Q : V → Hp → Prop) => spF X.K X.mg n F vs H1 Q (WE WC σ)) fun θ1 G1 vs ds _ _ hv => ?_
  intro ρ M r M' θ2 G2 σ H Q p2 s2 e rs rv kk
  unfold oCall at e
  split at e
  · rename_i hl
    exact ⟨θ2, G2, ds, M, r, M', rs, hv.mono p2 s2, hl, e, fun θ' G' H' a b c => ⟨fun x C h1 h2 => hw _ _ _ ((kk θ' G' H' a b c).1 x h1) C h2, (kk θ' G' H' a b c).2⟩⟩
  · cases e
end
section
variable {K : PySem.W.Frag} {P : Program} {w : World} {mg : Str → Option Value} {base : Heap} {x qual : Str} {st : Stmt} {f : Addr} {fd : FuncData} {N ps : List Str} {k n : Nat} {F : Fd} {fb : Sv}
theorem fn_okH (FU : Fun K x qual st f fd) (S : FnScope N ps (defScope st)) (hn : ps.length = n)
    (body : ∀ (cdv : Value) (A : Around) (outer : List PySem.Env) (s : Shared) (H : Hp) (E : XK), Rh k (A.deeper (envOfC qual (defScope st) s.heap.objs.size f cdv)) → DSs (hx (cxOf CX0 P w K mg base N qual (defScope st) f cdv A outer s H E)).nox W0 (defBody st) fb)
    (hF : ∀ ds M r M', ds.length = n → F ds M = some (r, M') → M.length ≤ M'.length ∧ ∃ o M2, fb (startD N ds) M = some (o, M2) ∧ Exit o M2 r M')
    (hxx : ∀ ds M C M', F ds M ≠ some (.exc C, M')) : HCk P w K mg base CX0 (k + 1) f fd ps (spF K mg n F) := by
  refine hck_of FU S (fun vs H Q E h => (spF_len h).trans hn.symm) fun cdv A outer s H vs Q E hr h => ?_
  obtain ⟨t, p, sn⟩ := body cdv A outer s H E hr
  refine ⟨t, p.nox, ?_⟩
  obtain ⟨θ, G, ds, M, r, M', rs, rv, hl, e, kk⟩ := h
  obtain ⟨hle, o, M2, e2, ex⟩ := hF ds M r M' hl e
  cases r with
  | exc C => exact absurd e (hxx ds M C M')
  | ok d =>
    exact body_ok (mg := fun _ => some (.ref 0)) (W := W0) (E := fun _ _ _ => False) (fun _ _ _ h => h 0 rfl) sn hF ⟨θ, G, ds, M, .ok d, M', rs, rv, hl, e, fun θ' G' H' p' s' rs' => ⟨fun x C hC => (by cases hC), (kk θ' G' H' p' s' rs').2⟩⟩
end
/-! ### try: .. except c as n: a suite that knows the error -/
def wT (K : PySem.W.Frag) (c : Value) (i : Nat) (ts : Addr → Value → TS) (Wo : WX) (Dn : Ends) : WX := fun cls d σ H =>
  d = none ∧ ∃ b, PySem.W.exmOne K cls c = some b ∧ (b = false → Wo cls d σ H) ∧
    (b = true → ∀ a, H a = none → ts a cls { nx := fun σ1 H1 => Dn.nx (σ1.set i none) H1, rt := Dn.rt, bk := fun σ1 H1 => Dn.bk (σ1.set i none) H1, ct := fun σ1 H1 => Dn.ct (σ1.set i none) H1 } (σ.set i (some (.ref a))) (upd H a (ExQ cls a)))
section
variable {X : Cx} {x n : Str} {c : Value} {i : Nat} {body more : List Stmt} {first : Stmt} {np pos hpos : Pos} {tb : WX → TS} {ts : Addr → Value → TS} {Wo : WX}
theorem inv_sx {pins : List (Addr × Obj)} {σ : L2.St} {H : Hp} {s : Shared} (I : Inv X pins σ H s) (a : Addr) : Inv (X.suite a (X.pn ++ pins)) [] σ H s :=
  ⟨I.ok.suite _ _, I.os, I.bare, I.base, I.loc,
    I.cell, I.free, I.freeC, fun p hp => I.pin p (by simpa using hp), I.hok, I.len⟩
theorem inv_xs {pins pn : List (Addr × Obj)} {a : Addr} {σ : L2.St} {H : Hp} {s : Shared} (I : Inv (X.suite a (X.pn ++ pins)) pn σ H s) (ok : X.Ok) : Inv X pins σ H s :=
  ⟨ok, I.os, I.bare, I.base, I.loc,
    I.cell, I.free, I.freeC, fun p hp => I.pin p (List.mem_append_left pn hp), I.hok, I.len⟩
theorem ps_tryT (hst : X.stack = X.env :: X.outer) (hfr : X.env.frame = some X.env.locals) (hex : X.ex = []) (nd : X.N.Nodup) (hi : X.N[i]? = some n) (hl : X.env.kindOf n = some .local) (hc : Names X x c) (tk : Takes X Wo)
    (hb : ∀ (W : WX) (pn : List (Addr × Obj)) (xe : Value → Shared → Prop), Takes (X.tr pn xe) W → PassesOwn (model X.prog X.w) X.A X.env xe → PSs (X.tr pn xe) body (tb W))
    (hsu : ∀ (a : Addr) (cls : Value) (pn : List (Addr × Obj)), PSs (X.suite a pn) (first :: more) (ts a cls)) :
    PS X (.Try body [.ExceptHandler (some (.Name x np)) (some n) (first :: more) hpos] [] [] pos) (fun Dn σ H => tb (wT X.K c i ts Wo Dn) Dn σ H) := by
  refine ⟨fun pins s σ H Dn I rd => ?_⟩
  have ok := I.ok
  have frs' : X.A.frames = some (X.env :: X.outer) := ok.frames.trans (by rw [hst])
  refine wpAny_Try_except (wpAny_mono ((hb (wT X.K c i ts Wo Dn) (X.pn ++ pins) _ (fun u t air => ?_) PassesOwn.looking).run [] s σ H Dn (I.toTry _) rd) (fun fl t r => ?_) fun _ _ z => z)
  · obtain ⟨a, B, t0, pins0, σ1, H1, cls, d, rfl, I0, nb, up, sky, na, os, ag, rfl, b, hm, hno, hyes⟩ := air
    have J : Inv X pins σ1 H1 t0 := I0.ofTry ok
    rw [hst] at sky
    refine Sky.land Zc.steady frs' hfr sky fun g3 fly3 up3 => ?_
    have J3 : Inv X pins σ1 H1 { t with heap := g3 } := J.landed nb fly3.1 (up.trans up3) os ag
    have apart : ∀ {g : Heap} {o : Obj} {v : Array Value}, g.FunFrames B (X.env :: X.outer) → g.get? a = some o → o.data = .fields v → a ∉ frs (X.env :: X.outer) := by
      intro g o v ff e dd hin
      obtain ⟨_, o2, e2, nf⟩ := ff.mem hin
      exact nf v (by rw [e] at e2; cases e2; exact dd)
    obtain ⟨o3, v3, e3, z3, d3⟩ := fly3.there
    have out := apart fly3.2.2.1 e3 d3
    have nL : a ≠ X.env.locals := by
      intro q
      exact out (List.mem_filterMap.mpr ⟨X.env, by simp, by rw [hfr, q]⟩)
    have nF : a ∉ X.fs := by
      intro q
      obtain ⟨env', m1, m2⟩ := List.mem_filterMap.mp q
      exact out (List.mem_filterMap.mpr ⟨env', by simp [m1], m2⟩)
    have gone0 : t0.heap.get? a = none := by
      cases q : t0.heap.get? a with
      | none => rfl
      | some o =>
        have : a ∉ frs X.stack := by rw [hst]; exact out
        have q2 := nb a o q this
        rw [fly3.2.1] at q2
        cases q2
    have new : X.s_0.heap.get? a = none := by
      cases q : X.s_0.heap.get? a with
      | none => rfl
      | some o =>
        obtain ⟨o2, q2⟩ := J.base.there a o q (by rw [hex]; simp)
        rw [gone0] at q2; cases q2
    have npin : ∀ p ∈ X.pn ++ pins, p.1 ≠ a := by
      intro p hp q
      have q2 := (J.pin p hp).1
      rw [q, gone0] at q2
      cases q2
    refine wpAny_handleBy_cons (codeAny_handlers_test ?_) (fun q => by cases q)
    have inS := J3.suite e3 d3 na nL nF
    have kind : PySem.W.Looks (model X.prog X.w) g3 (typeOf (.ref a)) cls := by
      intro A' Q' E' s' k q
      exact wpAny_typeOf_ref (k _ _ e3) (by rw [z3.1]; exact q)
    have match_ := PySem.W.exm_one (M := model X.prog X.w) J3.kIn kind hm
    have named : ∀ {Q : Value → Shared → Prop} {E : Value → Shared → Prop}, Q c { t with heap := g3 } → wpAny (model X.prog X.w) (X.A.mark (some (.ref a))) (eval (.Name x np) X.env) Q E { t with heap := g3 } := by
      intro Q E q
      obtain ⟨gl, nodbg, h1⟩ := hc
      rcases h1 with h1 | ⟨h1, h2, h3⟩
      · exact ld_glob (X := X.suite a ((a, o3) :: (X.pn ++ pins))) inS gl h1 q nodbg
      · exact ld_blt (X := X.suite a ((a, o3) :: (X.pn ++ pins))) inS gl h1 h2 q h3 nodbg
    refine named (match_.here ?_)
    cases b with
    | false =>
      show wpAny _ X.A (handleBy (.ref a) X.env []) _ _ _
      refine wpAny_handleBy_nil ?_
      obtain ⟨_, _, _, o, v, T, oT, w1, he, hz, hd, h1, hr⟩ := id fly3
      unfold PySem.passOn
      refine wpAny_bind (wpAny_field he hd h1 ?_)
      rw [if_neg (by simp : ¬ ((Value.ref T == Value.none) = true))]
      have go : wpAny (model X.prog X.w) X.A (setFlight (.ref a) X.env.frame) (fun _ t4 => wpAny (model X.prog X.w) X.A (throw (.ref a) : Sem Flow) (SP X pins Dn) X.xe t4) X.xe { t with heap := g3 } := by
        rw [hfr]
        refine HandSPX.setFlight_upZ fly3 fun g4 hh4 up4 => wpAny_throw (tk _ _ ⟨a, B, t0, pins, σ1, H1, cls, none, rfl, J, nb, (up.trans up3).trans up4, .inr (.inr ?_), na, os, ag, hno rfl⟩)
        rw [hst]; exact hh4
      first
        | exact wpAny_bind (wpAny_pure (wpAny_bind go))
        | exact wpAny_bind go
    | true =>
      refine codeAny_handlers_suite_as (HandSPX.lands_againZ fly3 fun g4 fly4 up4 => ?_)
      have J4 : Inv X pins σ1 H1 { t with heap := g4 } := J.landed nb fly4.1 ((up.trans up3).trans up4) os ag
      obtain ⟨o4, v4, e4, z4, d4⟩ := fly4.there
      refine store_ok (X := X.suite a ((a, o4) :: (X.pn ++ pins))) (v := .ref a) (J4.suite e4 d4 na nL nF) nd hi (.inl hl) rfl (fun t5 S5 => ?_) (.inr hl)
      have e5 := (S5.pin (a, o4) (by simp)).1
      have S6 := inv_sx (inv_track (S5.unsuite ok) new npin e5 d4 z4 na nL) a
      refine wpAny_mono ((hsu a cls (X.pn ++ pins)).run [] t5 _ _ _ S6 (hyes rfl a na)) (fun fl t6 r6 => ?_) fun _ _ z => z.elim
      have fin : ∀ {σ6 : L2.St} {H6 : Hp} {Q : Shared → Prop}, Inv (X.suite a (X.pn ++ pins)) [] σ6 H6 t6 → (∀ t7, Inv X pins (σ6.set i none) H6 t7 → Q t7) → wpAny (model X.prog X.w) X.A (do bindName X.env n .none; unbindBehindTheSuite X.env n hpos) (fun _ t7 => Q t7) X.xe t6 := by
        intro σ6 H6 Q S6 hq
        exact gone_ok (inv_xs S6 ok) nd hi hl hq
      cases fl with
      | next => obtain ⟨σ6, H6, S6, q6⟩ := r6; exact fin S6 fun t7 J7 => ⟨_, _, J7, q6⟩
      | brk => obtain ⟨σ6, H6, S6, q6⟩ := r6; exact fin S6 fun t7 J7 => ⟨_, _, J7, q6⟩
      | cont => obtain ⟨σ6, H6, S6, q6⟩ := r6; exact fin S6 fun t7 J7 => ⟨_, _, J7, q6⟩
      | ret u => obtain ⟨v6, σ6, H6, S6, rr, q6⟩ := r6; exact fin S6 fun t7 J7 => ⟨_, _, _, J7, rr, q6⟩
  · cases fl with
    | next => obtain ⟨σ1, H1, J1, q⟩ := r; exact wpAny_execs_nil ⟨σ1, H1, J1.ofTry ok, q⟩
    | brk => obtain ⟨σ1, H1, J1, q⟩ := r; exact ⟨σ1, H1, J1.ofTry ok, q⟩
    | cont => obtain ⟨σ1, H1, J1, q⟩ := r; exact ⟨σ1, H1, J1.ofTry ok, q⟩
    | ret u => obtain ⟨v, σ1, H1, J1, rr, q⟩ := r; exact ⟨v, σ1, H1, J1.ofTry ok, rr, q⟩
end
/-- try: f, except c as slot i: g -/
def sTryS (mt : Str → Option Bool) (i : Nat) (f g : Sv) : Sv := fun ρ M => match f ρ M with
  | some (.ex x ρ1, M1) => match mt x with
    | some true => if i < ρ1.length then (match g (ρ1.set i (some (.exv x))) M1 with
      | some (.nx ρ2, M2) => some (.nx (ρ2.set i none), M2)
      | some (.bk ρ2, M2) => some (.bk (ρ2.set i none), M2)
      | some (.ct ρ2, M2) => some (.ct (ρ2.set i none), M2)
      | some (.rt d, M2) => some (.rt d, M2)
      | _ => none) else none
    | some false => some (.ex x ρ1, M1)
    | none => none
  | r => r
section
variable {X : Cx} {W : WN} {pos : Pos}
theorem ds_tryS {i : Nat} {n bx : Str} {cB : Addr} {body more : List Stmt} {first : Stmt} {np hpos : Pos} {f g : Sv} {WC : WX} {mt : Str → Option Bool} (hw : WOk X.mg WC W) (tk : Takes X WC) (nd : X.N.Nodup) (hc : X.mg bx = some (.ref cB))
    (hmt : ∀ x b, mt x = some b → ∃ C, X.mg x = some (.ref C) ∧ PySem.W.nsIn X.K mainGlobals x = some (some (.ref C)) ∧ PySem.W.exmOne X.K (.ref C) (.ref cB) = some b)
    (hb : ∀ (WC' : WX) (pl : List (Addr × Obj)) (xe : Value → Shared → Prop), Takes (X.tr pl xe) WC' → PassesOwn (model X.prog X.w) X.A X.env xe → DSs (X.tr pl xe) (wnOf X.mg WC') body f)
    (hs : ∀ (a : Addr) (pl : List (Addr × Obj)), DSs (X.suite a pl) W0 (first :: more) g)
    (hi : X.N[i]? = some n := by rfl) (hl : X.env.kindOf n = some .local := by rfl)
    (hst : X.stack = X.env :: X.outer := by rfl) (hfr : X.env.frame = some X.env.locals := by rfl) (hex : X.ex = [] := by rfl) (hg : Gl X bx := by rfl) (hdb : (bx == ("__debug__" : Str)) = false := by decide) :
    DS X W (.Try body [.ExceptHandler (some (.Name bx np)) (some n) (first :: more) hpos] [] [] pos) (sTryS mt i f g) := by
  refine ⟨_, ps_tryT (i := i) (Wo := WC) (tb := fun WC' => tSOf X.K (wnOf X.mg WC') f) (ts := fun _ _ => tSOf X.K W0 g) hst hfr hex nd hi hl ⟨hg, hdb, .inl hc⟩ tk (fun WC' pl xe tk' po => (hb WC' pl xe tk' po).can) (fun a cls pl => (hs a pl).can), fun ρ M o M' θ G σ H Dn e rs rv kk => ?_⟩
  unfold sTryS at e
  cases q : f ρ M with
  | none => rw [q] at e; cases e
  | some z =>
    obtain ⟨o1, M1⟩ := z
    rw [q] at e
    cases o1 with
    | ex x ρ1 =>
      dsimp only at e
      refine ⟨ρ, M, _, M1, θ, G, q, rs, rv, fun θ' G' H' p' s' rs' => ?_⟩
      refine ⟨fun ρ2 σ2 h => (by cases h), fun ρ2 σ2 h => (by cases h), fun ρ2 σ2 h => (by cases h), fun d v h => (by cases h), fun x' ρ2 σ2 h r2 C hC => ?_⟩
      cases h
      cases qm : mt x with
      | none => rw [qm] at e; cases e
      | some b =>
        rw [qm] at e
        obtain ⟨C2, g2, n2, m2⟩ := hmt x b qm
        have eC : C = C2 := by rw [hC] at g2; cases g2; rfl
        subst eC
        refine ⟨rfl, b, m2, fun hb0 => ?_, fun hb1 a ha => ?_⟩
        · subst hb0
          cases e
          exact hw x σ2 H' ((kk θ' G' H' p' s' rs').ex x ρ1 σ2 rfl r2) C hC
        · subst hb1
          dsimp only at e
          split at e
          · rename_i hlt
            have g0 := rs'.fresh ha
            have rs2 := rs'.laid ha (ExQ (.ref C) a)
            have rel : Rv X.K θ' (upd G' a (ExQ (.ref C) a)) (.ref a) (.exv x) := .exv n2 upd_same
            have r3 := (r2.mono (List.prefix_refl _) (same_upd g0)).set (i := i) rel
            cases qg : g (ρ1.set i (some (.exv x))) M1 with
            | none => rw [qg] at e; cases e
            | some z2 =>
              obtain ⟨o2, M2⟩ := z2
              rw [qg] at e
              refine ⟨_, M1, o2, M2, θ', _, qg, rs2, r3, fun θ3 G3 H3 p3 s3 rs3 => ?_⟩
              have k3 := fun (h : M2 = M') => kk θ3 G3 H3 (p'.trans p3) (s'.trans ((same_upd g0).trans s3)) (h ▸ rs3)
              cases o2 with
              | nx ρ2 =>
                cases e
                refine ⟨fun ρ4 σ4 h r4 => ?_, fun _ _ h => (by cases h), fun _ _ h => (by cases h), fun _ _ h => (by cases h), fun _ _ _ h => (by cases h)⟩
                cases h; exact (k3 rfl).nx _ _ rfl (rσ_none r4 i)
              | bk ρ2 =>
                cases e
                refine ⟨fun _ _ h => (by cases h), fun ρ4 σ4 h r4 => ?_, fun _ _ h => (by cases h), fun _ _ h => (by cases h), fun _ _ _ h => (by cases h)⟩
                cases h; exact (k3 rfl).bk _ _ rfl (rσ_none r4 i)
              | ct ρ2 =>
                cases e
                refine ⟨fun _ _ h => (by cases h), fun _ _ h => (by cases h), fun ρ4 σ4 h r4 => ?_, fun _ _ h => (by cases h), fun _ _ _ h => (by cases h)⟩
                cases h; exact (k3 rfl).ct _ _ rfl (rσ_none r4 i)
              | rt d =>
                cases e
                refine ⟨fun _ _ h => (by cases h), fun _ _ h => (by cases h), fun _ _ h => (by cases h), fun d4 v h r4 => ?_, fun _ _ _ h => (by cases h)⟩
                cases h; exact (k3 rfl).rt _ _ rfl r4
              | ex y ρ2 => cases e
          · cases e
    | nx ρ1 => cases e; exact ⟨ρ, M, _, _, θ, G, q, rs, rv, fun θ' G' H' p' s' rs' => ⟨(kk θ' G' H' p' s' rs').nx, (kk θ' G' H' p' s' rs').bk, (kk θ' G' H' p' s' rs').ct, (kk θ' G' H' p' s' rs').rt, fun _ _ _ h => (by cases h)⟩⟩
    | bk ρ1 => cases e; exact ⟨ρ, M, _, _, θ, G, q, rs, rv, fun θ' G' H' p' s' rs' => ⟨(kk θ' G' H' p' s' rs').nx, (kk θ' G' H' p' s' rs').bk, (kk θ' G' H' p' s' rs').ct, (kk θ' G' H' p' s' rs').rt, fun _ _ _ h => (by cases h)⟩⟩
    | ct ρ1 => cases e; exact ⟨ρ, M, _, _, θ, G, q, rs, rv, fun θ' G' H' p' s' rs' => ⟨(kk θ' G' H' p' s' rs').nx, (kk θ' G' H' p' s' rs').bk, (kk θ' G' H' p' s' rs').ct, (kk θ' G' H' p' s' rs').rt, fun _ _ _ h => (by cases h)⟩⟩
    | rt d => cases e; exact ⟨ρ, M, _, _, θ, G, q, rs, rv, fun θ' G' H' p' s' rs' => ⟨(kk θ' G' H' p' s' rs').nx, (kk θ' G' H' p' s' rs').bk, (kk θ' G' H' p' s' rs').ct, (kk θ' G' H' p' s' rs').rt, fun _ _ _ h => (by cases h)⟩⟩
end
end Bw
namespace Bw
open PySem PySem.Spec PyProof.Rows L2
def C_NOUGHT : D := .tup [.int 0, .int 1]
noncomputable def den__law_pot : Sv :=
  (sSeq (sAsg (bnd (dCons (ret (.int 2147483647)) (dCons (ret (.int 2147483629)) (dCons (ret (.int 2147483587)) (dCons (ret (.int 2147483579)) (dCons (ret (.int 2147483563)) (dCons (ret (.int 2147483549)) (dCons (ret (.int 2147483543)) (dCons (ret (.int 2147483497)) dNil)))))))) oLst) (gNm 2))
  (sSeq (sAsg (bnd (dVar 2) fun d => bnd (bnd (dVar 1) fun d => bnd (ret (.int 8)) fun e => oMod d e) fun e => oIx d e) (gNm 3))
  (sRet (bnd (dCons (bnd (dCons (ret (.int 0)) (dCons (bnd (dVar 0) fun d => bnd (bnd (ret (.int 10)) fun d => bnd (ret (.int 18)) fun e => oPow d e) fun e => oSub d e) dNil)) oMax) (dCons (bnd (bnd (bnd (bnd (bnd (dVar 0) fun d => bnd (ret (.int 1000000007)) fun e => oMod d e) fun d => bnd (bnd (ret (.int 7919)) fun d => bnd (dVar 1) fun e => oMul d e) fun e => oAdd d e) fun d => bnd (ret (.int 31)) fun e => oAdd d e) fun d => bnd (ret (.int 5)) fun e => oPow d e) fun d => bnd (dVar 3) fun e => oMod d e) (dCons (ret (.int 0)) dNil))) oNew))))
noncomputable def F__law_pot : Fd := runF 1 ["cell", "place", "primes", "prime"] den__law_pot
theorem hF__law_pot : ∀ ds M r M', ds.length = 2 → F__law_pot ds M = some (r, M') → M.length ≤ M'.length ∧ ∃ o M2, den__law_pot (startD ["cell", "place", "primes", "prime"] ds) M = some (o, M2) ∧ Exit o M2 r M' := runF_ok
theorem hX__law_pot : ∀ ds M C M', F__law_pot ds M ≠ some (.exc C, M') := runF_nx
noncomputable def den__law_take : Sv :=
  (sSeq (sIf (bnd (bnd (bnd (dVar 0) fun d => bnd (ret (.int 0)) fun e => oIx d e) fun d => bnd (ret (.int 0)) fun e => oGt d e) asB) (sSeq (sAsg (bnd (bnd (dVar 0) fun d => bnd (ret (.int 0)) fun e => oIx d e) fun d => bnd (dVar 1) fun e => oMod d e) (gNm 2))
  (sSeq (sStore (bnd (bnd (dVar 0) fun d => bnd (ret (.int 0)) fun e => oIx d e) fun d => bnd (dVar 1) fun e => oDiv d e) (dVar 0) (ret (.int 0)))
  (sRet (dVar 2)))) sNext)
  (sSeq (sStore (bnd (bnd (dVar 0) fun d => bnd (ret (.int 2)) fun e => oIx d e) fun d => bnd (ret (.int 1)) fun e => oAdd d e) (dVar 0) (ret (.int 2)))
  (sSeq (sStore (bnd (bnd (bnd (bnd (bnd (dVar 0) fun d => bnd (ret (.int 1)) fun e => oIx d e) fun d => bnd (ret (.int 69621)) fun e => oMul d e) fun d => bnd (bnd (bnd (ret (.int 104729)) fun d => bnd (bnd (dVar 0) fun d => bnd (ret (.int 2)) fun e => oIx d e) fun e => oMul d e) fun d => bnd (bnd (dVar 0) fun d => bnd (ret (.int 2)) fun e => oIx d e) fun e => oMul d e) fun e => oAdd d e) fun d => bnd (ret (.int 12345)) fun e => oAdd d e) fun d => bnd (ret (.int 2147483629)) fun e => oMod d e) (dVar 0) (ret (.int 1)))
  (sRet (bnd (bnd (bnd (bnd (bnd (dVar 0) fun d => bnd (ret (.int 1)) fun e => oIx d e) fun d => bnd (ret (.int 3)) fun e => oPow d e) fun d => bnd (ret (.int 2147483587)) fun e => oMod d e) fun d => bnd (ret (.int 16)) fun e => oDiv d e) fun d => bnd (dVar 1) fun e => oMod d e)))))
noncomputable def F__law_take : Fd := runF 0 ["pot", "many", "digit"] den__law_take
theorem hF__law_take : ∀ ds M r M', ds.length = 2 → F__law_take ds M = some (r, M') → M.length ≤ M'.length ∧ ∃ o M2, den__law_take (startD ["pot", "many", "digit"] ds) M = some (o, M2) ∧ Exit o M2 r M' := runF_ok
theorem hX__law_take : ∀ ds M C M', F__law_take ds M ≠ some (.exc C, M') := runF_nx
noncomputable def den__law_full : Sv :=
  (sSeq (sAsg (bnd (dCons (bnd (dCons (ret (.int 1)) (dCons (ret (.int 1)) dNil)) oTup) (dCons (bnd (dCons (ret (.int 1)) (dCons (ret (.int 4)) dNil)) oTup) (dCons (bnd (dCons (ret (.int 9)) (dCons (ret (.int 2)) dNil)) oTup) (dCons (bnd (dCons (ret (.int 7)) (dCons (ret (.int 3)) dNil)) oTup) (dCons (bnd (dCons (ret (.int 1)) (dCons (ret (.int 1000)) dNil)) oTup) (dCons (bnd (dCons (ret (.int 1000)) (dCons (ret (.int 1)) dNil)) oTup) (dCons (bnd (dCons (bnd (ret (.int 1)) fun d => bnd (bnd (dCons (dVar 0) (dCons (ret (.int 9)) dNil)) (oCall 2 F__law_take)) fun e => oAdd d e) (dCons (ret (.int 1)) dNil)) oTup) dNil))))))) oLst) (gNm 1))
  (sRet (bnd (bnd (dVar 1) fun d => bnd (bnd (dCons (bnd (dCons (ret (.int 7)) (dCons (ret (.int 11)) dNil)) oTup) (dCons (bnd (dCons (ret (.int 101)) (dCons (ret (.int 89)) dNil)) oTup) (dCons (bnd (dCons (ret (.int 997)) (dCons (ret (.int 991)) dNil)) oTup) dNil))) oLst) fun e => oAdd d e) fun d => bnd (bnd (dCons (dVar 0) (dCons (ret (.int 10)) dNil)) (oCall 2 F__law_take)) fun e => oIx d e)))
noncomputable def F__law_full : Fd := runF 0 ["pot", "some"] den__law_full
theorem hF__law_full : ∀ ds M r M', ds.length = 1 → F__law_full ds M = some (r, M') → M.length ≤ M'.length ∧ ∃ o M2, den__law_full (startD ["pot", "some"] ds) M = some (o, M2) ∧ Exit o M2 r M' := runF_ok
theorem hX__law_full : ∀ ds M C M', F__law_full ds M ≠ some (.exc C, M') := runF_nx
noncomputable def den__law_unit : Sv :=
  (sRet (bnd (bnd (dCons (ret (.int 1)) (dCons (ret (.int 2)) (dCons (ret (.int 3)) (dCons (ret (.int 4)) (dCons (ret (.int 6)) (dCons (ret (.int 12)) (dCons (ret (.int 7)) (dCons (ret (.int 101)) (dCons (ret (.int 997)) (dCons (ret (.int 1000)) dNil)))))))))) oLst) fun d => bnd (bnd (dCons (dVar 0) (dCons (ret (.int 10)) dNil)) (oCall 2 F__law_take)) fun e => oIx d e))
noncomputable def F__law_unit : Fd := runF 0 ["pot"] den__law_unit
theorem hF__law_unit : ∀ ds M r M', ds.length = 1 → F__law_unit ds M = some (r, M') → M.length ≤ M'.length ∧ ∃ o M2, den__law_unit (startD ["pot"] ds) M = some (o, M2) ∧ Exit o M2 r M' := runF_ok
theorem hX__law_unit : ∀ ds M C M', F__law_unit ds M ≠ some (.exc C, M') := runF_nx
noncomputable def den__law_laid_L1 : Sv :=
  (sAsg (bnd (dVar 4) fun d => bnd (ret (.int 1)) fun e => oAdd d e) (gNm 4))
noncomputable def den__law_laid_L2 : Sv :=
  (sSeq (sAsg (ret (.int 0)) (gNm 4))
  (sSeq (sWhile (dAnd (bnd (bnd (dVar 4) fun d => bnd (bnd (dCons (dVar 1) dNil) oLen) fun e => oLt d e) asB) (bnd (bnd (bnd (bnd (bnd (dVar 1) fun d => bnd (dVar 4) fun e => oIx d e) fun d => bnd (ret (.int 1)) fun e => oIx d e) fun d => bnd (dVar 2) fun e => oMul d e) fun d => bnd (bnd (dVar 3) fun d => bnd (bnd (bnd (dVar 1) fun d => bnd (dVar 4) fun e => oIx d e) fun d => bnd (ret (.int 0)) fun e => oIx d e) fun e => oMul d e) fun e => oGt d e) asB)) den__law_laid_L1)
  (sSeq (sIf (dAnd (bnd (bnd (dVar 4) fun d => bnd (bnd (dCons (dVar 1) dNil) oLen) fun e => oLt d e) asB) (bnd (bnd (bnd (bnd (bnd (dVar 1) fun d => bnd (dVar 4) fun e => oIx d e) fun d => bnd (ret (.int 1)) fun e => oIx d e) fun d => bnd (dVar 2) fun e => oMul d e) fun d => bnd (bnd (dVar 3) fun d => bnd (bnd (bnd (dVar 1) fun d => bnd (dVar 4) fun e => oIx d e) fun d => bnd (ret (.int 0)) fun e => oIx d e) fun e => oMul d e) fun e => oEq d e) asB)) (sSeq (sPar 2 3 (dCons (bnd (bnd (bnd (dVar 1) fun d => bnd (dVar 4) fun e => oIx d e) fun d => bnd (ret (.int 0)) fun e => oIx d e) fun d => bnd (dVar 2) fun e => oAdd d e) (dCons (bnd (bnd (bnd (dVar 1) fun d => bnd (dVar 4) fun e => oIx d e) fun d => bnd (ret (.int 1)) fun e => oIx d e) fun d => bnd (dVar 3) fun e => oAdd d e) dNil)))
  (sAsg (bnd (bnd (dVar 1) fun d => bnd (ret none) fun l => bnd (bnd (dVar 4) asI) fun u => oSl d l u) fun d => bnd (bnd (dVar 1) fun d => bnd (bnd (bnd (dVar 4) fun d => bnd (ret (.int 1)) fun e => oAdd d e) asI) fun l => bnd (ret none) fun u => oSl d l u) fun e => oAdd d e) (gNm 1))) sNext)
  (sAsg (bnd (bnd (bnd (dVar 1) fun d => bnd (ret none) fun l => bnd (bnd (dVar 4) asI) fun u => oSl d l u) fun d => bnd (bnd (dCons (bnd (dCons (dVar 2) (dCons (dVar 3) dNil)) oTup) dNil) oLst) fun e => oAdd d e) fun d => bnd (bnd (dVar 1) fun d => bnd (bnd (dVar 4) asI) fun l => bnd (ret none) fun u => oSl d l u) fun e => oAdd d e) (gNm 1)))))
noncomputable def den__law_laid : Sv :=
  (sSeq (sAsg (bnd dNil oLst) (gNm 1))
  (sSeq (sFor (bnd (dVar 0) oItF) (gTp 2 (gCn (gNm 2) (gCn (gNm 3) gNl))) den__law_laid_L2)
  (sRet (dVar 1))))
noncomputable def F__law_laid : Fd := runF 0 ["layers", "found", "water", "salt", "at"] den__law_laid
theorem hF__law_laid : ∀ ds M r M', ds.length = 1 → F__law_laid ds M = some (r, M') → M.length ≤ M'.length ∧ ∃ o M2, den__law_laid (startD ["layers", "found", "water", "salt", "at"] ds) M = some (o, M2) ∧ Exit o M2 r M' := runF_ok
theorem hX__law_laid : ∀ ds M C M', F__law_laid ds M ≠ some (.exc C, M') := runF_nx
noncomputable def den__law_long_L1 : Sv :=
  (sSeq (sAsg (bnd (ret (.int 1)) fun d => bnd (bnd (dVar 4) fun d => bnd (ret (.int 7)) fun e => oMod d e) fun e => oAdd d e) (gNm 5))
  (sExpr (bnd (dVar 3) fun d => bnd (okPtr d) fun d => bnd (bnd (dCons (bnd (ret (.int 397)) fun d => bnd (dVar 5) fun e => oMul d e) (dCons (bnd (bnd (bnd (dVar 2) fun d => bnd (ret (.int 0)) fun e => oIx d e) fun d => bnd (dVar 5) fun e => oMul d e) fun d => bnd (bnd (bnd (dVar 4) fun d => bnd (ret (.int 100)) fun e => oMul d e) fun d => bnd (ret (.int 397)) fun e => oMod d e) fun e => oMul d e) dNil)) oTup) fun y => oApp d y)))
noncomputable def den__law_long : Sv :=
  (sSeq (sAsg (bnd (dCons (bnd (ret (.int 1)) fun d => bnd (bnd (dCons (dVar 0) (dCons (ret (.int 9)) dNil)) (oCall 2 F__law_take)) fun e => oAdd d e) (dCons (ret (.int 1)) dNil)) oTup) (gNm 2))
  (sSeq (sAsg (bnd (dCons (bnd (dCons (ret (.int 0)) (dCons (bnd (ret (.int 397)) fun d => bnd (ret (.int 3)) fun e => oMul d e) dNil)) oTup) (dCons (bnd (dCons (bnd (ret (.int 397)) fun d => bnd (ret (.int 2)) fun e => oMul d e) (dCons (bnd (bnd (ret (.int 397)) fun d => bnd (ret (.int 2)) fun e => oMul d e) fun d => bnd (bnd (dVar 2) fun d => bnd (ret (.int 0)) fun e => oIx d e) fun e => oMul d e) dNil)) oTup) dNil)) oNew) (gNm 3))
  (sSeq (sFor (bnd (dCons (bnd (dVar 1) fun d => bnd (bnd (dCons (dVar 0) (dCons (ret (.int 8)) dNil)) (oCall 2 F__law_take)) fun e => oAdd d e) dNil) oRng1) (gNm 4) den__law_long_L1)
  (sRet (bnd (dCons (dVar 2) (dCons (bnd (dCons (dVar 3) dNil) (oCall 1 F__law_laid)) dNil)) oTup)))))
noncomputable def F__law_long : Fd := runF 0 ["pot", "few", "full", "layers", "k", "water"] den__law_long
theorem hF__law_long : ∀ ds M r M', ds.length = 2 → F__law_long ds M = some (r, M') → M.length ≤ M'.length ∧ ∃ o M2, den__law_long (startD ["pot", "few", "full", "layers", "k", "water"] ds) M = some (o, M2) ∧ Exit o M2 r M' := runF_ok
theorem hX__law_long : ∀ ds M C M', F__law_long ds M ≠ some (.exc C, M') := runF_nx
noncomputable def den__law_layer : Sv :=
  (sSeq (sAsg (bnd (dCons (dVar 0) (dCons (ret (.int 7)) dNil)) (oCall 2 F__law_take)) (gNm 4))
  (sSeq (sAsg (bnd (ret (.int 1)) fun d => bnd (bnd (dCons (dVar 0) (dCons (dVar 3) dNil)) (oCall 2 F__law_take)) fun e => oAdd d e) (gNm 5))
  (sSeq (sAsg (bnd (dCons (dVar 0) (dCons (bnd (ret (.int 1)) fun d => bnd (bnd (dCons (ret (.int 20000)) (dCons (bnd (bnd (bnd (dVar 1) fun d => bnd (ret (.int 0)) fun e => oIx d e) fun d => bnd (dVar 5) fun e => oMul d e) fun d => bnd (bnd (dVar 1) fun d => bnd (ret (.int 1)) fun e => oIx d e) fun e => oDiv d e) dNil)) oMin) fun e => oAdd d e) dNil)) (oCall 2 F__law_take)) (gNm 6))
  (sSeq (sIf (bnd (bnd (dVar 4) fun d => bnd (ret (.int 0)) fun e => oEq d e) asB) (sAsg (ret (.int 0)) (gNm 6)) sNext)
  (sSeq (sIf (bnd (bnd (dVar 4) fun d => bnd (ret (.int 1)) fun e => oEq d e) asB) (sSeq (sAsg (bnd (ret (.int 1)) fun d => bnd (bnd (dVar 5) fun d => bnd (bnd (dCons (ret (.int 50)) (dCons (bnd (dCons (ret (.int 1)) (dCons (bnd (bnd (ret (.int 10)) fun d => bnd (ret (.int 5)) fun e => oPow d e) fun d => bnd (bnd (dVar 1) fun d => bnd (ret (.int 0)) fun e => oIx d e) fun e => oDiv d e) dNil)) oMax) dNil)) oMin) fun e => oMod d e) fun e => oAdd d e) (gNm 7))
  (sPar 5 6 (dCons (bnd (bnd (dVar 1) fun d => bnd (ret (.int 1)) fun e => oIx d e) fun d => bnd (dVar 7) fun e => oMul d e) (dCons (bnd (bnd (dVar 1) fun d => bnd (ret (.int 0)) fun e => oIx d e) fun d => bnd (dVar 7) fun e => oMul d e) dNil)))) sNext)
  (sSeq (sIf (dAnd (bnd (bnd (dVar 4) fun d => bnd (ret (.int 2)) fun e => oEq d e) asB) (bnd (bnd (dVar 2) fun d => bnd (bnd dNil oLst) fun e => oNeM d e) asB)) (sSeq (sAsg (bnd (dVar 2) fun d => bnd (bnd (dCons (dVar 0) (dCons (bnd (dCons (dVar 2) dNil) oLen) dNil)) (oCall 2 F__law_take)) fun e => oIx d e) (gTp 2 (gCn (gNm 5) (gCn (gNm 6) gNl))))
  (sSeq (sAsg (bnd (ret (.int 1)) fun d => bnd (bnd (dCons (dVar 0) (dCons (ret (.int 3)) dNil)) (oCall 2 F__law_take)) fun e => oAdd d e) (gNm 7))
  (sIf (bnd (bnd (bnd (dCons (dVar 5) (dCons (dVar 6) dNil)) oMax) fun d => bnd (ret (.int 20000)) fun e => oLe d e) asB) (sPar 5 6 (dCons (bnd (dVar 5) fun d => bnd (dVar 7) fun e => oMul d e) (dCons (bnd (dVar 6) fun d => bnd (dVar 7) fun e => oMul d e) dNil))) sNext))) sNext)
  (sSeq (sIf (bnd (bnd (dVar 4) fun d => bnd (ret (.int 3)) fun e => oEq d e) asB) (sPar 5 6 (dCons (ret (.int 0)) (dCons (dVar 5) dNil))) sNext)
  (sRet (bnd (dCons (dVar 5) (dCons (dVar 6) dNil)) oTup)))))))))
noncomputable def F__law_layer : Fd := runF 0 ["pot", "full", "found", "size", "kind", "water", "salt", "many"] den__law_layer
theorem hF__law_layer : ∀ ds M r M', ds.length = 4 → F__law_layer ds M = some (r, M') → M.length ≤ M'.length ∧ ∃ o M2, den__law_layer (startD ["pot", "full", "found", "size", "kind", "water", "salt", "many"] ds) M = some (o, M2) ∧ Exit o M2 r M' := runF_ok
theorem hX__law_layer : ∀ ds M C M', F__law_layer ds M ≠ some (.exc C, M') := runF_nx
noncomputable def den__law_parts_L1 : Sv :=
  (sExpr (bnd (dVar 4) fun d => bnd (okPtr d) fun d => bnd (bnd (dCons (dVar 0) (dCons (dVar 1) (dCons (dVar 4) (dCons (dVar 3) dNil)))) (oCall 4 F__law_layer)) fun y => oApp d y))
noncomputable def den__law_parts : Sv :=
  (sSeq (sAsg (bnd (bnd (dCons (ret (.int 6)) (dCons (ret (.int 40)) (dCons (ret (.int 12000)) dNil))) oLst) fun d => bnd (bnd (dCons (dVar 0) (dCons (ret (.int 3)) dNil)) (oCall 2 F__law_take)) fun e => oIx d e) (gNm 3))
  (sSeq (sAsg (bnd dNil oNew) (gNm 4))
  (sSeq (sFor (bnd (dCons (bnd (dCons (dVar 0) (dCons (bnd (dVar 2) fun d => bnd (ret (.int 1)) fun e => oAdd d e) dNil)) (oCall 2 F__law_take)) dNil) oRng1) (gNm 5) den__law_parts_L1)
  (sRet (bnd (dCons (dVar 4) dNil) (oCall 1 F__law_laid))))))
noncomputable def F__law_parts : Fd := runF 0 ["pot", "full", "most", "size", "found", "k"] den__law_parts
theorem hF__law_parts : ∀ ds M r M', ds.length = 3 → F__law_parts ds M = some (r, M') → M.length ≤ M'.length ∧ ∃ o M2, den__law_parts (startD ["pot", "full", "most", "size", "found", "k"] ds) M = some (o, M2) ∧ Exit o M2 r M' := runF_ok
theorem hX__law_parts : ∀ ds M C M', F__law_parts ds M ≠ some (.exc C, M') := runF_nx
noncomputable def den__law_case : Sv :=
  (sSeq (sIf (dAnd (bnd (dVar 1) asTru) (bnd (bnd (bnd (dCons (dVar 0) (dCons (ret (.int 2)) dNil)) (oCall 2 F__law_take)) fun d => bnd (ret (.int 0)) fun e => oEq d e) asB)) (sSeq (sAsg (bnd (dCons (dVar 0) (dCons (bnd (bnd (dCons (ret (.int 24)) (dCons (ret (.int 120)) dNil)) oLst) fun d => bnd (bnd (dCons (dVar 0) (dCons (ret (.int 2)) dNil)) (oCall 2 F__law_take)) fun e => oIx d e) dNil)) (oCall 2 F__law_long)) (gTp 2 (gCn (gNm 2) (gCn (gNm 4) gNl))))
  (sRet (bnd (dCons (dVar 2) (dCons (ret (.int 397)) (dCons (dVar 4) dNil))) oTup))) sNext)
  (sSeq (sAsg (bnd (dCons (dVar 0) dNil) (oCall 1 F__law_full)) (gNm 2))
  (sSeq (sAsg (bnd (dCons (dVar 0) dNil) (oCall 1 F__law_unit)) (gNm 3))
  (sRet (bnd (dCons (dVar 2) (dCons (dVar 3) (dCons (bnd (dCons (dVar 0) (dCons (dVar 2) (dCons (ret (.int 6)) dNil))) (oCall 3 F__law_parts)) dNil))) oTup)))))
noncomputable def F__law_case : Fd := runF 0 ["pot", "far", "full", "unit", "parts"] den__law_case
theorem hF__law_case : ∀ ds M r M', ds.length = 2 → F__law_case ds M = some (r, M') → M.length ≤ M'.length ∧ ∃ o M2, den__law_case (startD ["pot", "far", "full", "unit", "parts"] ds) M = some (o, M2) ∧ Exit o M2 r M' := runF_ok
theorem hX__law_case : ∀ ds M C M', F__law_case ds M ≠ some (.exc C, M') := runF_nx
noncomputable def den__law_low_L1 : Sv :=
  (sPar 2 3 (dCons (dVar 3) (dCons (bnd (dVar 2) fun d => bnd (dVar 3) fun e => oMod d e) dNil)))
noncomputable def den__law_low : Sv :=
  (sSeq (sPar 2 3 (dCons (bnd (dCons (dVar 0) dNil) oAbs) (dCons (bnd (dCons (dVar 1) dNil) oAbs) dNil)))
  (sSeq (sWhile (bnd (bnd (dVar 3) fun d => bnd (ret (.int 0)) fun e => oGt d e) asB) den__law_low_L1)
  (sSeq (sIf (bnd (bnd (dVar 1) fun d => bnd (ret (.int 0)) fun e => oLt d e) asB) (sAsg (bnd (ret (.int 0)) fun d => bnd (dVar 2) fun e => oSub d e) (gNm 2)) sNext)
  (sRet (bnd (dCons (bnd (dVar 0) fun d => bnd (dVar 2) fun e => oDiv d e) (dCons (bnd (dVar 1) fun d => bnd (dVar 2) fun e => oDiv d e) dNil)) oTup)))))
noncomputable def F__law_low : Fd := runF 0 ["a", "b", "one", "other"] den__law_low
theorem hF__law_low : ∀ ds M r M', ds.length = 2 → F__law_low ds M = some (r, M') → M.length ≤ M'.length ∧ ∃ o M2, den__law_low (startD ["a", "b", "one", "other"] ds) M = some (o, M2) ∧ Exit o M2 r M' := runF_ok
theorem hX__law_low : ∀ ds M C M', F__law_low ds M ≠ some (.exc C, M') := runF_nx
noncomputable def den__law_brine : Sv :=
  (sRet (bnd (dCons (bnd (bnd (dVar 0) oItS) (oLc (gTp 2 (gCn (gNm 2) (gCn (gNm 3) gNl))) (ret true) (bnd (dCons (bnd (dCons (dVar 2) (dCons (dVar 1) dNil)) (oCall 2 F__law_low)) (dCons (bnd (dCons (dVar 3) (dCons (dVar 1) dNil)) (oCall 2 F__law_low)) dNil)) oTup) [2, 3])) dNil) oTupOf))
noncomputable def F__law_brine : Fd := runF 0 ["parts", "unit", "water", "salt"] den__law_brine
theorem hF__law_brine : ∀ ds M r M', ds.length = 2 → F__law_brine ds M = some (r, M') → M.length ≤ M'.length ∧ ∃ o M2, den__law_brine (startD ["parts", "unit", "water", "salt"] ds) M = some (o, M2) ∧ Exit o M2 r M' := runF_ok
theorem hX__law_brine : ∀ ds M C M', F__law_brine ds M ≠ some (.exc C, M') := runF_nx
noncomputable def den_common_L1 : Sv :=
  (sPar 0 1 (dCons (dVar 1) (dCons (bnd (dVar 0) fun d => bnd (dVar 1) fun e => oMod d e) dNil)))
noncomputable def den_common : Sv :=
  (sSeq (sWhile (bnd (bnd (dVar 1) fun d => bnd (ret (.int 0)) fun e => oNe d e) asB) den_common_L1)
  (sRet (bnd (dCons (dVar 0) dNil) oAbs)))
noncomputable def F_common : Fd := runF 0 ["a", "b"] den_common
theorem hF_common : ∀ ds M r M', ds.length = 2 → F_common ds M = some (r, M') → M.length ≤ M'.length ∧ ∃ o M2, den_common (startD ["a", "b"] ds) M = some (o, M2) ∧ Exit o M2 r M' := runF_ok
theorem hX_common : ∀ ds M C M', F_common ds M ≠ some (.exc C, M') := runF_nx
noncomputable def den_times : Sv :=
  (sSeq (sAsg (dVar 0) (gTp 2 (gCn (gNm 4) (gCn (gNm 5) gNl))))
  (sSeq (sAsg (dVar 1) (gTp 2 (gCn (gNm 6) (gCn (gNm 7) gNl))))
  (sSeq (sAsg (bnd (dCons (dVar 4) (dCons (dVar 7) dNil)) (oCall 2 F_common)) (gNm 2))
  (sSeq (sAsg (bnd (dCons (dVar 6) (dCons (dVar 5) dNil)) (oCall 2 F_common)) (gNm 3))
  (sRet (bnd (dCons (bnd (bnd (dVar 4) fun d => bnd (dVar 2) fun e => oDiv d e) fun d => bnd (bnd (dVar 6) fun d => bnd (dVar 3) fun e => oDiv d e) fun e => oMul d e) (dCons (bnd (bnd (dVar 5) fun d => bnd (dVar 3) fun e => oDiv d e) fun d => bnd (bnd (dVar 7) fun d => bnd (dVar 2) fun e => oDiv d e) fun e => oMul d e) dNil)) oTup))))))
noncomputable def F_times : Fd := runF 0 ["one", "other", "left", "right", "a", "b", "c", "d"] den_times
theorem hF_times : ∀ ds M r M', ds.length = 2 → F_times ds M = some (r, M') → M.length ≤ M'.length ∧ ∃ o M2, den_times (startD ["one", "other", "left", "right", "a", "b", "c", "d"] ds) M = some (o, M2) ∧ Exit o M2 r M' := runF_ok
theorem hX_times : ∀ ds M C M', F_times ds M ≠ some (.exc C, M') := runF_nx
noncomputable def den_is_less : Sv :=
  (sSeq (sAsg (dVar 0) (gTp 2 (gCn (gNm 2) (gCn (gNm 3) gNl))))
  (sSeq (sAsg (dVar 1) (gTp 2 (gCn (gNm 4) (gCn (gNm 5) gNl))))
  (sRet (bnd (bnd (dVar 2) fun d => bnd (dVar 5) fun e => oMul d e) fun d => bnd (bnd (dVar 4) fun d => bnd (dVar 3) fun e => oMul d e) fun e => oLt d e))))
noncomputable def F_is_less : Fd := runF 0 ["one", "other", "a", "b", "c", "d"] den_is_less
theorem hF_is_less : ∀ ds M r M', ds.length = 2 → F_is_less ds M = some (r, M') → M.length ≤ M'.length ∧ ∃ o M2, den_is_less (startD ["one", "other", "a", "b", "c", "d"] ds) M = some (o, M2) ∧ Exit o M2 r M' := runF_ok
theorem hX_is_less : ∀ ds M C M', F_is_less ds M ≠ some (.exc C, M') := runF_nx
noncomputable def den_plus : Sv :=
  (sSeq (sAsg (dVar 0) (gTp 2 (gCn (gNm 5) (gCn (gNm 6) gNl))))
  (sSeq (sAsg (dVar 1) (gTp 2 (gCn (gNm 7) (gCn (gNm 8) gNl))))
  (sSeq (sAsg (bnd (dCons (dVar 6) (dCons (dVar 8) dNil)) (oCall 2 F_common)) (gNm 2))
  (sSeq (sAsg (bnd (bnd (dVar 5) fun d => bnd (bnd (dVar 8) fun d => bnd (dVar 2) fun e => oDiv d e) fun e => oMul d e) fun d => bnd (bnd (dVar 7) fun d => bnd (bnd (dVar 6) fun d => bnd (dVar 2) fun e => oDiv d e) fun e => oMul d e) fun e => oAdd d e) (gNm 3))
  (sSeq (sAsg (bnd (dCons (dVar 3) (dCons (dVar 2) dNil)) (oCall 2 F_common)) (gNm 4))
  (sRet (bnd (dCons (bnd (dVar 3) fun d => bnd (dVar 4) fun e => oDiv d e) (dCons (bnd (bnd (dVar 6) fun d => bnd (dVar 2) fun e => oDiv d e) fun d => bnd (bnd (dVar 8) fun d => bnd (dVar 4) fun e => oDiv d e) fun e => oMul d e) dNil)) oTup)))))))
noncomputable def F_plus : Fd := runF 0 ["one", "other", "shared", "top", "again", "a", "b", "c", "d"] den_plus
theorem hF_plus : ∀ ds M r M', ds.length = 2 → F_plus ds M = some (r, M') → M.length ≤ M'.length ∧ ∃ o M2, den_plus (startD ["one", "other", "shared", "top", "again", "a", "b", "c", "d"] ds) M = some (o, M2) ∧ Exit o M2 r M' := runF_ok
theorem hX_plus : ∀ ds M C M', F_plus ds M ≠ some (.exc C, M') := runF_nx
noncomputable def den_summed_L1 : Sv :=
  (sAsg (bnd (dCons (dVar 1) (dCons (dVar 2) dNil)) (oCall 2 F_plus)) (gNm 1))
noncomputable def den_summed : Sv :=
  (sSeq (sAsg (ret C_NOUGHT) (gNm 1))
  (sSeq (sFor (bnd (dVar 0) oItS) (gNm 2) den_summed_L1)
  (sRet (dVar 1))))
noncomputable def F_summed : Fd := runF 0 ["some", "total", "one"] den_summed
theorem hF_summed : ∀ ds M r M', ds.length = 1 → F_summed ds M = some (r, M') → M.length ≤ M'.length ∧ ∃ o M2, den_summed (startD ["some", "total", "one"] ds) M = some (o, M2) ∧ Exit o M2 r M' := runF_ok
theorem hX_summed : ∀ ds M C M', F_summed ds M ≠ some (.exc C, M') := runF_nx
noncomputable def den_water_of : Sv :=
  (sRet (bnd (dCons (bnd (bnd (dVar 0) oItS) (oLc (gTp 2 (gCn (gNm 1) (gCn (gNm 2) gNl))) (ret true) (dVar 1) [1, 2])) dNil) (oCall 1 F_summed)))
noncomputable def F_water_of : Fd := runF 0 ["brine", "water", "salt"] den_water_of
theorem hF_water_of : ∀ ds M r M', ds.length = 1 → F_water_of ds M = some (r, M') → M.length ≤ M'.length ∧ ∃ o M2, den_water_of (startD ["brine", "water", "salt"] ds) M = some (o, M2) ∧ Exit o M2 r M' := runF_ok
theorem hX_water_of : ∀ ds M C M', F_water_of ds M ≠ some (.exc C, M') := runF_nx
noncomputable def den_is_there : Sv :=
  (sRet (dAndV (dNotV (bnd (dCons (dVar 1) (dCons (ret C_NOUGHT) dNil)) (oCall 2 F_is_less))) (dNotV (bnd (dCons (bnd (dCons (dVar 0) dNil) (oCall 1 F_water_of)) (dCons (dVar 1) dNil)) (oCall 2 F_is_less)))))
noncomputable def F_is_there : Fd := runF 0 ["brine", "water"] den_is_there
theorem hF_is_there : ∀ ds M r M', ds.length = 2 → F_is_there ds M = some (r, M') → M.length ≤ M'.length ∧ ∃ o M2, den_is_there (startD ["brine", "water"] ds) M = some (o, M2) ∧ Exit o M2 r M' := runF_ok
theorem hX_is_there : ∀ ds M C M', F_is_there ds M ≠ some (.exc C, M') := runF_nx
noncomputable def den_check_there : Sv :=
  (sIf (dNot (bnd (bnd (dCons (dVar 0) (dCons (dVar 1) dNil)) (oCall 2 F_is_there)) asB)) (sRaise "NoWater") sNext)
noncomputable def F_check_there : Fd := runX ["brine", "water"] den_check_there
theorem hF_check_there : ∀ ds M r M', ds.length = 2 → F_check_there ds M = some (r, M') → M.length ≤ M'.length ∧ ∃ o M2, den_check_there (startD ["brine", "water"] ds) M = some (o, M2) ∧ Exit o M2 r M' := runX_ok
noncomputable def den_least_L1 : Sv :=
  (sIf (bnd (bnd (dCons (dVar 2) (dCons (dVar 1) dNil)) (oCall 2 F_is_less)) asB) (sAsg (dVar 2) (gNm 1)) sNext)
noncomputable def den_least : Sv :=
  (sSeq (sAsg (bnd (dVar 0) fun d => bnd (ret (.int 0)) fun e => oIx d e) (gNm 1))
  (sSeq (sFor (bnd (dVar 0) oItS) (gNm 2) den_least_L1)
  (sRet (dVar 1))))
noncomputable def F_least : Fd := runF 0 ["some", "best", "one"] den_least
theorem hF_least : ∀ ds M r M', ds.length = 1 → F_least ds M = some (r, M') → M.length ≤ M'.length ∧ ∃ o M2, den_least (startD ["some", "best", "one"] ds) M = some (o, M2) ∧ Exit o M2 r M' := runF_ok
theorem hX_least : ∀ ds M C M', F_least ds M ≠ some (.exc C, M') := runF_nx
noncomputable def den_less : Sv :=
  (sSeq (sAsg (dVar 1) (gTp 2 (gCn (gNm 2) (gCn (gNm 3) gNl))))
  (sRet (bnd (dCons (dVar 0) (dCons (bnd (dCons (bnd (dVar 2) oNeg) (dCons (dVar 3) dNil)) oTup) dNil)) (oCall 2 F_plus))))
noncomputable def F_less : Fd := runF 0 ["one", "other", "c", "d"] den_less
theorem hF_less : ∀ ds M r M', ds.length = 2 → F_less ds M = some (r, M') → M.length ≤ M'.length ∧ ∃ o M2, den_less (startD ["one", "other", "c", "d"] ds) M = some (o, M2) ∧ Exit o M2 r M' := runF_ok
theorem hX_less : ∀ ds M C M', F_less ds M ≠ some (.exc C, M') := runF_nx
noncomputable def den_over : Sv :=
  (sSeq (sAsg (dVar 1) (gTp 2 (gCn (gNm 2) (gCn (gNm 3) gNl))))
  (sSeq (sIf (bnd (bnd (dVar 2) fun d => bnd (ret (.int 0)) fun e => oEq d e) asB) (sRaise "NoFraction") sNext)
  (sRet (bnd (dCons (dVar 0) (dCons (dIf (bnd (bnd (dVar 2) fun d => bnd (ret (.int 0)) fun e => oGt d e) asB) (bnd (dCons (dVar 3) (dCons (dVar 2) dNil)) oTup) (bnd (dCons (bnd (dVar 3) oNeg) (dCons (bnd (dVar 2) oNeg) dNil)) oTup)) dNil)) (oCall 2 F_times)))))
noncomputable def F_over : Fd := runX ["one", "other", "c", "d"] den_over
theorem hF_over : ∀ ds M r M', ds.length = 2 → F_over ds M = some (r, M') → M.length ≤ M'.length ∧ ∃ o M2, den_over (startD ["one", "other", "c", "d"] ds) M = some (o, M2) ∧ Exit o M2 r M' := runX_ok
noncomputable def den_portion : Sv :=
  (sRet (bnd (dCons (dVar 1) (dCons (bnd (dCons (bnd (dVar 0) fun d => bnd (ret (.int 1)) fun e => oIx d e) (dCons (bnd (dCons (dVar 1) (dCons (bnd (dVar 0) fun d => bnd (ret (.int 0)) fun e => oIx d e) dNil)) (oCall 2 F_over)) dNil)) (oCall 2 F_times)) dNil)) oTup))
noncomputable def F_portion : Fd := runF 0 ["layer", "water"] den_portion
theorem hF_portion : ∀ ds M r M', ds.length = 2 → F_portion ds M = some (r, M') → M.length ≤ M'.length ∧ ∃ o M2, den_portion (startD ["layer", "water"] ds) M = some (o, M2) ∧ Exit o M2 r M' := runF_ok
theorem hX_portion : ∀ ds M C M', F_portion ds M ≠ some (.exc C, M') := runF_nx
noncomputable def den_parted_L1 : Sv :=
  (sSeq (sAsg (bnd (dCons (bnd (dCons (dVar 1) (dCons (bnd (dVar 4) fun d => bnd (ret (.int 0)) fun e => oIx d e) dNil)) oTup) dNil) (oCall 1 F_least)) (gNm 5))
  (sSeq (sAsg (bnd (dCons (bnd (dVar 4) fun d => bnd (ret (.int 0)) fun e => oIx d e) (dCons (dVar 5) dNil)) (oCall 2 F_less)) (gNm 6))
  (sSeq (sAsg (bnd (dCons (dVar 1) (dCons (dVar 5) dNil)) (oCall 2 F_less)) (gNm 1))
  (sSeq (sIf (bnd (bnd (dVar 5) fun d => bnd (ret C_NOUGHT) fun e => oNe d e) asB) (sExpr (bnd (dVar 2) fun d => bnd (okPtr d) fun d => bnd (bnd (dCons (dVar 4) (dCons (dVar 5) dNil)) (oCall 2 F_portion)) fun y => oApp d y)) sNext)
  (sIf (bnd (bnd (dVar 6) fun d => bnd (ret C_NOUGHT) fun e => oNe d e) asB) (sExpr (bnd (dVar 3) fun d => bnd (okPtr d) fun d => bnd (bnd (dCons (dVar 4) (dCons (dVar 6) dNil)) (oCall 2 F_portion)) fun y => oApp d y)) sNext)))))
noncomputable def den_parted : Sv :=
  (sSeq (sAsg (bnd dNil oNew) (gNm 2))
  (sSeq (sAsg (bnd dNil oNew) (gNm 3))
  (sSeq (sFor (bnd (dVar 0) oItS) (gNm 4) den_parted_L1)
  (sRet (bnd (dCons (bnd (dCons (dVar 2) dNil) oTupOf) (dCons (bnd (dCons (dVar 3) dNil) oTupOf) dNil)) oTup)))))
noncomputable def F_parted : Fd := runF 0 ["layers", "water", "taken", "left", "layer", "part", "rest"] den_parted
theorem hF_parted : ∀ ds M r M', ds.length = 2 → F_parted ds M = some (r, M') → M.length ≤ M'.length ∧ ∃ o M2, den_parted (startD ["layers", "water", "taken", "left", "layer", "part", "rest"] ds) M = some (o, M2) ∧ Exit o M2 r M' := runF_ok
theorem hX_parted : ∀ ds M C M', F_parted ds M ≠ some (.exc C, M') := runF_nx
noncomputable def den_dissolved_of : Sv :=
  (sRet (bnd (dCons (bnd (bnd (dVar 0) oItS) (oLc (gNm 1) (bnd (bnd (bnd (dVar 1) fun d => bnd (ret (.int 0)) fun e => oIx d e) fun d => bnd (ret C_NOUGHT) fun e => oNe d e) asB) (dVar 1) [1])) dNil) oTupOf))
noncomputable def F_dissolved_of : Fd := runF 0 ["brine", "layer"] den_dissolved_of
theorem hF_dissolved_of : ∀ ds M r M', ds.length = 1 → F_dissolved_of ds M = some (r, M') → M.length ≤ M'.length ∧ ∃ o M2, den_dissolved_of (startD ["brine", "layer"] ds) M = some (o, M2) ∧ Exit o M2 r M' := runF_ok
theorem hX_dissolved_of : ∀ ds M C M', F_dissolved_of ds M ≠ some (.exc C, M') := runF_nx
noncomputable def den_fallen_layers : Sv :=
  (sRet (bnd (dCons (bnd (bnd (dVar 0) oItS) (oLc (gNm 1) (bnd (bnd (bnd (dVar 1) fun d => bnd (ret (.int 0)) fun e => oIx d e) fun d => bnd (ret C_NOUGHT) fun e => oEq d e) asB) (dVar 1) [1])) dNil) oTupOf))
noncomputable def F_fallen_layers : Fd := runF 0 ["brine", "layer"] den_fallen_layers
theorem hF_fallen_layers : ∀ ds M r M', ds.length = 1 → F_fallen_layers ds M = some (r, M') → M.length ≤ M'.length ∧ ∃ o M2, den_fallen_layers (startD ["brine", "layer"] ds) M = some (o, M2) ∧ Exit o M2 r M' := runF_ok
theorem hX_fallen_layers : ∀ ds M C M', F_fallen_layers ds M ≠ some (.exc C, M') := runF_nx
noncomputable def den_drawn : Sv :=
  (sSeq (sExpr (bnd (dCons (dVar 0) (dCons (dVar 1) dNil)) (oCall 2 F_check_there)))
  (sSeq (sAsg (bnd (dCons (bnd (dCons (dVar 0) dNil) (oCall 1 F_dissolved_of)) (dCons (dVar 1) dNil)) (oCall 2 F_parted)) (gTp 2 (gCn (gNm 2) (gCn (gNm 3) gNl))))
  (sRet (bnd (dCons (dVar 2) (dCons (bnd (bnd (dCons (dVar 0) dNil) (oCall 1 F_fallen_layers)) fun d => bnd (dVar 3) fun e => oAdd d e) dNil)) oTup))))
noncomputable def F_drawn : Fd := runX ["brine", "water", "taken", "left"] den_drawn
theorem hF_drawn : ∀ ds M r M', ds.length = 2 → F_drawn ds M = some (r, M') → M.length ≤ M'.length ∧ ∃ o M2, den_drawn (startD ["brine", "water", "taken", "left"] ds) M = some (o, M2) ∧ Exit o M2 r M' := runX_ok
noncomputable def den__law_folded_L1 : Sv :=
  (sStore (bnd (bnd (dVar 2) fun d => bnd (bnd (dVar 3) fun d => bnd (dVar 1) fun e => oMod d e) fun e => oIx d e) fun d => bnd (dVar 4) fun e => oAdd d e) (dVar 2) (bnd (dVar 3) fun d => bnd (dVar 1) fun e => oMod d e))
noncomputable def den__law_folded : Sv :=
  (sSeq (sAsg (bnd (dCons (bnd (dVar 0) fun d => bnd (ret none) fun l => bnd (bnd (dVar 1) asI) fun u => oSl d l u) dNil) oLstN) (gNm 2))
  (sSeq (sFor (bnd (dCons (bnd (dVar 0) fun d => bnd (bnd (dVar 1) asI) fun l => bnd (ret none) fun u => oSl d l u) dNil) oEnum) (gTp 2 (gCn (gNm 3) (gCn (gNm 4) gNl))) den__law_folded_L1)
  (sRet (dVar 2))))
noncomputable def F__law_folded : Fd := runF 1 ["script", "most", "found", "at", "cell"] den__law_folded
theorem hF__law_folded : ∀ ds M r M', ds.length = 2 → F__law_folded ds M = some (r, M') → M.length ≤ M'.length ∧ ∃ o M2, den__law_folded (startD ["script", "most", "found", "at", "cell"] ds) M = some (o, M2) ∧ Exit o M2 r M' := runF_ok
theorem hX__law_folded : ∀ ds M C M', F__law_folded ds M ≠ some (.exc C, M') := runF_nx
noncomputable def den__law_amount : Sv :=
  (sSeq (sAsg (bnd (dCons (bnd (bnd (dVar 1) oItS) (oLc (gTp 2 (gCn (gNm 7) (gCn (gNm 8) gNl))) (ret true) (dVar 7) [7, 8])) dNil) oSum) (gNm 3))
  (sSeq (sAsg (bnd (dCons (dVar 0) (dCons (ret (.int 6)) dNil)) (oCall 2 F__law_take)) (gNm 4))
  (sSeq (sAsg (bnd (dCons (dVar 0) (dCons (bnd (bnd (dCons (dVar 1) dNil) oLen) fun d => bnd (ret (.int 1)) fun e => oAdd d e) dNil)) (oCall 2 F__law_take)) (gNm 5))
  (sSeq (sAsg (bnd (dCons (dVar 0) (dCons (bnd (dVar 3) fun d => bnd (ret (.int 1)) fun e => oAdd d e) dNil)) (oCall 2 F__law_take)) (gNm 6))
  (sSeq (sIf (bnd (bnd (dVar 4) fun d => bnd (ret (.int 0)) fun e => oEq d e) asB) (sAsg (ret (.int 0)) (gNm 6)) sNext)
  (sSeq (sIf (bnd (bnd (dVar 4) fun d => bnd (ret (.int 1)) fun e => oEq d e) asB) (sAsg (dVar 3) (gNm 6)) sNext)
  (sSeq (sIf (bnd (bnd (dVar 4) fun d => bnd (ret (.int 2)) fun e => oEq d e) asB) (sAsg (bnd (dCons (bnd (bnd (bnd (dVar 1) fun d => bnd (ret none) fun l => bnd (bnd (dVar 5) asI) fun u => oSl d l u) oItS) (oLc (gTp 2 (gCn (gNm 7) (gCn (gNm 8) gNl))) (ret true) (dVar 7) [7, 8])) dNil) oSum) (gNm 6)) sNext)
  (sSeq (sIf (bnd (bnd (dVar 4) fun d => bnd (ret (.int 3)) fun e => oEq d e) asB) (sAsg (bnd (dCons (bnd (bnd (bnd (dVar 1) fun d => bnd (bnd (dVar 5) asI) fun l => bnd (ret none) fun u => oSl d l u) oItS) (oLc (gTp 2 (gCn (gNm 7) (gCn (gNm 8) gNl))) (ret true) (dVar 7) [7, 8])) dNil) oSum) (gNm 6)) sNext)
  (sSeq (sIf (dAnd (bnd (bnd (dVar 4) fun d => bnd (ret (.int 4)) fun e => oEq d e) asB) (dAnd (bnd (bnd (dVar 2) fun d => bnd (ret (.int 500)) fun e => oLt d e) asB) (bnd (bnd (dVar 6) fun d => bnd (bnd (dCons (dVar 3) (dCons (ret (.int 400000)) dNil)) oMin) fun e => oLt d e) asB))) (sRet (bnd (dCons (bnd (bnd (ret (.int 2)) fun d => bnd (dVar 6) fun e => oMul d e) fun d => bnd (ret (.int 1)) fun e => oAdd d e) (dCons (bnd (ret (.int 2)) fun d => bnd (dVar 2) fun e => oMul d e) dNil)) (oCall 2 F__law_low))) sNext)
  (sRet (bnd (dCons (dVar 6) (dCons (dVar 2) dNil)) (oCall 2 F__law_low))))))))))))
noncomputable def F__law_amount : Fd := runF 0 ["pot", "parts", "unit", "total", "way", "at", "some", "water", "salt"] den__law_amount
theorem hF__law_amount : ∀ ds M r M', ds.length = 3 → F__law_amount ds M = some (r, M') → M.length ≤ M'.length ∧ ∃ o M2, den__law_amount (startD ["pot", "parts", "unit", "total", "way", "at", "some", "water", "salt"] ds) M = some (o, M2) ∧ Exit o M2 r M' := runF_ok
theorem hX__law_amount : ∀ ds M C M', F__law_amount ds M ≠ some (.exc C, M') := runF_nx
noncomputable def den__law_drawn : Sv :=
  (sRet (bnd (dCons (bnd (bnd (dVar 0) oItS) (oLc (gNm 1) (bnd (bnd (bnd (dVar 1) fun d => bnd (ret (.int 0)) fun e => oIx d e) fun d => bnd (bnd (dCons (ret (.int 0)) (dCons (ret (.int 1)) dNil)) oTup) fun e => oEq d e) asB) (dVar 1) [1])) (dCons (bnd (bnd (dVar 0) oItS) (oLc (gNm 1) (bnd (bnd (bnd (dVar 1) fun d => bnd (ret (.int 0)) fun e => oIx d e) fun d => bnd (bnd (dCons (ret (.int 0)) (dCons (ret (.int 1)) dNil)) oTup) fun e => oNe d e) asB) (dVar 1) [1])) dNil)) oTup))
noncomputable def F__law_drawn : Fd := runF 0 ["brine", "layer"] den__law_drawn
theorem hF__law_drawn : ∀ ds M r M', ds.length = 1 → F__law_drawn ds M = some (r, M') → M.length ≤ M'.length ∧ ∃ o M2, den__law_drawn (startD ["brine", "layer"] ds) M = some (o, M2) ∧ Exit o M2 r M' := runF_ok
theorem hX__law_drawn : ∀ ds M C M', F__law_drawn ds M ≠ some (.exc C, M') := runF_nx
noncomputable def den__law_under : Sv :=
  (sRet (bnd (bnd (bnd (dVar 0) fun d => bnd (ret (.int 0)) fun e => oIx d e) fun d => bnd (bnd (dVar 1) fun d => bnd (ret (.int 1)) fun e => oIx d e) fun e => oMul d e) fun d => bnd (bnd (bnd (dVar 1) fun d => bnd (ret (.int 0)) fun e => oIx d e) fun d => bnd (bnd (dVar 0) fun d => bnd (ret (.int 1)) fun e => oIx d e) fun e => oMul d e) fun e => oLt d e))
noncomputable def F__law_under : Fd := runF 0 ["one", "other"] den__law_under
theorem hF__law_under : ∀ ds M r M', ds.length = 2 → F__law_under ds M = some (r, M') → M.length ≤ M'.length ∧ ∃ o M2, den__law_under (startD ["one", "other"] ds) M = some (o, M2) ∧ Exit o M2 r M' := runF_ok
theorem hX__law_under : ∀ ds M C M', F__law_under ds M ≠ some (.exc C, M') := runF_nx
noncomputable def den__law_less : Sv :=
  (sRet (bnd (dCons (bnd (bnd (bnd (dVar 0) fun d => bnd (ret (.int 0)) fun e => oIx d e) fun d => bnd (bnd (dVar 1) fun d => bnd (ret (.int 1)) fun e => oIx d e) fun e => oMul d e) fun d => bnd (bnd (bnd (dVar 1) fun d => bnd (ret (.int 0)) fun e => oIx d e) fun d => bnd (bnd (dVar 0) fun d => bnd (ret (.int 1)) fun e => oIx d e) fun e => oMul d e) fun e => oSub d e) (dCons (bnd (bnd (dVar 0) fun d => bnd (ret (.int 1)) fun e => oIx d e) fun d => bnd (bnd (dVar 1) fun d => bnd (ret (.int 1)) fun e => oIx d e) fun e => oMul d e) dNil)) (oCall 2 F__law_low)))
noncomputable def F__law_less : Fd := runF 0 ["one", "other"] den__law_less
theorem hF__law_less : ∀ ds M r M', ds.length = 2 → F__law_less ds M = some (r, M') → M.length ≤ M'.length ∧ ∃ o M2, den__law_less (startD ["one", "other"] ds) M = some (o, M2) ∧ Exit o M2 r M' := runF_ok
theorem hX__law_less : ∀ ds M C M', F__law_less ds M ≠ some (.exc C, M') := runF_nx
noncomputable def den__law_by : Sv :=
  (sRet (bnd (dCons (bnd (bnd (dVar 0) fun d => bnd (ret (.int 0)) fun e => oIx d e) fun d => bnd (bnd (dVar 1) fun d => bnd (ret (.int 1)) fun e => oIx d e) fun e => oMul d e) (dCons (bnd (bnd (dVar 0) fun d => bnd (ret (.int 1)) fun e => oIx d e) fun d => bnd (bnd (dVar 1) fun d => bnd (ret (.int 0)) fun e => oIx d e) fun e => oMul d e) dNil)) (oCall 2 F__law_low)))
noncomputable def F__law_by : Fd := runF 0 ["one", "other"] den__law_by
theorem hF__law_by : ∀ ds M r M', ds.length = 2 → F__law_by ds M = some (r, M') → M.length ≤ M'.length ∧ ∃ o M2, den__law_by (startD ["one", "other"] ds) M = some (o, M2) ∧ Exit o M2 r M' := runF_ok
theorem hX__law_by : ∀ ds M C M', F__law_by ds M ≠ some (.exc C, M') := runF_nx
noncomputable def den__law_times : Sv :=
  (sRet (bnd (dCons (bnd (bnd (dVar 0) fun d => bnd (ret (.int 0)) fun e => oIx d e) fun d => bnd (bnd (dVar 1) fun d => bnd (ret (.int 0)) fun e => oIx d e) fun e => oMul d e) (dCons (bnd (bnd (dVar 0) fun d => bnd (ret (.int 1)) fun e => oIx d e) fun d => bnd (bnd (dVar 1) fun d => bnd (ret (.int 1)) fun e => oIx d e) fun e => oMul d e) dNil)) (oCall 2 F__law_low)))
noncomputable def F__law_times : Fd := runF 0 ["one", "other"] den__law_times
theorem hF__law_times : ∀ ds M r M', ds.length = 2 → F__law_times ds M = some (r, M') → M.length ≤ M'.length ∧ ∃ o M2, den__law_times (startD ["one", "other"] ds) M = some (o, M2) ∧ Exit o M2 r M' := runF_ok
theorem hX__law_times : ∀ ds M C M', F__law_times ds M ≠ some (.exc C, M') := runF_nx
noncomputable def den__law_taken_L1 : Sv :=
  (sSeq (sAsg (dVar 1) (gNm 6))
  (sSeq (sIf (bnd (bnd (dCons (dVar 4) (dCons (dVar 6) dNil)) (oCall 2 F__law_under)) asB) (sAsg (dVar 4) (gNm 6)) sNext)
  (sSeq (sAsg (bnd (dCons (dVar 1) (dCons (dVar 6) dNil)) (oCall 2 F__law_less)) (gNm 1))
  (sSeq (sAsg (bnd (dCons (bnd (dCons (dVar 5) (dCons (dVar 6) dNil)) (oCall 2 F__law_times)) (dCons (dVar 4) dNil)) (oCall 2 F__law_by)) (gNm 7))
  (sSeq (sExpr (bnd (dVar 2) fun d => bnd (okPtr d) fun d => bnd (bnd (dCons (dVar 6) (dCons (dVar 7) dNil)) oTup) fun y => oApp d y))
  (sExpr (bnd (dVar 3) fun d => bnd (okPtr d) fun d => bnd (bnd (dCons (bnd (dCons (dVar 4) (dCons (dVar 6) dNil)) (oCall 2 F__law_less)) (dCons (bnd (dCons (dVar 5) (dCons (dVar 7) dNil)) (oCall 2 F__law_less)) dNil)) oTup) fun y => oApp d y)))))))
noncomputable def den__law_taken : Sv :=
  (sSeq (sAsg (bnd dNil oNew) (gNm 2))
  (sSeq (sAsg (bnd dNil oNew) (gNm 3))
  (sSeq (sSeq (sSeq (sFor (bnd (dVar 0) oItS) (gTp 2 (gCn (gNm 4) (gCn (gNm 5) gNl))) den__law_taken_L1) (sFrzV 2)) (sFrzV 3))
  (sRet (bnd (bnd (bnd (dCons (dVar 2) (dCons (dVar 3) dNil)) oLst) oItL) (oLc (gNm 8) (ret true) (bnd (bnd (dVar 8) oItS) (oLc (gNm 9) (bnd (bnd (bnd (dVar 9) fun d => bnd (ret (.int 0)) fun e => oIx d e) fun d => bnd (bnd (dCons (ret (.int 0)) (dCons (ret (.int 1)) dNil)) oTup) fun e => oNe d e) asB) (dVar 9) [9])) [8]))))))
noncomputable def F__law_taken : Fd := runF 0 ["layers", "water", "taken", "left", "one", "salt", "part", "went", "some", "layer"] den__law_taken
theorem hF__law_taken : ∀ ds M r M', ds.length = 2 → F__law_taken ds M = some (r, M') → M.length ≤ M'.length ∧ ∃ o M2, den__law_taken (startD ["layers", "water", "taken", "left", "one", "salt", "part", "went", "some", "layer"] ds) M = some (o, M2) ∧ Exit o M2 r M' := runF_ok
theorem hX__law_taken : ∀ ds M C M', F__law_taken ds M ≠ some (.exc C, M') := runF_nx
noncomputable def den__law_under_taken : Sv :=
  (sSeq (sAsg (bnd (dCons (dVar 0) dNil) (oCall 1 F__law_drawn)) (gTp 2 (gCn (gNm 2) (gCn (gNm 3) gNl))))
  (sSeq (sAsg (bnd (dCons (dVar 3) (dCons (dVar 1) dNil)) (oCall 2 F__law_taken)) (gLs 2 (gCn (gNm 4) (gCn (gNm 5) gNl))))
  (sRet (bnd (dCons (bnd (dCons (dVar 4) dNil) oTupOf) (dCons (bnd (dCons (bnd (dVar 2) fun d => bnd (dVar 5) fun e => oAdd d e) dNil) oTupOf) dNil)) oTup))))
noncomputable def F__law_under_taken : Fd := runF 0 ["brine", "water", "fallen", "some", "taken", "left"] den__law_under_taken
theorem hF__law_under_taken : ∀ ds M r M', ds.length = 2 → F__law_under_taken ds M = some (r, M') → M.length ≤ M'.length ∧ ∃ o M2, den__law_under_taken (startD ["brine", "water", "fallen", "some", "taken", "left"] ds) M = some (o, M2) ∧ Exit o M2 r M' := runF_ok
theorem hX__law_under_taken : ∀ ds M C M', F__law_under_taken ds M ≠ some (.exc C, M') := runF_nx
noncomputable def den__law_over_taken : Sv :=
  (sSeq (sAsg (bnd (dCons (dVar 0) dNil) (oCall 1 F__law_drawn)) (gTp 2 (gCn (gNm 2) (gCn (gNm 3) gNl))))
  (sSeq (sAsg (bnd (dCons (bnd (dVar 3) oRv) (dCons (dVar 1) dNil)) (oCall 2 F__law_taken)) (gLs 2 (gCn (gNm 4) (gCn (gNm 5) gNl))))
  (sRet (bnd (dCons (bnd (dCons (bnd (dVar 4) oRv) dNil) oTupOf) (dCons (bnd (dCons (bnd (dVar 2) fun d => bnd (bnd (dVar 5) oRv) fun e => oAdd d e) dNil) oTupOf) dNil)) oTup))))
noncomputable def F__law_over_taken : Fd := runF 0 ["brine", "water", "fallen", "some", "taken", "left"] den__law_over_taken
theorem hF__law_over_taken : ∀ ds M r M', ds.length = 2 → F__law_over_taken ds M = some (r, M') → M.length ≤ M'.length ∧ ∃ o M2, den__law_over_taken (startD ["brine", "water", "fallen", "some", "taken", "left"] ds) M = some (o, M2) ∧ Exit o M2 r M' := runF_ok
theorem hX__law_over_taken : ∀ ds M C M', F__law_over_taken ds M ≠ some (.exc C, M') := runF_nx
noncomputable def den_skimmed : Sv :=
  (sSeq (sExpr (bnd (dCons (dVar 0) (dCons (dVar 1) dNil)) (oCall 2 F_check_there)))
  (sSeq (sAsg (bnd (dCons (bnd (bnd (dCons (dVar 0) dNil) (oCall 1 F_dissolved_of)) oRv) (dCons (dVar 1) dNil)) (oCall 2 F_parted)) (gTp 2 (gCn (gNm 2) (gCn (gNm 3) gNl))))
  (sRet (bnd (dCons (bnd (dVar 2) oRv) (dCons (bnd (bnd (dCons (dVar 0) dNil) (oCall 1 F_fallen_layers)) fun d => bnd (bnd (dVar 3) oRv) fun e => oAdd d e) dNil)) oTup))))
noncomputable def F_skimmed : Fd := runX ["brine", "water", "taken", "left"] den_skimmed
theorem hF_skimmed : ∀ ds M r M', ds.length = 2 → F_skimmed ds M = some (r, M') → M.length ≤ M'.length ∧ ∃ o M2, den_skimmed (startD ["brine", "water", "taken", "left"] ds) M = some (o, M2) ∧ Exit o M2 r M' := runX_ok
def tx_NoStrength : Str → Option Bool := fun x => if x = "NoWater" then some false else none
def tx_NoBrine : Str → Option Bool := fun x => if x = "NoWater" then some false else none
def tx_NoFraction : Str → Option Bool := fun x => if x = "NoWater" then some false else none
def tx_NoYear : Str → Option Bool := fun x => if x = "NoWater" then some false else none
def tx_NoMoment : Str → Option Bool := fun x => if x = "NoWater" then some false else none
def tx_NoWater : Str → Option Bool := fun x => if x = "NoWater" then some true else none
def tx_Weaker : Str → Option Bool := fun x => if x = "NoWater" then some false else none
def tx_NoRoom : Str → Option Bool := fun x => if x = "NoWater" then some false else none
def tx_NoPan : Str → Option Bool := fun x => if x = "NoWater" then some false else none
def tx_NoLot : Str → Option Bool := fun x => if x = "NoWater" then some false else none
def tx_NoGate : Str → Option Bool := fun x => if x = "NoWater" then some false else none
def tx_NoDeed : Str → Option Bool := fun x => if x = "NoWater" then some false else none
def tx_NoLater : Str → Option Bool := fun x => if x = "NoWater" then some false else none
def tx_NoLine : Str → Option Bool := fun x => if x = "NoWater" then some false else none
def tx_NoPlan : Str → Option Bool := fun x => if x = "NoWater" then some false else none
def tx_NoText : Str → Option Bool := fun x => if x = "NoWater" then some false else none
def tx_ValueError : Str → Option Bool := fun x => if x = "NoWater" then some true else none
def mt_BrineError : Str → Option Bool := fun x => if x = "NoWater" then some true else none
noncomputable def den__law_word : Sv :=
  (sSeq (sAsg (bnd (dCons (bnd (dVar 0) (oIsi (fun _ => none) tx_NoFraction)) (dCons (bnd (dVar 0) (oIsi (fun _ => none) tx_NoBrine)) (dCons (bnd (dVar 0) (oIsi (fun _ => none) tx_NoStrength)) dNil))) oLst) (gNm 1))
  (sSeq (sAsg (bnd (dVar 1) fun d => bnd (bnd (dCons (bnd (dVar 0) (oIsi (fun _ => none) tx_NoWater)) (dCons (bnd (dVar 0) (oIsi (fun _ => none) tx_NoMoment)) (dCons (bnd (dVar 0) (oIsi (fun _ => none) tx_NoYear)) dNil))) oLst) fun e => oAdd d e) (gNm 1))
  (sSeq (sAsg (bnd (dVar 1) fun d => bnd (bnd (dCons (bnd (dVar 0) (oIsi (fun _ => none) tx_NoPan)) (dCons (bnd (dVar 0) (oIsi (fun _ => none) tx_NoRoom)) (dCons (bnd (dVar 0) (oIsi (fun _ => none) tx_Weaker)) dNil))) oLst) fun e => oAdd d e) (gNm 1))
  (sSeq (sAsg (bnd (dVar 1) fun d => bnd (bnd (dCons (bnd (dVar 0) (oIsi (fun _ => none) tx_NoDeed)) (dCons (bnd (dVar 0) (oIsi (fun _ => none) tx_NoGate)) (dCons (bnd (dVar 0) (oIsi (fun _ => none) tx_NoLot)) dNil))) oLst) fun e => oAdd d e) (gNm 1))
  (sSeq (sAsg (bnd (dVar 1) fun d => bnd (bnd (dCons (bnd (dVar 0) (oIsi (fun _ => none) tx_NoPlan)) (dCons (bnd (dVar 0) (oIsi (fun _ => none) tx_NoLine)) (dCons (bnd (dVar 0) (oIsi (fun _ => none) tx_NoLater)) dNil))) oLst) fun e => oAdd d e) (gNm 1))
  (sSeq (sAsg (bnd (dVar 1) fun d => bnd (bnd (dCons (bnd (dVar 0) (oIsi (fun _ => none) tx_NoText)) dNil) oLst) fun e => oAdd d e) (gNm 1))
  (sSeq (sAsg (bnd (dCons (ret (.str (Str.ofString "fraction"))) (dCons (ret (.str (Str.ofString "brine"))) (dCons (ret (.str (Str.ofString "strength"))) (dCons (ret (.str (Str.ofString "water"))) (dCons (ret (.str (Str.ofString "moment"))) (dCons (ret (.str (Str.ofString "year"))) (dCons (ret (.str (Str.ofString "pan"))) (dCons (ret (.str (Str.ofString "room"))) (dCons (ret (.str (Str.ofString "weaker"))) (dCons (ret (.str (Str.ofString "deed"))) (dCons (ret (.str (Str.ofString "gate"))) dNil))))))))))) oLst) (gNm 2))
  (sSeq (sAsg (bnd (dVar 2) fun d => bnd (bnd (dCons (ret (.str (Str.ofString "lot"))) (dCons (ret (.str (Str.ofString "plan"))) (dCons (ret (.str (Str.ofString "line"))) (dCons (ret (.str (Str.ofString "later"))) (dCons (ret (.str (Str.ofString "text"))) dNil))))) oLst) fun e => oAdd d e) (gNm 2))
  (sSeq (sIf (dOr (bnd (bnd (bnd (dVar 1) fun d => bnd (oItL d) fun _ => bnd (dCons (ret (.bl true)) dNil) fun es => oCntB d es) fun d => bnd (ret (.int 1)) fun e => oNe d e) asB) (dNot (bnd (bnd (dVar 0) (oIsi (fun _ => none) tx_ValueError)) asB))) (sRet (bnd (dCons (ret (.str (Str.ofString "odd"))) dNil) oLst)) sNext)
  (sRet (bnd (dCons (bnd (dVar 2) fun d => bnd (bnd (dVar 1) fun d => bnd (oItL d) fun _ => bnd (dCons (ret (.bl true)) dNil) fun es => oIdxB d es) fun e => oIx d e) dNil) oLst)))))))))))
noncomputable def F__law_word : Fd := runF 0 ["caught", "some", "words"] den__law_word
theorem hF__law_word : ∀ ds M r M', ds.length = 1 → F__law_word ds M = some (r, M') → M.length ≤ M'.length ∧ ∃ o M2, den__law_word (startD ["caught", "some", "words"] ds) M = some (o, M2) ∧ Exit o M2 r M' := runF_ok
theorem hX__law_word : ∀ ds M C M', F__law_word ds M ≠ some (.exc C, M') := runF_nx
noncomputable def den__law_told : Sv :=
  (sSeq (sTryS mt_BrineError 3 (sAsg (dIf (bnd (bnd (dVar 0) fun d => bnd (ret (.int 0)) fun e => oEq d e) asB) (bnd (dCons (dVar 1) (dCons (dVar 2) dNil)) (oCall 2 F_drawn)) (bnd (dCons (dVar 1) (dCons (dVar 2) dNil)) (oCall 2 F_skimmed))) (gNm 4)) (sRet (bnd (dCons (dVar 3) dNil) (oCall 1 F__law_word))))
  (sRet (bnd (dCons (dVar 4) dNil) oLst)))
noncomputable def F__law_told : Fd := runF 0 ["which", "brine", "water", "e", "found"] den__law_told
theorem hF__law_told : ∀ ds M r M', ds.length = 3 → F__law_told ds M = some (r, M') → M.length ≤ M'.length ∧ ∃ o M2, den__law_told (startD ["which", "brine", "water", "e", "found"] ds) M = some (o, M2) ∧ Exit o M2 r M' := runF_ok
theorem hX__law_told : ∀ ds M C M', F__law_told ds M ≠ some (.exc C, M') := runF_nx
noncomputable def den_law_L1 : Sv :=
  (sIf (bnd (bnd (bnd (dCons (bnd (dCons (dVar 16) (dCons (dVar 6) (dCons (dVar 14) dNil))) (oCall 3 F__law_told)) dNil) oReprD) fun d => bnd (bnd (dCons (bnd (dVar 15) fun d => bnd (dVar 16) fun e => oIx d e) dNil) oReprD) fun e => oNeS d e) asB) (sRet (ret (.bl false))) sNext)
noncomputable def den_law_L2 : Sv :=
  (sSeq (sAsg (bnd (dCons (dVar 5) (dCons (dVar 13) (dCons (dVar 12) dNil))) (oCall 3 F__law_amount)) (gNm 14))
  (sSeq (sAsg (bnd (dCons (bnd (dCons (bnd (dCons (dVar 6) (dCons (dVar 14) dNil)) (oCall 2 F__law_under_taken)) dNil) oLst) (dCons (bnd (dCons (bnd (dCons (dVar 6) (dCons (dVar 14) dNil)) (oCall 2 F__law_over_taken)) dNil) oLst) dNil)) oLst) (gNm 15))
  (sFor (bnd (bnd (dCons (ret (.int 0)) (dCons (ret (.int 1)) (dCons (ret (.int 0)) (dCons (ret (.int 1)) dNil)))) oLst) oItL) (gNm 16) den_law_L1)))
noncomputable def den_law_L3 : Sv :=
  (sIf (dOr (bnd (bnd (bnd (dCons (ret (.int 0)) (dCons (dVar 6) (dCons (dVar 10) dNil))) (oCall 3 F__law_told)) fun d => bnd (bnd (dCons (ret (.str (Str.ofString "water"))) dNil) oLst) fun e => oNe d e) asB) (bnd (bnd (bnd (dCons (ret (.int 1)) (dCons (dVar 6) (dCons (dVar 10) dNil))) (oCall 3 F__law_told)) fun d => bnd (bnd (dCons (ret (.str (Str.ofString "water"))) dNil) oLst) fun e => oNe d e) asB)) (sRet (ret (.bl false))) sNext)
noncomputable def den_law_L4 : Sv :=
  (sSeq (sAsg (bnd (dCons (dVar 4) (dCons (dVar 3) dNil)) (oCall 2 F__law_pot)) (gNm 5))
  (sSeq (sAsg (bnd (dCons (dVar 5) (dCons (bnd (dVar 3) fun d => bnd (ret (.int 1)) fun e => oEq d e) dNil)) (oCall 2 F__law_case)) (gTp 3 (gCn (gNm 11) (gCn (gNm 12) (gCn (gNm 13) gNl)))))
  (sSeq (sAsg (bnd (dCons (dVar 13) (dCons (dVar 12) dNil)) (oCall 2 F__law_brine)) (gNm 6))
  (sSeq (sFor (bnd (dCons (ret (.int 3)) dNil) oRng1) (gNm 7) den_law_L2)
  (sSeq (sAsg (bnd (dCons (bnd (bnd (dVar 13) oItS) (oLc (gTp 2 (gCn (gNm 14) (gCn (gNm 17) gNl))) (ret true) (dVar 14) [14, 17])) dNil) oSum) (gNm 8))
  (sSeq (sAsg (bnd (dCons (bnd (dCons (ret (.int 1)) (dCons (ret (.int 1000)) dNil)) oTup) (dCons (bnd (dCons (ret (.int 1)) (dCons (ret (.int 997)) dNil)) oTup) dNil)) (oCall 2 F_times)) (gNm 9))
  (sSeq (sAsg (bnd (dCons (bnd (dCons (bnd (ret (.int 1)) oNeg) (dCons (dVar 12) dNil)) oTup) (dCons (bnd (dCons (bnd (dVar 8) fun d => bnd (ret (.int 1)) fun e => oAdd d e) (dCons (dVar 12) dNil)) (oCall 2 F__law_low)) (dCons (bnd (dCons (bnd (ret (.int 10)) fun d => bnd (ret (.int 6)) fun e => oPow d e) (dCons (ret (.int 1)) dNil)) oTup) (dCons (bnd (dCons (bnd (ret (.int 0)) fun d => bnd (bnd (ret (.int 10)) fun d => bnd (ret (.int 6)) fun e => oPow d e) fun e => oSub d e) (dCons (ret (.int 1)) dNil)) oTup) dNil)))) oLst) (gNm 1))
  (sFor (bnd (bnd (dVar 1) fun d => bnd (bnd (dCons (bnd (dCons (bnd (dCons (ret (.int 0)) (dCons (ret (.int 1)) dNil)) oTup) (dCons (dVar 9) dNil)) (oCall 2 F_less)) (dCons (bnd (dCons (bnd (dCons (dVar 6) dNil) (oCall 1 F_water_of)) (dCons (dVar 9) dNil)) (oCall 2 F_plus)) dNil)) oLst) fun e => oAdd d e) oItS) (gNm 10) den_law_L3))))))))
noncomputable def den_law : Sv :=
  (sSeq (sFor (bnd (dCons (bnd (bnd (dCons (ret (.int 0)) dNil) oLst) fun d => bnd (bnd (dCons (dVar 0) (dCons (ret (.int 14)) dNil)) (oCall 2 F__law_folded)) fun e => oAddL d e) dNil) oEnum) (gTp 2 (gCn (gNm 3) (gCn (gNm 4) gNl))) den_law_L4)
  (sSeq (sAsg (bnd (dCons (bnd (dCons (bnd (dCons (ret (.int 0)) (dCons (ret (.int 1)) dNil)) oTup) (dCons (bnd (dCons (ret (.int 5)) (dCons (ret (.int 1)) dNil)) oTup) dNil)) oTup) (dCons (bnd (dCons (bnd (dCons (ret (.int 2)) (dCons (ret (.int 1)) dNil)) oTup) (dCons (bnd (dCons (ret (.int 2)) (dCons (ret (.int 1)) dNil)) oTup) dNil)) oTup) (dCons (bnd (dCons (bnd (dCons (ret (.int 1)) (dCons (ret (.int 1)) dNil)) oTup) (dCons (bnd (dCons (ret (.int 0)) (dCons (ret (.int 1)) dNil)) oTup) dNil)) oTup) dNil))) oTup) (gNm 1))
  (sSeq (sAsg (bnd (dCons (bnd (dCons (bnd (dCons (ret (.int 0)) (dCons (ret (.int 1)) dNil)) oTup) (dCons (bnd (dCons (ret (.int 5)) (dCons (ret (.int 1)) dNil)) oTup) dNil)) oTup) (dCons (bnd (dCons (bnd (dCons (ret (.int 1)) (dCons (ret (.int 2)) dNil)) oTup) (dCons (bnd (dCons (ret (.int 0)) (dCons (ret (.int 1)) dNil)) oTup) dNil)) oTup) dNil)) oTup) (gNm 2))
  (sRet (bnd (bnd (dCons (dVar 1) (dCons (bnd (dCons (ret (.int 5)) (dCons (ret (.int 2)) dNil)) oTup) dNil)) (oCall 2 F_drawn)) fun d => bnd (bnd (dCons (bnd (dCons (bnd (dCons (bnd (dCons (ret (.int 2)) (dCons (ret (.int 1)) dNil)) oTup) (dCons (bnd (dCons (ret (.int 2)) (dCons (ret (.int 1)) dNil)) oTup) dNil)) oTup) (dCons (bnd (dCons (bnd (dCons (ret (.int 1)) (dCons (ret (.int 2)) dNil)) oTup) (dCons (bnd (dCons (ret (.int 0)) (dCons (ret (.int 1)) dNil)) oTup) dNil)) oTup) dNil)) oTup) (dCons (dVar 2) dNil)) oTup) fun e => oEq d e)))))
noncomputable def F_law : Fd := runF 0 ["script", "some", "left", "place", "cell", "pot", "brine", "turn", "total", "near", "odd", "full", "unit", "parts", "water", "due", "which", "salt"] den_law
theorem hF_law : ∀ ds M r M', ds.length = 1 → F_law ds M = some (r, M') → M.length ≤ M'.length ∧ ∃ o M2, den_law (startD ["script", "some", "left", "place", "cell", "pot", "brine", "turn", "total", "near", "odd", "full", "unit", "parts", "water", "due", "which", "salt"] ds) M = some (o, M2) ∧ Exit o M2 r M' := runF_ok
theorem hX_law : ∀ ds M C M', F_law ds M ≠ some (.exc C, M') := runF_nx
def topS (i : Nat) : Stmt := PySem.Challenge.pw_brineways_k17_drawn_and_skimmed.main.body.getD i (.Pass ⟨0, 0, 0, 0⟩)
abbrev s__law_pot : Stmt := topS 40
abbrev N__law_pot : List Str := ["cell", "place", "primes", "prime"]
theorem S__law_pot : FnScope N__law_pot ["cell", "place"] (defScope s__law_pot) := ⟨rfl, rfl, rfl, by decide +kernel, rfl, by decide +kernel, by decide +kernel⟩
abbrev s__law_take : Stmt := topS 41
abbrev N__law_take : List Str := ["pot", "many", "digit"]
theorem S__law_take : FnScope N__law_take ["pot", "many"] (defScope s__law_take) := ⟨rfl, rfl, rfl, by decide +kernel, rfl, by decide +kernel, by decide +kernel⟩
abbrev s__law_full : Stmt := topS 49
abbrev N__law_full : List Str := ["pot", "some"]
theorem S__law_full : FnScope N__law_full ["pot"] (defScope s__law_full) := ⟨rfl, rfl, rfl, by decide +kernel, rfl, by decide +kernel, by decide +kernel⟩
abbrev s__law_unit : Stmt := topS 53
abbrev N__law_unit : List Str := ["pot"]
theorem S__law_unit : FnScope N__law_unit ["pot"] (defScope s__law_unit) := ⟨rfl, rfl, rfl, by decide +kernel, rfl, by decide +kernel, by decide +kernel⟩
abbrev s__law_laid : Stmt := topS 51
abbrev N__law_laid : List Str := ["layers", "found", "water", "salt", "at"]
theorem S__law_laid : FnScope N__law_laid ["layers"] (defScope s__law_laid) := ⟨rfl, rfl, rfl, by decide +kernel, rfl, by decide +kernel, by decide +kernel⟩
abbrev s__law_long : Stmt := topS 54
abbrev N__law_long : List Str := ["pot", "few", "full", "layers", "k", "water"]
theorem S__law_long : FnScope N__law_long ["pot", "few"] (defScope s__law_long) := ⟨rfl, rfl, rfl, by decide +kernel, rfl, by decide +kernel, by decide +kernel⟩
abbrev s__law_layer : Stmt := topS 50
abbrev N__law_layer : List Str := ["pot", "full", "found", "size", "kind", "water", "salt", "many"]
theorem S__law_layer : FnScope N__law_layer ["pot", "full", "found", "size"] (defScope s__law_layer) := ⟨rfl, rfl, rfl, by decide +kernel, rfl, by decide +kernel, by decide +kernel⟩
abbrev s__law_parts : Stmt := topS 52
abbrev N__law_parts : List Str := ["pot", "full", "most", "size", "found", "k"]
theorem S__law_parts : FnScope N__law_parts ["pot", "full", "most"] (defScope s__law_parts) := ⟨rfl, rfl, rfl, by decide +kernel, rfl, by decide +kernel, by decide +kernel⟩
abbrev s__law_case : Stmt := topS 55
abbrev N__law_case : List Str := ["pot", "far", "full", "unit", "parts"]
theorem S__law_case : FnScope N__law_case ["pot", "far"] (defScope s__law_case) := ⟨rfl, rfl, rfl, by decide +kernel, rfl, by decide +kernel, by decide +kernel⟩
abbrev s__law_low : Stmt := topS 43
abbrev N__law_low : List Str := ["a", "b", "one", "other"]
theorem S__law_low : FnScope N__law_low ["a", "b"] (defScope s__law_low) := ⟨rfl, rfl, rfl, by decide +kernel, rfl, by decide +kernel, by decide +kernel⟩
abbrev s__law_brine : Stmt := topS 56
abbrev N__law_brine : List Str := ["parts", "unit", "water", "salt"]
theorem S__law_brine : FnScope N__law_brine ["parts", "unit"] (defScope s__law_brine) := ⟨rfl, rfl, rfl, by decide +kernel, rfl, by decide +kernel, by decide +kernel⟩
abbrev s_common : Stmt := topS 20
abbrev N_common : List Str := ["a", "b"]
theorem S_common : FnScope N_common ["a", "b"] (defScope s_common) := ⟨rfl, rfl, rfl, by decide +kernel, rfl, by decide +kernel, by decide +kernel⟩
abbrev s_times : Stmt := topS 23
abbrev N_times : List Str := ["one", "other", "left", "right", "a", "b", "c", "d"]
theorem S_times : FnScope N_times ["one", "other"] (defScope s_times) := ⟨rfl, rfl, rfl, by decide +kernel, rfl, by decide +kernel, by decide +kernel⟩
abbrev s_is_less : Stmt := topS 25
abbrev N_is_less : List Str := ["one", "other", "a", "b", "c", "d"]
theorem S_is_less : FnScope N_is_less ["one", "other"] (defScope s_is_less) := ⟨rfl, rfl, rfl, by decide +kernel, rfl, by decide +kernel, by decide +kernel⟩
abbrev s_plus : Stmt := topS 21
abbrev N_plus : List Str := ["one", "other", "shared", "top", "again", "a", "b", "c", "d"]
theorem S_plus : FnScope N_plus ["one", "other"] (defScope s_plus) := ⟨rfl, rfl, rfl, by decide +kernel, rfl, by decide +kernel, by decide +kernel⟩
abbrev s_summed : Stmt := topS 27
abbrev N_summed : List Str := ["some", "total", "one"]
theorem S_summed : FnScope N_summed ["some"] (defScope s_summed) := ⟨rfl, rfl, rfl, by decide +kernel, rfl, by decide +kernel, by decide +kernel⟩
abbrev s_water_of : Stmt := topS 29
abbrev N_water_of : List Str := ["brine", "water", "salt"]
theorem S_water_of : FnScope N_water_of ["brine"] (defScope s_water_of) := ⟨rfl, rfl, rfl, by decide +kernel, rfl, by decide +kernel, by decide +kernel⟩
abbrev s_is_there : Stmt := topS 32
abbrev N_is_there : List Str := ["brine", "water"]
theorem S_is_there : FnScope N_is_there ["brine", "water"] (defScope s_is_there) := ⟨rfl, rfl, rfl, by decide +kernel, rfl, by decide +kernel, by decide +kernel⟩
abbrev s_check_there : Stmt := topS 33
abbrev N_check_there : List Str := ["brine", "water"]
theorem S_check_there : FnScope N_check_there ["brine", "water"] (defScope s_check_there) := ⟨rfl, rfl, rfl, by decide +kernel, rfl, by decide +kernel, by decide +kernel⟩
abbrev s_least : Stmt := topS 26
abbrev N_least : List Str := ["some", "best", "one"]
theorem S_least : FnScope N_least ["some"] (defScope s_least) := ⟨rfl, rfl, rfl, by decide +kernel, rfl, by decide +kernel, by decide +kernel⟩
abbrev s_less : Stmt := topS 22
abbrev N_less : List Str := ["one", "other", "c", "d"]
theorem S_less : FnScope N_less ["one", "other"] (defScope s_less) := ⟨rfl, rfl, rfl, by decide +kernel, rfl, by decide +kernel, by decide +kernel⟩
abbrev s_over : Stmt := topS 24
abbrev N_over : List Str := ["one", "other", "c", "d"]
theorem S_over : FnScope N_over ["one", "other"] (defScope s_over) := ⟨rfl, rfl, rfl, by decide +kernel, rfl, by decide +kernel, by decide +kernel⟩
abbrev s_portion : Stmt := topS 34
abbrev N_portion : List Str := ["layer", "water"]
theorem S_portion : FnScope N_portion ["layer", "water"] (defScope s_portion) := ⟨rfl, rfl, rfl, by decide +kernel, rfl, by decide +kernel, by decide +kernel⟩
abbrev s_parted : Stmt := topS 35
abbrev N_parted : List Str := ["layers", "water", "taken", "left", "layer", "part", "rest"]
theorem S_parted : FnScope N_parted ["layers", "water"] (defScope s_parted) := ⟨rfl, rfl, rfl, by decide +kernel, rfl, by decide +kernel, by decide +kernel⟩
abbrev s_dissolved_of : Stmt := topS 30
abbrev N_dissolved_of : List Str := ["brine", "layer"]
theorem S_dissolved_of : FnScope N_dissolved_of ["brine"] (defScope s_dissolved_of) := ⟨rfl, rfl, rfl, by decide +kernel, rfl, by decide +kernel, by decide +kernel⟩
abbrev s_fallen_layers : Stmt := topS 36
abbrev N_fallen_layers : List Str := ["brine", "layer"]
theorem S_fallen_layers : FnScope N_fallen_layers ["brine"] (defScope s_fallen_layers) := ⟨rfl, rfl, rfl, by decide +kernel, rfl, by decide +kernel, by decide +kernel⟩
abbrev s_drawn : Stmt := topS 37
abbrev N_drawn : List Str := ["brine", "water", "taken", "left"]
theorem S_drawn : FnScope N_drawn ["brine", "water"] (defScope s_drawn) := ⟨rfl, rfl, rfl, by decide +kernel, rfl, by decide +kernel, by decide +kernel⟩
abbrev s__law_folded : Stmt := topS 42
abbrev N__law_folded : List Str := ["script", "most", "found", "at", "cell"]
theorem S__law_folded : FnScope N__law_folded ["script", "most"] (defScope s__law_folded) := ⟨rfl, rfl, rfl, by decide +kernel, rfl, by decide +kernel, by decide +kernel⟩
abbrev s__law_amount : Stmt := topS 57
abbrev N__law_amount : List Str := ["pot", "parts", "unit", "total", "way", "at", "some", "water", "salt"]
theorem S__law_amount : FnScope N__law_amount ["pot", "parts", "unit"] (defScope s__law_amount) := ⟨rfl, rfl, rfl, by decide +kernel, rfl, by decide +kernel, by decide +kernel⟩
abbrev s__law_drawn : Stmt := topS 59
abbrev N__law_drawn : List Str := ["brine", "layer"]
theorem S__law_drawn : FnScope N__law_drawn ["brine"] (defScope s__law_drawn) := ⟨rfl, rfl, rfl, by decide +kernel, rfl, by decide +kernel, by decide +kernel⟩
abbrev s__law_under : Stmt := topS 48
abbrev N__law_under : List Str := ["one", "other"]
theorem S__law_under : FnScope N__law_under ["one", "other"] (defScope s__law_under) := ⟨rfl, rfl, rfl, by decide +kernel, rfl, by decide +kernel, by decide +kernel⟩
abbrev s__law_less : Stmt := topS 45
abbrev N__law_less : List Str := ["one", "other"]
theorem S__law_less : FnScope N__law_less ["one", "other"] (defScope s__law_less) := ⟨rfl, rfl, rfl, by decide +kernel, rfl, by decide +kernel, by decide +kernel⟩
abbrev s__law_by : Stmt := topS 47
abbrev N__law_by : List Str := ["one", "other"]
theorem S__law_by : FnScope N__law_by ["one", "other"] (defScope s__law_by) := ⟨rfl, rfl, rfl, by decide +kernel, rfl, by decide +kernel, by decide +kernel⟩
abbrev s__law_times : Stmt := topS 46
abbrev N__law_times : List Str := ["one", "other"]
theorem S__law_times : FnScope N__law_times ["one", "other"] (defScope s__law_times) := ⟨rfl, rfl, rfl, by decide +kernel, rfl, by decide +kernel, by decide +kernel⟩
abbrev s__law_taken : Stmt := topS 58
abbrev N__law_taken : List Str := ["layers", "water", "taken", "left", "one", "salt", "part", "went", "some", "layer"]
theorem S__law_taken : FnScope N__law_taken ["layers", "water"] (defScope s__law_taken) := ⟨rfl, rfl, rfl, by decide +kernel, rfl, by decide +kernel, by decide +kernel⟩
abbrev s__law_under_taken : Stmt := topS 60
abbrev N__law_under_taken : List Str := ["brine", "water", "fallen", "some", "taken", "left"]
theorem S__law_under_taken : FnScope N__law_under_taken ["brine", "water"] (defScope s__law_under_taken) := ⟨rfl, rfl, rfl, by decide +kernel, rfl, by decide +kernel, by decide +kernel⟩
abbrev s__law_over_taken : Stmt := topS 61
abbrev N__law_over_taken : List Str := ["brine", "water", "fallen", "some", "taken", "left"]
theorem S__law_over_taken : FnScope N__law_over_taken ["brine", "water"] (defScope s__law_over_taken) := ⟨rfl, rfl, rfl, by decide +kernel, rfl, by decide +kernel, by decide +kernel⟩
abbrev s_skimmed : Stmt := topS 38
abbrev N_skimmed : List Str := ["brine", "water", "taken", "left"]
theorem S_skimmed : FnScope N_skimmed ["brine", "water"] (defScope s_skimmed) := ⟨rfl, rfl, rfl, by decide +kernel, rfl, by decide +kernel, by decide +kernel⟩
abbrev s__law_word : Stmt := topS 62
abbrev N__law_word : List Str := ["caught", "some", "words"]
theorem S__law_word : FnScope N__law_word ["caught"] (defScope s__law_word) := ⟨rfl, rfl, rfl, by decide +kernel, rfl, by decide +kernel, by decide +kernel⟩
abbrev s__law_told : Stmt := topS 63
abbrev N__law_told : List Str := ["which", "brine", "water", "e", "found"]
theorem S__law_told : FnScope N__law_told ["which", "brine", "water"] (defScope s__law_told) := ⟨rfl, rfl, rfl, by decide +kernel, rfl, by decide +kernel, by decide +kernel⟩
abbrev s_law : Stmt := topS 64
abbrev N_law : List Str := ["script", "some", "left", "place", "cell", "pot", "brine", "turn", "total", "near", "odd", "full", "unit", "parts", "water", "due", "which", "salt"]
theorem S_law : FnScope N_law ["script"] (defScope s_law) := ⟨rfl, rfl, rfl, by decide +kernel, rfl, by decide +kernel, by decide +kernel⟩
set_option maxHeartbeats 0 in
structure Top (K : PySem.W.Frag) (mg : Str → Option Value) where
  a__law_pot : Addr
  fd__law_pot : FuncData
  F__law_pot : Fun K "_law_pot" "_law_pot" s__law_pot a__law_pot fd__law_pot
  b__law_pot : Binds K fd__law_pot ["cell", "place"] []
  g__law_pot : mg "_law_pot" = some (.ref a__law_pot)
  a__law_take : Addr
  fd__law_take : FuncData
  F__law_take : Fun K "_law_take" "_law_take" s__law_take a__law_take fd__law_take
  b__law_take : Binds K fd__law_take ["pot", "many"] []
  g__law_take : mg "_law_take" = some (.ref a__law_take)
  a__law_full : Addr
  fd__law_full : FuncData
  F__law_full : Fun K "_law_full" "_law_full" s__law_full a__law_full fd__law_full
  b__law_full : Binds K fd__law_full ["pot"] []
  g__law_full : mg "_law_full" = some (.ref a__law_full)
  a__law_unit : Addr
  fd__law_unit : FuncData
  F__law_unit : Fun K "_law_unit" "_law_unit" s__law_unit a__law_unit fd__law_unit
  b__law_unit : Binds K fd__law_unit ["pot"] []
  g__law_unit : mg "_law_unit" = some (.ref a__law_unit)
  a__law_laid : Addr
  fd__law_laid : FuncData
  F__law_laid : Fun K "_law_laid" "_law_laid" s__law_laid a__law_laid fd__law_laid
  b__law_laid : Binds K fd__law_laid ["layers"] []
  g__law_laid : mg "_law_laid" = some (.ref a__law_laid)
  a__law_long : Addr
  fd__law_long : FuncData
  F__law_long : Fun K "_law_long" "_law_long" s__law_long a__law_long fd__law_long
  b__law_long : Binds K fd__law_long ["pot", "few"] []
  g__law_long : mg "_law_long" = some (.ref a__law_long)
  a__law_layer : Addr
  fd__law_layer : FuncData
  F__law_layer : Fun K "_law_layer" "_law_layer" s__law_layer a__law_layer fd__law_layer
  b__law_layer : Binds K fd__law_layer ["pot", "full", "found", "size"] []
  g__law_layer : mg "_law_layer" = some (.ref a__law_layer)
  a__law_parts : Addr
  fd__law_parts : FuncData
  F__law_parts : Fun K "_law_parts" "_law_parts" s__law_parts a__law_parts fd__law_parts
  b__law_parts : Binds K fd__law_parts ["pot", "full", "most"] []
  g__law_parts : mg "_law_parts" = some (.ref a__law_parts)
  a__law_case : Addr
  fd__law_case : FuncData
  F__law_case : Fun K "_law_case" "_law_case" s__law_case a__law_case fd__law_case
  b__law_case : Binds K fd__law_case ["pot", "far"] []
  g__law_case : mg "_law_case" = some (.ref a__law_case)
  a__law_low : Addr
  fd__law_low : FuncData
  F__law_low : Fun K "_law_low" "_law_low" s__law_low a__law_low fd__law_low
  b__law_low : Binds K fd__law_low ["a", "b"] []
  g__law_low : mg "_law_low" = some (.ref a__law_low)
  a__law_brine : Addr
  fd__law_brine : FuncData
  F__law_brine : Fun K "_law_brine" "_law_brine" s__law_brine a__law_brine fd__law_brine
  b__law_brine : Binds K fd__law_brine ["parts", "unit"] []
  g__law_brine : mg "_law_brine" = some (.ref a__law_brine)
  a_common : Addr
  fd_common : FuncData
  F_common : Fun K "common" "common" s_common a_common fd_common
  b_common : Binds K fd_common ["a", "b"] []
  g_common : mg "common" = some (.ref a_common)
  a_times : Addr
  fd_times : FuncData
  F_times : Fun K "times" "times" s_times a_times fd_times
  b_times : Binds K fd_times ["one", "other"] []
  g_times : mg "times" = some (.ref a_times)
  a_is_less : Addr
  fd_is_less : FuncData
  F_is_less : Fun K "is_less" "is_less" s_is_less a_is_less fd_is_less
  b_is_less : Binds K fd_is_less ["one", "other"] []
  g_is_less : mg "is_less" = some (.ref a_is_less)
  a_plus : Addr
  fd_plus : FuncData
  F_plus : Fun K "plus" "plus" s_plus a_plus fd_plus
  b_plus : Binds K fd_plus ["one", "other"] []
  g_plus : mg "plus" = some (.ref a_plus)
  a_summed : Addr
  fd_summed : FuncData
  F_summed : Fun K "summed" "summed" s_summed a_summed fd_summed
  b_summed : Binds K fd_summed ["some"] []
  g_summed : mg "summed" = some (.ref a_summed)
  a_water_of : Addr
  fd_water_of : FuncData
  F_water_of : Fun K "water_of" "water_of" s_water_of a_water_of fd_water_of
  b_water_of : Binds K fd_water_of ["brine"] []
  g_water_of : mg "water_of" = some (.ref a_water_of)
  a_is_there : Addr
  fd_is_there : FuncData
  F_is_there : Fun K "is_there" "is_there" s_is_there a_is_there fd_is_there
  b_is_there : Binds K fd_is_there ["brine", "water"] []
  g_is_there : mg "is_there" = some (.ref a_is_there)
  a_check_there : Addr
  fd_check_there : FuncData
  F_check_there : Fun K "check_there" "check_there" s_check_there a_check_there fd_check_there
  b_check_there : Binds K fd_check_there ["brine", "water"] []
  g_check_there : mg "check_there" = some (.ref a_check_there)
  a_least : Addr
  fd_least : FuncData
  F_least : Fun K "least" "least" s_least a_least fd_least
  b_least : Binds K fd_least ["some"] []
  g_least : mg "least" = some (.ref a_least)
  a_less : Addr
  fd_less : FuncData
  F_less : Fun K "less" "less" s_less a_less fd_less
  b_less : Binds K fd_less ["one", "other"] []
  g_less : mg "less" = some (.ref a_less)
  a_over : Addr
  fd_over : FuncData
  F_over : Fun K "over" "over" s_over a_over fd_over
  b_over : Binds K fd_over ["one", "other"] []
  g_over : mg "over" = some (.ref a_over)
  a_portion : Addr
  fd_portion : FuncData
  F_portion : Fun K "portion" "portion" s_portion a_portion fd_portion
  b_portion : Binds K fd_portion ["layer", "water"] []
  g_portion : mg "portion" = some (.ref a_portion)
  a_parted : Addr
  fd_parted : FuncData
  F_parted : Fun K "parted" "parted" s_parted a_parted fd_parted
  b_parted : Binds K fd_parted ["layers", "water"] []
  g_parted : mg "parted" = some (.ref a_parted)
  a_dissolved_of : Addr
  fd_dissolved_of : FuncData
  F_dissolved_of : Fun K "dissolved_of" "dissolved_of" s_dissolved_of a_dissolved_of fd_dissolved_of
  b_dissolved_of : Binds K fd_dissolved_of ["brine"] []
  g_dissolved_of : mg "dissolved_of" = some (.ref a_dissolved_of)
  a_fallen_layers : Addr
  fd_fallen_layers : FuncData
  F_fallen_layers : Fun K "fallen_layers" "fallen_layers" s_fallen_layers a_fallen_layers fd_fallen_layers
  b_fallen_layers : Binds K fd_fallen_layers ["brine"] []
  g_fallen_layers : mg "fallen_layers" = some (.ref a_fallen_layers)
  a_drawn : Addr
  fd_drawn : FuncData
  F_drawn : Fun K "drawn" "drawn" s_drawn a_drawn fd_drawn
  b_drawn : Binds K fd_drawn ["brine", "water"] []
  g_drawn : mg "drawn" = some (.ref a_drawn)
  a__law_folded : Addr
  fd__law_folded : FuncData
  F__law_folded : Fun K "_law_folded" "_law_folded" s__law_folded a__law_folded fd__law_folded
  b__law_folded : Binds K fd__law_folded ["script", "most"] []
  g__law_folded : mg "_law_folded" = some (.ref a__law_folded)
  a__law_amount : Addr
  fd__law_amount : FuncData
  F__law_amount : Fun K "_law_amount" "_law_amount" s__law_amount a__law_amount fd__law_amount
  b__law_amount : Binds K fd__law_amount ["pot", "parts", "unit"] []
  g__law_amount : mg "_law_amount" = some (.ref a__law_amount)
  a__law_drawn : Addr
  fd__law_drawn : FuncData
  F__law_drawn : Fun K "_law_drawn" "_law_drawn" s__law_drawn a__law_drawn fd__law_drawn
  b__law_drawn : Binds K fd__law_drawn ["brine"] []
  g__law_drawn : mg "_law_drawn" = some (.ref a__law_drawn)
  a__law_under : Addr
  fd__law_under : FuncData
  F__law_under : Fun K "_law_under" "_law_under" s__law_under a__law_under fd__law_under
  b__law_under : Binds K fd__law_under ["one", "other"] []
  g__law_under : mg "_law_under" = some (.ref a__law_under)
  a__law_less : Addr
  fd__law_less : FuncData
  F__law_less : Fun K "_law_less" "_law_less" s__law_less a__law_less fd__law_less
  b__law_less : Binds K fd__law_less ["one", "other"] []
  g__law_less : mg "_law_less" = some (.ref a__law_less)
  a__law_by : Addr
  fd__law_by : FuncData
  F__law_by : Fun K "_law_by" "_law_by" s__law_by a__law_by fd__law_by
  b__law_by : Binds K fd__law_by ["one", "other"] []
  g__law_by : mg "_law_by" = some (.ref a__law_by)
  a__law_times : Addr
  fd__law_times : FuncData
  F__law_times : Fun K "_law_times" "_law_times" s__law_times a__law_times fd__law_times
  b__law_times : Binds K fd__law_times ["one", "other"] []
  g__law_times : mg "_law_times" = some (.ref a__law_times)
  a__law_taken : Addr
  fd__law_taken : FuncData
  F__law_taken : Fun K "_law_taken" "_law_taken" s__law_taken a__law_taken fd__law_taken
  b__law_taken : Binds K fd__law_taken ["layers", "water"] []
  g__law_taken : mg "_law_taken" = some (.ref a__law_taken)
  a__law_under_taken : Addr
  fd__law_under_taken : FuncData
  F__law_under_taken : Fun K "_law_under_taken" "_law_under_taken" s__law_under_taken a__law_under_taken fd__law_under_taken
  b__law_under_taken : Binds K fd__law_under_taken ["brine", "water"] []
  g__law_under_taken : mg "_law_under_taken" = some (.ref a__law_under_taken)
  a__law_over_taken : Addr
  fd__law_over_taken : FuncData
  F__law_over_taken : Fun K "_law_over_taken" "_law_over_taken" s__law_over_taken a__law_over_taken fd__law_over_taken
  b__law_over_taken : Binds K fd__law_over_taken ["brine", "water"] []
  g__law_over_taken : mg "_law_over_taken" = some (.ref a__law_over_taken)
  a_skimmed : Addr
  fd_skimmed : FuncData
  F_skimmed : Fun K "skimmed" "skimmed" s_skimmed a_skimmed fd_skimmed
  b_skimmed : Binds K fd_skimmed ["brine", "water"] []
  g_skimmed : mg "skimmed" = some (.ref a_skimmed)
  a__law_word : Addr
  fd__law_word : FuncData
  F__law_word : Fun K "_law_word" "_law_word" s__law_word a__law_word fd__law_word
  b__law_word : Binds K fd__law_word ["caught"] []
  g__law_word : mg "_law_word" = some (.ref a__law_word)
  a__law_told : Addr
  fd__law_told : FuncData
  F__law_told : Fun K "_law_told" "_law_told" s__law_told a__law_told fd__law_told
  b__law_told : Binds K fd__law_told ["which", "brine", "water"] []
  g__law_told : mg "_law_told" = some (.ref a__law_told)
  a_law : Addr
  fd_law : FuncData
  F_law : Fun K "law" "law" s_law a_law fd_law
  b_law : Binds K fd_law ["script"] []
  g_law : mg "law" = some (.ref a_law)
  z_ValueError : mg "ValueError" = none
  z_abs : mg "abs" = none
  z_enumerate : mg "enumerate" = none
  z_isinstance : mg "isinstance" = none
  z_len : mg "len" = none
  z_list : mg "list" = none
  z_max : mg "max" = none
  z_min : mg "min" = none
  z_range : mg "range" = none
  z_repr : mg "repr" = none
  z_sum : mg "sum" = none
  z_tuple : mg "tuple" = none
  c_NOUGHT : Addr
  g_NOUGHT : mg "NOUGHT" = some (.ref c_NOUGHT)
  r_NOUGHT : ∀ G, Rp K G (.ref c_NOUGHT) C_NOUGHT
  c_NoWater : Addr
  c_NoFraction : Addr
  c_NoStrength : Addr
  c_NoBrine : Addr
  c_NoYear : Addr
  c_NoMoment : Addr
  c_Weaker : Addr
  c_NoRoom : Addr
  c_NoPan : Addr
  c_NoLot : Addr
  c_NoGate : Addr
  c_NoDeed : Addr
  c_NoLater : Addr
  c_NoLine : Addr
  c_NoPlan : Addr
  c_NoText : Addr
  c_BrineError : Addr
  n_NoWater : PySem.W.nsIn K mainGlobals "NoWater" = some (some (.ref c_NoWater))
  g_NoWater : mg "NoWater" = some (.ref c_NoWater)
  n_NoFraction : PySem.W.nsIn K mainGlobals "NoFraction" = some (some (.ref c_NoFraction))
  g_NoFraction : mg "NoFraction" = some (.ref c_NoFraction)
  n_NoStrength : PySem.W.nsIn K mainGlobals "NoStrength" = some (some (.ref c_NoStrength))
  g_NoStrength : mg "NoStrength" = some (.ref c_NoStrength)
  n_NoBrine : PySem.W.nsIn K mainGlobals "NoBrine" = some (some (.ref c_NoBrine))
  g_NoBrine : mg "NoBrine" = some (.ref c_NoBrine)
  n_NoYear : PySem.W.nsIn K mainGlobals "NoYear" = some (some (.ref c_NoYear))
  g_NoYear : mg "NoYear" = some (.ref c_NoYear)
  n_NoMoment : PySem.W.nsIn K mainGlobals "NoMoment" = some (some (.ref c_NoMoment))
  g_NoMoment : mg "NoMoment" = some (.ref c_NoMoment)
  n_Weaker : PySem.W.nsIn K mainGlobals "Weaker" = some (some (.ref c_Weaker))
  g_Weaker : mg "Weaker" = some (.ref c_Weaker)
  n_NoRoom : PySem.W.nsIn K mainGlobals "NoRoom" = some (some (.ref c_NoRoom))
  g_NoRoom : mg "NoRoom" = some (.ref c_NoRoom)
  n_NoPan : PySem.W.nsIn K mainGlobals "NoPan" = some (some (.ref c_NoPan))
  g_NoPan : mg "NoPan" = some (.ref c_NoPan)
  n_NoLot : PySem.W.nsIn K mainGlobals "NoLot" = some (some (.ref c_NoLot))
  g_NoLot : mg "NoLot" = some (.ref c_NoLot)
  n_NoGate : PySem.W.nsIn K mainGlobals "NoGate" = some (some (.ref c_NoGate))
  g_NoGate : mg "NoGate" = some (.ref c_NoGate)
  n_NoDeed : PySem.W.nsIn K mainGlobals "NoDeed" = some (some (.ref c_NoDeed))
  g_NoDeed : mg "NoDeed" = some (.ref c_NoDeed)
  n_NoLater : PySem.W.nsIn K mainGlobals "NoLater" = some (some (.ref c_NoLater))
  g_NoLater : mg "NoLater" = some (.ref c_NoLater)
  n_NoLine : PySem.W.nsIn K mainGlobals "NoLine" = some (some (.ref c_NoLine))
  g_NoLine : mg "NoLine" = some (.ref c_NoLine)
  n_NoPlan : PySem.W.nsIn K mainGlobals "NoPlan" = some (some (.ref c_NoPlan))
  g_NoPlan : mg "NoPlan" = some (.ref c_NoPlan)
  n_NoText : PySem.W.nsIn K mainGlobals "NoText" = some (some (.ref c_NoText))
  g_NoText : mg "NoText" = some (.ref c_NoText)
  n_BrineError : PySem.W.nsIn K mainGlobals "BrineError" = some (some (.ref c_BrineError))
  g_BrineError : mg "BrineError" = some (.ref c_BrineError)
  x_NoWater : ExcC K c_NoWater
  hd_NoWater : PySem.W.hasDictIn K c_NoWater = true
  b_BrineError : PySem.W.subIn K (.ref c_BrineError) (.type "BaseException") = some true
  t_BrineError : PySem.W.typeIn K (.ref c_BrineError) = some (.type "type")
  b_NoFraction : PySem.W.subIn K (.ref c_NoFraction) (.type "BaseException") = some true
  t_NoFraction : PySem.W.typeIn K (.ref c_NoFraction) = some (.type "type")
  b_NoWater : PySem.W.subIn K (.ref c_NoWater) (.type "BaseException") = some true
  t_NoWater : PySem.W.typeIn K (.ref c_NoWater) = some (.type "type")
  q_NoWater : PySem.W.excIn K c_NoWater [.type "ValueError", .type "Exception", .type "BaseException", .type "object"] "ValueError.__new__" = true
  k_NoWater : PySem.W.keepIn K (.ref c_NoWater) = true
  q_NoFraction : PySem.W.excIn K c_NoFraction [.type "ValueError", .type "Exception", .type "BaseException", .type "object"] "ValueError.__new__" = true
  k_NoFraction : PySem.W.keepIn K (.ref c_NoFraction) = true
  hd_BrineError : PySem.W.hasDictIn K c_BrineError = true
  s_NoWater_BrineError : PySem.W.subIn K (.ref c_NoWater) (.ref c_BrineError) = some true
  s_NoWater_NoWater : PySem.W.subIn K (.ref c_NoWater) (.ref c_NoWater) = some true
  hd_NoStrength : PySem.W.hasDictIn K c_NoStrength = true
  t_NoStrength : PySem.W.typeIn K (.ref c_NoStrength) = some (.type "type")
  s_NoWater_NoStrength : PySem.W.subIn K (.ref c_NoWater) (.ref c_NoStrength) = some false
  hd_NoBrine : PySem.W.hasDictIn K c_NoBrine = true
  t_NoBrine : PySem.W.typeIn K (.ref c_NoBrine) = some (.type "type")
  s_NoWater_NoBrine : PySem.W.subIn K (.ref c_NoWater) (.ref c_NoBrine) = some false
  hd_NoFraction : PySem.W.hasDictIn K c_NoFraction = true
  s_NoWater_NoFraction : PySem.W.subIn K (.ref c_NoWater) (.ref c_NoFraction) = some false
  hd_NoYear : PySem.W.hasDictIn K c_NoYear = true
  t_NoYear : PySem.W.typeIn K (.ref c_NoYear) = some (.type "type")
  s_NoWater_NoYear : PySem.W.subIn K (.ref c_NoWater) (.ref c_NoYear) = some false
  hd_NoMoment : PySem.W.hasDictIn K c_NoMoment = true
  t_NoMoment : PySem.W.typeIn K (.ref c_NoMoment) = some (.type "type")
  s_NoWater_NoMoment : PySem.W.subIn K (.ref c_NoWater) (.ref c_NoMoment) = some false
  hd_Weaker : PySem.W.hasDictIn K c_Weaker = true
  t_Weaker : PySem.W.typeIn K (.ref c_Weaker) = some (.type "type")
  s_NoWater_Weaker : PySem.W.subIn K (.ref c_NoWater) (.ref c_Weaker) = some false
  hd_NoRoom : PySem.W.hasDictIn K c_NoRoom = true
  t_NoRoom : PySem.W.typeIn K (.ref c_NoRoom) = some (.type "type")
  s_NoWater_NoRoom : PySem.W.subIn K (.ref c_NoWater) (.ref c_NoRoom) = some false
  hd_NoPan : PySem.W.hasDictIn K c_NoPan = true
  t_NoPan : PySem.W.typeIn K (.ref c_NoPan) = some (.type "type")
  s_NoWater_NoPan : PySem.W.subIn K (.ref c_NoWater) (.ref c_NoPan) = some false
  hd_NoLot : PySem.W.hasDictIn K c_NoLot = true
  t_NoLot : PySem.W.typeIn K (.ref c_NoLot) = some (.type "type")
  s_NoWater_NoLot : PySem.W.subIn K (.ref c_NoWater) (.ref c_NoLot) = some false
  hd_NoGate : PySem.W.hasDictIn K c_NoGate = true
  t_NoGate : PySem.W.typeIn K (.ref c_NoGate) = some (.type "type")
  s_NoWater_NoGate : PySem.W.subIn K (.ref c_NoWater) (.ref c_NoGate) = some false
  hd_NoDeed : PySem.W.hasDictIn K c_NoDeed = true
  t_NoDeed : PySem.W.typeIn K (.ref c_NoDeed) = some (.type "type")
  s_NoWater_NoDeed : PySem.W.subIn K (.ref c_NoWater) (.ref c_NoDeed) = some false
  hd_NoLater : PySem.W.hasDictIn K c_NoLater = true
  t_NoLater : PySem.W.typeIn K (.ref c_NoLater) = some (.type "type")
  s_NoWater_NoLater : PySem.W.subIn K (.ref c_NoWater) (.ref c_NoLater) = some false
  hd_NoLine : PySem.W.hasDictIn K c_NoLine = true
  t_NoLine : PySem.W.typeIn K (.ref c_NoLine) = some (.type "type")
  s_NoWater_NoLine : PySem.W.subIn K (.ref c_NoWater) (.ref c_NoLine) = some false
  hd_NoPlan : PySem.W.hasDictIn K c_NoPlan = true
  t_NoPlan : PySem.W.typeIn K (.ref c_NoPlan) = some (.type "type")
  s_NoWater_NoPlan : PySem.W.subIn K (.ref c_NoWater) (.ref c_NoPlan) = some false
  hd_NoText : PySem.W.hasDictIn K c_NoText = true
  t_NoText : PySem.W.typeIn K (.ref c_NoText) = some (.type "type")
  s_NoWater_NoText : PySem.W.subIn K (.ref c_NoWater) (.ref c_NoText) = some false
  s_NoWater_ValueError : PySem.W.subIn K (.ref c_NoWater) (.type "ValueError") = some true
  ki_NoWater_NoStrength : PySem.W.kitOne K (.ref c_NoWater) (.ref c_NoStrength) = some false
  ki_NoWater_NoBrine : PySem.W.kitOne K (.ref c_NoWater) (.ref c_NoBrine) = some false
  ki_NoWater_NoFraction : PySem.W.kitOne K (.ref c_NoWater) (.ref c_NoFraction) = some false
  ki_NoWater_NoYear : PySem.W.kitOne K (.ref c_NoWater) (.ref c_NoYear) = some false
  ki_NoWater_NoMoment : PySem.W.kitOne K (.ref c_NoWater) (.ref c_NoMoment) = some false
  ki_NoWater_NoWater : PySem.W.kitOne K (.ref c_NoWater) (.ref c_NoWater) = some true
  ki_NoWater_Weaker : PySem.W.kitOne K (.ref c_NoWater) (.ref c_Weaker) = some false
  ki_NoWater_NoRoom : PySem.W.kitOne K (.ref c_NoWater) (.ref c_NoRoom) = some false
  ki_NoWater_NoPan : PySem.W.kitOne K (.ref c_NoWater) (.ref c_NoPan) = some false
  ki_NoWater_NoLot : PySem.W.kitOne K (.ref c_NoWater) (.ref c_NoLot) = some false
  ki_NoWater_NoGate : PySem.W.kitOne K (.ref c_NoWater) (.ref c_NoGate) = some false
  ki_NoWater_NoDeed : PySem.W.kitOne K (.ref c_NoWater) (.ref c_NoDeed) = some false
  ki_NoWater_NoLater : PySem.W.kitOne K (.ref c_NoWater) (.ref c_NoLater) = some false
  ki_NoWater_NoLine : PySem.W.kitOne K (.ref c_NoWater) (.ref c_NoLine) = some false
  ki_NoWater_NoPlan : PySem.W.kitOne K (.ref c_NoWater) (.ref c_NoPlan) = some false
  ki_NoWater_NoText : PySem.W.kitOne K (.ref c_NoWater) (.ref c_NoText) = some false
  ki_NoWater_ValueError : PySem.W.kitOne K (.ref c_NoWater) (.type "ValueError") = some true
section
variable {P : Program} {w : World} {K : PySem.W.Frag} {mg : Str → Option Value} {base : Heap}
theorem isi_NoStrength (T : Top K mg) : IsiOk K (fun t => PySem.W.kitOne K t (.ref T.c_NoStrength)) (fun _ => none) tx_NoStrength := by
  refine ⟨fun a b h => (by cases h), fun x C b h hn => ?_⟩
  unfold tx_NoStrength at h
  split at h
  · rename_i hx
    subst hx
    cases h
    have e := hn.symm.trans T.n_NoWater
    cases e
    exact ⟨T.ki_NoWater_NoStrength, T.x_NoWater⟩
  · cases h
theorem isi_NoBrine (T : Top K mg) : IsiOk K (fun t => PySem.W.kitOne K t (.ref T.c_NoBrine)) (fun _ => none) tx_NoBrine := by
  refine ⟨fun a b h => (by cases h), fun x C b h hn => ?_⟩
  unfold tx_NoBrine at h
  split at h
  · rename_i hx
    subst hx
    cases h
    have e := hn.symm.trans T.n_NoWater
    cases e
    exact ⟨T.ki_NoWater_NoBrine, T.x_NoWater⟩
  · cases h
theorem isi_NoFraction (T : Top K mg) : IsiOk K (fun t => PySem.W.kitOne K t (.ref T.c_NoFraction)) (fun _ => none) tx_NoFraction := by
  refine ⟨fun a b h => (by cases h), fun x C b h hn => ?_⟩
  unfold tx_NoFraction at h
  split at h
  · rename_i hx
    subst hx
    cases h
    have e := hn.symm.trans T.n_NoWater
    cases e
    exact ⟨T.ki_NoWater_NoFraction, T.x_NoWater⟩
  · cases h
theorem isi_NoYear (T : Top K mg) : IsiOk K (fun t => PySem.W.kitOne K t (.ref T.c_NoYear)) (fun _ => none) tx_NoYear := by
  refine ⟨fun a b h => (by cases h), fun x C b h hn => ?_⟩
  unfold tx_NoYear at h
  split at h
  · rename_i hx
    subst hx
    cases h
    have e := hn.symm.trans T.n_NoWater
    cases e
    exact ⟨T.ki_NoWater_NoYear, T.x_NoWater⟩
  · cases h
theorem isi_NoMoment (T : Top K mg) : IsiOk K (fun t => PySem.W.kitOne K t (.ref T.c_NoMoment)) (fun _ => none) tx_NoMoment := by
  refine ⟨fun a b h => (by cases h), fun x C b h hn => ?_⟩
  unfold tx_NoMoment at h
  split at h
  · rename_i hx
    subst hx
    cases h
    have e := hn.symm.trans T.n_NoWater
    cases e
    exact ⟨T.ki_NoWater_NoMoment, T.x_NoWater⟩
  · cases h
theorem isi_NoWater (T : Top K mg) : IsiOk K (fun t => PySem.W.kitOne K t (.ref T.c_NoWater)) (fun _ => none) tx_NoWater := by
  refine ⟨fun a b h => (by cases h), fun x C b h hn => ?_⟩
  unfold tx_NoWater at h
  split at h
  · rename_i hx
    subst hx
    cases h
    have e := hn.symm.trans T.n_NoWater
    cases e
    exact ⟨T.ki_NoWater_NoWater, T.x_NoWater⟩
  · cases h
theorem isi_Weaker (T : Top K mg) : IsiOk K (fun t => PySem.W.kitOne K t (.ref T.c_Weaker)) (fun _ => none) tx_Weaker := by
  refine ⟨fun a b h => (by cases h), fun x C b h hn => ?_⟩
  unfold tx_Weaker at h
  split at h
  · rename_i hx
    subst hx
    cases h
    have e := hn.symm.trans T.n_NoWater
    cases e
    exact ⟨T.ki_NoWater_Weaker, T.x_NoWater⟩
  · cases h
theorem isi_NoRoom (T : Top K mg) : IsiOk K (fun t => PySem.W.kitOne K t (.ref T.c_NoRoom)) (fun _ => none) tx_NoRoom := by
  refine ⟨fun a b h => (by cases h), fun x C b h hn => ?_⟩
  unfold tx_NoRoom at h
  split at h
  · rename_i hx
    subst hx
    cases h
    have e := hn.symm.trans T.n_NoWater
    cases e
    exact ⟨T.ki_NoWater_NoRoom, T.x_NoWater⟩
  · cases h
theorem isi_NoPan (T : Top K mg) : IsiOk K (fun t => PySem.W.kitOne K t (.ref T.c_NoPan)) (fun _ => none) tx_NoPan := by
  refine ⟨fun a b h => (by cases h), fun x C b h hn => ?_⟩
  unfold tx_NoPan at h
  split at h
  · rename_i hx
    subst hx
    cases h
    have e := hn.symm.trans T.n_NoWater
    cases e
    exact ⟨T.ki_NoWater_NoPan, T.x_NoWater⟩
  · cases h
theorem isi_NoLot (T : Top K mg) : IsiOk K (fun t => PySem.W.kitOne K t (.ref T.c_NoLot)) (fun _ => none) tx_NoLot := by
  refine ⟨fun a b h => (by cases h), fun x C b h hn => ?_⟩
  unfold tx_NoLot at h
  split at h
  · rename_i hx
    subst hx
    cases h
    have e := hn.symm.trans T.n_NoWater
    cases e
    exact ⟨T.ki_NoWater_NoLot, T.x_NoWater⟩
  · cases h
theorem isi_NoGate (T : Top K mg) : IsiOk K (fun t => PySem.W.kitOne K t (.ref T.c_NoGate)) (fun _ => none) tx_NoGate := by
  refine ⟨fun a b h => (by cases h), fun x C b h hn => ?_⟩
  unfold tx_NoGate at h
  split at h
  · rename_i hx
    subst hx
    cases h
    have e := hn.symm.trans T.n_NoWater
    cases e
    exact ⟨T.ki_NoWater_NoGate, T.x_NoWater⟩
  · cases h
theorem isi_NoDeed (T : Top K mg) : IsiOk K (fun t => PySem.W.kitOne K t (.ref T.c_NoDeed)) (fun _ => none) tx_NoDeed := by
  refine ⟨fun a b h => (by cases h), fun x C b h hn => ?_⟩
  unfold tx_NoDeed at h
  split at h
  · rename_i hx
    subst hx
    cases h
    have e := hn.symm.trans T.n_NoWater
    cases e
    exact ⟨T.ki_NoWater_NoDeed, T.x_NoWater⟩
  · cases h
theorem isi_NoLater (T : Top K mg) : IsiOk K (fun t => PySem.W.kitOne K t (.ref T.c_NoLater)) (fun _ => none) tx_NoLater := by
  refine ⟨fun a b h => (by cases h), fun x C b h hn => ?_⟩
  unfold tx_NoLater at h
  split at h
  · rename_i hx
    subst hx
    cases h
    have e := hn.symm.trans T.n_NoWater
    cases e
    exact ⟨T.ki_NoWater_NoLater, T.x_NoWater⟩
  · cases h
theorem isi_NoLine (T : Top K mg) : IsiOk K (fun t => PySem.W.kitOne K t (.ref T.c_NoLine)) (fun _ => none) tx_NoLine := by
  refine ⟨fun a b h => (by cases h), fun x C b h hn => ?_⟩
  unfold tx_NoLine at h
  split at h
  · rename_i hx
    subst hx
    cases h
    have e := hn.symm.trans T.n_NoWater
    cases e
    exact ⟨T.ki_NoWater_NoLine, T.x_NoWater⟩
  · cases h
theorem isi_NoPlan (T : Top K mg) : IsiOk K (fun t => PySem.W.kitOne K t (.ref T.c_NoPlan)) (fun _ => none) tx_NoPlan := by
  refine ⟨fun a b h => (by cases h), fun x C b h hn => ?_⟩
  unfold tx_NoPlan at h
  split at h
  · rename_i hx
    subst hx
    cases h
    have e := hn.symm.trans T.n_NoWater
    cases e
    exact ⟨T.ki_NoWater_NoPlan, T.x_NoWater⟩
  · cases h
theorem isi_NoText (T : Top K mg) : IsiOk K (fun t => PySem.W.kitOne K t (.ref T.c_NoText)) (fun _ => none) tx_NoText := by
  refine ⟨fun a b h => (by cases h), fun x C b h hn => ?_⟩
  unfold tx_NoText at h
  split at h
  · rename_i hx
    subst hx
    cases h
    have e := hn.symm.trans T.n_NoWater
    cases e
    exact ⟨T.ki_NoWater_NoText, T.x_NoWater⟩
  · cases h
theorem isi_ValueError (T : Top K mg) : IsiOk K (fun t => PySem.W.kitOne K t (.type "ValueError")) (fun _ => none) tx_ValueError := by
  refine ⟨fun a b h => (by cases h), fun x C b h hn => ?_⟩
  unfold tx_ValueError at h
  split at h
  · rename_i hx
    subst hx
    cases h
    have e := hn.symm.trans T.n_NoWater
    cases e
    exact ⟨T.ki_NoWater_ValueError, T.x_NoWater⟩
  · cases h
theorem mt_BrineError_ok (T : Top K mg) : ∀ x b, mt_BrineError x = some b → ∃ C, mg x = some (.ref C) ∧ PySem.W.nsIn K mainGlobals x = some (some (.ref C)) ∧ PySem.W.exmOne K (.ref C) (.ref T.c_BrineError) = some b := by
  intro x b h
  unfold mt_BrineError at h
  split at h
  · rename_i hx
    subst hx
    cases h
    exact ⟨T.c_NoWater, T.g_NoWater, T.n_NoWater, PySem.W.exm_ref T.b_BrineError T.hd_BrineError T.t_BrineError T.s_NoWater_BrineError⟩
  · cases h
set_option maxHeartbeats 4000000 in
theorem ok__law_pot (T : Top K mg) : GOk P w K mg base CX0 1 T.a__law_pot T.fd__law_pot ["cell", "place"] (spF K mg 2 F__law_pot) :=
  fn_okG (k := 0) (fb := den__law_pot) T.F__law_pot S__law_pot rfl (fun cdv A outer s H E hr => 
  (dss_cons (ds_set 2 S__law_pot.nd (de_lst (da_cons de_int (da_cons de_int (da_cons de_int (da_cons de_int (da_cons de_int (da_cons de_int (da_cons de_int (da_cons de_int da_nil))))))))))
  (dss_cons (ds_set 3 S__law_pot.nd (de_ix (de_var 2) (de_mod (de_var 1) de_int)))
  (dss_one (ds_ret (de_lstM (da_cons (de_max rfl T.z_max (da_cons de_int (da_cons (de_sub (de_var 0) (de_pow de_int de_int)) da_nil))) (da_cons (de_mod (de_pow (de_add (de_add (de_mod (de_var 0) de_int) (de_mul de_int (de_var 1))) de_int) de_int) (de_var 3)) (da_cons de_int da_nil))))))))) hF__law_pot hX__law_pot
set_option maxHeartbeats 4000000 in
theorem ok__law_take (T : Top K mg) : GOk P w K mg base CX0 1 T.a__law_take T.fd__law_take ["pot", "many"] (spF K mg 2 F__law_take) :=
  fn_okG (k := 0) (fb := den__law_take) T.F__law_take S__law_take rfl (fun cdv A outer s H E hr => 
  (dss_cons (ds_if (dt_gt (de_ix (de_var 0) de_int) de_int) (dss_cons (ds_set 2 S__law_take.nd (de_mod (de_ix (de_var 0) de_int) (de_var 1)))
  (dss_cons (ds_store (de_div (de_ix (de_var 0) de_int) (de_var 1)) (de_var 0) de_int)
  (dss_one (ds_ret (de_var 2))))) dss_nil)
  (dss_cons (ds_store (de_add (de_ix (de_var 0) de_int) de_int) (de_var 0) de_int)
  (dss_cons (ds_store (de_mod (de_add (de_add (de_mul (de_ix (de_var 0) de_int) de_int) (de_mul (de_mul de_int (de_ix (de_var 0) de_int)) (de_ix (de_var 0) de_int))) de_int) de_int) (de_var 0) de_int)
  (dss_one (ds_ret (de_mod (de_div (de_mod (de_pow (de_ix (de_var 0) de_int) de_int) de_int) de_int) (de_var 1)))))))) hF__law_take hX__law_take
set_option maxHeartbeats 4000000 in
theorem ok__law_full (T : Top K mg) : GOk P w K mg base CX0 2 T.a__law_full T.fd__law_full ["pot"] (spF K mg 1 F__law_full) :=
  fn_okG (k := 1) (fb := den__law_full) T.F__law_full S__law_full rfl (fun cdv A outer s H E hr => 
  (dss_cons (ds_set 1 S__law_full.nd (de_lst (da_cons (de_tup (da_cons de_int (da_cons de_int da_nil))) (da_cons (de_tup (da_cons de_int (da_cons de_int da_nil))) (da_cons (de_tup (da_cons de_int (da_cons de_int da_nil))) (da_cons (de_tup (da_cons de_int (da_cons de_int da_nil))) (da_cons (de_tup (da_cons de_int (da_cons de_int da_nil))) (da_cons (de_tup (da_cons de_int (da_cons de_int da_nil))) (da_cons (de_tup (da_cons (de_add de_int (de_callG wok0 (ok__law_take T) (hr.mono (by decide)) T.g__law_take T.F__law_take.kp T.b__law_take (fun _ => pass_0) (da_cons (de_var 0) (da_cons de_int da_nil)))) (da_cons de_int da_nil))) da_nil)))))))))
  (dss_one (ds_ret (de_ix (de_add (de_var 1) (de_lst (da_cons (de_tup (da_cons de_int (da_cons de_int da_nil))) (da_cons (de_tup (da_cons de_int (da_cons de_int da_nil))) (da_cons (de_tup (da_cons de_int (da_cons de_int da_nil))) da_nil))))) (de_callG wok0 (ok__law_take T) (hr.mono (by decide)) T.g__law_take T.F__law_take.kp T.b__law_take (fun _ => pass_0) (da_cons (de_var 0) (da_cons de_int da_nil)))))))) hF__law_full hX__law_full
set_option maxHeartbeats 4000000 in
theorem ok__law_unit (T : Top K mg) : GOk P w K mg base CX0 2 T.a__law_unit T.fd__law_unit ["pot"] (spF K mg 1 F__law_unit) :=
  fn_okG (k := 1) (fb := den__law_unit) T.F__law_unit S__law_unit rfl (fun cdv A outer s H E hr => 
  (dss_one (ds_ret (de_ix (de_lst (da_cons de_int (da_cons de_int (da_cons de_int (da_cons de_int (da_cons de_int (da_cons de_int (da_cons de_int (da_cons de_int (da_cons de_int (da_cons de_int da_nil))))))))))) (de_callG wok0 (ok__law_take T) (hr.mono (by decide)) T.g__law_take T.F__law_take.kp T.b__law_take (fun _ => pass_0) (da_cons (de_var 0) (da_cons de_int da_nil))))))) hF__law_unit hX__law_unit
set_option maxHeartbeats 4000000 in
theorem ok__law_laid (T : Top K mg) : GOk P w K mg base CX0 1 T.a__law_laid T.fd__law_laid ["layers"] (spF K mg 1 F__law_laid) :=
  fn_okG (k := 0) (fb := den__law_laid) T.F__law_laid S__law_laid rfl (fun cdv A outer s H E hr => 
  (dss_cons (ds_set 1 S__law_laid.nd (de_lst da_nil))
  (dss_cons (ds_for PassesOwn.never (di_frz (de_var 0)) (dg_tup rfl (dgs_cons (dg_name 2 S__law_laid.nd) (dgs_cons (dg_name 3 S__law_laid.nd) dgs_nil))) (dss_cons (ds_set 4 S__law_laid.nd de_int)
  (dss_cons (ds_while PassesOwn.never (DW.dt (dw_and (dt_lt (de_var 4) (de_len T.z_len (da_cons (de_var 1) da_nil))) (dw_and1 (dt_gt (de_mul (de_ix (de_ix (de_var 1) (de_var 4)) de_int) (de_var 2)) (de_mul (de_var 3) (de_ix (de_ix (de_var 1) (de_var 4)) de_int)))))) (dss_one (ds_set 4 S__law_laid.nd (de_add (de_var 4) de_int))))
  (dss_cons (ds_if (DW.dt (dw_and (dt_lt (de_var 4) (de_len T.z_len (da_cons (de_var 1) da_nil))) (dw_and1 (dt_eq hr.units (de_mul (de_ix (de_ix (de_var 1) (de_var 4)) de_int) (de_var 2)) (de_mul (de_var 3) (de_ix (de_ix (de_var 1) (de_var 4)) de_int)))))) (dss_cons (ds_par 2 3 S__law_laid.nd (da_cons (de_add (de_ix (de_ix (de_var 1) (de_var 4)) de_int) (de_var 2)) (da_cons (de_add (de_ix (de_ix (de_var 1) (de_var 4)) de_int) (de_var 3)) da_nil)))
  (dss_one (ds_set 1 S__law_laid.nd (de_add (de_slice (de_var 1) do_none (do_some (de_var 4))) (de_slice (de_var 1) (do_some (de_add (de_var 4) de_int)) do_none))))) dss_nil)
  (dss_one (ds_set 1 S__law_laid.nd (de_add (de_add (de_slice (de_var 1) do_none (do_some (de_var 4))) (de_lst (da_cons (de_tup (da_cons (de_var 2) (da_cons (de_var 3) da_nil))) da_nil))) (de_slice (de_var 1) (do_some (de_var 4)) do_none))))))))
  (dss_one (ds_ret (de_var 1)))))) hF__law_laid hX__law_laid
set_option maxHeartbeats 4000000 in
theorem ok__law_long (T : Top K mg) : GOk P w K mg base CX0 2 T.a__law_long T.fd__law_long ["pot", "few"] (spF K mg 2 F__law_long) :=
  fn_okG (k := 1) (fb := den__law_long) T.F__law_long S__law_long rfl (fun cdv A outer s H E hr => 
  (dss_cons (ds_set 2 S__law_long.nd (de_tup (da_cons (de_add de_int (de_callG wok0 (ok__law_take T) (hr.mono (by decide)) T.g__law_take T.F__law_take.kp T.b__law_take (fun _ => pass_0) (da_cons (de_var 0) (da_cons de_int da_nil)))) (da_cons de_int da_nil))))
  (dss_cons (ds_set 3 S__law_long.nd (de_lstM (da_cons (de_tup (da_cons de_int (da_cons (de_mul de_int de_int) da_nil))) (da_cons (de_tup (da_cons (de_mul de_int de_int) (da_cons (de_mul (de_mul de_int de_int) (de_ix (de_var 2) de_int)) da_nil))) da_nil))))
  (dss_cons (ds_for PassesOwn.never (di_range1 T.z_range (da_cons (de_add (de_var 1) (de_callG wok0 (ok__law_take T) (hr.mono (by decide)) T.g__law_take T.F__law_take.kp T.b__law_take (fun _ => pass_0) (da_cons (de_var 0) (da_cons de_int da_nil)))) da_nil)) (dg_name 4 S__law_long.nd) (dss_cons (ds_set 5 S__law_long.nd (de_add de_int (de_mod (de_var 4) de_int)))
  (dss_one (ds_expr (de_append (de_var 3) (de_tup (da_cons (de_mul de_int (de_var 5)) (da_cons (de_mul (de_mul (de_ix (de_var 2) de_int) (de_var 5)) (de_mod (de_mul (de_var 4) de_int) de_int)) da_nil))))))))
  (dss_one (ds_ret (de_tup (da_cons (de_var 2) (da_cons (de_callG wok0 (ok__law_laid T) (hr.mono (by decide)) T.g__law_laid T.F__law_laid.kp T.b__law_laid (fun _ => pass_0) (da_cons (de_var 3) da_nil)) da_nil))))))))) hF__law_long hX__law_long
set_option maxHeartbeats 4000000 in
theorem ok__law_layer (T : Top K mg) : GOk P w K mg base CX0 2 T.a__law_layer T.fd__law_layer ["pot", "full", "found", "size"] (spF K mg 4 F__law_layer) :=
  fn_okG (k := 1) (fb := den__law_layer) T.F__law_layer S__law_layer rfl (fun cdv A outer s H E hr => 
  (dss_cons (ds_set 4 S__law_layer.nd (de_callG wok0 (ok__law_take T) (hr.mono (by decide)) T.g__law_take T.F__law_take.kp T.b__law_take (fun _ => pass_0) (da_cons (de_var 0) (da_cons de_int da_nil))))
  (dss_cons (ds_set 5 S__law_layer.nd (de_add de_int (de_callG wok0 (ok__law_take T) (hr.mono (by decide)) T.g__law_take T.F__law_take.kp T.b__law_take (fun _ => pass_0) (da_cons (de_var 0) (da_cons (de_var 3) da_nil)))))
  (dss_cons (ds_set 6 S__law_layer.nd (de_callG wok0 (ok__law_take T) (hr.mono (by decide)) T.g__law_take T.F__law_take.kp T.b__law_take (fun _ => pass_0) (da_cons (de_var 0) (da_cons (de_add de_int (de_min rfl T.z_min (da_cons de_int (da_cons (de_div (de_mul (de_ix (de_var 1) de_int) (de_var 5)) (de_ix (de_var 1) de_int)) da_nil)))) da_nil))))
  (dss_cons (ds_if (dt_eq hr.units (de_var 4) de_int) (dss_one (ds_set 6 S__law_layer.nd de_int)) dss_nil)
  (dss_cons (ds_if (dt_eq hr.units (de_var 4) de_int) (dss_cons (ds_set 7 S__law_layer.nd (de_add de_int (de_mod (de_var 5) (de_min rfl T.z_min (da_cons de_int (da_cons (de_max rfl T.z_max (da_cons de_int (da_cons (de_div (de_pow de_int de_int) (de_ix (de_var 1) de_int)) da_nil))) da_nil))))))
  (dss_one (ds_par 5 6 S__law_layer.nd (da_cons (de_mul (de_ix (de_var 1) de_int) (de_var 7)) (da_cons (de_mul (de_ix (de_var 1) de_int) (de_var 7)) da_nil))))) dss_nil)
  (dss_cons (ds_if (DW.dt (dw_and (dt_eq hr.units (de_var 4) de_int) (dw_and1 (dt_neM hr.units (de_var 2) (de_lst da_nil))))) (dss_cons (ds_asg (de_ix (de_var 2) (de_callG wok0 (ok__law_take T) (hr.mono (by decide)) T.g__law_take T.F__law_take.kp T.b__law_take (fun _ => pass_0) (da_cons (de_var 0) (da_cons (de_len T.z_len (da_cons (de_var 2) da_nil)) da_nil)))) (dg_tup rfl (dgs_cons (dg_name 5 S__law_layer.nd) (dgs_cons (dg_name 6 S__law_layer.nd) dgs_nil))))
  (dss_cons (ds_set 7 S__law_layer.nd (de_add de_int (de_callG wok0 (ok__law_take T) (hr.mono (by decide)) T.g__law_take T.F__law_take.kp T.b__law_take (fun _ => pass_0) (da_cons (de_var 0) (da_cons de_int da_nil)))))
  (dss_one (ds_if (dt_le (de_max rfl T.z_max (da_cons (de_var 5) (da_cons (de_var 6) da_nil))) de_int) (dss_one (ds_par 5 6 S__law_layer.nd (da_cons (de_mul (de_var 5) (de_var 7)) (da_cons (de_mul (de_var 6) (de_var 7)) da_nil)))) dss_nil)))) dss_nil)
  (dss_cons (ds_if (dt_eq hr.units (de_var 4) de_int) (dss_one (ds_par 5 6 S__law_layer.nd (da_cons de_int (da_cons (de_var 5) da_nil)))) dss_nil)
  (dss_one (ds_ret (de_tup (da_cons (de_var 5) (da_cons (de_var 6) da_nil))))))))))))) hF__law_layer hX__law_layer
set_option maxHeartbeats 4000000 in
theorem ok__law_parts (T : Top K mg) : GOk P w K mg base CX0 3 T.a__law_parts T.fd__law_parts ["pot", "full", "most"] (spF K mg 3 F__law_parts) :=
  fn_okG (k := 2) (fb := den__law_parts) T.F__law_parts S__law_parts rfl (fun cdv A outer s H E hr => 
  (dss_cons (ds_set 3 S__law_parts.nd (de_ix (de_lst (da_cons de_int (da_cons de_int (da_cons de_int da_nil)))) (de_callG wok0 (ok__law_take T) (hr.mono (by decide)) T.g__law_take T.F__law_take.kp T.b__law_take (fun _ => pass_0) (da_cons (de_var 0) (da_cons de_int da_nil)))))
  (dss_cons (ds_set 4 S__law_parts.nd (de_lstM da_nil))
  (dss_cons (ds_for PassesOwn.never (di_range1 T.z_range (da_cons (de_callG wok0 (ok__law_take T) (hr.mono (by decide)) T.g__law_take T.F__law_take.kp T.b__law_take (fun _ => pass_0) (da_cons (de_var 0) (da_cons (de_add (de_var 2) de_int) da_nil))) da_nil)) (dg_name 5 S__law_parts.nd) (dss_one (ds_expr (de_append (de_var 4) (de_callG wok0 (ok__law_layer T) (hr.mono (by decide)) T.g__law_layer T.F__law_layer.kp T.b__law_layer (fun _ => pass_0) (da_cons (de_var 0) (da_cons (de_var 1) (da_cons (de_var 4) (da_cons (de_var 3) da_nil)))))))))
  (dss_one (ds_ret (de_callG wok0 (ok__law_laid T) (hr.mono (by decide)) T.g__law_laid T.F__law_laid.kp T.b__law_laid (fun _ => pass_0) (da_cons (de_var 4) da_nil)))))))) hF__law_parts hX__law_parts
set_option maxHeartbeats 4000000 in
theorem ok__law_case (T : Top K mg) : GOk P w K mg base CX0 4 T.a__law_case T.fd__law_case ["pot", "far"] (spF K mg 2 F__law_case) :=
  fn_okG (k := 3) (fb := den__law_case) T.F__law_case S__law_case rfl (fun cdv A outer s H E hr => 
  (dss_cons (ds_if (DW.dt (dw_and (dt_tru (de_var 1)) (dw_and1 (dt_eq hr.units (de_callG wok0 (ok__law_take T) (hr.mono (by decide)) T.g__law_take T.F__law_take.kp T.b__law_take (fun _ => pass_0) (da_cons (de_var 0) (da_cons de_int da_nil))) de_int)))) (dss_cons (ds_asg (de_callG wok0 (ok__law_long T) (hr.mono (by decide)) T.g__law_long T.F__law_long.kp T.b__law_long (fun _ => pass_0) (da_cons (de_var 0) (da_cons (de_ix (de_lst (da_cons de_int (da_cons de_int da_nil))) (de_callG wok0 (ok__law_take T) (hr.mono (by decide)) T.g__law_take T.F__law_take.kp T.b__law_take (fun _ => pass_0) (da_cons (de_var 0) (da_cons de_int da_nil)))) da_nil))) (dg_tup rfl (dgs_cons (dg_name 2 S__law_case.nd) (dgs_cons (dg_name 4 S__law_case.nd) dgs_nil))))
  (dss_one (ds_ret (de_tup (da_cons (de_var 2) (da_cons de_int (da_cons (de_var 4) da_nil))))))) dss_nil)
  (dss_cons (ds_set 2 S__law_case.nd (de_callG wok0 (ok__law_full T) (hr.mono (by decide)) T.g__law_full T.F__law_full.kp T.b__law_full (fun _ => pass_0) (da_cons (de_var 0) da_nil)))
  (dss_cons (ds_set 3 S__law_case.nd (de_callG wok0 (ok__law_unit T) (hr.mono (by decide)) T.g__law_unit T.F__law_unit.kp T.b__law_unit (fun _ => pass_0) (da_cons (de_var 0) da_nil)))
  (dss_one (ds_ret (de_tup (da_cons (de_var 2) (da_cons (de_var 3) (da_cons (de_callG wok0 (ok__law_parts T) (hr.mono (by decide)) T.g__law_parts T.F__law_parts.kp T.b__law_parts (fun _ => pass_0) (da_cons (de_var 0) (da_cons (de_var 2) (da_cons de_int da_nil)))) da_nil)))))))))) hF__law_case hX__law_case
set_option maxHeartbeats 4000000 in
theorem ok__law_low (T : Top K mg) : GOk P w K mg base CX0 1 T.a__law_low T.fd__law_low ["a", "b"] (spF K mg 2 F__law_low) :=
  fn_okG (k := 0) (fb := den__law_low) T.F__law_low S__law_low rfl (fun cdv A outer s H E hr => 
  (dss_cons (ds_par 2 3 S__law_low.nd (da_cons (de_abs T.z_abs (da_cons (de_var 0) da_nil)) (da_cons (de_abs T.z_abs (da_cons (de_var 1) da_nil)) da_nil)))
  (dss_cons (ds_while PassesOwn.never (dt_gt (de_var 3) de_int) (dss_one (ds_par 2 3 S__law_low.nd (da_cons (de_var 3) (da_cons (de_mod (de_var 2) (de_var 3)) da_nil)))))
  (dss_cons (ds_if (dt_lt (de_var 1) de_int) (dss_one (ds_set 2 S__law_low.nd (de_sub de_int (de_var 2)))) dss_nil)
  (dss_one (ds_ret (de_tup (da_cons (de_div (de_var 0) (de_var 2)) (da_cons (de_div (de_var 1) (de_var 2)) da_nil))))))))) hF__law_low hX__law_low
set_option maxHeartbeats 4000000 in
theorem ok__law_brine (T : Top K mg) : GOk P w K mg base CX0 2 T.a__law_brine T.fd__law_brine ["parts", "unit"] (spF K mg 2 F__law_brine) :=
  fn_okG (k := 1) (fb := den__law_brine) T.F__law_brine S__law_brine rfl (fun cdv A outer s H E hr => 
  (dss_one (ds_ret (de_tupOf T.z_tuple (da_cons (de_lc [("water", 2), ("salt", 3)] (S__law_brine.nd) (blkOk_by (N := N__law_brine) (sc := defScope s__law_brine) (own := [("water", 2), ("salt", 3)]) (by decide +kernel)) (di_seq (de_var 0)) (fun _ _ _ _ _ => (dg_tup rfl (dgs_cons (dg_name 2 S__law_brine.nd) (dgs_cons (dg_name 3 S__law_brine.nd) dgs_nil)))) (fun _ _ _ _ _ => dts_nil) (fun _ _ _ _ _ => (de_tup (da_cons (de_callG wok0 (ok__law_low T) (hr.mono (by decide)) T.g__law_low T.F__law_low.kp T.b__law_low (fun _ => pass_0) (da_cons (de_var 2) (da_cons (de_var 1) da_nil))) (da_cons (de_callG wok0 (ok__law_low T) (hr.mono (by decide)) T.g__law_low T.F__law_low.kp T.b__law_low (fun _ => pass_0) (da_cons (de_var 3) (da_cons (de_var 1) da_nil))) da_nil))))) da_nil))))) hF__law_brine hX__law_brine
set_option maxHeartbeats 4000000 in
theorem ok_common (T : Top K mg) : GOk P w K mg base CX0 1 T.a_common T.fd_common ["a", "b"] (spF K mg 2 F_common) :=
  fn_okG (k := 0) (fb := den_common) T.F_common S_common rfl (fun cdv A outer s H E hr => 
  (dss_cons (ds_while PassesOwn.never (dt_ne hr.units (de_var 1) de_int) (dss_one (ds_par 0 1 S_common.nd (da_cons (de_var 1) (da_cons (de_mod (de_var 0) (de_var 1)) da_nil)))))
  (dss_one (ds_ret (de_abs T.z_abs (da_cons (de_var 0) da_nil)))))) hF_common hX_common
set_option maxHeartbeats 4000000 in
theorem ok_times (T : Top K mg) : GOk P w K mg base CX0 2 T.a_times T.fd_times ["one", "other"] (spF K mg 2 F_times) :=
  fn_okG (k := 1) (fb := den_times) T.F_times S_times rfl (fun cdv A outer s H E hr => 
  (dss_cons (ds_asg (de_var 0) (dg_tup rfl (dgs_cons (dg_name 4 S_times.nd) (dgs_cons (dg_name 5 S_times.nd) dgs_nil))))
  (dss_cons (ds_asg (de_var 1) (dg_tup rfl (dgs_cons (dg_name 6 S_times.nd) (dgs_cons (dg_name 7 S_times.nd) dgs_nil))))
  (dss_cons (ds_set 2 S_times.nd (de_callG wok0 (ok_common T) (hr.mono (by decide)) T.g_common T.F_common.kp T.b_common (fun _ => pass_0) (da_cons (de_var 4) (da_cons (de_var 7) da_nil))))
  (dss_cons (ds_set 3 S_times.nd (de_callG wok0 (ok_common T) (hr.mono (by decide)) T.g_common T.F_common.kp T.b_common (fun _ => pass_0) (da_cons (de_var 6) (da_cons (de_var 5) da_nil))))
  (dss_one (ds_ret (de_tup (da_cons (de_mul (de_div (de_var 4) (de_var 2)) (de_div (de_var 6) (de_var 3))) (da_cons (de_mul (de_div (de_var 5) (de_var 3)) (de_div (de_var 7) (de_var 2))) da_nil)))))))))) hF_times hX_times
set_option maxHeartbeats 4000000 in
theorem ok_is_less (T : Top K mg) : GOk P w K mg base CX0 1 T.a_is_less T.fd_is_less ["one", "other"] (spF K mg 2 F_is_less) :=
  fn_okG (k := 0) (fb := den_is_less) T.F_is_less S_is_less rfl (fun cdv A outer s H E hr => 
  (dss_cons (ds_asg (de_var 0) (dg_tup rfl (dgs_cons (dg_name 2 S_is_less.nd) (dgs_cons (dg_name 3 S_is_less.nd) dgs_nil))))
  (dss_cons (ds_asg (de_var 1) (dg_tup rfl (dgs_cons (dg_name 4 S_is_less.nd) (dgs_cons (dg_name 5 S_is_less.nd) dgs_nil))))
  (dss_one (ds_ret (de_lt (de_mul (de_var 2) (de_var 5)) (de_mul (de_var 4) (de_var 3)))))))) hF_is_less hX_is_less
set_option maxHeartbeats 4000000 in
theorem ok_plus (T : Top K mg) : GOk P w K mg base CX0 2 T.a_plus T.fd_plus ["one", "other"] (spF K mg 2 F_plus) :=
  fn_okG (k := 1) (fb := den_plus) T.F_plus S_plus rfl (fun cdv A outer s H E hr => 
  (dss_cons (ds_asg (de_var 0) (dg_tup rfl (dgs_cons (dg_name 5 S_plus.nd) (dgs_cons (dg_name 6 S_plus.nd) dgs_nil))))
  (dss_cons (ds_asg (de_var 1) (dg_tup rfl (dgs_cons (dg_name 7 S_plus.nd) (dgs_cons (dg_name 8 S_plus.nd) dgs_nil))))
  (dss_cons (ds_set 2 S_plus.nd (de_callG wok0 (ok_common T) (hr.mono (by decide)) T.g_common T.F_common.kp T.b_common (fun _ => pass_0) (da_cons (de_var 6) (da_cons (de_var 8) da_nil))))
  (dss_cons (ds_set 3 S_plus.nd (de_add (de_mul (de_var 5) (de_div (de_var 8) (de_var 2))) (de_mul (de_var 7) (de_div (de_var 6) (de_var 2)))))
  (dss_cons (ds_set 4 S_plus.nd (de_callG wok0 (ok_common T) (hr.mono (by decide)) T.g_common T.F_common.kp T.b_common (fun _ => pass_0) (da_cons (de_var 3) (da_cons (de_var 2) da_nil))))
  (dss_one (ds_ret (de_tup (da_cons (de_div (de_var 3) (de_var 4)) (da_cons (de_mul (de_div (de_var 6) (de_var 2)) (de_div (de_var 8) (de_var 4))) da_nil))))))))))) hF_plus hX_plus
set_option maxHeartbeats 4000000 in
theorem ok_summed (T : Top K mg) : GOk P w K mg base CX0 3 T.a_summed T.fd_summed ["some"] (spF K mg 1 F_summed) :=
  fn_okG (k := 2) (fb := den_summed) T.F_summed S_summed rfl (fun cdv A outer s H E hr => 
  (dss_cons (ds_set 1 S_summed.nd (de_const T.g_NOUGHT T.r_NOUGHT))
  (dss_cons (ds_for PassesOwn.never (di_seq (de_var 0)) (dg_name 2 S_summed.nd) (dss_one (ds_set 1 S_summed.nd (de_callG wok0 (ok_plus T) (hr.mono (by decide)) T.g_plus T.F_plus.kp T.b_plus (fun _ => pass_0) (da_cons (de_var 1) (da_cons (de_var 2) da_nil))))))
  (dss_one (ds_ret (de_var 1)))))) hF_summed hX_summed
set_option maxHeartbeats 4000000 in
theorem ok_water_of (T : Top K mg) : GOk P w K mg base CX0 4 T.a_water_of T.fd_water_of ["brine"] (spF K mg 1 F_water_of) :=
  fn_okG (k := 3) (fb := den_water_of) T.F_water_of S_water_of rfl (fun cdv A outer s H E hr => 
  (dss_one (ds_ret (de_callG wok0 (ok_summed T) (hr.mono (by decide)) T.g_summed T.F_summed.kp T.b_summed (fun _ => pass_0) (da_cons (de_lc [("water", 1), ("salt", 2)] (S_water_of.nd) (blkOk_by (N := N_water_of) (sc := defScope s_water_of) (own := [("water", 1), ("salt", 2)]) (by decide +kernel)) (di_seq (de_var 0)) (fun _ _ _ _ _ => (dg_tup rfl (dgs_cons (dg_name 1 S_water_of.nd) (dgs_cons (dg_name 2 S_water_of.nd) dgs_nil)))) (fun _ _ _ _ _ => dts_nil) (fun _ _ _ _ _ => (de_var 1))) da_nil))))) hF_water_of hX_water_of
set_option maxHeartbeats 4000000 in
theorem ok_is_there (T : Top K mg) : GOk P w K mg base CX0 5 T.a_is_there T.fd_is_there ["brine", "water"] (spF K mg 2 F_is_there) :=
  fn_okG (k := 4) (fb := den_is_there) T.F_is_there S_is_there rfl (fun cdv A outer s H E hr => 
  (dss_one (ds_ret (de_and (de_not (de_callG wok0 (ok_is_less T) (hr.mono (by decide)) T.g_is_less T.F_is_less.kp T.b_is_less (fun _ => pass_0) (da_cons (de_var 1) (da_cons (de_const T.g_NOUGHT T.r_NOUGHT) da_nil)))) (de_one (de_not (de_callG wok0 (ok_is_less T) (hr.mono (by decide)) T.g_is_less T.F_is_less.kp T.b_is_less (fun _ => pass_0) (da_cons (de_callG wok0 (ok_water_of T) (hr.mono (by decide)) T.g_water_of T.F_water_of.kp T.b_water_of (fun _ => pass_0) (da_cons (de_var 0) da_nil)) (da_cons (de_var 1) da_nil))))))))) hF_is_there hX_is_there
set_option maxHeartbeats 4000000 in
theorem ok_check_there (T : Top K mg) : GOk P w K mg base (L2.CX P w) 6 T.a_check_there T.fd_check_there ["brine", "water"] (spF K mg 2 F_check_there) :=
  fn_okXG (k := 5) (fb := den_check_there) T.F_check_there S_check_there rfl (fun cdv A outer s H E hr => 
  (dss_one (ds_if (dt_not (dt_val (de_callG wokX (ok_is_there T) (hr.mono (by decide)) T.g_is_there T.F_is_there.kp T.b_is_there (fun _ => pass_0) (da_cons (de_var 0) (da_cons (de_var 1) da_nil))))) (dss_one (ds_raise wokX rfl (takes_of rfl rfl rfl rfl) T.q_NoWater T.g_NoWater T.k_NoWater (raises_own T.b_NoWater T.t_NoWater))) dss_nil))) hF_check_there
set_option maxHeartbeats 4000000 in
theorem ok_least (T : Top K mg) : GOk P w K mg base CX0 2 T.a_least T.fd_least ["some"] (spF K mg 1 F_least) :=
  fn_okG (k := 1) (fb := den_least) T.F_least S_least rfl (fun cdv A outer s H E hr => 
  (dss_cons (ds_set 1 S_least.nd (de_ix (de_var 0) de_int))
  (dss_cons (ds_for PassesOwn.never (di_seq (de_var 0)) (dg_name 2 S_least.nd) (dss_one (ds_if (dt_val (de_callG wok0 (ok_is_less T) (hr.mono (by decide)) T.g_is_less T.F_is_less.kp T.b_is_less (fun _ => pass_0) (da_cons (de_var 2) (da_cons (de_var 1) da_nil)))) (dss_one (ds_set 1 S_least.nd (de_var 2))) dss_nil)))
  (dss_one (ds_ret (de_var 1)))))) hF_least hX_least
set_option maxHeartbeats 4000000 in
theorem ok_less (T : Top K mg) : GOk P w K mg base CX0 3 T.a_less T.fd_less ["one", "other"] (spF K mg 2 F_less) :=
  fn_okG (k := 2) (fb := den_less) T.F_less S_less rfl (fun cdv A outer s H E hr => 
  (dss_cons (ds_asg (de_var 1) (dg_tup rfl (dgs_cons (dg_name 2 S_less.nd) (dgs_cons (dg_name 3 S_less.nd) dgs_nil))))
  (dss_one (ds_ret (de_callG wok0 (ok_plus T) (hr.mono (by decide)) T.g_plus T.F_plus.kp T.b_plus (fun _ => pass_0) (da_cons (de_var 0) (da_cons (de_tup (da_cons (de_neg (de_var 2)) (da_cons (de_var 3) da_nil))) da_nil))))))) hF_less hX_less
set_option maxHeartbeats 4000000 in
theorem ok_over (T : Top K mg) : GOk P w K mg base (L2.CX P w) 3 T.a_over T.fd_over ["one", "other"] (spF K mg 2 F_over) :=
  fn_okXG (k := 2) (fb := den_over) T.F_over S_over rfl (fun cdv A outer s H E hr => 
  (dss_cons (ds_asg (de_var 1) (dg_tup rfl (dgs_cons (dg_name 2 S_over.nd) (dgs_cons (dg_name 3 S_over.nd) dgs_nil))))
  (dss_cons (ds_if (dt_eq hr.units (de_var 2) de_int) (dss_one (ds_raise wokX rfl (takes_of rfl rfl rfl rfl) T.q_NoFraction T.g_NoFraction T.k_NoFraction (raises_own T.b_NoFraction T.t_NoFraction))) dss_nil)
  (dss_one (ds_ret (de_callG wokX (ok_times T) (hr.mono (by decide)) T.g_times T.F_times.kp T.b_times (fun _ => pass_0) (da_cons (de_var 0) (da_cons (de_if (dt_gt (de_var 2) de_int) (de_tup (da_cons (de_var 3) (da_cons (de_var 2) da_nil))) (de_tup (da_cons (de_neg (de_var 3)) (da_cons (de_neg (de_var 2)) da_nil)))) da_nil)))))))) hF_over
set_option maxHeartbeats 4000000 in
theorem ok_portion (T : Top K mg) : GOk P w K mg base CX0 4 T.a_portion T.fd_portion ["layer", "water"] (spF K mg 2 F_portion) :=
  fn_okG (k := 3) (fb := den_portion) T.F_portion S_portion rfl (fun cdv A outer s H E hr => 
  (dss_one (ds_ret (de_tup (da_cons (de_var 1) (da_cons (de_callG wok0 (ok_times T) (hr.mono (by decide)) T.g_times T.F_times.kp T.b_times (fun _ => pass_0) (da_cons (de_ix (de_var 0) de_int) (da_cons (de_callG wok0 (ok_over T) (hr.mono (by decide)) T.g_over T.F_over.kp T.b_over (fun σ => passAt takes0 σ) (da_cons (de_var 1) (da_cons (de_ix (de_var 0) de_int) da_nil))) da_nil))) da_nil)))))) hF_portion hX_portion
set_option maxHeartbeats 4000000 in
theorem ok_parted (T : Top K mg) : GOk P w K mg base CX0 5 T.a_parted T.fd_parted ["layers", "water"] (spF K mg 2 F_parted) :=
  fn_okG (k := 4) (fb := den_parted) T.F_parted S_parted rfl (fun cdv A outer s H E hr => 
  (dss_cons (ds_set 2 S_parted.nd (de_lstM da_nil))
  (dss_cons (ds_set 3 S_parted.nd (de_lstM da_nil))
  (dss_cons (ds_for PassesOwn.never (di_seq (de_var 0)) (dg_name 4 S_parted.nd) (dss_cons (ds_set 5 S_parted.nd (de_callG wok0 (ok_least T) (hr.mono (by decide)) T.g_least T.F_least.kp T.b_least (fun _ => pass_0) (da_cons (de_tup (da_cons (de_var 1) (da_cons (de_ix (de_var 4) de_int) da_nil))) da_nil)))
  (dss_cons (ds_set 6 S_parted.nd (de_callG wok0 (ok_less T) (hr.mono (by decide)) T.g_less T.F_less.kp T.b_less (fun _ => pass_0) (da_cons (de_ix (de_var 4) de_int) (da_cons (de_var 5) da_nil))))
  (dss_cons (ds_set 1 S_parted.nd (de_callG wok0 (ok_less T) (hr.mono (by decide)) T.g_less T.F_less.kp T.b_less (fun _ => pass_0) (da_cons (de_var 1) (da_cons (de_var 5) da_nil))))
  (dss_cons (ds_if (dt_ne hr.units (de_var 5) (de_const T.g_NOUGHT T.r_NOUGHT)) (dss_one (ds_expr (de_append (de_var 2) (de_callG wok0 (ok_portion T) (hr.mono (by decide)) T.g_portion T.F_portion.kp T.b_portion (fun _ => pass_0) (da_cons (de_var 4) (da_cons (de_var 5) da_nil)))))) dss_nil)
  (dss_one (ds_if (dt_ne hr.units (de_var 6) (de_const T.g_NOUGHT T.r_NOUGHT)) (dss_one (ds_expr (de_append (de_var 3) (de_callG wok0 (ok_portion T) (hr.mono (by decide)) T.g_portion T.F_portion.kp T.b_portion (fun _ => pass_0) (da_cons (de_var 4) (da_cons (de_var 6) da_nil)))))) dss_nil)))))))
  (dss_one (ds_ret (de_tup (da_cons (de_tupOf T.z_tuple (da_cons (de_var 2) da_nil)) (da_cons (de_tupOf T.z_tuple (da_cons (de_var 3) da_nil)) da_nil))))))))) hF_parted hX_parted
set_option maxHeartbeats 4000000 in
theorem ok_dissolved_of (T : Top K mg) : GOk P w K mg base CX0 1 T.a_dissolved_of T.fd_dissolved_of ["brine"] (spF K mg 1 F_dissolved_of) :=
  fn_okG (k := 0) (fb := den_dissolved_of) T.F_dissolved_of S_dissolved_of rfl (fun cdv A outer s H E hr => 
  (dss_one (ds_ret (de_tupOf T.z_tuple (da_cons (de_lc [("layer", 1)] (S_dissolved_of.nd) (blkOk_by (N := N_dissolved_of) (sc := defScope s_dissolved_of) (own := [("layer", 1)]) (by decide +kernel)) (di_seq (de_var 0)) (fun _ _ _ _ _ => (dg_name 1 S_dissolved_of.nd)) (fun _ _ _ _ _ => (dts_one (dt_ne hr.units (de_ix (de_var 1) de_int) (de_const T.g_NOUGHT T.r_NOUGHT)))) (fun _ _ _ _ _ => (de_var 1))) da_nil))))) hF_dissolved_of hX_dissolved_of
set_option maxHeartbeats 4000000 in
theorem ok_fallen_layers (T : Top K mg) : GOk P w K mg base CX0 1 T.a_fallen_layers T.fd_fallen_layers ["brine"] (spF K mg 1 F_fallen_layers) :=
  fn_okG (k := 0) (fb := den_fallen_layers) T.F_fallen_layers S_fallen_layers rfl (fun cdv A outer s H E hr => 
  (dss_one (ds_ret (de_tupOf T.z_tuple (da_cons (de_lc [("layer", 1)] (S_fallen_layers.nd) (blkOk_by (N := N_fallen_layers) (sc := defScope s_fallen_layers) (own := [("layer", 1)]) (by decide +kernel)) (di_seq (de_var 0)) (fun _ _ _ _ _ => (dg_name 1 S_fallen_layers.nd)) (fun _ _ _ _ _ => (dts_one (dt_eq hr.units (de_ix (de_var 1) de_int) (de_const T.g_NOUGHT T.r_NOUGHT)))) (fun _ _ _ _ _ => (de_var 1))) da_nil))))) hF_fallen_layers hX_fallen_layers
set_option maxHeartbeats 4000000 in
theorem ok_drawn (T : Top K mg) : GOk P w K mg base (L2.CX P w) 7 T.a_drawn T.fd_drawn ["brine", "water"] (spF K mg 2 F_drawn) :=
  fn_okXG (k := 6) (fb := den_drawn) T.F_drawn S_drawn rfl (fun cdv A outer s H E hr => 
  (dss_cons (ds_expr (de_callG wokX (ok_check_there T) (hr.mono (by decide)) T.g_check_there T.F_check_there.kp T.b_check_there (fun σ => passAt (takes_of rfl rfl rfl rfl) σ) (da_cons (de_var 0) (da_cons (de_var 1) da_nil))))
  (dss_cons (ds_asg (de_callG wokX (ok_parted T) (hr.mono (by decide)) T.g_parted T.F_parted.kp T.b_parted (fun _ => pass_0) (da_cons (de_callG wokX (ok_dissolved_of T) (hr.mono (by decide)) T.g_dissolved_of T.F_dissolved_of.kp T.b_dissolved_of (fun _ => pass_0) (da_cons (de_var 0) da_nil)) (da_cons (de_var 1) da_nil))) (dg_tup rfl (dgs_cons (dg_name 2 S_drawn.nd) (dgs_cons (dg_name 3 S_drawn.nd) dgs_nil))))
  (dss_one (ds_ret (de_tup (da_cons (de_var 2) (da_cons (de_add (de_callG wokX (ok_fallen_layers T) (hr.mono (by decide)) T.g_fallen_layers T.F_fallen_layers.kp T.b_fallen_layers (fun _ => pass_0) (da_cons (de_var 0) da_nil)) (de_var 3)) da_nil)))))))) hF_drawn
set_option maxHeartbeats 4000000 in
theorem ok__law_folded (T : Top K mg) : GOk P w K mg base CX0 1 T.a__law_folded T.fd__law_folded ["script", "most"] (spF K mg 2 F__law_folded) :=
  fn_okG (k := 0) (fb := den__law_folded) T.F__law_folded S__law_folded rfl (fun cdv A outer s H E hr => 
  (dss_cons (ds_set 2 S__law_folded.nd (de_lstN T.z_list (da_cons (de_slice (de_var 0) do_none (do_some (de_var 1))) da_nil)))
  (dss_cons (ds_for PassesOwn.never (di_enum T.z_enumerate (da_cons (de_slice (de_var 0) (do_some (de_var 1)) do_none) da_nil)) (dg_tup rfl (dgs_cons (dg_name 3 S__law_folded.nd) (dgs_cons (dg_name 4 S__law_folded.nd) dgs_nil))) (dss_one (ds_store (de_add (de_ix (de_var 2) (de_mod (de_var 3) (de_var 1))) (de_var 4)) (de_var 2) (de_mod (de_var 3) (de_var 1)))))
  (dss_one (ds_ret (de_var 2)))))) hF__law_folded hX__law_folded
set_option maxHeartbeats 4000000 in
theorem ok__law_amount (T : Top K mg) : GOk P w K mg base CX0 2 T.a__law_amount T.fd__law_amount ["pot", "parts", "unit"] (spF K mg 3 F__law_amount) :=
  fn_okG (k := 1) (fb := den__law_amount) T.F__law_amount S__law_amount rfl (fun cdv A outer s H E hr => 
  (dss_cons (ds_set 3 S__law_amount.nd (de_sum rfl T.z_sum (da_cons (de_lc [("water", 7), ("salt", 8)] (S__law_amount.nd) (blkOk_by (N := N__law_amount) (sc := defScope s__law_amount) (own := [("water", 7), ("salt", 8)]) (by decide +kernel)) (di_seq (de_var 1)) (fun _ _ _ _ _ => (dg_tup rfl (dgs_cons (dg_name 7 S__law_amount.nd) (dgs_cons (dg_name 8 S__law_amount.nd) dgs_nil)))) (fun _ _ _ _ _ => dts_nil) (fun _ _ _ _ _ => (de_var 7))) da_nil)))
  (dss_cons (ds_set 4 S__law_amount.nd (de_callG wok0 (ok__law_take T) (hr.mono (by decide)) T.g__law_take T.F__law_take.kp T.b__law_take (fun _ => pass_0) (da_cons (de_var 0) (da_cons de_int da_nil))))
  (dss_cons (ds_set 5 S__law_amount.nd (de_callG wok0 (ok__law_take T) (hr.mono (by decide)) T.g__law_take T.F__law_take.kp T.b__law_take (fun _ => pass_0) (da_cons (de_var 0) (da_cons (de_add (de_len T.z_len (da_cons (de_var 1) da_nil)) de_int) da_nil))))
  (dss_cons (ds_set 6 S__law_amount.nd (de_callG wok0 (ok__law_take T) (hr.mono (by decide)) T.g__law_take T.F__law_take.kp T.b__law_take (fun _ => pass_0) (da_cons (de_var 0) (da_cons (de_add (de_var 3) de_int) da_nil))))
  (dss_cons (ds_if (dt_eq hr.units (de_var 4) de_int) (dss_one (ds_set 6 S__law_amount.nd de_int)) dss_nil)
  (dss_cons (ds_if (dt_eq hr.units (de_var 4) de_int) (dss_one (ds_set 6 S__law_amount.nd (de_var 3))) dss_nil)
  (dss_cons (ds_if (dt_eq hr.units (de_var 4) de_int) (dss_one (ds_set 6 S__law_amount.nd (de_sum rfl T.z_sum (da_cons (de_lc [("water", 7), ("salt", 8)] (S__law_amount.nd) (blkOk_by (N := N__law_amount) (sc := defScope s__law_amount) (own := [("water", 7), ("salt", 8)]) (by decide +kernel)) (di_seq (de_slice (de_var 1) do_none (do_some (de_var 5)))) (fun _ _ _ _ _ => (dg_tup rfl (dgs_cons (dg_name 7 S__law_amount.nd) (dgs_cons (dg_name 8 S__law_amount.nd) dgs_nil)))) (fun _ _ _ _ _ => dts_nil) (fun _ _ _ _ _ => (de_var 7))) da_nil)))) dss_nil)
  (dss_cons (ds_if (dt_eq hr.units (de_var 4) de_int) (dss_one (ds_set 6 S__law_amount.nd (de_sum rfl T.z_sum (da_cons (de_lc [("water", 7), ("salt", 8)] (S__law_amount.nd) (blkOk_by (N := N__law_amount) (sc := defScope s__law_amount) (own := [("water", 7), ("salt", 8)]) (by decide +kernel)) (di_seq (de_slice (de_var 1) (do_some (de_var 5)) do_none)) (fun _ _ _ _ _ => (dg_tup rfl (dgs_cons (dg_name 7 S__law_amount.nd) (dgs_cons (dg_name 8 S__law_amount.nd) dgs_nil)))) (fun _ _ _ _ _ => dts_nil) (fun _ _ _ _ _ => (de_var 7))) da_nil)))) dss_nil)
  (dss_cons (ds_if (DW.dt (dw_and (dt_eq hr.units (de_var 4) de_int) (dw_and (dt_lt (de_var 2) de_int) (dw_and1 (dt_lt (de_var 6) (de_min rfl T.z_min (da_cons (de_var 3) (da_cons de_int da_nil)))))))) (dss_one (ds_ret (de_callG wok0 (ok__law_low T) (hr.mono (by decide)) T.g__law_low T.F__law_low.kp T.b__law_low (fun _ => pass_0) (da_cons (de_add (de_mul de_int (de_var 6)) de_int) (da_cons (de_mul de_int (de_var 2)) da_nil))))) dss_nil)
  (dss_one (ds_ret (de_callG wok0 (ok__law_low T) (hr.mono (by decide)) T.g__law_low T.F__law_low.kp T.b__law_low (fun _ => pass_0) (da_cons (de_var 6) (da_cons (de_var 2) da_nil))))))))))))))) hF__law_amount hX__law_amount
set_option maxHeartbeats 4000000 in
theorem ok__law_drawn (T : Top K mg) : GOk P w K mg base CX0 1 T.a__law_drawn T.fd__law_drawn ["brine"] (spF K mg 1 F__law_drawn) :=
  fn_okG (k := 0) (fb := den__law_drawn) T.F__law_drawn S__law_drawn rfl (fun cdv A outer s H E hr => 
  (dss_one (ds_ret (de_tup (da_cons (de_lc [("layer", 1)] (S__law_drawn.nd) (blkOk_by (N := N__law_drawn) (sc := defScope s__law_drawn) (own := [("layer", 1)]) (by decide +kernel)) (di_seq (de_var 0)) (fun _ _ _ _ _ => (dg_name 1 S__law_drawn.nd)) (fun _ _ _ _ _ => (dts_one (dt_eq hr.units (de_ix (de_var 1) de_int) (de_tup (da_cons de_int (da_cons de_int da_nil)))))) (fun _ _ _ _ _ => (de_var 1))) (da_cons (de_lc [("layer", 1)] (S__law_drawn.nd) (blkOk_by (N := N__law_drawn) (sc := defScope s__law_drawn) (own := [("layer", 1)]) (by decide +kernel)) (di_seq (de_var 0)) (fun _ _ _ _ _ => (dg_name 1 S__law_drawn.nd)) (fun _ _ _ _ _ => (dts_one (dt_ne hr.units (de_ix (de_var 1) de_int) (de_tup (da_cons de_int (da_cons de_int da_nil)))))) (fun _ _ _ _ _ => (de_var 1))) da_nil)))))) hF__law_drawn hX__law_drawn
set_option maxHeartbeats 4000000 in
theorem ok__law_under (T : Top K mg) : GOk P w K mg base CX0 1 T.a__law_under T.fd__law_under ["one", "other"] (spF K mg 2 F__law_under) :=
  fn_okG (k := 0) (fb := den__law_under) T.F__law_under S__law_under rfl (fun cdv A outer s H E hr => 
  (dss_one (ds_ret (de_lt (de_mul (de_ix (de_var 0) de_int) (de_ix (de_var 1) de_int)) (de_mul (de_ix (de_var 1) de_int) (de_ix (de_var 0) de_int)))))) hF__law_under hX__law_under
set_option maxHeartbeats 4000000 in
theorem ok__law_less (T : Top K mg) : GOk P w K mg base CX0 2 T.a__law_less T.fd__law_less ["one", "other"] (spF K mg 2 F__law_less) :=
  fn_okG (k := 1) (fb := den__law_less) T.F__law_less S__law_less rfl (fun cdv A outer s H E hr => 
  (dss_one (ds_ret (de_callG wok0 (ok__law_low T) (hr.mono (by decide)) T.g__law_low T.F__law_low.kp T.b__law_low (fun _ => pass_0) (da_cons (de_sub (de_mul (de_ix (de_var 0) de_int) (de_ix (de_var 1) de_int)) (de_mul (de_ix (de_var 1) de_int) (de_ix (de_var 0) de_int))) (da_cons (de_mul (de_ix (de_var 0) de_int) (de_ix (de_var 1) de_int)) da_nil)))))) hF__law_less hX__law_less
set_option maxHeartbeats 4000000 in
theorem ok__law_by (T : Top K mg) : GOk P w K mg base CX0 2 T.a__law_by T.fd__law_by ["one", "other"] (spF K mg 2 F__law_by) :=
  fn_okG (k := 1) (fb := den__law_by) T.F__law_by S__law_by rfl (fun cdv A outer s H E hr => 
  (dss_one (ds_ret (de_callG wok0 (ok__law_low T) (hr.mono (by decide)) T.g__law_low T.F__law_low.kp T.b__law_low (fun _ => pass_0) (da_cons (de_mul (de_ix (de_var 0) de_int) (de_ix (de_var 1) de_int)) (da_cons (de_mul (de_ix (de_var 0) de_int) (de_ix (de_var 1) de_int)) da_nil)))))) hF__law_by hX__law_by
set_option maxHeartbeats 4000000 in
theorem ok__law_times (T : Top K mg) : GOk P w K mg base CX0 2 T.a__law_times T.fd__law_times ["one", "other"] (spF K mg 2 F__law_times) :=
  fn_okG (k := 1) (fb := den__law_times) T.F__law_times S__law_times rfl (fun cdv A outer s H E hr => 
  (dss_one (ds_ret (de_callG wok0 (ok__law_low T) (hr.mono (by decide)) T.g__law_low T.F__law_low.kp T.b__law_low (fun _ => pass_0) (da_cons (de_mul (de_ix (de_var 0) de_int) (de_ix (de_var 1) de_int)) (da_cons (de_mul (de_ix (de_var 0) de_int) (de_ix (de_var 1) de_int)) da_nil)))))) hF__law_times hX__law_times
set_option maxHeartbeats 4000000 in
theorem ok__law_taken (T : Top K mg) : GOk P w K mg base CX0 3 T.a__law_taken T.fd__law_taken ["layers", "water"] (spF K mg 2 F__law_taken) :=
  fn_okG (k := 2) (fb := den__law_taken) T.F__law_taken S__law_taken rfl (fun cdv A outer s H E hr => 
  (dss_cons (ds_set 2 S__law_taken.nd (de_lstM da_nil))
  (dss_cons (ds_set 3 S__law_taken.nd (de_lstM da_nil))
  (dss_cons (ds_frzv 3 (ds_frzv 2 (ds_for PassesOwn.never (di_seq (de_var 0)) (dg_tup rfl (dgs_cons (dg_name 4 S__law_taken.nd) (dgs_cons (dg_name 5 S__law_taken.nd) dgs_nil))) (dss_cons (ds_set 6 S__law_taken.nd (de_var 1))
  (dss_cons (ds_if (dt_val (de_callG wok0 (ok__law_under T) (hr.mono (by decide)) T.g__law_under T.F__law_under.kp T.b__law_under (fun _ => pass_0) (da_cons (de_var 4) (da_cons (de_var 6) da_nil)))) (dss_one (ds_set 6 S__law_taken.nd (de_var 4))) dss_nil)
  (dss_cons (ds_set 1 S__law_taken.nd (de_callG wok0 (ok__law_less T) (hr.mono (by decide)) T.g__law_less T.F__law_less.kp T.b__law_less (fun _ => pass_0) (da_cons (de_var 1) (da_cons (de_var 6) da_nil))))
  (dss_cons (ds_set 7 S__law_taken.nd (de_callG wok0 (ok__law_by T) (hr.mono (by decide)) T.g__law_by T.F__law_by.kp T.b__law_by (fun _ => pass_0) (da_cons (de_callG wok0 (ok__law_times T) (hr.mono (by decide)) T.g__law_times T.F__law_times.kp T.b__law_times (fun _ => pass_0) (da_cons (de_var 5) (da_cons (de_var 6) da_nil))) (da_cons (de_var 4) da_nil))))
  (dss_cons (ds_expr (de_append (de_var 2) (de_tup (da_cons (de_var 6) (da_cons (de_var 7) da_nil)))))
  (dss_one (ds_expr (de_append (de_var 3) (de_tup (da_cons (de_callG wok0 (ok__law_less T) (hr.mono (by decide)) T.g__law_less T.F__law_less.kp T.b__law_less (fun _ => pass_0) (da_cons (de_var 4) (da_cons (de_var 6) da_nil))) (da_cons (de_callG wok0 (ok__law_less T) (hr.mono (by decide)) T.g__law_less T.F__law_less.kp T.b__law_less (fun _ => pass_0) (da_cons (de_var 5) (da_cons (de_var 7) da_nil))) da_nil))))))))))))))
  (dss_one (ds_ret (de_lc [("some", 8)] (S__law_taken.nd) (blkOk_by (N := N__law_taken) (sc := defScope s__law_taken) (own := [("some", 8)]) (by decide +kernel)) (di_list (de_lst (da_cons (de_var 2) (da_cons (de_var 3) da_nil)))) (fun _ _ _ _ _ => (dg_name 8 S__law_taken.nd)) (fun _ _ _ _ _ => dts_nil) (fun _ _ _ _ _ => (de_lc [("layer", 9)] (S__law_taken.nd) (blkOk_by (own := [("layer", 9)]) (by rfl)) (di_seq (de_var 8)) (fun _ _ _ _ _ => (dg_name 9 S__law_taken.nd)) (fun _ _ _ _ _ => (dts_one (dt_ne hr.units (de_ix (de_var 9) de_int) (de_tup (da_cons de_int (da_cons de_int da_nil)))))) (fun _ _ _ _ _ => (de_var 9))))))))))) hF__law_taken hX__law_taken
set_option maxHeartbeats 4000000 in
theorem ok__law_under_taken (T : Top K mg) : GOk P w K mg base CX0 4 T.a__law_under_taken T.fd__law_under_taken ["brine", "water"] (spF K mg 2 F__law_under_taken) :=
  fn_okG (k := 3) (fb := den__law_under_taken) T.F__law_under_taken S__law_under_taken rfl (fun cdv A outer s H E hr => 
  (dss_cons (ds_asg (de_callG wok0 (ok__law_drawn T) (hr.mono (by decide)) T.g__law_drawn T.F__law_drawn.kp T.b__law_drawn (fun _ => pass_0) (da_cons (de_var 0) da_nil)) (dg_tup rfl (dgs_cons (dg_name 2 S__law_under_taken.nd) (dgs_cons (dg_name 3 S__law_under_taken.nd) dgs_nil))))
  (dss_cons (ds_asg (de_callG wok0 (ok__law_taken T) (hr.mono (by decide)) T.g__law_taken T.F__law_taken.kp T.b__law_taken (fun _ => pass_0) (da_cons (de_var 3) (da_cons (de_var 1) da_nil))) (dg_lst rfl (dgs_cons (dg_name 4 S__law_under_taken.nd) (dgs_cons (dg_name 5 S__law_under_taken.nd) dgs_nil))))
  (dss_one (ds_ret (de_tup (da_cons (de_tupOf T.z_tuple (da_cons (de_var 4) da_nil)) (da_cons (de_tupOf T.z_tuple (da_cons (de_add (de_var 2) (de_var 5)) da_nil)) da_nil)))))))) hF__law_under_taken hX__law_under_taken
set_option maxHeartbeats 4000000 in
theorem ok__law_over_taken (T : Top K mg) : GOk P w K mg base CX0 4 T.a__law_over_taken T.fd__law_over_taken ["brine", "water"] (spF K mg 2 F__law_over_taken) :=
  fn_okG (k := 3) (fb := den__law_over_taken) T.F__law_over_taken S__law_over_taken rfl (fun cdv A outer s H E hr => 
  (dss_cons (ds_asg (de_callG wok0 (ok__law_drawn T) (hr.mono (by decide)) T.g__law_drawn T.F__law_drawn.kp T.b__law_drawn (fun _ => pass_0) (da_cons (de_var 0) da_nil)) (dg_tup rfl (dgs_cons (dg_name 2 S__law_over_taken.nd) (dgs_cons (dg_name 3 S__law_over_taken.nd) dgs_nil))))
  (dss_cons (ds_asg (de_callG wok0 (ok__law_taken T) (hr.mono (by decide)) T.g__law_taken T.F__law_taken.kp T.b__law_taken (fun _ => pass_0) (da_cons (de_rv (de_var 3)) (da_cons (de_var 1) da_nil))) (dg_lst rfl (dgs_cons (dg_name 4 S__law_over_taken.nd) (dgs_cons (dg_name 5 S__law_over_taken.nd) dgs_nil))))
  (dss_one (ds_ret (de_tup (da_cons (de_tupOf T.z_tuple (da_cons (de_rv (de_var 4)) da_nil)) (da_cons (de_tupOf T.z_tuple (da_cons (de_add (de_var 2) (de_rv (de_var 5))) da_nil)) da_nil)))))))) hF__law_over_taken hX__law_over_taken
set_option maxHeartbeats 4000000 in
theorem ok_skimmed (T : Top K mg) : GOk P w K mg base (L2.CX P w) 7 T.a_skimmed T.fd_skimmed ["brine", "water"] (spF K mg 2 F_skimmed) :=
  fn_okXG (k := 6) (fb := den_skimmed) T.F_skimmed S_skimmed rfl (fun cdv A outer s H E hr => 
  (dss_cons (ds_expr (de_callG wokX (ok_check_there T) (hr.mono (by decide)) T.g_check_there T.F_check_there.kp T.b_check_there (fun σ => passAt (takes_of rfl rfl rfl rfl) σ) (da_cons (de_var 0) (da_cons (de_var 1) da_nil))))
  (dss_cons (ds_asg (de_callG wokX (ok_parted T) (hr.mono (by decide)) T.g_parted T.F_parted.kp T.b_parted (fun _ => pass_0) (da_cons (de_rv (de_callG wokX (ok_dissolved_of T) (hr.mono (by decide)) T.g_dissolved_of T.F_dissolved_of.kp T.b_dissolved_of (fun _ => pass_0) (da_cons (de_var 0) da_nil))) (da_cons (de_var 1) da_nil))) (dg_tup rfl (dgs_cons (dg_name 2 S_skimmed.nd) (dgs_cons (dg_name 3 S_skimmed.nd) dgs_nil))))
  (dss_one (ds_ret (de_tup (da_cons (de_rv (de_var 2)) (da_cons (de_add (de_callG wokX (ok_fallen_layers T) (hr.mono (by decide)) T.g_fallen_layers T.F_fallen_layers.kp T.b_fallen_layers (fun _ => pass_0) (da_cons (de_var 0) da_nil)) (de_rv (de_var 3))) da_nil)))))))) hF_skimmed
set_option maxHeartbeats 4000000 in
theorem okH__law_word (T : Top K mg) : HCk P w K mg base CX0 1 T.a__law_word T.fd__law_word ["caught"] (spF K mg 1 F__law_word) :=
  fn_okH (k := 0) (fb := den__law_word) T.F__law_word S__law_word rfl (fun cdv A outer s H E hr => 
  (dss_cons (ds_set 1 S__law_word.nd (de_lst (da_cons (de_isi (pe_glob (v := .ref T.c_NoFraction) rfl T.g_NoFraction rfl) (ClsV.own T.c_NoFraction) (isi_NoFraction T) T.z_isinstance (de_var 0)) (da_cons (de_isi (pe_glob (v := .ref T.c_NoBrine) rfl T.g_NoBrine rfl) (ClsV.own T.c_NoBrine) (isi_NoBrine T) T.z_isinstance (de_var 0)) (da_cons (de_isi (pe_glob (v := .ref T.c_NoStrength) rfl T.g_NoStrength rfl) (ClsV.own T.c_NoStrength) (isi_NoStrength T) T.z_isinstance (de_var 0)) da_nil)))))
  (dss_cons (ds_set 1 S__law_word.nd (de_add (de_var 1) (de_lst (da_cons (de_isi (pe_glob (v := .ref T.c_NoWater) rfl T.g_NoWater rfl) (ClsV.own T.c_NoWater) (isi_NoWater T) T.z_isinstance (de_var 0)) (da_cons (de_isi (pe_glob (v := .ref T.c_NoMoment) rfl T.g_NoMoment rfl) (ClsV.own T.c_NoMoment) (isi_NoMoment T) T.z_isinstance (de_var 0)) (da_cons (de_isi (pe_glob (v := .ref T.c_NoYear) rfl T.g_NoYear rfl) (ClsV.own T.c_NoYear) (isi_NoYear T) T.z_isinstance (de_var 0)) da_nil))))))
  (dss_cons (ds_set 1 S__law_word.nd (de_add (de_var 1) (de_lst (da_cons (de_isi (pe_glob (v := .ref T.c_NoPan) rfl T.g_NoPan rfl) (ClsV.own T.c_NoPan) (isi_NoPan T) T.z_isinstance (de_var 0)) (da_cons (de_isi (pe_glob (v := .ref T.c_NoRoom) rfl T.g_NoRoom rfl) (ClsV.own T.c_NoRoom) (isi_NoRoom T) T.z_isinstance (de_var 0)) (da_cons (de_isi (pe_glob (v := .ref T.c_Weaker) rfl T.g_Weaker rfl) (ClsV.own T.c_Weaker) (isi_Weaker T) T.z_isinstance (de_var 0)) da_nil))))))
  (dss_cons (ds_set 1 S__law_word.nd (de_add (de_var 1) (de_lst (da_cons (de_isi (pe_glob (v := .ref T.c_NoDeed) rfl T.g_NoDeed rfl) (ClsV.own T.c_NoDeed) (isi_NoDeed T) T.z_isinstance (de_var 0)) (da_cons (de_isi (pe_glob (v := .ref T.c_NoGate) rfl T.g_NoGate rfl) (ClsV.own T.c_NoGate) (isi_NoGate T) T.z_isinstance (de_var 0)) (da_cons (de_isi (pe_glob (v := .ref T.c_NoLot) rfl T.g_NoLot rfl) (ClsV.own T.c_NoLot) (isi_NoLot T) T.z_isinstance (de_var 0)) da_nil))))))
  (dss_cons (ds_set 1 S__law_word.nd (de_add (de_var 1) (de_lst (da_cons (de_isi (pe_glob (v := .ref T.c_NoPlan) rfl T.g_NoPlan rfl) (ClsV.own T.c_NoPlan) (isi_NoPlan T) T.z_isinstance (de_var 0)) (da_cons (de_isi (pe_glob (v := .ref T.c_NoLine) rfl T.g_NoLine rfl) (ClsV.own T.c_NoLine) (isi_NoLine T) T.z_isinstance (de_var 0)) (da_cons (de_isi (pe_glob (v := .ref T.c_NoLater) rfl T.g_NoLater rfl) (ClsV.own T.c_NoLater) (isi_NoLater T) T.z_isinstance (de_var 0)) da_nil))))))
  (dss_cons (ds_set 1 S__law_word.nd (de_add (de_var 1) (de_lst (da_cons (de_isi (pe_glob (v := .ref T.c_NoText) rfl T.g_NoText rfl) (ClsV.own T.c_NoText) (isi_NoText T) T.z_isinstance (de_var 0)) da_nil))))
  (dss_cons (ds_set 2 S__law_word.nd (de_lst (da_cons de_str (da_cons de_str (da_cons de_str (da_cons de_str (da_cons de_str (da_cons de_str (da_cons de_str (da_cons de_str (da_cons de_str (da_cons de_str (da_cons de_str da_nil)))))))))))))
  (dss_cons (ds_set 2 S__law_word.nd (de_add (de_var 2) (de_lst (da_cons de_str (da_cons de_str (da_cons de_str (da_cons de_str (da_cons de_str da_nil))))))))
  (dss_cons (ds_if (DW.dt (dw_or (dt_ne hr.units (de_cntB (de_var 1) (da_cons de_bl da_nil)) de_int) (dw_or1 (dt_not (dt_val (de_isi (pe_bltn (v := .ty "ValueError") (u := .type "ValueError") rfl T.z_ValueError (by decide +kernel) rfl) (ClsV.ty "ValueError") (isi_ValueError T) T.z_isinstance (de_var 0))))))) (dss_one (ds_ret (de_lst (da_cons de_str da_nil)))) dss_nil)
  (dss_one (ds_ret (de_lst (da_cons (de_ix (de_var 2) (de_idxB (de_var 1) (da_cons de_bl da_nil))) da_nil)))))))))))))) hF__law_word hX__law_word
set_option maxHeartbeats 4000000 in
theorem ok__law_told (T : Top K mg) : GOk P w K mg base CX0 8 T.a__law_told T.fd__law_told ["which", "brine", "water"] (spF K mg 3 F__law_told) :=
  fn_okG (k := 7) (fb := den__law_told) T.F__law_told S__law_told rfl (fun cdv A outer s H E hr => 
  (dss_cons (ds_tryS wok0 takes0 S__law_told.nd T.g_BrineError (mt_BrineError_ok T) (fun WC pl xe tk po => (dss_one (ds_set 4 S__law_told.nd (de_if (dt_eq hr.units (de_var 0) de_int) (de_callG wokT (ok_drawn T) (hr.mono (by decide)) T.g_drawn T.F_drawn.kp T.b_drawn (fun σ => passAt tk σ) (da_cons (de_var 1) (da_cons (de_var 2) da_nil))) (de_callG wokT (ok_skimmed T) (hr.mono (by decide)) T.g_skimmed T.F_skimmed.kp T.b_skimmed (fun σ => passAt tk σ) (da_cons (de_var 1) (da_cons (de_var 2) da_nil))))))) (fun ae pl => (dss_one (ds_ret (de_callHC wok0 (okH__law_word T) ((hr.hot.mark _).mono (by decide)) T.g__law_word T.F__law_word.kp T.b__law_word (fun _ => pass_0) (da_cons (de_var 3) da_nil))))))
  (dss_one (ds_ret (de_lst (da_cons (de_var 4) da_nil)))))) hF__law_told hX__law_told
set_option maxHeartbeats 4000000 in
theorem ok_law (T : Top K mg) : GOk P w K mg base CX0 9 T.a_law T.fd_law ["script"] (spF K mg 1 F_law) :=
  fn_okG (k := 8) (fb := den_law) T.F_law S_law rfl (fun cdv A outer s H E hr => 
  (dss_cons (ds_for PassesOwn.never (di_enum T.z_enumerate (da_cons (de_addL (de_lst (da_cons de_int da_nil)) (de_callG wok0 (ok__law_folded T) (hr.mono (by decide)) T.g__law_folded T.F__law_folded.kp T.b__law_folded (fun _ => pass_0) (da_cons (de_var 0) (da_cons de_int da_nil)))) da_nil)) (dg_tup rfl (dgs_cons (dg_name 3 S_law.nd) (dgs_cons (dg_name 4 S_law.nd) dgs_nil))) (dss_cons (ds_set 5 S_law.nd (de_callG wok0 (ok__law_pot T) (hr.mono (by decide)) T.g__law_pot T.F__law_pot.kp T.b__law_pot (fun _ => pass_0) (da_cons (de_var 4) (da_cons (de_var 3) da_nil))))
  (dss_cons (ds_asg (de_callG wok0 (ok__law_case T) (hr.mono (by decide)) T.g__law_case T.F__law_case.kp T.b__law_case (fun _ => pass_0) (da_cons (de_var 5) (da_cons (de_eq hr.units (de_var 3) de_int) da_nil))) (dg_tup rfl (dgs_cons (dg_name 11 S_law.nd) (dgs_cons (dg_name 12 S_law.nd) (dgs_cons (dg_name 13 S_law.nd) dgs_nil)))))
  (dss_cons (ds_set 6 S_law.nd (de_callG wok0 (ok__law_brine T) (hr.mono (by decide)) T.g__law_brine T.F__law_brine.kp T.b__law_brine (fun _ => pass_0) (da_cons (de_var 13) (da_cons (de_var 12) da_nil))))
  (dss_cons (ds_for PassesOwn.never (di_range1 T.z_range (da_cons de_int da_nil)) (dg_name 7 S_law.nd) (dss_cons (ds_set 14 S_law.nd (de_callG wok0 (ok__law_amount T) (hr.mono (by decide)) T.g__law_amount T.F__law_amount.kp T.b__law_amount (fun _ => pass_0) (da_cons (de_var 5) (da_cons (de_var 13) (da_cons (de_var 12) da_nil)))))
  (dss_cons (ds_set 15 S_law.nd (de_lst (da_cons (de_lst (da_cons (de_callG wok0 (ok__law_under_taken T) (hr.mono (by decide)) T.g__law_under_taken T.F__law_under_taken.kp T.b__law_under_taken (fun _ => pass_0) (da_cons (de_var 6) (da_cons (de_var 14) da_nil))) da_nil)) (da_cons (de_lst (da_cons (de_callG wok0 (ok__law_over_taken T) (hr.mono (by decide)) T.g__law_over_taken T.F__law_over_taken.kp T.b__law_over_taken (fun _ => pass_0) (da_cons (de_var 6) (da_cons (de_var 14) da_nil))) da_nil)) da_nil))))
  (dss_one (ds_for PassesOwn.never (di_list (de_lst (da_cons de_int (da_cons de_int (da_cons de_int (da_cons de_int da_nil)))))) (dg_name 16 S_law.nd) (dss_one (ds_if (dt_neS (de_reprD ⟨_, hr⟩ T.z_repr (da_cons (de_callG wok0 (ok__law_told T) (hr.mono (by decide)) T.g__law_told T.F__law_told.kp T.b__law_told (fun _ => pass_0) (da_cons (de_var 16) (da_cons (de_var 6) (da_cons (de_var 14) da_nil)))) da_nil)) (de_reprD ⟨_, hr⟩ T.z_repr (da_cons (de_ix (de_var 15) (de_var 16)) da_nil))) (dss_one (ds_ret de_bl)) dss_nil)))))))
  (dss_cons (ds_set 8 S_law.nd (de_sum rfl T.z_sum (da_cons (de_lc [("water", 14), ("salt", 17)] (S_law.nd) (blkOk_by (N := N_law) (sc := defScope s_law) (own := [("water", 14), ("salt", 17)]) (by decide +kernel)) (di_seq (de_var 13)) (fun _ _ _ _ _ => (dg_tup rfl (dgs_cons (dg_name 14 S_law.nd) (dgs_cons (dg_name 17 S_law.nd) dgs_nil)))) (fun _ _ _ _ _ => dts_nil) (fun _ _ _ _ _ => (de_var 14))) da_nil)))
  (dss_cons (ds_set 9 S_law.nd (de_callG wok0 (ok_times T) (hr.mono (by decide)) T.g_times T.F_times.kp T.b_times (fun _ => pass_0) (da_cons (de_tup (da_cons de_int (da_cons de_int da_nil))) (da_cons (de_tup (da_cons de_int (da_cons de_int da_nil))) da_nil))))
  (dss_cons (ds_set 1 S_law.nd (de_lst (da_cons (de_tup (da_cons (de_neg de_int) (da_cons (de_var 12) da_nil))) (da_cons (de_callG wok0 (ok__law_low T) (hr.mono (by decide)) T.g__law_low T.F__law_low.kp T.b__law_low (fun _ => pass_0) (da_cons (de_add (de_var 8) de_int) (da_cons (de_var 12) da_nil))) (da_cons (de_tup (da_cons (de_pow de_int de_int) (da_cons de_int da_nil))) (da_cons (de_tup (da_cons (de_sub de_int (de_pow de_int de_int)) (da_cons de_int da_nil))) da_nil))))))
  (dss_one (ds_for PassesOwn.never (di_seq (de_add (de_var 1) (de_lst (da_cons (de_callG wok0 (ok_less T) (hr.mono (by decide)) T.g_less T.F_less.kp T.b_less (fun _ => pass_0) (da_cons (de_tup (da_cons de_int (da_cons de_int da_nil))) (da_cons (de_var 9) da_nil))) (da_cons (de_callG wok0 (ok_plus T) (hr.mono (by decide)) T.g_plus T.F_plus.kp T.b_plus (fun _ => pass_0) (da_cons (de_callG wok0 (ok_water_of T) (hr.mono (by decide)) T.g_water_of T.F_water_of.kp T.b_water_of (fun _ => pass_0) (da_cons (de_var 6) da_nil)) (da_cons (de_var 9) da_nil))) da_nil))))) (dg_name 10 S_law.nd) (dss_one (ds_if (DW.dt (dw_or (dt_ne hr.units (de_callG wok0 (ok__law_told T) (hr.mono (by decide)) T.g__law_told T.F__law_told.kp T.b__law_told (fun _ => pass_0) (da_cons de_int (da_cons (de_var 6) (da_cons (de_var 10) da_nil)))) (de_lst (da_cons de_str da_nil))) (dw_or1 (dt_ne hr.units (de_callG wok0 (ok__law_told T) (hr.mono (by decide)) T.g__law_told T.F__law_told.kp T.b__law_told (fun _ => pass_0) (da_cons de_int (da_cons (de_var 6) (da_cons (de_var 10) da_nil)))) (de_lst (da_cons de_str da_nil)))))) (dss_one (ds_ret de_bl)) dss_nil))))))))))))
  (dss_cons (ds_set 1 S_law.nd (de_tup (da_cons (de_tup (da_cons (de_tup (da_cons de_int (da_cons de_int da_nil))) (da_cons (de_tup (da_cons de_int (da_cons de_int da_nil))) da_nil))) (da_cons (de_tup (da_cons (de_tup (da_cons de_int (da_cons de_int da_nil))) (da_cons (de_tup (da_cons de_int (da_cons de_int da_nil))) da_nil))) (da_cons (de_tup (da_cons (de_tup (da_cons de_int (da_cons de_int da_nil))) (da_cons (de_tup (da_cons de_int (da_cons de_int da_nil))) da_nil))) da_nil)))))
  (dss_cons (ds_set 2 S_law.nd (de_tup (da_cons (de_tup (da_cons (de_tup (da_cons de_int (da_cons de_int da_nil))) (da_cons (de_tup (da_cons de_int (da_cons de_int da_nil))) da_nil))) (da_cons (de_tup (da_cons (de_tup (da_cons de_int (da_cons de_int da_nil))) (da_cons (de_tup (da_cons de_int (da_cons de_int da_nil))) da_nil))) da_nil))))
  (dss_one (ds_ret (de_eq hr.units (de_callG wok0 (ok_drawn T) (hr.mono (by decide)) T.g_drawn T.F_drawn.kp T.b_drawn (fun σ => passAt takes0 σ) (da_cons (de_var 1) (da_cons (de_tup (da_cons de_int (da_cons de_int da_nil))) da_nil))) (de_tup (da_cons (de_tup (da_cons (de_tup (da_cons (de_tup (da_cons de_int (da_cons de_int da_nil))) (da_cons (de_tup (da_cons de_int (da_cons de_int da_nil))) da_nil))) (da_cons (de_tup (da_cons (de_tup (da_cons de_int (da_cons de_int da_nil))) (da_cons (de_tup (da_cons de_int (da_cons de_int da_nil))) da_nil))) da_nil))) (da_cons (de_var 2) da_nil)))))))))) hF_law hX_law
end
set_option maxHeartbeats 0 in
theorem all_mk {K : PySem.W.Frag} {h : Heap} {mg : Str → Option Value} (X : K.In h) (G : h.Ns mainGlobals mg)
    {f0 : Addr} {od0 an0 : Option Addr} {sl0 : Array (Option Value)} {oc0 kV0 dc0 pm0 cd0 ct0 : Value}
    (a0 : PySem.W.nsIn K mainGlobals "_law_pot" = some (some (.ref f0))) (l0 : K.lookup f0 = some ⟨oc0, od0, .func (PySem.W.fnOf "_law_pot" "_law_pot" (defArgs s__law_pot) (defBody s__law_pot) (defScope s__law_pot) .none kV0 dc0 pm0 an0 cd0 ct0), sl0⟩) (c0 : PySem.W.codeIn K cd0 "_law_pot" = true) (k0 : PySem.W.keepIn K (.ref f0) = true)
    {f1 : Addr} {od1 an1 : Option Addr} {sl1 : Array (Option Value)} {oc1 kV1 dc1 pm1 cd1 ct1 : Value}
    (a1 : PySem.W.nsIn K mainGlobals "_law_take" = some (some (.ref f1))) (l1 : K.lookup f1 = some ⟨oc1, od1, .func (PySem.W.fnOf "_law_take" "_law_take" (defArgs s__law_take) (defBody s__law_take) (defScope s__law_take) .none kV1 dc1 pm1 an1 cd1 ct1), sl1⟩) (c1 : PySem.W.codeIn K cd1 "_law_take" = true) (k1 : PySem.W.keepIn K (.ref f1) = true)
    {f2 : Addr} {od2 an2 : Option Addr} {sl2 : Array (Option Value)} {oc2 kV2 dc2 pm2 cd2 ct2 : Value}
    (a2 : PySem.W.nsIn K mainGlobals "_law_full" = some (some (.ref f2))) (l2 : K.lookup f2 = some ⟨oc2, od2, .func (PySem.W.fnOf "_law_full" "_law_full" (defArgs s__law_full) (defBody s__law_full) (defScope s__law_full) .none kV2 dc2 pm2 an2 cd2 ct2), sl2⟩) (c2 : PySem.W.codeIn K cd2 "_law_full" = true) (k2 : PySem.W.keepIn K (.ref f2) = true)
    {f3 : Addr} {od3 an3 : Option Addr} {sl3 : Array (Option Value)} {oc3 kV3 dc3 pm3 cd3 ct3 : Value}
    (a3 : PySem.W.nsIn K mainGlobals "_law_unit" = some (some (.ref f3))) (l3 : K.lookup f3 = some ⟨oc3, od3, .func (PySem.W.fnOf "_law_unit" "_law_unit" (defArgs s__law_unit) (defBody s__law_unit) (defScope s__law_unit) .none kV3 dc3 pm3 an3 cd3 ct3), sl3⟩) (c3 : PySem.W.codeIn K cd3 "_law_unit" = true) (k3 : PySem.W.keepIn K (.ref f3) = true)
    {f4 : Addr} {od4 an4 : Option Addr} {sl4 : Array (Option Value)} {oc4 kV4 dc4 pm4 cd4 ct4 : Value}
    (a4 : PySem.W.nsIn K mainGlobals "_law_laid" = some (some (.ref f4))) (l4 : K.lookup f4 = some ⟨oc4, od4, .func (PySem.W.fnOf "_law_laid" "_law_laid" (defArgs s__law_laid) (defBody s__law_laid) (defScope s__law_laid) .none kV4 dc4 pm4 an4 cd4 ct4), sl4⟩) (c4 : PySem.W.codeIn K cd4 "_law_laid" = true) (k4 : PySem.W.keepIn K (.ref f4) = true)
    {f5 : Addr} {od5 an5 : Option Addr} {sl5 : Array (Option Value)} {oc5 kV5 dc5 pm5 cd5 ct5 : Value}
    (a5 : PySem.W.nsIn K mainGlobals "_law_long" = some (some (.ref f5))) (l5 : K.lookup f5 = some ⟨oc5, od5, .func (PySem.W.fnOf "_law_long" "_law_long" (defArgs s__law_long) (defBody s__law_long) (defScope s__law_long) .none kV5 dc5 pm5 an5 cd5 ct5), sl5⟩) (c5 : PySem.W.codeIn K cd5 "_law_long" = true) (k5 : PySem.W.keepIn K (.ref f5) = true)
    {f6 : Addr} {od6 an6 : Option Addr} {sl6 : Array (Option Value)} {oc6 kV6 dc6 pm6 cd6 ct6 : Value}
    (a6 : PySem.W.nsIn K mainGlobals "_law_layer" = some (some (.ref f6))) (l6 : K.lookup f6 = some ⟨oc6, od6, .func (PySem.W.fnOf "_law_layer" "_law_layer" (defArgs s__law_layer) (defBody s__law_layer) (defScope s__law_layer) .none kV6 dc6 pm6 an6 cd6 ct6), sl6⟩) (c6 : PySem.W.codeIn K cd6 "_law_layer" = true) (k6 : PySem.W.keepIn K (.ref f6) = true)
    {f7 : Addr} {od7 an7 : Option Addr} {sl7 : Array (Option Value)} {oc7 kV7 dc7 pm7 cd7 ct7 : Value}
    (a7 : PySem.W.nsIn K mainGlobals "_law_parts" = some (some (.ref f7))) (l7 : K.lookup f7 = some ⟨oc7, od7, .func (PySem.W.fnOf "_law_parts" "_law_parts" (defArgs s__law_parts) (defBody s__law_parts) (defScope s__law_parts) .none kV7 dc7 pm7 an7 cd7 ct7), sl7⟩) (c7 : PySem.W.codeIn K cd7 "_law_parts" = true) (k7 : PySem.W.keepIn K (.ref f7) = true)
    {f8 : Addr} {od8 an8 : Option Addr} {sl8 : Array (Option Value)} {oc8 kV8 dc8 pm8 cd8 ct8 : Value}
    (a8 : PySem.W.nsIn K mainGlobals "_law_case" = some (some (.ref f8))) (l8 : K.lookup f8 = some ⟨oc8, od8, .func (PySem.W.fnOf "_law_case" "_law_case" (defArgs s__law_case) (defBody s__law_case) (defScope s__law_case) .none kV8 dc8 pm8 an8 cd8 ct8), sl8⟩) (c8 : PySem.W.codeIn K cd8 "_law_case" = true) (k8 : PySem.W.keepIn K (.ref f8) = true)
    {f9 : Addr} {od9 an9 : Option Addr} {sl9 : Array (Option Value)} {oc9 kV9 dc9 pm9 cd9 ct9 : Value}
    (a9 : PySem.W.nsIn K mainGlobals "_law_low" = some (some (.ref f9))) (l9 : K.lookup f9 = some ⟨oc9, od9, .func (PySem.W.fnOf "_law_low" "_law_low" (defArgs s__law_low) (defBody s__law_low) (defScope s__law_low) .none kV9 dc9 pm9 an9 cd9 ct9), sl9⟩) (c9 : PySem.W.codeIn K cd9 "_law_low" = true) (k9 : PySem.W.keepIn K (.ref f9) = true)
    {f10 : Addr} {od10 an10 : Option Addr} {sl10 : Array (Option Value)} {oc10 kV10 dc10 pm10 cd10 ct10 : Value}
    (a10 : PySem.W.nsIn K mainGlobals "_law_brine" = some (some (.ref f10))) (l10 : K.lookup f10 = some ⟨oc10, od10, .func (PySem.W.fnOf "_law_brine" "_law_brine" (defArgs s__law_brine) (defBody s__law_brine) (defScope s__law_brine) .none kV10 dc10 pm10 an10 cd10 ct10), sl10⟩) (c10 : PySem.W.codeIn K cd10 "_law_brine" = true) (k10 : PySem.W.keepIn K (.ref f10) = true)
    {f11 : Addr} {od11 an11 : Option Addr} {sl11 : Array (Option Value)} {oc11 kV11 dc11 pm11 cd11 ct11 : Value}
    (a11 : PySem.W.nsIn K mainGlobals "common" = some (some (.ref f11))) (l11 : K.lookup f11 = some ⟨oc11, od11, .func (PySem.W.fnOf "common" "common" (defArgs s_common) (defBody s_common) (defScope s_common) .none kV11 dc11 pm11 an11 cd11 ct11), sl11⟩) (c11 : PySem.W.codeIn K cd11 "common" = true) (k11 : PySem.W.keepIn K (.ref f11) = true)
    {f12 : Addr} {od12 an12 : Option Addr} {sl12 : Array (Option Value)} {oc12 kV12 dc12 pm12 cd12 ct12 : Value}
    (a12 : PySem.W.nsIn K mainGlobals "times" = some (some (.ref f12))) (l12 : K.lookup f12 = some ⟨oc12, od12, .func (PySem.W.fnOf "times" "times" (defArgs s_times) (defBody s_times) (defScope s_times) .none kV12 dc12 pm12 an12 cd12 ct12), sl12⟩) (c12 : PySem.W.codeIn K cd12 "times" = true) (k12 : PySem.W.keepIn K (.ref f12) = true)
    {f13 : Addr} {od13 an13 : Option Addr} {sl13 : Array (Option Value)} {oc13 kV13 dc13 pm13 cd13 ct13 : Value}
    (a13 : PySem.W.nsIn K mainGlobals "is_less" = some (some (.ref f13))) (l13 : K.lookup f13 = some ⟨oc13, od13, .func (PySem.W.fnOf "is_less" "is_less" (defArgs s_is_less) (defBody s_is_less) (defScope s_is_less) .none kV13 dc13 pm13 an13 cd13 ct13), sl13⟩) (c13 : PySem.W.codeIn K cd13 "is_less" = true) (k13 : PySem.W.keepIn K (.ref f13) = true)
    {f14 : Addr} {od14 an14 : Option Addr} {sl14 : Array (Option Value)} {oc14 kV14 dc14 pm14 cd14 ct14 : Value}
    (a14 : PySem.W.nsIn K mainGlobals "plus" = some (some (.ref f14))) (l14 : K.lookup f14 = some ⟨oc14, od14, .func (PySem.W.fnOf "plus" "plus" (defArgs s_plus) (defBody s_plus) (defScope s_plus) .none kV14 dc14 pm14 an14 cd14 ct14), sl14⟩) (c14 : PySem.W.codeIn K cd14 "plus" = true) (k14 : PySem.W.keepIn K (.ref f14) = true)
    {f15 : Addr} {od15 an15 : Option Addr} {sl15 : Array (Option Value)} {oc15 kV15 dc15 pm15 cd15 ct15 : Value}
    (a15 : PySem.W.nsIn K mainGlobals "summed" = some (some (.ref f15))) (l15 : K.lookup f15 = some ⟨oc15, od15, .func (PySem.W.fnOf "summed" "summed" (defArgs s_summed) (defBody s_summed) (defScope s_summed) .none kV15 dc15 pm15 an15 cd15 ct15), sl15⟩) (c15 : PySem.W.codeIn K cd15 "summed" = true) (k15 : PySem.W.keepIn K (.ref f15) = true)
    {f16 : Addr} {od16 an16 : Option Addr} {sl16 : Array (Option Value)} {oc16 kV16 dc16 pm16 cd16 ct16 : Value}
    (a16 : PySem.W.nsIn K mainGlobals "water_of" = some (some (.ref f16))) (l16 : K.lookup f16 = some ⟨oc16, od16, .func (PySem.W.fnOf "water_of" "water_of" (defArgs s_water_of) (defBody s_water_of) (defScope s_water_of) .none kV16 dc16 pm16 an16 cd16 ct16), sl16⟩) (c16 : PySem.W.codeIn K cd16 "water_of" = true) (k16 : PySem.W.keepIn K (.ref f16) = true)
    {f17 : Addr} {od17 an17 : Option Addr} {sl17 : Array (Option Value)} {oc17 kV17 dc17 pm17 cd17 ct17 : Value}
    (a17 : PySem.W.nsIn K mainGlobals "is_there" = some (some (.ref f17))) (l17 : K.lookup f17 = some ⟨oc17, od17, .func (PySem.W.fnOf "is_there" "is_there" (defArgs s_is_there) (defBody s_is_there) (defScope s_is_there) .none kV17 dc17 pm17 an17 cd17 ct17), sl17⟩) (c17 : PySem.W.codeIn K cd17 "is_there" = true) (k17 : PySem.W.keepIn K (.ref f17) = true)
    {f18 : Addr} {od18 an18 : Option Addr} {sl18 : Array (Option Value)} {oc18 kV18 dc18 pm18 cd18 ct18 : Value}
    (a18 : PySem.W.nsIn K mainGlobals "check_there" = some (some (.ref f18))) (l18 : K.lookup f18 = some ⟨oc18, od18, .func (PySem.W.fnOf "check_there" "check_there" (defArgs s_check_there) (defBody s_check_there) (defScope s_check_there) .none kV18 dc18 pm18 an18 cd18 ct18), sl18⟩) (c18 : PySem.W.codeIn K cd18 "check_there" = true) (k18 : PySem.W.keepIn K (.ref f18) = true)
    {f19 : Addr} {od19 an19 : Option Addr} {sl19 : Array (Option Value)} {oc19 kV19 dc19 pm19 cd19 ct19 : Value}
    (a19 : PySem.W.nsIn K mainGlobals "least" = some (some (.ref f19))) (l19 : K.lookup f19 = some ⟨oc19, od19, .func (PySem.W.fnOf "least" "least" (defArgs s_least) (defBody s_least) (defScope s_least) .none kV19 dc19 pm19 an19 cd19 ct19), sl19⟩) (c19 : PySem.W.codeIn K cd19 "least" = true) (k19 : PySem.W.keepIn K (.ref f19) = true)
    {f20 : Addr} {od20 an20 : Option Addr} {sl20 : Array (Option Value)} {oc20 kV20 dc20 pm20 cd20 ct20 : Value}
    (a20 : PySem.W.nsIn K mainGlobals "less" = some (some (.ref f20))) (l20 : K.lookup f20 = some ⟨oc20, od20, .func (PySem.W.fnOf "less" "less" (defArgs s_less) (defBody s_less) (defScope s_less) .none kV20 dc20 pm20 an20 cd20 ct20), sl20⟩) (c20 : PySem.W.codeIn K cd20 "less" = true) (k20 : PySem.W.keepIn K (.ref f20) = true)
    {f21 : Addr} {od21 an21 : Option Addr} {sl21 : Array (Option Value)} {oc21 kV21 dc21 pm21 cd21 ct21 : Value}
    (a21 : PySem.W.nsIn K mainGlobals "over" = some (some (.ref f21))) (l21 : K.lookup f21 = some ⟨oc21, od21, .func (PySem.W.fnOf "over" "over" (defArgs s_over) (defBody s_over) (defScope s_over) .none kV21 dc21 pm21 an21 cd21 ct21), sl21⟩) (c21 : PySem.W.codeIn K cd21 "over" = true) (k21 : PySem.W.keepIn K (.ref f21) = true)
    {f22 : Addr} {od22 an22 : Option Addr} {sl22 : Array (Option Value)} {oc22 kV22 dc22 pm22 cd22 ct22 : Value}
    (a22 : PySem.W.nsIn K mainGlobals "portion" = some (some (.ref f22))) (l22 : K.lookup f22 = some ⟨oc22, od22, .func (PySem.W.fnOf "portion" "portion" (defArgs s_portion) (defBody s_portion) (defScope s_portion) .none kV22 dc22 pm22 an22 cd22 ct22), sl22⟩) (c22 : PySem.W.codeIn K cd22 "portion" = true) (k22 : PySem.W.keepIn K (.ref f22) = true)
    {f23 : Addr} {od23 an23 : Option Addr} {sl23 : Array (Option Value)} {oc23 kV23 dc23 pm23 cd23 ct23 : Value}
    (a23 : PySem.W.nsIn K mainGlobals "parted" = some (some (.ref f23))) (l23 : K.lookup f23 = some ⟨oc23, od23, .func (PySem.W.fnOf "parted" "parted" (defArgs s_parted) (defBody s_parted) (defScope s_parted) .none kV23 dc23 pm23 an23 cd23 ct23), sl23⟩) (c23 : PySem.W.codeIn K cd23 "parted" = true) (k23 : PySem.W.keepIn K (.ref f23) = true)
    {f24 : Addr} {od24 an24 : Option Addr} {sl24 : Array (Option Value)} {oc24 kV24 dc24 pm24 cd24 ct24 : Value}
    (a24 : PySem.W.nsIn K mainGlobals "dissolved_of" = some (some (.ref f24))) (l24 : K.lookup f24 = some ⟨oc24, od24, .func (PySem.W.fnOf "dissolved_of" "dissolved_of" (defArgs s_dissolved_of) (defBody s_dissolved_of) (defScope s_dissolved_of) .none kV24 dc24 pm24 an24 cd24 ct24), sl24⟩) (c24 : PySem.W.codeIn K cd24 "dissolved_of" = true) (k24 : PySem.W.keepIn K (.ref f24) = true)
    {f25 : Addr} {od25 an25 : Option Addr} {sl25 : Array (Option Value)} {oc25 kV25 dc25 pm25 cd25 ct25 : Value}
    (a25 : PySem.W.nsIn K mainGlobals "fallen_layers" = some (some (.ref f25))) (l25 : K.lookup f25 = some ⟨oc25, od25, .func (PySem.W.fnOf "fallen_layers" "fallen_layers" (defArgs s_fallen_layers) (defBody s_fallen_layers) (defScope s_fallen_layers) .none kV25 dc25 pm25 an25 cd25 ct25), sl25⟩) (c25 : PySem.W.codeIn K cd25 "fallen_layers" = true) (k25 : PySem.W.keepIn K (.ref f25) = true)
    {f26 : Addr} {od26 an26 : Option Addr} {sl26 : Array (Option Value)} {oc26 kV26 dc26 pm26 cd26 ct26 : Value}
    (a26 : PySem.W.nsIn K mainGlobals "drawn" = some (some (.ref f26))) (l26 : K.lookup f26 = some ⟨oc26, od26, .func (PySem.W.fnOf "drawn" "drawn" (defArgs s_drawn) (defBody s_drawn) (defScope s_drawn) .none kV26 dc26 pm26 an26 cd26 ct26), sl26⟩) (c26 : PySem.W.codeIn K cd26 "drawn" = true) (k26 : PySem.W.keepIn K (.ref f26) = true)
    {f27 : Addr} {od27 an27 : Option Addr} {sl27 : Array (Option Value)} {oc27 kV27 dc27 pm27 cd27 ct27 : Value}
    (a27 : PySem.W.nsIn K mainGlobals "_law_folded" = some (some (.ref f27))) (l27 : K.lookup f27 = some ⟨oc27, od27, .func (PySem.W.fnOf "_law_folded" "_law_folded" (defArgs s__law_folded) (defBody s__law_folded) (defScope s__law_folded) .none kV27 dc27 pm27 an27 cd27 ct27), sl27⟩) (c27 : PySem.W.codeIn K cd27 "_law_folded" = true) (k27 : PySem.W.keepIn K (.ref f27) = true)
    {f28 : Addr} {od28 an28 : Option Addr} {sl28 : Array (Option Value)} {oc28 kV28 dc28 pm28 cd28 ct28 : Value}
    (a28 : PySem.W.nsIn K mainGlobals "_law_amount" = some (some (.ref f28))) (l28 : K.lookup f28 = some ⟨oc28, od28, .func (PySem.W.fnOf "_law_amount" "_law_amount" (defArgs s__law_amount) (defBody s__law_amount) (defScope s__law_amount) .none kV28 dc28 pm28 an28 cd28 ct28), sl28⟩) (c28 : PySem.W.codeIn K cd28 "_law_amount" = true) (k28 : PySem.W.keepIn K (.ref f28) = true)
    {f29 : Addr} {od29 an29 : Option Addr} {sl29 : Array (Option Value)} {oc29 kV29 dc29 pm29 cd29 ct29 : Value}
    (a29 : PySem.W.nsIn K mainGlobals "_law_drawn" = some (some (.ref f29))) (l29 : K.lookup f29 = some ⟨oc29, od29, .func (PySem.W.fnOf "_law_drawn" "_law_drawn" (defArgs s__law_drawn) (defBody s__law_drawn) (defScope s__law_drawn) .none kV29 dc29 pm29 an29 cd29 ct29), sl29⟩) (c29 : PySem.W.codeIn K cd29 "_law_drawn" = true) (k29 : PySem.W.keepIn K (.ref f29) = true)
    {f30 : Addr} {od30 an30 : Option Addr} {sl30 : Array (Option Value)} {oc30 kV30 dc30 pm30 cd30 ct30 : Value}
    (a30 : PySem.W.nsIn K mainGlobals "_law_under" = some (some (.ref f30))) (l30 : K.lookup f30 = some ⟨oc30, od30, .func (PySem.W.fnOf "_law_under" "_law_under" (defArgs s__law_under) (defBody s__law_under) (defScope s__law_under) .none kV30 dc30 pm30 an30 cd30 ct30), sl30⟩) (c30 : PySem.W.codeIn K cd30 "_law_under" = true) (k30 : PySem.W.keepIn K (.ref f30) = true)
    {f31 : Addr} {od31 an31 : Option Addr} {sl31 : Array (Option Value)} {oc31 kV31 dc31 pm31 cd31 ct31 : Value}
    (a31 : PySem.W.nsIn K mainGlobals "_law_less" = some (some (.ref f31))) (l31 : K.lookup f31 = some ⟨oc31, od31, .func (PySem.W.fnOf "_law_less" "_law_less" (defArgs s__law_less) (defBody s__law_less) (defScope s__law_less) .none kV31 dc31 pm31 an31 cd31 ct31), sl31⟩) (c31 : PySem.W.codeIn K cd31 "_law_less" = true) (k31 : PySem.W.keepIn K (.ref f31) = true)
    {f32 : Addr} {od32 an32 : Option Addr} {sl32 : Array (Option Value)} {oc32 kV32 dc32 pm32 cd32 ct32 : Value}
    (a32 : PySem.W.nsIn K mainGlobals "_law_by" = some (some (.ref f32))) (l32 : K.lookup f32 = some ⟨oc32, od32, .func (PySem.W.fnOf "_law_by" "_law_by" (defArgs s__law_by) (defBody s__law_by) (defScope s__law_by) .none kV32 dc32 pm32 an32 cd32 ct32), sl32⟩) (c32 : PySem.W.codeIn K cd32 "_law_by" = true) (k32 : PySem.W.keepIn K (.ref f32) = true)
    {f33 : Addr} {od33 an33 : Option Addr} {sl33 : Array (Option Value)} {oc33 kV33 dc33 pm33 cd33 ct33 : Value}
    (a33 : PySem.W.nsIn K mainGlobals "_law_times" = some (some (.ref f33))) (l33 : K.lookup f33 = some ⟨oc33, od33, .func (PySem.W.fnOf "_law_times" "_law_times" (defArgs s__law_times) (defBody s__law_times) (defScope s__law_times) .none kV33 dc33 pm33 an33 cd33 ct33), sl33⟩) (c33 : PySem.W.codeIn K cd33 "_law_times" = true) (k33 : PySem.W.keepIn K (.ref f33) = true)
    {f34 : Addr} {od34 an34 : Option Addr} {sl34 : Array (Option Value)} {oc34 kV34 dc34 pm34 cd34 ct34 : Value}
    (a34 : PySem.W.nsIn K mainGlobals "_law_taken" = some (some (.ref f34))) (l34 : K.lookup f34 = some ⟨oc34, od34, .func (PySem.W.fnOf "_law_taken" "_law_taken" (defArgs s__law_taken) (defBody s__law_taken) (defScope s__law_taken) .none kV34 dc34 pm34 an34 cd34 ct34), sl34⟩) (c34 : PySem.W.codeIn K cd34 "_law_taken" = true) (k34 : PySem.W.keepIn K (.ref f34) = true)
    {f35 : Addr} {od35 an35 : Option Addr} {sl35 : Array (Option Value)} {oc35 kV35 dc35 pm35 cd35 ct35 : Value}
    (a35 : PySem.W.nsIn K mainGlobals "_law_under_taken" = some (some (.ref f35))) (l35 : K.lookup f35 = some ⟨oc35, od35, .func (PySem.W.fnOf "_law_under_taken" "_law_under_taken" (defArgs s__law_under_taken) (defBody s__law_under_taken) (defScope s__law_under_taken) .none kV35 dc35 pm35 an35 cd35 ct35), sl35⟩) (c35 : PySem.W.codeIn K cd35 "_law_under_taken" = true) (k35 : PySem.W.keepIn K (.ref f35) = true)
    {f36 : Addr} {od36 an36 : Option Addr} {sl36 : Array (Option Value)} {oc36 kV36 dc36 pm36 cd36 ct36 : Value}
    (a36 : PySem.W.nsIn K mainGlobals "_law_over_taken" = some (some (.ref f36))) (l36 : K.lookup f36 = some ⟨oc36, od36, .func (PySem.W.fnOf "_law_over_taken" "_law_over_taken" (defArgs s__law_over_taken) (defBody s__law_over_taken) (defScope s__law_over_taken) .none kV36 dc36 pm36 an36 cd36 ct36), sl36⟩) (c36 : PySem.W.codeIn K cd36 "_law_over_taken" = true) (k36 : PySem.W.keepIn K (.ref f36) = true)
    {f37 : Addr} {od37 an37 : Option Addr} {sl37 : Array (Option Value)} {oc37 kV37 dc37 pm37 cd37 ct37 : Value}
    (a37 : PySem.W.nsIn K mainGlobals "skimmed" = some (some (.ref f37))) (l37 : K.lookup f37 = some ⟨oc37, od37, .func (PySem.W.fnOf "skimmed" "skimmed" (defArgs s_skimmed) (defBody s_skimmed) (defScope s_skimmed) .none kV37 dc37 pm37 an37 cd37 ct37), sl37⟩) (c37 : PySem.W.codeIn K cd37 "skimmed" = true) (k37 : PySem.W.keepIn K (.ref f37) = true)
    {f38 : Addr} {od38 an38 : Option Addr} {sl38 : Array (Option Value)} {oc38 kV38 dc38 pm38 cd38 ct38 : Value}
    (a38 : PySem.W.nsIn K mainGlobals "_law_word" = some (some (.ref f38))) (l38 : K.lookup f38 = some ⟨oc38, od38, .func (PySem.W.fnOf "_law_word" "_law_word" (defArgs s__law_word) (defBody s__law_word) (defScope s__law_word) .none kV38 dc38 pm38 an38 cd38 ct38), sl38⟩) (c38 : PySem.W.codeIn K cd38 "_law_word" = true) (k38 : PySem.W.keepIn K (.ref f38) = true)
    {f39 : Addr} {od39 an39 : Option Addr} {sl39 : Array (Option Value)} {oc39 kV39 dc39 pm39 cd39 ct39 : Value}
    (a39 : PySem.W.nsIn K mainGlobals "_law_told" = some (some (.ref f39))) (l39 : K.lookup f39 = some ⟨oc39, od39, .func (PySem.W.fnOf "_law_told" "_law_told" (defArgs s__law_told) (defBody s__law_told) (defScope s__law_told) .none kV39 dc39 pm39 an39 cd39 ct39), sl39⟩) (c39 : PySem.W.codeIn K cd39 "_law_told" = true) (k39 : PySem.W.keepIn K (.ref f39) = true)
    {f40 : Addr} {od40 an40 : Option Addr} {sl40 : Array (Option Value)} {oc40 kV40 dc40 pm40 cd40 ct40 : Value}
    (a40 : PySem.W.nsIn K mainGlobals "law" = some (some (.ref f40))) (l40 : K.lookup f40 = some ⟨oc40, od40, .func (PySem.W.fnOf "law" "law" (defArgs s_law) (defBody s_law) (defScope s_law) .none kV40 dc40 pm40 an40 cd40 ct40), sl40⟩) (c40 : PySem.W.codeIn K cd40 "law" = true) (k40 : PySem.W.keepIn K (.ref f40) = true)
    (z_ValueError : PySem.W.nsIn K mainGlobals "ValueError" = some none)
    (z_abs : PySem.W.nsIn K mainGlobals "abs" = some none)
    (z_enumerate : PySem.W.nsIn K mainGlobals "enumerate" = some none)
    (z_isinstance : PySem.W.nsIn K mainGlobals "isinstance" = some none)
    (z_len : PySem.W.nsIn K mainGlobals "len" = some none)
    (z_list : PySem.W.nsIn K mainGlobals "list" = some none)
    (z_max : PySem.W.nsIn K mainGlobals "max" = some none)
    (z_min : PySem.W.nsIn K mainGlobals "min" = some none)
    (z_range : PySem.W.nsIn K mainGlobals "range" = some none)
    (z_repr : PySem.W.nsIn K mainGlobals "repr" = some none)
    (z_sum : PySem.W.nsIn K mainGlobals "sum" = some none)
    (z_tuple : PySem.W.nsIn K mainGlobals "tuple" = some none)
    {c_NOUGHT : Addr} {od_NOUGHT : Option Addr} {n_NOUGHT : Nat} {sl_NOUGHT : Array (Option Value)} {t0_NOUGHT t1_NOUGHT : Tok} (m_NOUGHT : PySem.W.nsIn K mainGlobals "NOUGHT" = some (some (.ref c_NOUGHT))) (l_NOUGHT : K.lookup c_NOUGHT = some ⟨.type "tuple", od_NOUGHT, .seq #[.int 0 t0_NOUGHT, .int 1 t1_NOUGHT] n_NOUGHT, sl_NOUGHT⟩)
    {c_NoWater : Addr} (n_NoWater : PySem.W.nsIn K mainGlobals "NoWater" = some (some (.ref c_NoWater)))
    {c_NoFraction : Addr} (n_NoFraction : PySem.W.nsIn K mainGlobals "NoFraction" = some (some (.ref c_NoFraction)))
    {c_NoStrength : Addr} (n_NoStrength : PySem.W.nsIn K mainGlobals "NoStrength" = some (some (.ref c_NoStrength)))
    {c_NoBrine : Addr} (n_NoBrine : PySem.W.nsIn K mainGlobals "NoBrine" = some (some (.ref c_NoBrine)))
    {c_NoYear : Addr} (n_NoYear : PySem.W.nsIn K mainGlobals "NoYear" = some (some (.ref c_NoYear)))
    {c_NoMoment : Addr} (n_NoMoment : PySem.W.nsIn K mainGlobals "NoMoment" = some (some (.ref c_NoMoment)))
    {c_Weaker : Addr} (n_Weaker : PySem.W.nsIn K mainGlobals "Weaker" = some (some (.ref c_Weaker)))
    {c_NoRoom : Addr} (n_NoRoom : PySem.W.nsIn K mainGlobals "NoRoom" = some (some (.ref c_NoRoom)))
    {c_NoPan : Addr} (n_NoPan : PySem.W.nsIn K mainGlobals "NoPan" = some (some (.ref c_NoPan)))
    {c_NoLot : Addr} (n_NoLot : PySem.W.nsIn K mainGlobals "NoLot" = some (some (.ref c_NoLot)))
    {c_NoGate : Addr} (n_NoGate : PySem.W.nsIn K mainGlobals "NoGate" = some (some (.ref c_NoGate)))
    {c_NoDeed : Addr} (n_NoDeed : PySem.W.nsIn K mainGlobals "NoDeed" = some (some (.ref c_NoDeed)))
    {c_NoLater : Addr} (n_NoLater : PySem.W.nsIn K mainGlobals "NoLater" = some (some (.ref c_NoLater)))
    {c_NoLine : Addr} (n_NoLine : PySem.W.nsIn K mainGlobals "NoLine" = some (some (.ref c_NoLine)))
    {c_NoPlan : Addr} (n_NoPlan : PySem.W.nsIn K mainGlobals "NoPlan" = some (some (.ref c_NoPlan)))
    {c_NoText : Addr} (n_NoText : PySem.W.nsIn K mainGlobals "NoText" = some (some (.ref c_NoText)))
    {c_BrineError : Addr} (n_BrineError : PySem.W.nsIn K mainGlobals "BrineError" = some (some (.ref c_BrineError)))
    (hg_NoWater : PySem.W.findIn K (.ref c_NoWater) "__getattribute__" = some (some (.builtin "BaseException.__getattribute__")))
    (hk_NoWater : PySem.W.findIn K (.ref c_NoWater) "__getattr__" = some none)
    (hd_NoWater : PySem.W.hasDictIn K c_NoWater = true)
    (ha_NoWater : PySem.W.findIn K (.ref c_NoWater) "__class__" = some (some (.builtin "object.__class__")))
    (hm_NoWater : PySem.W.mroIn K c_NoWater (.type "object") = some true)
    (hn_ : PySem.W.specialIn K (.builtin "object.__class__") "__get__" = some (some (.builtin "getset_descriptor.__get__")))
    (ht_ : PySem.W.takesIn K (.builtin "object.__class__") = some true)
    (b_BrineError : PySem.W.subIn K (.ref c_BrineError) (.type "BaseException") = some true)
    (t_BrineError : PySem.W.typeIn K (.ref c_BrineError) = some (.type "type"))
    (b_NoFraction : PySem.W.subIn K (.ref c_NoFraction) (.type "BaseException") = some true)
    (t_NoFraction : PySem.W.typeIn K (.ref c_NoFraction) = some (.type "type"))
    (b_NoWater : PySem.W.subIn K (.ref c_NoWater) (.type "BaseException") = some true)
    (t_NoWater : PySem.W.typeIn K (.ref c_NoWater) = some (.type "type"))
    (q_NoWater : PySem.W.excIn K c_NoWater [.type "ValueError", .type "Exception", .type "BaseException", .type "object"] "ValueError.__new__" = true)
    (k_NoWater : PySem.W.keepIn K (.ref c_NoWater) = true)
    (q_NoFraction : PySem.W.excIn K c_NoFraction [.type "ValueError", .type "Exception", .type "BaseException", .type "object"] "ValueError.__new__" = true)
    (k_NoFraction : PySem.W.keepIn K (.ref c_NoFraction) = true)
    (hd_BrineError : PySem.W.hasDictIn K c_BrineError = true)
    (s_NoWater_BrineError : PySem.W.subIn K (.ref c_NoWater) (.ref c_BrineError) = some true)
    (s_NoWater_NoWater : PySem.W.subIn K (.ref c_NoWater) (.ref c_NoWater) = some true)
    (hd_NoStrength : PySem.W.hasDictIn K c_NoStrength = true)
    (t_NoStrength : PySem.W.typeIn K (.ref c_NoStrength) = some (.type "type"))
    (s_NoWater_NoStrength : PySem.W.subIn K (.ref c_NoWater) (.ref c_NoStrength) = some false)
    (hd_NoBrine : PySem.W.hasDictIn K c_NoBrine = true)
    (t_NoBrine : PySem.W.typeIn K (.ref c_NoBrine) = some (.type "type"))
    (s_NoWater_NoBrine : PySem.W.subIn K (.ref c_NoWater) (.ref c_NoBrine) = some false)
    (hd_NoFraction : PySem.W.hasDictIn K c_NoFraction = true)
    (s_NoWater_NoFraction : PySem.W.subIn K (.ref c_NoWater) (.ref c_NoFraction) = some false)
    (hd_NoYear : PySem.W.hasDictIn K c_NoYear = true)
    (t_NoYear : PySem.W.typeIn K (.ref c_NoYear) = some (.type "type"))
    (s_NoWater_NoYear : PySem.W.subIn K (.ref c_NoWater) (.ref c_NoYear) = some false)
    (hd_NoMoment : PySem.W.hasDictIn K c_NoMoment = true)
    (t_NoMoment : PySem.W.typeIn K (.ref c_NoMoment) = some (.type "type"))
    (s_NoWater_NoMoment : PySem.W.subIn K (.ref c_NoWater) (.ref c_NoMoment) = some false)
    (hd_Weaker : PySem.W.hasDictIn K c_Weaker = true)
    (t_Weaker : PySem.W.typeIn K (.ref c_Weaker) = some (.type "type"))
    (s_NoWater_Weaker : PySem.W.subIn K (.ref c_NoWater) (.ref c_Weaker) = some false)
    (hd_NoRoom : PySem.W.hasDictIn K c_NoRoom = true)
    (t_NoRoom : PySem.W.typeIn K (.ref c_NoRoom) = some (.type "type"))
    (s_NoWater_NoRoom : PySem.W.subIn K (.ref c_NoWater) (.ref c_NoRoom) = some false)
    (hd_NoPan : PySem.W.hasDictIn K c_NoPan = true)
    (t_NoPan : PySem.W.typeIn K (.ref c_NoPan) = some (.type "type"))
    (s_NoWater_NoPan : PySem.W.subIn K (.ref c_NoWater) (.ref c_NoPan) = some false)
    (hd_NoLot : PySem.W.hasDictIn K c_NoLot = true)
    (t_NoLot : PySem.W.typeIn K (.ref c_NoLot) = some (.type "type"))
    (s_NoWater_NoLot : PySem.W.subIn K (.ref c_NoWater) (.ref c_NoLot) = some false)
    (hd_NoGate : PySem.W.hasDictIn K c_NoGate = true)
    (t_NoGate : PySem.W.typeIn K (.ref c_NoGate) = some (.type "type"))
    (s_NoWater_NoGate : PySem.W.subIn K (.ref c_NoWater) (.ref c_NoGate) = some false)
    (hd_NoDeed : PySem.W.hasDictIn K c_NoDeed = true)
    (t_NoDeed : PySem.W.typeIn K (.ref c_NoDeed) = some (.type "type"))
    (s_NoWater_NoDeed : PySem.W.subIn K (.ref c_NoWater) (.ref c_NoDeed) = some false)
    (hd_NoLater : PySem.W.hasDictIn K c_NoLater = true)
    (t_NoLater : PySem.W.typeIn K (.ref c_NoLater) = some (.type "type"))
    (s_NoWater_NoLater : PySem.W.subIn K (.ref c_NoWater) (.ref c_NoLater) = some false)
    (hd_NoLine : PySem.W.hasDictIn K c_NoLine = true)
    (t_NoLine : PySem.W.typeIn K (.ref c_NoLine) = some (.type "type"))
    (s_NoWater_NoLine : PySem.W.subIn K (.ref c_NoWater) (.ref c_NoLine) = some false)
    (hd_NoPlan : PySem.W.hasDictIn K c_NoPlan = true)
    (t_NoPlan : PySem.W.typeIn K (.ref c_NoPlan) = some (.type "type"))
    (s_NoWater_NoPlan : PySem.W.subIn K (.ref c_NoWater) (.ref c_NoPlan) = some false)
    (hd_NoText : PySem.W.hasDictIn K c_NoText = true)
    (t_NoText : PySem.W.typeIn K (.ref c_NoText) = some (.type "type"))
    (s_NoWater_NoText : PySem.W.subIn K (.ref c_NoWater) (.ref c_NoText) = some false)
    (s_NoWater_ValueError : PySem.W.subIn K (.ref c_NoWater) (.type "ValueError") = some true)
    : ∃ T : Top K mg, T.a_law = f40 ∧ T.fd_law = PySem.W.fnOf "law" "law" (defArgs s_law) (defBody s_law) (defScope s_law) .none kV40 dc40 pm40 an40 cd40 ct40 := by
  have F0 := fun_mk (st := s__law_pot) l0 c0 k0
  have b0 := F0.binds (ps := ["cell", "place"]) fun _ _ _ _ _ _ us hl => match us, hl with | [_, _], _ => rfl
  have F1 := fun_mk (st := s__law_take) l1 c1 k1
  have b1 := F1.binds (ps := ["pot", "many"]) fun _ _ _ _ _ _ us hl => match us, hl with | [_, _], _ => rfl
  have F2 := fun_mk (st := s__law_full) l2 c2 k2
  have b2 := F2.binds (ps := ["pot"]) fun _ _ _ _ _ _ us hl => match us, hl with | [_], _ => rfl
  have F3 := fun_mk (st := s__law_unit) l3 c3 k3
  have b3 := F3.binds (ps := ["pot"]) fun _ _ _ _ _ _ us hl => match us, hl with | [_], _ => rfl
  have F4 := fun_mk (st := s__law_laid) l4 c4 k4
  have b4 := F4.binds (ps := ["layers"]) fun _ _ _ _ _ _ us hl => match us, hl with | [_], _ => rfl
  have F5 := fun_mk (st := s__law_long) l5 c5 k5
  have b5 := F5.binds (ps := ["pot", "few"]) fun _ _ _ _ _ _ us hl => match us, hl with | [_, _], _ => rfl
  have F6 := fun_mk (st := s__law_layer) l6 c6 k6
  have b6 := F6.binds (ps := ["pot", "full", "found", "size"]) fun _ _ _ _ _ _ us hl => match us, hl with | [_, _, _, _], _ => rfl
  have F7 := fun_mk (st := s__law_parts) l7 c7 k7
  have b7 := F7.binds (ps := ["pot", "full", "most"]) fun _ _ _ _ _ _ us hl => match us, hl with | [_, _, _], _ => rfl
  have F8 := fun_mk (st := s__law_case) l8 c8 k8
  have b8 := F8.binds (ps := ["pot", "far"]) fun _ _ _ _ _ _ us hl => match us, hl with | [_, _], _ => rfl
  have F9 := fun_mk (st := s__law_low) l9 c9 k9
  have b9 := F9.binds (ps := ["a", "b"]) fun _ _ _ _ _ _ us hl => match us, hl with | [_, _], _ => rfl
  have F10 := fun_mk (st := s__law_brine) l10 c10 k10
  have b10 := F10.binds (ps := ["parts", "unit"]) fun _ _ _ _ _ _ us hl => match us, hl with | [_, _], _ => rfl
  have F11 := fun_mk (st := s_common) l11 c11 k11
  have b11 := F11.binds (ps := ["a", "b"]) fun _ _ _ _ _ _ us hl => match us, hl with | [_, _], _ => rfl
  have F12 := fun_mk (st := s_times) l12 c12 k12
  have b12 := F12.binds (ps := ["one", "other"]) fun _ _ _ _ _ _ us hl => match us, hl with | [_, _], _ => rfl
  have F13 := fun_mk (st := s_is_less) l13 c13 k13
  have b13 := F13.binds (ps := ["one", "other"]) fun _ _ _ _ _ _ us hl => match us, hl with | [_, _], _ => rfl
  have F14 := fun_mk (st := s_plus) l14 c14 k14
  have b14 := F14.binds (ps := ["one", "other"]) fun _ _ _ _ _ _ us hl => match us, hl with | [_, _], _ => rfl
  have F15 := fun_mk (st := s_summed) l15 c15 k15
  have b15 := F15.binds (ps := ["some"]) fun _ _ _ _ _ _ us hl => match us, hl with | [_], _ => rfl
  have F16 := fun_mk (st := s_water_of) l16 c16 k16
  have b16 := F16.binds (ps := ["brine"]) fun _ _ _ _ _ _ us hl => match us, hl with | [_], _ => rfl
  have F17 := fun_mk (st := s_is_there) l17 c17 k17
  have b17 := F17.binds (ps := ["brine", "water"]) fun _ _ _ _ _ _ us hl => match us, hl with | [_, _], _ => rfl
  have F18 := fun_mk (st := s_check_there) l18 c18 k18
  have b18 := F18.binds (ps := ["brine", "water"]) fun _ _ _ _ _ _ us hl => match us, hl with | [_, _], _ => rfl
  have F19 := fun_mk (st := s_least) l19 c19 k19
  have b19 := F19.binds (ps := ["some"]) fun _ _ _ _ _ _ us hl => match us, hl with | [_], _ => rfl
  have F20 := fun_mk (st := s_less) l20 c20 k20
  have b20 := F20.binds (ps := ["one", "other"]) fun _ _ _ _ _ _ us hl => match us, hl with | [_, _], _ => rfl
  have F21 := fun_mk (st := s_over) l21 c21 k21
  have b21 := F21.binds (ps := ["one", "other"]) fun _ _ _ _ _ _ us hl => match us, hl with | [_, _], _ => rfl
  have F22 := fun_mk (st := s_portion) l22 c22 k22
  have b22 := F22.binds (ps := ["layer", "water"]) fun _ _ _ _ _ _ us hl => match us, hl with | [_, _], _ => rfl
  have F23 := fun_mk (st := s_parted) l23 c23 k23
  have b23 := F23.binds (ps := ["layers", "water"]) fun _ _ _ _ _ _ us hl => match us, hl with | [_, _], _ => rfl
  have F24 := fun_mk (st := s_dissolved_of) l24 c24 k24
  have b24 := F24.binds (ps := ["brine"]) fun _ _ _ _ _ _ us hl => match us, hl with | [_], _ => rfl
  have F25 := fun_mk (st := s_fallen_layers) l25 c25 k25
  have b25 := F25.binds (ps := ["brine"]) fun _ _ _ _ _ _ us hl => match us, hl with | [_], _ => rfl
  have F26 := fun_mk (st := s_drawn) l26 c26 k26
  have b26 := F26.binds (ps := ["brine", "water"]) fun _ _ _ _ _ _ us hl => match us, hl with | [_, _], _ => rfl
  have F27 := fun_mk (st := s__law_folded) l27 c27 k27
  have b27 := F27.binds (ps := ["script", "most"]) fun _ _ _ _ _ _ us hl => match us, hl with | [_, _], _ => rfl
  have F28 := fun_mk (st := s__law_amount) l28 c28 k28
  have b28 := F28.binds (ps := ["pot", "parts", "unit"]) fun _ _ _ _ _ _ us hl => match us, hl with | [_, _, _], _ => rfl
  have F29 := fun_mk (st := s__law_drawn) l29 c29 k29
  have b29 := F29.binds (ps := ["brine"]) fun _ _ _ _ _ _ us hl => match us, hl with | [_], _ => rfl
  have F30 := fun_mk (st := s__law_under) l30 c30 k30
  have b30 := F30.binds (ps := ["one", "other"]) fun _ _ _ _ _ _ us hl => match us, hl with | [_, _], _ => rfl
  have F31 := fun_mk (st := s__law_less) l31 c31 k31
  have b31 := F31.binds (ps := ["one", "other"]) fun _ _ _ _ _ _ us hl => match us, hl with | [_, _], _ => rfl
  have F32 := fun_mk (st := s__law_by) l32 c32 k32
  have b32 := F32.binds (ps := ["one", "other"]) fun _ _ _ _ _ _ us hl => match us, hl with | [_, _], _ => rfl
  have F33 := fun_mk (st := s__law_times) l33 c33 k33
  have b33 := F33.binds (ps := ["one", "other"]) fun _ _ _ _ _ _ us hl => match us, hl with | [_, _], _ => rfl
  have F34 := fun_mk (st := s__law_taken) l34 c34 k34
  have b34 := F34.binds (ps := ["layers", "water"]) fun _ _ _ _ _ _ us hl => match us, hl with | [_, _], _ => rfl
  have F35 := fun_mk (st := s__law_under_taken) l35 c35 k35
  have b35 := F35.binds (ps := ["brine", "water"]) fun _ _ _ _ _ _ us hl => match us, hl with | [_, _], _ => rfl
  have F36 := fun_mk (st := s__law_over_taken) l36 c36 k36
  have b36 := F36.binds (ps := ["brine", "water"]) fun _ _ _ _ _ _ us hl => match us, hl with | [_, _], _ => rfl
  have F37 := fun_mk (st := s_skimmed) l37 c37 k37
  have b37 := F37.binds (ps := ["brine", "water"]) fun _ _ _ _ _ _ us hl => match us, hl with | [_, _], _ => rfl
  have F38 := fun_mk (st := s__law_word) l38 c38 k38
  have b38 := F38.binds (ps := ["caught"]) fun _ _ _ _ _ _ us hl => match us, hl with | [_], _ => rfl
  have F39 := fun_mk (st := s__law_told) l39 c39 k39
  have b39 := F39.binds (ps := ["which", "brine", "water"]) fun _ _ _ _ _ _ us hl => match us, hl with | [_, _, _], _ => rfl
  have F40 := fun_mk (st := s_law) l40 c40 k40
  have b40 := F40.binds (ps := ["script"]) fun _ _ _ _ _ _ us hl => match us, hl with | [_], _ => rfl
  exact ⟨⟨f0, _, F0, b0, PySem.W.mg_of X G a0, f1, _, F1, b1, PySem.W.mg_of X G a1, f2, _, F2, b2, PySem.W.mg_of X G a2, f3, _, F3, b3, PySem.W.mg_of X G a3, f4, _, F4, b4, PySem.W.mg_of X G a4, f5, _, F5, b5, PySem.W.mg_of X G a5, f6, _, F6, b6, PySem.W.mg_of X G a6, f7, _, F7, b7, PySem.W.mg_of X G a7, f8, _, F8, b8, PySem.W.mg_of X G a8, f9, _, F9, b9, PySem.W.mg_of X G a9, f10, _, F10, b10, PySem.W.mg_of X G a10, f11, _, F11, b11, PySem.W.mg_of X G a11, f12, _, F12, b12, PySem.W.mg_of X G a12, f13, _, F13, b13, PySem.W.mg_of X G a13, f14, _, F14, b14, PySem.W.mg_of X G a14, f15, _, F15, b15, PySem.W.mg_of X G a15, f16, _, F16, b16, PySem.W.mg_of X G a16, f17, _, F17, b17, PySem.W.mg_of X G a17, f18, _, F18, b18, PySem.W.mg_of X G a18, f19, _, F19, b19, PySem.W.mg_of X G a19, f20, _, F20, b20, PySem.W.mg_of X G a20, f21, _, F21, b21, PySem.W.mg_of X G a21, f22, _, F22, b22, PySem.W.mg_of X G a22, f23, _, F23, b23, PySem.W.mg_of X G a23, f24, _, F24, b24, PySem.W.mg_of X G a24, f25, _, F25, b25, PySem.W.mg_of X G a25, f26, _, F26, b26, PySem.W.mg_of X G a26, f27, _, F27, b27, PySem.W.mg_of X G a27, f28, _, F28, b28, PySem.W.mg_of X G a28, f29, _, F29, b29, PySem.W.mg_of X G a29, f30, _, F30, b30, PySem.W.mg_of X G a30, f31, _, F31, b31, PySem.W.mg_of X G a31, f32, _, F32, b32, PySem.W.mg_of X G a32, f33, _, F33, b33, PySem.W.mg_of X G a33, f34, _, F34, b34, PySem.W.mg_of X G a34, f35, _, F35, b35, PySem.W.mg_of X G a35, f36, _, F36, b36, PySem.W.mg_of X G a36, f37, _, F37, b37, PySem.W.mg_of X G a37, f38, _, F38, b38, PySem.W.mg_of X G a38, f39, _, F39, b39, PySem.W.mg_of X G a39, f40, _, F40, b40, PySem.W.mg_of X G a40, PySem.W.mg_none_of X G z_ValueError, PySem.W.mg_none_of X G z_abs, PySem.W.mg_none_of X G z_enumerate, PySem.W.mg_none_of X G z_isinstance, PySem.W.mg_none_of X G z_len, PySem.W.mg_none_of X G z_list, PySem.W.mg_none_of X G z_max, PySem.W.mg_none_of X G z_min, PySem.W.mg_none_of X G z_range, PySem.W.mg_none_of X G z_repr, PySem.W.mg_none_of X G z_sum, PySem.W.mg_none_of X G z_tuple, c_NOUGHT, PySem.W.mg_of X G m_NOUGHT, rp_c2 l_NOUGHT, c_NoWater, c_NoFraction, c_NoStrength, c_NoBrine, c_NoYear, c_NoMoment, c_Weaker, c_NoRoom, c_NoPan, c_NoLot, c_NoGate, c_NoDeed, c_NoLater, c_NoLine, c_NoPlan, c_NoText, c_BrineError, n_NoWater, PySem.W.mg_of X G n_NoWater, n_NoFraction, PySem.W.mg_of X G n_NoFraction, n_NoStrength, PySem.W.mg_of X G n_NoStrength, n_NoBrine, PySem.W.mg_of X G n_NoBrine, n_NoYear, PySem.W.mg_of X G n_NoYear, n_NoMoment, PySem.W.mg_of X G n_NoMoment, n_Weaker, PySem.W.mg_of X G n_Weaker, n_NoRoom, PySem.W.mg_of X G n_NoRoom, n_NoPan, PySem.W.mg_of X G n_NoPan, n_NoLot, PySem.W.mg_of X G n_NoLot, n_NoGate, PySem.W.mg_of X G n_NoGate, n_NoDeed, PySem.W.mg_of X G n_NoDeed, n_NoLater, PySem.W.mg_of X G n_NoLater, n_NoLine, PySem.W.mg_of X G n_NoLine, n_NoPlan, PySem.W.mg_of X G n_NoPlan, n_NoText, PySem.W.mg_of X G n_NoText, n_BrineError, PySem.W.mg_of X G n_BrineError, ⟨hg_NoWater, hk_NoWater, b_NoWater, hd_NoWater, ha_NoWater, hn_, ht_, hm_NoWater⟩, hd_NoWater, b_BrineError, t_BrineError, b_NoFraction, t_NoFraction, b_NoWater, t_NoWater, q_NoWater, k_NoWater, q_NoFraction, k_NoFraction, hd_BrineError, s_NoWater_BrineError, s_NoWater_NoWater, hd_NoStrength, t_NoStrength, s_NoWater_NoStrength, hd_NoBrine, t_NoBrine, s_NoWater_NoBrine, hd_NoFraction, s_NoWater_NoFraction, hd_NoYear, t_NoYear, s_NoWater_NoYear, hd_NoMoment, t_NoMoment, s_NoWater_NoMoment, hd_Weaker, t_Weaker, s_NoWater_Weaker, hd_NoRoom, t_NoRoom, s_NoWater_NoRoom, hd_NoPan, t_NoPan, s_NoWater_NoPan, hd_NoLot, t_NoLot, s_NoWater_NoLot, hd_NoGate, t_NoGate, s_NoWater_NoGate, hd_NoDeed, t_NoDeed, s_NoWater_NoDeed, hd_NoLater, t_NoLater, s_NoWater_NoLater, hd_NoLine, t_NoLine, s_NoWater_NoLine, hd_NoPlan, t_NoPlan, s_NoWater_NoPlan, hd_NoText, t_NoText, s_NoWater_NoText, s_NoWater_ValueError, (kit_own hd_NoStrength t_NoStrength s_NoWater_NoStrength s_NoWater_NoWater), (kit_own hd_NoBrine t_NoBrine s_NoWater_NoBrine s_NoWater_NoWater), (kit_own hd_NoFraction t_NoFraction s_NoWater_NoFraction s_NoWater_NoWater), (kit_own hd_NoYear t_NoYear s_NoWater_NoYear s_NoWater_NoWater), (kit_own hd_NoMoment t_NoMoment s_NoWater_NoMoment s_NoWater_NoWater), (kit_own hd_NoWater t_NoWater s_NoWater_NoWater s_NoWater_NoWater), (kit_own hd_Weaker t_Weaker s_NoWater_Weaker s_NoWater_NoWater), (kit_own hd_NoRoom t_NoRoom s_NoWater_NoRoom s_NoWater_NoWater), (kit_own hd_NoPan t_NoPan s_NoWater_NoPan s_NoWater_NoWater), (kit_own hd_NoLot t_NoLot s_NoWater_NoLot s_NoWater_NoWater), (kit_own hd_NoGate t_NoGate s_NoWater_NoGate s_NoWater_NoWater), (kit_own hd_NoDeed t_NoDeed s_NoWater_NoDeed s_NoWater_NoWater), (kit_own hd_NoLater t_NoLater s_NoWater_NoLater s_NoWater_NoWater), (kit_own hd_NoLine t_NoLine s_NoWater_NoLine s_NoWater_NoWater), (kit_own hd_NoPlan t_NoPlan s_NoWater_NoPlan s_NoWater_NoWater), (kit_own hd_NoText t_NoText s_NoWater_NoText s_NoWater_NoWater), (kit_type (by decide +kernel) s_NoWater_ValueError)⟩, rfl, rfl⟩
set_option maxHeartbeats 0 in
theorem law_end {l : PySem.W.OpenLaw} {w : World} {fa : Addr} {K : PySem.W.Frag} {h : Heap} {mg : Str → Option Value} (X : K.In h) (G : h.Ns mainGlobals mg) (hfa : mg "law" = some (.ref fa))
    {f0 : Addr} {od0 an0 : Option Addr} {sl0 : Array (Option Value)} {oc0 kV0 dc0 pm0 cd0 ct0 : Value}
    (a0 : PySem.W.nsIn K mainGlobals "_law_pot" = some (some (.ref f0))) (l0 : K.lookup f0 = some ⟨oc0, od0, .func (PySem.W.fnOf "_law_pot" "_law_pot" (defArgs s__law_pot) (defBody s__law_pot) (defScope s__law_pot) .none kV0 dc0 pm0 an0 cd0 ct0), sl0⟩) (c0 : PySem.W.codeIn K cd0 "_law_pot" = true) (k0 : PySem.W.keepIn K (.ref f0) = true)
    {f1 : Addr} {od1 an1 : Option Addr} {sl1 : Array (Option Value)} {oc1 kV1 dc1 pm1 cd1 ct1 : Value}
    (a1 : PySem.W.nsIn K mainGlobals "_law_take" = some (some (.ref f1))) (l1 : K.lookup f1 = some ⟨oc1, od1, .func (PySem.W.fnOf "_law_take" "_law_take" (defArgs s__law_take) (defBody s__law_take) (defScope s__law_take) .none kV1 dc1 pm1 an1 cd1 ct1), sl1⟩) (c1 : PySem.W.codeIn K cd1 "_law_take" = true) (k1 : PySem.W.keepIn K (.ref f1) = true)
    {f2 : Addr} {od2 an2 : Option Addr} {sl2 : Array (Option Value)} {oc2 kV2 dc2 pm2 cd2 ct2 : Value}
    (a2 : PySem.W.nsIn K mainGlobals "_law_full" = some (some (.ref f2))) (l2 : K.lookup f2 = some ⟨oc2, od2, .func (PySem.W.fnOf "_law_full" "_law_full" (defArgs s__law_full) (defBody s__law_full) (defScope s__law_full) .none kV2 dc2 pm2 an2 cd2 ct2), sl2⟩) (c2 : PySem.W.codeIn K cd2 "_law_full" = true) (k2 : PySem.W.keepIn K (.ref f2) = true)
    {f3 : Addr} {od3 an3 : Option Addr} {sl3 : Array (Option Value)} {oc3 kV3 dc3 pm3 cd3 ct3 : Value}
    (a3 : PySem.W.nsIn K mainGlobals "_law_unit" = some (some (.ref f3))) (l3 : K.lookup f3 = some ⟨oc3, od3, .func (PySem.W.fnOf "_law_unit" "_law_unit" (defArgs s__law_unit) (defBody s__law_unit) (defScope s__law_unit) .none kV3 dc3 pm3 an3 cd3 ct3), sl3⟩) (c3 : PySem.W.codeIn K cd3 "_law_unit" = true) (k3 : PySem.W.keepIn K (.ref f3) = true)
    {f4 : Addr} {od4 an4 : Option Addr} {sl4 : Array (Option Value)} {oc4 kV4 dc4 pm4 cd4 ct4 : Value}
    (a4 : PySem.W.nsIn K mainGlobals "_law_laid" = some (some (.ref f4))) (l4 : K.lookup f4 = some ⟨oc4, od4, .func (PySem.W.fnOf "_law_laid" "_law_laid" (defArgs s__law_laid) (defBody s__law_laid) (defScope s__law_laid) .none kV4 dc4 pm4 an4 cd4 ct4), sl4⟩) (c4 : PySem.W.codeIn K cd4 "_law_laid" = true) (k4 : PySem.W.keepIn K (.ref f4) = true)
    {f5 : Addr} {od5 an5 : Option Addr} {sl5 : Array (Option Value)} {oc5 kV5 dc5 pm5 cd5 ct5 : Value}
    (a5 : PySem.W.nsIn K mainGlobals "_law_long" = some (some (.ref f5))) (l5 : K.lookup f5 = some ⟨oc5, od5, .func (PySem.W.fnOf "_law_long" "_law_long" (defArgs s__law_long) (defBody s__law_long) (defScope s__law_long) .none kV5 dc5 pm5 an5 cd5 ct5), sl5⟩) (c5 : PySem.W.codeIn K cd5 "_law_long" = true) (k5 : PySem.W.keepIn K (.ref f5) = true)
    {f6 : Addr} {od6 an6 : Option Addr} {sl6 : Array (Option Value)} {oc6 kV6 dc6 pm6 cd6 ct6 : Value}
    (a6 : PySem.W.nsIn K mainGlobals "_law_layer" = some (some (.ref f6))) (l6 : K.lookup f6 = some ⟨oc6, od6, .func (PySem.W.fnOf "_law_layer" "_law_layer" (defArgs s__law_layer) (defBody s__law_layer) (defScope s__law_layer) .none kV6 dc6 pm6 an6 cd6 ct6), sl6⟩) (c6 : PySem.W.codeIn K cd6 "_law_layer" = true) (k6 : PySem.W.keepIn K (.ref f6) = true)
    {f7 : Addr} {od7 an7 : Option Addr} {sl7 : Array (Option Value)} {oc7 kV7 dc7 pm7 cd7 ct7 : Value}
    (a7 : PySem.W.nsIn K mainGlobals "_law_parts" = some (some (.ref f7))) (l7 : K.lookup f7 = some ⟨oc7, od7, .func (PySem.W.fnOf "_law_parts" "_law_parts" (defArgs s__law_parts) (defBody s__law_parts) (defScope s__law_parts) .none kV7 dc7 pm7 an7 cd7 ct7), sl7⟩) (c7 : PySem.W.codeIn K cd7 "_law_parts" = true) (k7 : PySem.W.keepIn K (.ref f7) = true)
    {f8 : Addr} {od8 an8 : Option Addr} {sl8 : Array (Option Value)} {oc8 kV8 dc8 pm8 cd8 ct8 : Value}
    (a8 : PySem.W.nsIn K mainGlobals "_law_case" = some (some (.ref f8))) (l8 : K.lookup f8 = some ⟨oc8, od8, .func (PySem.W.fnOf "_law_case" "_law_case" (defArgs s__law_case) (defBody s__law_case) (defScope s__law_case) .none kV8 dc8 pm8 an8 cd8 ct8), sl8⟩) (c8 : PySem.W.codeIn K cd8 "_law_case" = true) (k8 : PySem.W.keepIn K (.ref f8) = true)
    {f9 : Addr} {od9 an9 : Option Addr} {sl9 : Array (Option Value)} {oc9 kV9 dc9 pm9 cd9 ct9 : Value}
    (a9 : PySem.W.nsIn K mainGlobals "_law_low" = some (some (.ref f9))) (l9 : K.lookup f9 = some ⟨oc9, od9, .func (PySem.W.fnOf "_law_low" "_law_low" (defArgs s__law_low) (defBody s__law_low) (defScope s__law_low) .none kV9 dc9 pm9 an9 cd9 ct9), sl9⟩) (c9 : PySem.W.codeIn K cd9 "_law_low" = true) (k9 : PySem.W.keepIn K (.ref f9) = true)
    {f10 : Addr} {od10 an10 : Option Addr} {sl10 : Array (Option Value)} {oc10 kV10 dc10 pm10 cd10 ct10 : Value}
    (a10 : PySem.W.nsIn K mainGlobals "_law_brine" = some (some (.ref f10))) (l10 : K.lookup f10 = some ⟨oc10, od10, .func (PySem.W.fnOf "_law_brine" "_law_brine" (defArgs s__law_brine) (defBody s__law_brine) (defScope s__law_brine) .none kV10 dc10 pm10 an10 cd10 ct10), sl10⟩) (c10 : PySem.W.codeIn K cd10 "_law_brine" = true) (k10 : PySem.W.keepIn K (.ref f10) = true)
    {f11 : Addr} {od11 an11 : Option Addr} {sl11 : Array (Option Value)} {oc11 kV11 dc11 pm11 cd11 ct11 : Value}
    (a11 : PySem.W.nsIn K mainGlobals "common" = some (some (.ref f11))) (l11 : K.lookup f11 = some ⟨oc11, od11, .func (PySem.W.fnOf "common" "common" (defArgs s_common) (defBody s_common) (defScope s_common) .none kV11 dc11 pm11 an11 cd11 ct11), sl11⟩) (c11 : PySem.W.codeIn K cd11 "common" = true) (k11 : PySem.W.keepIn K (.ref f11) = true)
    {f12 : Addr} {od12 an12 : Option Addr} {sl12 : Array (Option Value)} {oc12 kV12 dc12 pm12 cd12 ct12 : Value}
    (a12 : PySem.W.nsIn K mainGlobals "times" = some (some (.ref f12))) (l12 : K.lookup f12 = some ⟨oc12, od12, .func (PySem.W.fnOf "times" "times" (defArgs s_times) (defBody s_times) (defScope s_times) .none kV12 dc12 pm12 an12 cd12 ct12), sl12⟩) (c12 : PySem.W.codeIn K cd12 "times" = true) (k12 : PySem.W.keepIn K (.ref f12) = true)
    {f13 : Addr} {od13 an13 : Option Addr} {sl13 : Array (Option Value)} {oc13 kV13 dc13 pm13 cd13 ct13 : Value}
    (a13 : PySem.W.nsIn K mainGlobals "is_less" = some (some (.ref f13))) (l13 : K.lookup f13 = some ⟨oc13, od13, .func (PySem.W.fnOf "is_less" "is_less" (defArgs s_is_less) (defBody s_is_less) (defScope s_is_less) .none kV13 dc13 pm13 an13 cd13 ct13), sl13⟩) (c13 : PySem.W.codeIn K cd13 "is_less" = true) (k13 : PySem.W.keepIn K (.ref f13) = true)
    {f14 : Addr} {od14 an14 : Option Addr} {sl14 : Array (Option Value)} {oc14 kV14 dc14 pm14 cd14 ct14 : Value}
    (a14 : PySem.W.nsIn K mainGlobals "plus" = some (some (.ref f14))) (l14 : K.lookup f14 = some ⟨oc14, od14, .func (PySem.W.fnOf "plus" "plus" (defArgs s_plus) (defBody s_plus) (defScope s_plus) .none kV14 dc14 pm14 an14 cd14 ct14), sl14⟩) (c14 : PySem.W.codeIn K cd14 "plus" = true) (k14 : PySem.W.keepIn K (.ref f14) = true)
    {f15 : Addr} {od15 an15 : Option Addr} {sl15 : Array (Option Value)} {oc15 kV15 dc15 pm15 cd15 ct15 : Value}
    (a15 : PySem.W.nsIn K mainGlobals "summed" = some (some (.ref f15))) (l15 : K.lookup f15 = some ⟨oc15, od15, .func (PySem.W.fnOf "summed" "summed" (defArgs s_summed) (defBody s_summed) (defScope s_summed) .none kV15 dc15 pm15 an15 cd15 ct15), sl15⟩) (c15 : PySem.W.codeIn K cd15 "summed" = true) (k15 : PySem.W.keepIn K (.ref f15) = true)
    {f16 : Addr} {od16 an16 : Option Addr} {sl16 : Array (Option Value)} {oc16 kV16 dc16 pm16 cd16 ct16 : Value}
    (a16 : PySem.W.nsIn K mainGlobals "water_of" = some (some (.ref f16))) (l16 : K.lookup f16 = some ⟨oc16, od16, .func (PySem.W.fnOf "water_of" "water_of" (defArgs s_water_of) (defBody s_water_of) (defScope s_water_of) .none kV16 dc16 pm16 an16 cd16 ct16), sl16⟩) (c16 : PySem.W.codeIn K cd16 "water_of" = true) (k16 : PySem.W.keepIn K (.ref f16) = true)
    {f17 : Addr} {od17 an17 : Option Addr} {sl17 : Array (Option Value)} {oc17 kV17 dc17 pm17 cd17 ct17 : Value}
    (a17 : PySem.W.nsIn K mainGlobals "is_there" = some (some (.ref f17))) (l17 : K.lookup f17 = some ⟨oc17, od17, .func (PySem.W.fnOf "is_there" "is_there" (defArgs s_is_there) (defBody s_is_there) (defScope s_is_there) .none kV17 dc17 pm17 an17 cd17 ct17), sl17⟩) (c17 : PySem.W.codeIn K cd17 "is_there" = true) (k17 : PySem.W.keepIn K (.ref f17) = true)
    {f18 : Addr} {od18 an18 : Option Addr} {sl18 : Array (Option Value)} {oc18 kV18 dc18 pm18 cd18 ct18 : Value}
    (a18 : PySem.W.nsIn K mainGlobals "check_there" = some (some (.ref f18))) (l18 : K.lookup f18 = some ⟨oc18, od18, .func (PySem.W.fnOf "check_there" "check_there" (defArgs s_check_there) (defBody s_check_there) (defScope s_check_there) .none kV18 dc18 pm18 an18 cd18 ct18), sl18⟩) (c18 : PySem.W.codeIn K cd18 "check_there" = true) (k18 : PySem.W.keepIn K (.ref f18) = true)
    {f19 : Addr} {od19 an19 : Option Addr} {sl19 : Array (Option Value)} {oc19 kV19 dc19 pm19 cd19 ct19 : Value}
    (a19 : PySem.W.nsIn K mainGlobals "least" = some (some (.ref f19))) (l19 : K.lookup f19 = some ⟨oc19, od19, .func (PySem.W.fnOf "least" "least" (defArgs s_least) (defBody s_least) (defScope s_least) .none kV19 dc19 pm19 an19 cd19 ct19), sl19⟩) (c19 : PySem.W.codeIn K cd19 "least" = true) (k19 : PySem.W.keepIn K (.ref f19) = true)
    {f20 : Addr} {od20 an20 : Option Addr} {sl20 : Array (Option Value)} {oc20 kV20 dc20 pm20 cd20 ct20 : Value}
    (a20 : PySem.W.nsIn K mainGlobals "less" = some (some (.ref f20))) (l20 : K.lookup f20 = some ⟨oc20, od20, .func (PySem.W.fnOf "less" "less" (defArgs s_less) (defBody s_less) (defScope s_less) .none kV20 dc20 pm20 an20 cd20 ct20), sl20⟩) (c20 : PySem.W.codeIn K cd20 "less" = true) (k20 : PySem.W.keepIn K (.ref f20) = true)
    {f21 : Addr} {od21 an21 : Option Addr} {sl21 : Array (Option Value)} {oc21 kV21 dc21 pm21 cd21 ct21 : Value}
    (a21 : PySem.W.nsIn K mainGlobals "over" = some (some (.ref f21))) (l21 : K.lookup f21 = some ⟨oc21, od21, .func (PySem.W.fnOf "over" "over" (defArgs s_over) (defBody s_over) (defScope s_over) .none kV21 dc21 pm21 an21 cd21 ct21), sl21⟩) (c21 : PySem.W.codeIn K cd21 "over" = true) (k21 : PySem.W.keepIn K (.ref f21) = true)
    {f22 : Addr} {od22 an22 : Option Addr} {sl22 : Array (Option Value)} {oc22 kV22 dc22 pm22 cd22 ct22 : Value}
    (a22 : PySem.W.nsIn K mainGlobals "portion" = some (some (.ref f22))) (l22 : K.lookup f22 = some ⟨oc22, od22, .func (PySem.W.fnOf "portion" "portion" (defArgs s_portion) (defBody s_portion) (defScope s_portion) .none kV22 dc22 pm22 an22 cd22 ct22), sl22⟩) (c22 : PySem.W.codeIn K cd22 "portion" = true) (k22 : PySem.W.keepIn K (.ref f22) = true)
    {f23 : Addr} {od23 an23 : Option Addr} {sl23 : Array (Option Value)} {oc23 kV23 dc23 pm23 cd23 ct23 : Value}
    (a23 : PySem.W.nsIn K mainGlobals "parted" = some (some (.ref f23))) (l23 : K.lookup f23 = some ⟨oc23, od23, .func (PySem.W.fnOf "parted" "parted" (defArgs s_parted) (defBody s_parted) (defScope s_parted) .none kV23 dc23 pm23 an23 cd23 ct23), sl23⟩) (c23 : PySem.W.codeIn K cd23 "parted" = true) (k23 : PySem.W.keepIn K (.ref f23) = true)
    {f24 : Addr} {od24 an24 : Option Addr} {sl24 : Array (Option Value)} {oc24 kV24 dc24 pm24 cd24 ct24 : Value}
    (a24 : PySem.W.nsIn K mainGlobals "dissolved_of" = some (some (.ref f24))) (l24 : K.lookup f24 = some ⟨oc24, od24, .func (PySem.W.fnOf "dissolved_of" "dissolved_of" (defArgs s_dissolved_of) (defBody s_dissolved_of) (defScope s_dissolved_of) .none kV24 dc24 pm24 an24 cd24 ct24), sl24⟩) (c24 : PySem.W.codeIn K cd24 "dissolved_of" = true) (k24 : PySem.W.keepIn K (.ref f24) = true)
    {f25 : Addr} {od25 an25 : Option Addr} {sl25 : Array (Option Value)} {oc25 kV25 dc25 pm25 cd25 ct25 : Value}
    (a25 : PySem.W.nsIn K mainGlobals "fallen_layers" = some (some (.ref f25))) (l25 : K.lookup f25 = some ⟨oc25, od25, .func (PySem.W.fnOf "fallen_layers" "fallen_layers" (defArgs s_fallen_layers) (defBody s_fallen_layers) (defScope s_fallen_layers) .none kV25 dc25 pm25 an25 cd25 ct25), sl25⟩) (c25 : PySem.W.codeIn K cd25 "fallen_layers" = true) (k25 : PySem.W.keepIn K (.ref f25) = true)
    {f26 : Addr} {od26 an26 : Option Addr} {sl26 : Array (Option Value)} {oc26 kV26 dc26 pm26 cd26 ct26 : Value}
    (a26 : PySem.W.nsIn K mainGlobals "drawn" = some (some (.ref f26))) (l26 : K.lookup f26 = some ⟨oc26, od26, .func (PySem.W.fnOf "drawn" "drawn" (defArgs s_drawn) (defBody s_drawn) (defScope s_drawn) .none kV26 dc26 pm26 an26 cd26 ct26), sl26⟩) (c26 : PySem.W.codeIn K cd26 "drawn" = true) (k26 : PySem.W.keepIn K (.ref f26) = true)
    {f27 : Addr} {od27 an27 : Option Addr} {sl27 : Array (Option Value)} {oc27 kV27 dc27 pm27 cd27 ct27 : Value}
    (a27 : PySem.W.nsIn K mainGlobals "_law_folded" = some (some (.ref f27))) (l27 : K.lookup f27 = some ⟨oc27, od27, .func (PySem.W.fnOf "_law_folded" "_law_folded" (defArgs s__law_folded) (defBody s__law_folded) (defScope s__law_folded) .none kV27 dc27 pm27 an27 cd27 ct27), sl27⟩) (c27 : PySem.W.codeIn K cd27 "_law_folded" = true) (k27 : PySem.W.keepIn K (.ref f27) = true)
    {f28 : Addr} {od28 an28 : Option Addr} {sl28 : Array (Option Value)} {oc28 kV28 dc28 pm28 cd28 ct28 : Value}
    (a28 : PySem.W.nsIn K mainGlobals "_law_amount" = some (some (.ref f28))) (l28 : K.lookup f28 = some ⟨oc28, od28, .func (PySem.W.fnOf "_law_amount" "_law_amount" (defArgs s__law_amount) (defBody s__law_amount) (defScope s__law_amount) .none kV28 dc28 pm28 an28 cd28 ct28), sl28⟩) (c28 : PySem.W.codeIn K cd28 "_law_amount" = true) (k28 : PySem.W.keepIn K (.ref f28) = true)
    {f29 : Addr} {od29 an29 : Option Addr} {sl29 : Array (Option Value)} {oc29 kV29 dc29 pm29 cd29 ct29 : Value}
    (a29 : PySem.W.nsIn K mainGlobals "_law_drawn" = some (some (.ref f29))) (l29 : K.lookup f29 = some ⟨oc29, od29, .func (PySem.W.fnOf "_law_drawn" "_law_drawn" (defArgs s__law_drawn) (defBody s__law_drawn) (defScope s__law_drawn) .none kV29 dc29 pm29 an29 cd29 ct29), sl29⟩) (c29 : PySem.W.codeIn K cd29 "_law_drawn" = true) (k29 : PySem.W.keepIn K (.ref f29) = true)
    {f30 : Addr} {od30 an30 : Option Addr} {sl30 : Array (Option Value)} {oc30 kV30 dc30 pm30 cd30 ct30 : Value}
    (a30 : PySem.W.nsIn K mainGlobals "_law_under" = some (some (.ref f30))) (l30 : K.lookup f30 = some ⟨oc30, od30, .func (PySem.W.fnOf "_law_under" "_law_under" (defArgs s__law_under) (defBody s__law_under) (defScope s__law_under) .none kV30 dc30 pm30 an30 cd30 ct30), sl30⟩) (c30 : PySem.W.codeIn K cd30 "_law_under" = true) (k30 : PySem.W.keepIn K (.ref f30) = true)
    {f31 : Addr} {od31 an31 : Option Addr} {sl31 : Array (Option Value)} {oc31 kV31 dc31 pm31 cd31 ct31 : Value}
    (a31 : PySem.W.nsIn K mainGlobals "_law_less" = some (some (.ref f31))) (l31 : K.lookup f31 = some ⟨oc31, od31, .func (PySem.W.fnOf "_law_less" "_law_less" (defArgs s__law_less) (defBody s__law_less) (defScope s__law_less) .none kV31 dc31 pm31 an31 cd31 ct31), sl31⟩) (c31 : PySem.W.codeIn K cd31 "_law_less" = true) (k31 : PySem.W.keepIn K (.ref f31) = true)
    {f32 : Addr} {od32 an32 : Option Addr} {sl32 : Array (Option Value)} {oc32 kV32 dc32 pm32 cd32 ct32 : Value}
    (a32 : PySem.W.nsIn K mainGlobals "_law_by" = some (some (.ref f32))) (l32 : K.lookup f32 = some ⟨oc32, od32, .func (PySem.W.fnOf "_law_by" "_law_by" (defArgs s__law_by) (defBody s__law_by) (defScope s__law_by) .none kV32 dc32 pm32 an32 cd32 ct32), sl32⟩) (c32 : PySem.W.codeIn K cd32 "_law_by" = true) (k32 : PySem.W.keepIn K (.ref f32) = true)
    {f33 : Addr} {od33 an33 : Option Addr} {sl33 : Array (Option Value)} {oc33 kV33 dc33 pm33 cd33 ct33 : Value}
    (a33 : PySem.W.nsIn K mainGlobals "_law_times" = some (some (.ref f33))) (l33 : K.lookup f33 = some ⟨oc33, od33, .func (PySem.W.fnOf "_law_times" "_law_times" (defArgs s__law_times) (defBody s__law_times) (defScope s__law_times) .none kV33 dc33 pm33 an33 cd33 ct33), sl33⟩) (c33 : PySem.W.codeIn K cd33 "_law_times" = true) (k33 : PySem.W.keepIn K (.ref f33) = true)
    {f34 : Addr} {od34 an34 : Option Addr} {sl34 : Array (Option Value)} {oc34 kV34 dc34 pm34 cd34 ct34 : Value}
    (a34 : PySem.W.nsIn K mainGlobals "_law_taken" = some (some (.ref f34))) (l34 : K.lookup f34 = some ⟨oc34, od34, .func (PySem.W.fnOf "_law_taken" "_law_taken" (defArgs s__law_taken) (defBody s__law_taken) (defScope s__law_taken) .none kV34 dc34 pm34 an34 cd34 ct34), sl34⟩) (c34 : PySem.W.codeIn K cd34 "_law_taken" = true) (k34 : PySem.W.keepIn K (.ref f34) = true)
    {f35 : Addr} {od35 an35 : Option Addr} {sl35 : Array (Option Value)} {oc35 kV35 dc35 pm35 cd35 ct35 : Value}
    (a35 : PySem.W.nsIn K mainGlobals "_law_under_taken" = some (some (.ref f35))) (l35 : K.lookup f35 = some ⟨oc35, od35, .func (PySem.W.fnOf "_law_under_taken" "_law_under_taken" (defArgs s__law_under_taken) (defBody s__law_under_taken) (defScope s__law_under_taken) .none kV35 dc35 pm35 an35 cd35 ct35), sl35⟩) (c35 : PySem.W.codeIn K cd35 "_law_under_taken" = true) (k35 : PySem.W.keepIn K (.ref f35) = true)
    {f36 : Addr} {od36 an36 : Option Addr} {sl36 : Array (Option Value)} {oc36 kV36 dc36 pm36 cd36 ct36 : Value}
    (a36 : PySem.W.nsIn K mainGlobals "_law_over_taken" = some (some (.ref f36))) (l36 : K.lookup f36 = some ⟨oc36, od36, .func (PySem.W.fnOf "_law_over_taken" "_law_over_taken" (defArgs s__law_over_taken) (defBody s__law_over_taken) (defScope s__law_over_taken) .none kV36 dc36 pm36 an36 cd36 ct36), sl36⟩) (c36 : PySem.W.codeIn K cd36 "_law_over_taken" = true) (k36 : PySem.W.keepIn K (.ref f36) = true)
    {f37 : Addr} {od37 an37 : Option Addr} {sl37 : Array (Option Value)} {oc37 kV37 dc37 pm37 cd37 ct37 : Value}
    (a37 : PySem.W.nsIn K mainGlobals "skimmed" = some (some (.ref f37))) (l37 : K.lookup f37 = some ⟨oc37, od37, .func (PySem.W.fnOf "skimmed" "skimmed" (defArgs s_skimmed) (defBody s_skimmed) (defScope s_skimmed) .none kV37 dc37 pm37 an37 cd37 ct37), sl37⟩) (c37 : PySem.W.codeIn K cd37 "skimmed" = true) (k37 : PySem.W.keepIn K (.ref f37) = true)
    {f38 : Addr} {od38 an38 : Option Addr} {sl38 : Array (Option Value)} {oc38 kV38 dc38 pm38 cd38 ct38 : Value}
    (a38 : PySem.W.nsIn K mainGlobals "_law_word" = some (some (.ref f38))) (l38 : K.lookup f38 = some ⟨oc38, od38, .func (PySem.W.fnOf "_law_word" "_law_word" (defArgs s__law_word) (defBody s__law_word) (defScope s__law_word) .none kV38 dc38 pm38 an38 cd38 ct38), sl38⟩) (c38 : PySem.W.codeIn K cd38 "_law_word" = true) (k38 : PySem.W.keepIn K (.ref f38) = true)
    {f39 : Addr} {od39 an39 : Option Addr} {sl39 : Array (Option Value)} {oc39 kV39 dc39 pm39 cd39 ct39 : Value}
    (a39 : PySem.W.nsIn K mainGlobals "_law_told" = some (some (.ref f39))) (l39 : K.lookup f39 = some ⟨oc39, od39, .func (PySem.W.fnOf "_law_told" "_law_told" (defArgs s__law_told) (defBody s__law_told) (defScope s__law_told) .none kV39 dc39 pm39 an39 cd39 ct39), sl39⟩) (c39 : PySem.W.codeIn K cd39 "_law_told" = true) (k39 : PySem.W.keepIn K (.ref f39) = true)
    {f40 : Addr} {od40 an40 : Option Addr} {sl40 : Array (Option Value)} {oc40 kV40 dc40 pm40 cd40 ct40 : Value}
    (a40 : PySem.W.nsIn K mainGlobals "law" = some (some (.ref f40))) (l40 : K.lookup f40 = some ⟨oc40, od40, .func (PySem.W.fnOf "law" "law" (defArgs s_law) (defBody s_law) (defScope s_law) .none kV40 dc40 pm40 an40 cd40 ct40), sl40⟩) (c40 : PySem.W.codeIn K cd40 "law" = true) (k40 : PySem.W.keepIn K (.ref f40) = true)
    (z_ValueError : PySem.W.nsIn K mainGlobals "ValueError" = some none)
    (z_abs : PySem.W.nsIn K mainGlobals "abs" = some none)
    (z_enumerate : PySem.W.nsIn K mainGlobals "enumerate" = some none)
    (z_isinstance : PySem.W.nsIn K mainGlobals "isinstance" = some none)
    (z_len : PySem.W.nsIn K mainGlobals "len" = some none)
    (z_list : PySem.W.nsIn K mainGlobals "list" = some none)
    (z_max : PySem.W.nsIn K mainGlobals "max" = some none)
    (z_min : PySem.W.nsIn K mainGlobals "min" = some none)
    (z_range : PySem.W.nsIn K mainGlobals "range" = some none)
    (z_repr : PySem.W.nsIn K mainGlobals "repr" = some none)
    (z_sum : PySem.W.nsIn K mainGlobals "sum" = some none)
    (z_tuple : PySem.W.nsIn K mainGlobals "tuple" = some none)
    {c_NOUGHT : Addr} {od_NOUGHT : Option Addr} {n_NOUGHT : Nat} {sl_NOUGHT : Array (Option Value)} {t0_NOUGHT t1_NOUGHT : Tok} (m_NOUGHT : PySem.W.nsIn K mainGlobals "NOUGHT" = some (some (.ref c_NOUGHT))) (l_NOUGHT : K.lookup c_NOUGHT = some ⟨.type "tuple", od_NOUGHT, .seq #[.int 0 t0_NOUGHT, .int 1 t1_NOUGHT] n_NOUGHT, sl_NOUGHT⟩)
    {c_NoWater : Addr} (n_NoWater : PySem.W.nsIn K mainGlobals "NoWater" = some (some (.ref c_NoWater)))
    {c_NoFraction : Addr} (n_NoFraction : PySem.W.nsIn K mainGlobals "NoFraction" = some (some (.ref c_NoFraction)))
    {c_NoStrength : Addr} (n_NoStrength : PySem.W.nsIn K mainGlobals "NoStrength" = some (some (.ref c_NoStrength)))
    {c_NoBrine : Addr} (n_NoBrine : PySem.W.nsIn K mainGlobals "NoBrine" = some (some (.ref c_NoBrine)))
    {c_NoYear : Addr} (n_NoYear : PySem.W.nsIn K mainGlobals "NoYear" = some (some (.ref c_NoYear)))
    {c_NoMoment : Addr} (n_NoMoment : PySem.W.nsIn K mainGlobals "NoMoment" = some (some (.ref c_NoMoment)))
    {c_Weaker : Addr} (n_Weaker : PySem.W.nsIn K mainGlobals "Weaker" = some (some (.ref c_Weaker)))
    {c_NoRoom : Addr} (n_NoRoom : PySem.W.nsIn K mainGlobals "NoRoom" = some (some (.ref c_NoRoom)))
    {c_NoPan : Addr} (n_NoPan : PySem.W.nsIn K mainGlobals "NoPan" = some (some (.ref c_NoPan)))
    {c_NoLot : Addr} (n_NoLot : PySem.W.nsIn K mainGlobals "NoLot" = some (some (.ref c_NoLot)))
    {c_NoGate : Addr} (n_NoGate : PySem.W.nsIn K mainGlobals "NoGate" = some (some (.ref c_NoGate)))
    {c_NoDeed : Addr} (n_NoDeed : PySem.W.nsIn K mainGlobals "NoDeed" = some (some (.ref c_NoDeed)))
    {c_NoLater : Addr} (n_NoLater : PySem.W.nsIn K mainGlobals "NoLater" = some (some (.ref c_NoLater)))
    {c_NoLine : Addr} (n_NoLine : PySem.W.nsIn K mainGlobals "NoLine" = some (some (.ref c_NoLine)))
    {c_NoPlan : Addr} (n_NoPlan : PySem.W.nsIn K mainGlobals "NoPlan" = some (some (.ref c_NoPlan)))
    {c_NoText : Addr} (n_NoText : PySem.W.nsIn K mainGlobals "NoText" = some (some (.ref c_NoText)))
    {c_BrineError : Addr} (n_BrineError : PySem.W.nsIn K mainGlobals "BrineError" = some (some (.ref c_BrineError)))
    (hg_NoWater : PySem.W.findIn K (.ref c_NoWater) "__getattribute__" = some (some (.builtin "BaseException.__getattribute__")))
    (hk_NoWater : PySem.W.findIn K (.ref c_NoWater) "__getattr__" = some none)
    (hd_NoWater : PySem.W.hasDictIn K c_NoWater = true)
    (ha_NoWater : PySem.W.findIn K (.ref c_NoWater) "__class__" = some (some (.builtin "object.__class__")))
    (hm_NoWater : PySem.W.mroIn K c_NoWater (.type "object") = some true)
    (hn_ : PySem.W.specialIn K (.builtin "object.__class__") "__get__" = some (some (.builtin "getset_descriptor.__get__")))
    (ht_ : PySem.W.takesIn K (.builtin "object.__class__") = some true)
    (b_BrineError : PySem.W.subIn K (.ref c_BrineError) (.type "BaseException") = some true)
    (t_BrineError : PySem.W.typeIn K (.ref c_BrineError) = some (.type "type"))
    (b_NoFraction : PySem.W.subIn K (.ref c_NoFraction) (.type "BaseException") = some true)
    (t_NoFraction : PySem.W.typeIn K (.ref c_NoFraction) = some (.type "type"))
    (b_NoWater : PySem.W.subIn K (.ref c_NoWater) (.type "BaseException") = some true)
    (t_NoWater : PySem.W.typeIn K (.ref c_NoWater) = some (.type "type"))
    (q_NoWater : PySem.W.excIn K c_NoWater [.type "ValueError", .type "Exception", .type "BaseException", .type "object"] "ValueError.__new__" = true)
    (k_NoWater : PySem.W.keepIn K (.ref c_NoWater) = true)
    (q_NoFraction : PySem.W.excIn K c_NoFraction [.type "ValueError", .type "Exception", .type "BaseException", .type "object"] "ValueError.__new__" = true)
    (k_NoFraction : PySem.W.keepIn K (.ref c_NoFraction) = true)
    (hd_BrineError : PySem.W.hasDictIn K c_BrineError = true)
    (s_NoWater_BrineError : PySem.W.subIn K (.ref c_NoWater) (.ref c_BrineError) = some true)
    (s_NoWater_NoWater : PySem.W.subIn K (.ref c_NoWater) (.ref c_NoWater) = some true)
    (hd_NoStrength : PySem.W.hasDictIn K c_NoStrength = true)
    (t_NoStrength : PySem.W.typeIn K (.ref c_NoStrength) = some (.type "type"))
    (s_NoWater_NoStrength : PySem.W.subIn K (.ref c_NoWater) (.ref c_NoStrength) = some false)
    (hd_NoBrine : PySem.W.hasDictIn K c_NoBrine = true)
    (t_NoBrine : PySem.W.typeIn K (.ref c_NoBrine) = some (.type "type"))
    (s_NoWater_NoBrine : PySem.W.subIn K (.ref c_NoWater) (.ref c_NoBrine) = some false)
    (hd_NoFraction : PySem.W.hasDictIn K c_NoFraction = true)
    (s_NoWater_NoFraction : PySem.W.subIn K (.ref c_NoWater) (.ref c_NoFraction) = some false)
    (hd_NoYear : PySem.W.hasDictIn K c_NoYear = true)
    (t_NoYear : PySem.W.typeIn K (.ref c_NoYear) = some (.type "type"))
    (s_NoWater_NoYear : PySem.W.subIn K (.ref c_NoWater) (.ref c_NoYear) = some false)
    (hd_NoMoment : PySem.W.hasDictIn K c_NoMoment = true)
    (t_NoMoment : PySem.W.typeIn K (.ref c_NoMoment) = some (.type "type"))
    (s_NoWater_NoMoment : PySem.W.subIn K (.ref c_NoWater) (.ref c_NoMoment) = some false)
    (hd_Weaker : PySem.W.hasDictIn K c_Weaker = true)
    (t_Weaker : PySem.W.typeIn K (.ref c_Weaker) = some (.type "type"))
    (s_NoWater_Weaker : PySem.W.subIn K (.ref c_NoWater) (.ref c_Weaker) = some false)
    (hd_NoRoom : PySem.W.hasDictIn K c_NoRoom = true)
    (t_NoRoom : PySem.W.typeIn K (.ref c_NoRoom) = some (.type "type"))
    (s_NoWater_NoRoom : PySem.W.subIn K (.ref c_NoWater) (.ref c_NoRoom) = some false)
    (hd_NoPan : PySem.W.hasDictIn K c_NoPan = true)
    (t_NoPan : PySem.W.typeIn K (.ref c_NoPan) = some (.type "type"))
    (s_NoWater_NoPan : PySem.W.subIn K (.ref c_NoWater) (.ref c_NoPan) = some false)
    (hd_NoLot : PySem.W.hasDictIn K c_NoLot = true)
    (t_NoLot : PySem.W.typeIn K (.ref c_NoLot) = some (.type "type"))
    (s_NoWater_NoLot : PySem.W.subIn K (.ref c_NoWater) (.ref c_NoLot) = some false)
    (hd_NoGate : PySem.W.hasDictIn K c_NoGate = true)
    (t_NoGate : PySem.W.typeIn K (.ref c_NoGate) = some (.type "type"))
    (s_NoWater_NoGate : PySem.W.subIn K (.ref c_NoWater) (.ref c_NoGate) = some false)
    (hd_NoDeed : PySem.W.hasDictIn K c_NoDeed = true)
    (t_NoDeed : PySem.W.typeIn K (.ref c_NoDeed) = some (.type "type"))
    (s_NoWater_NoDeed : PySem.W.subIn K (.ref c_NoWater) (.ref c_NoDeed) = some false)
    (hd_NoLater : PySem.W.hasDictIn K c_NoLater = true)
    (t_NoLater : PySem.W.typeIn K (.ref c_NoLater) = some (.type "type"))
    (s_NoWater_NoLater : PySem.W.subIn K (.ref c_NoWater) (.ref c_NoLater) = some false)
    (hd_NoLine : PySem.W.hasDictIn K c_NoLine = true)
    (t_NoLine : PySem.W.typeIn K (.ref c_NoLine) = some (.type "type"))
    (s_NoWater_NoLine : PySem.W.subIn K (.ref c_NoWater) (.ref c_NoLine) = some false)
    (hd_NoPlan : PySem.W.hasDictIn K c_NoPlan = true)
    (t_NoPlan : PySem.W.typeIn K (.ref c_NoPlan) = some (.type "type"))
    (s_NoWater_NoPlan : PySem.W.subIn K (.ref c_NoWater) (.ref c_NoPlan) = some false)
    (hd_NoText : PySem.W.hasDictIn K c_NoText = true)
    (t_NoText : PySem.W.typeIn K (.ref c_NoText) = some (.type "type"))
    (s_NoWater_NoText : PySem.W.subIn K (.ref c_NoWater) (.ref c_NoText) = some false)
    (s_NoWater_ValueError : PySem.W.subIn K (.ref c_NoWater) (.type "ValueError") = some true)
    : ∃ fd : FuncData, (∀ (s : Shared) (v : Value), BindsTo s fd ⟨[v], []⟩ [("script", v)]) ∧ ∀ base : Heap, K.In base → base.Ns mainGlobals mg → GOk l.prog w K mg base CX0 9 fa fd ["script"] (spL K 1 F_law) := by
  obtain ⟨T, e1, e2⟩ := all_mk X G a0 l0 c0 k0 a1 l1 c1 k1 a2 l2 c2 k2 a3 l3 c3 k3 a4 l4 c4 k4 a5 l5 c5 k5 a6 l6 c6 k6 a7 l7 c7 k7 a8 l8 c8 k8 a9 l9 c9 k9 a10 l10 c10 k10 a11 l11 c11 k11 a12 l12 c12 k12 a13 l13 c13 k13 a14 l14 c14 k14 a15 l15 c15 k15 a16 l16 c16 k16 a17 l17 c17 k17 a18 l18 c18 k18 a19 l19 c19 k19 a20 l20 c20 k20 a21 l21 c21 k21 a22 l22 c22 k22 a23 l23 c23 k23 a24 l24 c24 k24 a25 l25 c25 k25 a26 l26 c26 k26 a27 l27 c27 k27 a28 l28 c28 k28 a29 l29 c29 k29 a30 l30 c30 k30 a31 l31 c31 k31 a32 l32 c32 k32 a33 l33 c33 k33 a34 l34 c34 k34 a35 l35 c35 k35 a36 l36 c36 k36 a37 l37 c37 k37 a38 l38 c38 k38 a39 l39 c39 k39 a40 l40 c40 k40 z_ValueError z_abs z_enumerate z_isinstance z_len z_list z_max z_min z_range z_repr z_sum z_tuple m_NOUGHT l_NOUGHT n_NoWater n_NoFraction n_NoStrength n_NoBrine n_NoYear n_NoMoment n_Weaker n_NoRoom n_NoPan n_NoLot n_NoGate n_NoDeed n_NoLater n_NoLine n_NoPlan n_NoText n_BrineError hg_NoWater hk_NoWater hd_NoWater ha_NoWater hm_NoWater hn_ ht_ b_BrineError t_BrineError b_NoFraction t_NoFraction b_NoWater t_NoWater q_NoWater k_NoWater q_NoFraction k_NoFraction hd_BrineError s_NoWater_BrineError s_NoWater_NoWater hd_NoStrength t_NoStrength s_NoWater_NoStrength hd_NoBrine t_NoBrine s_NoWater_NoBrine hd_NoFraction s_NoWater_NoFraction hd_NoYear t_NoYear s_NoWater_NoYear hd_NoMoment t_NoMoment s_NoWater_NoMoment hd_Weaker t_Weaker s_NoWater_Weaker hd_NoRoom t_NoRoom s_NoWater_NoRoom hd_NoPan t_NoPan s_NoWater_NoPan hd_NoLot t_NoLot s_NoWater_NoLot hd_NoGate t_NoGate s_NoWater_NoGate hd_NoDeed t_NoDeed s_NoWater_NoDeed hd_NoLater t_NoLater s_NoWater_NoLater hd_NoLine t_NoLine s_NoWater_NoLine hd_NoPlan t_NoPlan s_NoWater_NoPlan hd_NoText t_NoText s_NoWater_NoText s_NoWater_ValueError
  have e := hfa.symm.trans (PySem.W.mg_of X G a40)
  cases e
  exact ⟨PySem.W.fnOf "law" "law" (defArgs s_law) (defBody s_law) (defScope s_law) .none kV40 dc40 pm40 an40 cd40 ct40, fun s v => .of_eq rfl, fun base _ _ => by have := ok_law (P := l.prog) (w := w) (base := base) T; rw [e1, e2] at this; exact this.imp spL_imp⟩
theorem np_int (i : Int) : (D.int i).np = true := rfl
theorem np_bl (i : Bool) : (D.bl i).np = true := rfl
theorem np_tup (i : List D) : (D.tup i).np = true := rfl
theorem np_lst (i : List D) : (D.lst i).np = true := rfl
theorem np_str (i : Str) : (D.str i).np = true := rfl
theorem np_non : D.non.np = true := rfl
theorem if_true_ {α : Type} (a b : α) : (if true = true then a else b) = a := rfl
theorem if_false_ {α : Type} (a b : α) : (if false = true then a else b) = b := rfl
theorem zero_add' (n : Nat) : 0 + n = n := Nat.zero_add n
theorem nat_lt_pow {n k : Nat} (m : Nat) (h : n < 2 ^ k) (l : k ≤ m) : n < 2 ^ m := Nat.lt_of_lt_of_le h (Nat.pow_le_pow_right (by decide) l)
theorem if_tt {α : Type} (a b : α) : (if True then a else b) = a := if_pos trivial
theorem if_ff {α : Type} (a b : α) : (if False then a else b) = b := if_neg id
/-! common -/
theorem common_loop : ∀ (n : Nat) (a b : Int) (M : Mem), b.natAbs < n → ∃ a', a'.natAbs = Int.gcd a b ∧
    whileF (bnd (bnd (dVar 1) fun d => bnd (ret (.int 0)) fun e => oNe d e) asB) den_common_L1 n [some (.int a), some (.int b)] M = some (.nx [some (.int a'), some (.int 0)], M)
  | 0, a, b, M, h => absurd h (by omega)
  | n + 1, a, b, M, h => by
    by_cases hb : b = 0
    · subst hb
      refine ⟨a, by simp, ?_⟩
      unfold whileF
      simp -implicitDefEqProofs only [sSeq_ap, sAsg_ap, sPar_ap, sRet_ap, sIf_ap, sExpr_ap, sNext_ap, bnd_ap, ret_ap, bindR_ok, thenR_ok, dVar_ap, varR_ok, seqR_nx, seqR_rt, asgR_ok, gNm_ap, gCn_ap, gcnR_ok, gNl_ap, gTp_fr, gTp_ap, gLs_ap, dCons_ap, dNil_ap, asB_ap, dOr_ap, dAnd_ap, dNot_ap, dAndV_ap, dOrV_ap, dNotV_ap, dIf_ap, oAdd_int, oSub_int, oLt_int, oLe_int, oGt_int, oGe_int, oNeg_int, oEq_int, oNe_int, oEq_fr, oNe_fr, oEq_bl, oNe_bl, oTup_ap, oLst_ap, oCall_ap, oAbs_ap, oMax_ap, oMin_ap, oToInt_b, oToInt_i, oLen_lst, oLen_scr, oLen_tup, oIx_lst, oIx_scr, oAdd_lst, oIx_tup, oIx_fr0, oIx_fr1, ixR_ok, oItL_ap, oItT_ap, sFor_ap, startD, List.map_cons, List.map_nil, List.length_cons, List.length_nil, List.replicate_succ, List.replicate_zero, List.cons_append, List.nil_append, List.append_nil, List.getElem?_cons_zero, List.getElem?_cons_succ, List.set_cons_zero, List.set_cons_succ, Nat.reduceAdd, Nat.reduceSub, Nat.sub_self, Nat.reduceLeDiff, List.all_cons, List.all_nil, np_fr, np_int, np_bl, np_tup, np_lst, np_str, np_non, Bool.and_self, Bool.and_true, if_true_, if_false_, zero_add', if_tt, if_ff, decide_true, decide_false, Nat.le_refl, oItS_lst, oItS_tup, oTupOf_lst, oTupOf_tup, oLstOf_lst, oLstOf_tup, oRv_lst, oRv_tup, oAdd_tup, dChain_ap, asTru_bl, asTru_tup, asTru_lst, oIsN_ap, oNotN_ap, asI_ap, oSl_tup, oSl_lst, oZip_tup, oZip_lst, oAddI_ap, oEqS_ap, oNeS_ap, oNe_nil, Bool.not_true, Bool.false_eq_true]
    · obtain ⟨a', e1, e2⟩ := common_loop n b (a.fmod b) M (by have := natAbs_fmod_lt a hb; omega)
      refine ⟨a', by rw [e1, gcd_fmod], ?_⟩
      unfold whileF
      simp -implicitDefEqProofs only [sSeq_ap, sAsg_ap, sPar_ap, sRet_ap, sIf_ap, sExpr_ap, sNext_ap, bnd_ap, ret_ap, bindR_ok, thenR_ok, dVar_ap, varR_ok, seqR_nx, seqR_rt, asgR_ok, gNm_ap, gCn_ap, gcnR_ok, gNl_ap, gTp_fr, gTp_ap, gLs_ap, dCons_ap, dNil_ap, asB_ap, dOr_ap, dAnd_ap, dNot_ap, dAndV_ap, dOrV_ap, dNotV_ap, dIf_ap, oAdd_int, oSub_int, oLt_int, oLe_int, oGt_int, oGe_int, oNeg_int, oEq_int, oNe_int, oEq_fr, oNe_fr, oEq_bl, oNe_bl, oTup_ap, oLst_ap, oCall_ap, oAbs_ap, oMax_ap, oMin_ap, oToInt_b, oToInt_i, oLen_lst, oLen_scr, oLen_tup, oIx_lst, oIx_scr, oAdd_lst, oIx_tup, oIx_fr0, oIx_fr1, ixR_ok, oItL_ap, oItT_ap, sFor_ap, startD, List.map_cons, List.map_nil, List.length_cons, List.length_nil, List.replicate_succ, List.replicate_zero, List.cons_append, List.nil_append, List.append_nil, List.getElem?_cons_zero, List.getElem?_cons_succ, List.set_cons_zero, List.set_cons_succ, Nat.reduceAdd, Nat.reduceSub, Nat.sub_self, Nat.reduceLeDiff, List.all_cons, List.all_nil, np_fr, np_int, np_bl, np_tup, np_lst, np_str, np_non, Bool.and_self, Bool.and_true, if_true_, if_false_, zero_add', if_tt, if_ff, decide_true, decide_false, Nat.le_refl, oItS_lst, oItS_tup, oTupOf_lst, oTupOf_tup, oLstOf_lst, oLstOf_tup, oRv_lst, oRv_tup, oAdd_tup, dChain_ap, asTru_bl, asTru_tup, asTru_lst, oIsN_ap, oNotN_ap, asI_ap, oSl_tup, oSl_lst, oZip_tup, oZip_lst, oAddI_ap, oEqS_ap, oNeS_ap, oNe_nil, hb, Bool.not_false]
      have e4 : den_common_L1 [some (.int a), some (.int b)] M = some (.nx [some (.int b), some (.int (a.fmod b))], M) := by
        simp -implicitDefEqProofs only [den_common_L1, sSeq_ap, sAsg_ap, sPar_ap, sRet_ap, sIf_ap, sExpr_ap, sNext_ap, bnd_ap, ret_ap, bindR_ok, thenR_ok, dVar_ap, varR_ok, seqR_nx, seqR_rt, asgR_ok, gNm_ap, gCn_ap, gcnR_ok, gNl_ap, gTp_fr, gTp_ap, gLs_ap, dCons_ap, dNil_ap, asB_ap, dOr_ap, dAnd_ap, dNot_ap, dAndV_ap, dOrV_ap, dNotV_ap, dIf_ap, oAdd_int, oSub_int, oLt_int, oLe_int, oGt_int, oGe_int, oNeg_int, oEq_int, oNe_int, oEq_fr, oNe_fr, oEq_bl, oNe_bl, oTup_ap, oLst_ap, oCall_ap, oAbs_ap, oMax_ap, oMin_ap, oToInt_b, oToInt_i, oLen_lst, oLen_scr, oLen_tup, oIx_lst, oIx_scr, oAdd_lst, oIx_tup, oIx_fr0, oIx_fr1, ixR_ok, oItL_ap, oItT_ap, sFor_ap, startD, List.map_cons, List.map_nil, List.length_cons, List.length_nil, List.replicate_succ, List.replicate_zero, List.cons_append, List.nil_append, List.append_nil, List.getElem?_cons_zero, List.getElem?_cons_succ, List.set_cons_zero, List.set_cons_succ, Nat.reduceAdd, Nat.reduceSub, Nat.sub_self, Nat.reduceLeDiff, List.all_cons, List.all_nil, np_fr, np_int, np_bl, np_tup, np_lst, np_str, np_non, Bool.and_self, Bool.and_true, if_true_, if_false_, zero_add', if_tt, if_ff, decide_true, decide_false, Nat.le_refl, oItS_lst, oItS_tup, oTupOf_lst, oTupOf_tup, oLstOf_lst, oLstOf_tup, oRv_lst, oRv_tup, oAdd_tup, dChain_ap, asTru_bl, asTru_tup, asTru_lst, oIsN_ap, oNotN_ap, asI_ap, oSl_tup, oSl_lst, oZip_tup, oZip_lst, oAddI_ap, oEqS_ap, oNeS_ap, oNe_nil, oMod_int hb]
      simp -implicitDefEqProofs only [e4, e2]
theorem common_eq (a b : Int) (M : Mem) : F_common [.int a, .int b] M = some (.ok (.int (Int.gcd a b : Nat)), M) := by
  obtain ⟨a', e1, e2⟩ := common_loop (b.natAbs + 1) a b M (by omega)
  refine runF_pure ?_ rfl
  have e3 := sWhile_eq e2
  simp -implicitDefEqProofs only [den_common, sSeq_ap, sAsg_ap, sPar_ap, sRet_ap, sIf_ap, sExpr_ap, sNext_ap, bnd_ap, ret_ap, bindR_ok, thenR_ok, dVar_ap, varR_ok, seqR_nx, seqR_rt, asgR_ok, gNm_ap, gCn_ap, gcnR_ok, gNl_ap, gTp_fr, gTp_ap, gLs_ap, dCons_ap, dNil_ap, asB_ap, dOr_ap, dAnd_ap, dNot_ap, dAndV_ap, dOrV_ap, dNotV_ap, dIf_ap, oAdd_int, oSub_int, oLt_int, oLe_int, oGt_int, oGe_int, oNeg_int, oEq_int, oNe_int, oEq_fr, oNe_fr, oEq_bl, oNe_bl, oTup_ap, oLst_ap, oCall_ap, oAbs_ap, oMax_ap, oMin_ap, oToInt_b, oToInt_i, oLen_lst, oLen_scr, oLen_tup, oIx_lst, oIx_scr, oAdd_lst, oIx_tup, oIx_fr0, oIx_fr1, ixR_ok, oItL_ap, oItT_ap, sFor_ap, startD, List.map_cons, List.map_nil, List.length_cons, List.length_nil, List.replicate_succ, List.replicate_zero, List.cons_append, List.nil_append, List.append_nil, List.getElem?_cons_zero, List.getElem?_cons_succ, List.set_cons_zero, List.set_cons_succ, Nat.reduceAdd, Nat.reduceSub, Nat.sub_self, Nat.reduceLeDiff, List.all_cons, List.all_nil, np_fr, np_int, np_bl, np_tup, np_lst, np_str, np_non, Bool.and_self, Bool.and_true, if_true_, if_false_, zero_add', if_tt, if_ff, decide_true, decide_false, Nat.le_refl, oItS_lst, oItS_tup, oTupOf_lst, oTupOf_tup, oLstOf_lst, oLstOf_tup, oRv_lst, oRv_tup, oAdd_tup, dChain_ap, asTru_bl, asTru_tup, asTru_lst, oIsN_ap, oNotN_ap, asI_ap, oSl_tup, oSl_lst, oZip_tup, oZip_lst, oAddI_ap, oEqS_ap, oNeS_ap, oNe_nil, e3]
  rw [← e1]
  congr
  split <;> omega
/-! plus -/
theorem plus_math (x y : Rat) : let g := Nat.gcd x.den y.den
    let top : Int := x.num * ((y.den / g : Nat) : Int) + y.num * ((x.den / g : Nat) : Int)
    (x + y).num = top / (Int.gcd top g : Nat) ∧ (x + y).den = (x.den / g) * (y.den / Int.gcd top g) := by
  intro g top
  have hx := x.den_pos
  have hy := y.den_pos
  have gp : 0 < g := Nat.gcd_pos_of_pos_left _ hx
  obtain ⟨b', hb⟩ : g ∣ x.den := Nat.gcd_dvd_left _ _
  obtain ⟨d', hd⟩ : g ∣ y.den := Nat.gcd_dvd_right _ _
  have eb : x.den / g = b' := by rw [hb]; exact Nat.mul_div_cancel_left _ gp
  have ed : y.den / g = d' := by rw [hd]; exact Nat.mul_div_cancel_left _ gp
  have aux := Rat.add.aux x y (g := g) rfl rfl rfl
  simp only at aux
  have et : top = x.num * (d' : Int) + y.num * (b' : Int) := by show x.num * ((y.den / g : Nat) : Int) + y.num * ((x.den / g : Nat) : Int) = _; rw [eb, ed]
  have aux2 : top.natAbs.gcd g = top.natAbs.gcd (b' * y.den) := by
    have : top = x.num * ((y.den / g : Nat) : Int) + y.num * ((x.den / g : Nat) : Int) := rfl
    rw [this, aux, eb]
  have eg : Int.gcd top (g : Int) = top.natAbs.gcd g := by simp [Int.gcd]
  have hg1 : Int.gcd top g = top.natAbs.gcd (b' * y.den) := eg.trans aux2
  have g1g : Int.gcd top g ∣ g := by rw [eg]; exact Nat.gcd_dvd_right _ _
  have g1p : 0 < Int.gcd top g := Nat.pos_of_dvd_of_pos g1g gp
  obtain ⟨r, hr⟩ : Int.gcd top g ∣ y.den := Nat.dvd_trans g1g (Nat.gcd_dvd_right _ _)
  have er : y.den / Int.gcd top g = r := by rw [hr]; rw [← hr]; conv => lhs; lhs; rw [hr]
                                            exact Nat.mul_div_cancel_left _ g1p
  obtain ⟨t, ht⟩ : ((Int.gcd top g : Nat) : Int) ∣ top := Int.gcd_dvd_left ..
  have ett : top / (Int.gcd top g : Nat) = t := by
    conv => lhs; lhs; rw [ht]
    exact Int.mul_ediv_cancel_left _ (by omega)
  rw [eb, er, ett]
  have bp : 0 < b' := Nat.pos_of_ne_zero fun z => by rw [z] at hb; omega
  have rp : 0 < r := Nat.pos_of_ne_zero fun z => by rw [z] at hr; omega
  have hnz : b' * r ≠ 0 := Nat.ne_of_gt (Nat.mul_pos bp rp)
  have gp2 : 0 < top.natAbs.gcd (b' * y.den) := by rw [← hg1]; exact g1p
  refine rat_uniq hnz ?_ ?_
  · -- coprime
    have cop := Nat.coprime_div_gcd_div_gcd (m := top.natAbs) (n := b' * y.den) gp2
    rw [← hg1] at cop
    have e1 : top.natAbs / Int.gcd top g = t.natAbs := by
      conv => lhs; lhs; rw [ht]
      rw [Int.natAbs_mul, Int.natAbs_natCast]
      exact Nat.mul_div_cancel_left _ g1p
    have e2 : b' * y.den / Int.gcd top g = b' * r := by
      conv => lhs; lhs; rw [hr]
      rw [← Nat.mul_assoc, Nat.mul_comm b', Nat.mul_assoc]
      exact Nat.mul_div_cancel_left _ g1p
    rw [e1, e2] at cop
    exact cop
  · have e0 : mkRat (x + y).num (x + y).den = mkRat (x.num * y.den + y.num * x.den) (x.den * y.den) := by
      rw [Rat.mkRat_self, Rat.add_def, Rat.normalize_eq_mkRat]
    rw [Rat.mkRat_eq_iff (x + y).den_nz (Nat.ne_of_gt (Nat.mul_pos hx hy))] at e0
    have c1 : x.num * (y.den : Int) + y.num * (x.den : Int) = (g : Int) * ((Int.gcd top g : Nat) : Int) * t := by
      rw [Int.mul_assoc, ← ht, et, hb, hd]
      push_cast
      grind
    have c2 : ((x.den * y.den : Nat) : Int) = (g : Int) * ((Int.gcd top g : Nat) : Int) * ((b' * r : Nat) : Int) := by
      rw [hb, hr]
      push_cast
      grind
    rw [c1, c2] at e0
    have nz : (g : Int) * ((Int.gcd top g : Nat) : Int) ≠ 0 := by
      have : 0 < (g : Int) * ((Int.gcd top g : Nat) : Int) := Int.mul_pos (by omega) (by omega)
      omega
    refine Int.eq_of_mul_eq_mul_left nz ?_
    grind
theorem nat_div_lt {n g k : Nat} (h : n < 2 ^ k) : n / g < 2 ^ k := Nat.lt_of_le_of_lt (Nat.div_le_self _ _) h
theorem den_nat_lt {q : Rat} {k : Nat} (h : Bd k q) : ((q.den : Int)).natAbs < 2 ^ k := by simpa using h.2
/-- F_plus -/
theorem plus_eq {x y : Rat} (hx : Bd 4000 x) (hy : Bd 4000 y) (M : Mem) : F_plus [frQ x, frQ y] M = some (.ok (frQ (x + y)), M) := by
  obtain ⟨m1, m2⟩ := plus_math x y
  refine runF_pure ?_ rfl
  have gp : 0 < Nat.gcd x.den y.den := Nat.gcd_pos_of_pos_left _ x.den_pos
  have gl : Nat.gcd x.den y.den < 2 ^ 4000 := Nat.lt_of_le_of_lt (Nat.gcd_le_left _ x.den_pos) hx.2
  have ig : Int.gcd (x.den : Int) (y.den : Int) = Nat.gcd x.den y.den := by simp [Int.gcd]
  have d1 : DivOk ((Nat.gcd x.den y.den : Nat) : Int) := DivOk.of (b := 4000) (by omega) (by simpa using gl)
  have q1 : ((y.den : Int)).fdiv ((Nat.gcd x.den y.den : Nat) : Int) = ((y.den / Nat.gcd x.den y.den : Nat) : Int) := by rw [fdiv_nat]; rfl
  have q2 : ((x.den : Int)).fdiv ((Nat.gcd x.den y.den : Nat) : Int) = ((x.den / Nat.gcd x.den y.den : Nat) : Int) := by rw [fdiv_nat]; rfl
  have k1 : MulOk x.num ((y.den / Nat.gcd x.den y.den : Nat) : Int) := MulOk.of (a := 4000) (b := 4000) hx.1 (by rw [Int.natAbs_natCast]; exact nat_div_lt hy.2)
  have k2 : MulOk y.num ((x.den / Nat.gcd x.den y.den : Nat) : Int) := MulOk.of (a := 4000) (b := 4000) hy.1 (by rw [Int.natAbs_natCast]; exact nat_div_lt hx.2)
  generalize ht : x.num * ((y.den / Nat.gcd x.den y.den : Nat) : Int) + y.num * ((x.den / Nat.gcd x.den y.den : Nat) : Int) = top at m1 m2
  have ggd : Int.gcd top (Nat.gcd x.den y.den : Nat) ∣ Nat.gcd x.den y.den := by
    have : Int.gcd top (Nat.gcd x.den y.den : Nat) = Nat.gcd top.natAbs (Nat.gcd x.den y.den) := by simp [Int.gcd]
    rw [this]; exact Nat.gcd_dvd_right _ _
  have ggp : 0 < Int.gcd top (Nat.gcd x.den y.den : Nat) := Nat.pos_of_dvd_of_pos ggd gp
  have d2 : DivOk ((Int.gcd top (Nat.gcd x.den y.den : Nat) : Nat) : Int) := DivOk.of (b := 4000) (by omega) (by simpa using Nat.lt_of_le_of_lt (Nat.le_of_dvd gp ggd) gl)
  have q3 : ((y.den : Int)).fdiv ((Int.gcd top (Nat.gcd x.den y.den : Nat) : Nat) : Int) = ((y.den / Int.gcd top (Nat.gcd x.den y.den : Nat) : Nat) : Int) := by rw [fdiv_nat]; rfl
  have k3 : MulOk ((x.den / Nat.gcd x.den y.den : Nat) : Int) ((y.den / Int.gcd top (Nat.gcd x.den y.den : Nat) : Nat) : Int) := MulOk.of (a := 4000) (b := 4000) (by rw [Int.natAbs_natCast]; exact nat_div_lt hx.2) (by rw [Int.natAbs_natCast]; exact nat_div_lt hy.2)
  simp -implicitDefEqProofs only [den_plus, sSeq_ap, sAsg_ap, sPar_ap, sRet_ap, sIf_ap, sExpr_ap, sNext_ap, bnd_ap, ret_ap, bindR_ok, thenR_ok, dVar_ap, varR_ok, seqR_nx, seqR_rt, asgR_ok, gNm_ap, gCn_ap, gcnR_ok, gNl_ap, gTp_fr, gTp_ap, gLs_ap, dCons_ap, dNil_ap, asB_ap, dOr_ap, dAnd_ap, dNot_ap, dAndV_ap, dOrV_ap, dNotV_ap, dIf_ap, oAdd_int, oSub_int, oLt_int, oLe_int, oGt_int, oGe_int, oNeg_int, oEq_int, oNe_int, oEq_fr, oNe_fr, oEq_bl, oNe_bl, oTup_ap, oLst_ap, oCall_ap, oAbs_ap, oMax_ap, oMin_ap, oToInt_b, oToInt_i, oLen_lst, oLen_scr, oLen_tup, oIx_lst, oIx_scr, oAdd_lst, oIx_tup, oIx_fr0, oIx_fr1, ixR_ok, oItL_ap, oItT_ap, sFor_ap, startD, List.map_cons, List.map_nil, List.length_cons, List.length_nil, List.replicate_succ, List.replicate_zero, List.cons_append, List.nil_append, List.append_nil, List.getElem?_cons_zero, List.getElem?_cons_succ, List.set_cons_zero, List.set_cons_succ, Nat.reduceAdd, Nat.reduceSub, Nat.sub_self, Nat.reduceLeDiff, List.all_cons, List.all_nil, np_fr, np_int, np_bl, np_tup, np_lst, np_str, np_non, Bool.and_self, Bool.and_true, if_true_, if_false_, zero_add', if_tt, if_ff, decide_true, decide_false, Nat.le_refl, oItS_lst, oItS_tup, oTupOf_lst, oTupOf_tup, oLstOf_lst, oLstOf_tup, oRv_lst, oRv_tup, oAdd_tup, dChain_ap, asTru_bl, asTru_tup, asTru_lst, oIsN_ap, oNotN_ap, asI_ap, oSl_tup, oSl_lst, oZip_tup, oZip_lst, oAddI_ap, oEqS_ap, oNeS_ap, oNe_nil, common_eq, ig, oDiv_int d1, q1, q2, oMul_int k1, oMul_int k2, ht, oDiv_int d2, q3, oMul_int k3, fdiv_nat]
  congr
  · exact m1.symm
  · rw [m2]; push_cast; rfl
/-- times -/
theorem times_math (x y : Rat) : (x * y).num = (x.num / (Int.gcd x.num y.den : Nat)) * (y.num / (Int.gcd y.num x.den : Nat)) ∧ (x * y).den = (x.den / Int.gcd y.num x.den) * (y.den / Int.gcd x.num y.den) := by
  have e : x * y = Rat.mul x y := rfl
  have g1 : Int.gcd x.num y.den = x.num.natAbs.gcd y.den := by simp [Int.gcd]
  have g2 : Int.gcd y.num x.den = y.num.natAbs.gcd x.den := by simp [Int.gcd]
  rw [e, g1, g2]
  unfold Rat.mul
  simp -implicitDefEqProofs only [Int.divExact_eq_ediv, Nat.divExact_eq_div]
  exact ⟨trivial, trivial⟩
theorem times_eq {x y : Rat} (hx : Bd 4000 x) (hy : Bd 4000 y) (M : Mem) : F_times [frQ x, frQ y] M = some (.ok (frQ (x * y)), M) := by
  obtain ⟨m1, m2⟩ := times_math x y
  refine runF_pure ?_ rfl
  have gd : ∀ (n : Int) (d : Nat), 0 < d → 0 < Int.gcd n d ∧ Int.gcd n d ≤ d := fun n d hd => by
    have e : Int.gcd n d = n.natAbs.gcd d := by simp [Int.gcd]
    rw [e]
    exact ⟨Nat.gcd_pos_of_pos_right _ hd, Nat.gcd_le_right _ hd⟩
  obtain ⟨p1, l1⟩ := gd x.num y.den y.den_pos
  obtain ⟨p2, l2⟩ := gd y.num x.den x.den_pos
  have d1 : DivOk ((Int.gcd x.num y.den : Nat) : Int) := DivOk.of (b := 4000) (by omega) (by simpa using Nat.lt_of_le_of_lt l1 hy.2)
  have d2 : DivOk ((Int.gcd y.num x.den : Nat) : Int) := DivOk.of (b := 4000) (by omega) (by simpa using Nat.lt_of_le_of_lt l2 hx.2)
  have ab : ∀ (n : Int) (g : Nat), (n / (g : Int)).natAbs ≤ n.natAbs := fun n g => Int.natAbs_ediv_le_natAbs n g
  have k1 : MulOk (x.num / ((Int.gcd x.num y.den : Nat) : Int)) (y.num / ((Int.gcd y.num x.den : Nat) : Int)) := MulOk.of (a := 4000) (b := 4000) (Nat.lt_of_le_of_lt (ab _ _) hx.1) (Nat.lt_of_le_of_lt (ab _ _) hy.1)
  have k2 : MulOk ((x.den : Int) / ((Int.gcd y.num x.den : Nat) : Int)) ((y.den : Int) / ((Int.gcd x.num y.den : Nat) : Int)) := MulOk.of (a := 4000) (b := 4000) (Nat.lt_of_le_of_lt (ab _ _) (by simpa using hx.2)) (Nat.lt_of_le_of_lt (ab _ _) (by simpa using hy.2))
  simp -implicitDefEqProofs only [den_times, sSeq_ap, sAsg_ap, sPar_ap, sRet_ap, sIf_ap, sExpr_ap, sNext_ap, bnd_ap, ret_ap, bindR_ok, thenR_ok, dVar_ap, varR_ok, seqR_nx, seqR_rt, asgR_ok, gNm_ap, gCn_ap, gcnR_ok, gNl_ap, gTp_fr, gTp_ap, gLs_ap, dCons_ap, dNil_ap, asB_ap, dOr_ap, dAnd_ap, dNot_ap, dAndV_ap, dOrV_ap, dNotV_ap, dIf_ap, oAdd_int, oSub_int, oLt_int, oLe_int, oGt_int, oGe_int, oNeg_int, oEq_int, oNe_int, oEq_fr, oNe_fr, oEq_bl, oNe_bl, oTup_ap, oLst_ap, oCall_ap, oAbs_ap, oMax_ap, oMin_ap, oToInt_b, oToInt_i, oLen_lst, oLen_scr, oLen_tup, oIx_lst, oIx_scr, oAdd_lst, oIx_tup, oIx_fr0, oIx_fr1, ixR_ok, oItL_ap, oItT_ap, sFor_ap, startD, List.map_cons, List.map_nil, List.length_cons, List.length_nil, List.replicate_succ, List.replicate_zero, List.cons_append, List.nil_append, List.append_nil, List.getElem?_cons_zero, List.getElem?_cons_succ, List.set_cons_zero, List.set_cons_succ, Nat.reduceAdd, Nat.reduceSub, Nat.sub_self, Nat.reduceLeDiff, List.all_cons, List.all_nil, np_fr, np_int, np_bl, np_tup, np_lst, np_str, np_non, Bool.and_self, Bool.and_true, if_true_, if_false_, zero_add', if_tt, if_ff, decide_true, decide_false, Nat.le_refl, oItS_lst, oItS_tup, oTupOf_lst, oTupOf_tup, oLstOf_lst, oLstOf_tup, oRv_lst, oRv_tup, oAdd_tup, dChain_ap, asTru_bl, asTru_tup, asTru_lst, oIsN_ap, oNotN_ap, asI_ap, oSl_tup, oSl_lst, oZip_tup, oZip_lst, oAddI_ap, oEqS_ap, oNeS_ap, oNe_nil, common_eq, oDiv_int d1, oDiv_int d2, fdiv_nat, oMul_int k1, oMul_int k2]
  congr
  · exact m1.symm
  · rw [m2]; push_cast; rfl
/-- less -/
theorem fr_neg (y : Rat) : D.tup [.int (-y.num), .int (y.den : Int)] = frQ (-y) := by
  unfold frQ
  rw [Rat.neg_num, Rat.neg_den]
theorem Bd.neg {n : Nat} {q : Rat} (h : Bd n q) : Bd n (-q) := by
  unfold Bd
  rw [Rat.neg_num, Rat.neg_den, Int.natAbs_neg]
  exact h
theorem less_eq {x y : Rat} (hx : Bd 4000 x) (hy : Bd 4000 y) (M : Mem) : F_less [frQ x, frQ y] M = some (.ok (frQ (x - y)), M) := by
  refine runF_pure ?_ rfl
  simp -implicitDefEqProofs only [den_less, sSeq_ap, sAsg_ap, sPar_ap, sRet_ap, sIf_ap, sExpr_ap, sNext_ap, bnd_ap, ret_ap, bindR_ok, thenR_ok, dVar_ap, varR_ok, seqR_nx, seqR_rt, asgR_ok, gNm_ap, gCn_ap, gcnR_ok, gNl_ap, gTp_fr, gTp_ap, gLs_ap, dCons_ap, dNil_ap, asB_ap, dOr_ap, dAnd_ap, dNot_ap, dAndV_ap, dOrV_ap, dNotV_ap, dIf_ap, oAdd_int, oSub_int, oLt_int, oLe_int, oGt_int, oGe_int, oNeg_int, oEq_int, oNe_int, oEq_fr, oNe_fr, oEq_bl, oNe_bl, oTup_ap, oLst_ap, oCall_ap, oAbs_ap, oMax_ap, oMin_ap, oToInt_b, oToInt_i, oLen_lst, oLen_scr, oLen_tup, oIx_lst, oIx_scr, oAdd_lst, oIx_tup, oIx_fr0, oIx_fr1, ixR_ok, oItL_ap, oItT_ap, sFor_ap, startD, List.map_cons, List.map_nil, List.length_cons, List.length_nil, List.replicate_succ, List.replicate_zero, List.cons_append, List.nil_append, List.append_nil, List.getElem?_cons_zero, List.getElem?_cons_succ, List.set_cons_zero, List.set_cons_succ, Nat.reduceAdd, Nat.reduceSub, Nat.sub_self, Nat.reduceLeDiff, List.all_cons, List.all_nil, np_fr, np_int, np_bl, np_tup, np_lst, np_str, np_non, Bool.and_self, Bool.and_true, if_true_, if_false_, zero_add', if_tt, if_ff, decide_true, decide_false, Nat.le_refl, oItS_lst, oItS_tup, oTupOf_lst, oTupOf_tup, oLstOf_lst, oLstOf_tup, oRv_lst, oRv_tup, oAdd_tup, dChain_ap, asTru_bl, asTru_tup, asTru_lst, oIsN_ap, oNotN_ap, asI_ap, oSl_tup, oSl_lst, oZip_tup, oZip_lst, oAddI_ap, oEqS_ap, oNeS_ap, oNe_nil, fr_neg, plus_eq hx hy.neg]
  rw [Rat.sub_eq_add_neg]
/-- over -/
theorem inv_fr {y : Rat} : (0 < y.num → D.tup [.int (y.den : Int), .int y.num] = frQ y⁻¹) ∧ (y.num < 0 → D.tup [.int (-(y.den : Int)), .int (-y.num)] = frQ y⁻¹) := by
  have e : y⁻¹ = Rat.inv y := rfl
  constructor
  · intro h
    rw [e]
    unfold Rat.inv frQ
    rw [dif_neg (by omega), dif_pos h]
    simp only
    congr
    omega
  · intro h
    rw [e]
    unfold Rat.inv frQ
    rw [dif_pos h]
    simp only
    congr
    omega
theorem Bd.inv {n : Nat} {q : Rat} (h : Bd n q) : Bd n q⁻¹ := by
  have e : q⁻¹ = Rat.inv q := rfl
  rw [e]
  unfold Rat.inv
  split
  · refine ⟨?_, h.1⟩
    show (-(q.den : Int)).natAbs < _
    rw [Int.natAbs_neg]
    exact h.2
  · split
    · exact ⟨h.2, h.1⟩
    · exact h
theorem num_ne {y : Rat} (h : y ≠ 0) : y.num ≠ 0 := fun z => h (Rat.num_eq_zero.mp z)
theorem isless_eq {x y : Rat} (hx : Bd 4000 x) (hy : Bd 4000 y) (M : Mem) : F_is_less [frQ x, frQ y] M = some (.ok (.bl (decide (x < y))), M) := by
  refine runF_pure ?_ rfl
  have k1 : MulOk x.num (y.den : Int) := MulOk.of (a := 4000) (b := 4000) hx.1 (den_nat_lt hy)
  have k2 : MulOk y.num (x.den : Int) := MulOk.of (a := 4000) (b := 4000) hy.1 (den_nat_lt hx)
  simp -implicitDefEqProofs only [den_is_less, sSeq_ap, sAsg_ap, sPar_ap, sRet_ap, sIf_ap, sExpr_ap, sNext_ap, bnd_ap, ret_ap, bindR_ok, thenR_ok, dVar_ap, varR_ok, seqR_nx, seqR_rt, asgR_ok, gNm_ap, gCn_ap, gcnR_ok, gNl_ap, gTp_fr, gTp_ap, gLs_ap, dCons_ap, dNil_ap, asB_ap, dOr_ap, dAnd_ap, dNot_ap, dAndV_ap, dOrV_ap, dNotV_ap, dIf_ap, oAdd_int, oSub_int, oLt_int, oLe_int, oGt_int, oGe_int, oNeg_int, oEq_int, oNe_int, oEq_fr, oNe_fr, oEq_bl, oNe_bl, oTup_ap, oLst_ap, oCall_ap, oAbs_ap, oMax_ap, oMin_ap, oToInt_b, oToInt_i, oLen_lst, oLen_scr, oLen_tup, oIx_lst, oIx_scr, oAdd_lst, oIx_tup, oIx_fr0, oIx_fr1, ixR_ok, oItL_ap, oItT_ap, sFor_ap, startD, List.map_cons, List.map_nil, List.length_cons, List.length_nil, List.replicate_succ, List.replicate_zero, List.cons_append, List.nil_append, List.append_nil, List.getElem?_cons_zero, List.getElem?_cons_succ, List.set_cons_zero, List.set_cons_succ, Nat.reduceAdd, Nat.reduceSub, Nat.sub_self, Nat.reduceLeDiff, List.all_cons, List.all_nil, np_fr, np_int, np_bl, np_tup, np_lst, np_str, np_non, Bool.and_self, Bool.and_true, if_true_, if_false_, zero_add', if_tt, if_ff, decide_true, decide_false, Nat.le_refl, oItS_lst, oItS_tup, oTupOf_lst, oTupOf_tup, oLstOf_lst, oLstOf_tup, oRv_lst, oRv_tup, oAdd_tup, dChain_ap, asTru_bl, asTru_tup, asTru_lst, oIsN_ap, oNotN_ap, asI_ap, oSl_tup, oSl_lst, oZip_tup, oZip_lst, oAddI_ap, oEqS_ap, oNeS_ap, oNe_nil, oMul_int k1, oMul_int k2, Rat.lt_iff]
/-! sizes -/
theorem bd_of {q : Rat} {N : Int} {Dn n : Nat} (hD : Dn ≠ 0) (e : q = mkRat N Dn) (hN : N.natAbs < 2 ^ n) (hDn : Dn < 2 ^ n) : Bd n q := by
  subst e
  rw [← Rat.normalize_eq_mkRat hD, Rat.normalize_eq]
  refine ⟨?_, ?_⟩
  · exact Nat.lt_of_le_of_lt (Int.natAbs_ediv_le_natAbs _ _) hN
  · exact nat_div_lt hDn
theorem mul_lt_pow {a b m n : Nat} (ha : a < 2 ^ m) (hb : b < 2 ^ n) : a * b < 2 ^ (m + n) := by
  rw [Nat.pow_add]; exact Nat.mul_lt_mul'' ha hb
theorem Bd.add {m n : Nat} {x y : Rat} (hx : Bd m x) (hy : Bd n y) : Bd (m + n + 1) (x + y) := by
  refine bd_of (Nat.ne_of_gt (Nat.mul_pos x.den_pos y.den_pos)) (by rw [Rat.add_def, Rat.normalize_eq_mkRat]) ?_ ?_
  · have h1 := mul_lt_pow hx.1 hy.2
    have h2 := mul_lt_pow hy.1 hx.2
    rw [Nat.add_comm n m] at h2
    have e1 : (x.num * (y.den : Int)).natAbs = x.num.natAbs * y.den := by rw [Int.natAbs_mul, Int.natAbs_natCast]
    have e2 : (y.num * (x.den : Int)).natAbs = y.num.natAbs * x.den := by rw [Int.natAbs_mul, Int.natAbs_natCast]
    have := Int.natAbs_add_le (x.num * (y.den : Int)) (y.num * (x.den : Int))
    rw [Nat.pow_succ]
    omega
  · have h3 := mul_lt_pow hx.2 hy.2
    exact nat_lt_pow _ h3 (by omega)
theorem Bd.mul {m n : Nat} {x y : Rat} (hx : Bd m x) (hy : Bd n y) : Bd (m + n) (x * y) := by
  refine bd_of (Nat.ne_of_gt (Nat.mul_pos x.den_pos y.den_pos)) (by rw [Rat.mul_def, Rat.normalize_eq_mkRat]) ?_ ?_
  · rw [Int.natAbs_mul]; exact mul_lt_pow hx.1 hy.1
  · exact mul_lt_pow hx.2 hy.2
theorem Bd.sub {m n : Nat} {x y : Rat} (hx : Bd m x) (hy : Bd n y) : Bd (m + n + 1) (x - y) := by
  rw [Rat.sub_eq_add_neg]; exact hx.add hy.neg
theorem Bd.div {m n : Nat} {x y : Rat} (hx : Bd m x) (hy : Bd n y) : Bd (m + n) (x / y) := by
  rw [Rat.div_def]; exact hx.mul hy.inv
theorem over_eq {x y : Rat} (hx : Bd 4000 x) (hy : Bd 4000 y) (h : y ≠ 0) (M : Mem) : F_over [frQ x, frQ y] M = some (.ok (frQ (x / y)), M) := by
  refine runX_rt ?_ rfl
  have hn := num_ne h
  rw [Rat.div_def]
  rcases Int.lt_or_gt_of_ne hn with hc | hc
  · have hc' : ¬ (0 < y.num) := by omega
    simp -implicitDefEqProofs only [den_over, sSeq_ap, sAsg_ap, sPar_ap, sRet_ap, sIf_ap, sExpr_ap, sNext_ap, bnd_ap, ret_ap, bindR_ok, thenR_ok, dVar_ap, varR_ok, seqR_nx, seqR_rt, asgR_ok, gNm_ap, gCn_ap, gcnR_ok, gNl_ap, gTp_fr, gTp_ap, gLs_ap, dCons_ap, dNil_ap, asB_ap, dOr_ap, dAnd_ap, dNot_ap, dAndV_ap, dOrV_ap, dNotV_ap, dIf_ap, oAdd_int, oSub_int, oLt_int, oLe_int, oGt_int, oGe_int, oNeg_int, oEq_int, oNe_int, oEq_fr, oNe_fr, oEq_bl, oNe_bl, oTup_ap, oLst_ap, oCall_ap, oAbs_ap, oMax_ap, oMin_ap, oToInt_b, oToInt_i, oLen_lst, oLen_scr, oLen_tup, oIx_lst, oIx_scr, oAdd_lst, oIx_tup, oIx_fr0, oIx_fr1, ixR_ok, oItL_ap, oItT_ap, sFor_ap, startD, List.map_cons, List.map_nil, List.length_cons, List.length_nil, List.replicate_succ, List.replicate_zero, List.cons_append, List.nil_append, List.append_nil, List.getElem?_cons_zero, List.getElem?_cons_succ, List.set_cons_zero, List.set_cons_succ, Nat.reduceAdd, Nat.reduceSub, Nat.sub_self, Nat.reduceLeDiff, List.all_cons, List.all_nil, np_fr, np_int, np_bl, np_tup, np_lst, np_str, np_non, Bool.and_self, Bool.and_true, if_true_, if_false_, zero_add', if_tt, if_ff, decide_true, decide_false, Nat.le_refl, oItS_lst, oItS_tup, oTupOf_lst, oTupOf_tup, oLstOf_lst, oLstOf_tup, oRv_lst, oRv_tup, oAdd_tup, dChain_ap, asTru_bl, asTru_tup, asTru_lst, oIsN_ap, oNotN_ap, asI_ap, oSl_tup, oSl_lst, oZip_tup, oZip_lst, oAddI_ap, oEqS_ap, oNeS_ap, oNe_nil, hn, hc', decide_false, inv_fr.2 hc, times_eq hx hy.inv]
  · simp -implicitDefEqProofs only [den_over, sSeq_ap, sAsg_ap, sPar_ap, sRet_ap, sIf_ap, sExpr_ap, sNext_ap, bnd_ap, ret_ap, bindR_ok, thenR_ok, dVar_ap, varR_ok, seqR_nx, seqR_rt, asgR_ok, gNm_ap, gCn_ap, gcnR_ok, gNl_ap, gTp_fr, gTp_ap, gLs_ap, dCons_ap, dNil_ap, asB_ap, dOr_ap, dAnd_ap, dNot_ap, dAndV_ap, dOrV_ap, dNotV_ap, dIf_ap, oAdd_int, oSub_int, oLt_int, oLe_int, oGt_int, oGe_int, oNeg_int, oEq_int, oNe_int, oEq_fr, oNe_fr, oEq_bl, oNe_bl, oTup_ap, oLst_ap, oCall_ap, oAbs_ap, oMax_ap, oMin_ap, oToInt_b, oToInt_i, oLen_lst, oLen_scr, oLen_tup, oIx_lst, oIx_scr, oAdd_lst, oIx_tup, oIx_fr0, oIx_fr1, ixR_ok, oItL_ap, oItT_ap, sFor_ap, startD, List.map_cons, List.map_nil, List.length_cons, List.length_nil, List.replicate_succ, List.replicate_zero, List.cons_append, List.nil_append, List.append_nil, List.getElem?_cons_zero, List.getElem?_cons_succ, List.set_cons_zero, List.set_cons_succ, Nat.reduceAdd, Nat.reduceSub, Nat.sub_self, Nat.reduceLeDiff, List.all_cons, List.all_nil, np_fr, np_int, np_bl, np_tup, np_lst, np_str, np_non, Bool.and_self, Bool.and_true, if_true_, if_false_, zero_add', if_tt, if_ff, decide_true, decide_false, Nat.le_refl, oItS_lst, oItS_tup, oTupOf_lst, oTupOf_tup, oLstOf_lst, oLstOf_tup, oRv_lst, oRv_tup, oAdd_tup, dChain_ap, asTru_bl, asTru_tup, asTru_lst, oIsN_ap, oNotN_ap, asI_ap, oSl_tup, oSl_lst, oZip_tup, oZip_lst, oAddI_ap, oEqS_ap, oNeS_ap, oNe_nil, hn, hc, decide_true, decide_false, inv_fr.1 hc, times_eq hx hy.inv]
/-! _law_low -/
theorem divInt_cross (t b : Int) (hb : b ≠ 0) : (Rat.divInt t b).num * b = t * ((Rat.divInt t b).den : Int) := by
  have h := Rat.num_divInt_den (Rat.divInt t b)
  rw [Rat.divInt_eq_divInt_iff (by have := (Rat.divInt t b).den_pos; omega) hb] at h
  exact h
theorem low_math {t b by' : Int} (hb : b ≠ 0) (e : by' = (Int.gcd t b : Int) * (if b < 0 then -1 else 1)) : D.tup [.int (t.fdiv by'), .int (b.fdiv by')] = frQ (Rat.divInt t b) := by
  have gp : 0 < Int.gcd t b := Int.gcd_pos_of_ne_zero_right t hb
  obtain ⟨t', ht⟩ : ((Int.gcd t b : Nat) : Int) ∣ t := Int.gcd_dvd_left ..
  obtain ⟨b', hb'⟩ : ((Int.gcd t b : Nat) : Int) ∣ b := Int.gcd_dvd_right ..
  have cop : Int.gcd t' b' = 1 := by
    have h := Int.gcd_mul_left ((Int.gcd t b : Nat) : Int) t' b'
    rw [← ht, ← hb', Int.natAbs_natCast] at h
    have h2 : Int.gcd t b * Int.gcd t' b' = Int.gcd t b * 1 := by rw [Nat.mul_one]; exact h.symm
    exact Nat.eq_of_mul_eq_mul_left gp h2
  have cr := divInt_cross t b hb
  generalize hg : ((Int.gcd t b : Nat) : Int) = g at *
  have gp' : 0 < g := by omega
  have s : ∃ s : Int, (s = 1 ∨ s = -1) ∧ by' = g * s ∧ 0 < b' * s := by
    split at e
    · rename_i h
      refine ⟨-1, .inr rfl, e, ?_⟩
      have : b' < 0 := by
        rcases Int.lt_or_le b' 0 with q | q
        · exact q
        · have := Int.mul_nonneg (Int.le_of_lt gp') q; omega
      omega
    · rename_i h
      refine ⟨1, .inl rfl, e, ?_⟩
      have : 0 < b' := by
        rcases Int.lt_or_le 0 b' with q | q
        · exact q
        · have h2 : g * b' ≤ 0 := Int.mul_nonpos_of_nonneg_of_nonpos (Int.le_of_lt gp') q
          omega
      omega
  obtain ⟨s, hs, e2, pb⟩ := s
  have q : ∀ z : Int, (g * z).fdiv (g * s) = z * s := fun z => by
    have : g * z = (z * s) * (g * s) := by rcases hs with h | h <;> subst h <;> grind
    rw [this]
    refine Int.mul_fdiv_cancel _ ?_
    rcases hs with h | h <;> subst h <;> omega
  have e3 : t.fdiv by' = t' * s := by rw [e2]; conv => lhs; lhs; rw [ht]
                                      exact q t'
  have e4 : b.fdiv by' = b' * s := by rw [e2]; conv => lhs; lhs; rw [hb']
                                      exact q b'
  rw [e3, e4]
  refine fr_of pb ?_ ?_
  · rcases hs with h | h <;> subst h <;> simp [cop]
  · refine Int.eq_of_mul_eq_mul_left (a := g) (by omega) ?_
    have c2 : (Rat.divInt t b).num * (g * b') = g * t' * ((Rat.divInt t b).den : Int) := by rw [← hb', ← ht]; exact cr
    grind
theorem bd_divInt {t b : Int} {n : Nat} (hb : b ≠ 0) (ht : t.natAbs < 2 ^ n) (hs : b.natAbs < 2 ^ n) : Bd n (Rat.divInt t b) := by
  rcases Int.lt_or_gt_of_ne hb with h | h
  · have e : Rat.divInt t b = mkRat (-t) b.natAbs := by
      have : -b = ((b.natAbs : Nat) : Int) := by omega
      rw [← Rat.neg_divInt_neg t b, this, Rat.divInt_ofNat]
    exact bd_of (by omega) e (by omega) (by omega)
  · have e : Rat.divInt t b = mkRat t b.natAbs := by
      have : b = ((b.natAbs : Nat) : Int) := by omega
      conv => lhs; rw [this]
      rw [Rat.divInt_ofNat]
    exact bd_of (by omega) e ht hs
/-! the reel -/
/-- at n a reel that was drawn of at most c times -/
def HasReel (c n : Nat) (M : Mem) : Prop := ∃ a r t : Int, M[n]? = some (some [.int a, .int r, .int t]) ∧ 0 ≤ a ∧ 0 ≤ r ∧ r < 2 ^ 40 ∧ 0 ≤ t ∧ t ≤ c
/-- all else stays -/
structure Turned (c n : Nat) (M M' : Mem) : Prop where
  len : M'.length = M.length
  oth : ∀ j, j ≠ n → M'[j]? = M[j]?
  has : HasReel c n M'
theorem Turned.trans {c c' n : Nat} {M M1 M2 : Mem} (a : Turned c n M M1) (b : Turned c' n M1 M2) : Turned c' n M M2 := ⟨b.len.trans a.len, fun j h => (b.oth j h).trans (a.oth j h), b.has⟩
theorem HasReel.mono {c c' n : Nat} {M : Mem} (h : HasReel c n M) (l : c ≤ c') : HasReel c' n M := by
  obtain ⟨a, r, t, e, h1, h2, h3, h4, h5⟩ := h
  exact ⟨a, r, t, e, h1, h2, h3, h4, by omega⟩
theorem Turned.mono {c c' n : Nat} {M M1 : Mem} (a : Turned c n M M1) (l : c ≤ c') : Turned c' n M M1 := ⟨a.len, a.oth, a.has.mono l⟩
theorem HasReel.self {c n : Nat} {M : Mem} (h : HasReel c n M) : Turned c n M M := ⟨rfl, fun _ _ => rfl, h⟩
theorem HasReel.lt {c n : Nat} {M : Mem} (h : HasReel c n M) : n < M.length := by
  obtain ⟨a, r, t, e, _⟩ := h
  rcases Nat.lt_or_ge n M.length with q | q
  · exact q
  · rw [List.getElem?_eq_none q] at e; cases e
theorem atI_mem {α : Type} {l : List α} {i : Int} (h0 : 0 ≤ i) (h : i < l.length) : ∃ d, atI l i = some d ∧ d ∈ l := by
  obtain ⟨j, rfl⟩ : ∃ j : Nat, i = j := ⟨i.toNat, by omega⟩
  have hj : j < l.length := by omega
  exact ⟨l[j], by rw [atI_nat', List.getElem?_eq_getElem hj], List.getElem_mem hj⟩
theorem atI3_0 {α : Type} (x y z : α) : atI [x, y, z] 0 = some x := rfl
theorem atI3_1 {α : Type} (x y z : α) : atI [x, y, z] 1 = some y := rfl
theorem atI3_2 {α : Type} (x y z : α) : atI [x, y, z] 2 = some z := rfl
theorem ixN3_0 : ixN 3 0 = some 0 := rfl
theorem ixN3_2 : ixN 3 2 = some 2 := rfl
theorem fmod_pos {i m : Int} (h : 0 < m) : 0 ≤ i.fmod m ∧ i.fmod m < m := ⟨Int.fmod_nonneg_of_pos i h, Int.fmod_lt_of_pos i h⟩
theorem natAbs_lt_of {x : Int} {k : Nat} (h0 : 0 ≤ x) (h : x < 2 ^ k) : x.natAbs < 2 ^ k := by
  have : (x.natAbs : Int) = x := by omega
  have h2 : (x.natAbs : Int) < ((2 ^ k : Nat) : Int) := by rw [this]; push_cast; exact h
  exact_mod_cast h2
theorem runF1 {N : List Str} {fb : Sv} {ds es : List D} {M : Mem} (h : fb (startD N ds) M = some (.rt (.ptr M.length), M ++ [some es])) : runF 1 N fb ds M = some (.ok (.ptr M.length), M ++ [some es]) := by
  unfold runF
  rw [h]
  dsimp only
  rw [if_pos ⟨by simp, by unfold D.ptLt; simp⟩, List.take_of_length_le (by simp)]
theorem oNew3 (x y z : Int) (ρ : Env) (M : Mem) : oNew [.int x, .int y, .int z] ρ M = some (.ok (.ptr M.length), M ++ [some [.int x, .int y, .int z]]) := rfl
theorem pow10_18 (ρ : Env) (M : Mem) : oPow (.int 10) (.int 18) ρ M = some (.ok (.int (10 ^ 18)), M) := rfl
theorem pow10_6 (ρ : Env) (M : Mem) : oPow (.int 10) (.int 6) ρ M = some (.ok (.int (10 ^ 6)), M) := rfl
theorem atI_lit {l : List D} {i : Int} {P : Int → Prop} (h0 : 0 ≤ i) (h : i < l.length) (hP : ∀ d ∈ l, ∃ k, d = .int k ∧ P k) : ∃ k, atI l i = some (.int k) ∧ P k := by
  obtain ⟨d, e, m⟩ := atI_mem h0 h
  obtain ⟨k, rfl, hk⟩ := hP d m
  exact ⟨k, e, hk⟩
/-! a comprehension that draws -/
theorem small_lt (m : Int) (h0 : 0 ≤ m) (h : m < 2 ^ 64) : m.natAbs < 2 ^ 4000 := nat_lt_pow 4000 (natAbs_lt_of (k := 64) h0 h) (by decide)
/-! a comprehension whose parts are pure -/
/-! the drawn layers -/
theorem run_t {N : List Str} {fb : Sv} {ds : List D} {M M2 : Mem} {d : D} {c n : Nat} (h : fb (startD N ds) M = some (.rt d, M2)) (t : Turned c n M M2) (hp : d.np = true) : runF 0 N fb ds M = some (.ok d, M2) := by
  rw [runF_rt h (by rw [t.len]; exact Nat.le_refl _) hp, List.take_of_length_le (by rw [t.len]; exact Nat.le_refl _)]
theorem divInt_pos {a b : Int} (ha : 0 < a) (hb : 0 < b) : 0 < Rat.divInt a b := by
  rw [Rat.divInt_eq_div, Rat.div_def]
  exact Rat.mul_pos (Rat.intCast_pos.mpr ha) (Rat.inv_pos.mpr (Rat.intCast_pos.mpr hb))
theorem divInt_nn {a b : Int} (ha : 0 ≤ a) (hb : 0 ≤ b) : 0 ≤ Rat.divInt a b := Rat.divInt_nonneg ha hb
/-- a full strength -/
structure FullOk (f : Rat) : Prop where
  pos : 0 < f
  bd : Bd 10 f
  low : 1 ≤ 1000 * f
theorem low_of {a b : Int} (h : Int.gcd a b = 1) (hb : 0 < b) : D.tup [.int a, .int b] = frQ (Rat.divInt a b) := fr_of hb h (by
  have := divInt_cross a b (by omega)
  exact this.symm)
/-! a layer -/
def lyQ (p : Rat × Rat) : D := .tup [frQ p.1, frQ p.2]
structure LayOk (f : Rat) (p : Rat × Rat) : Prop where
  w : 0 ≤ p.1
  s : 0 ≤ p.2
  nz : p.1 = 0 → 0 < p.2
  le : 0 < p.1 → p.2 ≤ f * p.1
structure BdL (n : Nat) (p : Rat × Rat) : Prop where
  w : Bd n p.1
  s : Bd n p.2
theorem BdL.mono {m n : Nat} {p : Rat × Rat} (h : BdL m p) (l : m ≤ n) : BdL n p := ⟨h.w.mono l, h.s.mono l⟩
theorem zero_fr : D.tup [.int 0, .int 1] = frQ 0 := rfl
theorem np_ly (p : Rat × Rat) : (lyQ p).np = true := rfl
theorem div_le_div {a b N E : Int} (hb : 0 < b) (hE : 0 < E) (h : a * E ≤ N * b) : Rat.divInt a b ≤ Rat.divInt N E := by
  rw [Rat.divInt_eq_div, Rat.divInt_eq_div]
  have hb' : (0 : Rat) < (b : Rat) := Rat.intCast_pos.mpr hb
  have hE' : (0 : Rat) < (E : Rat) := Rat.intCast_pos.mpr hE
  refine Rat.le_of_mul_le_mul_right (c := (b : Rat) * (E : Rat)) ?_ (Rat.mul_pos hb' hE')
  have e1 : (a : Rat) / (b : Rat) * ((b : Rat) * (E : Rat)) = ((a * E : Int) : Rat) := by
    rw [← Rat.mul_assoc, Rat.div_mul_cancel (Rat.ne_of_gt hb'), Rat.intCast_mul]
  have e2 : (N : Rat) / (E : Rat) * ((b : Rat) * (E : Rat)) = ((N * b : Int) : Rat) := by
    rw [Rat.mul_comm (b : Rat), ← Rat.mul_assoc, Rat.div_mul_cancel (Rat.ne_of_gt hE'), Rat.intCast_mul]
  rw [e1, e2]
  exact Rat.intCast_le_intCast.mpr h
theorem mul_divInt (f q : Rat) : f * q = Rat.divInt (f.num * q.num) ((f.den : Int) * (q.den : Int)) := by
  rw [Rat.mul_def', ← Rat.divInt_ofNat]
  push_cast
  rfl
theorem le_mul {f q : Rat} {a b : Int} (hb : 0 < b) (h : a * ((f.den : Int) * (q.den : Int)) ≤ f.num * q.num * b) : Rat.divInt a b ≤ f * q := by
  rw [mul_divInt]
  exact div_le_div hb (Int.mul_pos (by have := f.den_pos; omega) (by have := q.den_pos; omega)) h
/-! rows of layers -/
theorem plL_lys (ps : List (Rat × Rat)) : plL (ps.map lyQ) = true := plL_of (by
  simp -implicitDefEqProofs only [List.mem_map]
  rintro d ⟨q, _, rfl⟩
  rfl)
/-- a row at m, a reel at n -/
structure Rw (c n m : Nat) (f : Rat) (ps : List (Rat × Rat)) (M : Mem) : Prop where
  has : HasReel c n M
  lst : M[m]? = some (some (ps.map lyQ))
  ne : n ≠ m
  ok : ∀ p ∈ ps, LayOk f p ∧ BdL 34 p
theorem Rw.turn {c c' n m : Nat} {f : Rat} {ps : List (Rat × Rat)} {M M' : Mem} (g : Rw c n m f ps M) (t : Turned c' n M M') : Rw c' n m f ps M' := ⟨t.has, by rw [t.oth m (Ne.symm g.ne)]; exact g.lst, g.ne, g.ok⟩
theorem Rw.lt {c n m : Nat} {f : Rat} {ps : List (Rat × Rat)} {M : Mem} (g : Rw c n m f ps M) : m < M.length := (List.getElem?_eq_some_iff.mp g.lst).1
theorem Rw.push {c n m : Nat} {f : Rat} {ps : List (Rat × Rat)} {M : Mem} {p : Rat × Rat} (g : Rw c n m f ps M) (h : LayOk f p ∧ BdL 34 p) : Rw c n m f (ps ++ [p]) (M.set m (some (ps.map lyQ ++ [lyQ p]))) := by
  refine ⟨?_, ?_, g.ne, fun x hx => ?_⟩
  · obtain ⟨a, r, t, e, rest⟩ := g.has
    exact ⟨a, r, t, by rw [List.getElem?_set_ne (Ne.symm g.ne)]; exact e, rest⟩
  · rw [List.getElem?_set_self g.lt, List.map_append]; rfl
  · rcases List.mem_append.mp hx with z | z
    · exact g.ok x z
    · simp at z; subst z; exact h
theorem seq_step {f g : Sv} {ρ ρ1 : Env} {M M1 : Mem} (h : f ρ M = some (.nx ρ1, M1)) : sSeq f g ρ M = g ρ1 M1 := by rw [sSeq_ap, h, seqR_nx]
def isI : D → Bool
  | .int _ => true
  | .bl _ => true
  | _ => false
def isBl : D → Bool
  | .bl _ => true
  | _ => false
def isT : D → Bool
  | .tup _ => true
  | _ => false
def isWh : D → Bool
  | .int _ => true
  | _ => false
def isF : D → Bool
  | .tup [x, y] => match x, y with
    | .int a, .int b => decide (0 < b) && decide (((Int.gcd a b : Nat) : Int) = 1)
    | _, _ => false
  | _ => false
structure Good (d : D) : Prop where
  np : d.np = true
  el : ∀ ds, d = .tup ds → ds.all D.np = true
/-! one cell changes -/
structure Put (m : Nat) (ds : List D) (M M' : Mem) : Prop where
  len : M'.length = M.length
  here : M'[m]? = some (some ds)
  oth : ∀ j, j ≠ m → M'[j]? = M[j]?
theorem Put.self {m : Nat} {ds : List D} {M : Mem} (h : M[m]? = some (some ds)) : Put m ds M M := ⟨rfl, h, fun _ _ => rfl⟩
theorem Put.set {m : Nat} {ds es : List D} {M : Mem} (h : M[m]? = some (some es)) : Put m ds M (M.set m (some ds)) := ⟨by simp, List.getElem?_set_self (List.getElem?_eq_some_iff.mp h).1, fun j hj => List.getElem?_set_ne (Ne.symm hj)⟩
theorem Put.trans {m : Nat} {ds es : List D} {M M1 M2 : Mem} (a : Put m ds M M1) (b : Put m es M1 M2) : Put m es M M2 := ⟨b.len.trans a.len, b.here, fun j h => (b.oth j h).trans (a.oth j h)⟩
theorem Put.cut {ds : List D} {c : Option (List D)} {M M' : Mem} (a : Put M.length ds (M ++ [c]) M') : M'.take M.length = M := by
  refine List.ext_getElem? fun j => ?_
  by_cases h : j < M.length
  · rw [List.getElem?_take_of_lt h, a.oth j (by omega), List.getElem?_append_left h]
  · rw [List.getElem?_eq_none (by rw [List.length_take]; omega), List.getElem?_eq_none (by omega)]
theorem last_cell (M : Mem) (c : Option (List D)) : (M ++ [c])[M.length]? = some c := by rw [List.getElem?_append_right (Nat.le_refl _), Nat.sub_self]; rfl
/-! merged -/
noncomputable abbrev mCond : Ev Bool := dAnd (bnd (bnd (dVar 3) fun d => bnd (bnd (dCons (dVar 0) dNil) oLen) fun e => oLt d e) asB) (dNot (bnd (bnd (dCons (dVar 4) (dCons (bnd (dVar 0) fun d => bnd (dVar 3) fun e => oIx d e) dNil)) (oCall 2 F_is_less)) asB))
def upTo (y : Rat) : List Rat → List Rat
  | [] => []
  | x :: r => if y < x then [] else x :: upTo y r
def past (y : Rat) : List Rat → List Rat
  | [] => []
  | x :: r => if y < x then x :: r else past y r
/-- the two rows as one -/
def mrg : List Rat → List Rat → List Rat × List Rat
  | rest, [] => ([], rest)
  | rest, y :: ys => (upTo y rest ++ y :: (mrg (past y rest) ys).1, (mrg (past y rest) ys).2)
/-! rising rows -/
abbrev Asc (l : List Rat) : Prop := l.Pairwise (· ≤ ·)
def leB (a b : Rat) : Bool := decide (a ≤ b)
def srt (l : List Rat) : List Rat := l.mergeSort leB
theorem sIx_le {n d k : Nat} (h : k ≤ n) : HT.sIx n d (some (k : Int)) = k := by rw [HT.sIx_nat]; omega
theorem cut_take (ds : List D) {k : Nat} (h : k ≤ ds.length) : cutD ds none (some (k : Int)) = ds.take k := by
  unfold cutD
  rw [sIx_le h, HT.sIx_none]; simp
theorem cut_drop (ds : List D) {k : Nat} (h : k ≤ ds.length) : cutD ds (some (k : Int)) none = ds.drop k := by
  unfold cutD
  rw [sIx_le h, HT.sIx_none, List.take_of_length_le (by simp)]
def sqB (b : Bool) (ds : List D) : D := if b then .tup ds else .lst ds
/-! strengths -/
def stD (p : Rat × Rat) : D := if p.1 = 0 then .non else frQ (p.2 / p.1)
theorem gTp_ly (c : List D → Env → Option Env) (p : Rat × Rat) (ρ : Env) : gTp 2 c (lyQ p) ρ = c [frQ p.1, frQ p.2] ρ := rfl
theorem nought_fr : C_NOUGHT = frQ 0 := rfl
theorem oIx_ly0 (p : Rat × Rat) (ρ : Env) (M : Mem) : oIx (lyQ p) (.int 0) ρ M = some (.ok (frQ p.1), M) := rfl
theorem oIx_ly1 (p : Rat × Rat) (ρ : Env) (M : Mem) : oIx (lyQ p) (.int 1) ρ M = some (.ok (frQ p.2), M) := rfl
/-! tables of sums -/
def ky (p : Rat × Rat) : Option Rat := if p.1 = 0 then none else some (p.2 / p.1)
def kD : Option Rat → D
  | none => .non
  | some c => frQ c
def kN : Option Rat → NK
  | none => .none
  | some c => .tup [.num c.num, .num (c.den : Int)]
abbrev Tb := List (Option Rat × (Rat × Rat))
def encT (T : Tb) : DEs := T.map fun x => (kD x.1, lyQ x.2)
def tget (T : Tb) (k : Option Rat) : Option (Rat × Rat) := (T.find? fun x => decide (x.1 = k)).map (·.2)
def tput (T : Tb) (k : Option Rat) (v : Rat × Rat) : Tb := if (tget T k).isSome = true then T.map (fun x => if x.1 = k then (x.1, v) else x) else T ++ [(k, v)]
/-- all of the key k, summed -/
def sumK : List (Rat × Rat) → Option Rat → Rat × Rat
  | [], _ => (0, 0)
  | p :: ps, k => if ky p = k then (p.1 + (sumK ps k).1, p.2 + (sumK ps k).2) else sumK ps k
theorem sumK_cons (p : Rat × Rat) (ps : List (Rat × Rat)) (k : Option Rat) : sumK (p :: ps) k = if ky p = k then (p.1 + (sumK ps k).1, p.2 + (sumK ps k).2) else sumK ps k := rfl
theorem sumK_append : ∀ (a b : List (Rat × Rat)) (k : Option Rat), sumK (a ++ b) k = ((sumK a k).1 + (sumK b k).1, (sumK a k).2 + (sumK b k).2)
  | [], b, k => by
    show sumK b k = (0 + (sumK b k).1, 0 + (sumK b k).2)
    rw [Rat.zero_add, Rat.zero_add]
  | p :: a, b, k => by
    rw [List.cons_append, sumK_cons, sumK_cons, sumK_append a b k]
    split
    · rw [Rat.add_assoc, Rat.add_assoc]
    · rfl
/-- the table of ps -/
structure Tab (T : Tb) (ps : List (Rat × Rat)) : Prop where
  nd : (T.map (·.1)).Nodup
  sum : ∀ x ∈ T, x.2 = sumK ps x.1
  key : ∀ k, k ∈ T.map (·.1) ↔ ∃ p ∈ ps, ky p = k
  len : T.length ≤ ps.length
theorem tget_none {T : Tb} {k : Option Rat} : tget T k = none ↔ k ∉ T.map (·.1) := by
  unfold tget
  rw [Option.map_eq_none_iff, List.find?_eq_none]
  simp -implicitDefEqProofs only [decide_eq_true_eq, List.mem_map, not_exists, not_and]
theorem tget_some {T : Tb} {k : Option Rat} {v : Rat × Rat} (h : tget T k = some v) : (k, v) ∈ T := by
  unfold tget at h
  obtain ⟨x, h1, h2⟩ := Option.map_eq_some_iff.mp h
  have h3 := List.find?_some h1
  simp -implicitDefEqProofs only [decide_eq_true_eq] at h3
  have := List.mem_of_find?_eq_some h1
  rw [← h3, ← h2]; exact this
theorem Tab.get {T : Tb} {ps : List (Rat × Rat)} (t : Tab T ps) (k : Option Rat) : (tget T k).getD (0, 0) = sumK ps k := by
  cases h : tget T k with
  | some v => exact t.sum _ (tget_some h)
  | none =>
    have hn : ¬ ∃ p ∈ ps, ky p = k := fun z => tget_none.mp h ((t.key k).mpr z)
    clear h t
    show (0, 0) = sumK ps k
    induction ps with
    | nil => rfl
    | cons p ps ih =>
      rw [sumK_cons, if_neg fun z => hn ⟨p, by simp, z⟩]
      exact ih fun ⟨q, hq, z⟩ => hn ⟨q, by simp [hq], z⟩
theorem tput_keys (T : Tb) (k : Option Rat) (v : Rat × Rat) : (tput T k v).map (·.1) = if (tget T k).isSome = true then T.map (·.1) else T.map (·.1) ++ [k] := by
  unfold tput
  split
  · rw [List.map_map]
    refine List.map_congr_left fun x _ => ?_
    show (if x.1 = k then (x.1, v) else x).1 = x.1
    split <;> rfl
  · rw [List.map_append]; rfl
theorem sumK_snoc (ps : List (Rat × Rat)) (p : Rat × Rat) (k : Option Rat) : sumK (ps ++ [p]) k = if ky p = k then ((sumK ps k).1 + p.1, (sumK ps k).2 + p.2) else sumK ps k := by
  rw [sumK_append, sumK_cons]
  have e : sumK [] k = (0, 0) := rfl
  rw [e]
  split
  · rw [Rat.add_zero, Rat.add_zero]
  · show ((sumK ps k).1 + 0, (sumK ps k).2 + 0) = _
    rw [Rat.add_zero, Rat.add_zero]
theorem Tab.step {T : Tb} {ps : List (Rat × Rat)} (t : Tab T ps) (p : Rat × Rat) : Tab (tput T (ky p) ((sumK ps (ky p)).1 + p.1, (sumK ps (ky p)).2 + p.2)) (ps ++ [p]) := by
  have kk := tput_keys T (ky p) ((sumK ps (ky p)).1 + p.1, (sumK ps (ky p)).2 + p.2)
  refine ⟨?_, fun x hx => ?_, fun k => ?_, ?_⟩
  · rw [kk]
    split
    · exact t.nd
    · rename_i h
      rw [List.nodup_append]
      have hn : ky p ∉ T.map (·.1) := tget_none.mp (by simpa using h)
      refine ⟨t.nd, by simp, fun a ha b hb => ?_⟩
      simp at hb; subst hb
      rintro rfl
      exact hn ha
  · rw [sumK_snoc]
    unfold tput at hx
    split at hx
    · obtain ⟨y, hy, e⟩ := List.mem_map.mp hx
      split at e
      · rename_i hk
        subst e
        show _ = if ky p = y.1 then _ else _
        rw [if_pos hk.symm, hk]
      · rename_i hk
        subst e
        rw [if_neg fun z => hk z.symm]
        exact t.sum y hy
    · rename_i h
      rcases List.mem_append.mp hx with hx | hx
      · have hn : ky p ∉ T.map (·.1) := tget_none.mp (by simpa using h)
        rw [if_neg (fun z : ky p = x.1 => hn (by rw [z]; exact List.mem_map.mpr ⟨x, hx, rfl⟩))]
        exact t.sum x hx
      · simp at hx; subst hx
        rw [if_pos rfl]
  · rw [kk]
    have hm : (∃ q ∈ ps ++ [p], ky q = k) ↔ (∃ q ∈ ps, ky q = k) ∨ ky p = k := by
      constructor
      · rintro ⟨q, hq, e⟩
        rcases List.mem_append.mp hq with z | z
        · exact .inl ⟨q, z, e⟩
        · simp at z; subst z; exact .inr e
      · rintro (⟨q, hq, e⟩ | e)
        · exact ⟨q, by simp [hq], e⟩
        · exact ⟨p, by simp, e⟩
    rw [hm, ← t.key k]
    split
    · rename_i h
      constructor
      · exact .inl
      · rintro (h1 | h1)
        · exact h1
        · subst h1
          cases q : tget T (ky p) with
          | none => rw [q] at h; cases h
          | some v => exact List.mem_map.mpr ⟨_, tget_some q, rfl⟩
    · rw [List.mem_append]
      simp [eq_comm]
  · have h := congrArg List.length kk
    have hl := t.len
    rw [List.length_map] at h
    rw [h, List.length_append]
    split <;> simp <;> omega
theorem Tab.nil : Tab [] [] := ⟨by simp, by simp, by simp, by simp⟩
/-! gathered -/
theorem Bd.zero {n : Nat} : Bd n 0 ↔ 0 < n := by
  constructor
  · intro h
    rcases Nat.eq_zero_or_pos n with z | z
    · subst z; exact absurd h.2 (by decide)
    · exact z
  · intro h
    exact ⟨Nat.pos_of_ne_zero (by simp), Nat.one_lt_two_pow (by omega)⟩
/-! a comprehension whose parts read what stands -/
def Agr (M0 M : Mem) : Prop := ∀ j, j < M0.length → M[j]? = M0[j]?
/-- the brine of ps -/
structure IsG (ps B : List (Rat × Rat)) : Prop where
  ex : ∃ ks : List Rat, ks.Pairwise (· < ·) ∧ (∀ c, c ∈ ks ↔ ∃ p ∈ ps, ky p = some c) ∧ ∃ fl : List (Rat × Rat), ((∃ p ∈ ps, ky p = none) → fl = [sumK ps none]) ∧ ((¬ ∃ p ∈ ps, ky p = none) → fl = []) ∧ B = fl ++ ks.reverse.map fun c => sumK ps (some c)
def sk (T : Tb) : List Rat := T.filterMap (·.1)
def gD (T : Tb) (d : D) : D := (lookD (encT T) ((keyN d).getD .none)).getD .non
theorem key_bd {b N : Nat} {ps : List (Rat × Rat)} {c : Rat} (hb : ∀ q ∈ ps, BdL b q) (h : ∃ p ∈ ps, ky p = some c) : Bd (2 * b) c := by
  obtain ⟨p, hp, e⟩ := h
  unfold ky at e
  split at e
  · cases e
  · cases e
    have := hb p hp
    exact (this.s.div this.w).mono (by omega)
/-! is_layer, laid -/
def isLB (f : Rat) (p : Rat × Rat) : Bool := !decide (p.1 < 0) && !decide (p.2 < 0) && (if p.1 = 0 then !decide (p.2 = 0) else !decide (f * p.1 < p.2))
theorem bd_z : Bd 4000 (0 : Rat) := Bd.zero.mpr (by decide)
/-! what a brine of ps is -/
theorem div_eq {a b c : Rat} (hb : b ≠ 0) : a / b = c ↔ a = c * b := by
  constructor
  · intro h; rw [← h, Rat.div_mul_cancel hb]
  · intro h; rw [h, Rat.mul_div_cancel hb]
theorem ky_some {p : Rat × Rat} {c : Rat} (h : ky p = some c) : p.1 ≠ 0 ∧ p.2 = c * p.1 := by
  unfold ky at h
  split at h
  · cases h
  · rename_i h0
    cases h
    exact ⟨h0, (Rat.div_mul_cancel h0).symm⟩
theorem ky_none {p : Rat × Rat} (h : ky p = none) : p.1 = 0 := by
  unfold ky at h
  split at h
  · assumption
  · cases h
theorem pos_of {f : Rat} {p : Rat × Rat} (h : LayOk f p) (h0 : p.1 ≠ 0) : 0 < p.1 := Rat.lt_of_le_of_ne h.w (Ne.symm h0)
theorem sum_some {f c : Rat} : ∀ ps : List (Rat × Rat), (∀ p ∈ ps, LayOk f p) → 0 ≤ (sumK ps (some c)).1 ∧ (sumK ps (some c)).2 = c * (sumK ps (some c)).1 ∧ ((∃ p ∈ ps, ky p = some c) → 0 < (sumK ps (some c)).1)
  | [], _ => ⟨Rat.le_refl, by show (0 : Rat) = c * 0; rw [Rat.mul_zero], fun ⟨p, hp, _⟩ => by simp at hp⟩
  | p :: ps, h => by
    obtain ⟨i1, i2, i3⟩ := sum_some (c := c) ps fun q hq => h q (by simp [hq])
    rw [sumK_cons]
    split
    · rename_i hk
      obtain ⟨n0, es⟩ := ky_some hk
      have pp := pos_of (h p (by simp)) n0
      have pos : 0 < p.1 + (sumK ps (some c)).1 := by
        have := Rat.add_le_add_left (c := p.1) |>.mpr i1
        rw [Rat.add_zero] at this
        exact Std.lt_of_lt_of_le pp this
      refine ⟨Rat.le_of_lt pos, ?_, fun _ => pos⟩
      show p.2 + (sumK ps (some c)).2 = c * (p.1 + (sumK ps (some c)).1)
      rw [es, i2, Rat.mul_add]
    · rename_i hk
      refine ⟨i1, i2, fun ⟨q, hq, e⟩ => i3 ?_⟩
      rcases List.mem_cons.mp hq with z | z
      · subst z; exact absurd e hk
      · exact ⟨q, z, e⟩
theorem sum_none {f : Rat} : ∀ ps : List (Rat × Rat), (∀ p ∈ ps, LayOk f p) → (sumK ps none).1 = 0 ∧ 0 ≤ (sumK ps none).2 ∧ ((∃ p ∈ ps, ky p = none) → 0 < (sumK ps none).2)
  | [], _ => ⟨rfl, Rat.le_refl, fun ⟨p, hp, _⟩ => by simp at hp⟩
  | p :: ps, h => by
    obtain ⟨i1, i2, i3⟩ := sum_none ps fun q hq => h q (by simp [hq])
    rw [sumK_cons]
    split
    · rename_i hk
      have n0 := ky_none hk
      have pp := (h p (by simp)).nz n0
      have pos : 0 < p.2 + (sumK ps none).2 := by
        have := Rat.add_le_add_left (c := p.2) |>.mpr i2
        rw [Rat.add_zero] at this
        exact Std.lt_of_lt_of_le pp this
      refine ⟨?_, Rat.le_of_lt pos, fun _ => pos⟩
      show p.1 + (sumK ps none).1 = 0
      rw [n0, i1, Rat.add_zero]
    · rename_i hk
      refine ⟨i1, i2, fun ⟨q, hq, e⟩ => i3 ?_⟩
      rcases List.mem_cons.mp hq with z | z
      · subst z; exact absurd e hk
      · exact ⟨q, z, e⟩
theorem ky_sumK {f : Rat} {ps : List (Rat × Rat)} {k : Option Rat} (h : ∀ p ∈ ps, LayOk f p) (hk : ∃ p ∈ ps, ky p = k) : ky (sumK ps k) = k ∧ LayOk f (sumK ps k) := by
  cases k with
  | none =>
    obtain ⟨a, b, c⟩ := sum_none ps h
    refine ⟨by unfold ky; rw [if_pos a], ⟨by rw [a]; exact Rat.le_refl, b, fun _ => c hk, fun z => ?_⟩⟩
    rw [a] at z; exact absurd z Rat.lt_irrefl
  | some c =>
    obtain ⟨a, b, d⟩ := sum_some (c := c) ps h
    have pos := d hk
    have n0 := Rat.ne_of_gt pos
    obtain ⟨p, hp, e⟩ := hk
    obtain ⟨q0, q1⟩ := ky_some e
    have lp := h p hp
    have pp := pos_of lp q0
    have c0 : 0 ≤ c := by
      rcases Rat.le_total (a := 0) (b := c) with z | z
      · exact z
      · have h1 := lp.s
        rw [q1] at h1
        rcases Rat.le_iff_lt_or_eq.mp z with z | z
        · have := (Rat.mul_neg_iff_of_pos_right (a := c) pp).mpr z
          exact absurd h1 (Rat.not_le.mpr this)
        · rw [z]; exact Rat.le_refl
    have cf : c ≤ f := by
      have h1 := lp.le pp
      rw [q1] at h1
      exact Rat.le_of_mul_le_mul_right h1 pp
    refine ⟨by unfold ky; rw [if_neg n0, (div_eq n0).mpr b], ⟨a, by rw [b]; exact Rat.mul_nonneg c0 a, fun z => absurd z n0, fun _ => by rw [b]; exact Rat.mul_le_mul_of_nonneg_right cf a⟩⟩
/-! sizes of rows -/
def SzL (n : Nat) (l : List (Rat × Rat)) : Prop := ∃ zs : List ((Rat × Rat) × Nat), zs.map (·.1) = l ∧ (∀ z ∈ zs, BdL z.2 z.1) ∧ (zs.map (·.2 + 1)).sum ≤ n
theorem SzL.mono {m n : Nat} {l : List (Rat × Rat)} (h : SzL m l) (e : m ≤ n) : SzL n l := by
  obtain ⟨zs, a, b, c⟩ := h
  exact ⟨zs, a, b, Nat.le_trans c e⟩
theorem sum_sub : ∀ {a b : List Nat}, a.Sublist b → a.sum ≤ b.sum
  | _, _, .slnil => Nat.le_refl _
  | _, _, .cons x h => by have := sum_sub h; simp; omega
  | _, _, .cons_cons x h => by have := sum_sub h; simp; omega
theorem SzL.sub {n : Nat} {l l' : List (Rat × Rat)} (h : SzL n l) (s : l'.Sublist l) : SzL n l' := by
  obtain ⟨zs, a, b, c⟩ := h
  rw [← a] at s
  obtain ⟨ys, h1, h2⟩ := List.sublist_map_iff.mp s
  exact ⟨ys, h2.symm, fun z hz => b z (h1.subset hz), Nat.le_trans (sum_sub (h1.map _)) c⟩
theorem le_sum_mem : ∀ {l : List Nat} {a : Nat}, a ∈ l → a ≤ l.sum
  | x :: l, a, h => by
    rw [List.sum_cons]
    rcases List.mem_cons.mp h with z | z
    · omega
    · have := le_sum_mem z; omega
theorem SzL.bd {n : Nat} {l : List (Rat × Rat)} (h : SzL n l) : ∀ p ∈ l, BdL n p := by
  obtain ⟨zs, a, b, c⟩ := h
  intro p hp
  rw [← a] at hp
  obtain ⟨z, hz, rfl⟩ := List.mem_map.mp hp
  refine (b z hz).mono (Nat.le_trans ?_ c)
  have : z.2 + 1 ≤ (zs.map (·.2 + 1)).sum := le_sum_mem (List.mem_map.mpr ⟨z, hz, rfl⟩)
  omega
def sumW (l : List (Rat × Rat)) : Rat := l.foldr (fun p s => p.1 + s) 0
def sumS (l : List (Rat × Rat)) : Rat := l.foldr (fun p s => p.2 + s) 0
theorem sumW_cons (p : Rat × Rat) (l : List (Rat × Rat)) : sumW (p :: l) = p.1 + sumW l := rfl
theorem sumS_cons (p : Rat × Rat) (l : List (Rat × Rat)) : sumS (p :: l) = p.2 + sumS l := rfl
theorem sumW_append : ∀ a b : List (Rat × Rat), sumW (a ++ b) = sumW a + sumW b
  | [], b => by show sumW b = 0 + sumW b; rw [Rat.zero_add]
  | x :: a, b => by rw [List.cons_append, sumW_cons, sumW_cons, sumW_append a b, Rat.add_assoc]
theorem SzL.sum {n : Nat} {l : List (Rat × Rat)} (h : SzL n l) : Bd (n + 1) (sumW l) ∧ Bd (n + 1) (sumS l) := by
  obtain ⟨zs, a, b, c⟩ := h
  have main : ∀ zs : List ((Rat × Rat) × Nat), (∀ z ∈ zs, BdL z.2 z.1) → Bd ((zs.map (·.2 + 1)).sum + 1) (sumW (zs.map (·.1))) ∧ Bd ((zs.map (·.2 + 1)).sum + 1) (sumS (zs.map (·.1))) := by
    intro zs
    induction zs with
    | nil => intro _; exact ⟨Bd.zero.mpr (by omega), Bd.zero.mpr (by omega)⟩
    | cons z zs ih =>
      intro hz
      obtain ⟨i1, i2⟩ := ih fun x hx => hz x (by simp [hx])
      have hb := hz z (by simp)
      simp -implicitDefEqProofs only [List.map_cons, List.sum_cons, sumW_cons, sumS_cons]
      exact ⟨(hb.w.add i1).mono (by omega), (hb.s.add i2).mono (by omega)⟩
  obtain ⟨m1, m2⟩ := main zs b
  rw [a] at m1 m2
  exact ⟨m1.mono (by omega), m2.mono (by omega)⟩
theorem SzL.of_bd {b : Nat} : ∀ {l : List (Rat × Rat)}, (∀ p ∈ l, BdL b p) → SzL (l.length * (b + 1)) l := by
  intro l h
  refine ⟨l.map fun p => (p, b), by rw [List.map_map]; exact List.map_id'' (fun _ => rfl) l, fun z hz => ?_, ?_⟩
  · obtain ⟨p, hp, rfl⟩ := List.mem_map.mp hz
    exact h p hp
  · clear h
    induction l with
    | nil => simp
    | cons x l ih => simp -implicitDefEqProofs only [List.map_cons, List.sum_cons, List.length_cons, Nat.succ_mul]; omega
def cnt (ps : List (Rat × Rat)) (k : Option Rat) : Nat := match ps with
  | [] => 0
  | p :: ps => (if ky p = k then 1 else 0) + cnt ps k
theorem sumK_cnt {b : Nat} : ∀ (ps : List (Rat × Rat)) (k : Option Rat), (∀ p ∈ ps, BdL b p) → BdL (cnt ps k * (b + 1) + 1) (sumK ps k)
  | [], k, _ => ⟨Bd.zero.mpr (by omega), Bd.zero.mpr (by omega)⟩
  | p :: ps, k, h => by
    have ih := sumK_cnt ps k fun q hq => h q (by simp [hq])
    have hp := h p (by simp)
    rw [sumK_cons]
    unfold cnt
    split
    · refine ⟨(hp.w.add ih.w).mono ?_, (hp.s.add ih.s).mono ?_⟩ <;> (rw [Nat.add_mul]; omega)
    · exact ih.mono (by rw [Nat.zero_add]; exact Nat.le_refl _)
theorem cnt_sum : ∀ (ps : List (Rat × Rat)) (ks : List (Option Rat)), ks.Nodup → (ks.map (cnt ps)).sum ≤ ps.length
  | [], ks, _ => by
    have : ∀ ks : List (Option Rat), (ks.map (cnt [])).sum = 0 := fun ks => by
      induction ks with
      | nil => rfl
      | cons k ks ih => rw [List.map_cons, List.sum_cons, ih]; rfl
    rw [this]; exact Nat.zero_le _
  | p :: ps, ks, nd => by
    have ih := cnt_sum ps ks nd
    have e : ∀ ks : List (Option Rat), (ks.map (cnt (p :: ps))).sum = (ks.map fun k => if ky p = k then 1 else 0).sum + (ks.map (cnt ps)).sum := fun ks => by
      induction ks with
      | nil => rfl
      | cons k ks ih =>
        rw [List.map_cons, List.sum_cons, ih, List.map_cons, List.sum_cons, List.map_cons, List.sum_cons]
        show (if ky p = k then 1 else 0) + cnt ps k + _ = _
        omega
    have one : ∀ ks : List (Option Rat), ks.Nodup → (ks.map fun k => if ky p = k then 1 else 0).sum ≤ 1 := fun ks => by
      induction ks with
      | nil => intro _; simp
      | cons k ks ih =>
        intro nd
        rw [List.nodup_cons] at nd
        rw [List.map_cons, List.sum_cons]
        split
        · rename_i h
          have z : (ks.map fun k => if ky p = k then 1 else 0).sum = 0 := by
            have : ∀ x ∈ ks, ¬ ky p = x := fun x hx z => nd.1 (by rw [← h, z]; exact hx)
            clear ih nd
            induction ks with
            | nil => rfl
            | cons y ks ih2 =>
              rw [List.map_cons, List.sum_cons, if_neg (this y (by simp)), ih2 fun x hx => this x (by simp [hx])]
          omega
        · have := ih nd.2; omega
    have := one ks nd
    rw [e, List.length_cons]
    omega
structure BrOk (f : Rat) (n m : Nat) (B : List (Rat × Rat)) : Prop where
  ok : ∀ x ∈ B, LayOk f x
  sz : SzL n B
  asc : ((B.filter fun x => decide (x.1 ≠ 0)).reverse.map fun x => x.2 / x.1).Pairwise (· < ·)
  kb : ∀ x ∈ B, x.1 ≠ 0 → Bd m (x.2 / x.1)
  head : ∀ x ∈ B.drop 1, x.1 ≠ 0
/-- the keys of a brine -/
def gKeys (has : Bool) (ks : List Rat) : List (Option Rat) := (if has then [none] else []) ++ ks.reverse.map some
theorem IsG.keys {ps B : List (Rat × Rat)} (g : IsG ps B) : ∃ (has : Bool) (ks : List Rat), ks.Pairwise (· < ·) ∧ (∀ k, k ∈ gKeys has ks ↔ ∃ p ∈ ps, ky p = k) ∧ B = (gKeys has ks).map (sumK ps) ∧ (gKeys has ks).Nodup := by
  obtain ⟨ks, h1, h2, fl, h3, h4, h5⟩ := g.ex
  have nd : ks.reverse.Nodup := by
    have : ks.reverse.Pairwise (fun a b => b < a) := List.pairwise_reverse.mpr h1
    exact this.imp fun z => Rat.ne_of_gt z
  have nd2 : (ks.reverse.map some).Nodup := List.pairwise_map.mpr (nd.imp fun h z => h (by cases z; rfl))
  have ms : ∀ c, some c ∈ ks.reverse.map some ↔ ∃ p ∈ ps, ky p = some c := fun c => by
    rw [← h2 c]
    constructor
    · intro h
      obtain ⟨d, hd, e⟩ := List.mem_map.mp h
      cases e
      exact List.mem_reverse.mp hd
    · intro h
      exact List.mem_map.mpr ⟨c, List.mem_reverse.mpr h, rfl⟩
  have mn : none ∉ ks.reverse.map some := fun h => by
    obtain ⟨d, hd, e⟩ := List.mem_map.mp h
    cases e
  by_cases hN : ∃ p ∈ ps, ky p = none
  · refine ⟨true, ks, h1, fun k => ?_, ?_, ?_⟩
    · unfold gKeys
      rw [if_pos rfl]
      cases k with
      | none => simp [hN]
      | some c => rw [← ms c]; simp
    · unfold gKeys
      rw [h5, h3 hN, if_pos rfl, List.map_append, List.map_map]; rfl
    · unfold gKeys
      rw [if_pos rfl]
      exact List.nodup_cons.mpr ⟨mn, nd2⟩
  · refine ⟨false, ks, h1, fun k => ?_, ?_, ?_⟩
    · unfold gKeys
      rw [if_neg Bool.false_ne_true, List.nil_append]
      cases k with
      | none =>
        constructor
        · intro h; exact absurd h mn
        · intro h; exact absurd h hN
      | some c => exact ms c
    · unfold gKeys
      rw [h5, h4 hN, if_neg Bool.false_ne_true, List.map_append, List.map_map]; rfl
    · unfold gKeys
      rw [if_neg Bool.false_ne_true, List.nil_append]; exact nd2
theorem wet_keys {f : Rat} {ps : List (Rat × Rat)} (h : ∀ p ∈ ps, LayOk f p) : ∀ (l : List (Option Rat)), (∀ k ∈ l, ∃ p ∈ ps, ky p = k) → ((l.map (sumK ps)).filter fun x => decide (x.1 ≠ 0)).map (fun x => x.2 / x.1) = l.filterMap id
  | [], _ => rfl
  | k :: l, hk => by
    have ih := wet_keys h l fun j hj => hk j (by simp [hj])
    obtain ⟨e1, e2⟩ := ky_sumK h (hk k (by simp))
    rw [List.map_cons]
    cases k with
    | none =>
      rw [List.filter_cons_of_neg (by simpa using ky_none e1)]
      exact ih
    | some c =>
      obtain ⟨n0, es⟩ := ky_some e1
      rw [List.filter_cons_of_pos (by simpa using n0), List.map_cons, ih, (div_eq n0).mpr es]
      rfl
theorem IsG.ok {f : Rat} {b : Nat} {ps B : List (Rat × Rat)} (g : IsG ps B) (h : ∀ p ∈ ps, LayOk f p ∧ BdL b p) : BrOk f (ps.length * (b + 3)) (2 * b) B := by
  obtain ⟨has, ks, h1, h2, h3, h4⟩ := g.keys
  have hl := fun p hp => (h p hp).1
  refine ⟨fun x hx => ?_, ?_, ?_, fun x hx n0 => ?_, fun x hx => ?_⟩
  · rw [h3] at hx
    obtain ⟨k, hk, rfl⟩ := List.mem_map.mp hx
    exact (ky_sumK hl ((h2 k).mp hk)).2
  · refine ⟨(gKeys has ks).map fun k => (sumK ps k, cnt ps k * (b + 1) + 1), by rw [h3, List.map_map]; rfl, fun z hz => ?_, ?_⟩
    · obtain ⟨k, _, rfl⟩ := List.mem_map.mp hz
      exact sumK_cnt ps k fun p hp => (h p hp).2
    · have e : ∀ l : List (Option Rat), (∀ k ∈ l, 1 ≤ cnt ps k) → ((l.map fun k => (sumK ps k, cnt ps k * (b + 1) + 1)).map (·.2 + 1)).sum ≤ (l.map (cnt ps)).sum * (b + 3) := fun l => by
        induction l with
        | nil => intro _; simp
        | cons k l ih =>
          intro hk
          have i := ih fun j hj => hk j (by simp [hj])
          have c1 := hk k (by simp)
          simp -implicitDefEqProofs only [List.map_cons, List.sum_cons]
          rw [Nat.add_mul]
          have e3 : cnt ps k * (b + 3) = cnt ps k * (b + 1) + 2 * cnt ps k := by rw [Nat.mul_add, Nat.mul_add]; omega
          omega
      have pos : ∀ k ∈ gKeys has ks, 1 ≤ cnt ps k := fun k hk => by
        obtain ⟨p, hp, ep⟩ := (h2 k).mp hk
        clear h h2 h3 g hl e
        induction ps with
        | nil => simp at hp
        | cons q ps ih =>
          unfold cnt
          rcases List.mem_cons.mp hp with z | z
          · subst z; rw [if_pos ep]; omega
          · have := ih z; omega
      exact Nat.le_trans (e _ pos) (Nat.mul_le_mul_right _ (cnt_sum ps _ h4))
  · have w := wet_keys hl (gKeys has ks) fun k hk => (h2 k).mp hk
    rw [← h3] at w
    rw [List.map_reverse, w, List.pairwise_reverse]
    have e : (gKeys has ks).filterMap id = ks.reverse := by
      have e0 : ∀ l : List Rat, (l.map some).filterMap id = l := fun l => by
        induction l with
        | nil => rfl
        | cons x l ih => rw [List.map_cons]; show x :: (l.map some).filterMap id = x :: l; rw [ih]
      unfold gKeys
      rw [List.filterMap_append, e0]
      cases has <;> rfl
    rw [e, List.pairwise_reverse]
    exact h1
  · rw [h3] at hx
    obtain ⟨k, hk, rfl⟩ := List.mem_map.mp hx
    obtain ⟨e1, _⟩ := ky_sumK hl ((h2 k).mp hk)
    cases k with
    | none => exact absurd (ky_none e1) n0
    | some c =>
      obtain ⟨_, es⟩ := ky_some e1
      rw [(div_eq n0).mpr es]
      exact key_bd (N := 0) (fun p hp => (h p hp).2) ((h2 _).mp hk)
  · have : x ∈ ((gKeys has ks).drop 1).map (sumK ps) := by rw [h3, ← List.map_drop] at hx; exact hx
    obtain ⟨k, hk, rfl⟩ := List.mem_map.mp this
    have hk2 : k ∈ gKeys has ks := List.mem_of_mem_drop hk
    obtain ⟨e1, _⟩ := ky_sumK hl ((h2 k).mp hk2)
    cases k with
    | some c => exact (ky_some e1).1
    | none =>
      exfalso
      unfold gKeys at hk
      have : none ∈ ks.reverse.map some := by
        cases has with
        | true => exact hk
        | false => exact List.mem_of_mem_drop hk
      obtain ⟨d, _, e⟩ := List.mem_map.mp this
      cases e
theorem cnt_pos {k : Option Rat} : ∀ {ps : List (Rat × Rat)}, (∃ p ∈ ps, ky p = k) → 1 ≤ cnt ps k
  | [], ⟨p, hp, _⟩ => by simp at hp
  | q :: ps, ⟨p, hp, e⟩ => by
    unfold cnt
    rcases List.mem_cons.mp hp with z | z
    · subst z; rw [if_pos e]; omega
    · have := cnt_pos ⟨p, z, e⟩; omega
theorem IsG.len {ps B : List (Rat × Rat)} (g : IsG ps B) : B.length ≤ ps.length := by
  obtain ⟨has, ks, h1, h2, h3, h4⟩ := g.keys
  have e : ∀ l : List (Option Rat), (∀ k ∈ l, 1 ≤ cnt ps k) → l.length ≤ (l.map (cnt ps)).sum := fun l => by
    induction l with
    | nil => intro _; simp
    | cons x l ih =>
      intro pos
      have := ih fun k hk => pos k (by simp [hk])
      have := pos x (by simp)
      simp -implicitDefEqProofs only [List.map_cons, List.sum_cons, List.length_cons]
      omega
  rw [h3, List.length_map]
  exact Nat.le_trans (e _ fun k hk => cnt_pos ((h2 k).mp hk)) (cnt_sum ps _ h4)
/-! a comprehension over a row of known things -/
theorem lcGo_en {α : Type} {en : α → D} {b : Tg} {tt : Ev Bool} {te : Ev D} {M0 : Mem} {ρw : Env} {p : α → Bool} {g : α → D} : ∀ (l : List α) (M : Mem) (acc : List D), (∀ a ∈ l, ∃ ρ1, b (en a) ρw = some ρ1 ∧ (∀ M, Agr M0 M → tt ρ1 M = some (.ok (p a), M)) ∧ (p a = true → (g a).np = true ∧ ∀ M, Agr M0 M → te ρ1 M = some (.ok (g a), M))) → Agr M0 M → M[M0.length]? = some (some acc) → acc.length + l.length ≤ 100000 →
    ∃ M', lcGo b tt te M0.length ρw (l.map en) M = some M' ∧ M' = M.set M0.length (some (acc ++ (l.filter p).map g))
  | [], M, acc, h, ha, hM, hl => by
    refine ⟨M, rfl, ?_⟩
    have hn : M0.length < M.length := (List.getElem?_eq_some_iff.mp hM).1
    rw [List.getElem?_eq_getElem hn] at hM
    have e := Option.some.inj hM
    rw [List.filter_nil, List.map_nil, List.append_nil, ← e]
    exact (List.set_getElem_self hn).symm
  | d :: ds, M, acc, h, ha, hM, hl => by
    obtain ⟨ρ1, e1, e2, e3⟩ := h d (by simp)
    rw [List.length_cons] at hl
    have hn : M0.length < M.length := (List.getElem?_eq_some_iff.mp hM).1
    rw [List.map_cons]
    cases hp : p d with
    | true =>
      obtain ⟨e4, e5⟩ := e3 hp
      have ha2 : Agr M0 (M.set M0.length (some (acc ++ [g d]))) := fun j hj => by rw [List.getElem?_set_ne (by omega)]; exact ha j hj
      obtain ⟨M', g1, g2⟩ := lcGo_en (en := en) (p := p) (g := g) ds (M.set M0.length (some (acc ++ [g d]))) (acc ++ [g d]) (fun x hx => h x (by simp [hx])) ha2 (List.getElem?_set_self hn) (by simp; omega)
      refine ⟨M', ?_, ?_⟩
      · unfold lcGo
        rw [e1]
        dsimp only
        rw [e2 M ha, hp]
        dsimp only
        rw [e5 M ha]
        dsimp only
        rw [hM]
        dsimp only
        rw [if_pos ⟨e4, by omega⟩]
        exact g1
      · rw [g2, List.set_set, List.filter_cons_of_pos hp, List.map_cons, List.append_assoc]; rfl
    | false =>
      obtain ⟨M', g1, g2⟩ := lcGo_en (en := en) (p := p) (g := g) ds M acc (fun x hx => h x (by simp [hx])) ha hM (by omega)
      refine ⟨M', ?_, ?_⟩
      · unfold lcGo
        rw [e1]
        dsimp only
        rw [e2 M ha, hp]
        exact g1
      · rw [g2, List.filter_cons_of_neg (by simp [hp])]
theorem oLc_en {α : Type} {en : α → D} {b : Tg} {tt : Ev Bool} {te : Ev D} {ρ : Env} {vs : List Nat} {p : α → Bool} {g : α → D} {l : List α} {M : Mem} (h : ∀ a ∈ l, ∃ ρ1, b (en a) (wipeD ρ vs) = some ρ1 ∧ (∀ M', Agr M M' → tt ρ1 M' = some (.ok (p a), M')) ∧ (p a = true → (g a).np = true ∧ ∀ M', Agr M M' → te ρ1 M' = some (.ok (g a), M'))) (hl : l.length ≤ 100000) : oLc b tt te vs (l.map en) ρ M = some (.ok (.lst ((l.filter p).map g)), M) := by
  obtain ⟨M', g1, g2⟩ := lcGo_en (M0 := M) (en := en) l (M ++ [some []]) [] h (fun j hj => List.getElem?_append_left hj) (last_cell M _) (by simpa using hl)
  unfold oLc
  rw [g1]
  dsimp only
  unfold lcEnd
  have e : M'[M.length]? = some (some ((l.filter p).map g)) := by
    rw [g2, List.getElem?_set_self (by simp)]; simp
  rw [e]
  dsimp only
  have hl2 : M'.length = M.length + 1 := by rw [g2]; simp
  rw [if_pos hl2, g2, List.take_set_of_le (Nat.le_refl _), List.take_left]
theorem filter_true {α : Type} (l : List α) : l.filter (fun _ => true) = l := List.filter_eq_self.mpr fun _ _ => rfl
abbrev wetOf (B : List (Rat × Rat)) : List (Rat × Rat) := B.filter fun x => decide (x.1 ≠ 0)
theorem dissolved_eq {B : List (Rat × Rat)} (hl : B.length ≤ 2000) (M : Mem) : F_dissolved_of [.tup (B.map lyQ)] M = some (.ok (.tup ((wetOf B).map lyQ)), M) := by
  refine runF_pure ?_ rfl
  have lc := fun M => oLc_en (en := lyQ) (b := gNm 1) (tt := bnd (bnd (bnd (dVar 1) fun d => bnd (ret (.int 0)) fun e => oIx d e) fun d => bnd (ret C_NOUGHT) fun e => oNe d e) asB) (te := dVar 1) (ρ := [some (.tup (B.map lyQ)), none]) (vs := [1]) (p := fun x => decide (x.1 ≠ 0)) (g := lyQ) (l := B) (M := M) (fun x _ => ⟨[some (.tup (B.map lyQ)), some (lyQ x)], rfl, fun M' _ => by
      simp -implicitDefEqProofs only [sSeq_ap, sAsg_ap, sPar_ap, sRet_ap, sIf_ap, sExpr_ap, sNext_ap, bnd_ap, ret_ap, bindR_ok, thenR_ok, dVar_ap, varR_ok, seqR_nx, seqR_rt, asgR_ok, gNm_ap, gCn_ap, gcnR_ok, gNl_ap, gTp_fr, gTp_ap, gLs_ap, dCons_ap, dNil_ap, asB_ap, dOr_ap, dAnd_ap, dNot_ap, dAndV_ap, dOrV_ap, dNotV_ap, dIf_ap, oAdd_int, oSub_int, oLt_int, oLe_int, oGt_int, oGe_int, oNeg_int, oEq_int, oNe_int, oEq_fr, oNe_fr, oEq_bl, oNe_bl, oTup_ap, oLst_ap, oCall_ap, oAbs_ap, oMax_ap, oMin_ap, oToInt_b, oToInt_i, oLen_lst, oLen_scr, oLen_tup, oIx_lst, oIx_scr, oAdd_lst, oIx_tup, oIx_fr0, oIx_fr1, ixR_ok, oItL_ap, oItT_ap, sFor_ap, startD, List.map_cons, List.map_nil, List.length_cons, List.length_nil, List.replicate_succ, List.replicate_zero, List.cons_append, List.nil_append, List.append_nil, List.getElem?_cons_zero, List.getElem?_cons_succ, List.set_cons_zero, List.set_cons_succ, Nat.reduceAdd, Nat.reduceSub, Nat.sub_self, Nat.reduceLeDiff, List.all_cons, List.all_nil, np_fr, np_int, np_bl, np_tup, np_lst, np_str, np_non, Bool.and_self, Bool.and_true, if_true_, if_false_, zero_add', if_tt, if_ff, decide_true, decide_false, Nat.le_refl, oItS_lst, oItS_tup, oTupOf_lst, oTupOf_tup, oLstOf_lst, oLstOf_tup, oRv_lst, oRv_tup, oAdd_tup, dChain_ap, asTru_bl, asTru_tup, asTru_lst, oIsN_ap, oNotN_ap, asI_ap, oSl_tup, oSl_lst, oZip_tup, oZip_lst, oAddI_ap, oEqS_ap, oNeS_ap, oNe_nil, oIx_ly0, nought_fr]
      simp, fun _ => ⟨rfl, fun M' _ => rfl⟩⟩) (by omega)
  simp -implicitDefEqProofs only [den_dissolved_of, sSeq_ap, sAsg_ap, sPar_ap, sRet_ap, sIf_ap, sExpr_ap, sNext_ap, bnd_ap, ret_ap, bindR_ok, thenR_ok, dVar_ap, varR_ok, seqR_nx, seqR_rt, asgR_ok, gNm_ap, gCn_ap, gcnR_ok, gNl_ap, gTp_fr, gTp_ap, gLs_ap, dCons_ap, dNil_ap, asB_ap, dOr_ap, dAnd_ap, dNot_ap, dAndV_ap, dOrV_ap, dNotV_ap, dIf_ap, oAdd_int, oSub_int, oLt_int, oLe_int, oGt_int, oGe_int, oNeg_int, oEq_int, oNe_int, oEq_fr, oNe_fr, oEq_bl, oNe_bl, oTup_ap, oLst_ap, oCall_ap, oAbs_ap, oMax_ap, oMin_ap, oToInt_b, oToInt_i, oLen_lst, oLen_scr, oLen_tup, oIx_lst, oIx_scr, oAdd_lst, oIx_tup, oIx_fr0, oIx_fr1, ixR_ok, oItL_ap, oItT_ap, sFor_ap, startD, List.map_cons, List.map_nil, List.length_cons, List.length_nil, List.replicate_succ, List.replicate_zero, List.cons_append, List.nil_append, List.append_nil, List.getElem?_cons_zero, List.getElem?_cons_succ, List.set_cons_zero, List.set_cons_succ, Nat.reduceAdd, Nat.reduceSub, Nat.sub_self, Nat.reduceLeDiff, List.all_cons, List.all_nil, np_fr, np_int, np_bl, np_tup, np_lst, np_str, np_non, Bool.and_self, Bool.and_true, if_true_, if_false_, zero_add', if_tt, if_ff, decide_true, decide_false, Nat.le_refl, oItS_lst, oItS_tup, oTupOf_lst, oTupOf_tup, oLstOf_lst, oLstOf_tup, oRv_lst, oRv_tup, oAdd_tup, dChain_ap, asTru_bl, asTru_tup, asTru_lst, oIsN_ap, oNotN_ap, asI_ap, oSl_tup, oSl_lst, oZip_tup, oZip_lst, oAddI_ap, oEqS_ap, oNeS_ap, oNe_nil, lc]
theorem wet_ne {B : List (Rat × Rat)} {x : Rat × Rat} (h : x ∈ wetOf B) : x ∈ B ∧ x.1 ≠ 0 := by
  have := List.mem_filter.mp h
  exact ⟨this.1, by simpa using this.2⟩
abbrev stR (x : Rat × Rat) : Rat := x.2 / x.1
/-- the strengths above nought, rising -/
def ownOf (B : List (Rat × Rat)) : List Rat := ((wetOf B).filter fun x => decide (x.2 ≠ 0)).reverse.map stR
/-! needs -/
/-- need by layers -/
def posF (c : Rat) (x : Rat × Rat) : Bool := decide (0 < x.1 - x.2 / c)
def ndL (c : Rat) (l : List (Rat × Rat)) : Rat := sumW (l.filter (posF c)) - sumS (l.filter (posF c)) / c
/-! the law's own sums -/
theorem divInt_sub (s q : Rat) : Rat.divInt (s.num * (q.den : Int) - q.num * (s.den : Int)) ((s.den : Int) * (q.den : Int)) = s - q := by
  rw [Rat.sub_def', ← Rat.divInt_ofNat]
  push_cast
  rfl
theorem divInt_div {s q : Rat} : Rat.divInt (s.num * (q.den : Int)) ((s.den : Int) * q.num) = s / q := by
  conv => rhs; rw [← Rat.num_divInt_den s, ← Rat.num_divInt_den q, Rat.div_def, Rat.inv_divInt, Rat.divInt_mul_divInt]
theorem den_ne (q : Rat) : (q.den : Int) ≠ 0 := by have := q.den_pos; omega
section
variable {x y : Rat}
theorem dd_ne (x y : Rat) : (x.den : Int) * (y.den : Int) ≠ 0 := Int.mul_ne_zero (den_ne x) (den_ne y)
end
/-- a strength for f -/
structure StrOk (f : Rat) (k : Nat) (c : Rat) : Prop where
  pos : 0 < c
  le : c ≤ f
  bd : Bd k c
/-! sums over a brine -/
def sumF (φ : Rat × Rat → Rat) (l : List (Rat × Rat)) : Rat := l.foldr (fun p s => φ p + s) 0
theorem sumF_cons (φ : Rat × Rat → Rat) (p : Rat × Rat) (l : List (Rat × Rat)) : sumF φ (p :: l) = φ p + sumF φ l := rfl
theorem sumF_append (φ : Rat × Rat → Rat) : ∀ a b : List (Rat × Rat), sumF φ (a ++ b) = sumF φ a + sumF φ b
  | [], b => by show sumF φ b = 0 + sumF φ b; rw [Rat.zero_add]
  | x :: a, b => by rw [List.cons_append, sumF_cons, sumF_cons, sumF_append φ a b, Rat.add_assoc]
theorem sumF_snoc (φ : Rat × Rat → Rat) (l : List (Rat × Rat)) (x : Rat × Rat) : sumF φ (l ++ [x]) = sumF φ l + φ x := by rw [sumF_append]; show sumF φ l + (φ x + 0) = _; rw [Rat.add_zero]
theorem sumW_F (l : List (Rat × Rat)) : sumW l = sumF (·.1) l := rfl
structure SumOk (φ : Rat × Rat → Rat) (l : List (Rat × Rat)) : Prop where
  el : ∀ x ∈ l, Bd 1800 (φ x)
  pre : ∀ a b, l = a ++ b → Bd 1800 (sumF φ a)
theorem SumOk.w {n : Nat} {l : List (Rat × Rat)} (h : SzL n l) (hn : n + 1 ≤ 1800) : SumOk (·.1) l := ⟨fun x hx => (h.bd x hx).w.mono (by omega), fun a b e => (h.sub (by rw [e]; exact List.sublist_append_left _ _)).sum.1.mono hn⟩
theorem SumOk.s {n : Nat} {l : List (Rat × Rat)} (h : SzL n l) (hn : n + 1 ≤ 1800) : SumOk (·.2) l := ⟨fun x hx => (h.bd x hx).s.mono (by omega), fun a b e => (h.sub (by rw [e]; exact List.sublist_append_left _ _)).sum.2.mono hn⟩
theorem summed_loop {φ : Rat × Rat → Rat} {S : D} {l : List (Rat × Rat)} (h : SumOk φ l) (M : Mem) : ∀ (rest pre : List (Rat × Rat)) (o : Option D), l = pre ++ rest →
    ∃ o', forF (gNm 2) den_summed_L1 (rest.map fun x => frQ (φ x)) [some S, some (frQ (sumF φ pre)), o] M = some (.nx [some S, some (frQ (sumF φ l)), o'], M)
  | [], pre, o, e => ⟨o, by rw [List.append_nil] at e; subst e; rfl⟩
  | x :: rest, pre, o, e => by
    obtain ⟨o', ih⟩ := summed_loop (S := S) h M rest (pre ++ [x]) (some (frQ (φ x))) (by rw [e]; simp)
    refine ⟨o', ?_⟩
    have pl := plus_eq ((h.pre pre (x :: rest) e).mono (n := 4000) (by decide)) ((h.el x (by rw [e]; simp)).mono (n := 4000) (by decide))
    rw [List.map_cons, forF_cons, gNm_ap, forB_ok, ← ih, sumF_snoc]
    simp -implicitDefEqProofs only [den_summed_L1, sSeq_ap, sAsg_ap, sPar_ap, sRet_ap, sIf_ap, sExpr_ap, sNext_ap, bnd_ap, ret_ap, bindR_ok, thenR_ok, dVar_ap, varR_ok, seqR_nx, seqR_rt, asgR_ok, gNm_ap, gCn_ap, gcnR_ok, gNl_ap, gTp_fr, gTp_ap, gLs_ap, dCons_ap, dNil_ap, asB_ap, dOr_ap, dAnd_ap, dNot_ap, dAndV_ap, dOrV_ap, dNotV_ap, dIf_ap, oAdd_int, oSub_int, oLt_int, oLe_int, oGt_int, oGe_int, oNeg_int, oEq_int, oNe_int, oEq_fr, oNe_fr, oEq_bl, oNe_bl, oTup_ap, oLst_ap, oCall_ap, oAbs_ap, oMax_ap, oMin_ap, oToInt_b, oToInt_i, oLen_lst, oLen_scr, oLen_tup, oIx_lst, oIx_scr, oAdd_lst, oIx_tup, oIx_fr0, oIx_fr1, ixR_ok, oItL_ap, oItT_ap, sFor_ap, startD, List.map_cons, List.map_nil, List.length_cons, List.length_nil, List.replicate_succ, List.replicate_zero, List.cons_append, List.nil_append, List.append_nil, List.getElem?_cons_zero, List.getElem?_cons_succ, List.set_cons_zero, List.set_cons_succ, Nat.reduceAdd, Nat.reduceSub, Nat.sub_self, Nat.reduceLeDiff, List.all_cons, List.all_nil, np_fr, np_int, np_bl, np_tup, np_lst, np_str, np_non, Bool.and_self, Bool.and_true, if_true_, if_false_, zero_add', if_tt, if_ff, decide_true, decide_false, Nat.le_refl, oItS_lst, oItS_tup, oTupOf_lst, oTupOf_tup, oLstOf_lst, oLstOf_tup, oRv_lst, oRv_tup, oAdd_tup, dChain_ap, asTru_bl, asTru_tup, asTru_lst, oIsN_ap, oNotN_ap, asI_ap, oSl_tup, oSl_lst, oZip_tup, oZip_lst, oAddI_ap, oEqS_ap, oNeS_ap, oNe_nil, pl, ofR_nx]
theorem summed_of {φ : Rat × Rat → Rat} {l : List (Rat × Rat)} (h : SumOk φ l) (M : Mem) : F_summed [.lst (l.map fun x => frQ (φ x))] M = some (.ok (frQ (sumF φ l)), M) := by
  refine runF_pure ?_ rfl
  obtain ⟨o', e⟩ := summed_loop (S := .lst (l.map fun x => frQ (φ x))) h M l [] none rfl
  have e0 : sumF φ [] = 0 := rfl
  rw [e0] at e
  simp -implicitDefEqProofs only [den_summed, sSeq_ap, sAsg_ap, sPar_ap, sRet_ap, sIf_ap, sExpr_ap, sNext_ap, bnd_ap, ret_ap, bindR_ok, thenR_ok, dVar_ap, varR_ok, seqR_nx, seqR_rt, asgR_ok, gNm_ap, gCn_ap, gcnR_ok, gNl_ap, gTp_fr, gTp_ap, gLs_ap, dCons_ap, dNil_ap, asB_ap, dOr_ap, dAnd_ap, dNot_ap, dAndV_ap, dOrV_ap, dNotV_ap, dIf_ap, oAdd_int, oSub_int, oLt_int, oLe_int, oGt_int, oGe_int, oNeg_int, oEq_int, oNe_int, oEq_fr, oNe_fr, oEq_bl, oNe_bl, oTup_ap, oLst_ap, oCall_ap, oAbs_ap, oMax_ap, oMin_ap, oToInt_b, oToInt_i, oLen_lst, oLen_scr, oLen_tup, oIx_lst, oIx_scr, oAdd_lst, oIx_tup, oIx_fr0, oIx_fr1, ixR_ok, oItL_ap, oItT_ap, sFor_ap, startD, List.map_cons, List.map_nil, List.length_cons, List.length_nil, List.replicate_succ, List.replicate_zero, List.cons_append, List.nil_append, List.append_nil, List.getElem?_cons_zero, List.getElem?_cons_succ, List.set_cons_zero, List.set_cons_succ, Nat.reduceAdd, Nat.reduceSub, Nat.sub_self, Nat.reduceLeDiff, List.all_cons, List.all_nil, np_fr, np_int, np_bl, np_tup, np_lst, np_str, np_non, Bool.and_self, Bool.and_true, if_true_, if_false_, zero_add', if_tt, if_ff, decide_true, decide_false, Nat.le_refl, oItS_lst, oItS_tup, oTupOf_lst, oTupOf_tup, oLstOf_lst, oLstOf_tup, oRv_lst, oRv_tup, oAdd_tup, dChain_ap, asTru_bl, asTru_tup, asTru_lst, oIsN_ap, oNotN_ap, asI_ap, oSl_tup, oSl_lst, oZip_tup, oZip_lst, oAddI_ap, oEqS_ap, oNeS_ap, oNe_nil, nought_fr, e]
theorem lc_w {B : List (Rat × Rat)} (hl : B.length ≤ 2000) (M : Mem) : oLc (gTp 2 (gCn (gNm 1) (gCn (gNm 2) gNl))) (ret true) (dVar 1) [1, 2] (B.map lyQ) [some (.tup (B.map lyQ)), none, none] M = some (.ok (.lst (B.map fun x => frQ x.1)), M) := by
  have := oLc_en (en := lyQ) (b := gTp 2 (gCn (gNm 1) (gCn (gNm 2) gNl))) (tt := ret true) (te := dVar 1) (ρ := [some (.tup (B.map lyQ)), none, none]) (vs := [1, 2]) (p := fun _ => true) (g := fun x => frQ x.1) (l := B) (M := M) (fun x _ => ⟨[some (.tup (B.map lyQ)), some (frQ x.1), some (frQ x.2)], rfl, fun M' _ => rfl, fun _ => ⟨rfl, fun M' _ => rfl⟩⟩) (by omega)
  rw [filter_true] at this
  exact this
abbrev dryOf (B : List (Rat × Rat)) : List (Rat × Rat) := B.filter fun x => decide (x.1 = 0)
/-- the strength of the first of a row, None of none -/
def hdS : List (Rat × Rat) → D
  | [] => .non
  | x :: _ => frQ (stR x)
/-! shares -/
def shr (t : Rat) (B : List (Rat × Rat)) : List (Rat × Rat) := if t = 0 then [] else B.map fun x => (x.1 * t, x.2 * t)
/-! alike rows -/
theorem eqv_ly (p q : Rat × Rat) : PyData.eqv (toPy (lyQ p)) (toPy (lyQ q)) = decide (p = q) := by
  have h1 := eqv_fr p.1 q.1
  have h2 := eqv_fr p.2 q.2
  have e : PyData.eqv (toPy (lyQ p)) (toPy (lyQ q)) = (PyData.eqv (toPy (frQ p.1)) (toPy (frQ q.1)) && PyData.eqv (toPy (frQ p.2)) (toPy (frQ q.2))) := by
    simp -implicitDefEqProofs only [lyQ, toPy, toPys, PyData.eqv, PyData.eqvAll, Bool.and_true]
  rw [e, h1, h2, Bool.eq_iff_iff]
  simp -implicitDefEqProofs only [Bool.and_eq_true, decide_eq_true_eq]
  exact ⟨fun h => Prod.ext h.1 h.2, fun h => by rw [h]; exact ⟨rfl, rfl⟩⟩
theorem eqv_lys : ∀ ps qs : List (Rat × Rat), PyData.eqvAll (toPys (ps.map lyQ)) (toPys (qs.map lyQ)) = decide (ps = qs)
  | [], [] => by simp [toPys, PyData.eqvAll]
  | [], _ :: _ => by simp [toPys, PyData.eqvAll]
  | _ :: _, [] => by simp [toPys, PyData.eqvAll]
  | p :: ps, q :: qs => by
    rw [List.map_cons, List.map_cons, toPys, toPys, PyData.eqvAll, eqv_ly, eqv_lys ps qs, Bool.eq_iff_iff]
    simp
theorem Sh.ly {p : Rat × Rat} (h : BdL 1900 p) : Sh 2 13 (lyQ p) := by
  have : Sh (1 + 1) ([frQ p.1, frQ p.2].length * (5 + 1) + 1) (.tup [frQ p.1, frQ p.2]) := Sh.tup (by
    simp -implicitDefEqProofs only [List.mem_cons, List.not_mem_nil, or_false]
    rintro d (rfl | rfl)
    · exact Sh.fr h.w
    · exact Sh.fr h.s)
  exact this
theorem Sh.lys {ps : List (Rat × Rat)} (h : ∀ p ∈ ps, BdL 1900 p) : Sh 3 (ps.length * 14 + 1) (.tup (ps.map lyQ)) := by
  have := Sh.tup (k := 2) (n := 13) (ds := ps.map lyQ) (by
    simp -implicitDefEqProofs only [List.mem_map]
    rintro d ⟨p, hp, rfl⟩
    exact Sh.ly (h p hp))
  rw [List.length_map] at this
  exact this
/-! rows that make the same brine -/
abbrev HasK (ps : List (Rat × Rat)) (k : Option Rat) : Prop := ∃ p ∈ ps, ky p = k
structure Same (ps qs : List (Rat × Rat)) : Prop where
  key : ∀ k, HasK ps k ↔ HasK qs k
  sum : ∀ k, sumK ps k = sumK qs k
theorem Same.symm {a b : List (Rat × Rat)} (h : Same a b) : Same b a := ⟨fun k => (h.key k).symm, fun k => (h.sum k).symm⟩
theorem Same.trans {a b c : List (Rat × Rat)} (h : Same a b) (g : Same b c) : Same a c := ⟨fun k => (h.key k).trans (g.key k), fun k => (h.sum k).trans (g.sum k)⟩
theorem hasK_append (a b : List (Rat × Rat)) (k : Option Rat) : HasK (a ++ b) k ↔ HasK a k ∨ HasK b k := by
  constructor
  · rintro ⟨p, hp, e⟩
    rcases List.mem_append.mp hp with z | z
    · exact .inl ⟨p, z, e⟩
    · exact .inr ⟨p, z, e⟩
  · rintro (⟨p, hp, e⟩ | ⟨p, hp, e⟩)
    · exact ⟨p, List.mem_append_left _ hp, e⟩
    · exact ⟨p, List.mem_append_right _ hp, e⟩
theorem Same.app {a b c d : List (Rat × Rat)} (h : Same a b) (g : Same c d) : Same (a ++ c) (b ++ d) :=
  ⟨fun k => by rw [hasK_append, hasK_append, h.key k, g.key k], fun k => by rw [sumK_append, sumK_append, h.sum k, g.sum k]⟩
theorem IsG.congr {ps qs B : List (Rat × Rat)} (g : IsG ps B) (h : Same ps qs) : IsG qs B := by
  obtain ⟨ks, a, b, fl, c, d, e⟩ := g.ex
  refine ⟨ks, a, fun c => (b c).trans (h.key _), fl, fun z => ?_, fun z => d fun y => z ((h.key _).mp y), ?_⟩
  · rw [c ((h.key _).mpr z), h.sum]
  · rw [e]
    congr 1
    exact List.map_congr_left fun c _ => h.sum _
theorem asc_eq : ∀ {l l' : List Rat}, l.Pairwise (· < ·) → l'.Pairwise (· < ·) → (∀ c, c ∈ l ↔ c ∈ l') → l = l'
  | [], [], _, _, _ => rfl
  | [], y :: l', _, _, h => by have := (h y).mpr (by simp); simp at this
  | x :: l, [], _, _, h => by have := (h x).mp (by simp); simp at this
  | x :: l, y :: l', h1, h2, h => by
    rw [List.pairwise_cons] at h1 h2
    have e : x = y := by
      rcases List.mem_cons.mp ((h x).mp (by simp)) with z | z
      · exact z
      · rcases List.mem_cons.mp ((h y).mpr (by simp)) with w | w
        · exact w.symm
        · exact absurd (h1.1 y w) (Rat.not_lt.mpr (Rat.le_of_lt (h2.1 x z)))
    subst e
    rw [asc_eq h1.2 h2.2 fun c => ?_]
    constructor
    · intro z
      rcases List.mem_cons.mp ((h c).mp (by simp [z])) with w | w
      · subst w; exact absurd (h1.1 c z) Rat.lt_irrefl
      · exact w
    · intro z
      rcases List.mem_cons.mp ((h c).mpr (by simp [z])) with w | w
      · subst w; exact absurd (h2.1 c z) Rat.lt_irrefl
      · exact w
theorem IsG.uniq {ps B C : List (Rat × Rat)} (g : IsG ps B) (h : IsG ps C) : B = C := by
  obtain ⟨ks, a, b, fl, c, d, e⟩ := g.ex
  obtain ⟨ks', a', b', fl', c', d', e'⟩ := h.ex
  have ek : ks = ks' := asc_eq a a' fun x => (b x).trans (b' x).symm
  have ef : fl = fl' := by
    by_cases z : ∃ p ∈ ps, ky p = none
    · rw [c z, c' z]
    · rw [d z, d' z]
  rw [e, e', ek, ef]
theorem IsG.nil : IsG [] [] := ⟨[], .nil, fun c => by simp, [], fun ⟨p, hp, _⟩ => by simp at hp, fun _ => rfl, rfl⟩
theorem sumK_no {k : Option Rat} : ∀ {ps : List (Rat × Rat)}, ¬ HasK ps k → sumK ps k = (0, 0)
  | [], _ => rfl
  | p :: ps, h => by
    rw [sumK_cons, if_neg fun z => h ⟨p, by simp, z⟩]
    exact sumK_no fun ⟨q, hq, e⟩ => h ⟨q, by simp [hq], e⟩
theorem sumK_keys {ps : List (Rat × Rat)} {k : Option Rat} : ∀ (l : List (Option Rat)), l.Nodup → (∀ j ∈ l, ky (sumK ps j) = j) → sumK (l.map (sumK ps)) k = if k ∈ l then sumK ps k else (0, 0)
  | [], _, _ => by simp; rfl
  | j :: l, nd, h => by
    rw [List.nodup_cons] at nd
    have ih := sumK_keys (k := k) l nd.2 fun i hi => h i (by simp [hi])
    rw [List.map_cons, sumK_cons, h j (by simp), ih]
    by_cases e : j = k
    · subst e
      rw [if_pos rfl, if_neg nd.1, if_pos (by simp)]
      rw [Rat.add_zero, Rat.add_zero]
    · rw [if_neg e]
      by_cases m : k ∈ l
      · rw [if_pos m, if_pos (by simp [m])]
      · rw [if_neg m, if_neg (by simp [m, Ne.symm e])]
theorem IsG.same {f : Rat} {ps B : List (Rat × Rat)} (g : IsG ps B) (hl : ∀ p ∈ ps, LayOk f p) : Same B ps := by
  obtain ⟨has, ks, h1, h2, h3, h4⟩ := g.keys
  have hk : ∀ j ∈ gKeys has ks, ky (sumK ps j) = j := fun j hj => (ky_sumK hl ((h2 j).mp hj)).1
  refine ⟨fun k => ?_, fun k => ?_⟩
  · refine Iff.trans ?_ (h2 k)
    rw [h3]
    constructor
    · rintro ⟨p, hp, e⟩
      obtain ⟨j, hj, rfl⟩ := List.mem_map.mp hp
      rw [hk j hj] at e
      rw [← e]; exact hj
    · intro z
      exact ⟨sumK ps k, List.mem_map.mpr ⟨k, z, rfl⟩, hk k z⟩
  · rw [h3, sumK_keys _ h4 hk]
    by_cases m : k ∈ gKeys has ks
    · rw [if_pos m]
    · rw [if_neg m, sumK_no fun z => m ((h2 k).mpr z)]
/-! sizes -/
theorem sumK_filter : ∀ (l : List (Rat × Rat)) (k : Option Rat), sumK l k = (sumW (l.filter fun p => decide (ky p = k)), sumS (l.filter fun p => decide (ky p = k)))
  | [], _ => rfl
  | p :: l, k => by
    rw [sumK_cons, sumK_filter l k]
    by_cases e : ky p = k
    · rw [if_pos e, List.filter_cons_of_pos (by simpa using e), sumW_cons, sumS_cons]
    · rw [if_neg e, List.filter_cons_of_neg (by simpa using e)]
theorem SzL.sumK {n : Nat} {l : List (Rat × Rat)} (h : SzL n l) (k : Option Rat) : BdL (n + 1) (Bw.sumK l k) := by
  rw [sumK_filter]
  have := (h.sub (List.filter_sublist (p := fun p => decide (ky p = k)))).sum
  exact ⟨this.1, this.2⟩
theorem SzL.app {m n : Nat} {a b : List (Rat × Rat)} (h : SzL m a) (g : SzL n b) : SzL (m + n) (a ++ b) := by
  obtain ⟨zs, a1, b1, c1⟩ := h
  obtain ⟨ys, a2, b2, c2⟩ := g
  refine ⟨zs ++ ys, by rw [List.map_append, a1, a2], fun z hz => ?_, by rw [List.map_append, List.sum_append]; omega⟩
  rcases List.mem_append.mp hz with z | z
  · exact b1 _ z
  · exact b2 _ z
/-! a brine and a row that it is made of -/
structure BG (f : Rat) (ps B : List (Rat × Rat)) : Prop where
  g : IsG ps B
  lay : ∀ p ∈ ps, LayOk f p ∧ BdL 40 p
  len : ps.length ≤ 30
theorem BG.ln {f : Rat} {ps B : List (Rat × Rat)} (h : BG f ps B) : B.length ≤ 30 := Nat.le_trans h.g.len h.len
theorem BG.same {f : Rat} {ps B : List (Rat × Rat)} (h : BG f ps B) : Same B ps := h.g.same fun p hp => (h.lay p hp).1
theorem BG.nil (f : Rat) : BG f [] [] := ⟨IsG.nil, fun p hp => by simp at hp, by simp⟩
theorem BG.eq {f : Rat} {ps qs A B : List (Rat × Rat)} (h : BG f ps A) (g : BG f qs B) (s : Same ps qs) : A = B := (h.g.congr s).uniq g.g
/-! totals -/
structure AddK (G : Option Rat → Rat × Rat → Rat) : Prop where
  z : ∀ k, G k (0, 0) = 0
  a : ∀ k p q, G k (p.1 + q.1, p.2 + q.2) = G k p + G k q
abbrev totK (G : Option Rat → Rat × Rat → Rat) (l : List (Rat × Rat)) : Rat := sumF (fun p => G (ky p) p) l
def sumO (ψ : Option Rat → Rat) (l : List (Option Rat)) : Rat := l.foldr (fun k s => ψ k + s) 0
theorem sumO_cons (ψ : Option Rat → Rat) (k : Option Rat) (l : List (Option Rat)) : sumO ψ (k :: l) = ψ k + sumO ψ l := rfl
theorem sumO_zero {ψ : Option Rat → Rat} : ∀ {l : List (Option Rat)}, (∀ k ∈ l, ψ k = 0) → sumO ψ l = 0
  | [], _ => rfl
  | k :: l, h => by rw [sumO_cons, h k (by simp), sumO_zero fun j hj => h j (by simp [hj]), Rat.add_zero]
theorem sumO_one {j : Option Rat} {v : Rat} : ∀ {l : List (Option Rat)}, l.Nodup → j ∈ l → sumO (fun k => if j = k then v else 0) l = v
  | k :: l, nd, h => by
    rw [List.nodup_cons] at nd
    rw [sumO_cons]
    by_cases e : j = k
    · subst e
      rw [if_pos rfl, sumO_zero fun i hi => if_neg fun z => nd.1 (by rw [z]; exact hi), Rat.add_zero]
    · rw [if_neg e, Rat.zero_add]
      exact sumO_one nd.2 ((List.mem_cons.mp h).resolve_left e)
theorem sumO_add {ψ χ : Option Rat → Rat} : ∀ l : List (Option Rat), sumO (fun k => ψ k + χ k) l = sumO ψ l + sumO χ l
  | [] => by show (0 : Rat) = 0 + 0; rw [Rat.add_zero]
  | k :: l => by
    rw [sumO_cons, sumO_cons, sumO_cons, sumO_add l]
    grind
theorem sumO_congr {ψ χ : Option Rat → Rat} : ∀ {l : List (Option Rat)}, (∀ k ∈ l, ψ k = χ k) → sumO ψ l = sumO χ l
  | [], _ => rfl
  | k :: l, h => by rw [sumO_cons, sumO_cons, h k (by simp), sumO_congr fun j hj => h j (by simp [hj])]
theorem totK_keys {G : Option Rat → Rat × Rat → Rat} (hG : AddK G) {l : List (Option Rat)} (nd : l.Nodup) : ∀ ps : List (Rat × Rat), (∀ p ∈ ps, ky p ∈ l) → sumO (fun k => G k (sumK ps k)) l = totK G ps
  | [], _ => sumO_zero fun k _ => hG.z k
  | p :: ps, h => by
    have ih := totK_keys hG nd ps fun q hq => h q (by simp [hq])
    have e : ∀ k ∈ l, G k (sumK (p :: ps) k) = (if ky p = k then G (ky p) p else 0) + G k (sumK ps k) := fun k _ => by
      rw [sumK_cons]
      by_cases z : ky p = k
      · rw [if_pos z, if_pos z, hG.a, z]
      · rw [if_neg z, if_neg z, Rat.zero_add]
    rw [sumO_congr e, sumO_add, sumO_one nd (h p (by simp)), ih]
    rfl
theorem totK_map {G : Option Rat → Rat × Rat → Rat} {ps : List (Rat × Rat)} : ∀ (l : List (Option Rat)), (∀ j ∈ l, ky (sumK ps j) = j) → totK G (l.map (sumK ps)) = sumO (fun k => G k (sumK ps k)) l
  | [], _ => rfl
  | k :: l, h => by
    rw [List.map_cons, sumO_cons, ← totK_map l fun j hj => h j (by simp [hj])]
    show G (ky (sumK ps k)) (sumK ps k) + _ = _
    rw [h k (by simp)]
    rfl
theorem BG.tot {f : Rat} {ps B : List (Rat × Rat)} {G : Option Rat → Rat × Rat → Rat} (h : BG f ps B) (hG : AddK G) : totK G B = totK G ps := by
  obtain ⟨has, ks, h1, h2, h3, h4⟩ := h.g.keys
  rw [h3, totK_map _ fun j hj => (ky_sumK (fun p hp => (h.lay p hp).1) ((h2 j).mp hj)).1]
  exact totK_keys hG h4 ps fun p hp => (h2 _).mpr ⟨p, hp, rfl⟩
theorem BG.add {f : Rat} {ps qs A B C : List (Rat × Rat)} {G : Option Rat → Rat × Rat → Rat} (hG : AddK G) (hA : BG f ps A) (hB : BG f qs B) (hC : BG f (ps ++ qs) C) : totK G A + totK G B = totK G C := by
  rw [hA.tot hG, hB.tot hG, hC.tot hG]
  exact (sumF_append _ _ _).symm
/-! totals of water, salt, fallen salt, needs -/
def Gw (_ : Option Rat) (p : Rat × Rat) : Rat := p.1
def Gs (_ : Option Rat) (p : Rat × Rat) : Rat := p.2
def Gd : Option Rat → Rat × Rat → Rat
  | none, p => p.2
  | some _, _ => 0
def Gn (c : Rat) : Option Rat → Rat × Rat → Rat
  | none, _ => 0
  | some s, p => if s < c then p.1 - p.2 / c else 0
/-! shares of a brine -/
theorem ky_scl {t : Rat} (h : t ≠ 0) (x : Rat × Rat) : ky (x.1 * t, x.2 * t) = ky x := by
  unfold ky
  by_cases z : x.1 = 0
  · rw [if_pos z, if_pos (by show x.1 * t = 0; rw [z, Rat.zero_mul])]
  · have nz : x.1 * t ≠ 0 := fun e => (Rat.mul_eq_zero.mp e).elim z h
    rw [if_neg z, if_neg nz]
    congr 1
    show x.2 * t / (x.1 * t) = x.2 / x.1
    rw [div_eq nz]
    have := Rat.div_mul_cancel (a := x.2) z
    rw [← Rat.mul_assoc, this]
theorem sumK_scl {t : Rat} (h : t ≠ 0) (k : Option Rat) : ∀ ps : List (Rat × Rat), sumK (ps.map fun x => (x.1 * t, x.2 * t)) k = ((sumK ps k).1 * t, (sumK ps k).2 * t)
  | [] => by show ((0 : Rat), (0 : Rat)) = (0 * t, 0 * t); rw [Rat.zero_mul]
  | p :: ps => by
    rw [List.map_cons, sumK_cons, sumK_cons, ky_scl h, sumK_scl h k ps]
    split
    · rw [Rat.add_mul, Rat.add_mul]
    · rfl
theorem hasK_scl {t : Rat} (h : t ≠ 0) (ps : List (Rat × Rat)) (k : Option Rat) : HasK (ps.map fun x => (x.1 * t, x.2 * t)) k ↔ HasK ps k := by
  constructor
  · rintro ⟨p, hp, e⟩
    obtain ⟨q, hq, rfl⟩ := List.mem_map.mp hp
    rw [ky_scl h] at e
    exact ⟨q, hq, e⟩
  · rintro ⟨p, hp, e⟩
    exact ⟨_, List.mem_map.mpr ⟨p, hp, rfl⟩, by rw [ky_scl h]; exact e⟩
theorem shr_zero (B : List (Rat × Rat)) : shr 0 B = [] := by unfold shr; rw [if_pos rfl]
theorem shr_ne {t : Rat} (h : t ≠ 0) (B : List (Rat × Rat)) : shr t B = B.map fun x => (x.1 * t, x.2 * t) := by unfold shr; rw [if_neg h]
theorem IsG.shr {ps B : List (Rat × Rat)} (g : IsG ps B) (t : Rat) : IsG (Bw.shr t ps) (Bw.shr t B) := by
  by_cases h : t = 0
  · subst h
    rw [shr_zero, shr_zero]; exact IsG.nil
  · rw [shr_ne h, shr_ne h]
    obtain ⟨ks, a, b, fl, c, d, e⟩ := g.ex
    refine ⟨ks, a, fun x => (b x).trans (hasK_scl h ps _).symm, fl.map fun x => (x.1 * t, x.2 * t), fun z => ?_, fun z => ?_, ?_⟩
    · rw [c ((hasK_scl h ps none).mp z), sumK_scl h]; rfl
    · rw [d fun y => z ((hasK_scl h ps none).mpr y)]; rfl
    · rw [e, List.map_append, List.map_map]
      congr 1
      exact List.map_congr_left fun x _ => (sumK_scl h _ ps).symm
theorem LayOk.scl {f t : Rat} {x : Rat × Rat} (h : LayOk f x) (t0 : 0 < t) : LayOk f (x.1 * t, x.2 * t) := by
  have tn := Rat.le_of_lt t0
  refine ⟨Rat.mul_nonneg h.w tn, Rat.mul_nonneg h.s tn, fun z => ?_, fun z => ?_⟩
  · have : x.1 = 0 := by
      rcases Rat.mul_eq_zero.mp z with y | y
      · exact y
      · exact absurd y (Rat.ne_of_gt t0)
    exact Rat.mul_pos (h.nz this) t0
  · have : 0 < x.1 := by
      rcases Rat.le_iff_lt_or_eq.mp h.w with y | y
      · exact y
      · have z' : 0 < x.1 * t := z
        rw [← y, Rat.zero_mul] at z'
        exact absurd z' Rat.lt_irrefl
    have := Rat.mul_le_mul_of_nonneg_right (h.le this) tn
    show x.2 * t ≤ f * (x.1 * t)
    rw [← Rat.mul_assoc]; exact this
theorem shr_len (t : Rat) (B : List (Rat × Rat)) : (shr t B).length ≤ B.length := by
  unfold shr
  split <;> simp
theorem BG.shr {f t : Rat} {ps B : List (Rat × Rat)} (h : BG f ps B) (hp : ∀ p ∈ ps, BdL 34 p) (t0 : 0 ≤ t) (bt : Bd 6 t) : BG f (Bw.shr t ps) (Bw.shr t B) := by
  refine ⟨h.g.shr t, ?_, Nat.le_trans (shr_len t ps) h.len⟩
  by_cases z : t = 0
  · subst z
    rw [shr_zero]
    intro p hp; simp at hp
  · rw [shr_ne z]
    intro p hm
    obtain ⟨q, hq, rfl⟩ := List.mem_map.mp hm
    exact ⟨(h.lay q hq).1.scl (Rat.lt_of_le_of_ne t0 (Ne.symm z)), ⟨(hp q hq).w.mul bt, (hp q hq).s.mul bt⟩⟩
/-! is_brine -/
abbrev Below (x y : Rat × Rat) : Prop := y.2 * x.1 < x.2 * y.1
/-! the strengths of a brine -/
/-! a pot of numbers -/
theorem ixN3_1 : ixN 3 1 = some 1 := rfl
theorem take_eq {c n : Nat} {M : Mem} {m : Int} (hr : HasReel c n M) (hc : c < 2 ^ 30) (h0 : 0 < m) (hm : m.natAbs < 2 ^ 4000) :
    ∃ v M', F__law_take [.ptr n, .int m] M = some (.ok (.int v), M') ∧ 0 ≤ v ∧ v < m ∧ Turned (c + 1) n M M' := by
  have hn := hr.lt
  obtain ⟨a, r, t, e, ha, hr0, hr1, ht0, ht1⟩ := hr
  have hm0 : m ≠ 0 := by omega
  by_cases hp : 0 < a
  · refine ⟨a.fmod m, M.set n (some [.int (a.fdiv m), .int r, .int t]), ?_, (fmod_pos h0).1, (fmod_pos h0).2, by simp, fun j h => List.getElem?_set_ne (Ne.symm h), a.fdiv m, r, t, List.getElem?_set_self hn, ?_, hr0, hr1, ht0, by omega⟩
    · have hd : DivOk m := DivOk.of (b := 4000) hm0 hm
      have := runF_rt (N := ["pot", "many", "digit"]) (fb := den__law_take) (ds := [.ptr n, .int m]) (M := M) (M2 := M.set n (some [.int (a.fdiv m), .int r, .int t])) (d := .int (a.fmod m)) (by
        simp -implicitDefEqProofs only [den__law_take, sSeq_ap, sAsg_ap, sPar_ap, sRet_ap, sIf_ap, sExpr_ap, sNext_ap, bnd_ap, ret_ap, bindR_ok, thenR_ok, dVar_ap, varR_ok, seqR_nx, seqR_rt, asgR_ok, gNm_ap, gCn_ap, gcnR_ok, gNl_ap, gTp_fr, gTp_ap, gLs_ap, dCons_ap, dNil_ap, asB_ap, dOr_ap, dAnd_ap, dNot_ap, dAndV_ap, dOrV_ap, dNotV_ap, dIf_ap, oAdd_int, oSub_int, oLt_int, oLe_int, oGt_int, oGe_int, oNeg_int, oEq_int, oNe_int, oEq_fr, oNe_fr, oEq_bl, oNe_bl, oTup_ap, oLst_ap, oCall_ap, oAbs_ap, oMax_ap, oMin_ap, oToInt_b, oToInt_i, oLen_lst, oLen_scr, oLen_tup, oIx_lst, oIx_scr, oAdd_lst, oIx_tup, oIx_fr0, oIx_fr1, ixR_ok, oItL_ap, oItT_ap, sFor_ap, startD, List.map_cons, List.map_nil, List.length_cons, List.length_nil, List.replicate_succ, List.replicate_zero, List.cons_append, List.nil_append, List.append_nil, List.getElem?_cons_zero, List.getElem?_cons_succ, List.set_cons_zero, List.set_cons_succ, Nat.reduceAdd, Nat.reduceSub, Nat.sub_self, Nat.reduceLeDiff, List.all_cons, List.all_nil, np_fr, np_int, np_bl, np_tup, np_lst, np_str, np_non, Bool.and_self, Bool.and_true, if_true_, if_false_, zero_add', if_tt, if_ff, decide_true, decide_false, Nat.le_refl, oItS_lst, oItS_tup, oTupOf_lst, oTupOf_tup, oLstOf_lst, oLstOf_tup, oRv_lst, oRv_tup, oAdd_tup, dChain_ap, asTru_bl, asTru_tup, asTru_lst, oIsN_ap, oNotN_ap, asI_ap, oSl_tup, oSl_lst, oZip_tup, oZip_lst, oAddI_ap, oEqS_ap, oNeS_ap, oNe_nil, oIx_ptr _ _ e, atI3_0, hp, decide_true, oMod_int hm0, oDiv_int hd, sStore_ap, e, ixN3_0]) (by simp) rfl
      rw [F__law_take, this, List.take_of_length_le (by simp)]
    · exact Int.fdiv_nonneg ha (by omega)
  · have ea : a = 0 := by omega
    subst ea
    have hcz : (c : Int) < 2 ^ 30 := by exact_mod_cast hc
    have tl : (t + 1).natAbs < 2 ^ 31 := natAbs_lt_of (by omega) (by omega)
    have rl : r.natAbs < 2 ^ 40 := natAbs_lt_of hr0 hr1
    have k1 : MulOk r 69621 := MulOk.of (a := 40) (b := 20) rl (by decide)
    have k2 : MulOk 104729 (t + 1) := MulOk.of (a := 20) (b := 31) (by decide) tl
    have tt : (104729 * (t + 1)).natAbs < 2 ^ 51 := by rw [Int.natAbs_mul]; exact mul_lt_pow (m := 20) (n := 31) (by decide) tl
    have k3 : MulOk (104729 * (t + 1)) (t + 1) := MulOk.of tt tl
    have z1 : (2147483629 : Int) ≠ 0 := by decide
    have z2 : (2147483587 : Int) ≠ 0 := by decide
    have d16 : DivOk 16 := DivOk.of (b := 5) (by decide) (by decide)
    generalize hv1 : (r * 69621 + 104729 * (t + 1) * (t + 1) + 12345).fmod 2147483629 = v1
    have b1 : 0 ≤ v1 ∧ v1 < 2 ^ 31 := by
      have := fmod_pos (i := r * 69621 + 104729 * (t + 1) * (t + 1) + 12345) (m := 2147483629) (by decide)
      rw [hv1] at this; omega
    have p3 : ∀ ρ M, oPow (.int v1) (.int 3) ρ M = some (.ok (.int (v1 ^ 3)), M) := fun ρ M => oPow_ap v1 3 ρ M (by decide) (by omega)
    generalize hv3 : ((((v1 ^ 3).fmod 2147483587).fdiv 16).fmod m) = v3
    have b3 : 0 ≤ v3 ∧ v3 < m := by rw [← hv3]; exact fmod_pos h0
    have eM : (M.set n (some [D.int 0, .int r, .int (t + 1)]))[n]? = some (some [D.int 0, .int r, .int (t + 1)]) := List.getElem?_set_self hn
    have hn2 : n < (M.set n (some [D.int 0, .int r, .int (t + 1)])).length := by simpa using hn
    have eM2 : ((M.set n (some [D.int 0, .int r, .int (t + 1)])).set n (some [D.int 0, .int v1, .int (t + 1)]))[n]? = some (some [D.int 0, .int v1, .int (t + 1)]) := List.getElem?_set_self hn2
    refine ⟨v3, (M.set n (some [D.int 0, .int r, .int (t + 1)])).set n (some [D.int 0, .int v1, .int (t + 1)]), ?_, b3.1, b3.2, by simp, fun j h => by rw [List.getElem?_set_ne (Ne.symm h), List.getElem?_set_ne (Ne.symm h)], 0, v1, t + 1, eM2, by omega, b1.1, by omega, by omega, by push_cast; omega⟩
    have := runF_rt (N := ["pot", "many", "digit"]) (fb := den__law_take) (ds := [.ptr n, .int m]) (M := M) (M2 := (M.set n (some [D.int 0, .int r, .int (t + 1)])).set n (some [D.int 0, .int v1, .int (t + 1)])) (d := .int v3) (by
      have z0 : ¬ ((0 : Int) < 0) := by decide
      simp -implicitDefEqProofs only [den__law_take, sSeq_ap, sAsg_ap, sPar_ap, sRet_ap, sIf_ap, sExpr_ap, sNext_ap, bnd_ap, ret_ap, bindR_ok, thenR_ok, dVar_ap, varR_ok, seqR_nx, seqR_rt, asgR_ok, gNm_ap, gCn_ap, gcnR_ok, gNl_ap, gTp_fr, gTp_ap, gLs_ap, dCons_ap, dNil_ap, asB_ap, dOr_ap, dAnd_ap, dNot_ap, dAndV_ap, dOrV_ap, dNotV_ap, dIf_ap, oAdd_int, oSub_int, oLt_int, oLe_int, oGt_int, oGe_int, oNeg_int, oEq_int, oNe_int, oEq_fr, oNe_fr, oEq_bl, oNe_bl, oTup_ap, oLst_ap, oCall_ap, oAbs_ap, oMax_ap, oMin_ap, oToInt_b, oToInt_i, oLen_lst, oLen_scr, oLen_tup, oIx_lst, oIx_scr, oAdd_lst, oIx_tup, oIx_fr0, oIx_fr1, ixR_ok, oItL_ap, oItT_ap, sFor_ap, startD, List.map_cons, List.map_nil, List.length_cons, List.length_nil, List.replicate_succ, List.replicate_zero, List.cons_append, List.nil_append, List.append_nil, List.getElem?_cons_zero, List.getElem?_cons_succ, List.set_cons_zero, List.set_cons_succ, Nat.reduceAdd, Nat.reduceSub, Nat.sub_self, Nat.reduceLeDiff, List.all_cons, List.all_nil, np_fr, np_int, np_bl, np_tup, np_lst, np_str, np_non, Bool.and_self, Bool.and_true, if_true_, if_false_, zero_add', if_tt, if_ff, decide_true, decide_false, Nat.le_refl, oItS_lst, oItS_tup, oTupOf_lst, oTupOf_tup, oLstOf_lst, oLstOf_tup, oRv_lst, oRv_tup, oAdd_tup, dChain_ap, asTru_bl, asTru_tup, asTru_lst, oIsN_ap, oNotN_ap, asI_ap, oSl_tup, oSl_lst, oZip_tup, oZip_lst, oAddI_ap, oEqS_ap, oNeS_ap, oNe_nil, oIx_ptr _ _ e, atI3_0, atI3_2, z0, decide_false, Bool.false_eq_true, sStore_ap, e, ixN3_2, oIx_ptr _ _ eM, eM, ixN3_1, atI3_1, oMul_int k1, oMul_int k2, oMul_int k3, oMod_int z1, hv1, oIx_ptr _ _ eM2, p3, oMod_int z2, oDiv_int d16, oMod_int hm0, hv3]) (by simp) rfl
    rw [F__law_take, this, List.take_of_length_le (by simp)]
theorem prime8 {i : Int} (h0 : 0 ≤ i) (h : i < 8) : ∃ p : Int, atI [D.int 2147483647, .int 2147483629, .int 2147483587, .int 2147483579, .int 2147483563, .int 2147483549, .int 2147483543, .int 2147483497] i = some (.int p) ∧ (0 < p ∧ p < 2 ^ 31) :=
  atI_lit h0 h fun d hd => by
    simp -implicitDefEqProofs only [List.mem_cons, List.not_mem_nil, or_false] at hd
    rcases hd with h | h | h | h | h | h | h | h <;> subst h <;> exact ⟨_, rfl, by decide, by decide⟩
theorem pot_eq (cell : Int) (k : Nat) (hk : k < 64) (M : Mem) : ∃ M', F__law_pot [.int cell, .int (k : Int)] M = some (.ok (.ptr M.length), M') ∧ M'.length = M.length + 1 ∧ (∀ j, j < M.length → M'[j]? = M[j]?) ∧ HasReel 0 M.length M' := by
  have z8 : (8 : Int) ≠ 0 := by decide
  have z1 : (1000000007 : Int) ≠ 0 := by decide
  have k1 : MulOk 7919 (k : Int) := MulOk.of (a := 20) (b := 10) (by decide) (by rw [Int.natAbs_natCast]; omega)
  obtain ⟨p, e1, p0, p1⟩ := prime8 (fmod_pos (i := (k : Int)) (m := 8) (by decide)).1 (fmod_pos (by decide)).2
  have hp : p ≠ 0 := by omega
  have b0 := fmod_pos (i := cell) (m := 1000000007) (by decide)
  have p5 : ∀ ρ M, oPow (.int (cell.fmod 1000000007 + 7919 * (k : Int) + 31)) (.int 5) ρ M = some (.ok (.int ((cell.fmod 1000000007 + 7919 * (k : Int) + 31) ^ 5)), M) := fun ρ M => oPow_ap _ 5 ρ M (by decide) (by omega)
  refine ⟨M ++ [some [D.int (if cell - 10 ^ 18 > 0 then cell - 10 ^ 18 else 0), .int (((cell.fmod 1000000007 + 7919 * (k : Int) + 31) ^ 5).fmod p), .int 0]], ?_, by simp, fun j h => by rw [List.getElem?_append_left h], _, _, _, by rw [List.getElem?_append_right (Nat.le_refl _), Nat.sub_self]; rfl, ?_, ?_, ?_, by omega, by omega⟩
  · refine runF1 ?_
    simp -implicitDefEqProofs only [den__law_pot, sSeq_ap, sAsg_ap, sPar_ap, sRet_ap, sIf_ap, sExpr_ap, sNext_ap, bnd_ap, ret_ap, bindR_ok, thenR_ok, dVar_ap, varR_ok, seqR_nx, seqR_rt, asgR_ok, gNm_ap, gCn_ap, gcnR_ok, gNl_ap, gTp_fr, gTp_ap, gLs_ap, dCons_ap, dNil_ap, asB_ap, dOr_ap, dAnd_ap, dNot_ap, dAndV_ap, dOrV_ap, dNotV_ap, dIf_ap, oAdd_int, oSub_int, oLt_int, oLe_int, oGt_int, oGe_int, oNeg_int, oEq_int, oNe_int, oEq_fr, oNe_fr, oEq_bl, oNe_bl, oTup_ap, oLst_ap, oCall_ap, oAbs_ap, oMax_ap, oMin_ap, oToInt_b, oToInt_i, oLen_lst, oLen_scr, oLen_tup, oIx_lst, oIx_scr, oAdd_lst, oIx_tup, oIx_fr0, oIx_fr1, ixR_ok, oItL_ap, oItT_ap, sFor_ap, startD, List.map_cons, List.map_nil, List.length_cons, List.length_nil, List.replicate_succ, List.replicate_zero, List.cons_append, List.nil_append, List.append_nil, List.getElem?_cons_zero, List.getElem?_cons_succ, List.set_cons_zero, List.set_cons_succ, Nat.reduceAdd, Nat.reduceSub, Nat.sub_self, Nat.reduceLeDiff, List.all_cons, List.all_nil, np_fr, np_int, np_bl, np_tup, np_lst, np_str, np_non, Bool.and_self, Bool.and_true, if_true_, if_false_, zero_add', if_tt, if_ff, decide_true, decide_false, Nat.le_refl, oItS_lst, oItS_tup, oTupOf_lst, oTupOf_tup, oLstOf_lst, oLstOf_tup, oRv_lst, oRv_tup, oAdd_tup, dChain_ap, asTru_bl, asTru_tup, asTru_lst, oIsN_ap, oNotN_ap, asI_ap, oSl_tup, oSl_lst, oZip_tup, oZip_lst, oAddI_ap, oEqS_ap, oNeS_ap, oNe_nil, oMod_int z8, e1, pow10_18, oMod_int z1, oMul_int k1, p5, oMod_int hp, oNew3]
  · split <;> omega
  · exact (fmod_pos p0).1
  · have := (fmod_pos (i := (cell.fmod 1000000007 + 7919 * (k : Int) + 31) ^ 5) p0).2
    omega
/-! the script folded -/
theorem oSl_scr (ds : List D) (l u : Option Int) (ρ : Env) (M : Mem) : oSl (.scr ds) l u ρ M = some (.ok (.lst (cutD ds l u)), M) := rfl
theorem cut_take' (ds : List D) (k : Nat) : cutD ds none (some (k : Int)) = ds.take k := by
  by_cases h : k ≤ ds.length
  · exact cut_take ds h
  · unfold cutD
    rw [HT.sIx_nat, HT.sIx_none]
    rw [List.drop_zero, List.take_of_length_le (by omega), List.take_of_length_le (by omega)]
theorem cut_drop' (ds : List D) (k : Nat) : cutD ds (some (k : Int)) none = ds.drop k := by
  by_cases h : k ≤ ds.length
  · exact cut_drop ds h
  · unfold cutD
    rw [HT.sIx_nat, HT.sIx_none]
    rw [List.drop_eq_nil_of_le (by omega), List.drop_eq_nil_of_le (by omega), List.take_nil]
theorem fold_loop {S : D} {m n : Nat} (hm : 0 < m) : ∀ (cs es : List Int) (i : Nat) (M : Mem) (o3 o4 : Option D), M[n]? = some (some (es.map D.int)) → es.length = m →
    ∃ (es' : List Int) (M' : Mem) (o3' o4' : Option D), forF (gTp 2 (gCn (gNm 3) (gCn (gNm 4) gNl))) den__law_folded_L1 (enumFrom i (cs.map D.int)) [some S, some (.int (m : Int)), some (.ptr n), o3, o4] M = some (.nx [some S, some (.int (m : Int)), some (.ptr n), o3', o4'], M') ∧ es'.length = m ∧ Put n (es'.map D.int) M M'
  | [], es, i, M, o3, o4, h, hl => ⟨es, M, o3, o4, rfl, hl, Put.self h⟩
  | c :: cs, es, i, M, o3, o4, h, hl => by
    have hm0 : (m : Int) ≠ 0 := by omega
    have b := fmod_pos (i := (i : Int)) (m := (m : Int)) (by omega)
    obtain ⟨j, ej⟩ : ∃ j : Nat, ((i : Int)).fmod (m : Int) = (j : Int) := ⟨(((i : Int)).fmod (m : Int)).toNat, by omega⟩
    have hj : j < es.length := by omega
    have ix : atI (es.map D.int) (j : Int) = some (.int es[j]) := by rw [atI_nat', List.getElem?_map, List.getElem?_eq_getElem hj]; rfl
    have ixn : ixN (es.map D.int).length (j : Int) = some j := by
      unfold ixN
      rw [if_pos (by omega), if_pos (by rw [List.length_map]; omega)]
      simp
    have em : (es.map D.int).set j (.int (es[j] + c)) = (es.set j (es[j] + c)).map D.int := by rw [List.map_set]
    have pt : Put n ((es.set j (es[j] + c)).map D.int) M (M.set n (some ((es.set j (es[j] + c)).map D.int))) := Put.set h
    obtain ⟨es', M', o3', o4', e, l', p'⟩ := fold_loop (S := S) hm cs (es.set j (es[j] + c)) (i + 1) _ (some (.int (i : Int))) (some (.int c)) pt.here (by simpa using hl)
    refine ⟨es', M', o3', o4', ?_, l', pt.trans p'⟩
    have st : den__law_folded_L1 [some S, some (.int (m : Int)), some (.ptr n), some (.int (i : Int)), some (.int c)] M = some (.nx [some S, some (.int (m : Int)), some (.ptr n), some (.int (i : Int)), some (.int c)], M.set n (some ((es.set j (es[j] + c)).map D.int))) := by
      simp -implicitDefEqProofs only [den__law_folded_L1, sStore_ap, sSeq_ap, sAsg_ap, sPar_ap, sRet_ap, sIf_ap, sExpr_ap, sNext_ap, bnd_ap, ret_ap, bindR_ok, thenR_ok, dVar_ap, varR_ok, seqR_nx, seqR_rt, asgR_ok, gNm_ap, gCn_ap, gcnR_ok, gNl_ap, gTp_fr, gTp_ap, gLs_ap, dCons_ap, dNil_ap, asB_ap, dOr_ap, dAnd_ap, dNot_ap, dAndV_ap, dOrV_ap, dNotV_ap, dIf_ap, oAdd_int, oSub_int, oLt_int, oLe_int, oGt_int, oGe_int, oNeg_int, oEq_int, oNe_int, oEq_fr, oNe_fr, oEq_bl, oNe_bl, oTup_ap, oLst_ap, oCall_ap, oAbs_ap, oMax_ap, oMin_ap, oToInt_b, oToInt_i, oLen_lst, oLen_scr, oLen_tup, oIx_lst, oIx_scr, oAdd_lst, oIx_tup, oIx_fr0, oIx_fr1, ixR_ok, oItL_ap, oItT_ap, sFor_ap, startD, List.map_cons, List.map_nil, List.length_cons, List.length_nil, List.replicate_succ, List.replicate_zero, List.cons_append, List.nil_append, List.append_nil, List.getElem?_cons_zero, List.getElem?_cons_succ, List.set_cons_zero, List.set_cons_succ, Nat.reduceAdd, Nat.reduceSub, Nat.sub_self, Nat.reduceLeDiff, List.all_cons, List.all_nil, np_fr, np_int, np_bl, np_tup, np_lst, np_str, np_non, Bool.and_self, Bool.and_true, if_true_, if_false_, zero_add', if_tt, if_ff, decide_true, decide_false, Nat.le_refl, oItS_lst, oItS_tup, oTupOf_lst, oTupOf_tup, oLstOf_lst, oLstOf_tup, oRv_lst, oRv_tup, oAdd_tup, dChain_ap, asTru_bl, asTru_tup, asTru_lst, oIsN_ap, oNotN_ap, asI_ap, oSl_tup, oSl_lst, oZip_tup, oZip_lst, oAddI_ap, oEqS_ap, oNeS_ap, oNe_nil, oMod_int hm0, ej, oIx_ptr _ _ h, ix, h, ixn, em]
    rw [List.map_cons, enumFrom, forF_cons]
    simp -implicitDefEqProofs only [sSeq_ap, sAsg_ap, sPar_ap, sRet_ap, sIf_ap, sExpr_ap, sNext_ap, bnd_ap, ret_ap, bindR_ok, thenR_ok, dVar_ap, varR_ok, seqR_nx, seqR_rt, asgR_ok, gNm_ap, gCn_ap, gcnR_ok, gNl_ap, gTp_fr, gTp_ap, gLs_ap, dCons_ap, dNil_ap, asB_ap, dOr_ap, dAnd_ap, dNot_ap, dAndV_ap, dOrV_ap, dNotV_ap, dIf_ap, oAdd_int, oSub_int, oLt_int, oLe_int, oGt_int, oGe_int, oNeg_int, oEq_int, oNe_int, oEq_fr, oNe_fr, oEq_bl, oNe_bl, oTup_ap, oLst_ap, oCall_ap, oAbs_ap, oMax_ap, oMin_ap, oToInt_b, oToInt_i, oLen_lst, oLen_scr, oLen_tup, oIx_lst, oIx_scr, oAdd_lst, oIx_tup, oIx_fr0, oIx_fr1, ixR_ok, oItL_ap, oItT_ap, sFor_ap, startD, List.map_cons, List.map_nil, List.length_cons, List.length_nil, List.replicate_succ, List.replicate_zero, List.cons_append, List.nil_append, List.append_nil, List.getElem?_cons_zero, List.getElem?_cons_succ, List.set_cons_zero, List.set_cons_succ, Nat.reduceAdd, Nat.reduceSub, Nat.sub_self, Nat.reduceLeDiff, List.all_cons, List.all_nil, np_fr, np_int, np_bl, np_tup, np_lst, np_str, np_non, Bool.and_self, Bool.and_true, if_true_, if_false_, zero_add', if_tt, if_ff, decide_true, decide_false, Nat.le_refl, oItS_lst, oItS_tup, oTupOf_lst, oTupOf_tup, oLstOf_lst, oLstOf_tup, oRv_lst, oRv_tup, oAdd_tup, dChain_ap, asTru_bl, asTru_tup, asTru_lst, oIsN_ap, oNotN_ap, asI_ap, oSl_tup, oSl_lst, oZip_tup, oZip_lst, oAddI_ap, oEqS_ap, oNeS_ap, oNe_nil, forB_ok, st, ofR_nx, e]
theorem folded_eq (ns : List Int) {m : Nat} (hm : 0 < m) (M : Mem) : ∃ es : List Int, F__law_folded [.scr (ns.map D.int), .int (m : Int)] M = some (.ok (.ptr M.length), M ++ [some (es.map D.int)]) ∧ es.length ≤ m := by
  by_cases h : ns.length ≤ m
  · refine ⟨ns, ?_, h⟩
    refine runF1 ?_
    have t1 : cutD (ns.map D.int) none (some (m : Int)) = ns.map D.int := by rw [cut_take', List.take_of_length_le (by simpa using h)]
    have t2 : cutD (ns.map D.int) (some (m : Int)) none = [] := by rw [cut_drop', List.drop_eq_nil_of_le (by simpa using h)]
    simp -implicitDefEqProofs only [den__law_folded, sSeq_ap, sAsg_ap, sPar_ap, sRet_ap, sIf_ap, sExpr_ap, sNext_ap, bnd_ap, ret_ap, bindR_ok, thenR_ok, dVar_ap, varR_ok, seqR_nx, seqR_rt, asgR_ok, gNm_ap, gCn_ap, gcnR_ok, gNl_ap, gTp_fr, gTp_ap, gLs_ap, dCons_ap, dNil_ap, asB_ap, dOr_ap, dAnd_ap, dNot_ap, dAndV_ap, dOrV_ap, dNotV_ap, dIf_ap, oAdd_int, oSub_int, oLt_int, oLe_int, oGt_int, oGe_int, oNeg_int, oEq_int, oNe_int, oEq_fr, oNe_fr, oEq_bl, oNe_bl, oTup_ap, oLst_ap, oCall_ap, oAbs_ap, oMax_ap, oMin_ap, oToInt_b, oToInt_i, oLen_lst, oLen_scr, oLen_tup, oIx_lst, oIx_scr, oAdd_lst, oIx_tup, oIx_fr0, oIx_fr1, ixR_ok, oItL_ap, oItT_ap, sFor_ap, startD, List.map_cons, List.map_nil, List.length_cons, List.length_nil, List.replicate_succ, List.replicate_zero, List.cons_append, List.nil_append, List.append_nil, List.getElem?_cons_zero, List.getElem?_cons_succ, List.set_cons_zero, List.set_cons_succ, Nat.reduceAdd, Nat.reduceSub, Nat.sub_self, Nat.reduceLeDiff, List.all_cons, List.all_nil, np_fr, np_int, np_bl, np_tup, np_lst, np_str, np_non, Bool.and_self, Bool.and_true, if_true_, if_false_, zero_add', if_tt, if_ff, decide_true, decide_false, Nat.le_refl, oItS_lst, oItS_tup, oTupOf_lst, oTupOf_tup, oLstOf_lst, oLstOf_tup, oRv_lst, oRv_tup, oAdd_tup, dChain_ap, asTru_bl, asTru_tup, asTru_lst, oIsN_ap, oNotN_ap, asI_ap, oSl_tup, oSl_lst, oZip_tup, oZip_lst, oAddI_ap, oEqS_ap, oNeS_ap, oNe_nil, oSl_scr, t1, t2, oLstN_lst, oEnum_lst, enumFrom, forF_nil]
  · have t1 : cutD (ns.map D.int) none (some (m : Int)) = (ns.take m).map D.int := by rw [cut_take', List.map_take]
    have t2 : cutD (ns.map D.int) (some (m : Int)) none = (ns.drop m).map D.int := by rw [cut_drop', List.map_drop]
    obtain ⟨es', M', o3', o4', e, l', p'⟩ := fold_loop (S := .scr (ns.map D.int)) (n := M.length) hm (ns.drop m) (ns.take m) 0 (M ++ [some ((ns.take m).map D.int)]) none none (last_cell M _) (by rw [List.length_take]; omega)
    have eM : M' = M ++ [some (es'.map D.int)] := by
      have h1 : M'.length = M.length + 1 := by rw [p'.len]; simp
      apply List.ext_getElem?
      intro j
      by_cases hj : j < M.length
      · rw [p'.oth j (by omega), List.getElem?_append_left hj, List.getElem?_append_left hj]
      · by_cases hj2 : j = M.length
        · subst hj2; rw [p'.here, last_cell]
        · rw [List.getElem?_eq_none (by omega), List.getElem?_eq_none (by simp; omega)]
    subst eM
    refine ⟨es', ?_, by omega⟩
    refine runF1 ?_
    simp -implicitDefEqProofs only [den__law_folded, sSeq_ap, sAsg_ap, sPar_ap, sRet_ap, sIf_ap, sExpr_ap, sNext_ap, bnd_ap, ret_ap, bindR_ok, thenR_ok, dVar_ap, varR_ok, seqR_nx, seqR_rt, asgR_ok, gNm_ap, gCn_ap, gcnR_ok, gNl_ap, gTp_fr, gTp_ap, gLs_ap, dCons_ap, dNil_ap, asB_ap, dOr_ap, dAnd_ap, dNot_ap, dAndV_ap, dOrV_ap, dNotV_ap, dIf_ap, oAdd_int, oSub_int, oLt_int, oLe_int, oGt_int, oGe_int, oNeg_int, oEq_int, oNe_int, oEq_fr, oNe_fr, oEq_bl, oNe_bl, oTup_ap, oLst_ap, oCall_ap, oAbs_ap, oMax_ap, oMin_ap, oToInt_b, oToInt_i, oLen_lst, oLen_scr, oLen_tup, oIx_lst, oIx_scr, oAdd_lst, oIx_tup, oIx_fr0, oIx_fr1, ixR_ok, oItL_ap, oItT_ap, sFor_ap, startD, List.map_cons, List.map_nil, List.length_cons, List.length_nil, List.replicate_succ, List.replicate_zero, List.cons_append, List.nil_append, List.append_nil, List.getElem?_cons_zero, List.getElem?_cons_succ, List.set_cons_zero, List.set_cons_succ, Nat.reduceAdd, Nat.reduceSub, Nat.sub_self, Nat.reduceLeDiff, List.all_cons, List.all_nil, np_fr, np_int, np_bl, np_tup, np_lst, np_str, np_non, Bool.and_self, Bool.and_true, if_true_, if_false_, zero_add', if_tt, if_ff, decide_true, decide_false, Nat.le_refl, oItS_lst, oItS_tup, oTupOf_lst, oTupOf_tup, oLstOf_lst, oLstOf_tup, oRv_lst, oRv_tup, oAdd_tup, dChain_ap, asTru_bl, asTru_tup, asTru_lst, oIsN_ap, oNotN_ap, asI_ap, oSl_tup, oSl_lst, oZip_tup, oZip_lst, oAddI_ap, oEqS_ap, oNeS_ap, oNe_nil, oSl_scr, t1, t2, oLstN_lst, oEnum_lst, e]
/-! lowest terms -/
theorem low_loop : ∀ (n : Nat) (x y : Option D) (a b : Nat) (M : Mem), b < n →
    whileF (bnd (bnd (dVar 3) fun d => bnd (ret (.int 0)) fun e => oGt d e) asB) den__law_low_L1 n [x, y, some (.int (a : Int)), some (.int (b : Int))] M = some (.nx [x, y, some (.int (Nat.gcd a b : Nat)), some (.int 0)], M)
  | 0, x, y, a, b, M, h => absurd h (by omega)
  | n + 1, x, y, a, b, M, h => by
    by_cases hb : b = 0
    · subst hb
      unfold whileF
      simp -implicitDefEqProofs only [sSeq_ap, sAsg_ap, sPar_ap, sRet_ap, sIf_ap, sExpr_ap, sNext_ap, bnd_ap, ret_ap, bindR_ok, thenR_ok, dVar_ap, varR_ok, seqR_nx, seqR_rt, asgR_ok, gNm_ap, gCn_ap, gcnR_ok, gNl_ap, gTp_fr, gTp_ap, gLs_ap, dCons_ap, dNil_ap, asB_ap, dOr_ap, dAnd_ap, dNot_ap, dAndV_ap, dOrV_ap, dNotV_ap, dIf_ap, oAdd_int, oSub_int, oLt_int, oLe_int, oGt_int, oGe_int, oNeg_int, oEq_int, oNe_int, oEq_fr, oNe_fr, oEq_bl, oNe_bl, oTup_ap, oLst_ap, oCall_ap, oAbs_ap, oMax_ap, oMin_ap, oToInt_b, oToInt_i, oLen_lst, oLen_scr, oLen_tup, oIx_lst, oIx_scr, oAdd_lst, oIx_tup, oIx_fr0, oIx_fr1, ixR_ok, oItL_ap, oItT_ap, sFor_ap, startD, List.map_cons, List.map_nil, List.length_cons, List.length_nil, List.replicate_succ, List.replicate_zero, List.cons_append, List.nil_append, List.append_nil, List.getElem?_cons_zero, List.getElem?_cons_succ, List.set_cons_zero, List.set_cons_succ, Nat.reduceAdd, Nat.reduceSub, Nat.sub_self, Nat.reduceLeDiff, List.all_cons, List.all_nil, np_fr, np_int, np_bl, np_tup, np_lst, np_str, np_non, Bool.and_self, Bool.and_true, if_true_, if_false_, zero_add', if_tt, if_ff, decide_true, decide_false, Nat.le_refl, oItS_lst, oItS_tup, oTupOf_lst, oTupOf_tup, oLstOf_lst, oLstOf_tup, oRv_lst, oRv_tup, oAdd_tup, dChain_ap, asTru_bl, asTru_tup, asTru_lst, oIsN_ap, oNotN_ap, asI_ap, oSl_tup, oSl_lst, oZip_tup, oZip_lst, oAddI_ap, oEqS_ap, oNeS_ap, oNe_nil]
      simp
    · have ih := low_loop n x y b (a % b) M (by have := Nat.mod_lt a (Nat.pos_of_ne_zero hb); omega)
      unfold whileF
      have hb' : (b : Int) ≠ 0 := by omega
      have hb2 : (0 : Int) < (b : Int) := by omega
      have e : ((a : Int)).fmod (b : Int) = ((a % b : Nat) : Int) := by rw [fmod_nat]; rfl
      have e2 : Nat.gcd b (a % b) = Nat.gcd a b := by rw [Nat.gcd_comm b, ← Nat.gcd_rec, Nat.gcd_comm]
      have e4 : den__law_low_L1 [x, y, some (.int (a : Int)), some (.int (b : Int))] M = some (.nx [x, y, some (.int (b : Int)), some (.int ((a % b : Nat) : Int))], M) := by
        simp -implicitDefEqProofs only [den__law_low_L1, sSeq_ap, sAsg_ap, sPar_ap, sRet_ap, sIf_ap, sExpr_ap, sNext_ap, bnd_ap, ret_ap, bindR_ok, thenR_ok, dVar_ap, varR_ok, seqR_nx, seqR_rt, asgR_ok, gNm_ap, gCn_ap, gcnR_ok, gNl_ap, gTp_fr, gTp_ap, gLs_ap, dCons_ap, dNil_ap, asB_ap, dOr_ap, dAnd_ap, dNot_ap, dAndV_ap, dOrV_ap, dNotV_ap, dIf_ap, oAdd_int, oSub_int, oLt_int, oLe_int, oGt_int, oGe_int, oNeg_int, oEq_int, oNe_int, oEq_fr, oNe_fr, oEq_bl, oNe_bl, oTup_ap, oLst_ap, oCall_ap, oAbs_ap, oMax_ap, oMin_ap, oToInt_b, oToInt_i, oLen_lst, oLen_scr, oLen_tup, oIx_lst, oIx_scr, oAdd_lst, oIx_tup, oIx_fr0, oIx_fr1, ixR_ok, oItL_ap, oItT_ap, sFor_ap, startD, List.map_cons, List.map_nil, List.length_cons, List.length_nil, List.replicate_succ, List.replicate_zero, List.cons_append, List.nil_append, List.append_nil, List.getElem?_cons_zero, List.getElem?_cons_succ, List.set_cons_zero, List.set_cons_succ, Nat.reduceAdd, Nat.reduceSub, Nat.sub_self, Nat.reduceLeDiff, List.all_cons, List.all_nil, np_fr, np_int, np_bl, np_tup, np_lst, np_str, np_non, Bool.and_self, Bool.and_true, if_true_, if_false_, zero_add', if_tt, if_ff, decide_true, decide_false, Nat.le_refl, oItS_lst, oItS_tup, oTupOf_lst, oTupOf_tup, oLstOf_lst, oLstOf_tup, oRv_lst, oRv_tup, oAdd_tup, dChain_ap, asTru_bl, asTru_tup, asTru_lst, oIsN_ap, oNotN_ap, asI_ap, oSl_tup, oSl_lst, oZip_tup, oZip_lst, oAddI_ap, oEqS_ap, oNeS_ap, oNe_nil, oMod_int hb', e]
      simp -implicitDefEqProofs only [sSeq_ap, sAsg_ap, sPar_ap, sRet_ap, sIf_ap, sExpr_ap, sNext_ap, bnd_ap, ret_ap, bindR_ok, thenR_ok, dVar_ap, varR_ok, seqR_nx, seqR_rt, asgR_ok, gNm_ap, gCn_ap, gcnR_ok, gNl_ap, gTp_fr, gTp_ap, gLs_ap, dCons_ap, dNil_ap, asB_ap, dOr_ap, dAnd_ap, dNot_ap, dAndV_ap, dOrV_ap, dNotV_ap, dIf_ap, oAdd_int, oSub_int, oLt_int, oLe_int, oGt_int, oGe_int, oNeg_int, oEq_int, oNe_int, oEq_fr, oNe_fr, oEq_bl, oNe_bl, oTup_ap, oLst_ap, oCall_ap, oAbs_ap, oMax_ap, oMin_ap, oToInt_b, oToInt_i, oLen_lst, oLen_scr, oLen_tup, oIx_lst, oIx_scr, oAdd_lst, oIx_tup, oIx_fr0, oIx_fr1, ixR_ok, oItL_ap, oItT_ap, sFor_ap, startD, List.map_cons, List.map_nil, List.length_cons, List.length_nil, List.replicate_succ, List.replicate_zero, List.cons_append, List.nil_append, List.append_nil, List.getElem?_cons_zero, List.getElem?_cons_succ, List.set_cons_zero, List.set_cons_succ, Nat.reduceAdd, Nat.reduceSub, Nat.sub_self, Nat.reduceLeDiff, List.all_cons, List.all_nil, np_fr, np_int, np_bl, np_tup, np_lst, np_str, np_non, Bool.and_self, Bool.and_true, if_true_, if_false_, zero_add', if_tt, if_ff, decide_true, decide_false, Nat.le_refl, oItS_lst, oItS_tup, oTupOf_lst, oTupOf_tup, oLstOf_lst, oLstOf_tup, oRv_lst, oRv_tup, oAdd_tup, dChain_ap, asTru_bl, asTru_tup, asTru_lst, oIsN_ap, oNotN_ap, asI_ap, oSl_tup, oSl_lst, oZip_tup, oZip_lst, oAddI_ap, oEqS_ap, oNeS_ap, oNe_nil, hb2, e4, ih, e2]
theorem low_eq {t b : Int} (hb : b ≠ 0) (hs : b.natAbs < 2 ^ 4000) (M : Mem) : F__law_low [.int t, .int b] M = some (.ok (frQ (Rat.divInt t b)), M) := by
  refine runF_pure ?_ rfl
  have a1 : (if t < 0 then -t else t) = ((t.natAbs : Nat) : Int) := by split <;> omega
  have a2 : (if b < 0 then -b else b) = ((b.natAbs : Nat) : Int) := by split <;> omega
  have lp := sWhile_eq (low_loop (b.natAbs + 1) (some (.int t)) (some (.int b)) t.natAbs b.natAbs M (by omega))
  have gp : 0 < Int.gcd t b := Int.gcd_pos_of_ne_zero_right t hb
  have gl : Int.gcd t b < 2 ^ 4000 := Nat.lt_of_le_of_lt (Nat.gcd_le_right _ (by omega)) hs
  have eg : Nat.gcd t.natAbs b.natAbs = Int.gcd t b := rfl
  have k2 : DivOk ((Int.gcd t b : Nat) : Int) := DivOk.of (b := 4000) (by omega) (by rw [Int.natAbs_natCast]; exact gl)
  have k3 : DivOk (0 - ((Int.gcd t b : Nat) : Int)) := DivOk.of (b := 4000) (by omega) (by rw [Int.zero_sub, Int.natAbs_neg, Int.natAbs_natCast]; exact gl)
  simp -implicitDefEqProofs only [den__law_low, sSeq_ap, sAsg_ap, sPar_ap, sRet_ap, sIf_ap, sExpr_ap, sNext_ap, bnd_ap, ret_ap, bindR_ok, thenR_ok, dVar_ap, varR_ok, seqR_nx, seqR_rt, asgR_ok, gNm_ap, gCn_ap, gcnR_ok, gNl_ap, gTp_fr, gTp_ap, gLs_ap, dCons_ap, dNil_ap, asB_ap, dOr_ap, dAnd_ap, dNot_ap, dAndV_ap, dOrV_ap, dNotV_ap, dIf_ap, oAdd_int, oSub_int, oLt_int, oLe_int, oGt_int, oGe_int, oNeg_int, oEq_int, oNe_int, oEq_fr, oNe_fr, oEq_bl, oNe_bl, oTup_ap, oLst_ap, oCall_ap, oAbs_ap, oMax_ap, oMin_ap, oToInt_b, oToInt_i, oLen_lst, oLen_scr, oLen_tup, oIx_lst, oIx_scr, oAdd_lst, oIx_tup, oIx_fr0, oIx_fr1, ixR_ok, oItL_ap, oItT_ap, sFor_ap, startD, List.map_cons, List.map_nil, List.length_cons, List.length_nil, List.replicate_succ, List.replicate_zero, List.cons_append, List.nil_append, List.append_nil, List.getElem?_cons_zero, List.getElem?_cons_succ, List.set_cons_zero, List.set_cons_succ, Nat.reduceAdd, Nat.reduceSub, Nat.sub_self, Nat.reduceLeDiff, List.all_cons, List.all_nil, np_fr, np_int, np_bl, np_tup, np_lst, np_str, np_non, Bool.and_self, Bool.and_true, if_true_, if_false_, zero_add', if_tt, if_ff, decide_true, decide_false, Nat.le_refl, oItS_lst, oItS_tup, oTupOf_lst, oTupOf_tup, oLstOf_lst, oLstOf_tup, oRv_lst, oRv_tup, oAdd_tup, dChain_ap, asTru_bl, asTru_tup, asTru_lst, oIsN_ap, oNotN_ap, asI_ap, oSl_tup, oSl_lst, oZip_tup, oZip_lst, oAddI_ap, oEqS_ap, oNeS_ap, oNe_nil, a1, a2, lp, eg]
  by_cases hn : b < 0
  · simp -implicitDefEqProofs only [sSeq_ap, sAsg_ap, sPar_ap, sRet_ap, sIf_ap, sExpr_ap, sNext_ap, bnd_ap, ret_ap, bindR_ok, thenR_ok, dVar_ap, varR_ok, seqR_nx, seqR_rt, asgR_ok, gNm_ap, gCn_ap, gcnR_ok, gNl_ap, gTp_fr, gTp_ap, gLs_ap, dCons_ap, dNil_ap, asB_ap, dOr_ap, dAnd_ap, dNot_ap, dAndV_ap, dOrV_ap, dNotV_ap, dIf_ap, oAdd_int, oSub_int, oLt_int, oLe_int, oGt_int, oGe_int, oNeg_int, oEq_int, oNe_int, oEq_fr, oNe_fr, oEq_bl, oNe_bl, oTup_ap, oLst_ap, oCall_ap, oAbs_ap, oMax_ap, oMin_ap, oToInt_b, oToInt_i, oLen_lst, oLen_scr, oLen_tup, oIx_lst, oIx_scr, oAdd_lst, oIx_tup, oIx_fr0, oIx_fr1, ixR_ok, oItL_ap, oItT_ap, sFor_ap, startD, List.map_cons, List.map_nil, List.length_cons, List.length_nil, List.replicate_succ, List.replicate_zero, List.cons_append, List.nil_append, List.append_nil, List.getElem?_cons_zero, List.getElem?_cons_succ, List.set_cons_zero, List.set_cons_succ, Nat.reduceAdd, Nat.reduceSub, Nat.sub_self, Nat.reduceLeDiff, List.all_cons, List.all_nil, np_fr, np_int, np_bl, np_tup, np_lst, np_str, np_non, Bool.and_self, Bool.and_true, if_true_, if_false_, zero_add', if_tt, if_ff, decide_true, decide_false, Nat.le_refl, oItS_lst, oItS_tup, oTupOf_lst, oTupOf_tup, oLstOf_lst, oLstOf_tup, oRv_lst, oRv_tup, oAdd_tup, dChain_ap, asTru_bl, asTru_tup, asTru_lst, oIsN_ap, oNotN_ap, asI_ap, oSl_tup, oSl_lst, oZip_tup, oZip_lst, oAddI_ap, oEqS_ap, oNeS_ap, oNe_nil, hn, decide_true, oDiv_int k3]
    rw [low_math hb (by rw [if_pos hn]; omega)]
  · simp -implicitDefEqProofs only [sSeq_ap, sAsg_ap, sPar_ap, sRet_ap, sIf_ap, sExpr_ap, sNext_ap, bnd_ap, ret_ap, bindR_ok, thenR_ok, dVar_ap, varR_ok, seqR_nx, seqR_rt, asgR_ok, gNm_ap, gCn_ap, gcnR_ok, gNl_ap, gTp_fr, gTp_ap, gLs_ap, dCons_ap, dNil_ap, asB_ap, dOr_ap, dAnd_ap, dNot_ap, dAndV_ap, dOrV_ap, dNotV_ap, dIf_ap, oAdd_int, oSub_int, oLt_int, oLe_int, oGt_int, oGe_int, oNeg_int, oEq_int, oNe_int, oEq_fr, oNe_fr, oEq_bl, oNe_bl, oTup_ap, oLst_ap, oCall_ap, oAbs_ap, oMax_ap, oMin_ap, oToInt_b, oToInt_i, oLen_lst, oLen_scr, oLen_tup, oIx_lst, oIx_scr, oAdd_lst, oIx_tup, oIx_fr0, oIx_fr1, ixR_ok, oItL_ap, oItT_ap, sFor_ap, startD, List.map_cons, List.map_nil, List.length_cons, List.length_nil, List.replicate_succ, List.replicate_zero, List.cons_append, List.nil_append, List.append_nil, List.getElem?_cons_zero, List.getElem?_cons_succ, List.set_cons_zero, List.set_cons_succ, Nat.reduceAdd, Nat.reduceSub, Nat.sub_self, Nat.reduceLeDiff, List.all_cons, List.all_nil, np_fr, np_int, np_bl, np_tup, np_lst, np_str, np_non, Bool.and_self, Bool.and_true, if_true_, if_false_, zero_add', if_tt, if_ff, decide_true, decide_false, Nat.le_refl, oItS_lst, oItS_tup, oTupOf_lst, oTupOf_tup, oLstOf_lst, oLstOf_tup, oRv_lst, oRv_tup, oAdd_tup, dChain_ap, asTru_bl, asTru_tup, asTru_lst, oIsN_ap, oNotN_ap, asI_ap, oSl_tup, oSl_lst, oZip_tup, oZip_lst, oAddI_ap, oEqS_ap, oNeS_ap, oNe_nil, hn, decide_false, Bool.false_eq_true, oDiv_int k2]
    rw [low_math hb (by rw [if_neg hn]; omega)]
/-! the law's own reckoning -/
section
variable {x y : Rat}
theorem num_lt {k : Nat} (h : Bd k x) : x.num.natAbs < 2 ^ k := h.1
theorem den_lt {k : Nat} (h : Bd k x) : ((x.den : Int)).natAbs < 2 ^ k := by rw [Int.natAbs_natCast]; exact h.2
theorem lless_eq (hx : Bd 1900 x) (hy : Bd 1900 y) (M : Mem) : F__law_less [frQ x, frQ y] M = some (.ok (frQ (x - y)), M) := by
  refine runF_pure ?_ rfl
  have k1 : MulOk x.num (y.den : Int) := MulOk.of (num_lt hx) (den_lt hy)
  have k2 : MulOk y.num (x.den : Int) := MulOk.of (num_lt hy) (den_lt hx)
  have k3 : MulOk (x.den : Int) (y.den : Int) := MulOk.of (den_lt hx) (den_lt hy)
  have k4 : ((x.den : Int) * (y.den : Int)).natAbs < 2 ^ 4000 := by rw [Int.natAbs_mul]; exact nat_lt_pow 4000 (mul_lt_pow (den_lt hx) (den_lt hy)) (by decide)
  simp -implicitDefEqProofs only [den__law_less, sSeq_ap, sAsg_ap, sPar_ap, sRet_ap, sIf_ap, sExpr_ap, sNext_ap, bnd_ap, ret_ap, bindR_ok, thenR_ok, dVar_ap, varR_ok, seqR_nx, seqR_rt, asgR_ok, gNm_ap, gCn_ap, gcnR_ok, gNl_ap, gTp_fr, gTp_ap, gLs_ap, dCons_ap, dNil_ap, asB_ap, dOr_ap, dAnd_ap, dNot_ap, dAndV_ap, dOrV_ap, dNotV_ap, dIf_ap, oAdd_int, oSub_int, oLt_int, oLe_int, oGt_int, oGe_int, oNeg_int, oEq_int, oNe_int, oEq_fr, oNe_fr, oEq_bl, oNe_bl, oTup_ap, oLst_ap, oCall_ap, oAbs_ap, oMax_ap, oMin_ap, oToInt_b, oToInt_i, oLen_lst, oLen_scr, oLen_tup, oIx_lst, oIx_scr, oAdd_lst, oIx_tup, oIx_fr0, oIx_fr1, ixR_ok, oItL_ap, oItT_ap, sFor_ap, startD, List.map_cons, List.map_nil, List.length_cons, List.length_nil, List.replicate_succ, List.replicate_zero, List.cons_append, List.nil_append, List.append_nil, List.getElem?_cons_zero, List.getElem?_cons_succ, List.set_cons_zero, List.set_cons_succ, Nat.reduceAdd, Nat.reduceSub, Nat.sub_self, Nat.reduceLeDiff, List.all_cons, List.all_nil, np_fr, np_int, np_bl, np_tup, np_lst, np_str, np_non, Bool.and_self, Bool.and_true, if_true_, if_false_, zero_add', if_tt, if_ff, decide_true, decide_false, Nat.le_refl, oItS_lst, oItS_tup, oTupOf_lst, oTupOf_tup, oLstOf_lst, oLstOf_tup, oRv_lst, oRv_tup, oAdd_tup, dChain_ap, asTru_bl, asTru_tup, asTru_lst, oIsN_ap, oNotN_ap, asI_ap, oSl_tup, oSl_lst, oZip_tup, oZip_lst, oAddI_ap, oEqS_ap, oNeS_ap, oNe_nil, oMul_int k1, oMul_int k2, oMul_int k3, low_eq (dd_ne x y) k4, divInt_sub]
theorem ltimes_eq (hx : Bd 1900 x) (hy : Bd 1900 y) (M : Mem) : F__law_times [frQ x, frQ y] M = some (.ok (frQ (x * y)), M) := by
  refine runF_pure ?_ rfl
  have k1 : MulOk x.num y.num := MulOk.of (num_lt hx) (num_lt hy)
  have k3 : MulOk (x.den : Int) (y.den : Int) := MulOk.of (den_lt hx) (den_lt hy)
  have k4 : ((x.den : Int) * (y.den : Int)).natAbs < 2 ^ 4000 := by rw [Int.natAbs_mul]; exact nat_lt_pow 4000 (mul_lt_pow (den_lt hx) (den_lt hy)) (by decide)
  simp -implicitDefEqProofs only [den__law_times, sSeq_ap, sAsg_ap, sPar_ap, sRet_ap, sIf_ap, sExpr_ap, sNext_ap, bnd_ap, ret_ap, bindR_ok, thenR_ok, dVar_ap, varR_ok, seqR_nx, seqR_rt, asgR_ok, gNm_ap, gCn_ap, gcnR_ok, gNl_ap, gTp_fr, gTp_ap, gLs_ap, dCons_ap, dNil_ap, asB_ap, dOr_ap, dAnd_ap, dNot_ap, dAndV_ap, dOrV_ap, dNotV_ap, dIf_ap, oAdd_int, oSub_int, oLt_int, oLe_int, oGt_int, oGe_int, oNeg_int, oEq_int, oNe_int, oEq_fr, oNe_fr, oEq_bl, oNe_bl, oTup_ap, oLst_ap, oCall_ap, oAbs_ap, oMax_ap, oMin_ap, oToInt_b, oToInt_i, oLen_lst, oLen_scr, oLen_tup, oIx_lst, oIx_scr, oAdd_lst, oIx_tup, oIx_fr0, oIx_fr1, ixR_ok, oItL_ap, oItT_ap, sFor_ap, startD, List.map_cons, List.map_nil, List.length_cons, List.length_nil, List.replicate_succ, List.replicate_zero, List.cons_append, List.nil_append, List.append_nil, List.getElem?_cons_zero, List.getElem?_cons_succ, List.set_cons_zero, List.set_cons_succ, Nat.reduceAdd, Nat.reduceSub, Nat.sub_self, Nat.reduceLeDiff, List.all_cons, List.all_nil, np_fr, np_int, np_bl, np_tup, np_lst, np_str, np_non, Bool.and_self, Bool.and_true, if_true_, if_false_, zero_add', if_tt, if_ff, decide_true, decide_false, Nat.le_refl, oItS_lst, oItS_tup, oTupOf_lst, oTupOf_tup, oLstOf_lst, oLstOf_tup, oRv_lst, oRv_tup, oAdd_tup, dChain_ap, asTru_bl, asTru_tup, asTru_lst, oIsN_ap, oNotN_ap, asI_ap, oSl_tup, oSl_lst, oZip_tup, oZip_lst, oAddI_ap, oEqS_ap, oNeS_ap, oNe_nil, oMul_int k1, oMul_int k3, low_eq (dd_ne x y) k4, ← mul_divInt]
theorem lby_eq (hx : Bd 1900 x) (hy : Bd 1900 y) (h : y ≠ 0) (M : Mem) : F__law_by [frQ x, frQ y] M = some (.ok (frQ (x / y)), M) := by
  refine runF_pure ?_ rfl
  have k1 : MulOk x.num (y.den : Int) := MulOk.of (num_lt hx) (den_lt hy)
  have k3 : MulOk (x.den : Int) y.num := MulOk.of (den_lt hx) (num_lt hy)
  have k4 : ((x.den : Int) * y.num).natAbs < 2 ^ 4000 := by rw [Int.natAbs_mul]; exact nat_lt_pow 4000 (mul_lt_pow (den_lt hx) (num_lt hy)) (by decide)
  have k5 : (x.den : Int) * y.num ≠ 0 := Int.mul_ne_zero (den_ne x) (num_ne h)
  simp -implicitDefEqProofs only [den__law_by, sSeq_ap, sAsg_ap, sPar_ap, sRet_ap, sIf_ap, sExpr_ap, sNext_ap, bnd_ap, ret_ap, bindR_ok, thenR_ok, dVar_ap, varR_ok, seqR_nx, seqR_rt, asgR_ok, gNm_ap, gCn_ap, gcnR_ok, gNl_ap, gTp_fr, gTp_ap, gLs_ap, dCons_ap, dNil_ap, asB_ap, dOr_ap, dAnd_ap, dNot_ap, dAndV_ap, dOrV_ap, dNotV_ap, dIf_ap, oAdd_int, oSub_int, oLt_int, oLe_int, oGt_int, oGe_int, oNeg_int, oEq_int, oNe_int, oEq_fr, oNe_fr, oEq_bl, oNe_bl, oTup_ap, oLst_ap, oCall_ap, oAbs_ap, oMax_ap, oMin_ap, oToInt_b, oToInt_i, oLen_lst, oLen_scr, oLen_tup, oIx_lst, oIx_scr, oAdd_lst, oIx_tup, oIx_fr0, oIx_fr1, ixR_ok, oItL_ap, oItT_ap, sFor_ap, startD, List.map_cons, List.map_nil, List.length_cons, List.length_nil, List.replicate_succ, List.replicate_zero, List.cons_append, List.nil_append, List.append_nil, List.getElem?_cons_zero, List.getElem?_cons_succ, List.set_cons_zero, List.set_cons_succ, Nat.reduceAdd, Nat.reduceSub, Nat.sub_self, Nat.reduceLeDiff, List.all_cons, List.all_nil, np_fr, np_int, np_bl, np_tup, np_lst, np_str, np_non, Bool.and_self, Bool.and_true, if_true_, if_false_, zero_add', if_tt, if_ff, decide_true, decide_false, Nat.le_refl, oItS_lst, oItS_tup, oTupOf_lst, oTupOf_tup, oLstOf_lst, oLstOf_tup, oRv_lst, oRv_tup, oAdd_tup, dChain_ap, asTru_bl, asTru_tup, asTru_lst, oIsN_ap, oNotN_ap, asI_ap, oSl_tup, oSl_lst, oZip_tup, oZip_lst, oAddI_ap, oEqS_ap, oNeS_ap, oNe_nil, oMul_int k1, oMul_int k3, low_eq k5 k4, divInt_div]
theorem lunder_eq (hx : Bd 1900 x) (hy : Bd 1900 y) (M : Mem) : F__law_under [frQ x, frQ y] M = some (.ok (.bl (decide (x < y))), M) := by
  refine runF_pure ?_ rfl
  have k1 : MulOk x.num (y.den : Int) := MulOk.of (num_lt hx) (den_lt hy)
  have k2 : MulOk y.num (x.den : Int) := MulOk.of (num_lt hy) (den_lt hx)
  have e : decide (x.num * (y.den : Int) < y.num * (x.den : Int)) = decide (x < y) := decide_eq_decide.mpr (Rat.lt_iff x y).symm
  simp -implicitDefEqProofs only [den__law_under, sSeq_ap, sAsg_ap, sPar_ap, sRet_ap, sIf_ap, sExpr_ap, sNext_ap, bnd_ap, ret_ap, bindR_ok, thenR_ok, dVar_ap, varR_ok, seqR_nx, seqR_rt, asgR_ok, gNm_ap, gCn_ap, gcnR_ok, gNl_ap, gTp_fr, gTp_ap, gLs_ap, dCons_ap, dNil_ap, asB_ap, dOr_ap, dAnd_ap, dNot_ap, dAndV_ap, dOrV_ap, dNotV_ap, dIf_ap, oAdd_int, oSub_int, oLt_int, oLe_int, oGt_int, oGe_int, oNeg_int, oEq_int, oNe_int, oEq_fr, oNe_fr, oEq_bl, oNe_bl, oTup_ap, oLst_ap, oCall_ap, oAbs_ap, oMax_ap, oMin_ap, oToInt_b, oToInt_i, oLen_lst, oLen_scr, oLen_tup, oIx_lst, oIx_scr, oAdd_lst, oIx_tup, oIx_fr0, oIx_fr1, ixR_ok, oItL_ap, oItT_ap, sFor_ap, startD, List.map_cons, List.map_nil, List.length_cons, List.length_nil, List.replicate_succ, List.replicate_zero, List.cons_append, List.nil_append, List.append_nil, List.getElem?_cons_zero, List.getElem?_cons_succ, List.set_cons_zero, List.set_cons_succ, Nat.reduceAdd, Nat.reduceSub, Nat.sub_self, Nat.reduceLeDiff, List.all_cons, List.all_nil, np_fr, np_int, np_bl, np_tup, np_lst, np_str, np_non, Bool.and_self, Bool.and_true, if_true_, if_false_, zero_add', if_tt, if_ff, decide_true, decide_false, Nat.le_refl, oItS_lst, oItS_tup, oTupOf_lst, oTupOf_tup, oLstOf_lst, oLstOf_tup, oRv_lst, oRv_tup, oAdd_tup, dChain_ap, asTru_bl, asTru_tup, asTru_lst, oIsN_ap, oNotN_ap, asI_ap, oSl_tup, oSl_lst, oZip_tup, oZip_lst, oAddI_ap, oEqS_ap, oNeS_ap, oNe_nil, oMul_int k1, oMul_int k2, e]
end
/-! a full strength, a unit -/
structure FulI (f : Rat) : Prop where
  pos : 0 < f.num
  top : f.num ≤ 1000
  bot : (f.den : Int) ≤ 1000
theorem FulI.p {f : Rat} (h : FulI f) : 0 < f := by
  rw [← Rat.num_divInt_den f]
  exact divInt_pos h.pos (by have := f.den_pos; omega)
theorem FulI.bd {f : Rat} (h : FulI f) : Bd 10 f := by
  have a := h.pos; have b := h.top; have c := h.bot
  exact ⟨by omega, by omega⟩
theorem full_lit (v : Int) (h0 : 0 ≤ v) (h : v < 9) : ∀ d ∈ [D.tup [.int 1, .int 1], .tup [.int 1, .int 4], .tup [.int 9, .int 2], .tup [.int 7, .int 3], .tup [.int 1, .int 1000], .tup [.int 1000, .int 1], .tup [.int (1 + v), .int 1], .tup [.int 7, .int 11], .tup [.int 101, .int 89], .tup [.int 997, .int 991]], ∃ f, d = frQ f ∧ FulI f := by
  intro d hd
  have one : ∀ a b : Int, Int.gcd a b = 1 → 0 < a → a ≤ 1000 → 0 < b → b ≤ 1000 → ∃ f, D.tup [.int a, .int b] = frQ f ∧ FulI f := fun a b g a0 a1 b0 b1 => by
    refine ⟨Rat.divInt a b, low_of g b0, ?_⟩
    have e := low_of g b0
    unfold frQ at e
    injection e with e
    injection e with e1 e2
    injection e1 with e1
    injection e2 with e2
    injection e2 with e2
    exact ⟨by omega, by omega, by omega⟩
  simp -implicitDefEqProofs only [List.mem_cons, List.not_mem_nil, or_false] at hd
  rcases hd with h | h | h | h | h | h | h | h | h | h <;> subst h
  · exact one _ _ (by decide) (by decide) (by decide) (by decide) (by decide)
  · exact one _ _ (by decide) (by decide) (by decide) (by decide) (by decide)
  · exact one _ _ (by decide) (by decide) (by decide) (by decide) (by decide)
  · exact one _ _ (by decide) (by decide) (by decide) (by decide) (by decide)
  · exact one _ _ (by decide) (by decide) (by decide) (by decide) (by decide)
  · exact one _ _ (by decide) (by decide) (by decide) (by decide) (by decide)
  · exact one _ _ (by simp) (by omega) (by omega) (by decide) (by decide)
  · exact one _ _ (by decide) (by decide) (by decide) (by decide) (by decide)
  · exact one _ _ (by decide) (by decide) (by decide) (by decide) (by decide)
  · exact one _ _ (by decide) (by decide) (by decide) (by decide) (by decide)
theorem full_eq {c n : Nat} {M : Mem} (hr : HasReel c n M) (hc : c + 5 < 2 ^ 30) : ∃ f M', F__law_full [.ptr n] M = some (.ok (frQ f), M') ∧ FulI f ∧ Turned (c + 5) n M M' := by
  obtain ⟨v1, M1, e1, a1, b1, t1⟩ := take_eq (m := 9) hr (by omega) (by decide) (small_lt _ (by decide) (by decide))
  obtain ⟨v2, M2, e2, a2, b2, t2⟩ := take_eq (m := 10) t1.has (by omega) (by decide) (small_lt _ (by decide) (by decide))
  obtain ⟨d, ed, hd⟩ := atI_mem (l := [D.tup [.int 1, .int 1], .tup [.int 1, .int 4], .tup [.int 9, .int 2], .tup [.int 7, .int 3], .tup [.int 1, .int 1000], .tup [.int 1000, .int 1], .tup [.int (1 + v1), .int 1], .tup [.int 7, .int 11], .tup [.int 101, .int 89], .tup [.int 997, .int 991]]) a2 b2
  obtain ⟨f, rfl, hf⟩ := full_lit v1 a1 b1 d hd
  have tt := (t1.trans t2).mono (c' := c + 5) (by omega)
  refine ⟨f, M2, run_t ?_ tt rfl, hf, tt⟩
  simp -implicitDefEqProofs only [den__law_full, sSeq_ap, sAsg_ap, sPar_ap, sRet_ap, sIf_ap, sExpr_ap, sNext_ap, bnd_ap, ret_ap, bindR_ok, thenR_ok, dVar_ap, varR_ok, seqR_nx, seqR_rt, asgR_ok, gNm_ap, gCn_ap, gcnR_ok, gNl_ap, gTp_fr, gTp_ap, gLs_ap, dCons_ap, dNil_ap, asB_ap, dOr_ap, dAnd_ap, dNot_ap, dAndV_ap, dOrV_ap, dNotV_ap, dIf_ap, oAdd_int, oSub_int, oLt_int, oLe_int, oGt_int, oGe_int, oNeg_int, oEq_int, oNe_int, oEq_fr, oNe_fr, oEq_bl, oNe_bl, oTup_ap, oLst_ap, oCall_ap, oAbs_ap, oMax_ap, oMin_ap, oToInt_b, oToInt_i, oLen_lst, oLen_scr, oLen_tup, oIx_lst, oIx_scr, oAdd_lst, oIx_tup, oIx_fr0, oIx_fr1, ixR_ok, oItL_ap, oItT_ap, sFor_ap, startD, List.map_cons, List.map_nil, List.length_cons, List.length_nil, List.replicate_succ, List.replicate_zero, List.cons_append, List.nil_append, List.append_nil, List.getElem?_cons_zero, List.getElem?_cons_succ, List.set_cons_zero, List.set_cons_succ, Nat.reduceAdd, Nat.reduceSub, Nat.sub_self, Nat.reduceLeDiff, List.all_cons, List.all_nil, np_fr, np_int, np_bl, np_tup, np_lst, np_str, np_non, Bool.and_self, Bool.and_true, if_true_, if_false_, zero_add', if_tt, if_ff, decide_true, decide_false, Nat.le_refl, oItS_lst, oItS_tup, oTupOf_lst, oTupOf_tup, oLstOf_lst, oLstOf_tup, oRv_lst, oRv_tup, oAdd_tup, dChain_ap, asTru_bl, asTru_tup, asTru_lst, oIsN_ap, oNotN_ap, asI_ap, oSl_tup, oSl_lst, oZip_tup, oZip_lst, oAddI_ap, oEqS_ap, oNeS_ap, oNe_nil, e1, e2, ed]
theorem unit_eq {c n : Nat} {M : Mem} (hr : HasReel c n M) (hc : c + 5 < 2 ^ 30) : ∃ u M', F__law_unit [.ptr n] M = some (.ok (.int u), M') ∧ (1 ≤ u ∧ u ≤ 1000) ∧ Turned (c + 5) n M M' := by
  obtain ⟨v2, M2, e2, a2, b2, t2⟩ := take_eq (m := 10) hr (by omega) (by decide) (small_lt _ (by decide) (by decide))
  obtain ⟨k, ek, hk⟩ := atI_lit (l := [D.int 1, .int 2, .int 3, .int 4, .int 6, .int 12, .int 7, .int 101, .int 997, .int 1000]) (P := fun k => 1 ≤ k ∧ k ≤ 1000) a2 b2 (fun d hd => by
    simp -implicitDefEqProofs only [List.mem_cons, List.not_mem_nil, or_false] at hd
    rcases hd with h | h | h | h | h | h | h | h | h | h <;> subst h <;> exact ⟨_, rfl, by decide, by decide⟩)
  have tt := t2.mono (c' := c + 5) (by omega)
  refine ⟨k, M2, run_t ?_ tt rfl, hk, tt⟩
  simp -implicitDefEqProofs only [den__law_unit, sSeq_ap, sAsg_ap, sPar_ap, sRet_ap, sIf_ap, sExpr_ap, sNext_ap, bnd_ap, ret_ap, bindR_ok, thenR_ok, dVar_ap, varR_ok, seqR_nx, seqR_rt, asgR_ok, gNm_ap, gCn_ap, gcnR_ok, gNl_ap, gTp_fr, gTp_ap, gLs_ap, dCons_ap, dNil_ap, asB_ap, dOr_ap, dAnd_ap, dNot_ap, dAndV_ap, dOrV_ap, dNotV_ap, dIf_ap, oAdd_int, oSub_int, oLt_int, oLe_int, oGt_int, oGe_int, oNeg_int, oEq_int, oNe_int, oEq_fr, oNe_fr, oEq_bl, oNe_bl, oTup_ap, oLst_ap, oCall_ap, oAbs_ap, oMax_ap, oMin_ap, oToInt_b, oToInt_i, oLen_lst, oLen_scr, oLen_tup, oIx_lst, oIx_scr, oAdd_lst, oIx_tup, oIx_fr0, oIx_fr1, ixR_ok, oItL_ap, oItT_ap, sFor_ap, startD, List.map_cons, List.map_nil, List.length_cons, List.length_nil, List.replicate_succ, List.replicate_zero, List.cons_append, List.nil_append, List.append_nil, List.getElem?_cons_zero, List.getElem?_cons_succ, List.set_cons_zero, List.set_cons_succ, Nat.reduceAdd, Nat.reduceSub, Nat.sub_self, Nat.reduceLeDiff, List.all_cons, List.all_nil, np_fr, np_int, np_bl, np_tup, np_lst, np_str, np_non, Bool.and_self, Bool.and_true, if_true_, if_false_, zero_add', if_tt, if_ff, decide_true, decide_false, Nat.le_refl, oItS_lst, oItS_tup, oTupOf_lst, oTupOf_tup, oLstOf_lst, oLstOf_tup, oRv_lst, oRv_tup, oAdd_tup, dChain_ap, asTru_bl, asTru_tup, asTru_lst, oIsN_ap, oNotN_ap, asI_ap, oSl_tup, oSl_lst, oZip_tup, oZip_lst, oAddI_ap, oEqS_ap, oNeS_ap, oNe_nil, e2, ek]
/-! a drawn layer, in whole numbers -/
def iP (p : Int × Int) : D := .tup [.int p.1, .int p.2]
structure LyI (f : Rat) (p : Int × Int) : Prop where
  w : 0 ≤ p.1
  s : 0 ≤ p.2
  nz : p.1 = 0 → 0 < p.2
  le : 0 < p.1 → p.2 * (f.den : Int) ≤ f.num * p.1
abbrev Le2 (N : Int) (p : Int × Int) : Prop := p.1 ≤ N ∧ p.2 ≤ N
theorem gTp_iP (c : List D → Env → Option Env) (p : Int × Int) (ρ : Env) : gTp 2 c (iP p) ρ = c [.int p.1, .int p.2] ρ := rfl
theorem oIx_iP0 (p : Int × Int) (ρ : Env) (M : Mem) : oIx (iP p) (.int 0) ρ M = some (.ok (.int p.1), M) := rfl
theorem oIx_iP1 (p : Int × Int) (ρ : Env) (M : Mem) : oIx (iP p) (.int 1) ρ M = some (.ok (.int p.2), M) := rfl
theorem iP_lay (p : Int × Int) : (toPy (iP p)).canLay0 = true ∧ (toPy (iP p)).depth ≤ 60 := ⟨rfl, by simp [iP, toPy, toPys, PyData.depth, PyData.depthAll]⟩
theorem oNeM_iPs {n : Nat} {ps : List (Int × Int)} (ρ : Env) {M : Mem} (h : M[n]? = some (some (ps.map iP))) : oNeM (.ptr n) (.lst []) ρ M = some (.ok (.bl (!ps.isEmpty)), M) := by
  unfold oNeM frz
  dsimp only
  rw [h]
  dsimp only
  unfold oNe
  rw [if_pos ⟨plL_of (by
    intro d hd
    obtain ⟨p, _, rfl⟩ := List.mem_map.mp hd
    rfl), rfl, (shaped_row (by
    intro d hd
    obtain ⟨p, _, rfl⟩ := List.mem_map.mp hd
    exact iP_lay p)).1, rfl⟩]
  cases ps <;> rfl
theorem iPs_at {ps : List (Int × Int)} {v : Int} (h0 : 0 ≤ v) (h : v < ps.length) : ∃ p, p ∈ ps ∧ atI (ps.map iP) v = some (iP p) := by
  obtain ⟨d, e, m⟩ := atI_mem (l := ps.map iP) h0 (by simpa using h)
  obtain ⟨p, hp, rfl⟩ := List.mem_map.mp m
  exact ⟨p, hp, e⟩
/-! layers drawn, laid in whole numbers -/
theorem fdiv_mul_le {a b : Int} (hb : 0 < b) : a.fdiv b * b ≤ a := by
  have h1 := Int.mul_fdiv_add_fmod a b
  have h2 := fmod_pos (i := a) hb
  have : b * a.fdiv b = a.fdiv b * b := Int.mul_comm _ _
  omega
theorem layer_eq {c n m : Nat} {M : Mem} {f : Rat} {z : Int} {ps : List (Int × Int)} (hr : HasReel c n M) (hc : c + 10 < 2 ^ 30) (hf : FulI f) (hz : 0 < z ∧ z ≤ 12000) (hM : M[m]? = some (some (ps.map iP))) (hne : m ≠ n) (hl : ps.length ≤ 1000) (hp : ∀ p ∈ ps, LyI f p ∧ Le2 100000 p) :
    ∃ p M', F__law_layer [.ptr n, frQ f, .ptr m, .int z] M = some (.ok (iP p), M') ∧ (LyI f p ∧ Le2 100000 p) ∧ Turned (c + 10) n M M' := by
  have f0 := hf.pos
  have f1 := hf.top
  have f2 := hf.bot
  have d0 : (0 : Int) < (f.den : Int) := by have := f.den_pos; omega
  obtain ⟨v1, M1, e1, a1, b1, t1⟩ := take_eq (m := 7) hr (by omega) (by decide) (small_lt _ (by decide) (by decide))
  obtain ⟨v2, M2, e2, a2, b2, t2⟩ := take_eq (m := z) t1.has (by omega) hz.1 (small_lt _ (by omega) (by omega))
  have mf : (f.num * (1 + v2)).natAbs < 2 ^ 30 := by rw [Int.natAbs_mul]; exact mul_lt_pow (m := 10) (n := 20) (by omega) (by omega)
  have kf : MulOk f.num (1 + v2) := MulOk.of (a := 10) (b := 20) (by omega) (by omega)
  have fd : DivOk (f.den : Int) := DivOk.of (b := 10) (by omega) (by omega)
  have q0 : 0 ≤ (f.num * (1 + v2)).fdiv (f.den : Int) := Int.fdiv_nonneg (Int.mul_nonneg (by omega) (by omega)) (by omega)
  have qm := fdiv_mul_le (a := f.num * (1 + v2)) d0
  generalize hq : (f.num * (1 + v2)).fdiv (f.den : Int) = q at q0 qm
  generalize hmn : (if q < 20000 then q else 20000) = mn
  have mb : 0 ≤ mn ∧ mn ≤ 20000 ∧ mn ≤ q := by rw [← hmn]; split <;> omega
  obtain ⟨v3, M3, e3, a3, b3, t3⟩ := take_eq (m := 1 + mn) t2.has (by omega) (by omega) (small_lt _ (by omega) (by omega))
  have tt := (t1.trans (t2.trans t3)).mono (c' := c + 10) (by omega)
  have le0 : ∀ s : Int, 0 ≤ s → s ≤ v3 → s * (f.den : Int) ≤ f.num * (1 + v2) := fun s s0 s1 => by
    have : s * (f.den : Int) ≤ q * (f.den : Int) := Int.mul_le_mul_of_nonneg_right (by omega) (by omega)
    omega
  by_cases h0 : v1 = 0
  · subst h0
    refine ⟨(1 + v2, 0), M3, run_t ?_ tt rfl, ⟨⟨by show 0 ≤ 1 + v2; omega, by show (0 : Int) ≤ 0; omega, fun z => absurd z (by show ¬ (1 + v2 = 0); omega), fun _ => le0 0 (by omega) a3⟩, by show 1 + v2 ≤ 100000; omega, by show (0 : Int) ≤ 100000; omega⟩, tt⟩
    simp -implicitDefEqProofs only [den__law_layer, sSeq_ap, sAsg_ap, sPar_ap, sRet_ap, sIf_ap, sExpr_ap, sNext_ap, bnd_ap, ret_ap, bindR_ok, thenR_ok, dVar_ap, varR_ok, seqR_nx, seqR_rt, asgR_ok, gNm_ap, gCn_ap, gcnR_ok, gNl_ap, gTp_fr, gTp_ap, gLs_ap, dCons_ap, dNil_ap, asB_ap, dOr_ap, dAnd_ap, dNot_ap, dAndV_ap, dOrV_ap, dNotV_ap, dIf_ap, oAdd_int, oSub_int, oLt_int, oLe_int, oGt_int, oGe_int, oNeg_int, oEq_int, oNe_int, oEq_fr, oNe_fr, oEq_bl, oNe_bl, oTup_ap, oLst_ap, oCall_ap, oAbs_ap, oMax_ap, oMin_ap, oToInt_b, oToInt_i, oLen_lst, oLen_scr, oLen_tup, oIx_lst, oIx_scr, oAdd_lst, oIx_tup, oIx_fr0, oIx_fr1, ixR_ok, oItL_ap, oItT_ap, sFor_ap, startD, List.map_cons, List.map_nil, List.length_cons, List.length_nil, List.replicate_succ, List.replicate_zero, List.cons_append, List.nil_append, List.append_nil, List.getElem?_cons_zero, List.getElem?_cons_succ, List.set_cons_zero, List.set_cons_succ, Nat.reduceAdd, Nat.reduceSub, Nat.sub_self, Nat.reduceLeDiff, List.all_cons, List.all_nil, np_fr, np_int, np_bl, np_tup, np_lst, np_str, np_non, Bool.and_self, Bool.and_true, if_true_, if_false_, zero_add', if_tt, if_ff, decide_true, decide_false, Nat.le_refl, oItS_lst, oItS_tup, oTupOf_lst, oTupOf_tup, oLstOf_lst, oLstOf_tup, oRv_lst, oRv_tup, oAdd_tup, dChain_ap, asTru_bl, asTru_tup, asTru_lst, oIsN_ap, oNotN_ap, asI_ap, oSl_tup, oSl_lst, oZip_tup, oZip_lst, oAddI_ap, oEqS_ap, oNeS_ap, oNe_nil, e1, e2, oMul_int kf, oDiv_int fd, hq, hmn, e3, (by decide : ¬ ((0 : Int) = 1)), (by decide : ¬ ((0 : Int) = 2)), (by decide : ¬ ((0 : Int) = 3)), decide_true, decide_false, Bool.false_eq_true]
    rfl
  by_cases h1 : v1 = 1
  · subst h1
    have dv : DivOk f.num := DivOk.of (b := 10) (by omega) (by omega)
    have p5 : ∀ ρ M, oPow (.int 10) (.int 5) ρ M = some (.ok (.int 100000), M) := fun ρ M => rfl
    have g0 : 0 ≤ (100000 : Int).fdiv f.num := Int.fdiv_nonneg (by decide) (by omega)
    generalize hg : (100000 : Int).fdiv f.num = g at g0
    generalize hk : (if (if g > 1 then g else 1) < 50 then (if g > 1 then g else 1) else 50) = k
    have kb : 1 ≤ k ∧ k ≤ 50 := by rw [← hk]; split <;> split <;> omega
    have kz : k ≠ 0 := by omega
    have mb := fmod_pos (i := 1 + v2) (m := k) (by omega)
    generalize hw : (1 + v2).fmod k = w at mb
    have m1 : MulOk (f.den : Int) (1 + w) := MulOk.of (a := 10) (b := 10) (by omega) (by omega)
    have m2 : MulOk f.num (1 + w) := MulOk.of (a := 10) (b := 10) (by omega) (by omega)
    have w1 : (f.den : Int) * (1 + w) ≤ 1000 * 50 := Int.mul_le_mul f2 (by omega) (by omega) (by omega)
    have w2 : f.num * (1 + w) ≤ 1000 * 50 := Int.mul_le_mul f1 (by omega) (by omega) (by omega)
    have w3 : 0 < (f.den : Int) * (1 + w) := Int.mul_pos d0 (by omega)
    have w4 : 0 < f.num * (1 + w) := Int.mul_pos f0 (by omega)
    refine ⟨((f.den : Int) * (1 + w), f.num * (1 + w)), M3, run_t ?_ tt rfl, ⟨⟨by show 0 ≤ (f.den : Int) * (1 + w); omega, by show 0 ≤ f.num * (1 + w); omega, fun z => absurd z (by show ¬ ((f.den : Int) * (1 + w) = 0); omega), fun _ => by show f.num * (1 + w) * (f.den : Int) ≤ f.num * ((f.den : Int) * (1 + w)); rw [Int.mul_assoc, Int.mul_comm (1 + w)]; exact Int.le_refl _⟩, by show (f.den : Int) * (1 + w) ≤ 100000; omega, by show f.num * (1 + w) ≤ 100000; omega⟩, tt⟩
    simp -implicitDefEqProofs only [den__law_layer, sSeq_ap, sAsg_ap, sPar_ap, sRet_ap, sIf_ap, sExpr_ap, sNext_ap, bnd_ap, ret_ap, bindR_ok, thenR_ok, dVar_ap, varR_ok, seqR_nx, seqR_rt, asgR_ok, gNm_ap, gCn_ap, gcnR_ok, gNl_ap, gTp_fr, gTp_ap, gLs_ap, dCons_ap, dNil_ap, asB_ap, dOr_ap, dAnd_ap, dNot_ap, dAndV_ap, dOrV_ap, dNotV_ap, dIf_ap, oAdd_int, oSub_int, oLt_int, oLe_int, oGt_int, oGe_int, oNeg_int, oEq_int, oNe_int, oEq_fr, oNe_fr, oEq_bl, oNe_bl, oTup_ap, oLst_ap, oCall_ap, oAbs_ap, oMax_ap, oMin_ap, oToInt_b, oToInt_i, oLen_lst, oLen_scr, oLen_tup, oIx_lst, oIx_scr, oAdd_lst, oIx_tup, oIx_fr0, oIx_fr1, ixR_ok, oItL_ap, oItT_ap, sFor_ap, startD, List.map_cons, List.map_nil, List.length_cons, List.length_nil, List.replicate_succ, List.replicate_zero, List.cons_append, List.nil_append, List.append_nil, List.getElem?_cons_zero, List.getElem?_cons_succ, List.set_cons_zero, List.set_cons_succ, Nat.reduceAdd, Nat.reduceSub, Nat.sub_self, Nat.reduceLeDiff, List.all_cons, List.all_nil, np_fr, np_int, np_bl, np_tup, np_lst, np_str, np_non, Bool.and_self, Bool.and_true, if_true_, if_false_, zero_add', if_tt, if_ff, decide_true, decide_false, Nat.le_refl, oItS_lst, oItS_tup, oTupOf_lst, oTupOf_tup, oLstOf_lst, oLstOf_tup, oRv_lst, oRv_tup, oAdd_tup, dChain_ap, asTru_bl, asTru_tup, asTru_lst, oIsN_ap, oNotN_ap, asI_ap, oSl_tup, oSl_lst, oZip_tup, oZip_lst, oAddI_ap, oEqS_ap, oNeS_ap, oNe_nil, e1, e2, oMul_int kf, oDiv_int fd, hq, hmn, e3, (by decide : ¬ ((1 : Int) = 0)), (by decide : ¬ ((1 : Int) = 2)), (by decide : ¬ ((1 : Int) = 3)), decide_true, decide_false, Bool.false_eq_true, p5, oDiv_int dv, hg, hk, oMod_int kz, hw, oMul_int m1, oMul_int m2]
    rfl
  by_cases h2 : v1 = 2
  · subst h2
    have hM3 : M3[m]? = some (some (ps.map iP)) := by rw [tt.oth m hne]; exact hM
    cases hps : ps with
    | nil =>
      refine ⟨(1 + v2, v3), M3, run_t ?_ tt rfl, ⟨⟨by show 0 ≤ 1 + v2; omega, a3, fun z => absurd z (by show ¬ (1 + v2 = 0); omega), fun _ => le0 v3 a3 (Int.le_refl _)⟩, by show 1 + v2 ≤ 100000; omega, by show v3 ≤ 100000; omega⟩, tt⟩
      have ne := fun ρ => oNeM_iPs (n := m) ρ hM3
      rw [hps] at ne
      simp -implicitDefEqProofs only [List.isEmpty_nil, Bool.not_true] at ne
      simp -implicitDefEqProofs only [den__law_layer, sSeq_ap, sAsg_ap, sPar_ap, sRet_ap, sIf_ap, sExpr_ap, sNext_ap, bnd_ap, ret_ap, bindR_ok, thenR_ok, dVar_ap, varR_ok, seqR_nx, seqR_rt, asgR_ok, gNm_ap, gCn_ap, gcnR_ok, gNl_ap, gTp_fr, gTp_ap, gLs_ap, dCons_ap, dNil_ap, asB_ap, dOr_ap, dAnd_ap, dNot_ap, dAndV_ap, dOrV_ap, dNotV_ap, dIf_ap, oAdd_int, oSub_int, oLt_int, oLe_int, oGt_int, oGe_int, oNeg_int, oEq_int, oNe_int, oEq_fr, oNe_fr, oEq_bl, oNe_bl, oTup_ap, oLst_ap, oCall_ap, oAbs_ap, oMax_ap, oMin_ap, oToInt_b, oToInt_i, oLen_lst, oLen_scr, oLen_tup, oIx_lst, oIx_scr, oAdd_lst, oIx_tup, oIx_fr0, oIx_fr1, ixR_ok, oItL_ap, oItT_ap, sFor_ap, startD, List.map_cons, List.map_nil, List.length_cons, List.length_nil, List.replicate_succ, List.replicate_zero, List.cons_append, List.nil_append, List.append_nil, List.getElem?_cons_zero, List.getElem?_cons_succ, List.set_cons_zero, List.set_cons_succ, Nat.reduceAdd, Nat.reduceSub, Nat.sub_self, Nat.reduceLeDiff, List.all_cons, List.all_nil, np_fr, np_int, np_bl, np_tup, np_lst, np_str, np_non, Bool.and_self, Bool.and_true, if_true_, if_false_, zero_add', if_tt, if_ff, decide_true, decide_false, Nat.le_refl, oItS_lst, oItS_tup, oTupOf_lst, oTupOf_tup, oLstOf_lst, oLstOf_tup, oRv_lst, oRv_tup, oAdd_tup, dChain_ap, asTru_bl, asTru_tup, asTru_lst, oIsN_ap, oNotN_ap, asI_ap, oSl_tup, oSl_lst, oZip_tup, oZip_lst, oAddI_ap, oEqS_ap, oNeS_ap, oNe_nil, e1, e2, oMul_int kf, oDiv_int fd, hq, hmn, e3, (by decide : ¬ ((2 : Int) = 0)), (by decide : ¬ ((2 : Int) = 1)), (by decide : ¬ ((2 : Int) = 3)), decide_true, decide_false, Bool.false_eq_true, ne]
      rfl
    | cons p0 ps' =>
      have ne := fun ρ => oNeM_iPs (n := m) ρ hM3
      have lp : (0 : Int) < (ps.map iP).length := by rw [hps, List.map_cons, List.length_cons]; omega
      have lq : ((ps.map iP).length : Int) ≤ 1000 := by rw [List.length_map]; omega
      have ie : ps.isEmpty = false := by rw [hps]; rfl
      rw [ie] at ne
      obtain ⟨v4, M4, e4, a4, b4, t4⟩ := take_eq (m := ((ps.map iP).length : Int)) t3.has (by omega) lp (small_lt _ (by omega) (by omega))
      obtain ⟨p, hpm, ep⟩ := iPs_at a4 (by simpa using b4)
      obtain ⟨v5, M5, e5, a5, b5, t5⟩ := take_eq (m := 3) t4.has (by omega) (by decide) (small_lt _ (by decide) (by decide))
      have t5' := (t1.trans (t2.trans (t3.trans (t4.trans t5)))).mono (c' := c + 10) (by omega)
      have hM4 : M4[m]? = some (some (ps.map iP)) := by rw [t4.oth m hne]; exact hM3
      have ol : ∀ ρ, oLen [.ptr m] ρ M3 = some (.ok (.int ((ps.map iP).length : Int)), M3) := fun ρ => by unfold oLen seqOf; dsimp only; rw [hM3]
      have hpg := hp p hpm
      obtain ⟨pw, pn, pz, pl⟩ := hpg.1
      have q1 := hpg.2.1
      have q2 := hpg.2.2
      have m1 : MulOk p.1 (1 + v5) := MulOk.of (a := 20) (b := 10) (by omega) (by omega)
      have m2 : MulOk p.2 (1 + v5) := MulOk.of (a := 20) (b := 10) (by omega) (by omega)
      by_cases hx : (if p.2 > p.1 then p.2 else p.1) ≤ 20000
      · have x1 : p.1 ≤ 20000 := by split at hx <;> omega
        have x2 : p.2 ≤ 20000 := by split at hx <;> omega
        have w1 : p.1 * (1 + v5) ≤ 20000 * 3 := Int.mul_le_mul x1 (by omega) (by omega) (by omega)
        have w2 : p.2 * (1 + v5) ≤ 20000 * 3 := Int.mul_le_mul x2 (by omega) (by omega) (by omega)
        refine ⟨(p.1 * (1 + v5), p.2 * (1 + v5)), M5, run_t ?_ t5' rfl, ⟨⟨Int.mul_nonneg pw (by omega), Int.mul_nonneg pn (by omega), fun z => ?_, fun z => ?_⟩, by show p.1 * (1 + v5) ≤ 100000; omega, by show p.2 * (1 + v5) ≤ 100000; omega⟩, t5'⟩
        · simp -implicitDefEqProofs only [den__law_layer, sSeq_ap, sAsg_ap, sPar_ap, sRet_ap, sIf_ap, sExpr_ap, sNext_ap, bnd_ap, ret_ap, bindR_ok, thenR_ok, dVar_ap, varR_ok, seqR_nx, seqR_rt, asgR_ok, gNm_ap, gCn_ap, gcnR_ok, gNl_ap, gTp_fr, gTp_ap, gLs_ap, dCons_ap, dNil_ap, asB_ap, dOr_ap, dAnd_ap, dNot_ap, dAndV_ap, dOrV_ap, dNotV_ap, dIf_ap, oAdd_int, oSub_int, oLt_int, oLe_int, oGt_int, oGe_int, oNeg_int, oEq_int, oNe_int, oEq_fr, oNe_fr, oEq_bl, oNe_bl, oTup_ap, oLst_ap, oCall_ap, oAbs_ap, oMax_ap, oMin_ap, oToInt_b, oToInt_i, oLen_lst, oLen_scr, oLen_tup, oIx_lst, oIx_scr, oAdd_lst, oIx_tup, oIx_fr0, oIx_fr1, ixR_ok, oItL_ap, oItT_ap, sFor_ap, startD, List.map_cons, List.map_nil, List.length_cons, List.length_nil, List.replicate_succ, List.replicate_zero, List.cons_append, List.nil_append, List.append_nil, List.getElem?_cons_zero, List.getElem?_cons_succ, List.set_cons_zero, List.set_cons_succ, Nat.reduceAdd, Nat.reduceSub, Nat.sub_self, Nat.reduceLeDiff, List.all_cons, List.all_nil, np_fr, np_int, np_bl, np_tup, np_lst, np_str, np_non, Bool.and_self, Bool.and_true, if_true_, if_false_, zero_add', if_tt, if_ff, decide_true, decide_false, Nat.le_refl, oItS_lst, oItS_tup, oTupOf_lst, oTupOf_tup, oLstOf_lst, oLstOf_tup, oRv_lst, oRv_tup, oAdd_tup, dChain_ap, asTru_bl, asTru_tup, asTru_lst, oIsN_ap, oNotN_ap, asI_ap, oSl_tup, oSl_lst, oZip_tup, oZip_lst, oAddI_ap, oEqS_ap, oNeS_ap, oNe_nil, e1, e2, oMul_int kf, oDiv_int fd, hq, hmn, e3, (by decide : ¬ ((2 : Int) = 0)), (by decide : ¬ ((2 : Int) = 1)), (by decide : ¬ ((2 : Int) = 3)), decide_true, decide_false, Bool.false_eq_true, ne, Bool.not_false, ol, e4, oIx_ptr _ _ hM4, ep, gTp_iP, e5, hx, oMul_int m1, oMul_int m2]
          rfl
        · have z' : p.1 * (1 + v5) = 0 := z
          rcases Int.mul_eq_zero.mp z' with z | z
          · exact Int.mul_pos (pz z) (by omega)
          · omega
        · show p.2 * (1 + v5) * (f.den : Int) ≤ f.num * (p.1 * (1 + v5))
          have z' : 0 < p.1 * (1 + v5) := z
          have pp : 0 < p.1 := by
            rcases Int.lt_or_eq_of_le pw with h | h
            · exact h
            · rw [← h] at z'; simp at z'
          rw [← Int.mul_assoc, Int.mul_right_comm]
          exact Int.mul_le_mul_of_nonneg_right (pl pp) (by omega)
      · refine ⟨(p.1, p.2), M5, run_t ?_ t5' rfl, ⟨⟨pw, pn, pz, pl⟩, q1, q2⟩, t5'⟩
        simp -implicitDefEqProofs only [den__law_layer, sSeq_ap, sAsg_ap, sPar_ap, sRet_ap, sIf_ap, sExpr_ap, sNext_ap, bnd_ap, ret_ap, bindR_ok, thenR_ok, dVar_ap, varR_ok, seqR_nx, seqR_rt, asgR_ok, gNm_ap, gCn_ap, gcnR_ok, gNl_ap, gTp_fr, gTp_ap, gLs_ap, dCons_ap, dNil_ap, asB_ap, dOr_ap, dAnd_ap, dNot_ap, dAndV_ap, dOrV_ap, dNotV_ap, dIf_ap, oAdd_int, oSub_int, oLt_int, oLe_int, oGt_int, oGe_int, oNeg_int, oEq_int, oNe_int, oEq_fr, oNe_fr, oEq_bl, oNe_bl, oTup_ap, oLst_ap, oCall_ap, oAbs_ap, oMax_ap, oMin_ap, oToInt_b, oToInt_i, oLen_lst, oLen_scr, oLen_tup, oIx_lst, oIx_scr, oAdd_lst, oIx_tup, oIx_fr0, oIx_fr1, ixR_ok, oItL_ap, oItT_ap, sFor_ap, startD, List.map_cons, List.map_nil, List.length_cons, List.length_nil, List.replicate_succ, List.replicate_zero, List.cons_append, List.nil_append, List.append_nil, List.getElem?_cons_zero, List.getElem?_cons_succ, List.set_cons_zero, List.set_cons_succ, Nat.reduceAdd, Nat.reduceSub, Nat.sub_self, Nat.reduceLeDiff, List.all_cons, List.all_nil, np_fr, np_int, np_bl, np_tup, np_lst, np_str, np_non, Bool.and_self, Bool.and_true, if_true_, if_false_, zero_add', if_tt, if_ff, decide_true, decide_false, Nat.le_refl, oItS_lst, oItS_tup, oTupOf_lst, oTupOf_tup, oLstOf_lst, oLstOf_tup, oRv_lst, oRv_tup, oAdd_tup, dChain_ap, asTru_bl, asTru_tup, asTru_lst, oIsN_ap, oNotN_ap, asI_ap, oSl_tup, oSl_lst, oZip_tup, oZip_lst, oAddI_ap, oEqS_ap, oNeS_ap, oNe_nil, e1, e2, oMul_int kf, oDiv_int fd, hq, hmn, e3, (by decide : ¬ ((2 : Int) = 0)), (by decide : ¬ ((2 : Int) = 1)), (by decide : ¬ ((2 : Int) = 3)), decide_true, decide_false, Bool.false_eq_true, ne, Bool.not_false, ol, e4, oIx_ptr _ _ hM4, ep, gTp_iP, e5, hx]
        rfl
  by_cases h3 : v1 = 3
  · subst h3
    refine ⟨(0, 1 + v2), M3, run_t ?_ tt rfl, ⟨⟨by show (0 : Int) ≤ 0; omega, by show 0 ≤ 1 + v2; omega, fun _ => by show 0 < 1 + v2; omega, fun z => absurd z (by show ¬ ((0 : Int) < 0); omega)⟩, by show (0 : Int) ≤ 100000; omega, by show 1 + v2 ≤ 100000; omega⟩, tt⟩
    simp -implicitDefEqProofs only [den__law_layer, sSeq_ap, sAsg_ap, sPar_ap, sRet_ap, sIf_ap, sExpr_ap, sNext_ap, bnd_ap, ret_ap, bindR_ok, thenR_ok, dVar_ap, varR_ok, seqR_nx, seqR_rt, asgR_ok, gNm_ap, gCn_ap, gcnR_ok, gNl_ap, gTp_fr, gTp_ap, gLs_ap, dCons_ap, dNil_ap, asB_ap, dOr_ap, dAnd_ap, dNot_ap, dAndV_ap, dOrV_ap, dNotV_ap, dIf_ap, oAdd_int, oSub_int, oLt_int, oLe_int, oGt_int, oGe_int, oNeg_int, oEq_int, oNe_int, oEq_fr, oNe_fr, oEq_bl, oNe_bl, oTup_ap, oLst_ap, oCall_ap, oAbs_ap, oMax_ap, oMin_ap, oToInt_b, oToInt_i, oLen_lst, oLen_scr, oLen_tup, oIx_lst, oIx_scr, oAdd_lst, oIx_tup, oIx_fr0, oIx_fr1, ixR_ok, oItL_ap, oItT_ap, sFor_ap, startD, List.map_cons, List.map_nil, List.length_cons, List.length_nil, List.replicate_succ, List.replicate_zero, List.cons_append, List.nil_append, List.append_nil, List.getElem?_cons_zero, List.getElem?_cons_succ, List.set_cons_zero, List.set_cons_succ, Nat.reduceAdd, Nat.reduceSub, Nat.sub_self, Nat.reduceLeDiff, List.all_cons, List.all_nil, np_fr, np_int, np_bl, np_tup, np_lst, np_str, np_non, Bool.and_self, Bool.and_true, if_true_, if_false_, zero_add', if_tt, if_ff, decide_true, decide_false, Nat.le_refl, oItS_lst, oItS_tup, oTupOf_lst, oTupOf_tup, oLstOf_lst, oLstOf_tup, oRv_lst, oRv_tup, oAdd_tup, dChain_ap, asTru_bl, asTru_tup, asTru_lst, oIsN_ap, oNotN_ap, asI_ap, oSl_tup, oSl_lst, oZip_tup, oZip_lst, oAddI_ap, oEqS_ap, oNeS_ap, oNe_nil, e1, e2, oMul_int kf, oDiv_int fd, hq, hmn, e3, (by decide : ¬ ((3 : Int) = 0)), (by decide : ¬ ((3 : Int) = 1)), (by decide : ¬ ((3 : Int) = 2)), decide_true, decide_false, Bool.false_eq_true]
    rfl
  · refine ⟨(1 + v2, v3), M3, run_t ?_ tt rfl, ⟨⟨by show 0 ≤ 1 + v2; omega, a3, fun z => absurd z (by show ¬ (1 + v2 = 0); omega), fun _ => le0 v3 a3 (Int.le_refl _)⟩, by show 1 + v2 ≤ 100000; omega, by show v3 ≤ 100000; omega⟩, tt⟩
    simp -implicitDefEqProofs only [den__law_layer, sSeq_ap, sAsg_ap, sPar_ap, sRet_ap, sIf_ap, sExpr_ap, sNext_ap, bnd_ap, ret_ap, bindR_ok, thenR_ok, dVar_ap, varR_ok, seqR_nx, seqR_rt, asgR_ok, gNm_ap, gCn_ap, gcnR_ok, gNl_ap, gTp_fr, gTp_ap, gLs_ap, dCons_ap, dNil_ap, asB_ap, dOr_ap, dAnd_ap, dNot_ap, dAndV_ap, dOrV_ap, dNotV_ap, dIf_ap, oAdd_int, oSub_int, oLt_int, oLe_int, oGt_int, oGe_int, oNeg_int, oEq_int, oNe_int, oEq_fr, oNe_fr, oEq_bl, oNe_bl, oTup_ap, oLst_ap, oCall_ap, oAbs_ap, oMax_ap, oMin_ap, oToInt_b, oToInt_i, oLen_lst, oLen_scr, oLen_tup, oIx_lst, oIx_scr, oAdd_lst, oIx_tup, oIx_fr0, oIx_fr1, ixR_ok, oItL_ap, oItT_ap, sFor_ap, startD, List.map_cons, List.map_nil, List.length_cons, List.length_nil, List.replicate_succ, List.replicate_zero, List.cons_append, List.nil_append, List.append_nil, List.getElem?_cons_zero, List.getElem?_cons_succ, List.set_cons_zero, List.set_cons_succ, Nat.reduceAdd, Nat.reduceSub, Nat.sub_self, Nat.reduceLeDiff, List.all_cons, List.all_nil, np_fr, np_int, np_bl, np_tup, np_lst, np_str, np_non, Bool.and_self, Bool.and_true, if_true_, if_false_, zero_add', if_tt, if_ff, decide_true, decide_false, Nat.le_refl, oItS_lst, oItS_tup, oTupOf_lst, oTupOf_tup, oLstOf_lst, oLstOf_tup, oRv_lst, oRv_tup, oAdd_tup, dChain_ap, asTru_bl, asTru_tup, asTru_lst, oIsN_ap, oNotN_ap, asI_ap, oSl_tup, oSl_lst, oZip_tup, oZip_lst, oAddI_ap, oEqS_ap, oNeS_ap, oNe_nil, e1, e2, oMul_int kf, oDiv_int fd, hq, hmn, e3, h0, h1, h2, h3, decide_true, decide_false, Bool.false_eq_true]
    rfl
/-! layers laid, in whole numbers -/
abbrev BelI (a b : Int × Int) : Prop := b.2 * a.1 < a.2 * b.1
theorem posL {x y : Int} (h : 0 < x * y) (hy : 0 ≤ y) : 0 < x := by
  rcases Int.lt_or_le 0 x with q | q
  · exact q
  · have := Int.mul_le_mul_of_nonneg_right q hy
    simp at this; omega
theorem posR {x y : Int} (h : 0 < x * y) (hx : 0 ≤ x) : 0 < y := posL (by rw [Int.mul_comm]; exact h) hx
theorem cr1 (a b c : Int × Int) : (a.2 * c.1 - c.2 * a.1) * b.1 = (a.2 * b.1 - b.2 * a.1) * c.1 + (b.2 * c.1 - c.2 * b.1) * a.1 := by grind
theorem cr2 (a b c : Int × Int) : (a.2 * c.1 - c.2 * a.1) * b.2 = (a.2 * b.1 - b.2 * a.1) * c.2 + (b.2 * c.1 - c.2 * b.1) * a.2 := by grind
structure Nn (p : Int × Int) : Prop where
  w : 0 ≤ p.1
  s : 0 ≤ p.2
  nz : p.1 = 0 → 0 < p.2
theorem LyI.nn {f : Rat} {p : Int × Int} (h : LyI f p) : Nn p := ⟨h.w, h.s, h.nz⟩
theorem bel_tr {a b c : Int × Int} (ha : Nn a) (hb : Nn b) (hc : Nn c) (h1 : BelI a b) (h2 : BelI b c) : BelI a c := by
  have b1 : 0 < b.1 := posR (x := a.2) (by have := Int.mul_nonneg hb.s ha.w; omega) ha.s
  have c1 : 0 < c.1 := posR (x := b.2) (by have := Int.mul_nonneg hc.s hb.w; omega) hb.s
  have e := cr1 a b c
  have p1 : 0 < (a.2 * b.1 - b.2 * a.1) * c.1 := Int.mul_pos (by omega) c1
  have p2 : 0 ≤ (b.2 * c.1 - c.2 * b.1) * a.1 := Int.mul_nonneg (by omega) ha.w
  have := posL (x := a.2 * c.1 - c.2 * a.1) (y := b.1) (by rw [e]; omega) (by omega)
  show c.2 * a.1 < a.2 * c.1
  omega
theorem bel_eq {a b c : Int × Int} (ha : Nn a) (hb : Nn b) (h1 : a.2 * b.1 = b.2 * a.1) (h2 : BelI b c) : BelI a c := by
  have z : a.2 * b.1 - b.2 * a.1 = 0 := by omega
  show c.2 * a.1 < a.2 * c.1
  rcases Int.lt_or_eq_of_le ha.w with w | w
  · have e := cr1 a b c
    rw [z, Int.zero_mul, Int.zero_add] at e
    have := posL (x := a.2 * c.1 - c.2 * a.1) (y := b.1) (by rw [e]; exact Int.mul_pos (by omega) w) hb.w
    omega
  · have e := cr2 a b c
    rw [z, Int.zero_mul, Int.zero_add] at e
    have := posL (x := a.2 * c.1 - c.2 * a.1) (y := b.2) (by rw [e]; exact Int.mul_pos (by omega) (ha.nz w.symm)) hb.s
    omega
def insI : List (Int × Int) → Int × Int → List (Int × Int)
  | [], p => [p]
  | q :: P, p => if p.2 * q.1 < q.2 * p.1 then q :: insI P p else if q.2 * p.1 = p.2 * q.1 then (q.1 + p.1, q.2 + p.2) :: P else p :: q :: P
theorem add_ly {f : Rat} {p q : Int × Int} (hq : LyI f q) (hp : LyI f p) (e : q.2 * p.1 = p.2 * q.1) : LyI f (q.1 + p.1, q.2 + p.2) := by
  obtain ⟨q1, q2, q3, q4⟩ := hq
  obtain ⟨p1, p2, p3, p4⟩ := hp
  refine ⟨by show 0 ≤ q.1 + p.1; omega, by show 0 ≤ q.2 + p.2; omega, fun z => ?_, fun z => ?_⟩
  · have z' : q.1 + p.1 = 0 := z
    have := q3 (by omega)
    show 0 < q.2 + p.2; omega
  · have z' : 0 < q.1 + p.1 := z
    show (q.2 + p.2) * (f.den : Int) ≤ f.num * (q.1 + p.1)
    rw [Int.add_mul, Int.mul_add]
    have a : 0 < q.1 := by
      rcases Int.lt_or_eq_of_le q1 with h | h
      · exact h
      · have := q3 h.symm
        have : q.2 * p.1 = 0 := by rw [e, ← h, Int.mul_zero]
        rcases Int.mul_eq_zero.mp this with u | u <;> omega
    have b : 0 < p.1 := by
      rcases Int.lt_or_eq_of_le p1 with h | h
      · exact h
      · have := p3 h.symm
        have : p.2 * q.1 = 0 := by rw [← e, ← h, Int.mul_zero]
        rcases Int.mul_eq_zero.mp this with u | u <;> omega
    have := q4 a; have := p4 b; omega
theorem ins_all {f : Rat} : ∀ (P : List (Int × Int)) (p : Int × Int), (∀ q ∈ P, LyI f q) → LyI f p → ∀ x ∈ insI P p, LyI f x
  | [], p, h, hp, x, hx => by simp [insI] at hx; subst hx; exact hp
  | q :: P, p, h, hp, x, hx => by
    unfold insI at hx
    split at hx
    · rcases List.mem_cons.mp hx with z | z
      · subst z; exact h x (by simp)
      · exact ins_all P p (fun y hy => h y (by simp [hy])) hp x z
    · split at hx
      · rename_i e
        rcases List.mem_cons.mp hx with z | z
        · subst z; exact add_ly (h q (by simp)) hp e
        · exact h x (by simp [z])
      · rcases List.mem_cons.mp hx with z | z
        · subst z; exact hp
        · exact h x z
theorem ins_bel {a : Int × Int} : ∀ (P : List (Int × Int)) (p : Int × Int), (∀ q ∈ P, BelI a q) → BelI a p → ∀ x ∈ insI P p, BelI a x
  | [], p, h, hp, x, hx => by simp [insI] at hx; subst hx; exact hp
  | q :: P, p, h, hp, x, hx => by
    unfold insI at hx
    split at hx
    · rcases List.mem_cons.mp hx with z | z
      · subst z; exact h x (by simp)
      · exact ins_bel P p (fun y hy => h y (by simp [hy])) hp x z
    · split at hx
      · rcases List.mem_cons.mp hx with z | z
        · subst z
          have := h q (by simp)
          show (q.2 + p.2) * a.1 < a.2 * (q.1 + p.1)
          rw [Int.add_mul, Int.mul_add]; omega
        · exact h x (by simp [z])
      · rcases List.mem_cons.mp hx with z | z
        · subst z; exact hp
        · exact h x z
theorem ins_desc {f : Rat} : ∀ (P : List (Int × Int)) (p : Int × Int), (∀ q ∈ P, LyI f q) → LyI f p → P.Pairwise BelI → (insI P p).Pairwise BelI
  | [], p, _, _, _ => by simp [insI]
  | q :: P, p, h, hp, hd => by
    have hd' := List.pairwise_cons.mp hd
    unfold insI
    split
    · rename_i c
      exact List.pairwise_cons.mpr ⟨ins_bel P p hd'.1 c, ins_desc P p (fun y hy => h y (by simp [hy])) hp hd'.2⟩
    · rename_i c
      split
      · rename_i e
        refine List.pairwise_cons.mpr ⟨fun x hx => ?_, hd'.2⟩
        have b1 := hd'.1 x hx
        have b2 : BelI p x := bel_eq hp.nn (h q (by simp)).nn (by omega) b1
        show x.2 * (q.1 + p.1) < (q.2 + p.2) * x.1
        rw [Int.add_mul, Int.mul_add]; omega
      · rename_i e
        have b : BelI p q := by show q.2 * p.1 < p.2 * q.1; omega
        refine List.pairwise_cons.mpr ⟨fun x hx => ?_, hd⟩
        rcases List.mem_cons.mp hx with z | z
        · subst z; exact b
        · exact bel_tr hp.nn (h q (by simp)).nn (h x (by simp [z])).nn b (hd'.1 x z)
def sW (P : List (Int × Int)) : Int := (P.map (·.1)).sum
def sS (P : List (Int × Int)) : Int := (P.map (·.2)).sum
theorem sW_cons (p : Int × Int) (P : List (Int × Int)) : sW (p :: P) = p.1 + sW P := by simp [sW]
theorem sS_cons (p : Int × Int) (P : List (Int × Int)) : sS (p :: P) = p.2 + sS P := by simp [sS]
theorem ins_sum : ∀ (P : List (Int × Int)) (p : Int × Int), sW (insI P p) = sW P + p.1 ∧ sS (insI P p) = sS P + p.2 ∧ (insI P p).length ≤ P.length + 1
  | [], p => by simp [insI, sW, sS]
  | q :: P, p => by
    have ih := ins_sum P p
    unfold insI
    split
    · simp -implicitDefEqProofs only [sW_cons, sS_cons, List.length_cons]; omega
    · split <;> simp -implicitDefEqProofs only [sW_cons, sS_cons, List.length_cons] <;> omega
theorem le_sW : ∀ {P : List (Int × Int)}, (∀ q ∈ P, Nn q) → ∀ q ∈ P, q.1 ≤ sW P ∧ q.2 ≤ sS P
  | [], _, q, hq => by simp at hq
  | p :: P, h, q, hq => by
    have hp := h p (by simp)
    have nn : 0 ≤ sW P ∧ 0 ≤ sS P := by
      clear hq
      induction P with
      | nil => simp [sW, sS]
      | cons r P ih =>
        have := ih (fun y hy => h y (by rcases List.mem_cons.mp hy with z | z <;> simp [z]))
        have hr := h r (by simp)
        have := hr.w; have := hr.s
        rw [sW_cons, sS_cons]; omega
    rw [sW_cons, sS_cons]
    have := hp.w; have := hp.s
    rcases List.mem_cons.mp hq with z | z
    · subst z; omega
    · have := le_sW (fun y hy => h y (by simp [hy])) q z; omega
/-- a row laid: so much in all -/
structure Laid (f : Rat) (n : Nat) (T : Int) (P : List (Int × Int)) : Prop where
  ly : ∀ p ∈ P, LyI f p
  ds : P.Pairwise BelI
  w : sW P ≤ T
  s : sS P ≤ T
  ln : P.length ≤ n
theorem Laid.le {f : Rat} {n : Nat} {T : Int} {P : List (Int × Int)} (h : Laid f n T P) {p : Int × Int} (hp : p ∈ P) : p.1 ≤ T ∧ p.2 ≤ T := by
  have := le_sW (fun q hq => (h.ly q hq).nn) p hp
  have := h.w; have := h.s; omega
theorem Laid.nil (f : Rat) : Laid f 0 0 [] := ⟨by simp, .nil, by simp [sW], by simp [sS], by simp⟩
theorem Laid.ins {f : Rat} {n : Nat} {T N : Int} {P : List (Int × Int)} {p : Int × Int} (h : Laid f n T P) (hp : LyI f p) (hN : Le2 N p) : Laid f (n + 1) (T + N) (insI P p) := by
  have a := ins_sum P p
  have := h.w; have := h.s; have := h.ln
  exact ⟨ins_all P p h.ly hp, ins_desc P p h.ly hp h.ds, by have := hN.1; omega, by have := hN.2; omega, by omega⟩
theorem Laid.mono {f : Rat} {n n' : Nat} {T T' : Int} {P : List (Int × Int)} (h : Laid f n T P) (a : n ≤ n') (b : T ≤ T') : Laid f n' T' P := ⟨h.ly, h.ds, Int.le_trans h.w b, Int.le_trans h.s b, Nat.le_trans h.ln a⟩
theorem laid_fold {f : Rat} {N : Int} : ∀ (ps P : List (Int × Int)) (n : Nat) (T : Int), Laid f n T P → (∀ p ∈ ps, LyI f p ∧ Le2 N p) → Laid f (n + ps.length) (T + N * ps.length) (ps.foldl insI P)
  | [], P, n, T, h, _ => by simpa using h
  | p :: ps, P, n, T, h, hp => by
    have h1 := hp p (by simp)
    have := laid_fold ps (insI P p) (n + 1) (T + N) (h.ins h1.1 h1.2) fun y hy => hp y (by simp [hy])
    refine this.mono (by simp; omega) ?_
    rw [List.length_cons]; push_cast
    rw [Int.mul_add]; omega
/-- the steps of one laying -/
abbrev upI (p : Int × Int) (P : List (Int × Int)) : List (Int × Int) := P.takeWhile fun q => decide (p.2 * q.1 < q.2 * p.1)
abbrev dnI (p : Int × Int) (P : List (Int × Int)) : List (Int × Int) := P.dropWhile fun q => decide (p.2 * q.1 < q.2 * p.1)
theorem ins_up (p : Int × Int) : ∀ P : List (Int × Int), insI P p = upI p P ++ (match dnI p P with
    | [] => [p]
    | q :: B => if q.2 * p.1 = p.2 * q.1 then (q.1 + p.1, q.2 + p.2) :: B else p :: q :: B)
  | [] => rfl
  | q :: P => by
    have ih := ins_up p P
    unfold insI
    by_cases c : p.2 * q.1 < q.2 * p.1
    · rw [if_pos c, ih]
      simp -implicitDefEqProofs only [upI, dnI, List.takeWhile_cons, List.dropWhile_cons, c, decide_true, if_true, List.cons_append]
    · rw [if_neg c]
      simp -implicitDefEqProofs only [upI, dnI, List.takeWhile_cons, List.dropWhile_cons, c, decide_false, Bool.false_eq_true, if_false, List.nil_append]
abbrev wCond : Ev Bool := (dAnd (bnd (bnd (dVar 4) fun d => bnd (bnd (dCons (dVar 1) dNil) oLen) fun e => oLt d e) asB) (bnd (bnd (bnd (bnd (bnd (dVar 1) fun d => bnd (dVar 4) fun e => oIx d e) fun d => bnd (ret (.int 1)) fun e => oIx d e) fun d => bnd (dVar 2) fun e => oMul d e) fun d => bnd (bnd (dVar 3) fun d => bnd (bnd (bnd (dVar 1) fun d => bnd (dVar 4) fun e => oIx d e) fun d => bnd (ret (.int 0)) fun e => oIx d e) fun e => oMul d e) fun e => oGt d e) asB))
structure Sm (P : List (Int × Int)) (p : Int × Int) : Prop where
  q : ∀ x ∈ P, x.1.natAbs < 2 ^ 40 ∧ x.2.natAbs < 2 ^ 40
  p : p.1.natAbs < 2 ^ 40 ∧ p.2.natAbs < 2 ^ 40
theorem atI_pre (pre : List (Int × Int)) (q : Int × Int) (rest : List (Int × Int)) : atI ((pre ++ q :: rest).map iP) (pre.length : Int) = some (iP q) := by
  rw [atI_nat', List.getElem?_map, List.getElem?_append_right (Nat.le_refl _), Nat.sub_self]; rfl
theorem laid_while {S : D} {p : Int × Int} {P : List (Int × Int)} (h : Sm P p) (M : Mem) : ∀ (rest pre : List (Int × Int)), P = pre ++ rest →
    whileF wCond den__law_laid_L1 (rest.length + 1) [some S, some (.lst (P.map iP)), some (.int p.1), some (.int p.2), some (.int (pre.length : Int))] M = some (.nx [some S, some (.lst (P.map iP)), some (.int p.1), some (.int p.2), some (.int ((pre ++ upI p rest).length : Int))], M)
  | [], pre, e => by
    rw [List.append_nil] at e
    subst e
    unfold whileF
    have c : ¬ ((P.length : Int) < ((P.map iP).length : Int)) := by simp
    have u : upI p [] = [] := rfl
    rw [u, List.append_nil]
    simp -implicitDefEqProofs only [wCond, sSeq_ap, sAsg_ap, sPar_ap, sRet_ap, sIf_ap, sExpr_ap, sNext_ap, bnd_ap, ret_ap, bindR_ok, thenR_ok, dVar_ap, varR_ok, seqR_nx, seqR_rt, asgR_ok, gNm_ap, gCn_ap, gcnR_ok, gNl_ap, gTp_fr, gTp_ap, gLs_ap, dCons_ap, dNil_ap, asB_ap, dOr_ap, dAnd_ap, dNot_ap, dAndV_ap, dOrV_ap, dNotV_ap, dIf_ap, oAdd_int, oSub_int, oLt_int, oLe_int, oGt_int, oGe_int, oNeg_int, oEq_int, oNe_int, oEq_fr, oNe_fr, oEq_bl, oNe_bl, oTup_ap, oLst_ap, oCall_ap, oAbs_ap, oMax_ap, oMin_ap, oToInt_b, oToInt_i, oLen_lst, oLen_scr, oLen_tup, oIx_lst, oIx_scr, oAdd_lst, oIx_tup, oIx_fr0, oIx_fr1, ixR_ok, oItL_ap, oItT_ap, sFor_ap, startD, List.map_cons, List.map_nil, List.length_cons, List.length_nil, List.replicate_succ, List.replicate_zero, List.cons_append, List.nil_append, List.append_nil, List.getElem?_cons_zero, List.getElem?_cons_succ, List.set_cons_zero, List.set_cons_succ, Nat.reduceAdd, Nat.reduceSub, Nat.sub_self, Nat.reduceLeDiff, List.all_cons, List.all_nil, np_fr, np_int, np_bl, np_tup, np_lst, np_str, np_non, Bool.and_self, Bool.and_true, if_true_, if_false_, zero_add', if_tt, if_ff, decide_true, decide_false, Nat.le_refl, oItS_lst, oItS_tup, oTupOf_lst, oTupOf_tup, oLstOf_lst, oLstOf_tup, oRv_lst, oRv_tup, oAdd_tup, dChain_ap, asTru_bl, asTru_tup, asTru_lst, oIsN_ap, oNotN_ap, asI_ap, oSl_tup, oSl_lst, oZip_tup, oZip_lst, oAddI_ap, oEqS_ap, oNeS_ap, oNe_nil, c, decide_false, Bool.false_eq_true]
  | q :: rest, pre, e => by
    have ih := laid_while (S := S) h M rest (pre ++ [q]) (by simp [e])
    have c : (pre.length : Int) < ((P.map iP).length : Int) := by rw [e]; simp; omega
    have hq := h.q q (by rw [e]; simp)
    have k1 : MulOk q.2 p.1 := MulOk.of hq.2 h.p.1
    have k2 : MulOk p.2 q.1 := MulOk.of h.p.2 hq.1
    have ix : atI (P.map iP) (pre.length : Int) = some (iP q) := by rw [e]; exact atI_pre pre q rest
    unfold whileF
    by_cases d : p.2 * q.1 < q.2 * p.1
    · have st : den__law_laid_L1 [some S, some (.lst (P.map iP)), some (.int p.1), some (.int p.2), some (.int (pre.length : Int))] M = some (.nx [some S, some (.lst (P.map iP)), some (.int p.1), some (.int p.2), some (.int ((pre ++ [q]).length : Int))], M) := by
        simp -implicitDefEqProofs only [den__law_laid_L1, sSeq_ap, sAsg_ap, sPar_ap, sRet_ap, sIf_ap, sExpr_ap, sNext_ap, bnd_ap, ret_ap, bindR_ok, thenR_ok, dVar_ap, varR_ok, seqR_nx, seqR_rt, asgR_ok, gNm_ap, gCn_ap, gcnR_ok, gNl_ap, gTp_fr, gTp_ap, gLs_ap, dCons_ap, dNil_ap, asB_ap, dOr_ap, dAnd_ap, dNot_ap, dAndV_ap, dOrV_ap, dNotV_ap, dIf_ap, oAdd_int, oSub_int, oLt_int, oLe_int, oGt_int, oGe_int, oNeg_int, oEq_int, oNe_int, oEq_fr, oNe_fr, oEq_bl, oNe_bl, oTup_ap, oLst_ap, oCall_ap, oAbs_ap, oMax_ap, oMin_ap, oToInt_b, oToInt_i, oLen_lst, oLen_scr, oLen_tup, oIx_lst, oIx_scr, oAdd_lst, oIx_tup, oIx_fr0, oIx_fr1, ixR_ok, oItL_ap, oItT_ap, sFor_ap, startD, List.map_cons, List.map_nil, List.length_cons, List.length_nil, List.replicate_succ, List.replicate_zero, List.cons_append, List.nil_append, List.append_nil, List.getElem?_cons_zero, List.getElem?_cons_succ, List.set_cons_zero, List.set_cons_succ, Nat.reduceAdd, Nat.reduceSub, Nat.sub_self, Nat.reduceLeDiff, List.all_cons, List.all_nil, np_fr, np_int, np_bl, np_tup, np_lst, np_str, np_non, Bool.and_self, Bool.and_true, if_true_, if_false_, zero_add', if_tt, if_ff, decide_true, decide_false, Nat.le_refl, oItS_lst, oItS_tup, oTupOf_lst, oTupOf_tup, oLstOf_lst, oLstOf_tup, oRv_lst, oRv_tup, oAdd_tup, dChain_ap, asTru_bl, asTru_tup, asTru_lst, oIsN_ap, oNotN_ap, asI_ap, oSl_tup, oSl_lst, oZip_tup, oZip_lst, oAddI_ap, oEqS_ap, oNeS_ap, oNe_nil]
        simp
      have u : upI p (q :: rest) = q :: upI p rest := by simp [upI, List.takeWhile_cons, d]
      rw [u]
      have e2 : pre ++ q :: upI p rest = (pre ++ [q]) ++ upI p rest := by simp
      rw [e2]
      simp -implicitDefEqProofs only [wCond, sSeq_ap, sAsg_ap, sPar_ap, sRet_ap, sIf_ap, sExpr_ap, sNext_ap, bnd_ap, ret_ap, bindR_ok, thenR_ok, dVar_ap, varR_ok, seqR_nx, seqR_rt, asgR_ok, gNm_ap, gCn_ap, gcnR_ok, gNl_ap, gTp_fr, gTp_ap, gLs_ap, dCons_ap, dNil_ap, asB_ap, dOr_ap, dAnd_ap, dNot_ap, dAndV_ap, dOrV_ap, dNotV_ap, dIf_ap, oAdd_int, oSub_int, oLt_int, oLe_int, oGt_int, oGe_int, oNeg_int, oEq_int, oNe_int, oEq_fr, oNe_fr, oEq_bl, oNe_bl, oTup_ap, oLst_ap, oCall_ap, oAbs_ap, oMax_ap, oMin_ap, oToInt_b, oToInt_i, oLen_lst, oLen_scr, oLen_tup, oIx_lst, oIx_scr, oAdd_lst, oIx_tup, oIx_fr0, oIx_fr1, ixR_ok, oItL_ap, oItT_ap, sFor_ap, startD, List.map_cons, List.map_nil, List.length_cons, List.length_nil, List.replicate_succ, List.replicate_zero, List.cons_append, List.nil_append, List.append_nil, List.getElem?_cons_zero, List.getElem?_cons_succ, List.set_cons_zero, List.set_cons_succ, Nat.reduceAdd, Nat.reduceSub, Nat.sub_self, Nat.reduceLeDiff, List.all_cons, List.all_nil, np_fr, np_int, np_bl, np_tup, np_lst, np_str, np_non, Bool.and_self, Bool.and_true, if_true_, if_false_, zero_add', if_tt, if_ff, decide_true, decide_false, Nat.le_refl, oItS_lst, oItS_tup, oTupOf_lst, oTupOf_tup, oLstOf_lst, oLstOf_tup, oRv_lst, oRv_tup, oAdd_tup, dChain_ap, asTru_bl, asTru_tup, asTru_lst, oIsN_ap, oNotN_ap, asI_ap, oSl_tup, oSl_lst, oZip_tup, oZip_lst, oAddI_ap, oEqS_ap, oNeS_ap, oNe_nil, c, decide_true, ix, oIx_iP0, oIx_iP1, oMul_int k1, oMul_int k2, d, st]
      exact ih
    · have u : upI p (q :: rest) = [] := by simp [upI, List.takeWhile_cons, d]
      rw [u, List.append_nil]
      simp -implicitDefEqProofs only [wCond, sSeq_ap, sAsg_ap, sPar_ap, sRet_ap, sIf_ap, sExpr_ap, sNext_ap, bnd_ap, ret_ap, bindR_ok, thenR_ok, dVar_ap, varR_ok, seqR_nx, seqR_rt, asgR_ok, gNm_ap, gCn_ap, gcnR_ok, gNl_ap, gTp_fr, gTp_ap, gLs_ap, dCons_ap, dNil_ap, asB_ap, dOr_ap, dAnd_ap, dNot_ap, dAndV_ap, dOrV_ap, dNotV_ap, dIf_ap, oAdd_int, oSub_int, oLt_int, oLe_int, oGt_int, oGe_int, oNeg_int, oEq_int, oNe_int, oEq_fr, oNe_fr, oEq_bl, oNe_bl, oTup_ap, oLst_ap, oCall_ap, oAbs_ap, oMax_ap, oMin_ap, oToInt_b, oToInt_i, oLen_lst, oLen_scr, oLen_tup, oIx_lst, oIx_scr, oAdd_lst, oIx_tup, oIx_fr0, oIx_fr1, ixR_ok, oItL_ap, oItT_ap, sFor_ap, startD, List.map_cons, List.map_nil, List.length_cons, List.length_nil, List.replicate_succ, List.replicate_zero, List.cons_append, List.nil_append, List.append_nil, List.getElem?_cons_zero, List.getElem?_cons_succ, List.set_cons_zero, List.set_cons_succ, Nat.reduceAdd, Nat.reduceSub, Nat.sub_self, Nat.reduceLeDiff, List.all_cons, List.all_nil, np_fr, np_int, np_bl, np_tup, np_lst, np_str, np_non, Bool.and_self, Bool.and_true, if_true_, if_false_, zero_add', if_tt, if_ff, decide_true, decide_false, Nat.le_refl, oItS_lst, oItS_tup, oTupOf_lst, oTupOf_tup, oLstOf_lst, oLstOf_tup, oRv_lst, oRv_tup, oAdd_tup, dChain_ap, asTru_bl, asTru_tup, asTru_lst, oIsN_ap, oNotN_ap, asI_ap, oSl_tup, oSl_lst, oZip_tup, oZip_lst, oAddI_ap, oEqS_ap, oNeS_ap, oNe_nil, c, decide_true, decide_false, Bool.false_eq_true, ix, oIx_iP0, oIx_iP1, oMul_int k1, oMul_int k2, d]
theorem laid_turn {S : D} {p : Int × Int} {P : List (Int × Int)} {o : Option D} (h : Sm P p) (hl : P.length ≤ 10000) (M : Mem) :
    ∃ o2 o3 o4, den__law_laid_L2 [some S, some (.lst (P.map iP)), some (.int p.1), some (.int p.2), o] M = some (.nx [some S, some (.lst ((insI P p).map iP)), o2, o3, o4], M) := by
  have lp : sWhile wCond den__law_laid_L1 [some S, some (.lst (P.map iP)), some (.int p.1), some (.int p.2), some (.int 0)] M = some (.nx [some S, some (.lst (P.map iP)), some (.int p.1), some (.int p.2), some (.int ((upI p P).length : Int))], M) := sWhile_eq (laid_while (S := S) h M P [] rfl)
  have sp : P = upI p P ++ dnI p P := (List.takeWhile_append_dropWhile).symm
  have iu := ins_up p P
  have lu : (upI p P).length ≤ P.length := (List.takeWhile_sublist _).length_le
  cases hd : dnI p P with
  | nil =>
    rw [hd] at sp iu
    rw [List.append_nil] at sp
    dsimp only at iu
    refine ⟨some (.int p.1), some (.int p.2), some (.int ((upI p P).length : Int)), ?_⟩
    have c : ¬ (((upI p P).length : Int) < ((P.map iP).length : Int)) := by rw [List.length_map, ← sp]; omega
    have c1 : cutD (P.map iP) none (some ((upI p P).length : Int)) = P.map iP := by rw [cut_take', List.take_of_length_le (by rw [List.length_map, ← sp]; omega)]
    have c2 : cutD (P.map iP) (some ((upI p P).length : Int)) none = [] := by rw [cut_drop', List.drop_eq_nil_of_le (by rw [List.length_map, ← sp]; omega)]
    have eq : (insI P p).map iP = P.map iP ++ [iP p] := by rw [iu, ← sp, List.map_append]; rfl
    have l1 : (P.map iP).length + [D.tup [.int p.1, .int p.2]].length ≤ 16777216 := by simp; omega
    have l2 : (P.map iP ++ [D.tup [.int p.1, .int p.2]]).length + ([] : List D).length ≤ 16777216 := by simp; omega
    simp -implicitDefEqProofs only [den__law_laid_L2, sSeq_ap, sAsg_ap, sPar_ap, sRet_ap, sIf_ap, sExpr_ap, sNext_ap, bnd_ap, ret_ap, bindR_ok, thenR_ok, dVar_ap, varR_ok, seqR_nx, seqR_rt, asgR_ok, gNm_ap, gCn_ap, gcnR_ok, gNl_ap, gTp_fr, gTp_ap, gLs_ap, dCons_ap, dNil_ap, asB_ap, dOr_ap, dAnd_ap, dNot_ap, dAndV_ap, dOrV_ap, dNotV_ap, dIf_ap, oAdd_int, oSub_int, oLt_int, oLe_int, oGt_int, oGe_int, oNeg_int, oEq_int, oNe_int, oEq_fr, oNe_fr, oEq_bl, oNe_bl, oTup_ap, oLst_ap, oCall_ap, oAbs_ap, oMax_ap, oMin_ap, oToInt_b, oToInt_i, oLen_lst, oLen_scr, oLen_tup, oIx_lst, oIx_scr, oAdd_lst, oIx_tup, oIx_fr0, oIx_fr1, ixR_ok, oItL_ap, oItT_ap, sFor_ap, startD, List.map_cons, List.map_nil, List.length_cons, List.length_nil, List.replicate_succ, List.replicate_zero, List.cons_append, List.nil_append, List.append_nil, List.getElem?_cons_zero, List.getElem?_cons_succ, List.set_cons_zero, List.set_cons_succ, Nat.reduceAdd, Nat.reduceSub, Nat.sub_self, Nat.reduceLeDiff, List.all_cons, List.all_nil, np_fr, np_int, np_bl, np_tup, np_lst, np_str, np_non, Bool.and_self, Bool.and_true, if_true_, if_false_, zero_add', if_tt, if_ff, decide_true, decide_false, Nat.le_refl, oItS_lst, oItS_tup, oTupOf_lst, oTupOf_tup, oLstOf_lst, oLstOf_tup, oRv_lst, oRv_tup, oAdd_tup, dChain_ap, asTru_bl, asTru_tup, asTru_lst, oIsN_ap, oNotN_ap, asI_ap, oSl_tup, oSl_lst, oZip_tup, oZip_lst, oAddI_ap, oEqS_ap, oNeS_ap, oNe_nil, lp, c, decide_false, Bool.false_eq_true, c1, c2, oAdd_lst _ _ _ _ l1, oAdd_lst _ _ _ _ l2]
    rw [eq]; rfl
  | cons q B =>
    rw [hd] at sp iu
    dsimp only at iu
    have c : ((upI p P).length : Int) < ((P.map iP).length : Int) := by
      have := congrArg List.length sp
      rw [List.length_append, List.length_cons] at this
      rw [List.length_map]; omega
    have ix : atI (P.map iP) ((upI p P).length : Int) = some (iP q) := by
      have := atI_pre (upI p P) q B
      rw [← sp] at this; exact this
    have hq := h.q q (by rw [sp]; simp)
    have k1 : MulOk q.2 p.1 := MulOk.of hq.2 h.p.1
    have k2 : MulOk p.2 q.1 := MulOk.of h.p.2 hq.1
    have c1 : cutD (P.map iP) none (some ((upI p P).length : Int)) = (upI p P).map iP := by
      rw [cut_take', ← List.map_take]
      conv => lhs; rw [sp]
      rw [List.take_left' (by rw [← sp])]
    have c2 : cutD (P.map iP) (some ((upI p P).length : Int)) none = (q :: B).map iP := by
      rw [cut_drop', ← List.map_drop]
      conv => lhs; rw [sp]
      rw [List.drop_left' (by rw [← sp])]
    have c3 : cutD (P.map iP) (some ((upI p P).length + 1 : Int)) none = B.map iP := by
      rw [show ((upI p P).length + 1 : Int) = ((upI p P).length + 1 : Nat) from by push_cast; rfl, cut_drop', ← List.map_drop]
      have dr : ∀ U : List (Int × Int), P = U ++ q :: B → P.drop (U.length + 1) = B := fun U e => by
        rw [e, show U ++ q :: B = (U ++ [q]) ++ B from by simp, show U.length + 1 = (U ++ [q]).length from by simp, List.drop_left' rfl]
      rw [dr _ sp]
    have lt := congrArg List.length sp
    rw [List.length_append, List.length_cons] at lt
    by_cases d : q.2 * p.1 = p.2 * q.1
    · rw [if_pos d] at iu
      refine ⟨some (.int (q.1 + p.1)), some (.int (q.2 + p.2)), some (.int ((upI p P).length : Int)), ?_⟩
      have l1 : ((upI p P).map iP).length + (B.map iP).length ≤ 16777216 := by simp; omega
      have d1 : cutD ((upI p P).map iP ++ B.map iP) none (some ((upI p P).length : Int)) = (upI p P).map iP := by rw [cut_take', List.take_left' (by simp)]
      have d2 : cutD ((upI p P).map iP ++ B.map iP) (some ((upI p P).length : Int)) none = B.map iP := by rw [cut_drop', List.drop_left' (by simp)]
      have l2 : ((upI p P).map iP).length + [D.tup [.int (q.1 + p.1), .int (q.2 + p.2)]].length ≤ 16777216 := by simp; omega
      have l3 : ((upI p P).map iP ++ [D.tup [.int (q.1 + p.1), .int (q.2 + p.2)]]).length + (B.map iP).length ≤ 16777216 := by simp; omega
      have eq : (insI P p).map iP = (upI p P).map iP ++ [D.tup [.int (q.1 + p.1), .int (q.2 + p.2)]] ++ B.map iP := by rw [iu, List.map_append, List.map_cons]; simp [iP]
      simp -implicitDefEqProofs only [den__law_laid_L2, sSeq_ap, sAsg_ap, sPar_ap, sRet_ap, sIf_ap, sExpr_ap, sNext_ap, bnd_ap, ret_ap, bindR_ok, thenR_ok, dVar_ap, varR_ok, seqR_nx, seqR_rt, asgR_ok, gNm_ap, gCn_ap, gcnR_ok, gNl_ap, gTp_fr, gTp_ap, gLs_ap, dCons_ap, dNil_ap, asB_ap, dOr_ap, dAnd_ap, dNot_ap, dAndV_ap, dOrV_ap, dNotV_ap, dIf_ap, oAdd_int, oSub_int, oLt_int, oLe_int, oGt_int, oGe_int, oNeg_int, oEq_int, oNe_int, oEq_fr, oNe_fr, oEq_bl, oNe_bl, oTup_ap, oLst_ap, oCall_ap, oAbs_ap, oMax_ap, oMin_ap, oToInt_b, oToInt_i, oLen_lst, oLen_scr, oLen_tup, oIx_lst, oIx_scr, oAdd_lst, oIx_tup, oIx_fr0, oIx_fr1, ixR_ok, oItL_ap, oItT_ap, sFor_ap, startD, List.map_cons, List.map_nil, List.length_cons, List.length_nil, List.replicate_succ, List.replicate_zero, List.cons_append, List.nil_append, List.append_nil, List.getElem?_cons_zero, List.getElem?_cons_succ, List.set_cons_zero, List.set_cons_succ, Nat.reduceAdd, Nat.reduceSub, Nat.sub_self, Nat.reduceLeDiff, List.all_cons, List.all_nil, np_fr, np_int, np_bl, np_tup, np_lst, np_str, np_non, Bool.and_self, Bool.and_true, if_true_, if_false_, zero_add', if_tt, if_ff, decide_true, decide_false, Nat.le_refl, oItS_lst, oItS_tup, oTupOf_lst, oTupOf_tup, oLstOf_lst, oLstOf_tup, oRv_lst, oRv_tup, oAdd_tup, dChain_ap, asTru_bl, asTru_tup, asTru_lst, oIsN_ap, oNotN_ap, asI_ap, oSl_tup, oSl_lst, oZip_tup, oZip_lst, oAddI_ap, oEqS_ap, oNeS_ap, oNe_nil, lp, c, decide_true, ix, oIx_iP0, oIx_iP1, oMul_int k1, oMul_int k2, d, c1, c3, oAdd_lst _ _ _ _ l1, d1, d2, oAdd_lst _ _ _ _ l2, oAdd_lst _ _ _ _ l3, eq]
    · rw [if_neg d] at iu
      refine ⟨some (.int p.1), some (.int p.2), some (.int ((upI p P).length : Int)), ?_⟩
      have l2 : ((upI p P).map iP).length + [D.tup [.int p.1, .int p.2]].length ≤ 16777216 := by simp; omega
      have l3 : ((upI p P).map iP ++ [D.tup [.int p.1, .int p.2]]).length + ((q :: B).map iP).length ≤ 16777216 := by simp; omega
      have eq : (insI P p).map iP = (upI p P).map iP ++ [D.tup [.int p.1, .int p.2]] ++ (q :: B).map iP := by rw [iu, List.map_append, List.map_cons]; simp [iP]
      have c2' := c2
      have l3' := l3
      rw [List.map_cons] at c2' l3'
      simp -implicitDefEqProofs only [den__law_laid_L2, sSeq_ap, sAsg_ap, sPar_ap, sRet_ap, sIf_ap, sExpr_ap, sNext_ap, bnd_ap, ret_ap, bindR_ok, thenR_ok, dVar_ap, varR_ok, seqR_nx, seqR_rt, asgR_ok, gNm_ap, gCn_ap, gcnR_ok, gNl_ap, gTp_fr, gTp_ap, gLs_ap, dCons_ap, dNil_ap, asB_ap, dOr_ap, dAnd_ap, dNot_ap, dAndV_ap, dOrV_ap, dNotV_ap, dIf_ap, oAdd_int, oSub_int, oLt_int, oLe_int, oGt_int, oGe_int, oNeg_int, oEq_int, oNe_int, oEq_fr, oNe_fr, oEq_bl, oNe_bl, oTup_ap, oLst_ap, oCall_ap, oAbs_ap, oMax_ap, oMin_ap, oToInt_b, oToInt_i, oLen_lst, oLen_scr, oLen_tup, oIx_lst, oIx_scr, oAdd_lst, oIx_tup, oIx_fr0, oIx_fr1, ixR_ok, oItL_ap, oItT_ap, sFor_ap, startD, List.map_cons, List.map_nil, List.length_cons, List.length_nil, List.replicate_succ, List.replicate_zero, List.cons_append, List.nil_append, List.append_nil, List.getElem?_cons_zero, List.getElem?_cons_succ, List.set_cons_zero, List.set_cons_succ, Nat.reduceAdd, Nat.reduceSub, Nat.sub_self, Nat.reduceLeDiff, List.all_cons, List.all_nil, np_fr, np_int, np_bl, np_tup, np_lst, np_str, np_non, Bool.and_self, Bool.and_true, if_true_, if_false_, zero_add', if_tt, if_ff, decide_true, decide_false, Nat.le_refl, oItS_lst, oItS_tup, oTupOf_lst, oTupOf_tup, oLstOf_lst, oLstOf_tup, oRv_lst, oRv_tup, oAdd_tup, dChain_ap, asTru_bl, asTru_tup, asTru_lst, oIsN_ap, oNotN_ap, asI_ap, oSl_tup, oSl_lst, oZip_tup, oZip_lst, oAddI_ap, oEqS_ap, oNeS_ap, oNe_nil, lp, c, decide_true, decide_false, Bool.false_eq_true, ix, oIx_iP0, oIx_iP1, oMul_int k1, oMul_int k2, d, c1, c2', oAdd_lst _ _ _ _ l2, oAdd_lst _ _ _ _ l3', eq]
theorem laid_loop {S : D} {f : Rat} {N : Int} (hN : N ≤ 100000) (M : Mem) : ∀ (ps P : List (Int × Int)) (n : Nat) (T : Int) (o2 o3 o4 : Option D), Laid f n T P → (∀ p ∈ ps, LyI f p ∧ Le2 N p) → T + N * ps.length ≤ 2 ^ 39 → n + ps.length ≤ 10000 → 0 ≤ N →
    ∃ o2' o3' o4', forF (gTp 2 (gCn (gNm 2) (gCn (gNm 3) gNl))) den__law_laid_L2 (ps.map iP) [some S, some (.lst (P.map iP)), o2, o3, o4] M = some (.nx [some S, some (.lst ((ps.foldl insI P).map iP)), o2', o3', o4'], M)
  | [], P, n, T, o2, o3, o4, _, _, _, _, _ => ⟨o2, o3, o4, rfl⟩
  | p :: ps, P, n, T, o2, o3, o4, h, hp, ht, hn, N0 => by
    have h1 := hp p (by simp)
    rw [List.length_cons] at ht hn
    push_cast at ht
    rw [Int.mul_add] at ht
    have nl : 0 ≤ N * (ps.length : Int) := Int.mul_nonneg N0 (by omega)
    have sm : Sm P p := by
      refine ⟨fun x hx => ?_, ?_⟩
      · have := h.le hx
        have := (h.ly x hx).w; have := (h.ly x hx).s
        omega
      · have := h1.1.w; have := h1.1.s; have := h1.2.1; have := h1.2.2
        omega
    obtain ⟨q2, q3, q4, e1⟩ := laid_turn (S := S) (o := o4) sm (by have := h.ln; omega) M
    obtain ⟨r2, r3, r4, e2⟩ := laid_loop (S := S) hN M ps (insI P p) (n + 1) (T + N) q2 q3 q4 (h.ins h1.1 h1.2) (fun y hy => hp y (by simp [hy])) (by omega) (by omega) N0
    refine ⟨r2, r3, r4, ?_⟩
    rw [List.map_cons, forF_cons, gTp_iP]
    simp -implicitDefEqProofs only [sSeq_ap, sAsg_ap, sPar_ap, sRet_ap, sIf_ap, sExpr_ap, sNext_ap, bnd_ap, ret_ap, bindR_ok, thenR_ok, dVar_ap, varR_ok, seqR_nx, seqR_rt, asgR_ok, gNm_ap, gCn_ap, gcnR_ok, gNl_ap, gTp_fr, gTp_ap, gLs_ap, dCons_ap, dNil_ap, asB_ap, dOr_ap, dAnd_ap, dNot_ap, dAndV_ap, dOrV_ap, dNotV_ap, dIf_ap, oAdd_int, oSub_int, oLt_int, oLe_int, oGt_int, oGe_int, oNeg_int, oEq_int, oNe_int, oEq_fr, oNe_fr, oEq_bl, oNe_bl, oTup_ap, oLst_ap, oCall_ap, oAbs_ap, oMax_ap, oMin_ap, oToInt_b, oToInt_i, oLen_lst, oLen_scr, oLen_tup, oIx_lst, oIx_scr, oAdd_lst, oIx_tup, oIx_fr0, oIx_fr1, ixR_ok, oItL_ap, oItT_ap, sFor_ap, startD, List.map_cons, List.map_nil, List.length_cons, List.length_nil, List.replicate_succ, List.replicate_zero, List.cons_append, List.nil_append, List.append_nil, List.getElem?_cons_zero, List.getElem?_cons_succ, List.set_cons_zero, List.set_cons_succ, Nat.reduceAdd, Nat.reduceSub, Nat.sub_self, Nat.reduceLeDiff, List.all_cons, List.all_nil, np_fr, np_int, np_bl, np_tup, np_lst, np_str, np_non, Bool.and_self, Bool.and_true, if_true_, if_false_, zero_add', if_tt, if_ff, decide_true, decide_false, Nat.le_refl, oItS_lst, oItS_tup, oTupOf_lst, oTupOf_tup, oLstOf_lst, oLstOf_tup, oRv_lst, oRv_tup, oAdd_tup, dChain_ap, asTru_bl, asTru_tup, asTru_lst, oIsN_ap, oNotN_ap, asI_ap, oSl_tup, oSl_lst, oZip_tup, oZip_lst, oAddI_ap, oEqS_ap, oNeS_ap, oNe_nil, forB_ok, e1, ofR_nx]
    rw [e2, List.foldl_cons]
theorem laid_eq {f : Rat} {N : Int} {m : Nat} {ps : List (Int × Int)} {M : Mem} (hN : N ≤ 100000) (N0 : 0 ≤ N) (hM : M[m]? = some (some (ps.map iP))) (hp : ∀ p ∈ ps, LyI f p ∧ Le2 N p) (hl : ps.length ≤ 1000) : F__law_laid [.ptr m] M = some (.ok (.lst ((ps.foldl insI []).map iP)), M.set m none) ∧ Laid f ps.length (N * ps.length) (ps.foldl insI []) := by
  have nl : N * (ps.length : Int) ≤ 100000 * 1000 := Int.mul_le_mul hN (by omega) (by omega) (by omega)
  obtain ⟨q2, q3, q4, e⟩ := laid_loop (S := .ptr m) hN (M.set m none) ps [] 0 0 none none none (Laid.nil f) hp (by omega) (by omega) N0
  refine ⟨?_, by simpa using laid_fold (N := N) ps [] 0 0 (Laid.nil f) hp⟩
  have it : ∀ ρ, oItF (.ptr m) ρ M = some (.ok (ps.map iP), M.set m none) := fun ρ => by unfold oItF; dsimp only; rw [hM]
  have := runF_rt (N := ["layers", "found", "water", "salt", "at"]) (fb := den__law_laid) (ds := [.ptr m]) (M := M) (M2 := M.set m none) (d := .lst ((ps.foldl insI []).map iP)) (by
    simp -implicitDefEqProofs only [List.map_nil] at e
    simp -implicitDefEqProofs only [den__law_laid, sSeq_ap, sAsg_ap, sPar_ap, sRet_ap, sIf_ap, sExpr_ap, sNext_ap, bnd_ap, ret_ap, bindR_ok, thenR_ok, dVar_ap, varR_ok, seqR_nx, seqR_rt, asgR_ok, gNm_ap, gCn_ap, gcnR_ok, gNl_ap, gTp_fr, gTp_ap, gLs_ap, dCons_ap, dNil_ap, asB_ap, dOr_ap, dAnd_ap, dNot_ap, dAndV_ap, dOrV_ap, dNotV_ap, dIf_ap, oAdd_int, oSub_int, oLt_int, oLe_int, oGt_int, oGe_int, oNeg_int, oEq_int, oNe_int, oEq_fr, oNe_fr, oEq_bl, oNe_bl, oTup_ap, oLst_ap, oCall_ap, oAbs_ap, oMax_ap, oMin_ap, oToInt_b, oToInt_i, oLen_lst, oLen_scr, oLen_tup, oIx_lst, oIx_scr, oAdd_lst, oIx_tup, oIx_fr0, oIx_fr1, ixR_ok, oItL_ap, oItT_ap, sFor_ap, startD, List.map_cons, List.map_nil, List.length_cons, List.length_nil, List.replicate_succ, List.replicate_zero, List.cons_append, List.nil_append, List.append_nil, List.getElem?_cons_zero, List.getElem?_cons_succ, List.set_cons_zero, List.set_cons_succ, Nat.reduceAdd, Nat.reduceSub, Nat.sub_self, Nat.reduceLeDiff, List.all_cons, List.all_nil, np_fr, np_int, np_bl, np_tup, np_lst, np_str, np_non, Bool.and_self, Bool.and_true, if_true_, if_false_, zero_add', if_tt, if_ff, decide_true, decide_false, Nat.le_refl, oItS_lst, oItS_tup, oTupOf_lst, oTupOf_tup, oLstOf_lst, oLstOf_tup, oRv_lst, oRv_tup, oAdd_tup, dChain_ap, asTru_bl, asTru_tup, asTru_lst, oIsN_ap, oNotN_ap, asI_ap, oSl_tup, oSl_lst, oZip_tup, oZip_lst, oAddI_ap, oEqS_ap, oNeS_ap, oNe_nil, it, e]) (by simp) rfl
  rw [F__law_laid, this, List.take_of_length_le (by simp)]
/-- a pot, and a row of layers beside it -/
structure RwI (c n m : Nat) (ps : List (Int × Int)) (M : Mem) : Prop where
  has : HasReel c n M
  lst : M[m]? = some (some (ps.map iP))
  ne : n ≠ m
theorem RwI.turn {c c' n m : Nat} {ps : List (Int × Int)} {M M' : Mem} (g : RwI c n m ps M) (t : Turned c' n M M') : RwI c' n m ps M' := ⟨t.has, by rw [t.oth m (Ne.symm g.ne)]; exact g.lst, g.ne⟩
theorem RwI.lt {c n m : Nat} {ps : List (Int × Int)} {M : Mem} (g : RwI c n m ps M) : m < M.length := (List.getElem?_eq_some_iff.mp g.lst).1
theorem RwI.push {c n m : Nat} {ps : List (Int × Int)} {M : Mem} (g : RwI c n m ps M) (p : Int × Int) : RwI c n m (ps ++ [p]) (M.set m (some (ps.map iP ++ [iP p]))) := by
  refine ⟨?_, ?_, g.ne⟩
  · obtain ⟨a, r, t, e, rest⟩ := g.has
    exact ⟨a, r, t, by rw [List.getElem?_set_ne (Ne.symm g.ne)]; exact e, rest⟩
  · rw [List.getElem?_set_self g.lt, List.map_append]; rfl
theorem app_iP {m : Nat} {ps : List (Int × Int)} {M : Mem} (h : M[m]? = some (some (ps.map iP))) (hl : ps.length ≤ 1000) {p : Int × Int} (ρ : Env) : oApp (.ptr m) (iP p) ρ M = some (.ok .non, M.set m (some (ps.map iP ++ [iP p]))) := by
  unfold oApp
  dsimp only
  rw [h]
  dsimp only
  rw [if_pos ⟨rfl, by rw [List.length_map]; omega⟩]
theorem okP_ {m : Nat} {es : List D} {M : Mem} (h : M[m]? = some (some es)) (ρ : Env) : okPtr (.ptr m) ρ M = some (.ok (.ptr m), M) := by
  unfold okPtr
  dsimp only
  rw [h]
theorem parts_loop {n m : Nat} {f : Rat} {z : Int} {k : D} (hf : FulI f) (hz : 0 < z ∧ z ≤ 12000) : ∀ (ts : List D) (c : Nat) (M : Mem) (ps : List (Int × Int)) (o5 : Option D), RwI c n m ps M → (∀ p ∈ ps, LyI f p ∧ Le2 100000 p) → c + 10 * ts.length < 2 ^ 30 → ps.length + ts.length ≤ 1000 →
    ∃ ps' M' o5', forF (gNm 5) den__law_parts_L1 ts [some (.ptr n), some (frQ f), some k, some (.int z), some (.ptr m), o5] M = some (.nx [some (.ptr n), some (frQ f), some k, some (.int z), some (.ptr m), o5'], M') ∧ M'.length = M.length ∧ (∀ j, j ≠ n → j ≠ m → M'[j]? = M[j]?) ∧ RwI (c + 10 * ts.length) n m ps' M' ∧ (∀ p ∈ ps', LyI f p ∧ Le2 100000 p) ∧ ps'.length = ps.length + ts.length
  | [], c, M, ps, o5, g, hp, hc, hl => ⟨ps, M, o5, rfl, rfl, fun _ _ _ => rfl, g, hp, rfl⟩
  | t :: ts, c, M, ps, o5, g, hp, hc, hl => by
    rw [List.length_cons] at hc hl
    obtain ⟨p, M1, e1, h1, t1⟩ := layer_eq g.has (by omega) hf hz g.lst (Ne.symm g.ne) (by omega) hp
    have g0 := g.turn t1
    have g1 := g0.push p
    obtain ⟨ps', M', o5', e2, a1, a2, a3, a4, a5⟩ := parts_loop (k := k) hf hz ts (c + 10) _ (ps ++ [p]) (some t) g1 (fun x hx => by
      rcases List.mem_append.mp hx with y | y
      · exact hp x y
      · simp at y; subst y; exact h1) (by omega) (by simp; omega)
    refine ⟨ps', M', o5', ?_, by rw [a1, List.length_set, t1.len], fun j a b => by rw [a2 j a b, List.getElem?_set_ne (Ne.symm b), t1.oth j a], ?_, a4, by rw [a5]; simp; omega⟩
    · have st : den__law_parts_L1 [some (.ptr n), some (frQ f), some k, some (.int z), some (.ptr m), some t] M = some (.nx [some (.ptr n), some (frQ f), some k, some (.int z), some (.ptr m), some t], M1.set m (some (ps.map iP ++ [iP p]))) := by
        simp -implicitDefEqProofs only [den__law_parts_L1, sSeq_ap, sAsg_ap, sPar_ap, sRet_ap, sIf_ap, sExpr_ap, sNext_ap, bnd_ap, ret_ap, bindR_ok, thenR_ok, dVar_ap, varR_ok, seqR_nx, seqR_rt, asgR_ok, gNm_ap, gCn_ap, gcnR_ok, gNl_ap, gTp_fr, gTp_ap, gLs_ap, dCons_ap, dNil_ap, asB_ap, dOr_ap, dAnd_ap, dNot_ap, dAndV_ap, dOrV_ap, dNotV_ap, dIf_ap, oAdd_int, oSub_int, oLt_int, oLe_int, oGt_int, oGe_int, oNeg_int, oEq_int, oNe_int, oEq_fr, oNe_fr, oEq_bl, oNe_bl, oTup_ap, oLst_ap, oCall_ap, oAbs_ap, oMax_ap, oMin_ap, oToInt_b, oToInt_i, oLen_lst, oLen_scr, oLen_tup, oIx_lst, oIx_scr, oAdd_lst, oIx_tup, oIx_fr0, oIx_fr1, ixR_ok, oItL_ap, oItT_ap, sFor_ap, startD, List.map_cons, List.map_nil, List.length_cons, List.length_nil, List.replicate_succ, List.replicate_zero, List.cons_append, List.nil_append, List.append_nil, List.getElem?_cons_zero, List.getElem?_cons_succ, List.set_cons_zero, List.set_cons_succ, Nat.reduceAdd, Nat.reduceSub, Nat.sub_self, Nat.reduceLeDiff, List.all_cons, List.all_nil, np_fr, np_int, np_bl, np_tup, np_lst, np_str, np_non, Bool.and_self, Bool.and_true, if_true_, if_false_, zero_add', if_tt, if_ff, decide_true, decide_false, Nat.le_refl, oItS_lst, oItS_tup, oTupOf_lst, oTupOf_tup, oLstOf_lst, oLstOf_tup, oRv_lst, oRv_tup, oAdd_tup, dChain_ap, asTru_bl, asTru_tup, asTru_lst, oIsN_ap, oNotN_ap, asI_ap, oSl_tup, oSl_lst, oZip_tup, oZip_lst, oAddI_ap, oEqS_ap, oNeS_ap, oNe_nil, okP_ g.lst, e1, app_iP g0.lst (show ps.length ≤ 1000 by omega)]
      rw [forF_cons, gNm_ap, forB_ok]
      simp -implicitDefEqProofs only [List.set_cons_zero, List.set_cons_succ]
      rw [st, ofR_nx, e2]
    · have : c + 10 + 10 * ts.length = c + 10 * (ts.length + 1) := by omega
      rw [List.length_cons, ← this]; exact a3
theorem HasReel.app {c n : Nat} {M : Mem} (hr : HasReel c n M) (x : Option (List D)) : HasReel c n (M ++ [x]) := by
  have hn := hr.lt
  obtain ⟨a, r, t, e, rest⟩ := hr
  exact ⟨a, r, t, by rw [List.getElem?_append_left hn]; exact e, rest⟩
/-- behind a def that had a list of its own -/
theorem turn_cut {c c' n : Nat} {M M' : Mem} (hr : HasReel c n M) (hl : M.length ≤ M'.length) (ho : ∀ j, j < M.length → j ≠ n → M'[j]? = M[j]?) (h' : HasReel c' n M') : Turned c' n M (M'.take M.length) := by
  have hn := hr.lt
  refine ⟨by rw [List.length_take]; omega, fun j hj => ?_, ?_⟩
  · by_cases q : j < M.length
    · rw [List.getElem?_take_of_lt q, ho j q hj]
    · rw [List.getElem?_eq_none (by rw [List.length_take]; omega), List.getElem?_eq_none (by omega)]
  · obtain ⟨a, r, t, e, rest⟩ := h'
    exact ⟨a, r, t, by rw [List.getElem?_take_of_lt hn]; exact e, rest⟩
theorem HasReel.put {c n m : Nat} {M : Mem} (hr : HasReel c n M) (hne : n ≠ m) (x : Option (List D)) : HasReel c n (M.set m x) := by
  obtain ⟨a, r, t, e, rest⟩ := hr
  exact ⟨a, r, t, by rw [List.getElem?_set_ne (Ne.symm hne)]; exact e, rest⟩
theorem size3 {i : Int} (h0 : 0 ≤ i) (h : i < 3) : ∃ k : Int, atI [D.int 6, .int 40, .int 12000] i = some (.int k) ∧ (0 < k ∧ k ≤ 12000) := atI_lit h0 h fun d hd => by
  simp -implicitDefEqProofs only [List.mem_cons, List.not_mem_nil, or_false] at hd
  rcases hd with h | h | h <;> subst h <;> exact ⟨_, rfl, by decide, by decide⟩
theorem rng_nat {m : Nat} (h : m < 1000000) (ρ : Env) (M : Mem) : oRng1 [.int (m : Int)] ρ M = some (.ok ((List.range m).map fun (i : Nat) => D.int (i : Int)), M) := by
  rw [oRng1_ap _ _ _ (by omega) (by omega), Int.toNat_natCast]
theorem parts_eq {c n : Nat} {M : Mem} {f : Rat} (hr : HasReel c n M) (hc : c + 100 < 2 ^ 30) (hf : FulI f) : ∃ P M', F__law_parts [.ptr n, frQ f, .int 6] M = some (.ok (.lst (P.map iP)), M') ∧ Laid f 6 600000 P ∧ Turned (c + 100) n M M' := by
  have hn := hr.lt
  obtain ⟨v1, M1, e1, a1, b1, t1⟩ := take_eq (m := 3) hr (by omega) (by decide) (small_lt _ (by decide) (by decide))
  obtain ⟨z, ez, hz⟩ := size3 a1 b1
  have hr1 := t1.has.app (some [])
  obtain ⟨v2, M2, e2, a2, b2, t2⟩ := take_eq (m := 7) hr1 (by omega) (by decide) (small_lt _ (by decide) (by decide))
  have l1 : M1.length = M.length := t1.len
  have g0 : RwI (c + 1) n M1.length [] (M1 ++ [some []]) := ⟨hr1, last_cell M1 _, by omega⟩
  obtain ⟨k, rfl⟩ : ∃ k : Nat, v2 = k := ⟨v2.toNat, by omega⟩
  obtain ⟨ps, M3, o5, e3, h1, h2, h3, h4, h5⟩ := parts_loop (k := .int 6) hf hz ((List.range k).map fun (i : Nat) => D.int (i : Int)) (c + 2) M2 [] none (g0.turn t2) (by simp) (by simp; omega) (by simp; omega)
  have lk : ps.length ≤ 6 := by simp at h5; omega
  obtain ⟨e4, ld⟩ := laid_eq (f := f) (N := 100000) (by decide) (by decide) h3.lst h4 (by omega)
  have hl2 : M2.length = M.length + 1 := by rw [t2.len]; simp [l1]
  have h6 : 100000 * (ps.length : Int) ≤ 600000 := by omega
  have tc := turn_cut hr (M' := M3.set M1.length none) (c' := c + 100) (by simp; omega) (fun j hj hjn => by
    rw [List.getElem?_set_ne (by omega), h2 j hjn (by omega), t2.oth j hjn, List.getElem?_append_left (by omega), t1.oth j hjn]) ((h3.has.mono (by simp; omega)).put (by omega) none)
  refine ⟨ps.foldl insI [], _, ?_, ld.mono lk h6, tc⟩
  refine runF_rt (M2 := M3.set M1.length none) ?_ (by simp; omega) rfl
  have nw : ∀ ρ, oNew [] ρ M1 = some (.ok (.ptr M1.length), M1 ++ [some []]) := fun ρ => rfl
  have e2' : F__law_take [.ptr n, .int (6 + 1)] (M1 ++ [some []]) = some (.ok (.int (k : Int)), M2) := e2
  simp -implicitDefEqProofs only [den__law_parts, sSeq_ap, sAsg_ap, sPar_ap, sRet_ap, sIf_ap, sExpr_ap, sNext_ap, bnd_ap, ret_ap, bindR_ok, thenR_ok, dVar_ap, varR_ok, seqR_nx, seqR_rt, asgR_ok, gNm_ap, gCn_ap, gcnR_ok, gNl_ap, gTp_fr, gTp_ap, gLs_ap, dCons_ap, dNil_ap, asB_ap, dOr_ap, dAnd_ap, dNot_ap, dAndV_ap, dOrV_ap, dNotV_ap, dIf_ap, oAdd_int, oSub_int, oLt_int, oLe_int, oGt_int, oGe_int, oNeg_int, oEq_int, oNe_int, oEq_fr, oNe_fr, oEq_bl, oNe_bl, oTup_ap, oLst_ap, oCall_ap, oAbs_ap, oMax_ap, oMin_ap, oToInt_b, oToInt_i, oLen_lst, oLen_scr, oLen_tup, oIx_lst, oIx_scr, oAdd_lst, oIx_tup, oIx_fr0, oIx_fr1, ixR_ok, oItL_ap, oItT_ap, sFor_ap, startD, List.map_cons, List.map_nil, List.length_cons, List.length_nil, List.replicate_succ, List.replicate_zero, List.cons_append, List.nil_append, List.append_nil, List.getElem?_cons_zero, List.getElem?_cons_succ, List.set_cons_zero, List.set_cons_succ, Nat.reduceAdd, Nat.reduceSub, Nat.sub_self, Nat.reduceLeDiff, List.all_cons, List.all_nil, np_fr, np_int, np_bl, np_tup, np_lst, np_str, np_non, Bool.and_self, Bool.and_true, if_true_, if_false_, zero_add', if_tt, if_ff, decide_true, decide_false, Nat.le_refl, oItS_lst, oItS_tup, oTupOf_lst, oTupOf_tup, oLstOf_lst, oLstOf_tup, oRv_lst, oRv_tup, oAdd_tup, dChain_ap, asTru_bl, asTru_tup, asTru_lst, oIsN_ap, oNotN_ap, asI_ap, oSl_tup, oSl_lst, oZip_tup, oZip_lst, oAddI_ap, oEqS_ap, oNeS_ap, oNe_nil, e1, ez, nw, e2', rng_nat (show k < 1000000 by omega), e3, e4]
theorem long_ly {f : Rat} {v : Int} (h0 : 0 ≤ v) (h9 : v < 9) (hf : frQ f = .tup [.int (1 + v), .int 1]) (w g : Int) (hw : 1 ≤ w ∧ w ≤ 7) (hg : 0 ≤ g ∧ g < 397) : LyI f (397 * w, (1 + v) * w * g) ∧ Le2 30000 (397 * w, (1 + v) * w * g) := by
  unfold frQ at hf
  injection hf with hf
  injection hf with e1 e2
  injection e1 with e1
  injection e2 with e2
  injection e2 with e2
  have x1 : (1 + v) * w ≤ 9 * 7 := Int.mul_le_mul (by omega) hw.2 (by omega) (by omega)
  have x0 : 0 ≤ (1 + v) * w := Int.mul_nonneg (by omega) (by omega)
  have x2 : (1 + v) * w * g ≤ 63 * 396 := Int.mul_le_mul x1 (by omega) hg.1 (by omega)
  refine ⟨⟨by show 0 ≤ 397 * w; omega, Int.mul_nonneg x0 hg.1, fun z => absurd z (by show ¬ (397 * w = 0); omega), fun _ => ?_⟩, by show 397 * w ≤ 30000; omega, by show (1 + v) * w * g ≤ 30000; omega⟩
  show (1 + v) * w * g * (f.den : Int) ≤ f.num * (397 * w)
  rw [e1, e2, Int.mul_one]
  have : (1 + v) * w * g ≤ (1 + v) * w * 397 := Int.mul_le_mul_of_nonneg_left (by omega) x0
  have e : (1 + v) * (397 * w) = (1 + v) * w * 397 := by rw [Int.mul_comm 397 w, Int.mul_assoc]
  omega
theorem long_loop {n m : Nat} {f : Rat} {v : Int} {k : D} (h0 : 0 ≤ v) (h9 : v < 9) (hf : frQ f = .tup [.int (1 + v), .int 1]) : ∀ (is : List Nat) (c : Nat) (M : Mem) (ps : List (Int × Int)) (o4 o5 : Option D), RwI c n m ps M → (∀ p ∈ ps, LyI f p ∧ Le2 30000 p) → (∀ i ∈ is, i < 1000) → ps.length + is.length ≤ 1000 →
    ∃ ps' M' o4' o5', forF (gNm 4) den__law_long_L1 (is.map fun (i : Nat) => D.int (i : Int)) [some (.ptr n), some k, some (frQ f), some (.ptr m), o4, o5] M = some (.nx [some (.ptr n), some k, some (frQ f), some (.ptr m), o4', o5'], M') ∧ M'.length = M.length ∧ (∀ j, j ≠ m → M'[j]? = M[j]?) ∧ RwI c n m ps' M' ∧ (∀ p ∈ ps', LyI f p ∧ Le2 30000 p) ∧ ps'.length = ps.length + is.length
  | [], c, M, ps, o4, o5, g, hp, hi, hl => ⟨ps, M, o4, o5, rfl, rfl, fun _ _ => rfl, g, hp, rfl⟩
  | i :: is, c, M, ps, o4, o5, g, hp, hi, hl => by
    rw [List.length_cons] at hl
    have hi0 := hi i (by simp)
    have b1 := fmod_pos (i := (i : Int)) (m := 7) (by decide)
    have b2 := fmod_pos (i := (i : Int) * 100) (m := 397) (by decide)
    generalize hw : (i : Int).fmod 7 = w0 at b1
    generalize hgg : ((i : Int) * 100).fmod 397 = g0 at b2
    have ly := long_ly h0 h9 hf (1 + w0) g0 (by omega) (by omega)
    have g1 := g.push (397 * (1 + w0), (1 + v) * (1 + w0) * g0)
    obtain ⟨ps', M', o4', o5', e2, a1, a2, a3, a4, a5⟩ := long_loop (k := k) h0 h9 hf is c _ (ps ++ [(397 * (1 + w0), (1 + v) * (1 + w0) * g0)]) (some (.int (i : Int))) (some (.int (1 + w0))) g1 (fun x hx => by
      rcases List.mem_append.mp hx with y | y
      · exact hp x y
      · simp at y; subst y; exact ly) (fun j hj => hi j (by simp [hj])) (by simp; omega)
    refine ⟨ps', M', o4', o5', ?_, by rw [a1, List.length_set], fun j b => by rw [a2 j b, List.getElem?_set_ne (Ne.symm b)], a3, a4, by rw [a5]; simp; omega⟩
    have z7 : (7 : Int) ≠ 0 := by decide
    have z397 : (397 : Int) ≠ 0 := by decide
    have k1 : MulOk 397 (1 + w0) := MulOk.of (a := 10) (b := 10) (by decide) (by omega)
    have k2 : MulOk (1 + v) (1 + w0) := MulOk.of (a := 10) (b := 10) (by omega) (by omega)
    have k3 : MulOk (i : Int) 100 := MulOk.of (a := 10) (b := 10) (by omega) (by decide)
    have k4 : MulOk ((1 + v) * (1 + w0)) g0 := MulOk.of (a := 20) (b := 10) (by rw [Int.natAbs_mul]; exact mul_lt_pow (m := 10) (n := 10) (by omega) (by omega)) (by omega)
    have st : den__law_long_L1 [some (.ptr n), some k, some (frQ f), some (.ptr m), some (.int (i : Int)), o5] M = some (.nx [some (.ptr n), some k, some (frQ f), some (.ptr m), some (.int (i : Int)), some (.int (1 + w0))], M.set m (some (ps.map iP ++ [iP (397 * (1 + w0), (1 + v) * (1 + w0) * g0)]))) := by
      rw [hf]
      have ia : atI [D.int (1 + v), D.int 1] 0 = some (.int (1 + v)) := rfl
      have ap : ∀ ρ, oApp (.ptr m) (.tup [.int (397 * (1 + w0)), .int ((1 + v) * (1 + w0) * g0)]) ρ M = some (.ok .non, M.set m (some (ps.map iP ++ [iP (397 * (1 + w0), (1 + v) * (1 + w0) * g0)]))) := fun ρ => app_iP (p := (397 * (1 + w0), (1 + v) * (1 + w0) * g0)) g.lst (by omega) ρ
      simp -implicitDefEqProofs only [den__law_long_L1, sSeq_ap, sAsg_ap, sPar_ap, sRet_ap, sIf_ap, sExpr_ap, sNext_ap, bnd_ap, ret_ap, bindR_ok, thenR_ok, dVar_ap, varR_ok, seqR_nx, seqR_rt, asgR_ok, gNm_ap, gCn_ap, gcnR_ok, gNl_ap, gTp_fr, gTp_ap, gLs_ap, dCons_ap, dNil_ap, asB_ap, dOr_ap, dAnd_ap, dNot_ap, dAndV_ap, dOrV_ap, dNotV_ap, dIf_ap, oAdd_int, oSub_int, oLt_int, oLe_int, oGt_int, oGe_int, oNeg_int, oEq_int, oNe_int, oEq_fr, oNe_fr, oEq_bl, oNe_bl, oTup_ap, oLst_ap, oCall_ap, oAbs_ap, oMax_ap, oMin_ap, oToInt_b, oToInt_i, oLen_lst, oLen_scr, oLen_tup, oIx_lst, oIx_scr, oAdd_lst, oIx_tup, oIx_fr0, oIx_fr1, ixR_ok, oItL_ap, oItT_ap, sFor_ap, startD, List.map_cons, List.map_nil, List.length_cons, List.length_nil, List.replicate_succ, List.replicate_zero, List.cons_append, List.nil_append, List.append_nil, List.getElem?_cons_zero, List.getElem?_cons_succ, List.set_cons_zero, List.set_cons_succ, Nat.reduceAdd, Nat.reduceSub, Nat.sub_self, Nat.reduceLeDiff, List.all_cons, List.all_nil, np_fr, np_int, np_bl, np_tup, np_lst, np_str, np_non, Bool.and_self, Bool.and_true, if_true_, if_false_, zero_add', if_tt, if_ff, decide_true, decide_false, Nat.le_refl, oItS_lst, oItS_tup, oTupOf_lst, oTupOf_tup, oLstOf_lst, oLstOf_tup, oRv_lst, oRv_tup, oAdd_tup, dChain_ap, asTru_bl, asTru_tup, asTru_lst, oIsN_ap, oNotN_ap, asI_ap, oSl_tup, oSl_lst, oZip_tup, oZip_lst, oAddI_ap, oEqS_ap, oNeS_ap, oNe_nil, oMod_int z7, hw, okP_ g.lst, oMul_int k1, ia, oMul_int k2, oMul_int k3, oMod_int z397, hgg, oMul_int k4, ap]
    rw [List.map_cons, forF_cons, gNm_ap, forB_ok]
    simp -implicitDefEqProofs only [List.set_cons_zero, List.set_cons_succ]
    rw [st, ofR_nx, e2]
theorem long_eq {c n few : Nat} {M : Mem} (hr : HasReel c n M) (hc : c + 100 < 2 ^ 30) (hfew : few ≤ 200) : ∃ f P M', F__law_long [.ptr n, .int (few : Int)] M = some (.ok (.tup [frQ f, .lst (P.map iP)]), M') ∧ FulI f ∧ Laid f (few + 9) (30000 * (few + 9)) P ∧ Turned (c + 100) n M M' := by
  have hn := hr.lt
  obtain ⟨v1, M1, e1, a1, b1, t1⟩ := take_eq (m := 9) hr (by omega) (by decide) (small_lt _ (by decide) (by decide))
  have hf : frQ ((1 + v1 : Int) : Rat) = .tup [.int (1 + v1), .int 1] := rfl
  have fu : FulI ((1 + v1 : Int) : Rat) := ⟨by show 0 < 1 + v1; omega, by show 1 + v1 ≤ 1000; omega, by show (1 : Int) ≤ 1000; decide⟩
  have k1 : MulOk 794 (1 + v1) := MulOk.of (a := 10) (b := 10) (by decide) (by omega)
  have p0 : ∀ p ∈ [((0 : Int), (1191 : Int)), (794, 794 * (1 + v1))], LyI ((1 + v1 : Int) : Rat) p ∧ Le2 30000 p := by
    intro p hp
    simp -implicitDefEqProofs only [List.mem_cons, List.not_mem_nil, or_false] at hp
    rcases hp with h | h <;> subst h
    · exact ⟨⟨by decide, by decide, fun _ => by decide, fun z => absurd z (by decide)⟩, by decide, by decide⟩
    · exact ⟨⟨by show (0 : Int) ≤ 794; decide, by show 0 ≤ 794 * (1 + v1); omega, fun z => absurd z (by show ¬ ((794 : Int) = 0); decide), fun _ => by show 794 * (1 + v1) * 1 ≤ (1 + v1) * 794; omega⟩, by show (794 : Int) ≤ 30000; decide, by show 794 * (1 + v1) ≤ 30000; omega⟩
  have hr1 := t1.has.app (some ([((0 : Int), (1191 : Int)), (794, 794 * (1 + v1))].map iP))
  obtain ⟨v2, M2, e2, a2, b2, t2⟩ := take_eq (m := 8) hr1 (by omega) (by decide) (small_lt _ (by decide) (by decide))
  have l1 : M1.length = M.length := t1.len
  have g0 : RwI (c + 1) n M1.length [((0 : Int), (1191 : Int)), (794, 794 * (1 + v1))] (M1 ++ [some ([((0 : Int), (1191 : Int)), (794, 794 * (1 + v1))].map iP)]) := ⟨hr1, last_cell M1 _, by omega⟩
  obtain ⟨k, rfl⟩ : ∃ k : Nat, v2 = k := ⟨v2.toNat, by omega⟩
  obtain ⟨ps, M3, o4, o5, e3, h1, h2, h3, h4, h5⟩ := long_loop (k := .int (few : Int)) a1 b1 hf (List.range (few + k)) (c + 2) M2 _ none none (g0.turn t2) p0 (fun i hi => by have := List.mem_range.mp hi; omega) (by simp; omega)
  have lk : ps.length ≤ few + 9 := by simp at h5; omega
  obtain ⟨e4, ld⟩ := laid_eq (f := ((1 + v1 : Int) : Rat)) (N := 30000) (by decide) (by decide) h3.lst h4 (by omega)
  have hl2 : M2.length = M.length + 1 := by rw [t2.len]; simp [l1]
  have tc := turn_cut hr (M' := M3.set M1.length none) (c' := c + 100) (by simp; omega) (fun j hj hjn => by
    rw [List.getElem?_set_ne (by omega), h2 j (by omega), t2.oth j hjn, List.getElem?_append_left (by omega), t1.oth j hjn]) ((h3.has.mono (by omega)).put (by omega) none)
  refine ⟨_, ps.foldl insI [], _, ?_, fu, ld.mono lk (by omega), tc⟩
  refine runF_rt (M2 := M3.set M1.length none) ?_ (by simp; omega) rfl
  have nw : ∀ ρ, oNew [.tup [.int 0, .int (397 * 3)], .tup [.int (397 * 2), .int (397 * 2 * (1 + v1))]] ρ M1 = some (.ok (.ptr M1.length), M1 ++ [some ([((0 : Int), (1191 : Int)), (794, 794 * (1 + v1))].map iP)]) := fun ρ => rfl
  have ia : atI [D.int (1 + v1), D.int 1] 0 = some (.int (1 + v1)) := rfl
  have m3 : MulOk 397 3 := MulOk.of (a := 10) (b := 10) (by decide) (by decide)
  have m2 : MulOk 397 2 := MulOk.of (a := 10) (b := 10) (by decide) (by decide)
  have m1 : MulOk (397 * 2) (1 + v1) := k1
  have rg : ∀ ρ M, oRng1 [.int ((few : Int) + (k : Int))] ρ M = some (.ok ((List.range (few + k)).map fun (i : Nat) => D.int (i : Int)), M) := fun ρ M => by
    have := rng_nat (m := few + k) (by omega) ρ M
    push_cast at this; exact this
  rw [hf] at e3
  rw [hf]
  rw [List.map_cons, List.map_cons, List.map_nil] at e2
  simp -implicitDefEqProofs only [den__law_long, sSeq_ap, sAsg_ap, sPar_ap, sRet_ap, sIf_ap, sExpr_ap, sNext_ap, bnd_ap, ret_ap, bindR_ok, thenR_ok, dVar_ap, varR_ok, seqR_nx, seqR_rt, asgR_ok, gNm_ap, gCn_ap, gcnR_ok, gNl_ap, gTp_fr, gTp_ap, gLs_ap, dCons_ap, dNil_ap, asB_ap, dOr_ap, dAnd_ap, dNot_ap, dAndV_ap, dOrV_ap, dNotV_ap, dIf_ap, oAdd_int, oSub_int, oLt_int, oLe_int, oGt_int, oGe_int, oNeg_int, oEq_int, oNe_int, oEq_fr, oNe_fr, oEq_bl, oNe_bl, oTup_ap, oLst_ap, oCall_ap, oAbs_ap, oMax_ap, oMin_ap, oToInt_b, oToInt_i, oLen_lst, oLen_scr, oLen_tup, oIx_lst, oIx_scr, oAdd_lst, oIx_tup, oIx_fr0, oIx_fr1, ixR_ok, oItL_ap, oItT_ap, sFor_ap, startD, List.map_cons, List.map_nil, List.length_cons, List.length_nil, List.replicate_succ, List.replicate_zero, List.cons_append, List.nil_append, List.append_nil, List.getElem?_cons_zero, List.getElem?_cons_succ, List.set_cons_zero, List.set_cons_succ, Nat.reduceAdd, Nat.reduceSub, Nat.sub_self, Nat.reduceLeDiff, List.all_cons, List.all_nil, np_fr, np_int, np_bl, np_tup, np_lst, np_str, np_non, Bool.and_self, Bool.and_true, if_true_, if_false_, zero_add', if_tt, if_ff, decide_true, decide_false, Nat.le_refl, oItS_lst, oItS_tup, oTupOf_lst, oTupOf_tup, oLstOf_lst, oLstOf_tup, oRv_lst, oRv_tup, oAdd_tup, dChain_ap, asTru_bl, asTru_tup, asTru_lst, oIsN_ap, oNotN_ap, asI_ap, oSl_tup, oSl_lst, oZip_tup, oZip_lst, oAddI_ap, oEqS_ap, oNeS_ap, oNe_nil, e1, oMul_int m3, oMul_int m2, ia, oMul_int m1, nw, e2, rg, e3, e4]
/-! a case: a full strength, a unit, whole parts -/
structure CaseOk (f : Rat) (u : Int) (P : List (Int × Int)) : Prop where
  fu : FulI f
  un : 1 ≤ u ∧ u ≤ 1000
  pa : Laid f 140 4000000 P
  wb : sW P ≤ 999999 * u
theorem case_eq {c n : Nat} {M : Mem} {far : Bool} (hr : HasReel c n M) (hc : c + 300 < 2 ^ 30) : ∃ f u P M', F__law_case [.ptr n, .bl far] M = some (.ok (.tup [frQ f, .int u, .lst (P.map iP)]), M') ∧ CaseOk f u P ∧ Turned (c + 300) n M M' := by
  have short : ∀ {c' : Nat} {M0 : Mem}, HasReel c' n M0 → c' + 200 < 2 ^ 30 → ∃ f u P M1 M2 M3, F__law_full [.ptr n] M0 = some (.ok (frQ f), M1) ∧ F__law_unit [.ptr n] M1 = some (.ok (.int u), M2) ∧ F__law_parts [.ptr n, frQ f, .int 6] M2 = some (.ok (.lst (P.map iP)), M3) ∧ CaseOk f u P ∧ Turned (c' + 200) n M0 M3 := by
    intro c' M0 hr0 hc0
    obtain ⟨f, M1, e1, hf, t1⟩ := full_eq hr0 (by omega)
    obtain ⟨u, M2, e2, hu, t2⟩ := unit_eq t1.has (by omega)
    obtain ⟨P, M3, e3, hp, t3⟩ := parts_eq t2.has (by omega) hf
    exact ⟨f, u, P, M1, M2, M3, e1, e2, e3, ⟨hf, hu, hp.mono (by decide) (by decide), by have := hp.w; omega⟩, (t1.trans (t2.trans t3)).mono (by omega)⟩
  cases far with
  | false =>
    obtain ⟨f, u, P, M1, M2, M3, e1, e2, e3, hk, t⟩ := short hr (by omega)
    have tt := t.mono (c' := c + 300) (by omega)
    refine ⟨f, u, P, M3, run_t ?_ tt rfl, hk, tt⟩
    simp -implicitDefEqProofs only [den__law_case, sSeq_ap, sAsg_ap, sPar_ap, sRet_ap, sIf_ap, sExpr_ap, sNext_ap, bnd_ap, ret_ap, bindR_ok, thenR_ok, dVar_ap, varR_ok, seqR_nx, seqR_rt, asgR_ok, gNm_ap, gCn_ap, gcnR_ok, gNl_ap, gTp_fr, gTp_ap, gLs_ap, dCons_ap, dNil_ap, asB_ap, dOr_ap, dAnd_ap, dNot_ap, dAndV_ap, dOrV_ap, dNotV_ap, dIf_ap, oAdd_int, oSub_int, oLt_int, oLe_int, oGt_int, oGe_int, oNeg_int, oEq_int, oNe_int, oEq_fr, oNe_fr, oEq_bl, oNe_bl, oTup_ap, oLst_ap, oCall_ap, oAbs_ap, oMax_ap, oMin_ap, oToInt_b, oToInt_i, oLen_lst, oLen_scr, oLen_tup, oIx_lst, oIx_scr, oAdd_lst, oIx_tup, oIx_fr0, oIx_fr1, ixR_ok, oItL_ap, oItT_ap, sFor_ap, startD, List.map_cons, List.map_nil, List.length_cons, List.length_nil, List.replicate_succ, List.replicate_zero, List.cons_append, List.nil_append, List.append_nil, List.getElem?_cons_zero, List.getElem?_cons_succ, List.set_cons_zero, List.set_cons_succ, Nat.reduceAdd, Nat.reduceSub, Nat.sub_self, Nat.reduceLeDiff, List.all_cons, List.all_nil, np_fr, np_int, np_bl, np_tup, np_lst, np_str, np_non, Bool.and_self, Bool.and_true, if_true_, if_false_, zero_add', if_tt, if_ff, decide_true, decide_false, Nat.le_refl, oItS_lst, oItS_tup, oTupOf_lst, oTupOf_tup, oLstOf_lst, oLstOf_tup, oRv_lst, oRv_tup, oAdd_tup, dChain_ap, asTru_bl, asTru_tup, asTru_lst, oIsN_ap, oNotN_ap, asI_ap, oSl_tup, oSl_lst, oZip_tup, oZip_lst, oAddI_ap, oEqS_ap, oNeS_ap, oNe_nil, Bool.false_eq_true, e1, e2, e3]
  | true =>
    obtain ⟨v, M0, e0, a0, b0, t0⟩ := take_eq (m := 2) hr (by omega) (by decide) (small_lt _ (by decide) (by decide))
    by_cases hv : v = 0
    · obtain ⟨v', M0', e0', a0', b0', t0'⟩ := take_eq (m := 2) t0.has (by omega) (by decide) (small_lt _ (by decide) (by decide))
      have many : ∃ few : Nat, few ≤ 120 ∧ atI [D.int 24, .int 120] v' = some (.int (few : Int)) := by
        have : v' = 0 ∨ v' = 1 := by omega
        rcases this with rfl | rfl
        · exact ⟨24, by decide, rfl⟩
        · exact ⟨120, by decide, rfl⟩
      obtain ⟨few, hfew, ef⟩ := many
      obtain ⟨f, P, M1, e1, hf, hp, t1⟩ := long_eq (few := few) t0'.has (by omega) (by omega)
      have tt := (t0.trans (t0'.trans t1)).mono (c' := c + 300) (by omega)
      have tg : ∀ (a b : D) c ρ, gTp 2 c (.tup [a, b]) ρ = c [a, b] ρ := fun _ _ _ _ => rfl
      refine ⟨f, 397, P, M1, run_t ?_ tt rfl, ⟨hf, by decide, hp.mono (by omega) (by omega), by have := hp.w; omega⟩, tt⟩
      subst hv
      simp -implicitDefEqProofs only [den__law_case, sSeq_ap, sAsg_ap, sPar_ap, sRet_ap, sIf_ap, sExpr_ap, sNext_ap, bnd_ap, ret_ap, bindR_ok, thenR_ok, dVar_ap, varR_ok, seqR_nx, seqR_rt, asgR_ok, gNm_ap, gCn_ap, gcnR_ok, gNl_ap, gTp_fr, gTp_ap, gLs_ap, dCons_ap, dNil_ap, asB_ap, dOr_ap, dAnd_ap, dNot_ap, dAndV_ap, dOrV_ap, dNotV_ap, dIf_ap, oAdd_int, oSub_int, oLt_int, oLe_int, oGt_int, oGe_int, oNeg_int, oEq_int, oNe_int, oEq_fr, oNe_fr, oEq_bl, oNe_bl, oTup_ap, oLst_ap, oCall_ap, oAbs_ap, oMax_ap, oMin_ap, oToInt_b, oToInt_i, oLen_lst, oLen_scr, oLen_tup, oIx_lst, oIx_scr, oAdd_lst, oIx_tup, oIx_fr0, oIx_fr1, ixR_ok, oItL_ap, oItT_ap, sFor_ap, startD, List.map_cons, List.map_nil, List.length_cons, List.length_nil, List.replicate_succ, List.replicate_zero, List.cons_append, List.nil_append, List.append_nil, List.getElem?_cons_zero, List.getElem?_cons_succ, List.set_cons_zero, List.set_cons_succ, Nat.reduceAdd, Nat.reduceSub, Nat.sub_self, Nat.reduceLeDiff, List.all_cons, List.all_nil, np_fr, np_int, np_bl, np_tup, np_lst, np_str, np_non, Bool.and_self, Bool.and_true, if_true_, if_false_, zero_add', if_tt, if_ff, decide_true, decide_false, Nat.le_refl, oItS_lst, oItS_tup, oTupOf_lst, oTupOf_tup, oLstOf_lst, oLstOf_tup, oRv_lst, oRv_tup, oAdd_tup, dChain_ap, asTru_bl, asTru_tup, asTru_lst, oIsN_ap, oNotN_ap, asI_ap, oSl_tup, oSl_lst, oZip_tup, oZip_lst, oAddI_ap, oEqS_ap, oNeS_ap, oNe_nil, e0, e0', ef, e1]
    · obtain ⟨f, u, P, M1, M2, M3, e1, e2, e3, hk, t⟩ := short t0.has (by omega)
      have tt := (t0.trans t).mono (c' := c + 300) (by omega)
      refine ⟨f, u, P, M3, run_t ?_ tt rfl, hk, tt⟩
      simp -implicitDefEqProofs only [den__law_case, sSeq_ap, sAsg_ap, sPar_ap, sRet_ap, sIf_ap, sExpr_ap, sNext_ap, bnd_ap, ret_ap, bindR_ok, thenR_ok, dVar_ap, varR_ok, seqR_nx, seqR_rt, asgR_ok, gNm_ap, gCn_ap, gcnR_ok, gNl_ap, gTp_fr, gTp_ap, gLs_ap, dCons_ap, dNil_ap, asB_ap, dOr_ap, dAnd_ap, dNot_ap, dAndV_ap, dOrV_ap, dNotV_ap, dIf_ap, oAdd_int, oSub_int, oLt_int, oLe_int, oGt_int, oGe_int, oNeg_int, oEq_int, oNe_int, oEq_fr, oNe_fr, oEq_bl, oNe_bl, oTup_ap, oLst_ap, oCall_ap, oAbs_ap, oMax_ap, oMin_ap, oToInt_b, oToInt_i, oLen_lst, oLen_scr, oLen_tup, oIx_lst, oIx_scr, oAdd_lst, oIx_tup, oIx_fr0, oIx_fr1, ixR_ok, oItL_ap, oItT_ap, sFor_ap, startD, List.map_cons, List.map_nil, List.length_cons, List.length_nil, List.replicate_succ, List.replicate_zero, List.cons_append, List.nil_append, List.append_nil, List.getElem?_cons_zero, List.getElem?_cons_succ, List.set_cons_zero, List.set_cons_succ, Nat.reduceAdd, Nat.reduceSub, Nat.sub_self, Nat.reduceLeDiff, List.all_cons, List.all_nil, np_fr, np_int, np_bl, np_tup, np_lst, np_str, np_non, Bool.and_self, Bool.and_true, if_true_, if_false_, zero_add', if_tt, if_ff, decide_true, decide_false, Nat.le_refl, oItS_lst, oItS_tup, oTupOf_lst, oTupOf_tup, oLstOf_lst, oLstOf_tup, oRv_lst, oRv_tup, oAdd_tup, dChain_ap, asTru_bl, asTru_tup, asTru_lst, oIsN_ap, oNotN_ap, asI_ap, oSl_tup, oSl_lst, oZip_tup, oZip_lst, oAddI_ap, oEqS_ap, oNeS_ap, oNe_nil, e0, hv, decide_false, Bool.false_eq_true, e1, e2, e3]
/-! the brine of whole parts -/
def toQ (u : Int) (p : Int × Int) : Rat × Rat := (Rat.divInt p.1 u, Rat.divInt p.2 u)
abbrev brQ (u : Int) (P : List (Int × Int)) : List (Rat × Rat) := P.map (toQ u)
theorem brine_eq {u : Int} (hu : 1 ≤ u ∧ u ≤ 1000) (P : List (Int × Int)) (hl : P.length ≤ 2000) (M : Mem) : F__law_brine [.lst (P.map iP), .int u] M = some (.ok (.tup ((brQ u P).map lyQ)), M) := by
  refine runF_pure ?_ rfl
  have lc := fun M => oLc_en (en := iP) (b := gTp 2 (gCn (gNm 2) (gCn (gNm 3) gNl))) (tt := ret true) (te := (bnd (dCons (bnd (dCons (dVar 2) (dCons (dVar 1) dNil)) (oCall 2 F__law_low)) (dCons (bnd (dCons (dVar 3) (dCons (dVar 1) dNil)) (oCall 2 F__law_low)) dNil)) oTup)) (ρ := [some (.lst (P.map iP)), some (.int u), none, none]) (vs := [2, 3]) (p := fun _ => true) (g := fun p => lyQ (toQ u p)) (l := P) (M := M) (fun p _ => ⟨[some (.lst (P.map iP)), some (.int u), some (.int p.1), some (.int p.2)], rfl, fun M' _ => rfl, fun _ => ⟨rfl, fun M' _ => by
      have l1 := low_eq (t := p.1) (b := u) (by omega) (small_lt _ (by omega) (by omega))
      have l2 := low_eq (t := p.2) (b := u) (by omega) (small_lt _ (by omega) (by omega))
      simp -implicitDefEqProofs only [sSeq_ap, sAsg_ap, sPar_ap, sRet_ap, sIf_ap, sExpr_ap, sNext_ap, bnd_ap, ret_ap, bindR_ok, thenR_ok, dVar_ap, varR_ok, seqR_nx, seqR_rt, asgR_ok, gNm_ap, gCn_ap, gcnR_ok, gNl_ap, gTp_fr, gTp_ap, gLs_ap, dCons_ap, dNil_ap, asB_ap, dOr_ap, dAnd_ap, dNot_ap, dAndV_ap, dOrV_ap, dNotV_ap, dIf_ap, oAdd_int, oSub_int, oLt_int, oLe_int, oGt_int, oGe_int, oNeg_int, oEq_int, oNe_int, oEq_fr, oNe_fr, oEq_bl, oNe_bl, oTup_ap, oLst_ap, oCall_ap, oAbs_ap, oMax_ap, oMin_ap, oToInt_b, oToInt_i, oLen_lst, oLen_scr, oLen_tup, oIx_lst, oIx_scr, oAdd_lst, oIx_tup, oIx_fr0, oIx_fr1, ixR_ok, oItL_ap, oItT_ap, sFor_ap, startD, List.map_cons, List.map_nil, List.length_cons, List.length_nil, List.replicate_succ, List.replicate_zero, List.cons_append, List.nil_append, List.append_nil, List.getElem?_cons_zero, List.getElem?_cons_succ, List.set_cons_zero, List.set_cons_succ, Nat.reduceAdd, Nat.reduceSub, Nat.sub_self, Nat.reduceLeDiff, List.all_cons, List.all_nil, np_fr, np_int, np_bl, np_tup, np_lst, np_str, np_non, Bool.and_self, Bool.and_true, if_true_, if_false_, zero_add', if_tt, if_ff, decide_true, decide_false, Nat.le_refl, oItS_lst, oItS_tup, oTupOf_lst, oTupOf_tup, oLstOf_lst, oLstOf_tup, oRv_lst, oRv_tup, oAdd_tup, dChain_ap, asTru_bl, asTru_tup, asTru_lst, oIsN_ap, oNotN_ap, asI_ap, oSl_tup, oSl_lst, oZip_tup, oZip_lst, oAddI_ap, oEqS_ap, oNeS_ap, oNe_nil, l1, l2]
      rfl⟩⟩) (by omega)
  rw [filter_true] at lc
  simp -implicitDefEqProofs only [den__law_brine, sSeq_ap, sAsg_ap, sPar_ap, sRet_ap, sIf_ap, sExpr_ap, sNext_ap, bnd_ap, ret_ap, bindR_ok, thenR_ok, dVar_ap, varR_ok, seqR_nx, seqR_rt, asgR_ok, gNm_ap, gCn_ap, gcnR_ok, gNl_ap, gTp_fr, gTp_ap, gLs_ap, dCons_ap, dNil_ap, asB_ap, dOr_ap, dAnd_ap, dNot_ap, dAndV_ap, dOrV_ap, dNotV_ap, dIf_ap, oAdd_int, oSub_int, oLt_int, oLe_int, oGt_int, oGe_int, oNeg_int, oEq_int, oNe_int, oEq_fr, oNe_fr, oEq_bl, oNe_bl, oTup_ap, oLst_ap, oCall_ap, oAbs_ap, oMax_ap, oMin_ap, oToInt_b, oToInt_i, oLen_lst, oLen_scr, oLen_tup, oIx_lst, oIx_scr, oAdd_lst, oIx_tup, oIx_fr0, oIx_fr1, ixR_ok, oItL_ap, oItT_ap, sFor_ap, startD, List.map_cons, List.map_nil, List.length_cons, List.length_nil, List.replicate_succ, List.replicate_zero, List.cons_append, List.nil_append, List.append_nil, List.getElem?_cons_zero, List.getElem?_cons_succ, List.set_cons_zero, List.set_cons_succ, Nat.reduceAdd, Nat.reduceSub, Nat.sub_self, Nat.reduceLeDiff, List.all_cons, List.all_nil, np_fr, np_int, np_bl, np_tup, np_lst, np_str, np_non, Bool.and_self, Bool.and_true, if_true_, if_false_, zero_add', if_tt, if_ff, decide_true, decide_false, Nat.le_refl, oItS_lst, oItS_tup, oTupOf_lst, oTupOf_tup, oLstOf_lst, oLstOf_tup, oRv_lst, oRv_tup, oAdd_tup, dChain_ap, asTru_bl, asTru_tup, asTru_lst, oIsN_ap, oNotN_ap, asI_ap, oSl_tup, oSl_lst, oZip_tup, oZip_lst, oAddI_ap, oEqS_ap, oNeS_ap, oNe_nil, lc]
  rw [List.map_map]; rfl
theorem divInt_mul {u : Int} (a : Int) : Rat.divInt a u = (a : Rat) * ((u : Rat))⁻¹ := by rw [Rat.divInt_eq_div, Rat.div_def]
theorem LyI.lay {f : Rat} {p : Int × Int} (h : LyI f p) : LayOk f ((p.1 : Rat), (p.2 : Rat)) := by
  refine ⟨Rat.intCast_nonneg.mpr h.w, Rat.intCast_nonneg.mpr h.s, fun z => ?_, fun z => ?_⟩
  · exact Rat.intCast_pos.mpr (h.nz (by have z' : (p.1 : Rat) = 0 := z; exact_mod_cast z'))
  · have z' : 0 < p.1 := Rat.intCast_pos.mp z
    have := le_mul (f := f) (q := (p.1 : Rat)) (a := p.2) (b := 1) (by decide) (by
      have := h.le z'
      show p.2 * ((f.den : Int) * ((1 : Nat) : Int)) ≤ f.num * p.1 * 1
      simpa using this)
    have e : Rat.divInt p.2 1 = (p.2 : Rat) := by rw [Rat.divInt_eq_div, Rat.intCast_one]; grind
    rw [e] at this
    exact this
theorem toQ_lay {f : Rat} {u : Int} {p : Int × Int} (hu : 1 ≤ u) (h : LyI f p) : LayOk f (toQ u p) := by
  have := h.lay.scl (t := ((u : Rat))⁻¹) (Rat.inv_pos.mpr (Rat.intCast_pos.mpr (by omega)))
  unfold toQ
  rw [divInt_mul, divInt_mul]; exact this
theorem toQ_bel {u : Int} {a b : Int × Int} (hu : 1 ≤ u) (h : BelI a b) : Below (toQ u a) (toQ u b) := by
  show Rat.divInt b.2 u * Rat.divInt a.1 u < Rat.divInt a.2 u * Rat.divInt b.1 u
  rw [divInt_mul, divInt_mul, divInt_mul, divInt_mul]
  have t0 : 0 < ((u : Rat))⁻¹ := Rat.inv_pos.mpr (Rat.intCast_pos.mpr (by omega))
  generalize ((u : Rat))⁻¹ = t at t0
  have h1 : ((b.2 * a.1 : Int) : Rat) < ((a.2 * b.1 : Int) : Rat) := Rat.intCast_lt_intCast.mpr h
  have h2 := Rat.mul_lt_mul_of_pos_right h1 (Rat.mul_pos t0 t0)
  rw [Rat.intCast_mul, Rat.intCast_mul] at h2
  grind
theorem brQ_ok {f : Rat} {u : Int} {P : List (Int × Int)} (h : CaseOk f u P) : (∀ x ∈ brQ u P, LayOk f x ∧ BdL 23 x) ∧ (brQ u P).Pairwise Below ∧ (brQ u P).length ≤ 140 := by
  refine ⟨fun x hx => ?_, ?_, by rw [List.length_map]; exact h.pa.ln⟩
  · obtain ⟨p, hp, rfl⟩ := List.mem_map.mp hx
    have := h.pa.le hp
    have := (h.pa.ly p hp).w; have := (h.pa.ly p hp).s
    have := h.un
    exact ⟨toQ_lay h.un.1 (h.pa.ly p hp), bd_divInt (by omega) (by omega) (by omega), bd_divInt (by omega) (by omega) (by omega)⟩
  · rw [List.pairwise_map]
    exact h.pa.ds.imp fun r => toQ_bel h.un.1 r
theorem fallen_layers_eq {B : List (Rat × Rat)} (hl : B.length ≤ 2000) (M : Mem) : F_fallen_layers [.tup (B.map lyQ)] M = some (.ok (.tup ((dryOf B).map lyQ)), M) := by
  refine runF_pure ?_ rfl
  have lc := fun M => oLc_en (en := lyQ) (b := gNm 1) (tt := (bnd (bnd (bnd (dVar 1) fun d => bnd (ret (.int 0)) fun e => oIx d e) fun d => bnd (ret C_NOUGHT) fun e => oEq d e) asB)) (te := dVar 1) (ρ := [some (.tup (B.map lyQ)), none]) (vs := [1]) (p := fun x => decide (x.1 = 0)) (g := lyQ) (l := B) (M := M) (fun x _ => ⟨[some (.tup (B.map lyQ)), some (lyQ x)], rfl, fun M' _ => by
      simp -implicitDefEqProofs only [sSeq_ap, sAsg_ap, sPar_ap, sRet_ap, sIf_ap, sExpr_ap, sNext_ap, bnd_ap, ret_ap, bindR_ok, thenR_ok, dVar_ap, varR_ok, seqR_nx, seqR_rt, asgR_ok, gNm_ap, gCn_ap, gcnR_ok, gNl_ap, gTp_fr, gTp_ap, gLs_ap, dCons_ap, dNil_ap, asB_ap, dOr_ap, dAnd_ap, dNot_ap, dAndV_ap, dOrV_ap, dNotV_ap, dIf_ap, oAdd_int, oSub_int, oLt_int, oLe_int, oGt_int, oGe_int, oNeg_int, oEq_int, oNe_int, oEq_fr, oNe_fr, oEq_bl, oNe_bl, oTup_ap, oLst_ap, oCall_ap, oAbs_ap, oMax_ap, oMin_ap, oToInt_b, oToInt_i, oLen_lst, oLen_scr, oLen_tup, oIx_lst, oIx_scr, oAdd_lst, oIx_tup, oIx_fr0, oIx_fr1, ixR_ok, oItL_ap, oItT_ap, sFor_ap, startD, List.map_cons, List.map_nil, List.length_cons, List.length_nil, List.replicate_succ, List.replicate_zero, List.cons_append, List.nil_append, List.append_nil, List.getElem?_cons_zero, List.getElem?_cons_succ, List.set_cons_zero, List.set_cons_succ, Nat.reduceAdd, Nat.reduceSub, Nat.sub_self, Nat.reduceLeDiff, List.all_cons, List.all_nil, np_fr, np_int, np_bl, np_tup, np_lst, np_str, np_non, Bool.and_self, Bool.and_true, if_true_, if_false_, zero_add', if_tt, if_ff, decide_true, decide_false, Nat.le_refl, oItS_lst, oItS_tup, oTupOf_lst, oTupOf_tup, oLstOf_lst, oLstOf_tup, oRv_lst, oRv_tup, oAdd_tup, dChain_ap, asTru_bl, asTru_tup, asTru_lst, oIsN_ap, oNotN_ap, asI_ap, oSl_tup, oSl_lst, oZip_tup, oZip_lst, oAddI_ap, oEqS_ap, oNeS_ap, oNe_nil, oIx_ly0, nought_fr], fun _ => ⟨rfl, fun M' _ => by simp -implicitDefEqProofs only [sSeq_ap, sAsg_ap, sPar_ap, sRet_ap, sIf_ap, sExpr_ap, sNext_ap, bnd_ap, ret_ap, bindR_ok, thenR_ok, dVar_ap, varR_ok, seqR_nx, seqR_rt, asgR_ok, gNm_ap, gCn_ap, gcnR_ok, gNl_ap, gTp_fr, gTp_ap, gLs_ap, dCons_ap, dNil_ap, asB_ap, dOr_ap, dAnd_ap, dNot_ap, dAndV_ap, dOrV_ap, dNotV_ap, dIf_ap, oAdd_int, oSub_int, oLt_int, oLe_int, oGt_int, oGe_int, oNeg_int, oEq_int, oNe_int, oEq_fr, oNe_fr, oEq_bl, oNe_bl, oTup_ap, oLst_ap, oCall_ap, oAbs_ap, oMax_ap, oMin_ap, oToInt_b, oToInt_i, oLen_lst, oLen_scr, oLen_tup, oIx_lst, oIx_scr, oAdd_lst, oIx_tup, oIx_fr0, oIx_fr1, ixR_ok, oItL_ap, oItT_ap, sFor_ap, startD, List.map_cons, List.map_nil, List.length_cons, List.length_nil, List.replicate_succ, List.replicate_zero, List.cons_append, List.nil_append, List.append_nil, List.getElem?_cons_zero, List.getElem?_cons_succ, List.set_cons_zero, List.set_cons_succ, Nat.reduceAdd, Nat.reduceSub, Nat.sub_self, Nat.reduceLeDiff, List.all_cons, List.all_nil, np_fr, np_int, np_bl, np_tup, np_lst, np_str, np_non, Bool.and_self, Bool.and_true, if_true_, if_false_, zero_add', if_tt, if_ff, decide_true, decide_false, Nat.le_refl, oItS_lst, oItS_tup, oTupOf_lst, oTupOf_tup, oLstOf_lst, oLstOf_tup, oRv_lst, oRv_tup, oAdd_tup, dChain_ap, asTru_bl, asTru_tup, asTru_lst, oIsN_ap, oNotN_ap, asI_ap, oSl_tup, oSl_lst, oZip_tup, oZip_lst, oAddI_ap, oEqS_ap, oNeS_ap, oNe_nil]⟩⟩) (by omega)
  simp -implicitDefEqProofs only [den_fallen_layers, sSeq_ap, sAsg_ap, sPar_ap, sRet_ap, sIf_ap, sExpr_ap, sNext_ap, bnd_ap, ret_ap, bindR_ok, thenR_ok, dVar_ap, varR_ok, seqR_nx, seqR_rt, asgR_ok, gNm_ap, gCn_ap, gcnR_ok, gNl_ap, gTp_fr, gTp_ap, gLs_ap, dCons_ap, dNil_ap, asB_ap, dOr_ap, dAnd_ap, dNot_ap, dAndV_ap, dOrV_ap, dNotV_ap, dIf_ap, oAdd_int, oSub_int, oLt_int, oLe_int, oGt_int, oGe_int, oNeg_int, oEq_int, oNe_int, oEq_fr, oNe_fr, oEq_bl, oNe_bl, oTup_ap, oLst_ap, oCall_ap, oAbs_ap, oMax_ap, oMin_ap, oToInt_b, oToInt_i, oLen_lst, oLen_scr, oLen_tup, oIx_lst, oIx_scr, oAdd_lst, oIx_tup, oIx_fr0, oIx_fr1, ixR_ok, oItL_ap, oItT_ap, sFor_ap, startD, List.map_cons, List.map_nil, List.length_cons, List.length_nil, List.replicate_succ, List.replicate_zero, List.cons_append, List.nil_append, List.append_nil, List.getElem?_cons_zero, List.getElem?_cons_succ, List.set_cons_zero, List.set_cons_succ, Nat.reduceAdd, Nat.reduceSub, Nat.sub_self, Nat.reduceLeDiff, List.all_cons, List.all_nil, np_fr, np_int, np_bl, np_tup, np_lst, np_str, np_non, Bool.and_self, Bool.and_true, if_true_, if_false_, zero_add', if_tt, if_ff, decide_true, decide_false, Nat.le_refl, oItS_lst, oItS_tup, oTupOf_lst, oTupOf_tup, oLstOf_lst, oLstOf_tup, oRv_lst, oRv_tup, oAdd_tup, dChain_ap, asTru_bl, asTru_tup, asTru_lst, oIsN_ap, oNotN_ap, asI_ap, oSl_tup, oSl_lst, oZip_tup, oZip_lst, oAddI_ap, oEqS_ap, oNeS_ap, oNe_nil, lc]
def stir (B : List (Rat × Rat)) : List (Rat × Rat) := if wetOf B = [] then B else dryOf B ++ [(sumW (wetOf B), sumS (wetOf B))]
/-! what is taken of a row of dissolved layers, the first ones first -/
def por (x : Rat × Rat) (v : Rat) : Rat × Rat := (v, x.2 * (v / x.1))
def cut : List (Rat × Rat) → Rat → List (Rat × Rat) × List (Rat × Rat)
  | [], _ => ([], [])
  | x :: l, w => if x.1 ≤ w then (x :: (cut l (w - x.1)).1, (cut l (w - x.1)).2)
    else if w = 0 then ([], x :: l) else ([por x w], por x (x.1 - w) :: l)
abbrev Wet (l : List (Rat × Rat)) : Prop := ∀ x ∈ l, 0 < x.1
theorem Wet.tl {x : Rat × Rat} {l : List (Rat × Rat)} (h : Wet (x :: l)) : Wet l := fun y hy => h y (by simp [hy])
theorem Wet.hd {x : Rat × Rat} {l : List (Rat × Rat)} (h : Wet (x :: l)) : 0 < x.1 := h x (by simp)
theorem cut_ge {x : Rat × Rat} {l : List (Rat × Rat)} {w : Rat} (h : x.1 ≤ w) : cut (x :: l) w = (x :: (cut l (w - x.1)).1, (cut l (w - x.1)).2) := by rw [cut, if_pos h]
theorem cut_z {x : Rat × Rat} {l : List (Rat × Rat)} (h : 0 < x.1) : cut (x :: l) 0 = ([], x :: l) := by rw [cut, if_neg (Rat.not_le.mpr h), if_pos rfl]
theorem cut_lt {x : Rat × Rat} {l : List (Rat × Rat)} {w : Rat} (h : w < x.1) (h0 : w ≠ 0) : cut (x :: l) w = ([por x w], por x (x.1 - w) :: l) := by rw [cut, if_neg (Rat.not_le.mpr h), if_neg h0]
theorem cut_nil (w : Rat) : cut [] w = ([], []) := rfl
theorem cut_zero {l : List (Rat × Rat)} (h : Wet l) : cut l 0 = ([], l) := by
  cases l with
  | nil => rfl
  | cons x l => exact cut_z h.hd
theorem por_whole {x : Rat × Rat} (h : x.1 ≠ 0) : por x x.1 = x := by
  unfold por
  rw [Rat.div_def, Rat.mul_inv_cancel _ h, Rat.mul_one]
theorem por_sum {x : Rat × Rat} {a : Rat} (h : x.1 ≠ 0) : (por x a).2 + (por x (x.1 - a)).2 = x.2 := by
  unfold por
  have e := Rat.mul_inv_cancel _ h
  dsimp only
  rw [Rat.div_def, Rat.div_def]
  grind
theorem div_pos {a b : Rat} (ha : 0 < a) (hb : 0 < b) : 0 < a / b := by
  rw [Rat.div_def]
  exact Rat.mul_pos ha (Rat.inv_pos.mpr hb)
/-- a part of a layer, or the layer -/
inductive Pt (y : Rat × Rat) : Rat × Rat → Prop
  | all : Pt y y
  | some (v : Rat) (h0 : 0 < v) (h : v < y.1) : Pt y (por y v)
theorem cut_mem : ∀ {l : List (Rat × Rat)} {w : Rat}, Wet l → 0 ≤ w → (∀ x ∈ (cut l w).1, ∃ y ∈ l, Pt y x) ∧ (∀ x ∈ (cut l w).2, ∃ y ∈ l, Pt y x)
  | [], w, _, _ => ⟨fun x hx => by simp [cut] at hx, fun x hx => by simp [cut] at hx⟩
  | x :: l, w, h, h0 => by
    have hx := h.hd
    by_cases g : x.1 ≤ w
    · rw [cut_ge g]
      have ih := cut_mem (w := w - x.1) h.tl (by grind)
      refine ⟨fun y hy => ?_, fun y hy => ?_⟩
      · rcases List.mem_cons.mp hy with rfl | hy
        · exact ⟨y, by simp, .all⟩
        · obtain ⟨z, hz, e⟩ := ih.1 y hy; exact ⟨z, by simp [hz], e⟩
      · obtain ⟨z, hz, e⟩ := ih.2 y hy; exact ⟨z, by simp [hz], e⟩
    · by_cases z : w = 0
      · subst z; rw [cut_z hx]
        exact ⟨fun y hy => by simp at hy, fun y hy => ⟨y, hy, .all⟩⟩
      · have wl := Rat.not_le.mp g
        rw [cut_lt wl z]
        refine ⟨fun y hy => ?_, fun y hy => ?_⟩
        · simp at hy; subst hy; exact ⟨x, by simp, .some w (by grind) wl⟩
        · rcases List.mem_cons.mp hy with rfl | hy
          · exact ⟨x, by simp, .some (x.1 - w) (by grind) (by grind)⟩
          · exact ⟨y, by simp [hy], .all⟩
theorem Pt.pos {y x : Rat × Rat} (h : Pt y x) (hy : 0 < y.1) : 0 < x.1 := by
  cases h with
  | all => exact hy
  | some v h0 _ => exact h0
theorem Pt.ok {f : Rat} {y x : Rat × Rat} (h : Pt y x) (hy : 0 < y.1) (o : LayOk f y) : LayOk f x := by
  cases h with
  | all => exact o
  | some v h0 hv =>
    have t := div_pos h0 hy
    have e := Rat.mul_inv_cancel _ (Rat.ne_of_gt hy)
    have le := Rat.mul_le_mul_of_nonneg_right (o.le hy) (Rat.le_of_lt t)
    refine ⟨Rat.le_of_lt h0, Rat.mul_nonneg o.s (Rat.le_of_lt t), fun z => absurd z (Rat.ne_of_gt h0), fun _ => ?_⟩
    show y.2 * (v / y.1) ≤ f * v
    have : f * y.1 * (v / y.1) = f * v := by rw [Rat.div_def]; grind
    rw [this] at le; exact le
theorem cut_len : ∀ {l : List (Rat × Rat)} {w : Rat}, (cut l w).1.length ≤ l.length ∧ (cut l w).2.length ≤ l.length
  | [], w => ⟨by simp [cut], by simp [cut]⟩
  | x :: l, w => by
    have ih := cut_len (l := l) (w := w - x.1)
    rw [cut]
    split
    · simp; omega
    · split <;> simp
/-! sizes -/
def Gu (U : Int) (q : Rat) : Prop := ∃ a : Int, q = (a : Rat) * (U : Rat)⁻¹
theorem Gu.sub {U : Int} {p q : Rat} (hp : Gu U p) (hq : Gu U q) : Gu U (p - q) := by
  obtain ⟨a, rfl⟩ := hp; obtain ⟨b, rfl⟩ := hq
  exact ⟨a - b, by rw [Rat.intCast_sub]; grind⟩
theorem Gu.add {U : Int} {p q : Rat} (hp : Gu U p) (hq : Gu U q) : Gu U (p + q) := by
  obtain ⟨a, rfl⟩ := hp; obtain ⟨b, rfl⟩ := hq
  exact ⟨a + b, by rw [Rat.intCast_add, Rat.add_mul]⟩
theorem Gu.bd {U : Int} {q : Rat} (h : Gu U q) (hU : 1 ≤ U ∧ U ≤ 2000) (h0 : 0 ≤ q) (h1 : q ≤ ((2 ^ 20 : Int) : Rat)) : Bd 32 q := by
  obtain ⟨a, rfl⟩ := h
  have up : (0 : Rat) < (U : Rat) := by exact_mod_cast (show (0 : Int) < U by omega)
  have e := Rat.mul_inv_cancel (U : Rat) (Rat.ne_of_gt up)
  have x : (a : Rat) * (U : Rat)⁻¹ * U = a := by grind
  have y1 := Rat.mul_nonneg h0 (Rat.le_of_lt up)
  have y2 := Rat.mul_le_mul_of_nonneg_right h1 (Rat.le_of_lt up)
  rw [x] at y1 y2
  have z1 : (0 : Int) ≤ a := by exact_mod_cast y1
  have z2 : a ≤ 2 ^ 20 * U := by exact_mod_cast y2
  rw [← divInt_mul]
  exact bd_divInt (by omega) (by omega) (by omega)
theorem SzL.one {n : Nat} {x : Rat × Rat} (h : BdL n x) : SzL (n + 1) [x] := by
  have := SzL.of_bd (b := n) (l := [x]) (by intro p hp; simp at hp; subst hp; exact h)
  simpa using this
theorem por_bd {b m : Nat} {x : Rat × Rat} {v : Rat} (hx : BdL b x) (hv : Bd m v) : BdL (2 * b + m) (por x v) :=
  ⟨hv.mono (by omega), (hx.s.mul (hv.div hx.w)).mono (by omega)⟩
/-! rows with the same sums -/
/-! least, greatest -/
def minL : Rat → List Rat → Rat
  | b, [] => b
  | b, q :: qs => minL (if q < b then q else b) qs
def maxL : Rat → List Rat → Rat
  | b, [] => b
  | b, q :: qs => maxL (if b < q then q else b) qs
theorem least_loop {S : D} (M : Mem) : ∀ (qs : List Rat) (b : Rat) (o : Option D), Bd 4000 b → (∀ q ∈ qs, Bd 4000 q) → ∃ o', forF (gNm 2) den_least_L1 (qs.map frQ) [some S, some (frQ b), o] M = some (.nx [some S, some (frQ (minL b qs)), o'], M)
  | [], b, o, _, _ => ⟨o, rfl⟩
  | q :: qs, b, o, hb, hq => by
    have h1 := hq q (by simp)
    obtain ⟨o', e⟩ := least_loop M qs (if q < b then q else b) (some (frQ q)) (by split <;> assumption) fun x hx => hq x (by simp [hx])
    refine ⟨o', ?_⟩
    unfold minL
    rw [← e, List.map_cons, forF_cons, gNm_ap, forB_ok]
    by_cases h : q < b
    · simp -implicitDefEqProofs only [den_least_L1, sSeq_ap, sAsg_ap, sPar_ap, sRet_ap, sIf_ap, sExpr_ap, sNext_ap, bnd_ap, ret_ap, bindR_ok, thenR_ok, dVar_ap, varR_ok, seqR_nx, seqR_rt, asgR_ok, gNm_ap, gCn_ap, gcnR_ok, gNl_ap, gTp_fr, gTp_ap, gLs_ap, dCons_ap, dNil_ap, asB_ap, dOr_ap, dAnd_ap, dNot_ap, dAndV_ap, dOrV_ap, dNotV_ap, dIf_ap, oAdd_int, oSub_int, oLt_int, oLe_int, oGt_int, oGe_int, oNeg_int, oEq_int, oNe_int, oEq_fr, oNe_fr, oEq_bl, oNe_bl, oTup_ap, oLst_ap, oCall_ap, oAbs_ap, oMax_ap, oMin_ap, oToInt_b, oToInt_i, oLen_lst, oLen_scr, oLen_tup, oIx_lst, oIx_scr, oAdd_lst, oIx_tup, oIx_fr0, oIx_fr1, ixR_ok, oItL_ap, oItT_ap, sFor_ap, startD, List.map_cons, List.map_nil, List.length_cons, List.length_nil, List.replicate_succ, List.replicate_zero, List.cons_append, List.nil_append, List.append_nil, List.getElem?_cons_zero, List.getElem?_cons_succ, List.set_cons_zero, List.set_cons_succ, Nat.reduceAdd, Nat.reduceSub, Nat.sub_self, Nat.reduceLeDiff, List.all_cons, List.all_nil, np_fr, np_int, np_bl, np_tup, np_lst, np_str, np_non, Bool.and_self, Bool.and_true, if_true_, if_false_, zero_add', if_tt, if_ff, decide_true, decide_false, Nat.le_refl, oItS_lst, oItS_tup, oTupOf_lst, oTupOf_tup, oLstOf_lst, oLstOf_tup, oRv_lst, oRv_tup, oAdd_tup, dChain_ap, asTru_bl, asTru_tup, asTru_lst, oIsN_ap, oNotN_ap, asI_ap, oSl_tup, oSl_lst, oZip_tup, oZip_lst, oAddI_ap, oEqS_ap, oNeS_ap, oNe_nil, isless_eq h1 hb, h, ofR_nx]
    · simp -implicitDefEqProofs only [den_least_L1, sSeq_ap, sAsg_ap, sPar_ap, sRet_ap, sIf_ap, sExpr_ap, sNext_ap, bnd_ap, ret_ap, bindR_ok, thenR_ok, dVar_ap, varR_ok, seqR_nx, seqR_rt, asgR_ok, gNm_ap, gCn_ap, gcnR_ok, gNl_ap, gTp_fr, gTp_ap, gLs_ap, dCons_ap, dNil_ap, asB_ap, dOr_ap, dAnd_ap, dNot_ap, dAndV_ap, dOrV_ap, dNotV_ap, dIf_ap, oAdd_int, oSub_int, oLt_int, oLe_int, oGt_int, oGe_int, oNeg_int, oEq_int, oNe_int, oEq_fr, oNe_fr, oEq_bl, oNe_bl, oTup_ap, oLst_ap, oCall_ap, oAbs_ap, oMax_ap, oMin_ap, oToInt_b, oToInt_i, oLen_lst, oLen_scr, oLen_tup, oIx_lst, oIx_scr, oAdd_lst, oIx_tup, oIx_fr0, oIx_fr1, ixR_ok, oItL_ap, oItT_ap, sFor_ap, startD, List.map_cons, List.map_nil, List.length_cons, List.length_nil, List.replicate_succ, List.replicate_zero, List.cons_append, List.nil_append, List.append_nil, List.getElem?_cons_zero, List.getElem?_cons_succ, List.set_cons_zero, List.set_cons_succ, Nat.reduceAdd, Nat.reduceSub, Nat.sub_self, Nat.reduceLeDiff, List.all_cons, List.all_nil, np_fr, np_int, np_bl, np_tup, np_lst, np_str, np_non, Bool.and_self, Bool.and_true, if_true_, if_false_, zero_add', if_tt, if_ff, decide_true, decide_false, Nat.le_refl, oItS_lst, oItS_tup, oTupOf_lst, oTupOf_tup, oLstOf_lst, oLstOf_tup, oRv_lst, oRv_tup, oAdd_tup, dChain_ap, asTru_bl, asTru_tup, asTru_lst, oIsN_ap, oNotN_ap, asI_ap, oSl_tup, oSl_lst, oZip_tup, oZip_lst, oAddI_ap, oEqS_ap, oNeS_ap, oNe_nil, isless_eq h1 hb, h, ofR_nx, Bool.false_eq_true]
theorem least_eq {q : Rat} {qs : List Rat} (hb : ∀ x ∈ q :: qs, Bd 4000 x) (M : Mem) : F_least [.tup ((q :: qs).map frQ)] M = some (.ok (frQ (minL q (q :: qs))), M) := by
  refine runF_pure ?_ rfl
  obtain ⟨o', e⟩ := least_loop (S := .tup ((q :: qs).map frQ)) M (q :: qs) q none (hb q (by simp)) hb
  rw [List.map_cons] at e ⊢
  simp -implicitDefEqProofs only [den_least, sSeq_ap, sAsg_ap, sPar_ap, sRet_ap, sIf_ap, sExpr_ap, sNext_ap, bnd_ap, ret_ap, bindR_ok, thenR_ok, dVar_ap, varR_ok, seqR_nx, seqR_rt, asgR_ok, gNm_ap, gCn_ap, gcnR_ok, gNl_ap, gTp_fr, gTp_ap, gLs_ap, dCons_ap, dNil_ap, asB_ap, dOr_ap, dAnd_ap, dNot_ap, dAndV_ap, dOrV_ap, dNotV_ap, dIf_ap, oAdd_int, oSub_int, oLt_int, oLe_int, oGt_int, oGe_int, oNeg_int, oEq_int, oNe_int, oEq_fr, oNe_fr, oEq_bl, oNe_bl, oTup_ap, oLst_ap, oCall_ap, oAbs_ap, oMax_ap, oMin_ap, oToInt_b, oToInt_i, oLen_lst, oLen_scr, oLen_tup, oIx_lst, oIx_scr, oAdd_lst, oIx_tup, oIx_fr0, oIx_fr1, ixR_ok, oItL_ap, oItT_ap, sFor_ap, startD, List.map_cons, List.map_nil, List.length_cons, List.length_nil, List.replicate_succ, List.replicate_zero, List.cons_append, List.nil_append, List.append_nil, List.getElem?_cons_zero, List.getElem?_cons_succ, List.set_cons_zero, List.set_cons_succ, Nat.reduceAdd, Nat.reduceSub, Nat.sub_self, Nat.reduceLeDiff, List.all_cons, List.all_nil, np_fr, np_int, np_bl, np_tup, np_lst, np_str, np_non, Bool.and_self, Bool.and_true, if_true_, if_false_, zero_add', if_tt, if_ff, decide_true, decide_false, Nat.le_refl, oItS_lst, oItS_tup, oTupOf_lst, oTupOf_tup, oLstOf_lst, oLstOf_tup, oRv_lst, oRv_tup, oAdd_tup, dChain_ap, asTru_bl, asTru_tup, asTru_lst, oIsN_ap, oNotN_ap, asI_ap, oSl_tup, oSl_lst, oZip_tup, oZip_lst, oAddI_ap, oEqS_ap, oNeS_ap, oNe_nil, atI_0, e]
/-! parted, drawn, skimmed -/
theorem least2_eq {a b : Rat} (ha : Bd 4000 a) (hb : Bd 4000 b) (M : Mem) : F_least [.tup [frQ a, frQ b]] M = some (.ok (frQ (if b < a then b else a)), M) := by
  have e := least_eq (q := a) (qs := [b]) (by intro x hx; simp at hx; rcases hx with rfl | rfl <;> assumption) M
  rw [List.map_cons, List.map_cons, List.map_nil] at e
  have : minL a [a, b] = if b < a then b else a := by
    unfold minL
    rw [if_neg Rat.lt_irrefl]
    rfl
  rw [this] at e; exact e
theorem portion_eq {x : Rat × Rat} {v : Rat} (hx : BdL 100 x) (hv : Bd 3800 v) (h : x.1 ≠ 0) (M : Mem) : F_portion [lyQ x, frQ v] M = some (.ok (lyQ (por x v)), M) := by
  refine runF_pure ?_ rfl
  have o := over_eq (hv.mono (n := 4000) (by decide)) (hx.w.mono (n := 4000) (by decide)) h
  have t := times_eq (hx.s.mono (n := 4000) (by decide)) ((hv.div hx.w).mono (n := 4000) (by decide))
  simp -implicitDefEqProofs only [den_portion, sSeq_ap, sAsg_ap, sPar_ap, sRet_ap, sIf_ap, sExpr_ap, sNext_ap, bnd_ap, ret_ap, bindR_ok, thenR_ok, dVar_ap, varR_ok, seqR_nx, seqR_rt, asgR_ok, gNm_ap, gCn_ap, gcnR_ok, gNl_ap, gTp_fr, gTp_ap, gLs_ap, dCons_ap, dNil_ap, asB_ap, dOr_ap, dAnd_ap, dNot_ap, dAndV_ap, dOrV_ap, dNotV_ap, dIf_ap, oAdd_int, oSub_int, oLt_int, oLe_int, oGt_int, oGe_int, oNeg_int, oEq_int, oNe_int, oEq_fr, oNe_fr, oEq_bl, oNe_bl, oTup_ap, oLst_ap, oCall_ap, oAbs_ap, oMax_ap, oMin_ap, oToInt_b, oToInt_i, oLen_lst, oLen_scr, oLen_tup, oIx_lst, oIx_scr, oAdd_lst, oIx_tup, oIx_fr0, oIx_fr1, ixR_ok, oItL_ap, oItT_ap, sFor_ap, startD, List.map_cons, List.map_nil, List.length_cons, List.length_nil, List.replicate_succ, List.replicate_zero, List.cons_append, List.nil_append, List.append_nil, List.getElem?_cons_zero, List.getElem?_cons_succ, List.set_cons_zero, List.set_cons_succ, Nat.reduceAdd, Nat.reduceSub, Nat.sub_self, Nat.reduceLeDiff, List.all_cons, List.all_nil, np_fr, np_int, np_bl, np_tup, np_lst, np_str, np_non, Bool.and_self, Bool.and_true, if_true_, if_false_, zero_add', if_tt, if_ff, decide_true, decide_false, Nat.le_refl, oItS_lst, oItS_tup, oTupOf_lst, oTupOf_tup, oLstOf_lst, oLstOf_tup, oRv_lst, oRv_tup, oAdd_tup, dChain_ap, asTru_bl, asTru_tup, asTru_lst, oIsN_ap, oNotN_ap, asI_ap, oSl_tup, oSl_lst, oZip_tup, oZip_lst, oAddI_ap, oEqS_ap, oNeS_ap, oNe_nil, oIx_ly0, oIx_ly1, o, t]
  rfl
/-- two rows that grow beside others -/
structure Two (m m' : Nat) (T L : List (Rat × Rat)) (M M' : Mem) : Prop where
  len : M'.length = M.length
  t : M'[m]? = some (some (T.map lyQ))
  l : M'[m']? = some (some (L.map lyQ))
  oth : ∀ j, j ≠ m → j ≠ m' → M'[j]? = M[j]?
theorem push_step {m : Nat} {T : List (Rat × Rat)} {x : Rat × Rat} {M : Mem} (h : M[m]? = some (some (T.map lyQ))) (hl : T.length ≤ 5000) (ρ : Env) : okPtr (.ptr m) ρ M = some (.ok (.ptr m), M) ∧ oApp (.ptr m) (lyQ x) ρ M = some (.ok .non, M.set m (some ((T ++ [x]).map lyQ))) := by
  refine ⟨okPtr_ap ρ h, ?_⟩
  rw [oApp_ap ρ h rfl (by simp; omega), List.map_append]; rfl
theorem parted_turn {m m' : Nat} (hm : m ≠ m') {b0 : D} {x : Rat × Rat} {v : Rat} {T L : List (Rat × Rat)} {M : Mem} {o4 o5 o6 : Option D} (hx : BdL 100 x) (hv : Bd 3600 v) (h0 : 0 < x.1) (v0 : 0 ≤ v) (ht : M[m]? = some (some (T.map lyQ))) (hl : M[m']? = some (some (L.map lyQ))) (nT : T.length ≤ 5000) (nL : L.length ≤ 5000) :
    ∃ o5' o6' v' T' L' M', den_parted_L1 [some b0, some (frQ v), some (.ptr m), some (.ptr m'), some (lyQ x), o5, o6] M = some (.nx [some b0, some (frQ v'), some (.ptr m), some (.ptr m'), some (lyQ x), o5', o6'], M') ∧ Two m m' (T ++ T') (L ++ L') M M' ∧ T'.length ≤ 1 ∧ L'.length ≤ 1 ∧ 0 ≤ v' ∧ (v' = v - x.1 ∨ v' = 0) ∧
      (∀ l, cut (x :: l) v = (T' ++ (cut l v').1, L' ++ (cut l v').2) ∨ (¬ Wet l)) := by
  have b1 : Bd 4000 v := hv.mono (by decide)
  have b2 : Bd 4000 x.1 := hx.w.mono (by decide)
  have ls := least2_eq b1 b2
  have h0' : x.1 ≠ 0 := Rat.ne_of_gt h0
  have xx : x.1 - x.1 = 0 := Rat.sub_self
  by_cases c : x.1 < v
  · rw [if_pos c] at ls
    have l1 := less_eq b2 b2
    have l2 := less_eq b1 b2
    have po := portion_eq (v := x.1) hx (hx.w.mono (by decide)) h0'
    rw [por_whole h0'] at po
    have ps := fun ρ => push_step (x := x) ht nT ρ
    rw [xx] at l1
    have n1 : decide (x.1 = 0) = false := decide_eq_false h0'
    refine ⟨some (frQ x.1), some (frQ 0), v - x.1, [x], [], M.set m (some ((T ++ [x]).map lyQ)), ?_, ⟨by simp, List.getElem?_set_self (List.getElem?_eq_some_iff.mp ht).1, by rw [List.getElem?_set_ne hm, List.append_nil]; exact hl, fun j h _ => List.getElem?_set_ne (Ne.symm h)⟩, by simp, by simp, by grind, .inl rfl, fun l => .inl ?_⟩
    · simp -implicitDefEqProofs only [den_parted_L1, sSeq_ap, sAsg_ap, sPar_ap, sRet_ap, sIf_ap, sExpr_ap, sNext_ap, bnd_ap, ret_ap, bindR_ok, thenR_ok, dVar_ap, varR_ok, seqR_nx, seqR_rt, asgR_ok, gNm_ap, gCn_ap, gcnR_ok, gNl_ap, gTp_fr, gTp_ap, gLs_ap, dCons_ap, dNil_ap, asB_ap, dOr_ap, dAnd_ap, dNot_ap, dAndV_ap, dOrV_ap, dNotV_ap, dIf_ap, oAdd_int, oSub_int, oLt_int, oLe_int, oGt_int, oGe_int, oNeg_int, oEq_int, oNe_int, oEq_fr, oNe_fr, oEq_bl, oNe_bl, oTup_ap, oLst_ap, oCall_ap, oAbs_ap, oMax_ap, oMin_ap, oToInt_b, oToInt_i, oLen_lst, oLen_scr, oLen_tup, oIx_lst, oIx_scr, oAdd_lst, oIx_tup, oIx_fr0, oIx_fr1, ixR_ok, oItL_ap, oItT_ap, sFor_ap, startD, List.map_cons, List.map_nil, List.length_cons, List.length_nil, List.replicate_succ, List.replicate_zero, List.cons_append, List.nil_append, List.append_nil, List.getElem?_cons_zero, List.getElem?_cons_succ, List.set_cons_zero, List.set_cons_succ, Nat.reduceAdd, Nat.reduceSub, Nat.sub_self, Nat.reduceLeDiff, List.all_cons, List.all_nil, np_fr, np_int, np_bl, np_tup, np_lst, np_str, np_non, Bool.and_self, Bool.and_true, if_true_, if_false_, zero_add', if_tt, if_ff, decide_true, decide_false, Nat.le_refl, oItS_lst, oItS_tup, oTupOf_lst, oTupOf_tup, oLstOf_lst, oLstOf_tup, oRv_lst, oRv_tup, oAdd_tup, dChain_ap, asTru_bl, asTru_tup, asTru_lst, oIsN_ap, oNotN_ap, asI_ap, oSl_tup, oSl_lst, oZip_tup, oZip_lst, oAddI_ap, oEqS_ap, oNeS_ap, oNe_nil, oIx_ly0, ls, l1, l2, nought_fr, n1, Bool.not_false, fun ρ => (ps ρ).1, po, fun ρ => (ps ρ).2, Bool.not_true, Bool.false_eq_true]
    · rw [cut_ge (Rat.le_of_lt c)]; rfl
  · rw [if_neg c] at ls
    have c' := Rat.not_lt.mp c
    have l1 := less_eq b2 b1
    have l2 := less_eq b1 b1
    have vv : v - v = 0 := Rat.sub_self
    rw [vv] at l2
    have pv := portion_eq (v := v) hx (hv.mono (by decide)) h0'
    have rb : Bd 3800 (x.1 - v) := (hx.w.sub hv).mono (by decide)
    have pr := portion_eq (v := x.1 - v) hx rb h0'
    by_cases z : v = 0
    · subst z
      have e0 : x.1 - 0 = x.1 := by grind
      rw [e0] at l1 pr
      rw [por_whole h0'] at pr
      have ps := fun ρ => push_step (x := x) hl nL ρ
      have n1 : decide (x.1 = 0) = false := decide_eq_false h0'
      refine ⟨some (frQ 0), some (frQ x.1), 0, [], [x], M.set m' (some ((L ++ [x]).map lyQ)), ?_, ⟨by simp, by rw [List.getElem?_set_ne (Ne.symm hm), List.append_nil]; exact ht, List.getElem?_set_self (List.getElem?_eq_some_iff.mp hl).1, fun j _ h => List.getElem?_set_ne (Ne.symm h)⟩, by simp, by simp, Rat.le_refl, .inr rfl, fun l => ?_⟩
      · have n0 : decide ((0 : Rat) = 0) = true := decide_eq_true rfl
        simp -implicitDefEqProofs only [den_parted_L1, sSeq_ap, sAsg_ap, sPar_ap, sRet_ap, sIf_ap, sExpr_ap, sNext_ap, bnd_ap, ret_ap, bindR_ok, thenR_ok, dVar_ap, varR_ok, seqR_nx, seqR_rt, asgR_ok, gNm_ap, gCn_ap, gcnR_ok, gNl_ap, gTp_fr, gTp_ap, gLs_ap, dCons_ap, dNil_ap, asB_ap, dOr_ap, dAnd_ap, dNot_ap, dAndV_ap, dOrV_ap, dNotV_ap, dIf_ap, oAdd_int, oSub_int, oLt_int, oLe_int, oGt_int, oGe_int, oNeg_int, oEq_int, oNe_int, oEq_fr, oNe_fr, oEq_bl, oNe_bl, oTup_ap, oLst_ap, oCall_ap, oAbs_ap, oMax_ap, oMin_ap, oToInt_b, oToInt_i, oLen_lst, oLen_scr, oLen_tup, oIx_lst, oIx_scr, oAdd_lst, oIx_tup, oIx_fr0, oIx_fr1, ixR_ok, oItL_ap, oItT_ap, sFor_ap, startD, List.map_cons, List.map_nil, List.length_cons, List.length_nil, List.replicate_succ, List.replicate_zero, List.cons_append, List.nil_append, List.append_nil, List.getElem?_cons_zero, List.getElem?_cons_succ, List.set_cons_zero, List.set_cons_succ, Nat.reduceAdd, Nat.reduceSub, Nat.sub_self, Nat.reduceLeDiff, List.all_cons, List.all_nil, np_fr, np_int, np_bl, np_tup, np_lst, np_str, np_non, Bool.and_self, Bool.and_true, if_true_, if_false_, zero_add', if_tt, if_ff, decide_true, decide_false, Nat.le_refl, oItS_lst, oItS_tup, oTupOf_lst, oTupOf_tup, oLstOf_lst, oLstOf_tup, oRv_lst, oRv_tup, oAdd_tup, dChain_ap, asTru_bl, asTru_tup, asTru_lst, oIsN_ap, oNotN_ap, asI_ap, oSl_tup, oSl_lst, oZip_tup, oZip_lst, oAddI_ap, oEqS_ap, oNeS_ap, oNe_nil, oIx_ly0, ls, l1, l2, nought_fr, n0, n1, Bool.not_true, Bool.false_eq_true, Bool.not_false, fun ρ => (ps ρ).1, pr, fun ρ => (ps ρ).2]
      · by_cases hw : Wet l
        · left; rw [cut_z h0, cut_zero hw]; rfl
        · exact .inr hw
    · by_cases q : v = x.1
      · subst q
        rw [xx] at l1
        have ps := fun ρ => push_step (x := x) ht nT ρ
        rw [por_whole h0'] at pv
        have n1 : decide (x.1 = 0) = false := decide_eq_false h0'
        have n0 : decide ((0 : Rat) = 0) = true := decide_eq_true rfl
        refine ⟨some (frQ x.1), some (frQ 0), 0, [x], [], M.set m (some ((T ++ [x]).map lyQ)), ?_, ⟨by simp, List.getElem?_set_self (List.getElem?_eq_some_iff.mp ht).1, by rw [List.getElem?_set_ne hm, List.append_nil]; exact hl, fun j h _ => List.getElem?_set_ne (Ne.symm h)⟩, by simp, by simp, Rat.le_refl, .inr rfl, fun l => .inl ?_⟩
        · simp -implicitDefEqProofs only [den_parted_L1, sSeq_ap, sAsg_ap, sPar_ap, sRet_ap, sIf_ap, sExpr_ap, sNext_ap, bnd_ap, ret_ap, bindR_ok, thenR_ok, dVar_ap, varR_ok, seqR_nx, seqR_rt, asgR_ok, gNm_ap, gCn_ap, gcnR_ok, gNl_ap, gTp_fr, gTp_ap, gLs_ap, dCons_ap, dNil_ap, asB_ap, dOr_ap, dAnd_ap, dNot_ap, dAndV_ap, dOrV_ap, dNotV_ap, dIf_ap, oAdd_int, oSub_int, oLt_int, oLe_int, oGt_int, oGe_int, oNeg_int, oEq_int, oNe_int, oEq_fr, oNe_fr, oEq_bl, oNe_bl, oTup_ap, oLst_ap, oCall_ap, oAbs_ap, oMax_ap, oMin_ap, oToInt_b, oToInt_i, oLen_lst, oLen_scr, oLen_tup, oIx_lst, oIx_scr, oAdd_lst, oIx_tup, oIx_fr0, oIx_fr1, ixR_ok, oItL_ap, oItT_ap, sFor_ap, startD, List.map_cons, List.map_nil, List.length_cons, List.length_nil, List.replicate_succ, List.replicate_zero, List.cons_append, List.nil_append, List.append_nil, List.getElem?_cons_zero, List.getElem?_cons_succ, List.set_cons_zero, List.set_cons_succ, Nat.reduceAdd, Nat.reduceSub, Nat.sub_self, Nat.reduceLeDiff, List.all_cons, List.all_nil, np_fr, np_int, np_bl, np_tup, np_lst, np_str, np_non, Bool.and_self, Bool.and_true, if_true_, if_false_, zero_add', if_tt, if_ff, decide_true, decide_false, Nat.le_refl, oItS_lst, oItS_tup, oTupOf_lst, oTupOf_tup, oLstOf_lst, oLstOf_tup, oRv_lst, oRv_tup, oAdd_tup, dChain_ap, asTru_bl, asTru_tup, asTru_lst, oIsN_ap, oNotN_ap, asI_ap, oSl_tup, oSl_lst, oZip_tup, oZip_lst, oAddI_ap, oEqS_ap, oNeS_ap, oNe_nil, oIx_ly0, ls, l1, nought_fr, n0, n1, Bool.not_false, fun ρ => (ps ρ).1, pv, fun ρ => (ps ρ).2, Bool.not_true, Bool.false_eq_true]
        · rw [cut_ge Rat.le_refl, xx]; rfl
      · have vl : v < x.1 := by grind
        have ps := fun ρ => push_step (x := por x v) ht nT ρ
        have hl2 : (M.set m (some ((T ++ [por x v]).map lyQ)))[m']? = some (some (L.map lyQ)) := by rw [List.getElem?_set_ne hm]; exact hl
        have pt := fun ρ => push_step (x := por x (x.1 - v)) hl2 nL ρ
        have n1 : decide (v = 0) = false := decide_eq_false z
        have n2 : decide (x.1 - v = 0) = false := decide_eq_false (by grind)
        refine ⟨some (frQ v), some (frQ (x.1 - v)), 0, [por x v], [por x (x.1 - v)], (M.set m (some ((T ++ [por x v]).map lyQ))).set m' (some ((L ++ [por x (x.1 - v)]).map lyQ)), ?_, ⟨by simp, by rw [List.getElem?_set_ne (Ne.symm hm)]; exact List.getElem?_set_self (List.getElem?_eq_some_iff.mp ht).1, List.getElem?_set_self (List.getElem?_eq_some_iff.mp hl2).1, fun j h h' => by rw [List.getElem?_set_ne (Ne.symm h'), List.getElem?_set_ne (Ne.symm h)]⟩, by simp, by simp, Rat.le_refl, .inr rfl, fun l => ?_⟩
        · simp -implicitDefEqProofs only [den_parted_L1, sSeq_ap, sAsg_ap, sPar_ap, sRet_ap, sIf_ap, sExpr_ap, sNext_ap, bnd_ap, ret_ap, bindR_ok, thenR_ok, dVar_ap, varR_ok, seqR_nx, seqR_rt, asgR_ok, gNm_ap, gCn_ap, gcnR_ok, gNl_ap, gTp_fr, gTp_ap, gLs_ap, dCons_ap, dNil_ap, asB_ap, dOr_ap, dAnd_ap, dNot_ap, dAndV_ap, dOrV_ap, dNotV_ap, dIf_ap, oAdd_int, oSub_int, oLt_int, oLe_int, oGt_int, oGe_int, oNeg_int, oEq_int, oNe_int, oEq_fr, oNe_fr, oEq_bl, oNe_bl, oTup_ap, oLst_ap, oCall_ap, oAbs_ap, oMax_ap, oMin_ap, oToInt_b, oToInt_i, oLen_lst, oLen_scr, oLen_tup, oIx_lst, oIx_scr, oAdd_lst, oIx_tup, oIx_fr0, oIx_fr1, ixR_ok, oItL_ap, oItT_ap, sFor_ap, startD, List.map_cons, List.map_nil, List.length_cons, List.length_nil, List.replicate_succ, List.replicate_zero, List.cons_append, List.nil_append, List.append_nil, List.getElem?_cons_zero, List.getElem?_cons_succ, List.set_cons_zero, List.set_cons_succ, Nat.reduceAdd, Nat.reduceSub, Nat.sub_self, Nat.reduceLeDiff, List.all_cons, List.all_nil, np_fr, np_int, np_bl, np_tup, np_lst, np_str, np_non, Bool.and_self, Bool.and_true, if_true_, if_false_, zero_add', if_tt, if_ff, decide_true, decide_false, Nat.le_refl, oItS_lst, oItS_tup, oTupOf_lst, oTupOf_tup, oLstOf_lst, oLstOf_tup, oRv_lst, oRv_tup, oAdd_tup, dChain_ap, asTru_bl, asTru_tup, asTru_lst, oIsN_ap, oNotN_ap, asI_ap, oSl_tup, oSl_lst, oZip_tup, oZip_lst, oAddI_ap, oEqS_ap, oNeS_ap, oNe_nil, oIx_ly0, ls, l1, l2, nought_fr, n1, n2, Bool.not_false, fun ρ => (ps ρ).1, pv, fun ρ => (ps ρ).2, fun ρ => (pt ρ).1, pr, fun ρ => (pt ρ).2]
        · by_cases hw : Wet l
          · left; rw [cut_lt vl z, cut_zero hw]; rfl
          · exact .inr hw
theorem parted_loop {m m' : Nat} (hm : m ≠ m') {b0 : D} {U : Int} (hU : 1 ≤ U ∧ U ≤ 2000) : ∀ (l : List (Rat × Rat)) (v : Rat) (T L : List (Rat × Rat)) (M : Mem) (o4 o5 o6 : Option D), (∀ x ∈ l, BdL 100 x ∧ 0 < x.1 ∧ Gu U x.1) → Gu U v → v ≤ ((2 ^ 20 : Int) : Rat) → 0 ≤ v → M[m]? = some (some (T.map lyQ)) → M[m']? = some (some (L.map lyQ)) → T.length + l.length ≤ 5000 → L.length + l.length ≤ 5000 →
    ∃ o1 o4' o5' o6' M', forF (gNm 4) den_parted_L1 (l.map lyQ) [some b0, some (frQ v), some (.ptr m), some (.ptr m'), o4, o5, o6] M = some (.nx [some b0, o1, some (.ptr m), some (.ptr m'), o4', o5', o6'], M') ∧ Two m m' (T ++ (cut l v).1) (L ++ (cut l v).2) M M'
  | [], v, T, L, M, o4, o5, o6, _, _, _, _, ht, hl, _, _ => ⟨_, _, _, _, M, rfl, rfl, by rw [cut_nil, List.append_nil]; exact ht, by rw [cut_nil, List.append_nil]; exact hl, fun _ _ _ => rfl⟩
  | x :: l, v, T, L, M, o4, o5, o6, h, gv, v1, v0, ht, hl, nT, nL => by
    have hx := h x (by simp)
    rw [List.length_cons] at nT nL
    obtain ⟨o5', o6', v', T', L', M1, e1, w1, t1, l1, v0', bv, ct⟩ := parted_turn (b0 := b0) (o4 := o4) (o5 := o5) (o6 := o6) hm hx.1 ((gv.bd hU v0 v1).mono (by decide)) hx.2.1 v0 ht hl (by omega) (by omega)
    obtain ⟨p1, p4, p5, p6, M2, e2, w2⟩ := parted_loop hm (b0 := b0) hU l v' (T ++ T') (L ++ L') M1 (some (lyQ x)) o5' o6' (fun y hy => h y (by simp [hy])) (by rcases bv with e | e <;> rw [e]; exact gv.sub hx.2.2; exact ⟨0, by rw [Rat.intCast_zero, Rat.zero_mul]⟩) (by rcases bv with e | e <;> rw [e]; have := hx.2.1; grind; exact Rat.le_trans v0 v1) v0' w1.t w1.l (by simp; omega) (by simp; omega)
    refine ⟨p1, p4, p5, p6, M2, ?_, w2.len.trans w1.len, ?_, ?_, fun j a b => (w2.oth j a b).trans (w1.oth j a b)⟩
    · rw [List.map_cons, forF_cons, gNm_ap, forB_ok]
      simp -implicitDefEqProofs only [List.set_cons_zero, List.set_cons_succ]
      rw [e1, ofR_nx, e2]
    · rcases ct l with q | q
      · rw [q, ← List.append_assoc]; exact w2.t
      · exact absurd (fun y hy => (h y (by simp [hy])).2.1) q
    · rcases ct l with q | q
      · rw [q, ← List.append_assoc]; exact w2.l
      · exact absurd (fun y hy => (h y (by simp [hy])).2.1) q
theorem take_same {M M' : Mem} (hl : M.length ≤ M'.length) (h : ∀ j, j < M.length → M'[j]? = M[j]?) : M'.take M.length = M := by
  refine List.ext_getElem? fun j => ?_
  by_cases q : j < M.length
  · rw [List.getElem?_take_of_lt q, h j q]
  · rw [List.getElem?_eq_none (by rw [List.length_take]; omega), List.getElem?_eq_none (by omega)]
theorem parted_eq {U : Int} (hU : 1 ≤ U ∧ U ≤ 2000) {l : List (Rat × Rat)} {v : Rat} (h : ∀ x ∈ l, BdL 100 x ∧ 0 < x.1 ∧ Gu U x.1) (gv : Gu U v) (ll : l.length ≤ 500) (v1 : v ≤ ((2 ^ 20 : Int) : Rat)) (v0 : 0 ≤ v) (M : Mem) : F_parted [.tup (l.map lyQ), frQ v] M = some (.ok (.tup [.tup ((cut l v).1.map lyQ), .tup ((cut l v).2.map lyQ)]), M) := by
  have hne : M.length ≠ M.length + 1 := by omega
  have c1 : (M ++ [some []] ++ [some []])[M.length]? = some (some (([] : List (Rat × Rat)).map lyQ)) := by
    rw [List.getElem?_append_left (by simp), last_cell]; rfl
  have c2 : (M ++ [some []] ++ [some []])[M.length + 1]? = some (some (([] : List (Rat × Rat)).map lyQ)) := by
    have := last_cell (M ++ [some []]) (some [])
    rw [List.length_append] at this; exact this
  obtain ⟨o1, o4, o5, o6, M', e, w⟩ := parted_loop hne (b0 := .tup (l.map lyQ)) hU l v [] [] (M ++ [some []] ++ [some []]) none none none h gv v1 v0 c1 c2 (by simp; omega) (by simp; omega)
  rw [List.nil_append] at w
  rw [List.nil_append] at w
  have t1 := fun ρ => oTupOf_ptr (ρ := ρ) w.t
  have t2 := fun ρ => oTupOf_ptr (ρ := ρ) w.l
  have n1 : ∀ ρ, oNew [] ρ M = some (.ok (.ptr M.length), M ++ [some []]) := fun _ => rfl
  have n2 : ∀ ρ, oNew [] ρ (M ++ [some []]) = some (.ok (.ptr (M.length + 1)), M ++ [some []] ++ [some []]) := fun ρ => by
    have : oNew [] ρ (M ++ [some []]) = some (.ok (.ptr (M ++ [some ([] : List D)]).length), M ++ [some []] ++ [some []]) := rfl
    rw [this, List.length_append]; rfl
  have den : den_parted (startD ["layers", "water", "taken", "left", "layer", "part", "rest"] [.tup (l.map lyQ), frQ v]) M = some (.rt (.tup [.tup ((cut l v).1.map lyQ), .tup ((cut l v).2.map lyQ)]), M') := by
    simp -implicitDefEqProofs only [den_parted, sSeq_ap, sAsg_ap, sPar_ap, sRet_ap, sIf_ap, sExpr_ap, sNext_ap, bnd_ap, ret_ap, bindR_ok, thenR_ok, dVar_ap, varR_ok, seqR_nx, seqR_rt, asgR_ok, gNm_ap, gCn_ap, gcnR_ok, gNl_ap, gTp_fr, gTp_ap, gLs_ap, dCons_ap, dNil_ap, asB_ap, dOr_ap, dAnd_ap, dNot_ap, dAndV_ap, dOrV_ap, dNotV_ap, dIf_ap, oAdd_int, oSub_int, oLt_int, oLe_int, oGt_int, oGe_int, oNeg_int, oEq_int, oNe_int, oEq_fr, oNe_fr, oEq_bl, oNe_bl, oTup_ap, oLst_ap, oCall_ap, oAbs_ap, oMax_ap, oMin_ap, oToInt_b, oToInt_i, oLen_lst, oLen_scr, oLen_tup, oIx_lst, oIx_scr, oAdd_lst, oIx_tup, oIx_fr0, oIx_fr1, ixR_ok, oItL_ap, oItT_ap, sFor_ap, startD, List.map_cons, List.map_nil, List.length_cons, List.length_nil, List.replicate_succ, List.replicate_zero, List.cons_append, List.nil_append, List.append_nil, List.getElem?_cons_zero, List.getElem?_cons_succ, List.set_cons_zero, List.set_cons_succ, Nat.reduceAdd, Nat.reduceSub, Nat.sub_self, Nat.reduceLeDiff, List.all_cons, List.all_nil, np_fr, np_int, np_bl, np_tup, np_lst, np_str, np_non, Bool.and_self, Bool.and_true, if_true_, if_false_, zero_add', if_tt, if_ff, decide_true, decide_false, Nat.le_refl, oItS_lst, oItS_tup, oTupOf_lst, oTupOf_tup, oLstOf_lst, oLstOf_tup, oRv_lst, oRv_tup, oAdd_tup, dChain_ap, asTru_bl, asTru_tup, asTru_lst, oIsN_ap, oNotN_ap, asI_ap, oSl_tup, oSl_lst, oZip_tup, oZip_lst, oAddI_ap, oEqS_ap, oNeS_ap, oNe_nil, n1, n2, e, t1, t2]
  have wl := w.len
  rw [List.length_append, List.length_append] at wl
  have ge : M.length ≤ M'.length := by omega
  have := runF_rt den ge rfl
  rw [take_same ge fun j hj => by rw [w.oth j (by omega) (by omega), List.getElem?_append_left (by simp; omega), List.getElem?_append_left hj]] at this
  exact this
/-! there, drawn, skimmed -/
theorem runX_nx {N : List Str} {fb : Sv} {ds : List D} {M : Mem} {ρ : Env} (h : fb (startD N ds) M = some (.nx ρ, M)) : runX N fb ds M = some (.ok .non, M) := by
  unfold runX
  rw [h]
  dsimp only
  rw [if_pos (Nat.le_refl _), List.take_length]
def rv (b : Bool) (l : List (Rat × Rat)) : List (Rat × Rat) := if b then l.reverse else l
theorem rv_mem {b : Bool} {l : List (Rat × Rat)} {x : Rat × Rat} : x ∈ rv b l ↔ x ∈ l := by cases b <;> simp [rv]
theorem rv_len (b : Bool) (l : List (Rat × Rat)) : (rv b l).length = l.length := by cases b <;> simp [rv]
/-- what is taken, what is left -/
def tkT (b : Bool) (B : List (Rat × Rat)) (w : Rat) : List (Rat × Rat) := rv b (cut (rv b (wetOf B)) w).1
def tkL (b : Bool) (B : List (Rat × Rat)) (w : Rat) : List (Rat × Rat) := dryOf B ++ rv b (cut (rv b (wetOf B)) w).2
def wh (b : Bool) : Int := if b then 1 else 0
theorem wet_pos {f : Rat} {B : List (Rat × Rat)} (h : ∀ x ∈ B, LayOk f x) : Wet (wetOf B) := fun x hx => pos_of (h x (wet_ne hx).1) (wet_ne hx).2
theorem Wet.rv {b : Bool} {l : List (Rat × Rat)} (h : Wet l) : Wet (Bw.rv b l) := fun x hx => h x (rv_mem.mp hx)
theorem wet_len (B : List (Rat × Rat)) : (wetOf B).length ≤ B.length ∧ (dryOf B).length ≤ B.length := ⟨List.length_filter_le _ _, List.length_filter_le _ _⟩
theorem cut_gu {U : Int} : ∀ {l : List (Rat × Rat)} {w : Rat}, (∀ x ∈ l, Gu U x.1) → Gu U w → (∀ x ∈ (cut l w).1, Gu U x.1) ∧ (∀ x ∈ (cut l w).2, Gu U x.1)
  | [], w, _, _ => ⟨fun x hx => by simp [cut] at hx, fun x hx => by simp [cut] at hx⟩
  | x :: l, w, h, hw => by
    have hx := h x (by simp)
    have hl := fun y (hy : y ∈ l) => h y (by simp [hy])
    rw [cut]
    split
    · have ih := cut_gu (w := w - x.1) hl (hw.sub hx)
      refine ⟨fun y hy => ?_, ih.2⟩
      rcases List.mem_cons.mp hy with rfl | hy
      · exact hx
      · exact ih.1 y hy
    · split
      · exact ⟨fun y hy => by simp at hy, h⟩
      · refine ⟨fun y hy => ?_, fun y hy => ?_⟩
        · simp at hy; subst hy; exact hw
        · rcases List.mem_cons.mp hy with rfl | hy
          · exact hx.sub hw
          · exact hl y hy
theorem le_sumW : ∀ {l : List (Rat × Rat)}, (∀ x ∈ l, 0 ≤ x.1) → 0 ≤ sumW l ∧ ∀ x ∈ l, x.1 ≤ sumW l
  | [], _ => ⟨Rat.le_refl, fun x hx => by simp at hx⟩
  | x :: l, h => by
    have ih := le_sumW fun y (hy : y ∈ l) => h y (by simp [hy])
    have hx := h x (by simp)
    rw [sumW_cons]
    refine ⟨by grind, fun y hy => ?_⟩
    rcases List.mem_cons.mp hy with rfl | hy
    · grind
    · have := ih.2 y hy; grind
theorem Pt.bd {y x : Rat × Rat} {m b : Nat} (h : Pt y x) (hy : BdL b y) (hx : Bd m x.1) : BdL (2 * b + m) x := by
  cases h with
  | all => exact hy.mono (by omega)
  | some v _ _ => exact por_bd hy hx
theorem divInt_add' {u : Int} (a b : Int) : Rat.divInt (a + b) u = Rat.divInt a u + Rat.divInt b u := by
  rw [divInt_mul, divInt_mul, divInt_mul, Rat.intCast_add, Rat.add_mul]
theorem sum_toQ (u : Int) : ∀ P : List (Int × Int), sumW (brQ u P) = Rat.divInt (sW P) u
  | [] => by show (0 : Rat) = Rat.divInt 0 u; rw [Rat.zero_divInt]
  | p :: P => by
    rw [sW_cons, divInt_add']
    show Rat.divInt p.1 u + sumW (brQ u P) = _
    rw [sum_toQ u P]
theorem oSum_int {α : Type} (l : List α) (g : α → Int) (ρ : Env) (M : Mem) : oSum [.lst (l.map fun x => D.int (g x))] ρ M = some (.ok (.int (l.map g).sum), M) := by
  have : insOf (l.map fun x => D.int (g x)) = some (l.map g) := by
    induction l with
    | nil => rfl
    | cons x l ih => rw [List.map_cons, insOf, ih]; rfl
  unfold oSum
  dsimp only
  rw [this]; rfl
theorem gu_div {u a : Int} (hu : 1 ≤ u) : Gu (2 * u) (Rat.divInt a u) := by
  refine ⟨2 * a, ?_⟩
  rw [← divInt_mul, Rat.divInt_mul_left (by decide)]
theorem gu_div2 {u a : Int} : Gu (2 * u) (Rat.divInt a (2 * u)) := ⟨a, divInt_mul a⟩
theorem lcW {a0 a1 a2 a3 a4 a5 a6 o7 o8 : Option D} (Q : List (Int × Int)) (hl : Q.length ≤ 2000) (M : Mem) : oLc (gTp 2 (gCn (gNm 7) (gCn (gNm 8) gNl))) (ret true) (dVar 7) [7, 8] (Q.map iP) [a0, a1, a2, a3, a4, a5, a6, o7, o8] M = some (.ok (.lst (Q.map fun p => D.int p.1)), M) := by
  have := oLc_en (en := iP) (b := gTp 2 (gCn (gNm 7) (gCn (gNm 8) gNl))) (tt := ret true) (te := dVar 7) (ρ := [a0, a1, a2, a3, a4, a5, a6, o7, o8]) (vs := [7, 8]) (p := fun _ => true) (g := fun p => D.int p.1) (l := Q) (M := M) (fun p _ => ⟨[a0, a1, a2, a3, a4, a5, a6, some (.int p.1), some (.int p.2)], rfl, fun M' _ => rfl, fun _ => ⟨rfl, fun M' _ => rfl⟩⟩) (by omega)
  rw [filter_true] at this; exact this
theorem sW_sub : ∀ {P : List (Int × Int)}, (∀ p ∈ P, 0 ≤ p.1) → ∀ k, 0 ≤ sW (P.take k) ∧ sW (P.take k) ≤ sW P ∧ 0 ≤ sW (P.drop k) ∧ sW (P.drop k) ≤ sW P
  | [], _, k => by simp [sW]
  | p :: P, h, 0 => by
    have ih := sW_sub (P := P) (fun q hq => h q (by simp [hq])) P.length
    rw [List.take_length, List.drop_length] at ih
    have := h p (by simp)
    rw [List.take_zero, List.drop_zero, sW_cons]
    have : sW ([] : List (Int × Int)) = 0 := rfl
    omega
  | p :: P, h, k + 1 => by
    have ih := sW_sub (P := P) (fun q hq => h q (by simp [hq])) k
    have := h p (by simp)
    rw [List.take_succ_cons, List.drop_succ_cons, sW_cons, sW_cons]
    omega
theorem amount_eq {c n : Nat} {M : Mem} {f : Rat} {u : Int} {P : List (Int × Int)} (hr : HasReel c n M) (hc : c + 10 < 2 ^ 30) (h : CaseOk f u P) : ∃ w M', F__law_amount [.ptr n, .lst (P.map iP), .int u] M = some (.ok (frQ w), M') ∧ 0 ≤ w ∧ w ≤ sumW (brQ u P) ∧ Gu (2 * u) w ∧ Turned (c + 10) n M M' := by
  have hu := h.un
  have hln := h.pa.ln
  have hw := h.pa.w
  have nn : ∀ p ∈ P, 0 ≤ p.1 := fun p hp => (h.pa.ly p hp).w
  have sb := sW_sub nn
  have t0 : 0 ≤ sW P := by have := (sb P.length).1; rw [List.take_length] at this; exact this
  obtain ⟨v1, M1, e1, a1, b1, t1⟩ := take_eq (m := 6) hr (by omega) (by decide) (small_lt _ (by decide) (by decide))
  obtain ⟨v2, M2, e2, a2, b2, t2⟩ := take_eq (m := ((P.map iP).length : Int) + 1) t1.has (by omega) (by omega) (small_lt _ (by omega) (by rw [List.length_map]; omega))
  obtain ⟨v3, M3, e3, a3, b3, t3⟩ := take_eq (m := sW P + 1) t2.has (by omega) (by omega) (small_lt _ (by omega) (by omega))
  have tt := (t1.trans (t2.trans t3)).mono (c' := c + 10) (by omega)
  have ou0 := fun ρ M => oSum_int P (·.1) ρ M
  have su : ∀ Q : List (Int × Int), ∀ ρ M, oSum [.lst (Q.map fun p => D.int p.1)] ρ M = some (.ok (.int (sW Q)), M) := fun Q ρ M => oSum_int Q (·.1) ρ M
  have lw := fun (Q : List (Int × Int)) (hQ : Q.length ≤ 2000) a0 a1 a2 a3 a4 a5 a6 o7 o8 M => lcW (a0 := a0) (a1 := a1) (a2 := a2) (a3 := a3) (a4 := a4) (a5 := a5) (a6 := a6) (o7 := o7) (o8 := o8) Q hQ M
  have lP := lw P (by omega)
  have kt : ((v2.toNat : Nat) : Int) = v2 := Int.toNat_of_nonneg a2
  have ct : cutD (P.map iP) none (some v2) = (P.take v2.toNat).map iP := by rw [← kt, cut_take', List.map_take, kt]
  have cd : cutD (P.map iP) (some v2) none = (P.drop v2.toNat).map iP := by rw [← kt, cut_drop', List.map_drop, kt]
  have lT := lw (P.take v2.toNat) (by rw [List.length_take]; omega)
  have lD := lw (P.drop v2.toNat) (by rw [List.length_drop]; omega)
  have lo := fun (s : Int) M => low_eq (t := s) (b := u) (by omega) (small_lt _ (by omega) (by omega)) M
  have fin : ∀ s : Int, 0 ≤ s → s ≤ sW P → 0 ≤ Rat.divInt s u ∧ Rat.divInt s u ≤ sumW (brQ u P) ∧ Gu (2 * u) (Rat.divInt s u) := fun s s0 s1 => by
    refine ⟨divInt_nn s0 (by omega), ?_, gu_div hu.1⟩
    rw [sum_toQ]
    exact div_le_div (by omega) (by omega) (Int.mul_le_mul_of_nonneg_right s1 (by omega))
  have ways : v1 = 0 ∨ v1 = 1 ∨ v1 = 2 ∨ v1 = 3 ∨ v1 = 4 ∨ v1 = 5 := by omega
  generalize hmn : (if (400000 : Int) < sW P then (400000 : Int) else sW P) = mn
  have mb : mn ≤ sW P := by rw [← hmn]; split <;> omega
  rcases ways with rfl | rfl | rfl | rfl | rfl | rfl
  · have q := fin 0 (Int.le_refl _) t0
    refine ⟨_, M3, run_t ?_ tt rfl, q.1, q.2.1, q.2.2, tt⟩
    simp -implicitDefEqProofs only [den__law_amount, sSeq_ap, sAsg_ap, sPar_ap, sRet_ap, sIf_ap, sExpr_ap, sNext_ap, bnd_ap, ret_ap, bindR_ok, thenR_ok, dVar_ap, varR_ok, seqR_nx, seqR_rt, asgR_ok, gNm_ap, gCn_ap, gcnR_ok, gNl_ap, gTp_fr, gTp_ap, gLs_ap, dCons_ap, dNil_ap, asB_ap, dOr_ap, dAnd_ap, dNot_ap, dAndV_ap, dOrV_ap, dNotV_ap, dIf_ap, oAdd_int, oSub_int, oLt_int, oLe_int, oGt_int, oGe_int, oNeg_int, oEq_int, oNe_int, oEq_fr, oNe_fr, oEq_bl, oNe_bl, oTup_ap, oLst_ap, oCall_ap, oAbs_ap, oMax_ap, oMin_ap, oToInt_b, oToInt_i, oLen_lst, oLen_scr, oLen_tup, oIx_lst, oIx_scr, oAdd_lst, oIx_tup, oIx_fr0, oIx_fr1, ixR_ok, oItL_ap, oItT_ap, sFor_ap, startD, List.map_cons, List.map_nil, List.length_cons, List.length_nil, List.replicate_succ, List.replicate_zero, List.cons_append, List.nil_append, List.append_nil, List.getElem?_cons_zero, List.getElem?_cons_succ, List.set_cons_zero, List.set_cons_succ, Nat.reduceAdd, Nat.reduceSub, Nat.sub_self, Nat.reduceLeDiff, List.all_cons, List.all_nil, np_fr, np_int, np_bl, np_tup, np_lst, np_str, np_non, Bool.and_self, Bool.and_true, if_true_, if_false_, zero_add', if_tt, if_ff, decide_true, decide_false, Nat.le_refl, oItS_lst, oItS_tup, oTupOf_lst, oTupOf_tup, oLstOf_lst, oLstOf_tup, oRv_lst, oRv_tup, oAdd_tup, dChain_ap, asTru_bl, asTru_tup, asTru_lst, oIsN_ap, oNotN_ap, asI_ap, oSl_tup, oSl_lst, oZip_tup, oZip_lst, oAddI_ap, oEqS_ap, oNeS_ap, oNe_nil, lP, su, e1, e2, e3, (by decide : ¬ ((0 : Int) = 1)), (by decide : ¬ ((0 : Int) = 2)), (by decide : ¬ ((0 : Int) = 3)), (by decide : ¬ ((0 : Int) = 4)), decide_true, decide_false, Bool.false_eq_true, lo]
  · have q := fin (sW P) t0 (Int.le_refl _)
    refine ⟨_, M3, run_t ?_ tt rfl, q.1, q.2.1, q.2.2, tt⟩
    simp -implicitDefEqProofs only [den__law_amount, sSeq_ap, sAsg_ap, sPar_ap, sRet_ap, sIf_ap, sExpr_ap, sNext_ap, bnd_ap, ret_ap, bindR_ok, thenR_ok, dVar_ap, varR_ok, seqR_nx, seqR_rt, asgR_ok, gNm_ap, gCn_ap, gcnR_ok, gNl_ap, gTp_fr, gTp_ap, gLs_ap, dCons_ap, dNil_ap, asB_ap, dOr_ap, dAnd_ap, dNot_ap, dAndV_ap, dOrV_ap, dNotV_ap, dIf_ap, oAdd_int, oSub_int, oLt_int, oLe_int, oGt_int, oGe_int, oNeg_int, oEq_int, oNe_int, oEq_fr, oNe_fr, oEq_bl, oNe_bl, oTup_ap, oLst_ap, oCall_ap, oAbs_ap, oMax_ap, oMin_ap, oToInt_b, oToInt_i, oLen_lst, oLen_scr, oLen_tup, oIx_lst, oIx_scr, oAdd_lst, oIx_tup, oIx_fr0, oIx_fr1, ixR_ok, oItL_ap, oItT_ap, sFor_ap, startD, List.map_cons, List.map_nil, List.length_cons, List.length_nil, List.replicate_succ, List.replicate_zero, List.cons_append, List.nil_append, List.append_nil, List.getElem?_cons_zero, List.getElem?_cons_succ, List.set_cons_zero, List.set_cons_succ, Nat.reduceAdd, Nat.reduceSub, Nat.sub_self, Nat.reduceLeDiff, List.all_cons, List.all_nil, np_fr, np_int, np_bl, np_tup, np_lst, np_str, np_non, Bool.and_self, Bool.and_true, if_true_, if_false_, zero_add', if_tt, if_ff, decide_true, decide_false, Nat.le_refl, oItS_lst, oItS_tup, oTupOf_lst, oTupOf_tup, oLstOf_lst, oLstOf_tup, oRv_lst, oRv_tup, oAdd_tup, dChain_ap, asTru_bl, asTru_tup, asTru_lst, oIsN_ap, oNotN_ap, asI_ap, oSl_tup, oSl_lst, oZip_tup, oZip_lst, oAddI_ap, oEqS_ap, oNeS_ap, oNe_nil, lP, su, e1, e2, e3, (by decide : ¬ ((1 : Int) = 0)), (by decide : ¬ ((1 : Int) = 2)), (by decide : ¬ ((1 : Int) = 3)), (by decide : ¬ ((1 : Int) = 4)), decide_true, decide_false, Bool.false_eq_true, lo]
  · have q := fin (sW (P.take v2.toNat)) (sb _).1 (sb _).2.1
    refine ⟨_, M3, run_t ?_ tt rfl, q.1, q.2.1, q.2.2, tt⟩
    simp -implicitDefEqProofs only [den__law_amount, sSeq_ap, sAsg_ap, sPar_ap, sRet_ap, sIf_ap, sExpr_ap, sNext_ap, bnd_ap, ret_ap, bindR_ok, thenR_ok, dVar_ap, varR_ok, seqR_nx, seqR_rt, asgR_ok, gNm_ap, gCn_ap, gcnR_ok, gNl_ap, gTp_fr, gTp_ap, gLs_ap, dCons_ap, dNil_ap, asB_ap, dOr_ap, dAnd_ap, dNot_ap, dAndV_ap, dOrV_ap, dNotV_ap, dIf_ap, oAdd_int, oSub_int, oLt_int, oLe_int, oGt_int, oGe_int, oNeg_int, oEq_int, oNe_int, oEq_fr, oNe_fr, oEq_bl, oNe_bl, oTup_ap, oLst_ap, oCall_ap, oAbs_ap, oMax_ap, oMin_ap, oToInt_b, oToInt_i, oLen_lst, oLen_scr, oLen_tup, oIx_lst, oIx_scr, oAdd_lst, oIx_tup, oIx_fr0, oIx_fr1, ixR_ok, oItL_ap, oItT_ap, sFor_ap, startD, List.map_cons, List.map_nil, List.length_cons, List.length_nil, List.replicate_succ, List.replicate_zero, List.cons_append, List.nil_append, List.append_nil, List.getElem?_cons_zero, List.getElem?_cons_succ, List.set_cons_zero, List.set_cons_succ, Nat.reduceAdd, Nat.reduceSub, Nat.sub_self, Nat.reduceLeDiff, List.all_cons, List.all_nil, np_fr, np_int, np_bl, np_tup, np_lst, np_str, np_non, Bool.and_self, Bool.and_true, if_true_, if_false_, zero_add', if_tt, if_ff, decide_true, decide_false, Nat.le_refl, oItS_lst, oItS_tup, oTupOf_lst, oTupOf_tup, oLstOf_lst, oLstOf_tup, oRv_lst, oRv_tup, oAdd_tup, dChain_ap, asTru_bl, asTru_tup, asTru_lst, oIsN_ap, oNotN_ap, asI_ap, oSl_tup, oSl_lst, oZip_tup, oZip_lst, oAddI_ap, oEqS_ap, oNeS_ap, oNe_nil, lP, su, e1, e2, e3, (by decide : ¬ ((2 : Int) = 0)), (by decide : ¬ ((2 : Int) = 1)), (by decide : ¬ ((2 : Int) = 3)), (by decide : ¬ ((2 : Int) = 4)), decide_true, decide_false, Bool.false_eq_true, lo, ct, lT]
  · have q := fin (sW (P.drop v2.toNat)) (sb _).2.2.1 (sb _).2.2.2
    refine ⟨_, M3, run_t ?_ tt rfl, q.1, q.2.1, q.2.2, tt⟩
    simp -implicitDefEqProofs only [den__law_amount, sSeq_ap, sAsg_ap, sPar_ap, sRet_ap, sIf_ap, sExpr_ap, sNext_ap, bnd_ap, ret_ap, bindR_ok, thenR_ok, dVar_ap, varR_ok, seqR_nx, seqR_rt, asgR_ok, gNm_ap, gCn_ap, gcnR_ok, gNl_ap, gTp_fr, gTp_ap, gLs_ap, dCons_ap, dNil_ap, asB_ap, dOr_ap, dAnd_ap, dNot_ap, dAndV_ap, dOrV_ap, dNotV_ap, dIf_ap, oAdd_int, oSub_int, oLt_int, oLe_int, oGt_int, oGe_int, oNeg_int, oEq_int, oNe_int, oEq_fr, oNe_fr, oEq_bl, oNe_bl, oTup_ap, oLst_ap, oCall_ap, oAbs_ap, oMax_ap, oMin_ap, oToInt_b, oToInt_i, oLen_lst, oLen_scr, oLen_tup, oIx_lst, oIx_scr, oAdd_lst, oIx_tup, oIx_fr0, oIx_fr1, ixR_ok, oItL_ap, oItT_ap, sFor_ap, startD, List.map_cons, List.map_nil, List.length_cons, List.length_nil, List.replicate_succ, List.replicate_zero, List.cons_append, List.nil_append, List.append_nil, List.getElem?_cons_zero, List.getElem?_cons_succ, List.set_cons_zero, List.set_cons_succ, Nat.reduceAdd, Nat.reduceSub, Nat.sub_self, Nat.reduceLeDiff, List.all_cons, List.all_nil, np_fr, np_int, np_bl, np_tup, np_lst, np_str, np_non, Bool.and_self, Bool.and_true, if_true_, if_false_, zero_add', if_tt, if_ff, decide_true, decide_false, Nat.le_refl, oItS_lst, oItS_tup, oTupOf_lst, oTupOf_tup, oLstOf_lst, oLstOf_tup, oRv_lst, oRv_tup, oAdd_tup, dChain_ap, asTru_bl, asTru_tup, asTru_lst, oIsN_ap, oNotN_ap, asI_ap, oSl_tup, oSl_lst, oZip_tup, oZip_lst, oAddI_ap, oEqS_ap, oNeS_ap, oNe_nil, lP, su, e1, e2, e3, (by decide : ¬ ((3 : Int) = 0)), (by decide : ¬ ((3 : Int) = 1)), (by decide : ¬ ((3 : Int) = 2)), (by decide : ¬ ((3 : Int) = 4)), decide_true, decide_false, Bool.false_eq_true, lo, cd, lD]
  · by_cases g : u < 500
    · by_cases l : v3 < mn
      · have q0 : 0 ≤ Rat.divInt (2 * v3 + 1) (2 * u) := divInt_nn (by omega) (by omega)
        have q1 : Rat.divInt (2 * v3 + 1) (2 * u) ≤ sumW (brQ u P) := by
          rw [sum_toQ]
          refine div_le_div (by omega) (by omega) ?_
          have : (2 * v3 + 1) * u ≤ (2 * sW P) * u := Int.mul_le_mul_of_nonneg_right (by omega) (by omega)
          have e : 2 * sW P * u = sW P * (2 * u) := by rw [Int.mul_comm 2 (sW P), Int.mul_assoc]
          omega
        have m1 : MulOk 2 v3 := MulOk.of (a := 10) (b := 30) (by decide) (by omega)
        have m2 : MulOk 2 u := MulOk.of (a := 10) (b := 30) (by decide) (by omega)
        have lo2 := fun M => low_eq (t := 2 * v3 + 1) (b := 2 * u) (by omega) (small_lt _ (by omega) (by omega)) M
        refine ⟨_, M3, run_t ?_ tt rfl, q0, q1, gu_div2, tt⟩
        simp -implicitDefEqProofs only [den__law_amount, sSeq_ap, sAsg_ap, sPar_ap, sRet_ap, sIf_ap, sExpr_ap, sNext_ap, bnd_ap, ret_ap, bindR_ok, thenR_ok, dVar_ap, varR_ok, seqR_nx, seqR_rt, asgR_ok, gNm_ap, gCn_ap, gcnR_ok, gNl_ap, gTp_fr, gTp_ap, gLs_ap, dCons_ap, dNil_ap, asB_ap, dOr_ap, dAnd_ap, dNot_ap, dAndV_ap, dOrV_ap, dNotV_ap, dIf_ap, oAdd_int, oSub_int, oLt_int, oLe_int, oGt_int, oGe_int, oNeg_int, oEq_int, oNe_int, oEq_fr, oNe_fr, oEq_bl, oNe_bl, oTup_ap, oLst_ap, oCall_ap, oAbs_ap, oMax_ap, oMin_ap, oToInt_b, oToInt_i, oLen_lst, oLen_scr, oLen_tup, oIx_lst, oIx_scr, oAdd_lst, oIx_tup, oIx_fr0, oIx_fr1, ixR_ok, oItL_ap, oItT_ap, sFor_ap, startD, List.map_cons, List.map_nil, List.length_cons, List.length_nil, List.replicate_succ, List.replicate_zero, List.cons_append, List.nil_append, List.append_nil, List.getElem?_cons_zero, List.getElem?_cons_succ, List.set_cons_zero, List.set_cons_succ, Nat.reduceAdd, Nat.reduceSub, Nat.sub_self, Nat.reduceLeDiff, List.all_cons, List.all_nil, np_fr, np_int, np_bl, np_tup, np_lst, np_str, np_non, Bool.and_self, Bool.and_true, if_true_, if_false_, zero_add', if_tt, if_ff, decide_true, decide_false, Nat.le_refl, oItS_lst, oItS_tup, oTupOf_lst, oTupOf_tup, oLstOf_lst, oLstOf_tup, oRv_lst, oRv_tup, oAdd_tup, dChain_ap, asTru_bl, asTru_tup, asTru_lst, oIsN_ap, oNotN_ap, asI_ap, oSl_tup, oSl_lst, oZip_tup, oZip_lst, oAddI_ap, oEqS_ap, oNeS_ap, oNe_nil, lP, su, e1, e2, e3, (by decide : ¬ ((4 : Int) = 0)), (by decide : ¬ ((4 : Int) = 1)), (by decide : ¬ ((4 : Int) = 2)), (by decide : ¬ ((4 : Int) = 3)), decide_true, decide_false, Bool.false_eq_true, g, hmn, l, oMul_int m1, oMul_int m2, lo2]
      · have q := fin v3 a3 (by omega)
        refine ⟨_, M3, run_t ?_ tt rfl, q.1, q.2.1, q.2.2, tt⟩
        simp -implicitDefEqProofs only [den__law_amount, sSeq_ap, sAsg_ap, sPar_ap, sRet_ap, sIf_ap, sExpr_ap, sNext_ap, bnd_ap, ret_ap, bindR_ok, thenR_ok, dVar_ap, varR_ok, seqR_nx, seqR_rt, asgR_ok, gNm_ap, gCn_ap, gcnR_ok, gNl_ap, gTp_fr, gTp_ap, gLs_ap, dCons_ap, dNil_ap, asB_ap, dOr_ap, dAnd_ap, dNot_ap, dAndV_ap, dOrV_ap, dNotV_ap, dIf_ap, oAdd_int, oSub_int, oLt_int, oLe_int, oGt_int, oGe_int, oNeg_int, oEq_int, oNe_int, oEq_fr, oNe_fr, oEq_bl, oNe_bl, oTup_ap, oLst_ap, oCall_ap, oAbs_ap, oMax_ap, oMin_ap, oToInt_b, oToInt_i, oLen_lst, oLen_scr, oLen_tup, oIx_lst, oIx_scr, oAdd_lst, oIx_tup, oIx_fr0, oIx_fr1, ixR_ok, oItL_ap, oItT_ap, sFor_ap, startD, List.map_cons, List.map_nil, List.length_cons, List.length_nil, List.replicate_succ, List.replicate_zero, List.cons_append, List.nil_append, List.append_nil, List.getElem?_cons_zero, List.getElem?_cons_succ, List.set_cons_zero, List.set_cons_succ, Nat.reduceAdd, Nat.reduceSub, Nat.sub_self, Nat.reduceLeDiff, List.all_cons, List.all_nil, np_fr, np_int, np_bl, np_tup, np_lst, np_str, np_non, Bool.and_self, Bool.and_true, if_true_, if_false_, zero_add', if_tt, if_ff, decide_true, decide_false, Nat.le_refl, oItS_lst, oItS_tup, oTupOf_lst, oTupOf_tup, oLstOf_lst, oLstOf_tup, oRv_lst, oRv_tup, oAdd_tup, dChain_ap, asTru_bl, asTru_tup, asTru_lst, oIsN_ap, oNotN_ap, asI_ap, oSl_tup, oSl_lst, oZip_tup, oZip_lst, oAddI_ap, oEqS_ap, oNeS_ap, oNe_nil, lP, su, e1, e2, e3, (by decide : ¬ ((4 : Int) = 0)), (by decide : ¬ ((4 : Int) = 1)), (by decide : ¬ ((4 : Int) = 2)), (by decide : ¬ ((4 : Int) = 3)), decide_true, decide_false, Bool.false_eq_true, g, hmn, l, lo]
    · have q := fin v3 a3 (by omega)
      refine ⟨_, M3, run_t ?_ tt rfl, q.1, q.2.1, q.2.2, tt⟩
      simp -implicitDefEqProofs only [den__law_amount, sSeq_ap, sAsg_ap, sPar_ap, sRet_ap, sIf_ap, sExpr_ap, sNext_ap, bnd_ap, ret_ap, bindR_ok, thenR_ok, dVar_ap, varR_ok, seqR_nx, seqR_rt, asgR_ok, gNm_ap, gCn_ap, gcnR_ok, gNl_ap, gTp_fr, gTp_ap, gLs_ap, dCons_ap, dNil_ap, asB_ap, dOr_ap, dAnd_ap, dNot_ap, dAndV_ap, dOrV_ap, dNotV_ap, dIf_ap, oAdd_int, oSub_int, oLt_int, oLe_int, oGt_int, oGe_int, oNeg_int, oEq_int, oNe_int, oEq_fr, oNe_fr, oEq_bl, oNe_bl, oTup_ap, oLst_ap, oCall_ap, oAbs_ap, oMax_ap, oMin_ap, oToInt_b, oToInt_i, oLen_lst, oLen_scr, oLen_tup, oIx_lst, oIx_scr, oAdd_lst, oIx_tup, oIx_fr0, oIx_fr1, ixR_ok, oItL_ap, oItT_ap, sFor_ap, startD, List.map_cons, List.map_nil, List.length_cons, List.length_nil, List.replicate_succ, List.replicate_zero, List.cons_append, List.nil_append, List.append_nil, List.getElem?_cons_zero, List.getElem?_cons_succ, List.set_cons_zero, List.set_cons_succ, Nat.reduceAdd, Nat.reduceSub, Nat.sub_self, Nat.reduceLeDiff, List.all_cons, List.all_nil, np_fr, np_int, np_bl, np_tup, np_lst, np_str, np_non, Bool.and_self, Bool.and_true, if_true_, if_false_, zero_add', if_tt, if_ff, decide_true, decide_false, Nat.le_refl, oItS_lst, oItS_tup, oTupOf_lst, oTupOf_tup, oLstOf_lst, oLstOf_tup, oRv_lst, oRv_tup, oAdd_tup, dChain_ap, asTru_bl, asTru_tup, asTru_lst, oIsN_ap, oNotN_ap, asI_ap, oSl_tup, oSl_lst, oZip_tup, oZip_lst, oAddI_ap, oEqS_ap, oNeS_ap, oNe_nil, lP, su, e1, e2, e3, (by decide : ¬ ((4 : Int) = 0)), (by decide : ¬ ((4 : Int) = 1)), (by decide : ¬ ((4 : Int) = 2)), (by decide : ¬ ((4 : Int) = 3)), decide_true, decide_false, Bool.false_eq_true, g, lo]
  · have q := fin v3 a3 (by omega)
    refine ⟨_, M3, run_t ?_ tt rfl, q.1, q.2.1, q.2.2, tt⟩
    simp -implicitDefEqProofs only [den__law_amount, sSeq_ap, sAsg_ap, sPar_ap, sRet_ap, sIf_ap, sExpr_ap, sNext_ap, bnd_ap, ret_ap, bindR_ok, thenR_ok, dVar_ap, varR_ok, seqR_nx, seqR_rt, asgR_ok, gNm_ap, gCn_ap, gcnR_ok, gNl_ap, gTp_fr, gTp_ap, gLs_ap, dCons_ap, dNil_ap, asB_ap, dOr_ap, dAnd_ap, dNot_ap, dAndV_ap, dOrV_ap, dNotV_ap, dIf_ap, oAdd_int, oSub_int, oLt_int, oLe_int, oGt_int, oGe_int, oNeg_int, oEq_int, oNe_int, oEq_fr, oNe_fr, oEq_bl, oNe_bl, oTup_ap, oLst_ap, oCall_ap, oAbs_ap, oMax_ap, oMin_ap, oToInt_b, oToInt_i, oLen_lst, oLen_scr, oLen_tup, oIx_lst, oIx_scr, oAdd_lst, oIx_tup, oIx_fr0, oIx_fr1, ixR_ok, oItL_ap, oItT_ap, sFor_ap, startD, List.map_cons, List.map_nil, List.length_cons, List.length_nil, List.replicate_succ, List.replicate_zero, List.cons_append, List.nil_append, List.append_nil, List.getElem?_cons_zero, List.getElem?_cons_succ, List.set_cons_zero, List.set_cons_succ, Nat.reduceAdd, Nat.reduceSub, Nat.sub_self, Nat.reduceLeDiff, List.all_cons, List.all_nil, np_fr, np_int, np_bl, np_tup, np_lst, np_str, np_non, Bool.and_self, Bool.and_true, if_true_, if_false_, zero_add', if_tt, if_ff, decide_true, decide_false, Nat.le_refl, oItS_lst, oItS_tup, oTupOf_lst, oTupOf_tup, oLstOf_lst, oLstOf_tup, oRv_lst, oRv_tup, oAdd_tup, dChain_ap, asTru_bl, asTru_tup, asTru_lst, oIsN_ap, oNotN_ap, asI_ap, oSl_tup, oSl_lst, oZip_tup, oZip_lst, oAddI_ap, oEqS_ap, oNeS_ap, oNe_nil, lP, su, e1, e2, e3, (by decide : ¬ ((5 : Int) = 0)), (by decide : ¬ ((5 : Int) = 1)), (by decide : ¬ ((5 : Int) = 2)), (by decide : ¬ ((5 : Int) = 3)), (by decide : ¬ ((5 : Int) = 4)), decide_true, decide_false, Bool.false_eq_true, lo]
/-! what the law takes of a row -/
def ltk : List (Rat × Rat) → Rat → List (Rat × Rat) × List (Rat × Rat)
  | [], _ => ([], [])
  | x :: l, v => (((if x.1 < v then x.1 else v), x.2 * (if x.1 < v then x.1 else v) / x.1) :: (ltk l (v - (if x.1 < v then x.1 else v))).1,
      (x.1 - (if x.1 < v then x.1 else v), x.2 - x.2 * (if x.1 < v then x.1 else v) / x.1) :: (ltk l (v - (if x.1 < v then x.1 else v))).2)
theorem cut0 : ∀ (l : List (Rat × Rat)), Wet l → cut l 0 = ([], l)
  | [], _ => rfl
  | x :: l, h => cut_z h.hd
abbrev nz (x : Rat × Rat) : Bool := decide (x.1 ≠ 0)
theorem ltk_cut : ∀ (l : List (Rat × Rat)) (v : Rat), Wet l → 0 ≤ v → (ltk l v).1.filter nz = (cut l v).1 ∧ (ltk l v).2.filter nz = (cut l v).2
  | [], v, _, _ => ⟨rfl, rfl⟩
  | x :: l, v, h, v0 => by
    have x0 := h.hd
    have xn : x.1 ≠ 0 := Rat.ne_of_gt x0
    have xi := Rat.mul_inv_cancel _ xn
    have wh : x.2 * x.1 / x.1 = x.2 := by rw [Rat.div_def, Rat.mul_assoc, xi, Rat.mul_one]
    by_cases c : x.1 < v
    · obtain ⟨i1, i2⟩ := ltk_cut l (v - x.1) h.tl (by grind)
      rw [cut_ge (Rat.le_of_lt c)]
      unfold ltk
      simp -implicitDefEqProofs only [if_pos c]
      rw [wh]
      have z1 : nz (x.1, x.2) = true := by simp [nz, xn]
      have z2 : nz (x.1 - x.1, x.2 - x.2) = false := by simp [nz, Rat.sub_self]
      rw [List.filter_cons_of_pos z1, List.filter_cons_of_neg (by rw [z2]; simp), i1, i2]
      exact ⟨rfl, rfl⟩
    · by_cases e : v = x.1
      · subst e
        obtain ⟨i1, i2⟩ := ltk_cut l (x.1 - x.1) h.tl (by grind)
        rw [cut_ge Rat.le_refl]
        unfold ltk
        simp -implicitDefEqProofs only [if_neg c]
        rw [wh]
        have z1 : nz (x.1, x.2) = true := by simp [nz, xn]
        have z2 : nz (x.1 - x.1, x.2 - x.2) = false := by simp [nz, Rat.sub_self]
        rw [List.filter_cons_of_pos z1, List.filter_cons_of_neg (by rw [z2]; simp), i1, i2]
        exact ⟨rfl, rfl⟩
      · have lt : v < x.1 := by grind
        obtain ⟨i1, i2⟩ := ltk_cut l (v - v) h.tl (by grind)
        have c0 := cut0 l h.tl
        have vv : v - v = 0 := Rat.sub_self
        rw [vv, c0] at i1 i2
        have pe : x.2 * v / x.1 = x.2 * (v / x.1) := by rw [Rat.div_def, Rat.div_def, Rat.mul_assoc]
        have pr : x.2 - x.2 * (v / x.1) = x.2 * ((x.1 - v) / x.1) := by
          have := por_sum (x := x) (a := v) xn
          unfold por at this
          dsimp only at this
          grind
        unfold ltk
        simp -implicitDefEqProofs only [if_neg c]
        rw [vv, pe, pr]
        by_cases z : v = 0
        · subst z
          rw [cut_z x0]
          have z1 : nz ((0 : Rat), x.2 * (0 / x.1)) = false := by simp [nz]
          have x1 : x.1 - 0 = x.1 := by grind
          have x2 : x.2 * ((x.1 - 0) / x.1) = x.2 := by rw [x1, Rat.div_def, xi, Rat.mul_one]
          rw [x2, x1]
          have z2 : nz (x.1, x.2) = true := by simp [nz, xn]
          rw [List.filter_cons_of_neg (by rw [z1]; simp), List.filter_cons_of_pos z2, i1, i2]
          exact ⟨rfl, rfl⟩
        · rw [cut_lt lt z]
          have z1 : nz (v, x.2 * (v / x.1)) = true := by simp [nz, z]
          have z2 : nz (x.1 - v, x.2 * ((x.1 - v) / x.1)) = true := by
            have : x.1 - v ≠ 0 := by grind
            simp [nz, this]
          rw [List.filter_cons_of_pos z1, List.filter_cons_of_pos z2, i1, i2]
          exact ⟨rfl, rfl⟩
theorem ltk_len : ∀ (l : List (Rat × Rat)) (v : Rat), (ltk l v).1.length = l.length ∧ (ltk l v).2.length = l.length
  | [], _ => ⟨rfl, rfl⟩
  | x :: l, v => by
    have ih := ltk_len l (v - (if x.1 < v then x.1 else v))
    unfold ltk
    exact ⟨by rw [List.length_cons, List.length_cons, ih.1], by rw [List.length_cons, List.length_cons, ih.2]⟩
theorem ltaken_loop {m m' : Nat} (hm : m ≠ m') {U : Int} (hU : 1 ≤ U ∧ U ≤ 2000) {b0 o8 o9 : Option D} : ∀ (l : List (Rat × Rat)) (v : Rat) (T L : List (Rat × Rat)) (M : Mem) (o4 o5 o6 o7 : Option D), (∀ x ∈ l, BdL 23 x ∧ 0 < x.1 ∧ Gu U x.1) → Gu U v → 0 ≤ v → v ≤ ((2 ^ 20 : Int) : Rat) → M[m]? = some (some (T.map lyQ)) → M[m']? = some (some (L.map lyQ)) → T.length + l.length ≤ 5000 → L.length + l.length ≤ 5000 →
    ∃ o1 o4' o5' o6' o7' M', forF (gTp 2 (gCn (gNm 4) (gCn (gNm 5) gNl))) den__law_taken_L1 (l.map lyQ) [b0, some (frQ v), some (.ptr m), some (.ptr m'), o4, o5, o6, o7, o8, o9] M = some (.nx [b0, o1, some (.ptr m), some (.ptr m'), o4', o5', o6', o7', o8, o9], M') ∧ Two m m' (T ++ (ltk l v).1) (L ++ (ltk l v).2) M M'
  | [], v, T, L, M, o4, o5, o6, o7, _, _, _, _, ht, hl, _, _ => ⟨_, _, _, _, _, M, rfl, rfl, by rw [show (ltk [] v).1 = [] from rfl, List.append_nil]; exact ht, by rw [show (ltk [] v).2 = [] from rfl, List.append_nil]; exact hl, fun _ _ _ => rfl⟩
  | x :: l, v, T, L, M, o4, o5, o6, o7, h, gv, v0, v1, ht, hl, nT, nL => by
    rw [List.length_cons] at nT nL
    obtain ⟨bx, x0, gx⟩ := h x (by simp)
    have xn : x.1 ≠ 0 := Rat.ne_of_gt x0
    have bv : Bd 32 v := gv.bd hU v0 v1
    have i1 := lunder_eq (bx.w.mono (n := 1900) (by decide)) (bv.mono (n := 1900) (by decide)) M
    generalize hp : (if x.1 < v then x.1 else v) = p
    have bp : Bd 32 p := by rw [← hp]; split; exact bx.w.mono (by decide); exact bv
    have gp : Gu U p := by rw [← hp]; split; exact gx; exact gv
    have p0 : 0 ≤ p := by rw [← hp]; split; exact Rat.le_of_lt x0; exact v0
    have pv : p ≤ v := by rw [← hp]; split; rename_i c; exact Rat.le_of_lt c; exact Rat.le_refl
    have l1 := lless_eq (bv.mono (n := 1900) (by decide)) (bp.mono (n := 1900) (by decide)) M
    have t1 := ltimes_eq (bx.s.mono (n := 1900) (by decide)) (bp.mono (n := 1900) (by decide)) M
    have b1 := (bx.s.mul bp)
    have d1 := lby_eq (b1.mono (n := 1900) (by decide)) (bx.w.mono (n := 1900) (by decide)) xn M
    have bg := b1.div bx.w
    have l2 := lless_eq (bx.w.mono (n := 1900) (by decide)) (bp.mono (n := 1900) (by decide))
    have l3 := lless_eq (bx.s.mono (n := 1900) (by decide)) (bg.mono (n := 1900) (by decide))
    have ps := fun ρ => push_step (x := (p, x.2 * p / x.1)) ht (by omega) ρ
    have hl2 : (M.set m (some ((T ++ [(p, x.2 * p / x.1)]).map lyQ)))[m']? = some (some (L.map lyQ)) := by rw [List.getElem?_set_ne hm]; exact hl
    have ps2 := fun ρ => push_step (x := (x.1 - p, x.2 - x.2 * p / x.1)) hl2 (by omega) ρ
    have t2 : (M.set m (some ((T ++ [(p, x.2 * p / x.1)]).map lyQ)) |>.set m' (some ((L ++ [(x.1 - p, x.2 - x.2 * p / x.1)]).map lyQ)))[m]? = some (some ((T ++ [(p, x.2 * p / x.1)]).map lyQ)) := by
      rw [List.getElem?_set_ne (Ne.symm hm), List.getElem?_set_self (List.getElem?_eq_some_iff.mp ht).1]
    have t3 : (M.set m (some ((T ++ [(p, x.2 * p / x.1)]).map lyQ)) |>.set m' (some ((L ++ [(x.1 - p, x.2 - x.2 * p / x.1)]).map lyQ)))[m']? = some (some ((L ++ [(x.1 - p, x.2 - x.2 * p / x.1)]).map lyQ)) := List.getElem?_set_self (List.getElem?_eq_some_iff.mp hl2).1
    obtain ⟨p1, p4, p5, p6, p7, M2, e2, w2⟩ := ltaken_loop hm hU (b0 := b0) (o8 := o8) (o9 := o9) l (v - p) (T ++ [(p, x.2 * p / x.1)]) (L ++ [(x.1 - p, x.2 - x.2 * p / x.1)]) _ (some (frQ x.1)) (some (frQ x.2)) (some (frQ p)) (some (frQ (x.2 * p / x.1))) (fun y hy => h y (by simp [hy])) (gv.sub gp) (by grind) (by grind) t2 t3 (by simp; omega) (by simp; omega)
    refine ⟨p1, p4, p5, p6, p7, M2, ?_, w2.len.trans (by simp), ?_, ?_, fun j a b => (w2.oth j a b).trans (by rw [List.getElem?_set_ne (Ne.symm b), List.getElem?_set_ne (Ne.symm a)])⟩
    · have ly1 : D.tup [frQ p, frQ (x.2 * p / x.1)] = lyQ (p, x.2 * p / x.1) := rfl
      have ly2 : D.tup [frQ (x.1 - p), frQ (x.2 - x.2 * p / x.1)] = lyQ (x.1 - p, x.2 - x.2 * p / x.1) := rfl
      have o1 := fun ρ => (ps ρ).1
      have o2 := fun ρ => (ps ρ).2
      have o3 := fun ρ => (ps2 ρ).1
      have o4 := fun ρ => (ps2 ρ).2
      have st : den__law_taken_L1 [b0, some (frQ v), some (.ptr m), some (.ptr m'), some (frQ x.1), some (frQ x.2), o6, o7, o8, o9] M = some (.nx [b0, some (frQ (v - p)), some (.ptr m), some (.ptr m'), some (frQ x.1), some (frQ x.2), some (frQ p), some (frQ (x.2 * p / x.1)), o8, o9], (M.set m (some ((T ++ [(p, x.2 * p / x.1)]).map lyQ))).set m' (some ((L ++ [(x.1 - p, x.2 - x.2 * p / x.1)]).map lyQ))) := by
        by_cases c : x.1 < v
        · rw [if_pos c] at hp
          subst hp
          simp -implicitDefEqProofs only [den__law_taken_L1, sSeq_ap, sAsg_ap, sPar_ap, sRet_ap, sIf_ap, sExpr_ap, sNext_ap, bnd_ap, ret_ap, bindR_ok, thenR_ok, dVar_ap, varR_ok, seqR_nx, seqR_rt, asgR_ok, gNm_ap, gCn_ap, gcnR_ok, gNl_ap, gTp_fr, gTp_ap, gLs_ap, dCons_ap, dNil_ap, asB_ap, dOr_ap, dAnd_ap, dNot_ap, dAndV_ap, dOrV_ap, dNotV_ap, dIf_ap, oAdd_int, oSub_int, oLt_int, oLe_int, oGt_int, oGe_int, oNeg_int, oEq_int, oNe_int, oEq_fr, oNe_fr, oEq_bl, oNe_bl, oTup_ap, oLst_ap, oCall_ap, oAbs_ap, oMax_ap, oMin_ap, oToInt_b, oToInt_i, oLen_lst, oLen_scr, oLen_tup, oIx_lst, oIx_scr, oAdd_lst, oIx_tup, oIx_fr0, oIx_fr1, ixR_ok, oItL_ap, oItT_ap, sFor_ap, startD, List.map_cons, List.map_nil, List.length_cons, List.length_nil, List.replicate_succ, List.replicate_zero, List.cons_append, List.nil_append, List.append_nil, List.getElem?_cons_zero, List.getElem?_cons_succ, List.set_cons_zero, List.set_cons_succ, Nat.reduceAdd, Nat.reduceSub, Nat.sub_self, Nat.reduceLeDiff, List.all_cons, List.all_nil, np_fr, np_int, np_bl, np_tup, np_lst, np_str, np_non, Bool.and_self, Bool.and_true, if_true_, if_false_, zero_add', if_tt, if_ff, decide_true, decide_false, Nat.le_refl, oItS_lst, oItS_tup, oTupOf_lst, oTupOf_tup, oLstOf_lst, oLstOf_tup, oRv_lst, oRv_tup, oAdd_tup, dChain_ap, asTru_bl, asTru_tup, asTru_lst, oIsN_ap, oNotN_ap, asI_ap, oSl_tup, oSl_lst, oZip_tup, oZip_lst, oAddI_ap, oEqS_ap, oNeS_ap, oNe_nil, i1, c, l1, t1, d1, ly1, o1, o2, l2, l3, ly2, o3, o4]
        · rw [if_neg c] at hp
          subst hp
          simp -implicitDefEqProofs only [den__law_taken_L1, sSeq_ap, sAsg_ap, sPar_ap, sRet_ap, sIf_ap, sExpr_ap, sNext_ap, bnd_ap, ret_ap, bindR_ok, thenR_ok, dVar_ap, varR_ok, seqR_nx, seqR_rt, asgR_ok, gNm_ap, gCn_ap, gcnR_ok, gNl_ap, gTp_fr, gTp_ap, gLs_ap, dCons_ap, dNil_ap, asB_ap, dOr_ap, dAnd_ap, dNot_ap, dAndV_ap, dOrV_ap, dNotV_ap, dIf_ap, oAdd_int, oSub_int, oLt_int, oLe_int, oGt_int, oGe_int, oNeg_int, oEq_int, oNe_int, oEq_fr, oNe_fr, oEq_bl, oNe_bl, oTup_ap, oLst_ap, oCall_ap, oAbs_ap, oMax_ap, oMin_ap, oToInt_b, oToInt_i, oLen_lst, oLen_scr, oLen_tup, oIx_lst, oIx_scr, oAdd_lst, oIx_tup, oIx_fr0, oIx_fr1, ixR_ok, oItL_ap, oItT_ap, sFor_ap, startD, List.map_cons, List.map_nil, List.length_cons, List.length_nil, List.replicate_succ, List.replicate_zero, List.cons_append, List.nil_append, List.append_nil, List.getElem?_cons_zero, List.getElem?_cons_succ, List.set_cons_zero, List.set_cons_succ, Nat.reduceAdd, Nat.reduceSub, Nat.sub_self, Nat.reduceLeDiff, List.all_cons, List.all_nil, np_fr, np_int, np_bl, np_tup, np_lst, np_str, np_non, Bool.and_self, Bool.and_true, if_true_, if_false_, zero_add', if_tt, if_ff, decide_true, decide_false, Nat.le_refl, oItS_lst, oItS_tup, oTupOf_lst, oTupOf_tup, oLstOf_lst, oLstOf_tup, oRv_lst, oRv_tup, oAdd_tup, dChain_ap, asTru_bl, asTru_tup, asTru_lst, oIsN_ap, oNotN_ap, asI_ap, oSl_tup, oSl_lst, oZip_tup, oZip_lst, oAddI_ap, oEqS_ap, oNeS_ap, oNe_nil, i1, c, Bool.false_eq_true, l1, t1, d1, ly1, o1, o2, l2, l3, ly2, o3, o4]
      rw [List.map_cons, forF_cons, gTp_ly]
      simp -implicitDefEqProofs only [sSeq_ap, sAsg_ap, sPar_ap, sRet_ap, sIf_ap, sExpr_ap, sNext_ap, bnd_ap, ret_ap, bindR_ok, thenR_ok, dVar_ap, varR_ok, seqR_nx, seqR_rt, asgR_ok, gNm_ap, gCn_ap, gcnR_ok, gNl_ap, gTp_fr, gTp_ap, gLs_ap, dCons_ap, dNil_ap, asB_ap, dOr_ap, dAnd_ap, dNot_ap, dAndV_ap, dOrV_ap, dNotV_ap, dIf_ap, oAdd_int, oSub_int, oLt_int, oLe_int, oGt_int, oGe_int, oNeg_int, oEq_int, oNe_int, oEq_fr, oNe_fr, oEq_bl, oNe_bl, oTup_ap, oLst_ap, oCall_ap, oAbs_ap, oMax_ap, oMin_ap, oToInt_b, oToInt_i, oLen_lst, oLen_scr, oLen_tup, oIx_lst, oIx_scr, oAdd_lst, oIx_tup, oIx_fr0, oIx_fr1, ixR_ok, oItL_ap, oItT_ap, sFor_ap, startD, List.map_cons, List.map_nil, List.length_cons, List.length_nil, List.replicate_succ, List.replicate_zero, List.cons_append, List.nil_append, List.append_nil, List.getElem?_cons_zero, List.getElem?_cons_succ, List.set_cons_zero, List.set_cons_succ, Nat.reduceAdd, Nat.reduceSub, Nat.sub_self, Nat.reduceLeDiff, List.all_cons, List.all_nil, np_fr, np_int, np_bl, np_tup, np_lst, np_str, np_non, Bool.and_self, Bool.and_true, if_true_, if_false_, zero_add', if_tt, if_ff, decide_true, decide_false, Nat.le_refl, oItS_lst, oItS_tup, oTupOf_lst, oTupOf_tup, oLstOf_lst, oLstOf_tup, oRv_lst, oRv_tup, oAdd_tup, dChain_ap, asTru_bl, asTru_tup, asTru_lst, oIsN_ap, oNotN_ap, asI_ap, oSl_tup, oSl_lst, oZip_tup, oZip_lst, oAddI_ap, oEqS_ap, oNeS_ap, oNe_nil, forB_ok]
      rw [st, ofR_nx, e2]
    · have : T ++ (ltk (x :: l) v).1 = T ++ [(p, x.2 * p / x.1)] ++ (ltk l (v - p)).1 := by
        rw [ltk.eq_2, hp, List.append_assoc]; rfl
      rw [this]; exact w2.t
    · have : L ++ (ltk (x :: l) v).2 = L ++ [(x.1 - p, x.2 - x.2 * p / x.1)] ++ (ltk l (v - p)).2 := by
        rw [ltk.eq_2, hp, List.append_assoc]; rfl
      rw [this]; exact w2.l
theorem nzs {b0 b1 o2 o3 o4 o5 o6 o7 o8 o9 : Option D} (T : List (Rat × Rat)) (hl : T.length ≤ 5000) (M : Mem) : oLc (gNm 9) (bnd (bnd (bnd (dVar 9) fun d => bnd (ret (.int 0)) fun e => oIx d e) fun d => bnd (bnd (dCons (ret (.int 0)) (dCons (ret (.int 1)) dNil)) oTup) fun e => oNe d e) asB) (dVar 9) [9] (T.map lyQ) [b0, b1, o2, o3, o4, o5, o6, o7, o8, o9] M = some (.ok (.lst ((T.filter nz).map lyQ)), M) :=
  oLc_en (en := lyQ) (ρ := [b0, b1, o2, o3, o4, o5, o6, o7, o8, o9]) (p := nz) (g := lyQ) (l := T) (M := M) (fun x _ => ⟨[b0, b1, o2, o3, o4, o5, o6, o7, o8, some (lyQ x)], rfl, fun M' _ => by
    simp -implicitDefEqProofs only [sSeq_ap, sAsg_ap, sPar_ap, sRet_ap, sIf_ap, sExpr_ap, sNext_ap, bnd_ap, ret_ap, bindR_ok, thenR_ok, dVar_ap, varR_ok, seqR_nx, seqR_rt, asgR_ok, gNm_ap, gCn_ap, gcnR_ok, gNl_ap, gTp_fr, gTp_ap, gLs_ap, dCons_ap, dNil_ap, asB_ap, dOr_ap, dAnd_ap, dNot_ap, dAndV_ap, dOrV_ap, dNotV_ap, dIf_ap, oAdd_int, oSub_int, oLt_int, oLe_int, oGt_int, oGe_int, oNeg_int, oEq_int, oNe_int, oEq_fr, oNe_fr, oEq_bl, oNe_bl, oTup_ap, oLst_ap, oCall_ap, oAbs_ap, oMax_ap, oMin_ap, oToInt_b, oToInt_i, oLen_lst, oLen_scr, oLen_tup, oIx_lst, oIx_scr, oAdd_lst, oIx_tup, oIx_fr0, oIx_fr1, ixR_ok, oItL_ap, oItT_ap, sFor_ap, startD, List.map_cons, List.map_nil, List.length_cons, List.length_nil, List.replicate_succ, List.replicate_zero, List.cons_append, List.nil_append, List.append_nil, List.getElem?_cons_zero, List.getElem?_cons_succ, List.set_cons_zero, List.set_cons_succ, Nat.reduceAdd, Nat.reduceSub, Nat.sub_self, Nat.reduceLeDiff, List.all_cons, List.all_nil, np_fr, np_int, np_bl, np_tup, np_lst, np_str, np_non, Bool.and_self, Bool.and_true, if_true_, if_false_, zero_add', if_tt, if_ff, decide_true, decide_false, Nat.le_refl, oItS_lst, oItS_tup, oTupOf_lst, oTupOf_tup, oLstOf_lst, oLstOf_tup, oRv_lst, oRv_tup, oAdd_tup, dChain_ap, asTru_bl, asTru_tup, asTru_lst, oIsN_ap, oNotN_ap, asI_ap, oSl_tup, oSl_lst, oZip_tup, oZip_lst, oAddI_ap, oEqS_ap, oNeS_ap, oNe_nil, oIx_ly0, zero_fr]
    simp [nz], fun _ => ⟨rfl, fun M' _ => rfl⟩⟩) (by omega)
theorem sFrzV_nx {i n : Nat} {ρ : Env} {M : Mem} {ds : List D} (h : ρ[i]? = some (some (.ptr n))) (hm : M[n]? = some (some ds)) : sFrzV i ρ M = some (.nx (ρ.set i (some (.lst ds))), M.set n none) := sFrzV_ap h hm
theorem ltaken_eq {U : Int} (hU : 1 ≤ U ∧ U ≤ 2000) {l : List (Rat × Rat)} {v : Rat} (h : ∀ x ∈ l, BdL 23 x ∧ 0 < x.1 ∧ Gu U x.1) (ll : l.length ≤ 200) (gv : Gu U v) (v0 : 0 ≤ v) (v1 : v ≤ ((2 ^ 20 : Int) : Rat)) (M : Mem) : F__law_taken [.lst (l.map lyQ), frQ v] M = some (.ok (.lst [.lst ((cut l v).1.map lyQ), .lst ((cut l v).2.map lyQ)]), M) := by
  have hne : M.length ≠ M.length + 1 := by omega
  have c1 : (M ++ [some []] ++ [some []])[M.length]? = some (some (([] : List (Rat × Rat)).map lyQ)) := by
    rw [List.getElem?_append_left (by simp), last_cell]; rfl
  have c2 : (M ++ [some []] ++ [some []])[M.length + 1]? = some (some (([] : List (Rat × Rat)).map lyQ)) := by
    have := last_cell (M ++ [some []]) (some [])
    rw [List.length_append] at this; exact this
  obtain ⟨o1, o4, o5, o6, o7, M', e, w⟩ := ltaken_loop hne hU (b0 := some (.lst (l.map lyQ))) (o8 := none) (o9 := none) l v [] [] (M ++ [some []] ++ [some []]) none none none none h gv v0 v1 c1 c2 (by simp; omega) (by simp; omega)
  rw [List.nil_append] at w
  rw [List.nil_append] at w
  have n1 : ∀ ρ, oNew [] ρ M = some (.ok (.ptr M.length), M ++ [some []]) := fun _ => rfl
  have n2 : ∀ ρ, oNew [] ρ (M ++ [some []]) = some (.ok (.ptr (M.length + 1)), M ++ [some []] ++ [some []]) := fun ρ => by
    have : oNew [] ρ (M ++ [some []]) = some (.ok (.ptr (M ++ [some ([] : List D)]).length), M ++ [some []] ++ [some []]) := rfl
    rw [this, List.length_append]; rfl
  obtain ⟨k1, k2⟩ := ltk_cut l v (fun x hx => (h x hx).2.1) v0
  obtain ⟨q1, q2⟩ := ltk_len l v
  have f1 := sFrzV_nx (i := 2) (ρ := [some (.lst (l.map lyQ)), o1, some (.ptr M.length), some (.ptr (M.length + 1)), o4, o5, o6, o7, none, none]) rfl w.t
  have w2 : (M'.set M.length none)[M.length + 1]? = some (some ((ltk l v).2.map lyQ)) := by rw [List.getElem?_set_ne (by omega)]; exact w.l
  have f2 := sFrzV_nx (i := 3) (ρ := [some (.lst (l.map lyQ)), o1, some (.lst ((ltk l v).1.map lyQ)), some (.ptr (M.length + 1)), o4, o5, o6, o7, none, none]) rfl w2
  have z1 := fun o2 o3 o4 o5 o6 o7 o8 M => nzs (b0 := some (.lst (l.map lyQ))) (b1 := o1) (o2 := o2) (o3 := o3) (o4 := o4) (o5 := o5) (o6 := o6) (o7 := o7) (o8 := o8) (o9 := none) (ltk l v).1 (by omega) M
  have z2 := fun o2 o3 o4 o5 o6 o7 o8 M => nzs (b0 := some (.lst (l.map lyQ))) (b1 := o1) (o2 := o2) (o3 := o3) (o4 := o4) (o5 := o5) (o6 := o6) (o7 := o7) (o8 := o8) (o9 := none) (ltk l v).2 (by omega) M
  rw [k1] at z1
  rw [k2] at z2
  generalize (ltk l v).1.map lyQ = A at f1 f2 z1
  generalize (ltk l v).2.map lyQ = B at f2 w2 z2
  have lc := oLc_en (en := fun b : Bool => if b then D.lst A else D.lst B) (b := gNm 8) (tt := ret true) (te := bnd (bnd (dVar 8) oItS) (oLc (gNm 9) (bnd (bnd (bnd (dVar 9) fun d => bnd (ret (.int 0)) fun e => oIx d e) fun d => bnd (bnd (dCons (ret (.int 0)) (dCons (ret (.int 1)) dNil)) oTup) fun e => oNe d e) asB) (dVar 9) [9])) (vs := [8]) (ρ := [some (.lst (l.map lyQ)), o1, some (.lst A), some (.lst B), o4, o5, o6, o7, none, none]) (p := fun _ => true) (g := fun b => if b then D.lst ((cut l v).1.map lyQ) else D.lst ((cut l v).2.map lyQ)) (l := [true, false]) (M := (M'.set M.length none).set (M.length + 1) none) (fun b hb => ⟨[some (.lst (l.map lyQ)), o1, some (.lst A), some (.lst B), o4, o5, o6, o7, some (if b then D.lst A else D.lst B), none], rfl, fun M' _ => rfl, fun _ => ⟨by cases b <;> rfl, fun M' _ => by
    cases b
    · simp -implicitDefEqProofs only [sSeq_ap, sAsg_ap, sPar_ap, sRet_ap, sIf_ap, sExpr_ap, sNext_ap, bnd_ap, ret_ap, bindR_ok, thenR_ok, dVar_ap, varR_ok, seqR_nx, seqR_rt, asgR_ok, gNm_ap, gCn_ap, gcnR_ok, gNl_ap, gTp_fr, gTp_ap, gLs_ap, dCons_ap, dNil_ap, asB_ap, dOr_ap, dAnd_ap, dNot_ap, dAndV_ap, dOrV_ap, dNotV_ap, dIf_ap, oAdd_int, oSub_int, oLt_int, oLe_int, oGt_int, oGe_int, oNeg_int, oEq_int, oNe_int, oEq_fr, oNe_fr, oEq_bl, oNe_bl, oTup_ap, oLst_ap, oCall_ap, oAbs_ap, oMax_ap, oMin_ap, oToInt_b, oToInt_i, oLen_lst, oLen_scr, oLen_tup, oIx_lst, oIx_scr, oAdd_lst, oIx_tup, oIx_fr0, oIx_fr1, ixR_ok, oItL_ap, oItT_ap, sFor_ap, startD, List.map_cons, List.map_nil, List.length_cons, List.length_nil, List.replicate_succ, List.replicate_zero, List.cons_append, List.nil_append, List.append_nil, List.getElem?_cons_zero, List.getElem?_cons_succ, List.set_cons_zero, List.set_cons_succ, Nat.reduceAdd, Nat.reduceSub, Nat.sub_self, Nat.reduceLeDiff, List.all_cons, List.all_nil, np_fr, np_int, np_bl, np_tup, np_lst, np_str, np_non, Bool.and_self, Bool.and_true, if_true_, if_false_, zero_add', if_tt, if_ff, decide_true, decide_false, Nat.le_refl, oItS_lst, oItS_tup, oTupOf_lst, oTupOf_tup, oLstOf_lst, oLstOf_tup, oRv_lst, oRv_tup, oAdd_tup, dChain_ap, asTru_bl, asTru_tup, asTru_lst, oIsN_ap, oNotN_ap, asI_ap, oSl_tup, oSl_lst, oZip_tup, oZip_lst, oAddI_ap, oEqS_ap, oNeS_ap, oNe_nil, z2]
    · simp -implicitDefEqProofs only [sSeq_ap, sAsg_ap, sPar_ap, sRet_ap, sIf_ap, sExpr_ap, sNext_ap, bnd_ap, ret_ap, bindR_ok, thenR_ok, dVar_ap, varR_ok, seqR_nx, seqR_rt, asgR_ok, gNm_ap, gCn_ap, gcnR_ok, gNl_ap, gTp_fr, gTp_ap, gLs_ap, dCons_ap, dNil_ap, asB_ap, dOr_ap, dAnd_ap, dNot_ap, dAndV_ap, dOrV_ap, dNotV_ap, dIf_ap, oAdd_int, oSub_int, oLt_int, oLe_int, oGt_int, oGe_int, oNeg_int, oEq_int, oNe_int, oEq_fr, oNe_fr, oEq_bl, oNe_bl, oTup_ap, oLst_ap, oCall_ap, oAbs_ap, oMax_ap, oMin_ap, oToInt_b, oToInt_i, oLen_lst, oLen_scr, oLen_tup, oIx_lst, oIx_scr, oAdd_lst, oIx_tup, oIx_fr0, oIx_fr1, ixR_ok, oItL_ap, oItT_ap, sFor_ap, startD, List.map_cons, List.map_nil, List.length_cons, List.length_nil, List.replicate_succ, List.replicate_zero, List.cons_append, List.nil_append, List.append_nil, List.getElem?_cons_zero, List.getElem?_cons_succ, List.set_cons_zero, List.set_cons_succ, Nat.reduceAdd, Nat.reduceSub, Nat.sub_self, Nat.reduceLeDiff, List.all_cons, List.all_nil, np_fr, np_int, np_bl, np_tup, np_lst, np_str, np_non, Bool.and_self, Bool.and_true, if_true_, if_false_, zero_add', if_tt, if_ff, decide_true, decide_false, Nat.le_refl, oItS_lst, oItS_tup, oTupOf_lst, oTupOf_tup, oLstOf_lst, oLstOf_tup, oRv_lst, oRv_tup, oAdd_tup, dChain_ap, asTru_bl, asTru_tup, asTru_lst, oIsN_ap, oNotN_ap, asI_ap, oSl_tup, oSl_lst, oZip_tup, oZip_lst, oAddI_ap, oEqS_ap, oNeS_ap, oNe_nil, z1]⟩⟩) (by decide)
  rw [filter_true] at lc
  have den : den__law_taken (startD ["layers", "water", "taken", "left", "one", "salt", "part", "went", "some", "layer"] [.lst (l.map lyQ), frQ v]) M = some (.rt (.lst [.lst ((cut l v).1.map lyQ), .lst ((cut l v).2.map lyQ)]), (M'.set M.length none).set (M.length + 1) none) := by
    generalize ((cut l v).1.map lyQ) = CA at lc ⊢
    generalize ((cut l v).2.map lyQ) = CB at lc ⊢
    generalize l.map lyQ = LD at e f1 f2 lc ⊢
    simp -implicitDefEqProofs only [List.map_cons, List.map_nil, if_true, Bool.false_eq_true, if_false] at lc
    simp -implicitDefEqProofs only [den__law_taken, sSeq_ap, sAsg_ap, sPar_ap, sRet_ap, sIf_ap, sExpr_ap, sNext_ap, bnd_ap, ret_ap, bindR_ok, thenR_ok, dVar_ap, varR_ok, seqR_nx, seqR_rt, asgR_ok, gNm_ap, gCn_ap, gcnR_ok, gNl_ap, gTp_fr, gTp_ap, gLs_ap, dCons_ap, dNil_ap, asB_ap, dOr_ap, dAnd_ap, dNot_ap, dAndV_ap, dOrV_ap, dNotV_ap, dIf_ap, oAdd_int, oSub_int, oLt_int, oLe_int, oGt_int, oGe_int, oNeg_int, oEq_int, oNe_int, oEq_fr, oNe_fr, oEq_bl, oNe_bl, oTup_ap, oLst_ap, oCall_ap, oAbs_ap, oMax_ap, oMin_ap, oToInt_b, oToInt_i, oLen_lst, oLen_scr, oLen_tup, oIx_lst, oIx_scr, oAdd_lst, oIx_tup, oIx_fr0, oIx_fr1, ixR_ok, oItL_ap, oItT_ap, sFor_ap, startD, List.map_cons, List.map_nil, List.length_cons, List.length_nil, List.replicate_succ, List.replicate_zero, List.cons_append, List.nil_append, List.append_nil, List.getElem?_cons_zero, List.getElem?_cons_succ, List.set_cons_zero, List.set_cons_succ, Nat.reduceAdd, Nat.reduceSub, Nat.sub_self, Nat.reduceLeDiff, List.all_cons, List.all_nil, np_fr, np_int, np_bl, np_tup, np_lst, np_str, np_non, Bool.and_self, Bool.and_true, if_true_, if_false_, zero_add', if_tt, if_ff, decide_true, decide_false, Nat.le_refl, oItS_lst, oItS_tup, oTupOf_lst, oTupOf_tup, oLstOf_lst, oLstOf_tup, oRv_lst, oRv_tup, oAdd_tup, dChain_ap, asTru_bl, asTru_tup, asTru_lst, oIsN_ap, oNotN_ap, asI_ap, oSl_tup, oSl_lst, oZip_tup, oZip_lst, oAddI_ap, oEqS_ap, oNeS_ap, oNe_nil, n1, n2, e, f1, f2, lc]
  have wl := w.len
  rw [List.length_append, List.length_append] at wl
  have ge : M.length ≤ ((M'.set M.length none).set (M.length + 1) none).length := by simp -implicitDefEqProofs only [List.length_set]; omega
  have := runF_rt den ge rfl
  rw [take_same ge fun j hj => by rw [List.getElem?_set_ne (by omega), List.getElem?_set_ne (by omega), w.oth j (by omega) (by omega), List.getElem?_append_left (by simp; omega), List.getElem?_append_left hj]] at this
  exact this
/-! long brines: sizes by whole parts -/
structure Big (f : Rat) (U : Int) (B : List (Rat × Rat)) : Prop where
  ok : ∀ x ∈ B, LayOk f x
  bd : ∀ x ∈ B, BdL 23 x
  gu : ∀ x ∈ B, Gu U x.1
  ln : B.length ≤ 140
  sm : sumW B ≤ ((2 ^ 20 : Int) : Rat)
  un : 1 ≤ U ∧ U ≤ 2000
theorem gu_zero {U : Int} : Gu U 0 := ⟨0, by rw [Rat.intCast_zero, Rat.zero_mul]⟩
theorem sum_gu {U : Int} : ∀ {l : List (Rat × Rat)}, (∀ x ∈ l, Gu U x.1) → Gu U (sumW l)
  | [], _ => gu_zero
  | x :: l, h => by rw [sumW_cons]; exact (h x (by simp)).add (sum_gu fun y hy => h y (by simp [hy]))
section
variable {f : Rat} {U : Int} {B : List (Rat × Rat)} {w : Rat}
theorem Big.nn (h : Big f U B) : ∀ x ∈ B, 0 ≤ x.1 := fun x hx => (h.ok x hx).w
theorem Big.sumBd (h : Big f U B) : Bd 32 (sumW B) := (sum_gu h.gu).bd h.un (le_sumW h.nn).1 h.sm
theorem Big.so (h : Big f U B) : SumOk (·.1) B := by
  refine ⟨fun x hx => (h.bd x hx).w.mono (by decide), fun a b e => ?_⟩
  have ha : ∀ x ∈ a, x ∈ B := fun x hx => by rw [e]; exact List.mem_append_left _ hx
  have hb : ∀ x ∈ b, x ∈ B := fun x hx => by rw [e]; exact List.mem_append_right _ hx
  have s := sumW_append a b
  rw [← e] at s
  have nb := (le_sumW fun x hx => h.nn x (hb x hx)).1
  have na := (le_sumW fun x hx => h.nn x (ha x hx)).1
  rw [← sumW_F]
  exact ((sum_gu fun x hx => h.gu x (ha x hx)).bd h.un na (by have := h.sm; grind)).mono (by decide)
theorem water_big (h : Big f U B) (M : Mem) : F_water_of [.tup (B.map lyQ)] M = some (.ok (frQ (sumW B)), M) := by
  have lB := h.ln
  refine runF_pure ?_ rfl
  simp -implicitDefEqProofs only [den_water_of, sSeq_ap, sAsg_ap, sPar_ap, sRet_ap, sIf_ap, sExpr_ap, sNext_ap, bnd_ap, ret_ap, bindR_ok, thenR_ok, dVar_ap, varR_ok, seqR_nx, seqR_rt, asgR_ok, gNm_ap, gCn_ap, gcnR_ok, gNl_ap, gTp_fr, gTp_ap, gLs_ap, dCons_ap, dNil_ap, asB_ap, dOr_ap, dAnd_ap, dNot_ap, dAndV_ap, dOrV_ap, dNotV_ap, dIf_ap, oAdd_int, oSub_int, oLt_int, oLe_int, oGt_int, oGe_int, oNeg_int, oEq_int, oNe_int, oEq_fr, oNe_fr, oEq_bl, oNe_bl, oTup_ap, oLst_ap, oCall_ap, oAbs_ap, oMax_ap, oMin_ap, oToInt_b, oToInt_i, oLen_lst, oLen_scr, oLen_tup, oIx_lst, oIx_scr, oAdd_lst, oIx_tup, oIx_fr0, oIx_fr1, ixR_ok, oItL_ap, oItT_ap, sFor_ap, startD, List.map_cons, List.map_nil, List.length_cons, List.length_nil, List.replicate_succ, List.replicate_zero, List.cons_append, List.nil_append, List.append_nil, List.getElem?_cons_zero, List.getElem?_cons_succ, List.set_cons_zero, List.set_cons_succ, Nat.reduceAdd, Nat.reduceSub, Nat.sub_self, Nat.reduceLeDiff, List.all_cons, List.all_nil, np_fr, np_int, np_bl, np_tup, np_lst, np_str, np_non, Bool.and_self, Bool.and_true, if_true_, if_false_, zero_add', if_tt, if_ff, decide_true, decide_false, Nat.le_refl, oItS_lst, oItS_tup, oTupOf_lst, oTupOf_tup, oLstOf_lst, oLstOf_tup, oRv_lst, oRv_tup, oAdd_tup, dChain_ap, asTru_bl, asTru_tup, asTru_lst, oIsN_ap, oNotN_ap, asI_ap, oSl_tup, oSl_lst, oZip_tup, oZip_lst, oAddI_ap, oEqS_ap, oNeS_ap, oNe_nil, lc_w (B := B) (by omega), summed_of h.so, sumW_F]
theorem there_big (h : Big f U B) (hw : Bd 100 w) (M : Mem) : F_is_there [.tup (B.map lyQ), frQ w] M = some (.ok (.bl (decide (0 ≤ w ∧ w ≤ sumW B))), M) := by
  refine runF_pure ?_ rfl
  have i1 := isless_eq (hw.mono (n := 4000) (by decide)) bd_z
  have i2 := isless_eq (h.sumBd.mono (n := 4000) (by decide)) (hw.mono (n := 4000) (by decide))
  have wt := water_big h
  by_cases a : w < 0
  · have : ¬ (0 ≤ w ∧ w ≤ sumW B) := fun z => absurd z.1 (Rat.not_le.mpr a)
    simp -implicitDefEqProofs only [den_is_there, sSeq_ap, sAsg_ap, sPar_ap, sRet_ap, sIf_ap, sExpr_ap, sNext_ap, bnd_ap, ret_ap, bindR_ok, thenR_ok, dVar_ap, varR_ok, seqR_nx, seqR_rt, asgR_ok, gNm_ap, gCn_ap, gcnR_ok, gNl_ap, gTp_fr, gTp_ap, gLs_ap, dCons_ap, dNil_ap, asB_ap, dOr_ap, dAnd_ap, dNot_ap, dAndV_ap, dOrV_ap, dNotV_ap, dIf_ap, oAdd_int, oSub_int, oLt_int, oLe_int, oGt_int, oGe_int, oNeg_int, oEq_int, oNe_int, oEq_fr, oNe_fr, oEq_bl, oNe_bl, oTup_ap, oLst_ap, oCall_ap, oAbs_ap, oMax_ap, oMin_ap, oToInt_b, oToInt_i, oLen_lst, oLen_scr, oLen_tup, oIx_lst, oIx_scr, oAdd_lst, oIx_tup, oIx_fr0, oIx_fr1, ixR_ok, oItL_ap, oItT_ap, sFor_ap, startD, List.map_cons, List.map_nil, List.length_cons, List.length_nil, List.replicate_succ, List.replicate_zero, List.cons_append, List.nil_append, List.append_nil, List.getElem?_cons_zero, List.getElem?_cons_succ, List.set_cons_zero, List.set_cons_succ, Nat.reduceAdd, Nat.reduceSub, Nat.sub_self, Nat.reduceLeDiff, List.all_cons, List.all_nil, np_fr, np_int, np_bl, np_tup, np_lst, np_str, np_non, Bool.and_self, Bool.and_true, if_true_, if_false_, zero_add', if_tt, if_ff, decide_true, decide_false, Nat.le_refl, oItS_lst, oItS_tup, oTupOf_lst, oTupOf_tup, oLstOf_lst, oLstOf_tup, oRv_lst, oRv_tup, oAdd_tup, dChain_ap, asTru_bl, asTru_tup, asTru_lst, oIsN_ap, oNotN_ap, asI_ap, oSl_tup, oSl_lst, oZip_tup, oZip_lst, oAddI_ap, oEqS_ap, oNeS_ap, oNe_nil, nought_fr, i1, a, this, Bool.not_true, Bool.false_eq_true]
  · by_cases b : sumW B < w
    · have : ¬ (0 ≤ w ∧ w ≤ sumW B) := fun z => absurd z.2 (Rat.not_le.mpr b)
      simp -implicitDefEqProofs only [den_is_there, sSeq_ap, sAsg_ap, sPar_ap, sRet_ap, sIf_ap, sExpr_ap, sNext_ap, bnd_ap, ret_ap, bindR_ok, thenR_ok, dVar_ap, varR_ok, seqR_nx, seqR_rt, asgR_ok, gNm_ap, gCn_ap, gcnR_ok, gNl_ap, gTp_fr, gTp_ap, gLs_ap, dCons_ap, dNil_ap, asB_ap, dOr_ap, dAnd_ap, dNot_ap, dAndV_ap, dOrV_ap, dNotV_ap, dIf_ap, oAdd_int, oSub_int, oLt_int, oLe_int, oGt_int, oGe_int, oNeg_int, oEq_int, oNe_int, oEq_fr, oNe_fr, oEq_bl, oNe_bl, oTup_ap, oLst_ap, oCall_ap, oAbs_ap, oMax_ap, oMin_ap, oToInt_b, oToInt_i, oLen_lst, oLen_scr, oLen_tup, oIx_lst, oIx_scr, oAdd_lst, oIx_tup, oIx_fr0, oIx_fr1, ixR_ok, oItL_ap, oItT_ap, sFor_ap, startD, List.map_cons, List.map_nil, List.length_cons, List.length_nil, List.replicate_succ, List.replicate_zero, List.cons_append, List.nil_append, List.append_nil, List.getElem?_cons_zero, List.getElem?_cons_succ, List.set_cons_zero, List.set_cons_succ, Nat.reduceAdd, Nat.reduceSub, Nat.sub_self, Nat.reduceLeDiff, List.all_cons, List.all_nil, np_fr, np_int, np_bl, np_tup, np_lst, np_str, np_non, Bool.and_self, Bool.and_true, if_true_, if_false_, zero_add', if_tt, if_ff, decide_true, decide_false, Nat.le_refl, oItS_lst, oItS_tup, oTupOf_lst, oTupOf_tup, oLstOf_lst, oLstOf_tup, oRv_lst, oRv_tup, oAdd_tup, dChain_ap, asTru_bl, asTru_tup, asTru_lst, oIsN_ap, oNotN_ap, asI_ap, oSl_tup, oSl_lst, oZip_tup, oZip_lst, oAddI_ap, oEqS_ap, oNeS_ap, oNe_nil, nought_fr, i1, a, this, wt, i2, b, Bool.not_true, Bool.not_false]
    · have : 0 ≤ w ∧ w ≤ sumW B := ⟨Rat.not_lt.mp a, Rat.not_lt.mp b⟩
      simp -implicitDefEqProofs only [den_is_there, sSeq_ap, sAsg_ap, sPar_ap, sRet_ap, sIf_ap, sExpr_ap, sNext_ap, bnd_ap, ret_ap, bindR_ok, thenR_ok, dVar_ap, varR_ok, seqR_nx, seqR_rt, asgR_ok, gNm_ap, gCn_ap, gcnR_ok, gNl_ap, gTp_fr, gTp_ap, gLs_ap, dCons_ap, dNil_ap, asB_ap, dOr_ap, dAnd_ap, dNot_ap, dAndV_ap, dOrV_ap, dNotV_ap, dIf_ap, oAdd_int, oSub_int, oLt_int, oLe_int, oGt_int, oGe_int, oNeg_int, oEq_int, oNe_int, oEq_fr, oNe_fr, oEq_bl, oNe_bl, oTup_ap, oLst_ap, oCall_ap, oAbs_ap, oMax_ap, oMin_ap, oToInt_b, oToInt_i, oLen_lst, oLen_scr, oLen_tup, oIx_lst, oIx_scr, oAdd_lst, oIx_tup, oIx_fr0, oIx_fr1, ixR_ok, oItL_ap, oItT_ap, sFor_ap, startD, List.map_cons, List.map_nil, List.length_cons, List.length_nil, List.replicate_succ, List.replicate_zero, List.cons_append, List.nil_append, List.append_nil, List.getElem?_cons_zero, List.getElem?_cons_succ, List.set_cons_zero, List.set_cons_succ, Nat.reduceAdd, Nat.reduceSub, Nat.sub_self, Nat.reduceLeDiff, List.all_cons, List.all_nil, np_fr, np_int, np_bl, np_tup, np_lst, np_str, np_non, Bool.and_self, Bool.and_true, if_true_, if_false_, zero_add', if_tt, if_ff, decide_true, decide_false, Nat.le_refl, oItS_lst, oItS_tup, oTupOf_lst, oTupOf_tup, oLstOf_lst, oLstOf_tup, oRv_lst, oRv_tup, oAdd_tup, dChain_ap, asTru_bl, asTru_tup, asTru_lst, oIsN_ap, oNotN_ap, asI_ap, oSl_tup, oSl_lst, oZip_tup, oZip_lst, oAddI_ap, oEqS_ap, oNeS_ap, oNe_nil, nought_fr, i1, a, this, wt, i2, b, Bool.not_false, and_self]
theorem check_big (h : Big f U B) (hw : Bd 100 w) (h0 : 0 ≤ w) (h1 : w ≤ sumW B) (M : Mem) : F_check_there [.tup (B.map lyQ), frQ w] M = some (.ok .non, M) := by
  refine runX_nx (ρ := [some (.tup (B.map lyQ)), some (frQ w)]) ?_
  have e := there_big h hw M
  rw [decide_eq_true ⟨h0, h1⟩] at e
  simp -implicitDefEqProofs only [den_check_there, sSeq_ap, sAsg_ap, sPar_ap, sRet_ap, sIf_ap, sExpr_ap, sNext_ap, bnd_ap, ret_ap, bindR_ok, thenR_ok, dVar_ap, varR_ok, seqR_nx, seqR_rt, asgR_ok, gNm_ap, gCn_ap, gcnR_ok, gNl_ap, gTp_fr, gTp_ap, gLs_ap, dCons_ap, dNil_ap, asB_ap, dOr_ap, dAnd_ap, dNot_ap, dAndV_ap, dOrV_ap, dNotV_ap, dIf_ap, oAdd_int, oSub_int, oLt_int, oLe_int, oGt_int, oGe_int, oNeg_int, oEq_int, oNe_int, oEq_fr, oNe_fr, oEq_bl, oNe_bl, oTup_ap, oLst_ap, oCall_ap, oAbs_ap, oMax_ap, oMin_ap, oToInt_b, oToInt_i, oLen_lst, oLen_scr, oLen_tup, oIx_lst, oIx_scr, oAdd_lst, oIx_tup, oIx_fr0, oIx_fr1, ixR_ok, oItL_ap, oItT_ap, sFor_ap, startD, List.map_cons, List.map_nil, List.length_cons, List.length_nil, List.replicate_succ, List.replicate_zero, List.cons_append, List.nil_append, List.append_nil, List.getElem?_cons_zero, List.getElem?_cons_succ, List.set_cons_zero, List.set_cons_succ, Nat.reduceAdd, Nat.reduceSub, Nat.sub_self, Nat.reduceLeDiff, List.all_cons, List.all_nil, np_fr, np_int, np_bl, np_tup, np_lst, np_str, np_non, Bool.and_self, Bool.and_true, if_true_, if_false_, zero_add', if_tt, if_ff, decide_true, decide_false, Nat.le_refl, oItS_lst, oItS_tup, oTupOf_lst, oTupOf_tup, oLstOf_lst, oLstOf_tup, oRv_lst, oRv_tup, oAdd_tup, dChain_ap, asTru_bl, asTru_tup, asTru_lst, oIsN_ap, oNotN_ap, asI_ap, oSl_tup, oSl_lst, oZip_tup, oZip_lst, oAddI_ap, oEqS_ap, oNeS_ap, oNe_nil, e, Bool.not_true, Bool.false_eq_true]
theorem check_not (h : Big f U B) (hw : Bd 100 w) (no : w < 0 ∨ sumW B < w) (M : Mem) : F_check_there [.tup (B.map lyQ), frQ w] M = some (.exc "NoWater", M) := by
  have e := there_big h hw M
  rw [decide_eq_false (fun z : 0 ≤ w ∧ w ≤ sumW B => no.elim (fun y => absurd z.1 (Rat.not_le.mpr y)) fun y => absurd z.2 (Rat.not_le.mpr y))] at e
  refine runX_ex (ρ := [some (.tup (B.map lyQ)), some (frQ w)]) ?_
  simp -implicitDefEqProofs only [den_check_there, sSeq_ap, sAsg_ap, sPar_ap, sRet_ap, sIf_ap, sExpr_ap, sNext_ap, bnd_ap, ret_ap, bindR_ok, thenR_ok, dVar_ap, varR_ok, seqR_nx, seqR_rt, asgR_ok, gNm_ap, gCn_ap, gcnR_ok, gNl_ap, gTp_fr, gTp_ap, gLs_ap, dCons_ap, dNil_ap, asB_ap, dOr_ap, dAnd_ap, dNot_ap, dAndV_ap, dOrV_ap, dNotV_ap, dIf_ap, oAdd_int, oSub_int, oLt_int, oLe_int, oGt_int, oGe_int, oNeg_int, oEq_int, oNe_int, oEq_fr, oNe_fr, oEq_bl, oNe_bl, oTup_ap, oLst_ap, oCall_ap, oAbs_ap, oMax_ap, oMin_ap, oToInt_b, oToInt_i, oLen_lst, oLen_scr, oLen_tup, oIx_lst, oIx_scr, oAdd_lst, oIx_tup, oIx_fr0, oIx_fr1, ixR_ok, oItL_ap, oItT_ap, sFor_ap, startD, List.map_cons, List.map_nil, List.length_cons, List.length_nil, List.replicate_succ, List.replicate_zero, List.cons_append, List.nil_append, List.append_nil, List.getElem?_cons_zero, List.getElem?_cons_succ, List.set_cons_zero, List.set_cons_succ, Nat.reduceAdd, Nat.reduceSub, Nat.sub_self, Nat.reduceLeDiff, List.all_cons, List.all_nil, np_fr, np_int, np_bl, np_tup, np_lst, np_str, np_non, Bool.and_self, Bool.and_true, if_true_, if_false_, zero_add', if_tt, if_ff, decide_true, decide_false, Nat.le_refl, oItS_lst, oItS_tup, oTupOf_lst, oTupOf_tup, oLstOf_lst, oLstOf_tup, oRv_lst, oRv_tup, oAdd_tup, dChain_ap, asTru_bl, asTru_tup, asTru_lst, oIsN_ap, oNotN_ap, asI_ap, oSl_tup, oSl_lst, oZip_tup, oZip_lst, oAddI_ap, oEqS_ap, oNeS_ap, oNe_nil, e, Bool.not_false, sRaise, seqR_ex]
theorem Big.wet (h : Big f U B) : Wet (wetOf B) := wet_pos h.ok
theorem Big.row (h : Big f U B) : ∀ x ∈ wetOf B, BdL 23 x ∧ 0 < x.1 ∧ Gu U x.1 := fun x hx => ⟨h.bd x (wet_ne hx).1, h.wet x hx, h.gu x (wet_ne hx).1⟩
theorem drawn_big (h : Big f U B) (hg : Gu U w) (h0 : 0 ≤ w) (h1 : w ≤ sumW B) (M : Mem) : F_drawn [.tup (B.map lyQ), frQ w] M = some (.ok (.tup [.tup ((tkT false B w).map lyQ), .tup ((tkL false B w).map lyQ)]), M) := by
  have lB := h.ln
  have wl := wet_len B
  have v1 := Rat.le_trans h1 h.sm
  refine runX_rt ?_ rfl
  have ck := check_big h ((hg.bd h.un h0 v1).mono (by decide)) h0 h1
  have ds := dissolved_eq (B := B) (by omega)
  have fl := fallen_layers_eq (B := B) (by omega)
  have pt := parted_eq h.un (l := wetOf B) (fun x hx => ⟨(h.row x hx).1.mono (by decide), (h.row x hx).2⟩) hg (by omega) v1 h0
  have cl := cut_len (l := wetOf B) (w := w)
  have ad := fun ρ M => oAdd_tup ((dryOf B).map lyQ) ((cut (wetOf B) w).2.map lyQ) ρ M (by simp; omega)
  rw [← List.map_append] at ad
  simp -implicitDefEqProofs only [den_drawn, sSeq_ap, sAsg_ap, sPar_ap, sRet_ap, sIf_ap, sExpr_ap, sNext_ap, bnd_ap, ret_ap, bindR_ok, thenR_ok, dVar_ap, varR_ok, seqR_nx, seqR_rt, asgR_ok, gNm_ap, gCn_ap, gcnR_ok, gNl_ap, gTp_fr, gTp_ap, gLs_ap, dCons_ap, dNil_ap, asB_ap, dOr_ap, dAnd_ap, dNot_ap, dAndV_ap, dOrV_ap, dNotV_ap, dIf_ap, oAdd_int, oSub_int, oLt_int, oLe_int, oGt_int, oGe_int, oNeg_int, oEq_int, oNe_int, oEq_fr, oNe_fr, oEq_bl, oNe_bl, oTup_ap, oLst_ap, oCall_ap, oAbs_ap, oMax_ap, oMin_ap, oToInt_b, oToInt_i, oLen_lst, oLen_scr, oLen_tup, oIx_lst, oIx_scr, oAdd_lst, oIx_tup, oIx_fr0, oIx_fr1, ixR_ok, oItL_ap, oItT_ap, sFor_ap, startD, List.map_cons, List.map_nil, List.length_cons, List.length_nil, List.replicate_succ, List.replicate_zero, List.cons_append, List.nil_append, List.append_nil, List.getElem?_cons_zero, List.getElem?_cons_succ, List.set_cons_zero, List.set_cons_succ, Nat.reduceAdd, Nat.reduceSub, Nat.sub_self, Nat.reduceLeDiff, List.all_cons, List.all_nil, np_fr, np_int, np_bl, np_tup, np_lst, np_str, np_non, Bool.and_self, Bool.and_true, if_true_, if_false_, zero_add', if_tt, if_ff, decide_true, decide_false, Nat.le_refl, oItS_lst, oItS_tup, oTupOf_lst, oTupOf_tup, oLstOf_lst, oLstOf_tup, oRv_lst, oRv_tup, oAdd_tup, dChain_ap, asTru_bl, asTru_tup, asTru_lst, oIsN_ap, oNotN_ap, asI_ap, oSl_tup, oSl_lst, oZip_tup, oZip_lst, oAddI_ap, oEqS_ap, oNeS_ap, oNe_nil, ck, ds, fl, pt, ad]
  rfl
theorem skimmed_big (h : Big f U B) (hg : Gu U w) (h0 : 0 ≤ w) (h1 : w ≤ sumW B) (M : Mem) : F_skimmed [.tup (B.map lyQ), frQ w] M = some (.ok (.tup [.tup ((tkT true B w).map lyQ), .tup ((tkL true B w).map lyQ)]), M) := by
  have lB := h.ln
  have wl := wet_len B
  have v1 := Rat.le_trans h1 h.sm
  refine runX_rt ?_ rfl
  have ck := check_big h ((hg.bd h.un h0 v1).mono (by decide)) h0 h1
  have ds := dissolved_eq (B := B) (by omega)
  have fl := fallen_layers_eq (B := B) (by omega)
  have pt := parted_eq h.un (l := (wetOf B).reverse) (fun x hx => ⟨(h.row x (List.mem_reverse.mp hx)).1.mono (by decide), (h.row x (List.mem_reverse.mp hx)).2⟩) hg (by rw [List.length_reverse]; omega) v1 h0
  have cl := cut_len (l := (wetOf B).reverse) (w := w)
  rw [List.length_reverse] at cl
  have ad := fun ρ M => oAdd_tup ((dryOf B).map lyQ) ((cut (wetOf B).reverse w).2.map lyQ).reverse ρ M (by simp; omega)
  rw [← List.map_reverse, ← List.map_append] at ad
  simp -implicitDefEqProofs only [den_skimmed, sSeq_ap, sAsg_ap, sPar_ap, sRet_ap, sIf_ap, sExpr_ap, sNext_ap, bnd_ap, ret_ap, bindR_ok, thenR_ok, dVar_ap, varR_ok, seqR_nx, seqR_rt, asgR_ok, gNm_ap, gCn_ap, gcnR_ok, gNl_ap, gTp_fr, gTp_ap, gLs_ap, dCons_ap, dNil_ap, asB_ap, dOr_ap, dAnd_ap, dNot_ap, dAndV_ap, dOrV_ap, dNotV_ap, dIf_ap, oAdd_int, oSub_int, oLt_int, oLe_int, oGt_int, oGe_int, oNeg_int, oEq_int, oNe_int, oEq_fr, oNe_fr, oEq_bl, oNe_bl, oTup_ap, oLst_ap, oCall_ap, oAbs_ap, oMax_ap, oMin_ap, oToInt_b, oToInt_i, oLen_lst, oLen_scr, oLen_tup, oIx_lst, oIx_scr, oAdd_lst, oIx_tup, oIx_fr0, oIx_fr1, ixR_ok, oItL_ap, oItT_ap, sFor_ap, startD, List.map_cons, List.map_nil, List.length_cons, List.length_nil, List.replicate_succ, List.replicate_zero, List.cons_append, List.nil_append, List.append_nil, List.getElem?_cons_zero, List.getElem?_cons_succ, List.set_cons_zero, List.set_cons_succ, Nat.reduceAdd, Nat.reduceSub, Nat.sub_self, Nat.reduceLeDiff, List.all_cons, List.all_nil, np_fr, np_int, np_bl, np_tup, np_lst, np_str, np_non, Bool.and_self, Bool.and_true, if_true_, if_false_, zero_add', if_tt, if_ff, decide_true, decide_false, Nat.le_refl, oItS_lst, oItS_tup, oTupOf_lst, oTupOf_tup, oLstOf_lst, oLstOf_tup, oRv_lst, oRv_tup, oAdd_tup, dChain_ap, asTru_bl, asTru_tup, asTru_lst, oIsN_ap, oNotN_ap, asI_ap, oSl_tup, oSl_lst, oZip_tup, oZip_lst, oAddI_ap, oEqS_ap, oNeS_ap, oNe_nil, ck, ds, fl, pt, ← List.map_reverse, ad]
  rfl
theorem ldrawn_eq (lB : B.length ≤ 2000) (M : Mem) : F__law_drawn [.tup (B.map lyQ)] M = some (.ok (.tup [.lst ((dryOf B).map lyQ), .lst ((wetOf B).map lyQ)]), M) := by
  have d1 := fun M => oLc_en (en := lyQ) (b := gNm 1) (tt := bnd (bnd (bnd (dVar 1) fun d => bnd (ret (.int 0)) fun e => oIx d e) fun d => bnd (bnd (dCons (ret (.int 0)) (dCons (ret (.int 1)) dNil)) oTup) fun e => oEq d e) asB) (te := dVar 1) (ρ := [some (.tup (B.map lyQ)), none]) (vs := [1]) (p := fun x => decide (x.1 = 0)) (g := lyQ) (l := B) (M := M) (fun x _ => ⟨[some (.tup (B.map lyQ)), some (lyQ x)], rfl, fun M' _ => by
      simp -implicitDefEqProofs only [sSeq_ap, sAsg_ap, sPar_ap, sRet_ap, sIf_ap, sExpr_ap, sNext_ap, bnd_ap, ret_ap, bindR_ok, thenR_ok, dVar_ap, varR_ok, seqR_nx, seqR_rt, asgR_ok, gNm_ap, gCn_ap, gcnR_ok, gNl_ap, gTp_fr, gTp_ap, gLs_ap, dCons_ap, dNil_ap, asB_ap, dOr_ap, dAnd_ap, dNot_ap, dAndV_ap, dOrV_ap, dNotV_ap, dIf_ap, oAdd_int, oSub_int, oLt_int, oLe_int, oGt_int, oGe_int, oNeg_int, oEq_int, oNe_int, oEq_fr, oNe_fr, oEq_bl, oNe_bl, oTup_ap, oLst_ap, oCall_ap, oAbs_ap, oMax_ap, oMin_ap, oToInt_b, oToInt_i, oLen_lst, oLen_scr, oLen_tup, oIx_lst, oIx_scr, oAdd_lst, oIx_tup, oIx_fr0, oIx_fr1, ixR_ok, oItL_ap, oItT_ap, sFor_ap, startD, List.map_cons, List.map_nil, List.length_cons, List.length_nil, List.replicate_succ, List.replicate_zero, List.cons_append, List.nil_append, List.append_nil, List.getElem?_cons_zero, List.getElem?_cons_succ, List.set_cons_zero, List.set_cons_succ, Nat.reduceAdd, Nat.reduceSub, Nat.sub_self, Nat.reduceLeDiff, List.all_cons, List.all_nil, np_fr, np_int, np_bl, np_tup, np_lst, np_str, np_non, Bool.and_self, Bool.and_true, if_true_, if_false_, zero_add', if_tt, if_ff, decide_true, decide_false, Nat.le_refl, oItS_lst, oItS_tup, oTupOf_lst, oTupOf_tup, oLstOf_lst, oLstOf_tup, oRv_lst, oRv_tup, oAdd_tup, dChain_ap, asTru_bl, asTru_tup, asTru_lst, oIsN_ap, oNotN_ap, asI_ap, oSl_tup, oSl_lst, oZip_tup, oZip_lst, oAddI_ap, oEqS_ap, oNeS_ap, oNe_nil, oIx_ly0, zero_fr], fun _ => ⟨rfl, fun M' _ => rfl⟩⟩) (by omega)
  have d2 := fun M => oLc_en (en := lyQ) (b := gNm 1) (tt := bnd (bnd (bnd (dVar 1) fun d => bnd (ret (.int 0)) fun e => oIx d e) fun d => bnd (bnd (dCons (ret (.int 0)) (dCons (ret (.int 1)) dNil)) oTup) fun e => oNe d e) asB) (te := dVar 1) (ρ := [some (.tup (B.map lyQ)), none]) (vs := [1]) (p := nz) (g := lyQ) (l := B) (M := M) (fun x _ => ⟨[some (.tup (B.map lyQ)), some (lyQ x)], rfl, fun M' _ => by
      simp -implicitDefEqProofs only [sSeq_ap, sAsg_ap, sPar_ap, sRet_ap, sIf_ap, sExpr_ap, sNext_ap, bnd_ap, ret_ap, bindR_ok, thenR_ok, dVar_ap, varR_ok, seqR_nx, seqR_rt, asgR_ok, gNm_ap, gCn_ap, gcnR_ok, gNl_ap, gTp_fr, gTp_ap, gLs_ap, dCons_ap, dNil_ap, asB_ap, dOr_ap, dAnd_ap, dNot_ap, dAndV_ap, dOrV_ap, dNotV_ap, dIf_ap, oAdd_int, oSub_int, oLt_int, oLe_int, oGt_int, oGe_int, oNeg_int, oEq_int, oNe_int, oEq_fr, oNe_fr, oEq_bl, oNe_bl, oTup_ap, oLst_ap, oCall_ap, oAbs_ap, oMax_ap, oMin_ap, oToInt_b, oToInt_i, oLen_lst, oLen_scr, oLen_tup, oIx_lst, oIx_scr, oAdd_lst, oIx_tup, oIx_fr0, oIx_fr1, ixR_ok, oItL_ap, oItT_ap, sFor_ap, startD, List.map_cons, List.map_nil, List.length_cons, List.length_nil, List.replicate_succ, List.replicate_zero, List.cons_append, List.nil_append, List.append_nil, List.getElem?_cons_zero, List.getElem?_cons_succ, List.set_cons_zero, List.set_cons_succ, Nat.reduceAdd, Nat.reduceSub, Nat.sub_self, Nat.reduceLeDiff, List.all_cons, List.all_nil, np_fr, np_int, np_bl, np_tup, np_lst, np_str, np_non, Bool.and_self, Bool.and_true, if_true_, if_false_, zero_add', if_tt, if_ff, decide_true, decide_false, Nat.le_refl, oItS_lst, oItS_tup, oTupOf_lst, oTupOf_tup, oLstOf_lst, oLstOf_tup, oRv_lst, oRv_tup, oAdd_tup, dChain_ap, asTru_bl, asTru_tup, asTru_lst, oIsN_ap, oNotN_ap, asI_ap, oSl_tup, oSl_lst, oZip_tup, oZip_lst, oAddI_ap, oEqS_ap, oNeS_ap, oNe_nil, oIx_ly0, zero_fr]
      simp [nz], fun _ => ⟨rfl, fun M' _ => rfl⟩⟩) (by omega)
  refine runF_pure ?_ rfl
  simp -implicitDefEqProofs only [den__law_drawn, sSeq_ap, sAsg_ap, sPar_ap, sRet_ap, sIf_ap, sExpr_ap, sNext_ap, bnd_ap, ret_ap, bindR_ok, thenR_ok, dVar_ap, varR_ok, seqR_nx, seqR_rt, asgR_ok, gNm_ap, gCn_ap, gcnR_ok, gNl_ap, gTp_fr, gTp_ap, gLs_ap, dCons_ap, dNil_ap, asB_ap, dOr_ap, dAnd_ap, dNot_ap, dAndV_ap, dOrV_ap, dNotV_ap, dIf_ap, oAdd_int, oSub_int, oLt_int, oLe_int, oGt_int, oGe_int, oNeg_int, oEq_int, oNe_int, oEq_fr, oNe_fr, oEq_bl, oNe_bl, oTup_ap, oLst_ap, oCall_ap, oAbs_ap, oMax_ap, oMin_ap, oToInt_b, oToInt_i, oLen_lst, oLen_scr, oLen_tup, oIx_lst, oIx_scr, oAdd_lst, oIx_tup, oIx_fr0, oIx_fr1, ixR_ok, oItL_ap, oItT_ap, sFor_ap, startD, List.map_cons, List.map_nil, List.length_cons, List.length_nil, List.replicate_succ, List.replicate_zero, List.cons_append, List.nil_append, List.append_nil, List.getElem?_cons_zero, List.getElem?_cons_succ, List.set_cons_zero, List.set_cons_succ, Nat.reduceAdd, Nat.reduceSub, Nat.sub_self, Nat.reduceLeDiff, List.all_cons, List.all_nil, np_fr, np_int, np_bl, np_tup, np_lst, np_str, np_non, Bool.and_self, Bool.and_true, if_true_, if_false_, zero_add', if_tt, if_ff, decide_true, decide_false, Nat.le_refl, oItS_lst, oItS_tup, oTupOf_lst, oTupOf_tup, oLstOf_lst, oLstOf_tup, oRv_lst, oRv_tup, oAdd_tup, dChain_ap, asTru_bl, asTru_tup, asTru_lst, oIsN_ap, oNotN_ap, asI_ap, oSl_tup, oSl_lst, oZip_tup, oZip_lst, oAddI_ap, oEqS_ap, oNeS_ap, oNe_nil, d1, d2]
theorem ltk_big (b : Bool) (h : Big f U B) (hg : Gu U w) (h0 : 0 ≤ w) (h1 : w ≤ sumW B) (M : Mem) : F__law_taken [.lst ((rv b (wetOf B)).map lyQ), frQ w] M = some (.ok (.lst [.lst ((cut (rv b (wetOf B)) w).1.map lyQ), .lst ((cut (rv b (wetOf B)) w).2.map lyQ)]), M) := by
  have lB := h.ln
  have wl := wet_len B
  exact ltaken_eq h.un (fun x hx => h.row x (rv_mem.mp hx)) (by rw [rv_len]; omega) hg h0 (Rat.le_trans h1 h.sm) M
theorem lunder_big (h : Big f U B) (hg : Gu U w) (h0 : 0 ≤ w) (h1 : w ≤ sumW B) (M : Mem) : F__law_under_taken [.tup (B.map lyQ), frQ w] M = some (.ok (.tup [.tup ((tkT false B w).map lyQ), .tup ((tkL false B w).map lyQ)]), M) := by
  have lB := h.ln
  have wl := wet_len B
  have dr := ldrawn_eq (B := B) (by omega) M
  have tk := ltk_big false h hg h0 h1 M
  have r0 : rv false (wetOf B) = wetOf B := rfl
  rw [r0] at tk
  have cl := cut_len (l := wetOf B) (w := w)
  have ad := fun ρ => oAdd_lst ((dryOf B).map lyQ) ((cut (wetOf B) w).2.map lyQ) ρ M (by simp; omega)
  rw [← List.map_append] at ad
  have ls2 : ∀ (a b : D) c ρ, gLs 2 c (.lst [a, b]) ρ = c [a, b] ρ := fun _ _ _ _ => rfl
  refine runF_pure ?_ rfl
  simp -implicitDefEqProofs only [den__law_under_taken, sSeq_ap, sAsg_ap, sPar_ap, sRet_ap, sIf_ap, sExpr_ap, sNext_ap, bnd_ap, ret_ap, bindR_ok, thenR_ok, dVar_ap, varR_ok, seqR_nx, seqR_rt, asgR_ok, gNm_ap, gCn_ap, gcnR_ok, gNl_ap, gTp_fr, gTp_ap, gLs_ap, dCons_ap, dNil_ap, asB_ap, dOr_ap, dAnd_ap, dNot_ap, dAndV_ap, dOrV_ap, dNotV_ap, dIf_ap, oAdd_int, oSub_int, oLt_int, oLe_int, oGt_int, oGe_int, oNeg_int, oEq_int, oNe_int, oEq_fr, oNe_fr, oEq_bl, oNe_bl, oTup_ap, oLst_ap, oCall_ap, oAbs_ap, oMax_ap, oMin_ap, oToInt_b, oToInt_i, oLen_lst, oLen_scr, oLen_tup, oIx_lst, oIx_scr, oAdd_lst, oIx_tup, oIx_fr0, oIx_fr1, ixR_ok, oItL_ap, oItT_ap, sFor_ap, startD, List.map_cons, List.map_nil, List.length_cons, List.length_nil, List.replicate_succ, List.replicate_zero, List.cons_append, List.nil_append, List.append_nil, List.getElem?_cons_zero, List.getElem?_cons_succ, List.set_cons_zero, List.set_cons_succ, Nat.reduceAdd, Nat.reduceSub, Nat.sub_self, Nat.reduceLeDiff, List.all_cons, List.all_nil, np_fr, np_int, np_bl, np_tup, np_lst, np_str, np_non, Bool.and_self, Bool.and_true, if_true_, if_false_, zero_add', if_tt, if_ff, decide_true, decide_false, Nat.le_refl, oItS_lst, oItS_tup, oTupOf_lst, oTupOf_tup, oLstOf_lst, oLstOf_tup, oRv_lst, oRv_tup, oAdd_tup, dChain_ap, asTru_bl, asTru_tup, asTru_lst, oIsN_ap, oNotN_ap, asI_ap, oSl_tup, oSl_lst, oZip_tup, oZip_lst, oAddI_ap, oEqS_ap, oNeS_ap, oNe_nil, dr, tk, ls2, ad]
  rfl
theorem lover_big (h : Big f U B) (hg : Gu U w) (h0 : 0 ≤ w) (h1 : w ≤ sumW B) (M : Mem) : F__law_over_taken [.tup (B.map lyQ), frQ w] M = some (.ok (.tup [.tup ((tkT true B w).map lyQ), .tup ((tkL true B w).map lyQ)]), M) := by
  have lB := h.ln
  have wl := wet_len B
  have dr := ldrawn_eq (B := B) (by omega) M
  have tk := ltk_big true h hg h0 h1 M
  have r0 : rv true (wetOf B) = (wetOf B).reverse := rfl
  rw [r0] at tk
  have cl := cut_len (l := (wetOf B).reverse) (w := w)
  rw [List.length_reverse] at cl
  have ad := fun ρ => oAdd_lst ((dryOf B).map lyQ) ((cut (wetOf B).reverse w).2.map lyQ).reverse ρ M (by simp; omega)
  rw [← List.map_reverse, ← List.map_append] at ad
  have ls2 : ∀ (a b : D) c ρ, gLs 2 c (.lst [a, b]) ρ = c [a, b] ρ := fun _ _ _ _ => rfl
  refine runF_pure ?_ rfl
  simp -implicitDefEqProofs only [den__law_over_taken, sSeq_ap, sAsg_ap, sPar_ap, sRet_ap, sIf_ap, sExpr_ap, sNext_ap, bnd_ap, ret_ap, bindR_ok, thenR_ok, dVar_ap, varR_ok, seqR_nx, seqR_rt, asgR_ok, gNm_ap, gCn_ap, gcnR_ok, gNl_ap, gTp_fr, gTp_ap, gLs_ap, dCons_ap, dNil_ap, asB_ap, dOr_ap, dAnd_ap, dNot_ap, dAndV_ap, dOrV_ap, dNotV_ap, dIf_ap, oAdd_int, oSub_int, oLt_int, oLe_int, oGt_int, oGe_int, oNeg_int, oEq_int, oNe_int, oEq_fr, oNe_fr, oEq_bl, oNe_bl, oTup_ap, oLst_ap, oCall_ap, oAbs_ap, oMax_ap, oMin_ap, oToInt_b, oToInt_i, oLen_lst, oLen_scr, oLen_tup, oIx_lst, oIx_scr, oAdd_lst, oIx_tup, oIx_fr0, oIx_fr1, ixR_ok, oItL_ap, oItT_ap, sFor_ap, startD, List.map_cons, List.map_nil, List.length_cons, List.length_nil, List.replicate_succ, List.replicate_zero, List.cons_append, List.nil_append, List.append_nil, List.getElem?_cons_zero, List.getElem?_cons_succ, List.set_cons_zero, List.set_cons_succ, Nat.reduceAdd, Nat.reduceSub, Nat.sub_self, Nat.reduceLeDiff, List.all_cons, List.all_nil, np_fr, np_int, np_bl, np_tup, np_lst, np_str, np_non, Bool.and_self, Bool.and_true, if_true_, if_false_, zero_add', if_tt, if_ff, decide_true, decide_false, Nat.le_refl, oItS_lst, oItS_tup, oTupOf_lst, oTupOf_tup, oLstOf_lst, oLstOf_tup, oRv_lst, oRv_tup, oAdd_tup, dChain_ap, asTru_bl, asTru_tup, asTru_lst, oIsN_ap, oNotN_ap, asI_ap, oSl_tup, oSl_lst, oZip_tup, oZip_lst, oAddI_ap, oEqS_ap, oNeS_ap, oNe_nil, dr, tk, ls2, ← List.map_reverse, ad]
  rfl
theorem cut_bd (b : Bool) (h : Big f U B) (hg : Gu U w) (h0 : 0 ≤ w) (h1 : w ≤ sumW B) : (∀ x ∈ tkT b B w, BdL 78 x) ∧ (∀ x ∈ tkL b B w, BdL 78 x) ∧ (tkT b B w).length ≤ 140 ∧ (tkL b B w).length ≤ 280 := by
  have lB := h.ln
  have wl := wet_len B
  have W : Wet (rv b (wetOf B)) := h.wet.rv
  have cm := cut_mem (w := w) W h0
  have cg := cut_gu (l := rv b (wetOf B)) (w := w) (fun x hx => h.gu x (wet_ne (rv_mem.mp hx)).1) hg
  have one : ∀ x y, y ∈ rv b (wetOf B) → Pt y x → Gu U x.1 → BdL 78 x := fun x y hy p g => by
    have y1 := h.row y (rv_mem.mp hy)
    have x0 := p.pos y1.2.1
    have xs : x.1 ≤ ((2 ^ 20 : Int) : Rat) := by
      have := (le_sumW h.nn).2 y (wet_ne (rv_mem.mp hy)).1
      have s := h.sm
      cases p with
      | all => grind
      | some v a b => show v ≤ _; grind
    exact (p.bd y1.1 (g.bd h.un (Rat.le_of_lt x0) xs)).mono (by decide)
  have cl := cut_len (l := rv b (wetOf B)) (w := w)
  rw [rv_len] at cl
  refine ⟨fun x hx => ?_, fun x hx => ?_, by unfold tkT; rw [rv_len]; omega, by unfold tkL; rw [List.length_append, rv_len]; omega⟩
  · have hx' := rv_mem.mp hx
    obtain ⟨y, hy, p⟩ := cm.1 x hx'
    exact one x y hy p (cg.1 x hx')
  · rcases List.mem_append.mp hx with q | q
    · exact (h.bd x (List.mem_filter.mp q).1).mono (by decide)
    · have hx' := rv_mem.mp q
      obtain ⟨y, hy, p⟩ := cm.2 x hx'
      exact one x y hy p (cg.2 x hx')
end
/-! refusals -/
theorem isi_ex {tb : String → Option Bool} {tx : Str → Option Bool} {x : Str} {b : Bool} (h : tx x = some b) (ρ : Env) (M : Mem) : oIsi tb tx (.exv x) ρ M = some (.ok (.bl b), M) := by
  unfold oIsi
  dsimp only
  rw [h]
theorem sTryS_ok {mt : Str → Option Bool} {i : Nat} {f g : Sv} {ρ ρ1 : Env} {M M1 : Mem} (e : f ρ M = some (.nx ρ1, M1)) : sTryS mt i f g ρ M = some (.nx ρ1, M1) := by
  unfold sTryS; rw [e]
theorem sTryS_rt {mt : Str → Option Bool} {i : Nat} {f g : Sv} {ρ ρ1 : Env} {M M1 M2 : Mem} {x : Str} {d : D} (e : f ρ M = some (.ex x ρ1, M1)) (h : mt x = some true) (hi : i < ρ1.length) (eg : g (ρ1.set i (some (.exv x))) M1 = some (.rt d, M2)) : sTryS mt i f g ρ M = some (.rt d, M2) := by
  unfold sTryS
  rw [e]
  dsimp only
  rw [h]
  dsimp only
  rw [if_pos hi, eg]
theorem mt_w : mt_BrineError "NoWater" = some true := by unfold mt_BrineError; rw [if_pos rfl]
theorem word_w (M : Mem) : F__law_word [.exv "NoWater"] M = some (.ok (.lst [.str (Str.ofString "water")]), M) := by
  refine runF_pure ?_ rfl
  have i1 := fun ρ M => isi_ex (tb := fun _ => none) (tx := tx_NoFraction) (x := "NoWater") (b := false) (by decide) ρ M
  have i2 := fun ρ M => isi_ex (tb := fun _ => none) (tx := tx_NoBrine) (x := "NoWater") (b := false) (by decide) ρ M
  have i3 := fun ρ M => isi_ex (tb := fun _ => none) (tx := tx_NoStrength) (x := "NoWater") (b := false) (by decide) ρ M
  have i4 := fun ρ M => isi_ex (tb := fun _ => none) (tx := tx_NoWater) (x := "NoWater") (b := true) (by decide) ρ M
  have i5 := fun ρ M => isi_ex (tb := fun _ => none) (tx := tx_NoMoment) (x := "NoWater") (b := false) (by decide) ρ M
  have i6 := fun ρ M => isi_ex (tb := fun _ => none) (tx := tx_NoYear) (x := "NoWater") (b := false) (by decide) ρ M
  have i7 := fun ρ M => isi_ex (tb := fun _ => none) (tx := tx_NoPan) (x := "NoWater") (b := false) (by decide) ρ M
  have i8 := fun ρ M => isi_ex (tb := fun _ => none) (tx := tx_NoRoom) (x := "NoWater") (b := false) (by decide) ρ M
  have i9 := fun ρ M => isi_ex (tb := fun _ => none) (tx := tx_Weaker) (x := "NoWater") (b := false) (by decide) ρ M
  have j1 := fun ρ M => isi_ex (tb := fun _ => none) (tx := tx_NoDeed) (x := "NoWater") (b := false) (by decide) ρ M
  have j2 := fun ρ M => isi_ex (tb := fun _ => none) (tx := tx_NoGate) (x := "NoWater") (b := false) (by decide) ρ M
  have j3 := fun ρ M => isi_ex (tb := fun _ => none) (tx := tx_NoLot) (x := "NoWater") (b := false) (by decide) ρ M
  have j4 := fun ρ M => isi_ex (tb := fun _ => none) (tx := tx_NoPlan) (x := "NoWater") (b := false) (by decide) ρ M
  have j5 := fun ρ M => isi_ex (tb := fun _ => none) (tx := tx_NoLine) (x := "NoWater") (b := false) (by decide) ρ M
  have j6 := fun ρ M => isi_ex (tb := fun _ => none) (tx := tx_NoLater) (x := "NoWater") (b := false) (by decide) ρ M
  have j7 := fun ρ M => isi_ex (tb := fun _ => none) (tx := tx_NoText) (x := "NoWater") (b := false) (by decide) ρ M
  have j8 := fun ρ M => isi_ex (tb := fun _ => none) (tx := tx_ValueError) (x := "NoWater") (b := true) (by decide) ρ M
  have ct : ∀ ρ M, oCntB (.lst [.bl false, .bl false, .bl false, .bl true, .bl false, .bl false, .bl false, .bl false, .bl false, .bl false, .bl false, .bl false, .bl false, .bl false, .bl false, .bl false]) [.bl true] ρ M = some (.ok (.int 1), M) := fun _ _ => rfl
  have ix : ∀ ρ M, oIdxB (.lst [.bl false, .bl false, .bl false, .bl true, .bl false, .bl false, .bl false, .bl false, .bl false, .bl false, .bl false, .bl false, .bl false, .bl false, .bl false, .bl false]) [.bl true] ρ M = some (.ok (.int 3), M) := fun _ _ => rfl
  have lk : ∀ a b c (d : D) e f g h i j k l m n o p, atI [a, b, c, d, e, f, g, h, i, j, k, l, m, n, o, p] 3 = some d := fun _ _ _ _ _ _ _ _ _ _ _ _ _ _ _ _ => rfl
  simp -implicitDefEqProofs only [den__law_word, sSeq_ap, sAsg_ap, sPar_ap, sRet_ap, sIf_ap, sExpr_ap, sNext_ap, bnd_ap, ret_ap, bindR_ok, thenR_ok, dVar_ap, varR_ok, seqR_nx, seqR_rt, asgR_ok, gNm_ap, gCn_ap, gcnR_ok, gNl_ap, gTp_fr, gTp_ap, gLs_ap, dCons_ap, dNil_ap, asB_ap, dOr_ap, dAnd_ap, dNot_ap, dAndV_ap, dOrV_ap, dNotV_ap, dIf_ap, oAdd_int, oSub_int, oLt_int, oLe_int, oGt_int, oGe_int, oNeg_int, oEq_int, oNe_int, oEq_fr, oNe_fr, oEq_bl, oNe_bl, oTup_ap, oLst_ap, oCall_ap, oAbs_ap, oMax_ap, oMin_ap, oToInt_b, oToInt_i, oLen_lst, oLen_scr, oLen_tup, oIx_lst, oIx_scr, oAdd_lst, oIx_tup, oIx_fr0, oIx_fr1, ixR_ok, oItL_ap, oItT_ap, sFor_ap, startD, List.map_cons, List.map_nil, List.length_cons, List.length_nil, List.replicate_succ, List.replicate_zero, List.cons_append, List.nil_append, List.append_nil, List.getElem?_cons_zero, List.getElem?_cons_succ, List.set_cons_zero, List.set_cons_succ, Nat.reduceAdd, Nat.reduceSub, Nat.sub_self, Nat.reduceLeDiff, List.all_cons, List.all_nil, np_fr, np_int, np_bl, np_tup, np_lst, np_str, np_non, Bool.and_self, Bool.and_true, if_true_, if_false_, zero_add', if_tt, if_ff, decide_true, decide_false, Nat.le_refl, oItS_lst, oItS_tup, oTupOf_lst, oTupOf_tup, oLstOf_lst, oLstOf_tup, oRv_lst, oRv_tup, oAdd_tup, dChain_ap, asTru_bl, asTru_tup, asTru_lst, oIsN_ap, oNotN_ap, asI_ap, oSl_tup, oSl_lst, oZip_tup, oZip_lst, oAddI_ap, oEqS_ap, oNeS_ap, oNe_nil, i1, i2, i3, i4, i5, i6, i7, i8, i9, j1, j2, j3, j4, j5, j6, j7, j8, ct, ix, lk, Bool.not_true, Bool.false_eq_true]
/-! what is told, what is refused -/
def dueT (b : Bool) (B : List (Rat × Rat)) (w : Rat) : D := .lst [.tup [.tup ((tkT b B w).map lyQ), .tup ((tkL b B w).map lyQ)]]
section
variable {f w : Rat} {U : Int} {B : List (Rat × Rat)}
noncomputable abbrev fTr : Sv := (sAsg (dIf (bnd (bnd (dVar 0) fun d => bnd (ret (.int 0)) fun e => oEq d e) asB) (bnd (dCons (dVar 1) (dCons (dVar 2) dNil)) (oCall 2 F_drawn)) (bnd (dCons (dVar 1) (dCons (dVar 2) dNil)) (oCall 2 F_skimmed))) (gNm 4))
theorem told_ok (b : Bool) (h : Big f U B) (hg : Gu U w) (h0 : 0 ≤ w) (h1 : w ≤ sumW B) (M : Mem) : F__law_told [.int (wh b), .tup (B.map lyQ), frQ w] M = some (.ok (dueT b B w), M) := by
  have one : ∀ ρ M, oEq (.int 1) (.int 0) ρ M = some (.ok (.bl false), M) := fun _ _ => rfl
  have zer : ∀ ρ M, oEq (.int 0) (.int 0) ρ M = some (.ok (.bl true), M) := fun _ _ => rfl
  have dr := drawn_big h hg h0 h1
  have sk := skimmed_big h hg h0 h1
  unfold dueT
  generalize hd : D.tup [.tup ((tkT b B w).map lyQ), .tup ((tkL b B w).map lyQ)] = d
  have dn : d.np = true := by rw [← hd]; rfl
  refine runF_pure ?_ rfl
  have t := fun ρ1 h => sTryS_ok (mt := mt_BrineError) (i := 3) (f := fTr) (g := (sRet (bnd (dCons (dVar 3) dNil) (oCall 1 F__law_word)))) (ρ := [some (.int (wh b)), some (.tup (B.map lyQ)), some (frQ w), none, none]) (ρ1 := ρ1) (M := M) (M1 := M) h
  have t' := t [some (.int (wh b)), some (.tup (B.map lyQ)), some (frQ w), none, some d] (by
    cases b with
    | false => rw [hd] at dr; unfold fTr wh; simp -implicitDefEqProofs only [sSeq_ap, sAsg_ap, sPar_ap, sRet_ap, sIf_ap, sExpr_ap, sNext_ap, bnd_ap, ret_ap, bindR_ok, thenR_ok, dVar_ap, varR_ok, seqR_nx, seqR_rt, asgR_ok, gNm_ap, gCn_ap, gcnR_ok, gNl_ap, gTp_fr, gTp_ap, gLs_ap, dCons_ap, dNil_ap, asB_ap, dOr_ap, dAnd_ap, dNot_ap, dAndV_ap, dOrV_ap, dNotV_ap, dIf_ap, oAdd_int, oSub_int, oLt_int, oLe_int, oGt_int, oGe_int, oNeg_int, oEq_int, oNe_int, oEq_fr, oNe_fr, oEq_bl, oNe_bl, oTup_ap, oLst_ap, oCall_ap, oAbs_ap, oMax_ap, oMin_ap, oToInt_b, oToInt_i, oLen_lst, oLen_scr, oLen_tup, oIx_lst, oIx_scr, oAdd_lst, oIx_tup, oIx_fr0, oIx_fr1, ixR_ok, oItL_ap, oItT_ap, sFor_ap, startD, List.map_cons, List.map_nil, List.length_cons, List.length_nil, List.replicate_succ, List.replicate_zero, List.cons_append, List.nil_append, List.append_nil, List.getElem?_cons_zero, List.getElem?_cons_succ, List.set_cons_zero, List.set_cons_succ, Nat.reduceAdd, Nat.reduceSub, Nat.sub_self, Nat.reduceLeDiff, List.all_cons, List.all_nil, np_fr, np_int, np_bl, np_tup, np_lst, np_str, np_non, Bool.and_self, Bool.and_true, if_true_, if_false_, zero_add', if_tt, if_ff, decide_true, decide_false, Nat.le_refl, oItS_lst, oItS_tup, oTupOf_lst, oTupOf_tup, oLstOf_lst, oLstOf_tup, oRv_lst, oRv_tup, oAdd_tup, dChain_ap, asTru_bl, asTru_tup, asTru_lst, oIsN_ap, oNotN_ap, asI_ap, oSl_tup, oSl_lst, oZip_tup, oZip_lst, oAddI_ap, oEqS_ap, oNeS_ap, oNe_nil, zer, dr, Bool.false_eq_true]
    | true => rw [hd] at sk; unfold fTr wh; simp -implicitDefEqProofs only [sSeq_ap, sAsg_ap, sPar_ap, sRet_ap, sIf_ap, sExpr_ap, sNext_ap, bnd_ap, ret_ap, bindR_ok, thenR_ok, dVar_ap, varR_ok, seqR_nx, seqR_rt, asgR_ok, gNm_ap, gCn_ap, gcnR_ok, gNl_ap, gTp_fr, gTp_ap, gLs_ap, dCons_ap, dNil_ap, asB_ap, dOr_ap, dAnd_ap, dNot_ap, dAndV_ap, dOrV_ap, dNotV_ap, dIf_ap, oAdd_int, oSub_int, oLt_int, oLe_int, oGt_int, oGe_int, oNeg_int, oEq_int, oNe_int, oEq_fr, oNe_fr, oEq_bl, oNe_bl, oTup_ap, oLst_ap, oCall_ap, oAbs_ap, oMax_ap, oMin_ap, oToInt_b, oToInt_i, oLen_lst, oLen_scr, oLen_tup, oIx_lst, oIx_scr, oAdd_lst, oIx_tup, oIx_fr0, oIx_fr1, ixR_ok, oItL_ap, oItT_ap, sFor_ap, startD, List.map_cons, List.map_nil, List.length_cons, List.length_nil, List.replicate_succ, List.replicate_zero, List.cons_append, List.nil_append, List.append_nil, List.getElem?_cons_zero, List.getElem?_cons_succ, List.set_cons_zero, List.set_cons_succ, Nat.reduceAdd, Nat.reduceSub, Nat.sub_self, Nat.reduceLeDiff, List.all_cons, List.all_nil, np_fr, np_int, np_bl, np_tup, np_lst, np_str, np_non, Bool.and_self, Bool.and_true, if_true_, if_false_, zero_add', if_tt, if_ff, decide_true, decide_false, Nat.le_refl, oItS_lst, oItS_tup, oTupOf_lst, oTupOf_tup, oLstOf_lst, oLstOf_tup, oRv_lst, oRv_tup, oAdd_tup, dChain_ap, asTru_bl, asTru_tup, asTru_lst, oIsN_ap, oNotN_ap, asI_ap, oSl_tup, oSl_lst, oZip_tup, oZip_lst, oAddI_ap, oEqS_ap, oNeS_ap, oNe_nil, one, sk, Bool.false_eq_true])
  show den__law_told _ _ = _
  simp -implicitDefEqProofs only [den__law_told, sSeq_ap, startD, List.map_cons, List.map_nil, List.length_cons, List.length_nil, List.replicate_succ, List.replicate_zero, List.cons_append, List.nil_append, Nat.reduceAdd, Nat.reduceSub]
  rw [t']
  simp -implicitDefEqProofs only [sSeq_ap, sAsg_ap, sPar_ap, sRet_ap, sIf_ap, sExpr_ap, sNext_ap, bnd_ap, ret_ap, bindR_ok, thenR_ok, dVar_ap, varR_ok, seqR_nx, seqR_rt, asgR_ok, gNm_ap, gCn_ap, gcnR_ok, gNl_ap, gTp_fr, gTp_ap, gLs_ap, dCons_ap, dNil_ap, asB_ap, dOr_ap, dAnd_ap, dNot_ap, dAndV_ap, dOrV_ap, dNotV_ap, dIf_ap, oAdd_int, oSub_int, oLt_int, oLe_int, oGt_int, oGe_int, oNeg_int, oEq_int, oNe_int, oEq_fr, oNe_fr, oEq_bl, oNe_bl, oTup_ap, oLst_ap, oCall_ap, oAbs_ap, oMax_ap, oMin_ap, oToInt_b, oToInt_i, oLen_lst, oLen_scr, oLen_tup, oIx_lst, oIx_scr, oAdd_lst, oIx_tup, oIx_fr0, oIx_fr1, ixR_ok, oItL_ap, oItT_ap, sFor_ap, startD, List.map_cons, List.map_nil, List.length_cons, List.length_nil, List.replicate_succ, List.replicate_zero, List.cons_append, List.nil_append, List.append_nil, List.getElem?_cons_zero, List.getElem?_cons_succ, List.set_cons_zero, List.set_cons_succ, Nat.reduceAdd, Nat.reduceSub, Nat.sub_self, Nat.reduceLeDiff, List.all_cons, List.all_nil, np_fr, np_int, np_bl, np_tup, np_lst, np_str, np_non, Bool.and_self, Bool.and_true, if_true_, if_false_, zero_add', if_tt, if_ff, decide_true, decide_false, Nat.le_refl, oItS_lst, oItS_tup, oTupOf_lst, oTupOf_tup, oLstOf_lst, oLstOf_tup, oRv_lst, oRv_tup, oAdd_tup, dChain_ap, asTru_bl, asTru_tup, asTru_lst, oIsN_ap, oNotN_ap, asI_ap, oSl_tup, oSl_lst, oZip_tup, oZip_lst, oAddI_ap, oEqS_ap, oNeS_ap, oNe_nil, dn]
theorem told_no (b : Bool) (h : Big f U B) (hw : Bd 100 w) (no : w < 0 ∨ sumW B < w) (M : Mem) : F__law_told [.int (wh b), .tup (B.map lyQ), frQ w] M = some (.ok (.lst [.str (Str.ofString "water")]), M) := by
  have one : ∀ ρ M, oEq (.int 1) (.int 0) ρ M = some (.ok (.bl false), M) := fun _ _ => rfl
  have zer : ∀ ρ M, oEq (.int 0) (.int 0) ρ M = some (.ok (.bl true), M) := fun _ _ => rfl
  have ck := check_not h hw no
  have dr : ∀ M, F_drawn [.tup (B.map lyQ), frQ w] M = some (.exc "NoWater", M) := fun M => by
    refine runX_ex (ρ := [some (.tup (B.map lyQ)), some (frQ w), none, none]) ?_
    simp -implicitDefEqProofs only [den_drawn, sSeq_ap, sAsg_ap, sPar_ap, sRet_ap, sIf_ap, sExpr_ap, sNext_ap, bnd_ap, ret_ap, bindR_ok, thenR_ok, dVar_ap, varR_ok, seqR_nx, seqR_rt, asgR_ok, gNm_ap, gCn_ap, gcnR_ok, gNl_ap, gTp_fr, gTp_ap, gLs_ap, dCons_ap, dNil_ap, asB_ap, dOr_ap, dAnd_ap, dNot_ap, dAndV_ap, dOrV_ap, dNotV_ap, dIf_ap, oAdd_int, oSub_int, oLt_int, oLe_int, oGt_int, oGe_int, oNeg_int, oEq_int, oNe_int, oEq_fr, oNe_fr, oEq_bl, oNe_bl, oTup_ap, oLst_ap, oCall_ap, oAbs_ap, oMax_ap, oMin_ap, oToInt_b, oToInt_i, oLen_lst, oLen_scr, oLen_tup, oIx_lst, oIx_scr, oAdd_lst, oIx_tup, oIx_fr0, oIx_fr1, ixR_ok, oItL_ap, oItT_ap, sFor_ap, startD, List.map_cons, List.map_nil, List.length_cons, List.length_nil, List.replicate_succ, List.replicate_zero, List.cons_append, List.nil_append, List.append_nil, List.getElem?_cons_zero, List.getElem?_cons_succ, List.set_cons_zero, List.set_cons_succ, Nat.reduceAdd, Nat.reduceSub, Nat.sub_self, Nat.reduceLeDiff, List.all_cons, List.all_nil, np_fr, np_int, np_bl, np_tup, np_lst, np_str, np_non, Bool.and_self, Bool.and_true, if_true_, if_false_, zero_add', if_tt, if_ff, decide_true, decide_false, Nat.le_refl, oItS_lst, oItS_tup, oTupOf_lst, oTupOf_tup, oLstOf_lst, oLstOf_tup, oRv_lst, oRv_tup, oAdd_tup, dChain_ap, asTru_bl, asTru_tup, asTru_lst, oIsN_ap, oNotN_ap, asI_ap, oSl_tup, oSl_lst, oZip_tup, oZip_lst, oAddI_ap, oEqS_ap, oNeS_ap, oNe_nil, ck]
    rfl
  have sk : ∀ M, F_skimmed [.tup (B.map lyQ), frQ w] M = some (.exc "NoWater", M) := fun M => by
    refine runX_ex (ρ := [some (.tup (B.map lyQ)), some (frQ w), none, none]) ?_
    simp -implicitDefEqProofs only [den_skimmed, sSeq_ap, sAsg_ap, sPar_ap, sRet_ap, sIf_ap, sExpr_ap, sNext_ap, bnd_ap, ret_ap, bindR_ok, thenR_ok, dVar_ap, varR_ok, seqR_nx, seqR_rt, asgR_ok, gNm_ap, gCn_ap, gcnR_ok, gNl_ap, gTp_fr, gTp_ap, gLs_ap, dCons_ap, dNil_ap, asB_ap, dOr_ap, dAnd_ap, dNot_ap, dAndV_ap, dOrV_ap, dNotV_ap, dIf_ap, oAdd_int, oSub_int, oLt_int, oLe_int, oGt_int, oGe_int, oNeg_int, oEq_int, oNe_int, oEq_fr, oNe_fr, oEq_bl, oNe_bl, oTup_ap, oLst_ap, oCall_ap, oAbs_ap, oMax_ap, oMin_ap, oToInt_b, oToInt_i, oLen_lst, oLen_scr, oLen_tup, oIx_lst, oIx_scr, oAdd_lst, oIx_tup, oIx_fr0, oIx_fr1, ixR_ok, oItL_ap, oItT_ap, sFor_ap, startD, List.map_cons, List.map_nil, List.length_cons, List.length_nil, List.replicate_succ, List.replicate_zero, List.cons_append, List.nil_append, List.append_nil, List.getElem?_cons_zero, List.getElem?_cons_succ, List.set_cons_zero, List.set_cons_succ, Nat.reduceAdd, Nat.reduceSub, Nat.sub_self, Nat.reduceLeDiff, List.all_cons, List.all_nil, np_fr, np_int, np_bl, np_tup, np_lst, np_str, np_non, Bool.and_self, Bool.and_true, if_true_, if_false_, zero_add', if_tt, if_ff, decide_true, decide_false, Nat.le_refl, oItS_lst, oItS_tup, oTupOf_lst, oTupOf_tup, oLstOf_lst, oLstOf_tup, oRv_lst, oRv_tup, oAdd_tup, dChain_ap, asTru_bl, asTru_tup, asTru_lst, oIsN_ap, oNotN_ap, asI_ap, oSl_tup, oSl_lst, oZip_tup, oZip_lst, oAddI_ap, oEqS_ap, oNeS_ap, oNe_nil, ck]
    rfl
  refine runF_pure ?_ rfl
  have t := sTryS_rt (mt := mt_BrineError) (i := 3) (f := fTr) (g := (sRet (bnd (dCons (dVar 3) dNil) (oCall 1 F__law_word)))) (ρ := [some (.int (wh b)), some (.tup (B.map lyQ)), some (frQ w), none, none]) (ρ1 := [some (.int (wh b)), some (.tup (B.map lyQ)), some (frQ w), none, none]) (M := M) (M1 := M) (M2 := M) (x := "NoWater") (d := .lst [.str (Str.ofString "water")]) (by
    cases b with
    | false => unfold fTr wh; simp -implicitDefEqProofs only [sSeq_ap, sAsg_ap, sPar_ap, sRet_ap, sIf_ap, sExpr_ap, sNext_ap, bnd_ap, ret_ap, bindR_ok, thenR_ok, dVar_ap, varR_ok, seqR_nx, seqR_rt, asgR_ok, gNm_ap, gCn_ap, gcnR_ok, gNl_ap, gTp_fr, gTp_ap, gLs_ap, dCons_ap, dNil_ap, asB_ap, dOr_ap, dAnd_ap, dNot_ap, dAndV_ap, dOrV_ap, dNotV_ap, dIf_ap, oAdd_int, oSub_int, oLt_int, oLe_int, oGt_int, oGe_int, oNeg_int, oEq_int, oNe_int, oEq_fr, oNe_fr, oEq_bl, oNe_bl, oTup_ap, oLst_ap, oCall_ap, oAbs_ap, oMax_ap, oMin_ap, oToInt_b, oToInt_i, oLen_lst, oLen_scr, oLen_tup, oIx_lst, oIx_scr, oAdd_lst, oIx_tup, oIx_fr0, oIx_fr1, ixR_ok, oItL_ap, oItT_ap, sFor_ap, startD, List.map_cons, List.map_nil, List.length_cons, List.length_nil, List.replicate_succ, List.replicate_zero, List.cons_append, List.nil_append, List.append_nil, List.getElem?_cons_zero, List.getElem?_cons_succ, List.set_cons_zero, List.set_cons_succ, Nat.reduceAdd, Nat.reduceSub, Nat.sub_self, Nat.reduceLeDiff, List.all_cons, List.all_nil, np_fr, np_int, np_bl, np_tup, np_lst, np_str, np_non, Bool.and_self, Bool.and_true, if_true_, if_false_, zero_add', if_tt, if_ff, decide_true, decide_false, Nat.le_refl, oItS_lst, oItS_tup, oTupOf_lst, oTupOf_tup, oLstOf_lst, oLstOf_tup, oRv_lst, oRv_tup, oAdd_tup, dChain_ap, asTru_bl, asTru_tup, asTru_lst, oIsN_ap, oNotN_ap, asI_ap, oSl_tup, oSl_lst, oZip_tup, oZip_lst, oAddI_ap, oEqS_ap, oNeS_ap, oNe_nil, zer, dr, Bool.false_eq_true]; rfl
    | true => unfold fTr wh; simp -implicitDefEqProofs only [sSeq_ap, sAsg_ap, sPar_ap, sRet_ap, sIf_ap, sExpr_ap, sNext_ap, bnd_ap, ret_ap, bindR_ok, thenR_ok, dVar_ap, varR_ok, seqR_nx, seqR_rt, asgR_ok, gNm_ap, gCn_ap, gcnR_ok, gNl_ap, gTp_fr, gTp_ap, gLs_ap, dCons_ap, dNil_ap, asB_ap, dOr_ap, dAnd_ap, dNot_ap, dAndV_ap, dOrV_ap, dNotV_ap, dIf_ap, oAdd_int, oSub_int, oLt_int, oLe_int, oGt_int, oGe_int, oNeg_int, oEq_int, oNe_int, oEq_fr, oNe_fr, oEq_bl, oNe_bl, oTup_ap, oLst_ap, oCall_ap, oAbs_ap, oMax_ap, oMin_ap, oToInt_b, oToInt_i, oLen_lst, oLen_scr, oLen_tup, oIx_lst, oIx_scr, oAdd_lst, oIx_tup, oIx_fr0, oIx_fr1, ixR_ok, oItL_ap, oItT_ap, sFor_ap, startD, List.map_cons, List.map_nil, List.length_cons, List.length_nil, List.replicate_succ, List.replicate_zero, List.cons_append, List.nil_append, List.append_nil, List.getElem?_cons_zero, List.getElem?_cons_succ, List.set_cons_zero, List.set_cons_succ, Nat.reduceAdd, Nat.reduceSub, Nat.sub_self, Nat.reduceLeDiff, List.all_cons, List.all_nil, np_fr, np_int, np_bl, np_tup, np_lst, np_str, np_non, Bool.and_self, Bool.and_true, if_true_, if_false_, zero_add', if_tt, if_ff, decide_true, decide_false, Nat.le_refl, oItS_lst, oItS_tup, oTupOf_lst, oTupOf_tup, oLstOf_lst, oLstOf_tup, oRv_lst, oRv_tup, oAdd_tup, dChain_ap, asTru_bl, asTru_tup, asTru_lst, oIsN_ap, oNotN_ap, asI_ap, oSl_tup, oSl_lst, oZip_tup, oZip_lst, oAddI_ap, oEqS_ap, oNeS_ap, oNe_nil, one, sk, Bool.false_eq_true]; rfl) mt_w (by show 3 < 5; decide) (by simp -implicitDefEqProofs only [sSeq_ap, sAsg_ap, sPar_ap, sRet_ap, sIf_ap, sExpr_ap, sNext_ap, bnd_ap, ret_ap, bindR_ok, thenR_ok, dVar_ap, varR_ok, seqR_nx, seqR_rt, asgR_ok, gNm_ap, gCn_ap, gcnR_ok, gNl_ap, gTp_fr, gTp_ap, gLs_ap, dCons_ap, dNil_ap, asB_ap, dOr_ap, dAnd_ap, dNot_ap, dAndV_ap, dOrV_ap, dNotV_ap, dIf_ap, oAdd_int, oSub_int, oLt_int, oLe_int, oGt_int, oGe_int, oNeg_int, oEq_int, oNe_int, oEq_fr, oNe_fr, oEq_bl, oNe_bl, oTup_ap, oLst_ap, oCall_ap, oAbs_ap, oMax_ap, oMin_ap, oToInt_b, oToInt_i, oLen_lst, oLen_scr, oLen_tup, oIx_lst, oIx_scr, oAdd_lst, oIx_tup, oIx_fr0, oIx_fr1, ixR_ok, oItL_ap, oItT_ap, sFor_ap, startD, List.map_cons, List.map_nil, List.length_cons, List.length_nil, List.replicate_succ, List.replicate_zero, List.cons_append, List.nil_append, List.append_nil, List.getElem?_cons_zero, List.getElem?_cons_succ, List.set_cons_zero, List.set_cons_succ, Nat.reduceAdd, Nat.reduceSub, Nat.sub_self, Nat.reduceLeDiff, List.all_cons, List.all_nil, np_fr, np_int, np_bl, np_tup, np_lst, np_str, np_non, Bool.and_self, Bool.and_true, if_true_, if_false_, zero_add', if_tt, if_ff, decide_true, decide_false, Nat.le_refl, oItS_lst, oItS_tup, oTupOf_lst, oTupOf_tup, oLstOf_lst, oLstOf_tup, oRv_lst, oRv_tup, oAdd_tup, dChain_ap, asTru_bl, asTru_tup, asTru_lst, oIsN_ap, oNotN_ap, asI_ap, oSl_tup, oSl_lst, oZip_tup, oZip_lst, oAddI_ap, oEqS_ap, oNeS_ap, oNe_nil, word_w])
  show den__law_told _ _ = _
  simp -implicitDefEqProofs only [den__law_told, sSeq_ap, startD, List.map_cons, List.map_nil, List.length_cons, List.length_nil, List.replicate_succ, List.replicate_zero, List.cons_append, List.nil_append, Nat.reduceAdd, Nat.reduceSub]
  rw [t]
  rfl
theorem dueT_sh (b : Bool) (h : Big f U B) (hg : Gu U w) (h0 : 0 ≤ w) (h1 : w ≤ sumW B) : Sh 10 7900 (dueT b B w) := by
  obtain ⟨c1, c2, c3, c4⟩ := cut_bd b h hg h0 h1
  have s1 := (Sh.lys (ps := tkT b B w) fun p hp => (c1 p hp).mono (by decide)).mono (k' := 3) (n' := 3921) (by decide) (by omega)
  have s2 := (Sh.lys (ps := tkL b B w) fun p hp => (c2 p hp).mono (by decide)).mono (k' := 3) (n' := 3921) (by decide) (by omega)
  have s3 := Sh.tup (k := 3) (n := 3921) (ds := [.tup ((tkT b B w).map lyQ), .tup ((tkL b B w).map lyQ)]) (by
    simp -implicitDefEqProofs only [List.mem_cons, List.not_mem_nil, or_false]
    rintro d (rfl | rfl)
    · exact s1.mono (by decide) (by decide)
    · exact s2.mono (by decide) (by decide))
  exact (Sh.lst (k := 4) (n := 7845) (ds := [.tup [.tup ((tkT b B w).map lyQ), .tup ((tkL b B w).map lyQ)]]) (by
    simp -implicitDefEqProofs only [List.mem_cons, List.not_mem_nil, or_false]
    rintro d rfl
    exact s3.mono (by decide) (by simp))).mono (by decide) (by simp)
end
/-! the law -/
theorem brQ_big {f : Rat} {u : Int} {P : List (Int × Int)} (h : CaseOk f u P) : Big f (2 * u) (brQ u P) := by
  obtain ⟨ok, ds, ln⟩ := brQ_ok h
  have hu := h.un
  have hwb := h.wb
  refine ⟨fun x hx => (ok x hx).1, fun x hx => (ok x hx).2, fun x hx => ?_, ln, ?_, by omega⟩
  · obtain ⟨p, _, rfl⟩ := List.mem_map.mp hx
    exact gu_div hu.1
  · rw [sum_toQ]
    have : Rat.divInt (sW P) u ≤ Rat.divInt (2 ^ 20) 1 := div_le_div (by omega) (by decide) (by omega)
    rwa [show Rat.divInt (2 ^ 20) 1 = ((2 ^ 20 : Int) : Rat) from rfl] at this
def nearQ : Rat := Rat.divInt 1 1000 * Rat.divInt 1 997
theorem near_bd : Bd 25 nearQ := ⟨by decide +kernel, by decide +kernel⟩
theorem gu_sum {u : Int} (hu : 1 ≤ u) (P : List (Int × Int)) : Gu (2 * u) (sumW (brQ u P)) := by rw [sum_toQ]; exact gu_div hu
theorem near_pos : 0 < nearQ := by decide +kernel
theorem odds {f : Rat} {u : Int} {P : List (Int × Int)} (h : CaseOk f u P) : ∀ w ∈ [Rat.divInt (-1) u, Rat.divInt (sW P + 1) u, ((10 ^ 6 : Int) : Rat), ((0 - 10 ^ 6 : Int) : Rat), 0 - nearQ, sumW (brQ u P) + nearQ], Bd 60 w ∧ (w < 0 ∨ sumW (brQ u P) < w) := by
  have hu := h.un
  have hw := h.pa.w
  have hwb := h.wb
  have nn : ∀ p ∈ P, 0 ≤ p.1 := fun p hp => (h.pa.ly p hp).w
  have t0 : 0 ≤ sW P := by have := (sW_sub nn P.length).1; rw [List.take_length] at this; exact this
  have ss := sum_toQ u P
  have up : (0 : Rat) < (u : Rat) := by exact_mod_cast (by omega : (0 : Int) < u)
  have ui := Rat.mul_inv_cancel (u : Rat) (Rat.ne_of_gt up)
  have uip : (0 : Rat) < (u : Rat)⁻¹ := Rat.inv_pos.mpr up
  intro w hm
  simp -implicitDefEqProofs only [List.mem_cons, List.not_mem_nil, or_false] at hm
  rcases hm with rfl | rfl | rfl | rfl | rfl | rfl
  · refine ⟨bd_divInt (by omega) (by decide) (by omega), .inl ?_⟩
    rw [divInt_mul, show ((-1 : Int) : Rat) = -1 from rfl]
    grind
  · refine ⟨bd_divInt (by omega) (by omega) (by omega), .inr ?_⟩
    rw [ss, divInt_add', divInt_mul 1 ]
    rw [show ((1 : Int) : Rat) = 1 from rfl]
    grind
  · refine ⟨⟨by decide +kernel, by decide +kernel⟩, .inr ?_⟩
    rw [ss]
    have : Rat.divInt (sW P) u ≤ Rat.divInt 999999 1 := div_le_div (by omega) (by decide) (by omega)
    have e : Rat.divInt 999999 1 < ((10 ^ 6 : Int) : Rat) := by decide +kernel
    grind
  · exact ⟨⟨by decide +kernel, by decide +kernel⟩, .inl (by decide +kernel)⟩
  · exact ⟨⟨by decide +kernel, by decide +kernel⟩, .inl (by decide +kernel)⟩
  · have sd := brQ_big h
    have b := (gu_sum hu.1 P).bd sd.un (by rw [ss]; exact divInt_nn t0 (by omega)) sd.sm
    refine ⟨(b.add near_bd).mono (by decide), .inr ?_⟩
    have := near_pos
    grind
theorem law_in {S o1 o2 o3 o4 o5 o7 o8 o9 o10 o11 o12 o13 o17 : Option D} {f w : Rat} {U : Int} {B : List (Rat × Rat)} (h : Big f U B) (hg : Gu U w) (h0 : 0 ≤ w) (h1 : w ≤ sumW B) (M : Mem) : ∀ (bs : List Bool) (o16 : Option D),
    ∃ p16, forF (gNm 16) den_law_L1 (bs.map fun b => D.int (wh b)) [S, o1, o2, o3, o4, o5, some (.tup (B.map lyQ)), o7, o8, o9, o10, o11, o12, o13, some (frQ w), some (.lst [dueT false B w, dueT true B w]), o16, o17] M = some (.nx [S, o1, o2, o3, o4, o5, some (.tup (B.map lyQ)), o7, o8, o9, o10, o11, o12, o13, some (frQ w), some (.lst [dueT false B w, dueT true B w]), p16, o17], M)
  | [], o16 => ⟨o16, rfl⟩
  | b :: bs, o16 => by
    have td := told_ok b h hg h0 h1 M
    have rp := fun ρ M => oReprD_ap (dueT_sh b h hg h0 h1) (by decide) (by decide) ρ M
    obtain ⟨p16, e⟩ := law_in (S := S) (o1 := o1) (o2 := o2) (o3 := o3) (o4 := o4) (o5 := o5) (o7 := o7) (o8 := o8) (o9 := o9) (o10 := o10) (o11 := o11) (o12 := o12) (o13 := o13) (o17 := o17) h hg h0 h1 M bs (some (.int (wh b)))
    refine ⟨p16, ?_⟩
    have ix : atI [dueT false B w, dueT true B w] (wh b) = some (dueT b B w) := by cases b <;> rfl
    generalize [dueT false B w, dueT true B w] = DU at ix e ⊢
    generalize dueT b B w = du at td rp ix
    generalize (toPy du).shown = z at rp
    generalize B.map lyQ = BD at td e ⊢
    have st : den_law_L1 [S, o1, o2, o3, o4, o5, some (.tup BD), o7, o8, o9, o10, o11, o12, o13, some (frQ w), some (.lst DU), some (.int (wh b)), o17] M = some (.nx [S, o1, o2, o3, o4, o5, some (.tup BD), o7, o8, o9, o10, o11, o12, o13, some (frQ w), some (.lst DU), some (.int (wh b)), o17], M) := by
      simp -implicitDefEqProofs only [den_law_L1, sSeq_ap, sAsg_ap, sPar_ap, sRet_ap, sIf_ap, sExpr_ap, sNext_ap, bnd_ap, ret_ap, bindR_ok, thenR_ok, dVar_ap, varR_ok, seqR_nx, seqR_rt, asgR_ok, gNm_ap, gCn_ap, gcnR_ok, gNl_ap, gTp_fr, gTp_ap, gLs_ap, dCons_ap, dNil_ap, asB_ap, dOr_ap, dAnd_ap, dNot_ap, dAndV_ap, dOrV_ap, dNotV_ap, dIf_ap, oAdd_int, oSub_int, oLt_int, oLe_int, oGt_int, oGe_int, oNeg_int, oEq_int, oNe_int, oEq_fr, oNe_fr, oEq_bl, oNe_bl, oTup_ap, oLst_ap, oCall_ap, oAbs_ap, oMax_ap, oMin_ap, oToInt_b, oToInt_i, oLen_lst, oLen_scr, oLen_tup, oIx_lst, oIx_scr, oAdd_lst, oIx_tup, oIx_fr0, oIx_fr1, ixR_ok, oItL_ap, oItT_ap, sFor_ap, startD, List.map_cons, List.map_nil, List.length_cons, List.length_nil, List.replicate_succ, List.replicate_zero, List.cons_append, List.nil_append, List.append_nil, List.getElem?_cons_zero, List.getElem?_cons_succ, List.set_cons_zero, List.set_cons_succ, Nat.reduceAdd, Nat.reduceSub, Nat.sub_self, Nat.reduceLeDiff, List.all_cons, List.all_nil, np_fr, np_int, np_bl, np_tup, np_lst, np_str, np_non, Bool.and_self, Bool.and_true, if_true_, if_false_, zero_add', if_tt, if_ff, decide_true, decide_false, Nat.le_refl, oItS_lst, oItS_tup, oTupOf_lst, oTupOf_tup, oLstOf_lst, oLstOf_tup, oRv_lst, oRv_tup, oAdd_tup, dChain_ap, asTru_bl, asTru_tup, asTru_lst, oIsN_ap, oNotN_ap, asI_ap, oSl_tup, oSl_lst, oZip_tup, oZip_lst, oAddI_ap, oEqS_ap, oNeS_ap, oNe_nil, td, rp, ix, Bool.not_true, Bool.false_eq_true]
    rw [List.map_cons, forF_cons, gNm_ap, forB_ok]
    simp -implicitDefEqProofs only [List.set_cons_zero, List.set_cons_succ]
    rw [st, ofR_nx, e]
theorem law_turns {S o1 o2 o3 o4 o8 o9 o10 o17 : Option D} {f : Rat} {u : Int} {P : List (Int × Int)} {n : Nat} (h : CaseOk f u P) : ∀ (ts : List Int) (c : Nat) (M : Mem) (o7 o14 o15 o16 : Option D), HasReel c n M → c + 12 * ts.length < 2 ^ 30 →
    ∃ p7 p14 p15 p16 M', forF (gNm 7) den_law_L2 (ts.map D.int) [S, o1, o2, o3, o4, some (.ptr n), some (.tup ((brQ u P).map lyQ)), o7, o8, o9, o10, some (frQ f), some (.int u), some (.lst (P.map iP)), o14, o15, o16, o17] M = some (.nx [S, o1, o2, o3, o4, some (.ptr n), some (.tup ((brQ u P).map lyQ)), p7, o8, o9, o10, some (frQ f), some (.int u), some (.lst (P.map iP)), p14, p15, p16, o17], M') ∧ Turned (c + 12 * ts.length) n M M'
  | [], c, M, o7, o14, o15, o16, hr, _ => ⟨_, _, _, _, M, rfl, hr.self⟩
  | tu :: ts, c, M, o7, o14, o15, o16, hr, hc => by
    rw [List.length_cons] at hc
    obtain ⟨w, M1, e1, w0, w1, wg, t1⟩ := amount_eq hr (by omega) h
    have bg := brQ_big h
    have lu := lunder_big bg wg w0 w1 M1
    have lo := lover_big bg wg w0 w1 M1
    obtain ⟨p16, e⟩ := law_in (S := S) (o1 := o1) (o2 := o2) (o3 := o3) (o4 := o4) (o5 := some (.ptr n)) (o7 := some (.int tu)) (o8 := o8) (o9 := o9) (o10 := o10) (o11 := some (frQ f)) (o12 := some (.int u)) (o13 := some (.lst (P.map iP))) (o17 := o17) bg wg w0 w1 M1 [false, true, false, true] o16
    obtain ⟨q7, q14, q15, q16, M', e', t'⟩ := law_turns (S := S) (o1 := o1) (o2 := o2) (o3 := o3) (o4 := o4) (o8 := o8) (o9 := o9) (o10 := o10) (o17 := o17) h ts (c + 12) M1 (some (.int tu)) (some (frQ w)) (some (.lst [dueT false (brQ u P) w, dueT true (brQ u P) w])) p16 (t1.has.mono (by omega)) (by omega)
    refine ⟨q7, q14, q15, q16, M', ?_, ((t1.mono (c' := c + 12) (by omega)).trans t').mono (by rw [List.length_cons]; omega)⟩
    have d1 : D.lst [D.tup [.tup ((tkT false (brQ u P) w).map lyQ), .tup ((tkL false (brQ u P) w).map lyQ)]] = dueT false (brQ u P) w := rfl
    have d2 : D.lst [D.tup [.tup ((tkT true (brQ u P) w).map lyQ), .tup ((tkL true (brQ u P) w).map lyQ)]] = dueT true (brQ u P) w := rfl
    have n1 : (dueT false (brQ u P) w).np = true := rfl
    have n2 : (dueT true (brQ u P) w).np = true := rfl
    rw [List.map_cons, forF_cons, gNm_ap, forB_ok]
    simp -implicitDefEqProofs only [List.set_cons_zero, List.set_cons_succ]
    simp -implicitDefEqProofs only [List.map_cons, List.map_nil] at e
    have w0' : wh false = 0 := rfl
    have w1' : wh true = 1 := rfl
    rw [w0', w1'] at e
    have st : den_law_L2 [S, o1, o2, o3, o4, some (.ptr n), some (.tup ((brQ u P).map lyQ)), some (.int tu), o8, o9, o10, some (frQ f), some (.int u), some (.lst (P.map iP)), o14, o15, o16, o17] M = some (.nx [S, o1, o2, o3, o4, some (.ptr n), some (.tup ((brQ u P).map lyQ)), some (.int tu), o8, o9, o10, some (frQ f), some (.int u), some (.lst (P.map iP)), some (frQ w), some (.lst [dueT false (brQ u P) w, dueT true (brQ u P) w]), p16, o17], M1) := by
      simp -implicitDefEqProofs only [den_law_L2, sSeq_ap, sAsg_ap, sPar_ap, sRet_ap, sIf_ap, sExpr_ap, sNext_ap, bnd_ap, ret_ap, bindR_ok, thenR_ok, dVar_ap, varR_ok, seqR_nx, seqR_rt, asgR_ok, gNm_ap, gCn_ap, gcnR_ok, gNl_ap, gTp_fr, gTp_ap, gLs_ap, dCons_ap, dNil_ap, asB_ap, dOr_ap, dAnd_ap, dNot_ap, dAndV_ap, dOrV_ap, dNotV_ap, dIf_ap, oAdd_int, oSub_int, oLt_int, oLe_int, oGt_int, oGe_int, oNeg_int, oEq_int, oNe_int, oEq_fr, oNe_fr, oEq_bl, oNe_bl, oTup_ap, oLst_ap, oCall_ap, oAbs_ap, oMax_ap, oMin_ap, oToInt_b, oToInt_i, oLen_lst, oLen_scr, oLen_tup, oIx_lst, oIx_scr, oAdd_lst, oIx_tup, oIx_fr0, oIx_fr1, ixR_ok, oItL_ap, oItT_ap, sFor_ap, startD, List.map_cons, List.map_nil, List.length_cons, List.length_nil, List.replicate_succ, List.replicate_zero, List.cons_append, List.nil_append, List.append_nil, List.getElem?_cons_zero, List.getElem?_cons_succ, List.set_cons_zero, List.set_cons_succ, Nat.reduceAdd, Nat.reduceSub, Nat.sub_self, Nat.reduceLeDiff, List.all_cons, List.all_nil, np_fr, np_int, np_bl, np_tup, np_lst, np_str, np_non, Bool.and_self, Bool.and_true, if_true_, if_false_, zero_add', if_tt, if_ff, decide_true, decide_false, Nat.le_refl, oItS_lst, oItS_tup, oTupOf_lst, oTupOf_tup, oLstOf_lst, oLstOf_tup, oRv_lst, oRv_tup, oAdd_tup, dChain_ap, asTru_bl, asTru_tup, asTru_lst, oIsN_ap, oNotN_ap, asI_ap, oSl_tup, oSl_lst, oZip_tup, oZip_lst, oAddI_ap, oEqS_ap, oNeS_ap, oNe_nil, e1, lu, lo, d1, d2, n1, n2, e]
    rw [st, ofR_nx]
    exact e'
theorem ne_water (ρ : Env) (M : Mem) : oNe (.lst [.str (Str.ofString "water")]) (.lst [.str (Str.ofString "water")]) ρ M = some (.ok (.bl false), M) := by
  have h : D.pl (.lst [.str (Str.ofString "water")]) = true ∧ D.pl (.lst [.str (Str.ofString "water")]) = true ∧ SeqAt.shaped (toPy (.lst [.str (Str.ofString "water")])) = true ∧ SeqAt.shaped (toPy (.lst [.str (Str.ofString "water")])) = true := by decide +kernel
  unfold oNe
  rw [if_pos h]
  have e : PyData.eqv (toPy (.lst [.str (Str.ofString "water")])) (toPy (.lst [.str (Str.ofString "water")])) = true := by decide +kernel
  rw [e]; rfl
theorem odd_loop {S o1 o2 o3 o4 o5 o7 o8 o9 o11 o12 o13 o14 o15 o16 o17 : Option D} {f : Rat} {U : Int} {B : List (Rat × Rat)} (h : Big f U B) (M : Mem) : ∀ (ws : List Rat) (o10 : Option D), (∀ w ∈ ws, Bd 60 w ∧ (w < 0 ∨ sumW B < w)) →
    ∃ p10, forF (gNm 10) den_law_L3 (ws.map frQ) [S, o1, o2, o3, o4, o5, some (.tup (B.map lyQ)), o7, o8, o9, o10, o11, o12, o13, o14, o15, o16, o17] M = some (.nx [S, o1, o2, o3, o4, o5, some (.tup (B.map lyQ)), o7, o8, o9, p10, o11, o12, o13, o14, o15, o16, o17], M)
  | [], o10, _ => ⟨o10, rfl⟩
  | w :: ws, o10, hw => by
    have h1 := hw w (by simp)
    have t0 : F__law_told [.int 0, .tup (B.map lyQ), frQ w] M = _ := told_no false h (h1.1.mono (by decide)) h1.2 M
    have t1 : F__law_told [.int 1, .tup (B.map lyQ), frQ w] M = _ := told_no true h (h1.1.mono (by decide)) h1.2 M
    obtain ⟨p10, e⟩ := odd_loop (S := S) (o1 := o1) (o2 := o2) (o3 := o3) (o4 := o4) (o5 := o5) (o7 := o7) (o8 := o8) (o9 := o9) (o11 := o11) (o12 := o12) (o13 := o13) (o14 := o14) (o15 := o15) (o16 := o16) (o17 := o17) h M ws (some (frQ w)) fun y hy => hw y (by simp [hy])
    refine ⟨p10, ?_⟩
    have st : den_law_L3 [S, o1, o2, o3, o4, o5, some (.tup (B.map lyQ)), o7, o8, o9, some (frQ w), o11, o12, o13, o14, o15, o16, o17] M = some (.nx [S, o1, o2, o3, o4, o5, some (.tup (B.map lyQ)), o7, o8, o9, some (frQ w), o11, o12, o13, o14, o15, o16, o17], M) := by
      simp -implicitDefEqProofs only [den_law_L3, sSeq_ap, sAsg_ap, sPar_ap, sRet_ap, sIf_ap, sExpr_ap, sNext_ap, bnd_ap, ret_ap, bindR_ok, thenR_ok, dVar_ap, varR_ok, seqR_nx, seqR_rt, asgR_ok, gNm_ap, gCn_ap, gcnR_ok, gNl_ap, gTp_fr, gTp_ap, gLs_ap, dCons_ap, dNil_ap, asB_ap, dOr_ap, dAnd_ap, dNot_ap, dAndV_ap, dOrV_ap, dNotV_ap, dIf_ap, oAdd_int, oSub_int, oLt_int, oLe_int, oGt_int, oGe_int, oNeg_int, oEq_int, oNe_int, oEq_fr, oNe_fr, oEq_bl, oNe_bl, oTup_ap, oLst_ap, oCall_ap, oAbs_ap, oMax_ap, oMin_ap, oToInt_b, oToInt_i, oLen_lst, oLen_scr, oLen_tup, oIx_lst, oIx_scr, oAdd_lst, oIx_tup, oIx_fr0, oIx_fr1, ixR_ok, oItL_ap, oItT_ap, sFor_ap, startD, List.map_cons, List.map_nil, List.length_cons, List.length_nil, List.replicate_succ, List.replicate_zero, List.cons_append, List.nil_append, List.append_nil, List.getElem?_cons_zero, List.getElem?_cons_succ, List.set_cons_zero, List.set_cons_succ, Nat.reduceAdd, Nat.reduceSub, Nat.sub_self, Nat.reduceLeDiff, List.all_cons, List.all_nil, np_fr, np_int, np_bl, np_tup, np_lst, np_str, np_non, Bool.and_self, Bool.and_true, if_true_, if_false_, zero_add', if_tt, if_ff, decide_true, decide_false, Nat.le_refl, oItS_lst, oItS_tup, oTupOf_lst, oTupOf_tup, oLstOf_lst, oLstOf_tup, oRv_lst, oRv_tup, oAdd_tup, dChain_ap, asTru_bl, asTru_tup, asTru_lst, oIsN_ap, oNotN_ap, asI_ap, oSl_tup, oSl_lst, oZip_tup, oZip_lst, oAddI_ap, oEqS_ap, oNeS_ap, oNe_nil, t0, t1, ne_water, Bool.false_eq_true]
    rw [List.map_cons, forF_cons, gNm_ap, forB_ok]
    simp -implicitDefEqProofs only [List.set_cons_zero, List.set_cons_succ]
    rw [st, ofR_nx, e]
theorem law_cell {S o1 o2 : Option D} (k : Nat) (hk : k < 64) (cell : Int) (o5 o6 o7 o8 o9 o10 o11 o12 o13 o14 o15 o16 o17 : Option D) (M : Mem) : ∃ p1 p5 p6 p7 p8 p9 p10 p11 p12 p13 p14 p15 p16 p17 M', den_law_L4 [S, o1, o2, some (.int (k : Int)), some (.int cell), o5, o6, o7, o8, o9, o10, o11, o12, o13, o14, o15, o16, o17] M = some (.nx [S, p1, o2, some (.int (k : Int)), some (.int cell), p5, p6, p7, p8, p9, p10, p11, p12, p13, p14, p15, p16, p17], M') := by
  obtain ⟨M1, e1, len1, _, r1⟩ := pot_eq cell k hk M
  obtain ⟨f, u, P, M2, e2, hC, t2⟩ := case_eq (far := decide ((k : Int) = 1)) r1 (by decide)
  have hu := hC.un
  have lP := hC.pa.ln
  have e3 := brine_eq hC.un P (by omega) M2
  have bg := brQ_big hC
  have nn : ∀ p ∈ P, 0 ≤ p.1 := fun p hp => (hC.pa.ly p hp).w
  have t0 : 0 ≤ sW P := by have := (sW_sub nn P.length).1; rw [List.take_length] at this; exact this
  have tw := hC.pa.w
  obtain ⟨p7, p14, p15, p16, M3, e4, t4⟩ := law_turns (S := S) (o1 := o1) (o2 := o2) (o3 := some (.int (k : Int))) (o4 := some (.int cell)) (o8 := o8) (o9 := o9) (o10 := o10) (o17 := o17) hC [0, 1, 2] 300 M2 o7 o14 o15 o16 (by simpa using t2.has) (by decide)
  have wo := water_big bg M3
  have n1 := times_eq (x := Rat.divInt 1 1000) (y := Rat.divInt 1 997) ⟨by decide +kernel, by decide +kernel⟩ ⟨by decide +kernel, by decide +kernel⟩ M3
  have f1 : D.tup [.int 1, .int 1000] = frQ (Rat.divInt 1 1000) := rfl
  have f2 : D.tup [.int 1, .int 997] = frQ (Rat.divInt 1 997) := rfl
  have f4 : D.tup [.int (10 ^ 6), .int 1] = frQ ((10 ^ 6 : Int) : Rat) := rfl
  have f6 : D.tup [.int (0 - 10 ^ 6), .int 1] = frQ ((0 - 10 ^ 6 : Int) : Rat) := rfl
  have f5 : D.tup [.int (-1), .int u] = frQ (Rat.divInt (-1) u) := by
    have : Rat.divInt (-1) u = (⟨-1, u.toNat, by omega, by simp [Nat.Coprime]⟩ : Rat) := by
      have h1 := Rat.num_divInt_den (⟨-1, u.toNat, by omega, by simp [Nat.Coprime]⟩ : Rat)
      have h2 : ((u.toNat : Nat) : Int) = u := Int.toNat_of_nonneg (by omega)
      rw [← h1]
      show Rat.divInt (-1) u = Rat.divInt (-1) ((u.toNat : Nat) : Int)
      rw [h2]
    rw [this]
    show _ = D.tup [.int (-1), .int ((u.toNat : Nat) : Int)]
    rw [Int.toNat_of_nonneg (by omega)]
  have nq : Rat.divInt 1 1000 * Rat.divInt 1 997 = nearQ := rfl
  rw [nq] at n1
  have l1 := less_eq (x := 0) (y := nearQ) bd_z (near_bd.mono (by decide)) M3
  have lo := low_eq (t := sW P + 1) (b := u) (by omega) (small_lt _ (by omega) (by omega)) M3
  have gs := bg.sumBd
  have pl := plus_eq (gs.mono (n := 4000) (by decide)) (near_bd.mono (n := 4000) (by decide)) M3
  have lw := oLc_en (en := iP) (b := gTp 2 (gCn (gNm 14) (gCn (gNm 17) gNl))) (tt := ret true) (te := dVar 14) (ρ := [S, o1, o2, some (.int (k : Int)), some (.int cell), some (.ptr M.length), some (.tup ((brQ u P).map lyQ)), p7, o8, o9, o10, some (frQ f), some (.int u), some (.lst (P.map iP)), p14, p15, p16, o17]) (vs := [14, 17]) (p := fun _ => true) (g := fun p => D.int p.1) (l := P) (M := M3) (fun p _ => ⟨[S, o1, o2, some (.int (k : Int)), some (.int cell), some (.ptr M.length), some (.tup ((brQ u P).map lyQ)), p7, o8, o9, o10, some (frQ f), some (.int u), some (.lst (P.map iP)), some (.int p.1), p15, p16, some (.int p.2)], rfl, fun M' _ => rfl, fun _ => ⟨rfl, fun M' _ => rfl⟩⟩) (by omega)
  rw [filter_true] at lw
  have ou : ∀ ρ M, oSum [.lst (P.map fun p => D.int p.1)] ρ M = some (.ok (.int (sW P)), M) := fun ρ M => oSum_int P (·.1) ρ M
  have rg : ∀ ρ M, oRng1 [.int 3] ρ M = some (.ok ([0, 1, 2].map D.int), M) := fun ρ M => rfl
  obtain ⟨p10, e5⟩ := odd_loop (S := S) (o1 := some (.lst ([Rat.divInt (-1) u, Rat.divInt (sW P + 1) u, ((10 ^ 6 : Int) : Rat), ((0 - 10 ^ 6 : Int) : Rat)].map frQ))) (o2 := o2) (o3 := some (.int (k : Int))) (o4 := some (.int cell)) (o5 := some (.ptr M.length)) (o7 := p7) (o8 := some (.int (sW P))) (o9 := some (frQ nearQ)) (o11 := some (frQ f)) (o12 := some (.int u)) (o13 := some (.lst (P.map iP))) (o14 := p14) (o15 := p15) (o16 := p16) (o17 := o17) bg M3 _ o10 (odds hC)
  refine ⟨some (.lst ([Rat.divInt (-1) u, Rat.divInt (sW P + 1) u, ((10 ^ 6 : Int) : Rat), ((0 - 10 ^ 6 : Int) : Rat)].map frQ)), some (.ptr M.length), some (.tup ((brQ u P).map lyQ)), p7, some (.int (sW P)), some (frQ nearQ), p10, some (frQ f), some (.int u), some (.lst (P.map iP)), p14, p15, p16, o17, M3, ?_⟩
  unfold den_law_L4
  rw [seq_step (ρ1 := [S, o1, o2, some (.int (k : Int)), some (.int cell), some (.ptr M.length), o6, o7, o8, o9, o10, o11, o12, o13, o14, o15, o16, o17]) (M1 := M1) (by simp -implicitDefEqProofs only [sSeq_ap, sAsg_ap, sPar_ap, sRet_ap, sIf_ap, sExpr_ap, sNext_ap, bnd_ap, ret_ap, bindR_ok, thenR_ok, dVar_ap, varR_ok, seqR_nx, seqR_rt, asgR_ok, gNm_ap, gCn_ap, gcnR_ok, gNl_ap, gTp_fr, gTp_ap, gLs_ap, dCons_ap, dNil_ap, asB_ap, dOr_ap, dAnd_ap, dNot_ap, dAndV_ap, dOrV_ap, dNotV_ap, dIf_ap, oAdd_int, oSub_int, oLt_int, oLe_int, oGt_int, oGe_int, oNeg_int, oEq_int, oNe_int, oEq_fr, oNe_fr, oEq_bl, oNe_bl, oTup_ap, oLst_ap, oCall_ap, oAbs_ap, oMax_ap, oMin_ap, oToInt_b, oToInt_i, oLen_lst, oLen_scr, oLen_tup, oIx_lst, oIx_scr, oAdd_lst, oIx_tup, oIx_fr0, oIx_fr1, ixR_ok, oItL_ap, oItT_ap, sFor_ap, startD, List.map_cons, List.map_nil, List.length_cons, List.length_nil, List.replicate_succ, List.replicate_zero, List.cons_append, List.nil_append, List.append_nil, List.getElem?_cons_zero, List.getElem?_cons_succ, List.set_cons_zero, List.set_cons_succ, Nat.reduceAdd, Nat.reduceSub, Nat.sub_self, Nat.reduceLeDiff, List.all_cons, List.all_nil, np_fr, np_int, np_bl, np_tup, np_lst, np_str, np_non, Bool.and_self, Bool.and_true, if_true_, if_false_, zero_add', if_tt, if_ff, decide_true, decide_false, Nat.le_refl, oItS_lst, oItS_tup, oTupOf_lst, oTupOf_tup, oLstOf_lst, oLstOf_tup, oRv_lst, oRv_tup, oAdd_tup, dChain_ap, asTru_bl, asTru_tup, asTru_lst, oIsN_ap, oNotN_ap, asI_ap, oSl_tup, oSl_lst, oZip_tup, oZip_lst, oAddI_ap, oEqS_ap, oNeS_ap, oNe_nil, e1])]
  rw [seq_step (ρ1 := [S, o1, o2, some (.int (k : Int)), some (.int cell), some (.ptr M.length), o6, o7, o8, o9, o10, some (frQ f), some (.int u), some (.lst (P.map iP)), o14, o15, o16, o17]) (M1 := M2) (by simp -implicitDefEqProofs only [sSeq_ap, sAsg_ap, sPar_ap, sRet_ap, sIf_ap, sExpr_ap, sNext_ap, bnd_ap, ret_ap, bindR_ok, thenR_ok, dVar_ap, varR_ok, seqR_nx, seqR_rt, asgR_ok, gNm_ap, gCn_ap, gcnR_ok, gNl_ap, gTp_fr, gTp_ap, gLs_ap, dCons_ap, dNil_ap, asB_ap, dOr_ap, dAnd_ap, dNot_ap, dAndV_ap, dOrV_ap, dNotV_ap, dIf_ap, oAdd_int, oSub_int, oLt_int, oLe_int, oGt_int, oGe_int, oNeg_int, oEq_int, oNe_int, oEq_fr, oNe_fr, oEq_bl, oNe_bl, oTup_ap, oLst_ap, oCall_ap, oAbs_ap, oMax_ap, oMin_ap, oToInt_b, oToInt_i, oLen_lst, oLen_scr, oLen_tup, oIx_lst, oIx_scr, oAdd_lst, oIx_tup, oIx_fr0, oIx_fr1, ixR_ok, oItL_ap, oItT_ap, sFor_ap, startD, List.map_cons, List.map_nil, List.length_cons, List.length_nil, List.replicate_succ, List.replicate_zero, List.cons_append, List.nil_append, List.append_nil, List.getElem?_cons_zero, List.getElem?_cons_succ, List.set_cons_zero, List.set_cons_succ, Nat.reduceAdd, Nat.reduceSub, Nat.sub_self, Nat.reduceLeDiff, List.all_cons, List.all_nil, np_fr, np_int, np_bl, np_tup, np_lst, np_str, np_non, Bool.and_self, Bool.and_true, if_true_, if_false_, zero_add', if_tt, if_ff, decide_true, decide_false, Nat.le_refl, oItS_lst, oItS_tup, oTupOf_lst, oTupOf_tup, oLstOf_lst, oLstOf_tup, oRv_lst, oRv_tup, oAdd_tup, dChain_ap, asTru_bl, asTru_tup, asTru_lst, oIsN_ap, oNotN_ap, asI_ap, oSl_tup, oSl_lst, oZip_tup, oZip_lst, oAddI_ap, oEqS_ap, oNeS_ap, oNe_nil, e2])]
  rw [seq_step (ρ1 := [S, o1, o2, some (.int (k : Int)), some (.int cell), some (.ptr M.length), some (.tup ((brQ u P).map lyQ)), o7, o8, o9, o10, some (frQ f), some (.int u), some (.lst (P.map iP)), o14, o15, o16, o17]) (M1 := M2) (by simp -implicitDefEqProofs only [sSeq_ap, sAsg_ap, sPar_ap, sRet_ap, sIf_ap, sExpr_ap, sNext_ap, bnd_ap, ret_ap, bindR_ok, thenR_ok, dVar_ap, varR_ok, seqR_nx, seqR_rt, asgR_ok, gNm_ap, gCn_ap, gcnR_ok, gNl_ap, gTp_fr, gTp_ap, gLs_ap, dCons_ap, dNil_ap, asB_ap, dOr_ap, dAnd_ap, dNot_ap, dAndV_ap, dOrV_ap, dNotV_ap, dIf_ap, oAdd_int, oSub_int, oLt_int, oLe_int, oGt_int, oGe_int, oNeg_int, oEq_int, oNe_int, oEq_fr, oNe_fr, oEq_bl, oNe_bl, oTup_ap, oLst_ap, oCall_ap, oAbs_ap, oMax_ap, oMin_ap, oToInt_b, oToInt_i, oLen_lst, oLen_scr, oLen_tup, oIx_lst, oIx_scr, oAdd_lst, oIx_tup, oIx_fr0, oIx_fr1, ixR_ok, oItL_ap, oItT_ap, sFor_ap, startD, List.map_cons, List.map_nil, List.length_cons, List.length_nil, List.replicate_succ, List.replicate_zero, List.cons_append, List.nil_append, List.append_nil, List.getElem?_cons_zero, List.getElem?_cons_succ, List.set_cons_zero, List.set_cons_succ, Nat.reduceAdd, Nat.reduceSub, Nat.sub_self, Nat.reduceLeDiff, List.all_cons, List.all_nil, np_fr, np_int, np_bl, np_tup, np_lst, np_str, np_non, Bool.and_self, Bool.and_true, if_true_, if_false_, zero_add', if_tt, if_ff, decide_true, decide_false, Nat.le_refl, oItS_lst, oItS_tup, oTupOf_lst, oTupOf_tup, oLstOf_lst, oLstOf_tup, oRv_lst, oRv_tup, oAdd_tup, dChain_ap, asTru_bl, asTru_tup, asTru_lst, oIsN_ap, oNotN_ap, asI_ap, oSl_tup, oSl_lst, oZip_tup, oZip_lst, oAddI_ap, oEqS_ap, oNeS_ap, oNe_nil, e3])]
  simp -implicitDefEqProofs only [List.map_cons, List.map_nil] at e4 rg
  rw [seq_step (ρ1 := [S, o1, o2, some (.int (k : Int)), some (.int cell), some (.ptr M.length), some (.tup ((brQ u P).map lyQ)), p7, o8, o9, o10, some (frQ f), some (.int u), some (.lst (P.map iP)), p14, p15, p16, o17]) (M1 := M3) (by simp -implicitDefEqProofs only [sSeq_ap, sAsg_ap, sPar_ap, sRet_ap, sIf_ap, sExpr_ap, sNext_ap, bnd_ap, ret_ap, bindR_ok, thenR_ok, dVar_ap, varR_ok, seqR_nx, seqR_rt, asgR_ok, gNm_ap, gCn_ap, gcnR_ok, gNl_ap, gTp_fr, gTp_ap, gLs_ap, dCons_ap, dNil_ap, asB_ap, dOr_ap, dAnd_ap, dNot_ap, dAndV_ap, dOrV_ap, dNotV_ap, dIf_ap, oAdd_int, oSub_int, oLt_int, oLe_int, oGt_int, oGe_int, oNeg_int, oEq_int, oNe_int, oEq_fr, oNe_fr, oEq_bl, oNe_bl, oTup_ap, oLst_ap, oCall_ap, oAbs_ap, oMax_ap, oMin_ap, oToInt_b, oToInt_i, oLen_lst, oLen_scr, oLen_tup, oIx_lst, oIx_scr, oAdd_lst, oIx_tup, oIx_fr0, oIx_fr1, ixR_ok, oItL_ap, oItT_ap, sFor_ap, startD, List.map_cons, List.map_nil, List.length_cons, List.length_nil, List.replicate_succ, List.replicate_zero, List.cons_append, List.nil_append, List.append_nil, List.getElem?_cons_zero, List.getElem?_cons_succ, List.set_cons_zero, List.set_cons_succ, Nat.reduceAdd, Nat.reduceSub, Nat.sub_self, Nat.reduceLeDiff, List.all_cons, List.all_nil, np_fr, np_int, np_bl, np_tup, np_lst, np_str, np_non, Bool.and_self, Bool.and_true, if_true_, if_false_, zero_add', if_tt, if_ff, decide_true, decide_false, Nat.le_refl, oItS_lst, oItS_tup, oTupOf_lst, oTupOf_tup, oLstOf_lst, oLstOf_tup, oRv_lst, oRv_tup, oAdd_tup, dChain_ap, asTru_bl, asTru_tup, asTru_lst, oIsN_ap, oNotN_ap, asI_ap, oSl_tup, oSl_lst, oZip_tup, oZip_lst, oAddI_ap, oEqS_ap, oNeS_ap, oNe_nil, rg, e4])]
  rw [seq_step (ρ1 := [S, o1, o2, some (.int (k : Int)), some (.int cell), some (.ptr M.length), some (.tup ((brQ u P).map lyQ)), p7, some (.int (sW P)), o9, o10, some (frQ f), some (.int u), some (.lst (P.map iP)), p14, p15, p16, o17]) (M1 := M3) (by simp -implicitDefEqProofs only [sSeq_ap, sAsg_ap, sPar_ap, sRet_ap, sIf_ap, sExpr_ap, sNext_ap, bnd_ap, ret_ap, bindR_ok, thenR_ok, dVar_ap, varR_ok, seqR_nx, seqR_rt, asgR_ok, gNm_ap, gCn_ap, gcnR_ok, gNl_ap, gTp_fr, gTp_ap, gLs_ap, dCons_ap, dNil_ap, asB_ap, dOr_ap, dAnd_ap, dNot_ap, dAndV_ap, dOrV_ap, dNotV_ap, dIf_ap, oAdd_int, oSub_int, oLt_int, oLe_int, oGt_int, oGe_int, oNeg_int, oEq_int, oNe_int, oEq_fr, oNe_fr, oEq_bl, oNe_bl, oTup_ap, oLst_ap, oCall_ap, oAbs_ap, oMax_ap, oMin_ap, oToInt_b, oToInt_i, oLen_lst, oLen_scr, oLen_tup, oIx_lst, oIx_scr, oAdd_lst, oIx_tup, oIx_fr0, oIx_fr1, ixR_ok, oItL_ap, oItT_ap, sFor_ap, startD, List.map_cons, List.map_nil, List.length_cons, List.length_nil, List.replicate_succ, List.replicate_zero, List.cons_append, List.nil_append, List.append_nil, List.getElem?_cons_zero, List.getElem?_cons_succ, List.set_cons_zero, List.set_cons_succ, Nat.reduceAdd, Nat.reduceSub, Nat.sub_self, Nat.reduceLeDiff, List.all_cons, List.all_nil, np_fr, np_int, np_bl, np_tup, np_lst, np_str, np_non, Bool.and_self, Bool.and_true, if_true_, if_false_, zero_add', if_tt, if_ff, decide_true, decide_false, Nat.le_refl, oItS_lst, oItS_tup, oTupOf_lst, oTupOf_tup, oLstOf_lst, oLstOf_tup, oRv_lst, oRv_tup, oAdd_tup, dChain_ap, asTru_bl, asTru_tup, asTru_lst, oIsN_ap, oNotN_ap, asI_ap, oSl_tup, oSl_lst, oZip_tup, oZip_lst, oAddI_ap, oEqS_ap, oNeS_ap, oNe_nil, lw, ou])]
  rw [seq_step (ρ1 := [S, o1, o2, some (.int (k : Int)), some (.int cell), some (.ptr M.length), some (.tup ((brQ u P).map lyQ)), p7, some (.int (sW P)), some (frQ nearQ), o10, some (frQ f), some (.int u), some (.lst (P.map iP)), p14, p15, p16, o17]) (M1 := M3) (by simp -implicitDefEqProofs only [sSeq_ap, sAsg_ap, sPar_ap, sRet_ap, sIf_ap, sExpr_ap, sNext_ap, bnd_ap, ret_ap, bindR_ok, thenR_ok, dVar_ap, varR_ok, seqR_nx, seqR_rt, asgR_ok, gNm_ap, gCn_ap, gcnR_ok, gNl_ap, gTp_fr, gTp_ap, gLs_ap, dCons_ap, dNil_ap, asB_ap, dOr_ap, dAnd_ap, dNot_ap, dAndV_ap, dOrV_ap, dNotV_ap, dIf_ap, oAdd_int, oSub_int, oLt_int, oLe_int, oGt_int, oGe_int, oNeg_int, oEq_int, oNe_int, oEq_fr, oNe_fr, oEq_bl, oNe_bl, oTup_ap, oLst_ap, oCall_ap, oAbs_ap, oMax_ap, oMin_ap, oToInt_b, oToInt_i, oLen_lst, oLen_scr, oLen_tup, oIx_lst, oIx_scr, oAdd_lst, oIx_tup, oIx_fr0, oIx_fr1, ixR_ok, oItL_ap, oItT_ap, sFor_ap, startD, List.map_cons, List.map_nil, List.length_cons, List.length_nil, List.replicate_succ, List.replicate_zero, List.cons_append, List.nil_append, List.append_nil, List.getElem?_cons_zero, List.getElem?_cons_succ, List.set_cons_zero, List.set_cons_succ, Nat.reduceAdd, Nat.reduceSub, Nat.sub_self, Nat.reduceLeDiff, List.all_cons, List.all_nil, np_fr, np_int, np_bl, np_tup, np_lst, np_str, np_non, Bool.and_self, Bool.and_true, if_true_, if_false_, zero_add', if_tt, if_ff, decide_true, decide_false, Nat.le_refl, oItS_lst, oItS_tup, oTupOf_lst, oTupOf_tup, oLstOf_lst, oLstOf_tup, oRv_lst, oRv_tup, oAdd_tup, dChain_ap, asTru_bl, asTru_tup, asTru_lst, oIsN_ap, oNotN_ap, asI_ap, oSl_tup, oSl_lst, oZip_tup, oZip_lst, oAddI_ap, oEqS_ap, oNeS_ap, oNe_nil, f1, f2, n1])]
  rw [seq_step (ρ1 := [S, some (.lst ([Rat.divInt (-1) u, Rat.divInt (sW P + 1) u, ((10 ^ 6 : Int) : Rat), ((0 - 10 ^ 6 : Int) : Rat)].map frQ)), o2, some (.int (k : Int)), some (.int cell), some (.ptr M.length), some (.tup ((brQ u P).map lyQ)), p7, some (.int (sW P)), some (frQ nearQ), o10, some (frQ f), some (.int u), some (.lst (P.map iP)), p14, p15, p16, o17]) (M1 := M3) (by simp -implicitDefEqProofs only [sSeq_ap, sAsg_ap, sPar_ap, sRet_ap, sIf_ap, sExpr_ap, sNext_ap, bnd_ap, ret_ap, bindR_ok, thenR_ok, dVar_ap, varR_ok, seqR_nx, seqR_rt, asgR_ok, gNm_ap, gCn_ap, gcnR_ok, gNl_ap, gTp_fr, gTp_ap, gLs_ap, dCons_ap, dNil_ap, asB_ap, dOr_ap, dAnd_ap, dNot_ap, dAndV_ap, dOrV_ap, dNotV_ap, dIf_ap, oAdd_int, oSub_int, oLt_int, oLe_int, oGt_int, oGe_int, oNeg_int, oEq_int, oNe_int, oEq_fr, oNe_fr, oEq_bl, oNe_bl, oTup_ap, oLst_ap, oCall_ap, oAbs_ap, oMax_ap, oMin_ap, oToInt_b, oToInt_i, oLen_lst, oLen_scr, oLen_tup, oIx_lst, oIx_scr, oAdd_lst, oIx_tup, oIx_fr0, oIx_fr1, ixR_ok, oItL_ap, oItT_ap, sFor_ap, startD, List.map_cons, List.map_nil, List.length_cons, List.length_nil, List.replicate_succ, List.replicate_zero, List.cons_append, List.nil_append, List.append_nil, List.getElem?_cons_zero, List.getElem?_cons_succ, List.set_cons_zero, List.set_cons_succ, Nat.reduceAdd, Nat.reduceSub, Nat.sub_self, Nat.reduceLeDiff, List.all_cons, List.all_nil, np_fr, np_int, np_bl, np_tup, np_lst, np_str, np_non, Bool.and_self, Bool.and_true, if_true_, if_false_, zero_add', if_tt, if_ff, decide_true, decide_false, Nat.le_refl, oItS_lst, oItS_tup, oTupOf_lst, oTupOf_tup, oLstOf_lst, oLstOf_tup, oRv_lst, oRv_tup, oAdd_tup, dChain_ap, asTru_bl, asTru_tup, asTru_lst, oIsN_ap, oNotN_ap, asI_ap, oSl_tup, oSl_lst, oZip_tup, oZip_lst, oAddI_ap, oEqS_ap, oNeS_ap, oNe_nil, f5, lo, pow10_6, f4, f6])]
  simp -implicitDefEqProofs only [List.map_cons, List.map_nil] at e5 ⊢
  simp -implicitDefEqProofs only [sSeq_ap, sAsg_ap, sPar_ap, sRet_ap, sIf_ap, sExpr_ap, sNext_ap, bnd_ap, ret_ap, bindR_ok, thenR_ok, dVar_ap, varR_ok, seqR_nx, seqR_rt, asgR_ok, gNm_ap, gCn_ap, gcnR_ok, gNl_ap, gTp_fr, gTp_ap, gLs_ap, dCons_ap, dNil_ap, asB_ap, dOr_ap, dAnd_ap, dNot_ap, dAndV_ap, dOrV_ap, dNotV_ap, dIf_ap, oAdd_int, oSub_int, oLt_int, oLe_int, oGt_int, oGe_int, oNeg_int, oEq_int, oNe_int, oEq_fr, oNe_fr, oEq_bl, oNe_bl, oTup_ap, oLst_ap, oCall_ap, oAbs_ap, oMax_ap, oMin_ap, oToInt_b, oToInt_i, oLen_lst, oLen_scr, oLen_tup, oIx_lst, oIx_scr, oAdd_lst, oIx_tup, oIx_fr0, oIx_fr1, ixR_ok, oItL_ap, oItT_ap, sFor_ap, startD, List.map_cons, List.map_nil, List.length_cons, List.length_nil, List.replicate_succ, List.replicate_zero, List.cons_append, List.nil_append, List.append_nil, List.getElem?_cons_zero, List.getElem?_cons_succ, List.set_cons_zero, List.set_cons_succ, Nat.reduceAdd, Nat.reduceSub, Nat.sub_self, Nat.reduceLeDiff, List.all_cons, List.all_nil, np_fr, np_int, np_bl, np_tup, np_lst, np_str, np_non, Bool.and_self, Bool.and_true, if_true_, if_false_, zero_add', if_tt, if_ff, decide_true, decide_false, Nat.le_refl, oItS_lst, oItS_tup, oTupOf_lst, oTupOf_tup, oLstOf_lst, oLstOf_tup, oRv_lst, oRv_tup, oAdd_tup, dChain_ap, asTru_bl, asTru_tup, asTru_lst, oIsN_ap, oNotN_ap, asI_ap, oSl_tup, oSl_lst, oZip_tup, oZip_lst, oAddI_ap, oEqS_ap, oNeS_ap, oNe_nil, zero_fr, l1, wo, pl, e5]
theorem law_loop {S o2 : Option D} : ∀ (cs : List Int) (i : Nat) (M : Mem) (o1 o3 o4 o5 o6 o7 o8 o9 o10 o11 o12 o13 o14 o15 o16 o17 : Option D), i + cs.length ≤ 64 → ∃ p1 p3 p4 p5 p6 p7 p8 p9 p10 p11 p12 p13 p14 p15 p16 p17 M', forF (gTp 2 (gCn (gNm 3) (gCn (gNm 4) gNl))) den_law_L4 (enumFrom i (cs.map D.int)) [S, o1, o2, o3, o4, o5, o6, o7, o8, o9, o10, o11, o12, o13, o14, o15, o16, o17] M = some (.nx [S, p1, o2, p3, p4, p5, p6, p7, p8, p9, p10, p11, p12, p13, p14, p15, p16, p17], M')
  | [], i, M, o1, o3, o4, o5, o6, o7, o8, o9, o10, o11, o12, o13, o14, o15, o16, o17, _ => ⟨_, _, _, _, _, _, _, _, _, _, _, _, _, _, _, _, M, rfl⟩
  | c :: cs, i, M, o1, o3, o4, o5, o6, o7, o8, o9, o10, o11, o12, o13, o14, o15, o16, o17, h => by
    rw [List.length_cons] at h
    obtain ⟨p1, p5, p6, p7, p8, p9, p10, p11, p12, p13, p14, p15, p16, p17, M1, e1⟩ := law_cell (S := S) (o1 := o1) (o2 := o2) i (by omega) c o5 o6 o7 o8 o9 o10 o11 o12 o13 o14 o15 o16 o17 M
    obtain ⟨q1, q3, q4, q5, q6, q7, q8, q9, q10, q11, q12, q13, q14, q15, q16, q17, M2, e2⟩ := law_loop (S := S) (o2 := o2) cs (i + 1) M1 p1 (some (.int (i : Int))) (some (.int c)) p5 p6 p7 p8 p9 p10 p11 p12 p13 p14 p15 p16 p17 (by omega)
    refine ⟨q1, q3, q4, q5, q6, q7, q8, q9, q10, q11, q12, q13, q14, q15, q16, q17, M2, ?_⟩
    rw [List.map_cons, enumFrom, forF_cons]
    simp -implicitDefEqProofs only [sSeq_ap, sAsg_ap, sPar_ap, sRet_ap, sIf_ap, sExpr_ap, sNext_ap, bnd_ap, ret_ap, bindR_ok, thenR_ok, dVar_ap, varR_ok, seqR_nx, seqR_rt, asgR_ok, gNm_ap, gCn_ap, gcnR_ok, gNl_ap, gTp_fr, gTp_ap, gLs_ap, dCons_ap, dNil_ap, asB_ap, dOr_ap, dAnd_ap, dNot_ap, dAndV_ap, dOrV_ap, dNotV_ap, dIf_ap, oAdd_int, oSub_int, oLt_int, oLe_int, oGt_int, oGe_int, oNeg_int, oEq_int, oNe_int, oEq_fr, oNe_fr, oEq_bl, oNe_bl, oTup_ap, oLst_ap, oCall_ap, oAbs_ap, oMax_ap, oMin_ap, oToInt_b, oToInt_i, oLen_lst, oLen_scr, oLen_tup, oIx_lst, oIx_scr, oAdd_lst, oIx_tup, oIx_fr0, oIx_fr1, ixR_ok, oItL_ap, oItT_ap, sFor_ap, startD, List.map_cons, List.map_nil, List.length_cons, List.length_nil, List.replicate_succ, List.replicate_zero, List.cons_append, List.nil_append, List.append_nil, List.getElem?_cons_zero, List.getElem?_cons_succ, List.set_cons_zero, List.set_cons_succ, Nat.reduceAdd, Nat.reduceSub, Nat.sub_self, Nat.reduceLeDiff, List.all_cons, List.all_nil, np_fr, np_int, np_bl, np_tup, np_lst, np_str, np_non, Bool.and_self, Bool.and_true, if_true_, if_false_, zero_add', if_tt, if_ff, decide_true, decide_false, Nat.le_refl, oItS_lst, oItS_tup, oTupOf_lst, oTupOf_tup, oLstOf_lst, oLstOf_tup, oRv_lst, oRv_tup, oAdd_tup, dChain_ap, asTru_bl, asTru_tup, asTru_lst, oIsN_ap, oNotN_ap, asI_ap, oSl_tup, oSl_lst, oZip_tup, oZip_lst, oAddI_ap, oEqS_ap, oNeS_ap, oNe_nil, forB_ok, e1, ofR_nx, e2]
def bK : List (Rat × Rat) := [(0, 5), (2, 2), (1, 0)]
theorem bK_big : Big 1 2 bK := by
  refine ⟨fun x hx => ?_, fun x hx => ?_, fun x hx => ?_, by decide, by decide +kernel, by decide⟩
  all_goals
    simp -implicitDefEqProofs only [bK, List.mem_cons, List.not_mem_nil, or_false] at hx
  · rcases hx with rfl | rfl | rfl
    · exact ⟨by decide, by decide, fun _ => by decide, fun z => absurd z (by decide)⟩
    · exact ⟨by decide, by decide, fun z => absurd z (by decide), fun _ => by decide +kernel⟩
    · exact ⟨by decide, by decide, fun z => absurd z (by decide), fun _ => by decide +kernel⟩
  · rcases hx with rfl | rfl | rfl <;> exact ⟨⟨by decide, by decide⟩, ⟨by decide, by decide⟩⟩
  · rcases hx with rfl | rfl | rfl
    · exact gu_zero
    · exact ⟨4, by decide +kernel⟩
    · exact ⟨2, by decide +kernel⟩
theorem bK_taken : tkT false bK (Rat.divInt 5 2) = [(2, 2), (Rat.divInt 1 2, 0)] ∧ tkL false bK (Rat.divInt 5 2) = [(0, 5), (Rat.divInt 1 2, 0)] := by decide +kernel
theorem bK_drawn (M : Mem) : F_drawn [.tup (bK.map lyQ), frQ (Rat.divInt 5 2)] M = some (.ok (.tup [.tup ([(2, 2), (Rat.divInt 1 2, 0)].map lyQ), .tup ([(0, 5), (Rat.divInt 1 2, 0)].map lyQ)]), M) := by
  have e := drawn_big bK_big (w := Rat.divInt 5 2) ⟨5, by decide +kernel⟩ (by decide +kernel) (by decide +kernel) M
  rw [bK_taken.1, bK_taken.2] at e
  exact e
theorem lay_lys (X : List (Rat × Rat)) : (toPy (.tup (X.map lyQ))).canLay0 = true ∧ (toPy (.tup (X.map lyQ))).depth ≤ 60 := by
  have h : ∀ d ∈ X.map lyQ, (toPy d).canLay0 = true ∧ (toPy d).depth ≤ 3 := fun d hd => by
    obtain ⟨x, _, rfl⟩ := List.mem_map.mp hd
    exact ⟨rfl, by simp [lyQ, frQ, toPy, toPys, PyData.depth, PyData.depthAll]⟩
  have h1 : ∀ ds : List D, (∀ d ∈ ds, (toPy d).canLay0 = true ∧ (toPy d).depth ≤ 3) → PyData.canLayAll0 (toPys ds) = true := by
    intro ds
    induction ds with
    | nil => intro _; rfl
    | cons d ds ih =>
      intro h
      simp -implicitDefEqProofs only [toPys, PyData.canLayAll0]
      rw [(h d (by simp)).1, ih fun e he => h e (by simp [he])]
      rfl
  have h2 := dpL_of (k := 3) fun d hd => (h d hd).2
  refine ⟨?_, ?_⟩
  · show PyData.canLay0 (.tuple (toPys (X.map lyQ))) = true
    simp -implicitDefEqProofs only [PyData.canLay0]
    exact h1 _ h
  · show PyData.depth (.tuple (toPys (X.map lyQ))) ≤ 60
    simp -implicitDefEqProofs only [PyData.depth]
    omega
theorem eq_pair (X Y : List (Rat × Rat)) (ρ : Env) (M : Mem) : oEq (.tup [.tup (X.map lyQ), .tup (Y.map lyQ)]) (.tup [.tup (X.map lyQ), .tup (Y.map lyQ)]) ρ M = some (.ok (.bl true), M) := by
  have sh : SeqAt.shaped (toPy (.tup [.tup (X.map lyQ), .tup (Y.map lyQ)])) = true := (shaped_row (ds := [.tup (X.map lyQ), .tup (Y.map lyQ)]) (by
    intro d hd
    simp at hd
    rcases hd with rfl | rfl
    · exact lay_lys X
    · exact lay_lys Y)).2
  have pl : D.pl (.tup [.tup (X.map lyQ), .tup (Y.map lyQ)]) = true := plL_of (by
    intro d hd
    simp at hd
    rcases hd with rfl | rfl
    · exact plL_lys X
    · exact plL_lys Y)
  unfold oEq
  rw [if_pos ⟨pl, pl, sh, sh⟩]
  show some (Res.ok (D.bl (PyData.eqvAll (toPys (X.map lyQ)) (toPys (X.map lyQ)) && (PyData.eqvAll (toPys (Y.map lyQ)) (toPys (Y.map lyQ)) && true))), M) = _
  rw [eqv_lys, eqv_lys, decide_eq_true rfl, decide_eq_true rfl]
  rfl
theorem law_den (ns : List Int) : ∃ M', den_law (startD ["script", "some", "left", "place", "cell", "pot", "brine", "turn", "total", "near", "odd", "full", "unit", "parts", "water", "due", "which", "salt"] [.scr (ns.map D.int)]) [] = some (.rt (.bl true), M') := by
  obtain ⟨es, e1, l1⟩ := folded_eq ns (m := 14) (by decide) []
  have e1' : F__law_folded [.scr (ns.map D.int), .int 14] [] = some (.ok (.ptr 0), [some (es.map D.int)]) := e1
  obtain ⟨p1, p3, p4, p5, p6, p7, p8, p9, p10, p11, p12, p13, p14, p15, p16, p17, M', e⟩ := law_loop (S := some (.scr (ns.map D.int))) (o2 := none) (0 :: es) 0 [some (es.map D.int)] none none none none none none none none none none none none none none none none (by simp; omega)
  refine ⟨M', ?_⟩
  have al := fun ρ => oAddL_lp (a := [.int 0]) (n := 0) ρ (M := [some (es.map D.int)]) rfl (by simp; omega)
  rw [List.map_cons] at e
  have dk := bK_drawn M'
  have ek := fun ρ => eq_pair [(2, 2), (Rat.divInt 1 2, 0)] [(0, 5), (Rat.divInt 1 2, 0)] ρ M'
  have a0 : D.tup [.tup [.int 0, .int 1], .tup [.int 5, .int 1]] = lyQ (0, 5) := rfl
  have a1 : D.tup [.tup [.int 2, .int 1], .tup [.int 2, .int 1]] = lyQ (2, 2) := rfl
  have a2 : D.tup [.tup [.int 1, .int 1], .tup [.int 0, .int 1]] = lyQ (1, 0) := rfl
  have a3 : D.tup [.tup [.int 1, .int 2], .tup [.int 0, .int 1]] = lyQ (Rat.divInt 1 2, 0) := rfl
  have a4 : D.tup [.int 5, .int 2] = frQ (Rat.divInt 5 2) := rfl
  have dk' : F_drawn [.tup [lyQ (0, 5), lyQ (2, 2), lyQ (1, 0)], frQ (Rat.divInt 5 2)] M' = _ := dk
  simp -implicitDefEqProofs only [List.map_cons, List.map_nil] at dk' ek
  unfold den_law
  simp -implicitDefEqProofs only [sSeq_ap, sAsg_ap, sPar_ap, sRet_ap, sIf_ap, sExpr_ap, sNext_ap, bnd_ap, ret_ap, bindR_ok, thenR_ok, dVar_ap, varR_ok, seqR_nx, seqR_rt, asgR_ok, gNm_ap, gCn_ap, gcnR_ok, gNl_ap, gTp_fr, gTp_ap, gLs_ap, dCons_ap, dNil_ap, asB_ap, dOr_ap, dAnd_ap, dNot_ap, dAndV_ap, dOrV_ap, dNotV_ap, dIf_ap, oAdd_int, oSub_int, oLt_int, oLe_int, oGt_int, oGe_int, oNeg_int, oEq_int, oNe_int, oEq_fr, oNe_fr, oEq_bl, oNe_bl, oTup_ap, oLst_ap, oCall_ap, oAbs_ap, oMax_ap, oMin_ap, oToInt_b, oToInt_i, oLen_lst, oLen_scr, oLen_tup, oIx_lst, oIx_scr, oAdd_lst, oIx_tup, oIx_fr0, oIx_fr1, ixR_ok, oItL_ap, oItT_ap, sFor_ap, startD, List.map_cons, List.map_nil, List.length_cons, List.length_nil, List.replicate_succ, List.replicate_zero, List.cons_append, List.nil_append, List.append_nil, List.getElem?_cons_zero, List.getElem?_cons_succ, List.set_cons_zero, List.set_cons_succ, Nat.reduceAdd, Nat.reduceSub, Nat.sub_self, Nat.reduceLeDiff, List.all_cons, List.all_nil, np_fr, np_int, np_bl, np_tup, np_lst, np_str, np_non, Bool.and_self, Bool.and_true, if_true_, if_false_, zero_add', if_tt, if_ff, decide_true, decide_false, Nat.le_refl, oItS_lst, oItS_tup, oTupOf_lst, oTupOf_tup, oLstOf_lst, oLstOf_tup, oRv_lst, oRv_tup, oAdd_tup, dChain_ap, asTru_bl, asTru_tup, asTru_lst, oIsN_ap, oNotN_ap, asI_ap, oSl_tup, oSl_lst, oZip_tup, oZip_lst, oAddI_ap, oEqS_ap, oNeS_ap, oNe_nil, e1', al, oEnum_lst, e, a0, a1, a2, a3, a4, np_ly, dk', ek]
theorem law_true : ∀ ns : List Int, ns.length ≤ 63 → ∃ M', F_law [.scr (ns.map D.int)] [] = some (.ok (.bl true), M') := by
  intro ns _
  obtain ⟨M', e⟩ := law_den ns
  exact ⟨_, runF_rt e (Nat.zero_le _) rfl⟩
end Bw
open PySem PySem.W PyProof.Rows
set_option maxRecDepth 100000 in
set_option maxHeartbeats 0 in
theorem PySem.Challenge.cw_brineways_k17_drawn_and_skimmed_holds : PySem.Challenge.rw_brineways_k17_drawn_and_skimmed.Holds := by
  w_on; o_law; k_head; (case hw => w_witness2)
  k_fill
  refine Bw.walkG (l := PySem.Challenge.rw_brineways_k17_drawn_and_skimmed) (n := 63) (k := 9) (x := "script") (sp := fun w => Bw.spL _ 1 Bw.F_law) rfl (by decide) rfl ⟨rfl, by decide, by decide⟩ (fun w h Y => by first | exact PySem.W.kIn_of Y | exact PySem.W.km_in_of Y) ?F (fun _ _ a ns hl hS => Bw.law_start hl hS Bw.law_true)
  case F =>
    intro w mg fa h KX G hmg
    refine' Bw.law_end KX G hmg ?a0 ?l0 ?c0 ?k0 ?a1 ?l1 ?c1 ?k1 ?a2 ?l2 ?c2 ?k2 ?a3 ?l3 ?c3 ?k3 ?a4 ?l4 ?c4 ?k4 ?a5 ?l5 ?c5 ?k5 ?a6 ?l6 ?c6 ?k6 ?a7 ?l7 ?c7 ?k7 ?a8 ?l8 ?c8 ?k8 ?a9 ?l9 ?c9 ?k9 ?a10 ?l10 ?c10 ?k10 ?a11 ?l11 ?c11 ?k11 ?a12 ?l12 ?c12 ?k12 ?a13 ?l13 ?c13 ?k13 ?a14 ?l14 ?c14 ?k14 ?a15 ?l15 ?c15 ?k15 ?a16 ?l16 ?c16 ?k16 ?a17 ?l17 ?c17 ?k17 ?a18 ?l18 ?c18 ?k18 ?a19 ?l19 ?c19 ?k19 ?a20 ?l20 ?c20 ?k20 ?a21 ?l21 ?c21 ?k21 ?a22 ?l22 ?c22 ?k22 ?a23 ?l23 ?c23 ?k23 ?a24 ?l24 ?c24 ?k24 ?a25 ?l25 ?c25 ?k25 ?a26 ?l26 ?c26 ?k26 ?a27 ?l27 ?c27 ?k27 ?a28 ?l28 ?c28 ?k28 ?a29 ?l29 ?c29 ?k29 ?a30 ?l30 ?c30 ?k30 ?a31 ?l31 ?c31 ?k31 ?a32 ?l32 ?c32 ?k32 ?a33 ?l33 ?c33 ?k33 ?a34 ?l34 ?c34 ?k34 ?a35 ?l35 ?c35 ?k35 ?a36 ?l36 ?c36 ?k36 ?a37 ?l37 ?c37 ?k37 ?a38 ?l38 ?c38 ?k38 ?a39 ?l39 ?c39 ?k39 ?a40 ?l40 ?c40 ?k40 ?z_ValueError ?z_abs ?z_enumerate ?z_isinstance ?z_len ?z_list ?z_max ?z_min ?z_range ?z_repr ?z_sum ?z_tuple ?m_NOUGHT ?l_NOUGHT ?n_NoWater ?n_NoFraction ?n_NoStrength ?n_NoBrine ?n_NoYear ?n_NoMoment ?n_Weaker ?n_NoRoom ?n_NoPan ?n_NoLot ?n_NoGate ?n_NoDeed ?n_NoLater ?n_NoLine ?n_NoPlan ?n_NoText ?n_BrineError ?hg_NoWater ?hk_NoWater ?hd_NoWater ?ha_NoWater ?hm_NoWater ?hn_ ?ht_ ?b_BrineError ?t_BrineError ?b_NoFraction ?t_NoFraction ?b_NoWater ?t_NoWater ?q_NoWater ?k_NoWater ?q_NoFraction ?k_NoFraction ?hd_BrineError ?s_NoWater_BrineError ?s_NoWater_NoWater ?hd_NoStrength ?t_NoStrength ?s_NoWater_NoStrength ?hd_NoBrine ?t_NoBrine ?s_NoWater_NoBrine ?hd_NoFraction ?s_NoWater_NoFraction ?hd_NoYear ?t_NoYear ?s_NoWater_NoYear ?hd_NoMoment ?t_NoMoment ?s_NoWater_NoMoment ?hd_Weaker ?t_Weaker ?s_NoWater_Weaker ?hd_NoRoom ?t_NoRoom ?s_NoWater_NoRoom ?hd_NoPan ?t_NoPan ?s_NoWater_NoPan ?hd_NoLot ?t_NoLot ?s_NoWater_NoLot ?hd_NoGate ?t_NoGate ?s_NoWater_NoGate ?hd_NoDeed ?t_NoDeed ?s_NoWater_NoDeed ?hd_NoLater ?t_NoLater ?s_NoWater_NoLater ?hd_NoLine ?t_NoLine ?s_NoWater_NoLine ?hd_NoPlan ?t_NoPlan ?s_NoWater_NoPlan ?hd_NoText ?t_NoText ?s_NoWater_NoText ?s_NoWater_ValueError
    (case a0 => k_is)
    (case l0 => k_is)
    (case c0 => k_is)
    (case k0 => k_is)
    (case a1 => k_is)
    (case l1 => k_is)
    (case c1 => k_is)
    (case k1 => k_is)
    (case a2 => k_is)
    (case l2 => k_is)
    (case c2 => k_is)
    (case k2 => k_is)
    (case a3 => k_is)
    (case l3 => k_is)
    (case c3 => k_is)
    (case k3 => k_is)
    (case a4 => k_is)
    (case l4 => k_is)
    (case c4 => k_is)
    (case k4 => k_is)
    (case a5 => k_is)
    (case l5 => k_is)
    (case c5 => k_is)
    (case k5 => k_is)
    (case a6 => k_is)
    (case l6 => k_is)
    (case c6 => k_is)
    (case k6 => k_is)
    (case a7 => k_is)
    (case l7 => k_is)
    (case c7 => k_is)
    (case k7 => k_is)
    (case a8 => k_is)
    (case l8 => k_is)
    (case c8 => k_is)
    (case k8 => k_is)
    (case a9 => k_is)
    (case l9 => k_is)
    (case c9 => k_is)
    (case k9 => k_is)
    (case a10 => k_is)
    (case l10 => k_is)
    (case c10 => k_is)
    (case k10 => k_is)
    (case a11 => k_is)
    (case l11 => k_is)
    (case c11 => k_is)
    (case k11 => k_is)
    (case a12 => k_is)
    (case l12 => k_is)
    (case c12 => k_is)
    (case k12 => k_is)
    (case a13 => k_is)
    (case l13 => k_is)
    (case c13 => k_is)
    (case k13 => k_is)
    (case a14 => k_is)
    (case l14 => k_is)
    (case c14 => k_is)
    (case k14 => k_is)
    (case a15 => k_is)
    (case l15 => k_is)
    (case c15 => k_is)
    (case k15 => k_is)
    (case a16 => k_is)
    (case l16 => k_is)
    (case c16 => k_is)
    (case k16 => k_is)
    (case a17 => k_is)
    (case l17 => k_is)
    (case c17 => k_is)
    (case k17 => k_is)
    (case a18 => k_is)
    (case l18 => k_is)
    (case c18 => k_is)
    (case k18 => k_is)
    (case a19 => k_is)
    (case l19 => k_is)
    (case c19 => k_is)
    (case k19 => k_is)
    (case a20 => k_is)
    (case l20 => k_is)
    (case c20 => k_is)
    (case k20 => k_is)
    (case a21 => k_is)
    (case l21 => k_is)
    (case c21 => k_is)
    (case k21 => k_is)
    (case a22 => k_is)
    (case l22 => k_is)
    (case c22 => k_is)
    (case k22 => k_is)
    (case a23 => k_is)
    (case l23 => k_is)
    (case c23 => k_is)
    (case k23 => k_is)
    (case a24 => k_is)
    (case l24 => k_is)
    (case c24 => k_is)
    (case k24 => k_is)
    (case a25 => k_is)
    (case l25 => k_is)
    (case c25 => k_is)
    (case k25 => k_is)
    (case a26 => k_is)
    (case l26 => k_is)
    (case c26 => k_is)
    (case k26 => k_is)
    (case a27 => k_is)
    (case l27 => k_is)
    (case c27 => k_is)
    (case k27 => k_is)
    (case a28 => k_is)
    (case l28 => k_is)
    (case c28 => k_is)
    (case k28 => k_is)
    (case a29 => k_is)
    (case l29 => k_is)
    (case c29 => k_is)
    (case k29 => k_is)
    (case a30 => k_is)
    (case l30 => k_is)
    (case c30 => k_is)
    (case k30 => k_is)
    (case a31 => k_is)
    (case l31 => k_is)
    (case c31 => k_is)
    (case k31 => k_is)
    (case a32 => k_is)
    (case l32 => k_is)
    (case c32 => k_is)
    (case k32 => k_is)
    (case a33 => k_is)
    (case l33 => k_is)
    (case c33 => k_is)
    (case k33 => k_is)
    (case a34 => k_is)
    (case l34 => k_is)
    (case c34 => k_is)
    (case k34 => k_is)
    (case a35 => k_is)
    (case l35 => k_is)
    (case c35 => k_is)
    (case k35 => k_is)
    (case a36 => k_is)
    (case l36 => k_is)
    (case c36 => k_is)
    (case k36 => k_is)
    (case a37 => k_is)
    (case l37 => k_is)
    (case c37 => k_is)
    (case k37 => k_is)
    (case a38 => k_is)
    (case l38 => k_is)
    (case c38 => k_is)
    (case k38 => k_is)
    (case a39 => k_is)
    (case l39 => k_is)
    (case c39 => k_is)
    (case k39 => k_is)
    (case a40 => k_is)
    (case l40 => k_is)
    (case c40 => k_is)
    (case k40 => k_is)
    (case z_ValueError => k_is)
    (case z_abs => k_is)
    (case z_enumerate => k_is)
    (case z_isinstance => k_is)
    (case z_len => k_is)
    (case z_list => k_is)
    (case z_max => k_is)
    (case z_min => k_is)
    (case z_range => k_is)
    (case z_repr => k_is)
    (case z_sum => k_is)
    (case z_tuple => k_is)
    (case m_NOUGHT => k_is)
    (case l_NOUGHT => k_is)
    (case n_NoWater => k_is)
    (case n_NoFraction => k_is)
    (case n_NoStrength => k_is)
    (case n_NoBrine => k_is)
    (case n_NoYear => k_is)
    (case n_NoMoment => k_is)
    (case n_Weaker => k_is)
    (case n_NoRoom => k_is)
    (case n_NoPan => k_is)
    (case n_NoLot => k_is)
    (case n_NoGate => k_is)
    (case n_NoDeed => k_is)
    (case n_NoLater => k_is)
    (case n_NoLine => k_is)
    (case n_NoPlan => k_is)
    (case n_NoText => k_is)
    (case n_BrineError => k_is)
    (case hg_NoWater => k_is)
    (case hk_NoWater => k_is)
    (case hd_NoWater => k_is)
    (case ha_NoWater => k_is)
    (case hm_NoWater => k_is)
    (case hn_ => k_is)
    (case ht_ => k_is)
    (case b_BrineError => k_is)
    (case t_BrineError => k_is)
    (case b_NoFraction => k_is)
    (case t_NoFraction => k_is)
    (case b_NoWater => k_is)
    (case t_NoWater => k_is)
    (case q_NoWater => k_exc)
    (case k_NoWater => k_is)
    (case q_NoFraction => k_exc)
    (case k_NoFraction => k_is)
    (case hd_BrineError => k_is)
    (case s_NoWater_BrineError => k_is)
    (case s_NoWater_NoWater => k_is)
    (case hd_NoStrength => k_is)
    (case t_NoStrength => k_is)
    (case s_NoWater_NoStrength => k_is)
    (case hd_NoBrine => k_is)
    (case t_NoBrine => k_is)
    (case s_NoWater_NoBrine => k_is)
    (case hd_NoFraction => k_is)
    (case s_NoWater_NoFraction => k_is)
    (case hd_NoYear => k_is)
    (case t_NoYear => k_is)
    (case s_NoWater_NoYear => k_is)
    (case hd_NoMoment => k_is)
    (case t_NoMoment => k_is)
    (case s_NoWater_NoMoment => k_is)
    (case hd_Weaker => k_is)
    (case t_Weaker => k_is)
    (case s_NoWater_Weaker => k_is)
    (case hd_NoRoom => k_is)
    (case t_NoRoom => k_is)
    (case s_NoWater_NoRoom => k_is)
    (case hd_NoPan => k_is)
    (case t_NoPan => k_is)
    (case s_NoWater_NoPan => k_is)
    (case hd_NoLot => k_is)
    (case t_NoLot => k_is)
    (case s_NoWater_NoLot => k_is)
    (case hd_NoGate => k_is)
    (case t_NoGate => k_is)
    (case s_NoWater_NoGate => k_is)
    (case hd_NoDeed => k_is)
    (case t_NoDeed => k_is)
    (case s_NoWater_NoDeed => k_is)
    (case hd_NoLater => k_is)
    (case t_NoLater => k_is)
    (case s_NoWater_NoLater => k_is)
    (case hd_NoLine => k_is)
    (case t_NoLine => k_is)
    (case s_NoWater_NoLine => k_is)
    (case hd_NoPlan => k_is)
    (case t_NoPlan => k_is)
    (case s_NoWater_NoPlan => k_is)
    (case hd_NoText => k_is)
    (case t_NoText => k_is)
    (case s_NoWater_NoText => k_is)
    (case s_NoWater_ValueError => k_is)
