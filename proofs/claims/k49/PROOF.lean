import PyProof.Rows.All
import Wide.All
import OpenK.AllK
import Wide.FinOn
import HandS.Iter
import KE.KeyNested
import PyProof.DictRoadsH
import HandS.ForMost
import HandS.ForExc
import HandS.Wide
import HandS.TupAny
import HandS.SetFor
import HandS.ExcIs
import HandS.IsInst
import HandS.RaiseMore
import HandS.Style
import HandS.Zip
import HandS.Deep
import PyProof.Rows.ReprR
import KE.GoesNew
import KE.GoesEnum
import HandS.TupMul
import HandS.More
import KE.KRevSl
import HandS.Conv
import HandS.Strs
import HandS.TupSets
import HandS.Remove
import HandS.CallLocal
import HandS.WrittenGet
import HandS.HeadHook3
import PySem.Challenge.RW_brineways_k49_deeds_judged
set_option Elab.async false
set_option linter.all false
set_option maxRecDepth 100000
/-! dicts whose keys are None, ints and tuples of ints, together -/
namespace Bw
open PySem PySem.Spec PyProof.Rows L2
abbrev NK := PySem.NestedKey
/-- the keys that are served -/
inductive KyIs (h : Heap) : NK → Value → Prop
  | non : KyIs h .none .none
  | int (i : Int) (t : Tok) : KyIs h (.num i) (.int i t)
  | tup {is : List Int} {a : Addr} (n : NestedIs h (.tup (is.map .num)) (.ref a)) : KyIs h (.tup (is.map .num)) (.ref a)
/-- the hash, without the world -/
def hN : NK → Int
  | .none => reduceHash 0xFCA86420
  | .num i => hashInt i
  | .text _ => 0
  | .tup ks => reduceHash (Builtin.Tuple.tupleHashOf (ks.map fun k => match k with | .num i => hashInt i | _ => 0))
theorem hashes_nums (w : World) : ∀ is : List Int, NestedKey.hashes w (is.map .num) = (is.map NestedKey.num).map (fun k => match k with | .num i => hashInt i | _ => 0)
  | [] => rfl
  | i :: is => by
    rw [List.map_cons, NestedKey.hashes, NestedKey.hash, hashes_nums w is]
    rfl
section
variable {h h' : Heap} {k k2 : NK} {v : Value}
theorem KyIs.nest (x : KyIs h k v) : NestedIs h k v := by
  cases x with
  | non => exact .none
  | int i t => exact .int i t
  | tup n => exact n
theorem KyIs.hash (x : KyIs h k v) (w : World) : k.hash w = hN k := by
  cases x with
  | non => rw [NestedKey.hash]; rfl
  | int i t => rw [NestedKey.hash]; rfl
  | tup n => rw [NestedKey.hash, hashes_nums]; rfl
theorem KyIs.inj (x : KyIs h k v) (y : KyIs h k2 v) : k = k2 := NestedIs.inj _ _ _ x.nest y.nest
theorem KyIs.stay (x : KyIs h k v) (q : ∀ b o vs n, h.get? b = some o → o.data = .seq vs n → h'.get? b = some o) : KyIs h' k v := by
  cases x with
  | non => exact .non
  | int i t => exact .int i t
  | tup n => exact .tup (NestedIs.at q _ _ n)
end
abbrev R3 := List (NK × Value × Value)
def ent3 (x : NK × Value × Value) : DictEntry := ⟨hN x.1, x.2.1, x.2.2⟩
def look3 (xs : R3) (k : NK) : Option (Value × Value) := (xs.find? fun x => decide (x.1 = k)).map (·.2)
def put3 (xs : R3) (k : NK) (kv v : Value) : R3 := if (look3 xs k).isSome = true then xs.map (fun x => if x.1 = k then (x.1, x.2.1, v) else x) else xs ++ [(k, kv, v)]
/-- the dict at d -/
def Dic3 (h : Heap) (d : Addr) (xs : R3) : Prop := ∃ o es ep, h.get? d = some o ∧ o.ExactDict ∧ o.data = .dict es ep ∧ es.toList = xs.map ent3 ∧ (xs.map (·.1)).Nodup
theorem ent3_at {es : Array DictEntry} {xs : R3} (q : es.toList = xs.map ent3) (j : Nat) : es[j]? = (xs[j]?).map ent3 := by rw [← Array.getElem?_toList, q, List.getElem?_map]
theorem ent3_size {es : Array DictEntry} {xs : R3} (q : es.toList = xs.map ent3) : es.size = xs.length := by rw [← Array.length_toList, q, List.length_map]
theorem Dic3.ty {s : Shared} {d : Addr} {xs : R3} (m : Dic3 s.heap d xs) : s.TypeIs (.ref d) "dict" := by
  obtain ⟨o, _, _, g, c, _⟩ := m
  exact ⟨o, g, c.1⟩
section
variable {P : Program} {w : World} {A : Around} {E : Value → Shared → Prop} {s : Shared}
end
end Bw
namespace Bw
open PySem PySem.Spec PyProof.Rows L2
/-- which places have the hash -/
def hp3 (es : Array DictEntry) (k : NK) (i : Nat) : Bool := (es[i]?.map (·.hash)) == some (hN k)
/-- none of the first i is the key -/
def No3 (xs : R3) (k : NK) (i : Nat) : Prop := ∀ j p, j < i → xs[j]? ≠ some (k, p)
section
variable {P : Program} {w : World} {A : Around} {E : Value → Shared → Prop} {s : Shared} {es : Array DictEntry} {xs : R3} {k : NK}
theorem hp3_of (q : es.toList = xs.map ent3) {j : Nat} {p : Value × Value} (e : xs[j]? = some (k, p)) : hp3 es k j = true := by
  unfold hp3
  rw [ent3_at q j, e]
  simp [ent3]
theorem No3.skip (q : es.toList = xs.map ent3) {i x : Nat} (a : No3 xs k i) (sk : ∀ j, i ≤ j → j < x → hp3 es k j = false) : No3 xs k x := fun j p hj e => by
  rcases Nat.lt_or_ge j i with z | z
  · exact a j p z e
  · have := sk j z hj
    rw [hp3_of q e] at this
    cases this
theorem No3.next {x : Nat} {k2 : NK} {p2 : Value × Value} (a : No3 xs k x) (e2 : xs[x]? = some (k2, p2)) (ne : ¬ k2 = k) : No3 xs k (x + 1) := fun j p hj e => by
  rcases Nat.lt_or_ge j x with z | z
  · exact a j p z e
  · have : j = x := by omega
    subst this
    rw [e2] at e
    injection e with e
    injection e with e
    exact ne e
theorem No3.all (q : es.toList = xs.map ent3) {i : Nat} (a : No3 xs k i) (hr : [] = (List.range' i (es.size - i)).filter (hp3 es k)) (j : Nat) (p : Value × Value) : xs[j]? ≠ some (k, p) := fun e => by
  have hj : j < es.size := by
    rw [ent3_size q]
    rcases Nat.lt_or_ge j xs.length with z | z
    · exact z
    · rw [List.getElem?_eq_none z] at e; cases e
  rcases Nat.lt_or_ge j i with z | z
  · exact a j p z e
  · have := List.filter_eq_nil_iff.mp hr.symm j (List.mem_range'_1.mpr ⟨z, by omega⟩)
    rw [hp3_of q e] at this
    exact this rfl
end
end Bw
namespace Bw
open PySem PySem.Spec PyProof.Rows L2
section
variable {P : Program} {w : World} {A : Around} {E : Value → Shared → Prop} {s : Shared} {xs : R3} {k : NK} {d : Addr} {key : Value}
end
end Bw
/-! data-level readings -/
namespace Bw
open PySem PySem.Spec PyProof.Rows L2
inductive D where
  | non | bl (b : Bool) | int (i : Int) | str (z : Str) | tup (ds : List D) | lst (ds : List D) | ptr (n : Nat) | exv (x : Str) | scr (ds : List D) | emp | dpt (n : Nat) | npt (n : Nat)
/-- what stands at a numbered address: a list, a dict -/
inductive Kd where
  | lst | dic | nst
abbrev Th := Addr × Kd
abbrev Mem := List (Option (List D))
abbrev Env := List (Option D)
inductive Rp (K : PySem.W.Frag) (G : Hp) : V → D → Prop
  | non : Rp K G .non .non
  | bl (b : Bool) : Rp K G (.bl b) (.bl b)
  | int (i : Int) : Rp K G (.int i) (.int i)
  | str (z : Str) : Rp K G (.str z) (.str z)
  | tup {a : Addr} {xs : List V} {ds : List D} (h : SqT K G a xs) (l : xs.length = ds.length) (e : ∀ (i : Nat) (v : V) (d : D), xs[i]? = some v → ds[i]? = some d → Rp K G v d) : Rp K G (.ref a) (.tup ds)
  | emp {a : Addr} (h : G a = some (.dK [])) : Rp K G (.ref a) .emp
  | scr {a : Addr} {xs : List V} {ds : List D} (h : SqL K G a xs) (l : xs.length = ds.length) (e : ∀ (i : Nat) (v : V) (d : D), xs[i]? = some v → ds[i]? = some d → Rp K G v d) : Rp K G (.ref a) (.scr ds)
  | lst {a : Addr} {xs : List V} {ds : List D} (h : G a = some (.lst xs)) (l : xs.length = ds.length) (e : ∀ (i : Nat) (v : V) (d : D), xs[i]? = some v → ds[i]? = some d → Rp K G v d) : Rp K G (.ref a) (.lst ds)
theorem seqT {K : PySem.W.Frag} {H H' : Hp} {a : Addr} {xs : List V} (e : Same H H') (h : SqT K H a xs) : SqT K H' a xs := by
  rcases h with (h | ⟨o, h⟩) | h
  · exact .inl (.inl (e _ _ h))
  · exact .inl (.inr ⟨o, e _ _ h⟩)
  · exact .inr h
theorem Rp.mono {K : PySem.W.Frag} {G G' : Hp} (s : Same G G') {v : V} {d : D} (h : Rp K G v d) : Rp K G' v d := by
  induction h with
  | non => exact .non
  | bl b => exact .bl b
  | int i => exact .int i
  | str z => exact .str z
  | tup h l e ih => exact .tup (seqT s h) l ih
  | lst h l e ih => exact .lst (s _ _ h) l ih
  | scr h l e ih => exact .scr (s.seq h) l ih
  | emp h => exact .emp (s _ _ h)
/-- lists of values and data -/
structure RpL (K : PySem.W.Frag) (G : Hp) (xs : List V) (ds : List D) : Prop where
  len : xs.length = ds.length
  get : ∀ (i : Nat) (v : V) (d : D), xs[i]? = some v → ds[i]? = some d → Rp K G v d
theorem RpL.mono {K : PySem.W.Frag} {G G' : Hp} (s : Same G G') {xs : List V} {ds : List D} (h : RpL K G xs ds) : RpL K G' xs ds := ⟨h.len, fun i v d a b => (h.get i v d a b).mono s⟩
theorem RpL.nil {K : PySem.W.Frag} {G : Hp} : RpL K G [] [] := ⟨rfl, fun i v d h => by simp at h⟩
theorem RpL.cons {K : PySem.W.Frag} {G : Hp} {v : V} {d : D} {xs : List V} {ds : List D} (h : Rp K G v d) (r : RpL K G xs ds) : RpL K G (v :: xs) (d :: ds) := by
  refine ⟨by simp [r.len], fun i w e h1 h2 => ?_⟩
  cases i with
  | zero => simp at h1 h2; subst h1; subst h2; exact h
  | succ i => exact r.get i w e (by simpa using h1) (by simpa using h2)
theorem RpL.uncons {K : PySem.W.Frag} {G : Hp} {xs : List V} {d : D} {ds : List D} (r : RpL K G xs (d :: ds)) : ∃ v ys, xs = v :: ys ∧ Rp K G v d ∧ RpL K G ys ds := by
  cases xs with
  | nil => exact absurd r.len (by simp)
  | cons v ys => exact ⟨v, ys, rfl, r.get 0 v d rfl rfl, by have := r.len; simpa using this, fun i w e h1 h2 => r.get (i + 1) w e (by simpa using h1) (by simpa using h2)⟩
theorem RpL.nil_of {K : PySem.W.Frag} {G : Hp} {xs : List V} (r : RpL K G xs []) : xs = [] := by
  cases xs with
  | nil => rfl
  | cons v ys => exact absurd r.len (by simp)
theorem RpL.append {K : PySem.W.Frag} {G : Hp} {xs ys : List V} {ds es : List D} (h : RpL K G xs ds) (r : RpL K G ys es) : RpL K G (xs ++ ys) (ds ++ es) := by
  refine ⟨by simp [h.len, r.len], fun i w e h1 h2 => ?_⟩
  by_cases hi : i < xs.length
  · rw [List.getElem?_append_left hi] at h1
    rw [List.getElem?_append_left (by rw [← h.len]; exact hi)] at h2
    exact h.get i w e h1 h2
  · rw [List.getElem?_append_right (by omega)] at h1
    rw [List.getElem?_append_right (by rw [← h.len]; omega), ← h.len] at h2
    exact r.get _ w e h1 h2
theorem RpL.at {K : PySem.W.Frag} {G : Hp} {xs : List V} {ds : List D} (r : RpL K G xs ds) {i : Nat} {d : D} (h : ds[i]? = some d) : ∃ v, xs[i]? = some v ∧ Rp K G v d := by
  have hi : i < ds.length := by
    rcases Nat.lt_or_ge i ds.length with q | q
    · exact q
    · rw [List.getElem?_eq_none q] at h; cases h
  have hx : i < xs.length := by rw [r.len]; exact hi
  exact ⟨xs[i], List.getElem?_eq_getElem hx, r.get i _ d (List.getElem?_eq_getElem hx) h⟩
theorem RpL.set {K : PySem.W.Frag} {G : Hp} {xs : List V} {ds : List D} (r : RpL K G xs ds) {j : Nat} {v : V} {d : D} (h : Rp K G v d) : RpL K G (xs.set j v) (ds.set j d) := by
  refine ⟨by simp [r.len], fun i w e h1 h2 => ?_⟩
  by_cases hj : j = i
  · subst hj
    rw [List.getElem?_set_self'] at h1 h2
    cases e1 : xs[j]? with
    | none => rw [e1] at h1; cases h1
    | some a =>
      cases e2 : ds[j]? with
      | none => rw [e2] at h2; cases h2
      | some b =>
        rw [e1] at h1; rw [e2] at h2
        simp at h1 h2; subst h1; subst h2; exact h
  · rw [List.getElem?_set_ne hj] at h1 h2
    exact r.get i w e h1 h2
/-- at a an error of the class cls, without a dict of its own -/
def ExQ (cls : Value) (a : Addr) : HO := .ext fun h => ∃ (oe : Obj) (vs : Array Value), h.get? a = some oe ∧ Zc cls none oe ∧ oe.data = .fields vs
/-- a value: data, or a mutable list by its number, or an error by its class's name -/
inductive Rv (K : PySem.W.Frag) (θ : List Th) (G : Hp) : V → D → Prop
  | dat {v : V} {d : D} (h : Rp K G v d) : Rv K θ G v d
  | ptr {n : Nat} {a : Addr} (h : θ[n]? = some (a, .lst)) : Rv K θ G (.ref a) (.ptr n)
  | dpt {n : Nat} {a : Addr} (h : θ[n]? = some (a, .dic)) : Rv K θ G (.ref a) (.dpt n)
  | npt {n : Nat} {a : Addr} (h : θ[n]? = some (a, .nst)) : Rv K θ G (.ref a) (.npt n)
  | exv {x : Str} {a C : Addr} (hn : PySem.W.nsIn K mainGlobals x = some (some (.ref C))) (h : G a = some (ExQ (.ref C) a)) : Rv K θ G (.ref a) (.exv x)
theorem pre_get {θ θ' : List Th} (p : θ <+: θ') {n : Nat} {a : Th} (h : θ[n]? = some a) : θ'[n]? = some a := by
  obtain ⟨r, rfl⟩ := p
  have hn : n < θ.length := by
    rcases Nat.lt_or_ge n θ.length with q | q
    · exact q
    · rw [List.getElem?_eq_none q] at h; cases h
  rw [List.getElem?_append_left hn]; exact h
theorem Rv.mono {K : PySem.W.Frag} {θ θ' : List Th} {G G' : Hp} (p : θ <+: θ') (s : Same G G') {v : V} {d : D} (h : Rv K θ G v d) : Rv K θ' G' v d := by
  cases h with
  | dat h => exact .dat (h.mono s)
  | ptr h => exact .ptr (pre_get p h)
  | dpt h => exact .dpt (pre_get p h)
  | npt h => exact .npt (pre_get p h)
  | exv hn h => exact .exv hn (s _ _ h)
structure RvL (K : PySem.W.Frag) (θ : List Th) (G : Hp) (xs : List V) (ds : List D) : Prop where
  len : xs.length = ds.length
  get : ∀ (i : Nat) (v : V) (d : D), xs[i]? = some v → ds[i]? = some d → Rv K θ G v d
theorem RvL.mono {K : PySem.W.Frag} {θ θ' : List Th} {G G' : Hp} (p : θ <+: θ') (s : Same G G') {xs : List V} {ds : List D} (h : RvL K θ G xs ds) : RvL K θ' G' xs ds := ⟨h.len, fun i v d a b => (h.get i v d a b).mono p s⟩
theorem RvL.same {K : PySem.W.Frag} {θ : List Th} {G G' : Hp} (s : Same G G') {xs : List V} {ds : List D} (h : RvL K θ G xs ds) : RvL K θ G' xs ds := h.mono (List.prefix_refl _) s
/-- keys of dicts, as data -/
def intsD : List D → Option (List Int)
  | [] => some []
  | .int i :: r => (intsD r).map (i :: ·)
  | _ :: _ => none
def keyN : D → Option NK
  | .non => some .none
  | .int i => some (.num i)
  | .tup ds => (intsD ds).map fun is => .tup (is.map .num)
  | _ => none
abbrev VE := List (NK × V × V)
abbrev DEs := List (D × D)
/-- a dict of these keys and values stands at a -/
def DH (a : Addr) (es : VE) : HO := .ext fun h => (a == sysModules) = false ∧ es.length ≤ sizeLine ∧ ∃ rows : R3, Paired (fun (p : NK × V × V) (q : NK × Value × Value) => p.1 = q.1 ∧ RelV p.2.1 q.2.1 ∧ RelV p.2.2 q.2.2) es rows ∧ Dic3 h a rows
def RpE (K : PySem.W.Frag) (G : Hp) : VE → DEs → Prop := Paired fun (p : NK × V × V) (q : D × D) => keyN q.1 = some p.1 ∧ Rp K G p.2.1 q.1 ∧ Rp K G p.2.2 q.2
theorem RpE.mono {K : PySem.W.Frag} {G G' : Hp} (s : Same G G') {xs : VE} {es : DEs} (h : RpE K G xs es) : RpE K G' xs es := Paired.mapP h fun p q z => ⟨z.1, z.2.1.mono s, z.2.2.mono s⟩
/-- a dict's cell: whether it is locked, its pairs -/
def enc (b : Bool) (es : DEs) : List D := .bl b :: es.map fun q => .tup [q.1, q.2]
/-- a locked dict is known for good, another one stands in the heap alone -/
def DicAt (G H : Hp) (a : Addr) (b : Bool) (xs : VE) : Prop := if b = true then ∃ o, G a = some (.frz o (DH a xs)) else G a = none ∧ H a = some (DH a xs)
theorem DicAt.keep {G G' H H' : Hp} {a : Addr} {b : Bool} {xs : VE} (h : DicAt G H a b xs) (s : Same G G') (g : G a = none → G' a = none) (e : H' a = H a) : DicAt G' H' a b xs := by
  unfold DicAt at h ⊢
  cases b with
  | true => obtain ⟨o, h⟩ := h; exact ⟨o, s _ _ h⟩
  | false => exact ⟨g h.1, e.trans h.2⟩
/-- the heap -/
structure Rs (K : PySem.W.Frag) (θ : List Th) (G H : Hp) (M : Mem) : Prop where
  sub : Same G H
  len : θ.length = M.length
  nd : (θ.map (·.1)).Nodup
  live : ∀ (n : Nat) (t : Th), θ[n]? = some t → H t.1 ≠ none
  mem : ∀ (n : Nat) (a : Addr) (ds : List D), θ[n]? = some (a, .lst) → M[n]? = some (some ds) → G a = none ∧ ∃ xs, H a = some (.lst xs) ∧ RpL K G xs ds
  dic : ∀ (n : Nat) (a : Addr) (b : Bool) (es : DEs), θ[n]? = some (a, .dic) → M[n]? = some (some (enc b es)) → ∃ xs, DicAt G H a b xs ∧ RpE K G xs es
  nst : ∀ (n : Nat) (a : Addr) (ds : List D), θ[n]? = some (a, .nst) → M[n]? = some (some ds) → G a = none ∧ ∃ xs, H a = some (.lst xs) ∧ RvL K (θ.take n) G xs ds
theorem Rs.inj {K : PySem.W.Frag} {θ : List Th} {G H : Hp} {M : Mem} (r : Rs K θ G H M) {n m : Nat} {t u : Th} (h1 : θ[n]? = some t) (h2 : θ[m]? = some u) (e : t.1 = u.1) : n = m := by
  have a1 : (θ.map (·.1))[n]? = some t.1 := by rw [List.getElem?_map, h1]; rfl
  have a2 : (θ.map (·.1))[m]? = some u.1 := by rw [List.getElem?_map, h2]; rfl
  exact (List.getElem?_inj (List.getElem?_eq_some_iff.mp a1).1 r.nd).mp (a1.trans (e ▸ a2.symm))
/-- the slots -/
structure Rσ (K : PySem.W.Frag) (θ : List Th) (G : Hp) (σ : L2.St) (ρ : Env) : Prop where
  len : σ.length = ρ.length
  get : ∀ (i : Nat) (d : D), ρ[i]? = some (some d) → ∃ v, σ[i]? = some (some v) ∧ Rv K θ G v d
theorem Rσ.mono {K : PySem.W.Frag} {θ θ' : List Th} {G G' : Hp} (p : θ <+: θ') (s : Same G G') {σ : L2.St} {ρ : Env} (h : Rσ K θ G σ ρ) : Rσ K θ' G' σ ρ :=
  ⟨h.len, fun i d e => by obtain ⟨v, a, b⟩ := h.get i d e; exact ⟨v, a, b.mono p s⟩⟩
theorem Rσ.set {K : PySem.W.Frag} {θ : List Th} {G : Hp} {σ : L2.St} {ρ : Env} (h : Rσ K θ G σ ρ) {i : Nat} {v : V} {d : D} (r : Rv K θ G v d) : Rσ K θ G (σ.set i (some v)) (ρ.set i (some d)) := by
  refine ⟨by simp [h.len], fun j e hj => ?_⟩
  by_cases hij : i = j
  · subst hij
    rw [List.getElem?_set_self'] at hj ⊢
    cases e1 : ρ[i]? with
    | none => rw [e1] at hj; cases hj
    | some a =>
      rw [e1] at hj
      simp at hj; subst hj
      have hi : i < σ.length := by
        rw [h.len]
        rcases Nat.lt_or_ge i ρ.length with q | q
        · exact q
        · rw [List.getElem?_eq_none q] at e1; cases e1
      rw [List.getElem?_eq_getElem hi]
      exact ⟨v, rfl, r⟩
  · rw [List.getElem?_set_ne hij] at hj ⊢
    exact h.get j e hj
theorem Rσ.start {K : PySem.W.Frag} {θ : List Th} {G : Hp} {N : List Str} {vs : List V} {ds : List D} (l : vs.length = ds.length) (h : ∀ (i : Nat) (v : V) (d : D), vs[i]? = some v → ds[i]? = some d → Rv K θ G v d) (k : Nat) (hk : k = N.length - ds.length) :
    Rσ K θ G (L2.start N vs) (ds.map some ++ List.replicate k none) := by
  unfold L2.start
  refine ⟨by simp [l, hk], fun i d hi => ?_⟩
  by_cases q : i < ds.length
  · rw [List.getElem?_append_left (by simpa using q)] at hi
    rw [List.getElem?_append_left (by simpa [l] using q)]
    rw [List.getElem?_map, List.getElem?_eq_getElem q] at hi
    rw [List.getElem?_map, List.getElem?_eq_getElem (by rw [l]; exact q)]
    simp at hi; subst hi
    exact ⟨_, rfl, h i _ _ (List.getElem?_eq_getElem (by rw [l]; exact q)) (List.getElem?_eq_getElem q)⟩
  · rw [List.getElem?_append_right (by simpa using q), List.getElem?_replicate] at hi
    split at hi <;> cases hi
/-! ### a new object, a store -/
theorem Rs.fresh {K : PySem.W.Frag} {θ : List Th} {G H : Hp} {M : Mem} (r : Rs K θ G H M) {p : Addr} (hp : H p = none) : G p = none := by
  cases e : G p with
  | none => rfl
  | some o => rw [r.sub _ _ e] at hp; cases hp
theorem same_upd {H : Hp} {p : Addr} {o : HO} (h : H p = none) : Same H (upd H p o) := fun b x e => by
  rw [upd_ne (ne_of_none e h)]
  exact e
theorem live_upd {H : Hp} {a p : Addr} {o : HO} (h : H a ≠ none) : (upd H p o) a ≠ none := by
  by_cases q : a = p
  · subst q; rw [upd_same]; exact fun z => by cases z
  · rw [upd_ne q]; exact h
/-- an immutable thing laid -/
theorem Rs.laid {K : PySem.W.Frag} {θ : List Th} {G H : Hp} {M : Mem} (r : Rs K θ G H M) {p : Addr} (hp : H p = none) (o : HO) : Rs K θ (upd G p o) (upd H p o) M := by
  have ne : ∀ (n : Nat) (t : Th), θ[n]? = some t → t.1 ≠ p := fun n t h z => r.live n t h (by rw [z]; exact hp)
  refine ⟨fun b x e => ?_, r.len, r.nd, fun n a h => live_upd (r.live n a h), fun n a ds h1 h2 => ?_, fun n a b es h1 h2 => ?_, fun n a ds h1 h2 => ?_⟩
  · by_cases hb : b = p
    · subst hb; rw [upd_same] at e ⊢; exact e
    · rw [upd_ne hb] at e ⊢; exact r.sub _ _ e
  · obtain ⟨g, xs, hx, rl⟩ := r.mem n a ds h1 h2
    have ha : a ≠ p := ne n _ h1
    refine ⟨by rw [upd_ne ha]; exact g, xs, by rw [upd_ne ha]; exact hx, rl.mono (same_upd (r.fresh hp))⟩
  · obtain ⟨xs, hx, rl⟩ := r.dic n a b es h1 h2
    have ha : a ≠ p := ne n _ h1
    exact ⟨xs, hx.keep (same_upd (r.fresh hp)) (fun g => by rw [upd_ne ha]; exact g) (upd_ne ha), rl.mono (same_upd (r.fresh hp))⟩
  · obtain ⟨g, xs, hx, rl⟩ := r.nst n a ds h1 h2
    have ha : a ≠ p := ne n _ h1
    exact ⟨by rw [upd_ne ha]; exact g, xs, by rw [upd_ne ha]; exact hx, rl.same (same_upd (r.fresh hp))⟩
/-- a numbered thing laid -/
theorem Rs.laidT {K : PySem.W.Frag} {θ : List Th} {G H : Hp} {M : Mem} (r : Rs K θ G H M) {p : Addr} (hp : H p = none) {k : Kd} {o : HO} {c : Option (List D)}
    (hm : ∀ ds, k = .lst → c = some ds → ∃ xs, o = .lst xs ∧ RpL K G xs ds) (hd : ∀ b es, k = .dic → c = some (enc b es) → b = false ∧ ∃ xs, o = DH p xs ∧ RpE K G xs es) (hn : ∀ ds, k = .nst → c = some ds → ∃ xs, o = .lst xs ∧ RvL K θ G xs ds) :
    Rs K (θ ++ [(p, k)]) G (upd H p o) (M ++ [c]) := by
  have ne : ∀ (n : Nat) (t : Th), θ[n]? = some t → t.1 ≠ p := fun n t h z => r.live n t h (by rw [z]; exact hp)
  have at_ : ∀ (n : Nat) (t : Th), (θ ++ [(p, k)])[n]? = some t → θ[n]? = some t ∨ (n = θ.length ∧ t = (p, k)) := fun n t h => by
    by_cases hn : n < θ.length
    · rw [List.getElem?_append_left hn] at h; exact .inl h
    · rw [List.getElem?_append_right (by omega)] at h
      have : n - θ.length = 0 := by
        rcases Nat.eq_zero_or_pos (n - θ.length) with q | q
        · exact q
        · rw [List.getElem?_eq_none (by simp; omega)] at h; cases h
      rw [this] at h
      simp at h
      exact .inr ⟨by omega, h.symm⟩
  have inM : ∀ (n : Nat) (t : Th), θ[n]? = some t → (M ++ [c])[n]? = M[n]? := fun n t h => List.getElem?_append_left (by rw [← r.len]; exact (List.getElem?_eq_some_iff.mp h).1)
  have lastM : (M ++ [c])[θ.length]? = some c := by rw [r.len, List.getElem?_append_right (Nat.le_refl _), Nat.sub_self]; rfl
  refine ⟨fun b x e => same_upd hp _ _ (r.sub _ _ e), by simp [r.len], ?_, fun n t h => ?_, fun n a es h1 h2 => ?_, fun n a b es h1 h2 => ?_, fun n a es h1 h2 => ?_⟩
  · rw [List.map_append, List.nodup_append]
    refine ⟨r.nd, by simp, fun a ha b hb => ?_⟩
    simp at hb; subst hb
    rintro rfl
    obtain ⟨t, ht, e⟩ := List.mem_map.mp ha
    obtain ⟨n, hn⟩ := List.mem_iff_getElem?.mp ht
    exact ne n t hn e
  · rcases at_ n t h with h | ⟨_, h⟩
    · exact live_upd (r.live n t h)
    · subst h
      show upd H p o p ≠ none
      rw [upd_same]; exact fun z => by cases z
  · rcases at_ n _ h1 with h | ⟨hn, h⟩
    · rw [inM n _ h] at h2
      obtain ⟨g, ys, hy, rl⟩ := r.mem n a es h h2
      exact ⟨g, ys, by rw [upd_ne (ne n _ h)]; exact hy, rl⟩
    · injection h with e1 e2
      subst e1; subst hn
      rw [lastM] at h2
      obtain ⟨xs, e3, rl⟩ := hm es e2.symm (Option.some.inj h2)
      exact ⟨r.fresh hp, xs, by rw [upd_same, e3], rl⟩
  · rcases at_ n _ h1 with h | ⟨hn, h⟩
    · rw [inM n _ h] at h2
      obtain ⟨ys, hy, rl⟩ := r.dic n a b es h h2
      exact ⟨ys, hy.keep (Same.refl _) (fun g => g) (upd_ne (ne n _ h)), rl⟩
    · injection h with e1 e2
      subst e1; subst hn
      rw [lastM] at h2
      obtain ⟨e4, xs, e3, rl⟩ := hd b es e2.symm (Option.some.inj h2)
      subst e4
      exact ⟨xs, ⟨r.fresh hp, by rw [upd_same, e3]⟩, rl⟩
  · have tk : ∀ n, n ≤ θ.length → (θ ++ [(p, k)]).take n = θ.take n := fun n h => List.take_append_of_le_length h
    rcases at_ n _ h1 with h | ⟨hn', h⟩
    · rw [inM n _ h] at h2
      obtain ⟨g, ys, hy, rl⟩ := r.nst n a es h h2
      refine ⟨g, ys, by rw [upd_ne (ne n _ h)]; exact hy, ?_⟩
      rw [tk n (Nat.le_of_lt (List.getElem?_eq_some_iff.mp h).1)]; exact rl
    · injection h with e1 e2
      subst e1; subst hn'
      rw [lastM] at h2
      obtain ⟨xs, e3, rl⟩ := hn es e2.symm (Option.some.inj h2)
      refine ⟨r.fresh hp, xs, by rw [upd_same, e3], ?_⟩
      rw [tk _ (Nat.le_refl _), List.take_length]; exact rl
/-- a mutable list laid -/
theorem Rs.laidM {K : PySem.W.Frag} {θ : List Th} {G H : Hp} {M : Mem} (r : Rs K θ G H M) {p : Addr} (hp : H p = none) {xs : List V} {ds : List D} (h : RpL K G xs ds) :
    Rs K (θ ++ [(p, .lst)]) G (upd H p (.lst xs)) (M ++ [some ds]) := r.laidT hp (fun es _ e => ⟨xs, rfl, by cases e; exact h⟩) (fun b es e _ => by cases e) fun ds e _ => by cases e
end Bw
namespace Bw
open PySem PySem.Spec PyProof.Rows L2
/-- a wish of an error, by its class's name -/
abbrev WN := Str → L2.St → Hp → Prop
inductive Res (α : Type) where
  | ok (a : α) | exc (C : Str)
abbrev Ev (α : Type) := Env → Mem → Option (Res α × Mem)
def ret {α : Type} (a : α) : Ev α := fun _ M => some (.ok a, M)
def stk {α : Type} : Ev α := fun _ _ => none
def bnd {α β : Type} (f : Ev α) (g : α → Ev β) : Ev β := fun ρ M =>
  match f ρ M with
  | some (.ok a, M1) => g a ρ M1
  | some (.exc C, M1) => some (.exc C, M1)
  | none => none
abbrev Rd' (A B : Type) := List Th → Hp → A → B → Prop
/-- a reading t and what it gives, f, from θ0, G0 on -/
def Snd (K : PySem.W.Frag) (W : WN) {A α : Type} (R : List Th → Hp → A → α → Prop) (θ0 : List Th) (G0 : Hp) (t : L2.St → Hp → (A → Hp → Prop) → Prop) (f : Ev α) : Prop :=
  ∀ (ρ : Env) (M : Mem) (r : Res α) (M' : Mem) (θ : List Th) (G : Hp) (σ : L2.St) (H : Hp) (Q : A → Hp → Prop), θ0 <+: θ → Same G0 G → f ρ M = some (r, M') → Rs K θ G H M → Rσ K θ G σ ρ →
    (∀ (θ' : List Th) (G' H' : Hp), θ <+: θ' → Same G G' → Rs K θ' G' H' M' → (∀ C, r = .exc C → W C σ H') ∧ (∀ d v, r = .ok d → R θ' G' v d → Q v H')) → t σ H Q
section
variable {K : PySem.W.Frag} {W : WN} {A B α β : Type} {R : List Th → Hp → A → α → Prop} {R2 : List Th → Hp → B → β → Prop} {θ0 θ1 : List Th} {G0 G1 : Hp}
theorem Snd.mono {t : L2.St → Hp → (A → Hp → Prop) → Prop} {f : Ev α} (h : Snd K W R θ0 G0 t f) (p : θ0 <+: θ1) (s : Same G0 G1) : Snd K W R θ1 G1 t f :=
  fun ρ M r M' θ G σ H Q p' s' e rs rv k => h ρ M r M' θ G σ H Q (p.trans p') (s.trans s') e rs rv k
theorem Snd.bind {t : L2.St → Hp → (A → Hp → Prop) → Prop} {f : Ev α} {k : A → L2.St → Hp → (B → Hp → Prop) → Prop} {g : α → Ev β} (h : Snd K W R θ0 G0 t f)
    (h2 : ∀ θ G v d, θ0 <+: θ → Same G0 G → R θ G v d → Snd K W R2 θ G (k v) (g d)) : Snd K W R2 θ0 G0 (fun σ H Q => t σ H fun v H1 => k v σ H1 Q) (bnd f g) := by
  intro ρ M r M' θ G σ H Q p s e rs rv kk
  unfold bnd at e
  cases q : f ρ M with
  | none => rw [q] at e; cases e
  | some z =>
    obtain ⟨r1, M1⟩ := z
    rw [q] at e
    refine h ρ M r1 M1 θ G σ H _ p s q rs rv fun θ' G' H' p' s' rs' => ?_
    cases r1 with
    | exc C =>
      simp at e
      obtain ⟨e1, e2⟩ := e
      subst e1; subst e2
      exact ⟨fun C' h => (kk θ' G' H' p' s' rs').1 C' (by cases h; rfl), fun d v h => by cases h⟩
    | ok a =>
      refine ⟨fun C' h => (by cases h), fun d v h rel => ?_⟩
      cases h
      exact h2 θ' G' v a (p.trans p') (s.trans s') rel ρ M1 r M' θ' G' σ H' Q (List.prefix_refl _) (Same.refl _) e rs' (rv.mono p' s')
        fun θ2 G2 H2 p2 s2 rs2 => kk θ2 G2 H2 (p'.trans p2) (s'.trans s2) rs2
theorem Snd.ret {v : A} {d : α} (h : ∀ θ G, θ0 <+: θ → Same G0 G → R θ G v d) : Snd K W R θ0 G0 (fun _ H Q => Q v H) (ret d) := by
  intro ρ M r M' θ G σ H Q p s e rs rv kk
  unfold Bw.ret at e
  simp at e
  obtain ⟨e1, e2⟩ := e
  subst e1; subst e2
  exact (kk θ G H (List.prefix_refl _) (Same.refl _) rs).2 d v rfl (h θ G p s)
theorem Snd.stk {t : L2.St → Hp → (A → Hp → Prop) → Prop} : Snd K W R θ0 G0 t (stk (α := α)) := by
  intro ρ M r M' θ G σ H Q p s e
  cases e
theorem Snd.of_eq {t t' : L2.St → Hp → (A → Hp → Prop) → Prop} {f : Ev α} (h : Snd K W R θ0 G0 t f) (e : t = t') : Snd K W R θ0 G0 t' f := e ▸ h
end
/-! ### the relations -/
abbrev RV (K : PySem.W.Frag) : List Th → Hp → V → D → Prop := fun θ G v d => Rv K θ G v d
abbrev RB : List Th → Hp → Bool → Bool → Prop := fun _ _ b c => b = c
abbrev RL (K : PySem.W.Frag) : List Th → Hp → List V → List D → Prop := fun θ G v d => RvL K θ G v d
theorem RvL.nil {K : PySem.W.Frag} {θ : List Th} {G : Hp} : RvL K θ G [] [] := ⟨rfl, fun i v d h => by simp at h⟩
theorem RvL.cons {K : PySem.W.Frag} {θ : List Th} {G : Hp} {v : V} {d : D} {xs : List V} {ds : List D} (h : Rv K θ G v d) (r : RvL K θ G xs ds) : RvL K θ G (v :: xs) (d :: ds) := by
  refine ⟨by simp [r.len], fun i w e h1 h2 => ?_⟩
  cases i with
  | zero => simp at h1 h2; subst h1; subst h2; exact h
  | succ i => exact r.get i w e (by simpa using h1) (by simpa using h2)
theorem RvL.uncons {K : PySem.W.Frag} {θ : List Th} {G : Hp} {xs : List V} {d : D} {ds : List D} (r : RvL K θ G xs (d :: ds)) : ∃ v ys, xs = v :: ys ∧ Rv K θ G v d ∧ RvL K θ G ys ds := by
  cases xs with
  | nil => exact absurd r.len (by simp)
  | cons v ys => exact ⟨v, ys, rfl, r.get 0 v d rfl rfl, by have := r.len; simpa using this, fun i w e h1 h2 => r.get (i + 1) w e (by simpa using h1) (by simpa using h2)⟩
theorem RvL.nil_of {K : PySem.W.Frag} {θ : List Th} {G : Hp} {xs : List V} (r : RvL K θ G xs []) : xs = [] := by
  cases xs with
  | nil => rfl
  | cons v ys => exact absurd r.len (by simp)
/-- no pointers -/
def D.np : D → Bool
  | .ptr _ => false
  | .exv _ => false
  | .dpt _ => false
  | .npt _ => false
  | _ => true
theorem Rv.rp {K : PySem.W.Frag} {θ : List Th} {G : Hp} {v : V} {d : D} (h : Rv K θ G v d) (n : d.np = true) : Rp K G v d := by
  cases h with
  | dat h => exact h
  | ptr h => cases n
  | exv _ h => cases n
  | dpt h => cases n
  | npt h => cases n
theorem RvL.rp {K : PySem.W.Frag} {θ : List Th} {G : Hp} {xs : List V} {ds : List D} (h : RvL K θ G xs ds) (n : ds.all D.np = true) : RpL K G xs ds :=
  ⟨h.len, fun i v d a b => (h.get i v d a b).rp (by rw [List.all_eq_true] at n; exact n d (List.mem_of_getElem? b))⟩
/-! ### expressions -/
def DE (X : Cx) (W : WN) (e : Expr) (f : Ev D) : Prop := ∃ t, PE X e t ∧ ∀ θ G, Snd X.K W (RV X.K) θ G t f
def DT (X : Cx) (W : WN) (e : Expr) (f : Ev Bool) : Prop := ∃ t, PT X e t ∧ ∀ θ G, Snd X.K W RB θ G t f
def DW (X : Cx) (W : WN) (e : Expr) (f : Ev Bool) : Prop := ∃ t, PW X e t ∧ ∀ θ G, Snd X.K W RB θ G t f
def DA (X : Cx) (W : WN) (es : List Expr) (f : Ev (List D)) : Prop := ∃ t, PA X es t ∧ ∀ θ G, Snd X.K W (RL X.K) θ G t f
section
variable {X : Cx} {W : WN} {pos : Pos}
def dVar (i : Nat) : Ev D := fun ρ M => match ρ[i]? with
  | some (some d) => some (.ok d, M)
  | _ => none
theorem de_var (i : Nat) {x : Str} (hN : X.N[i]? = some x := by rfl) (hv : Vis X.env.scope x := by first | exact Or.inl rfl | exact Or.inr (Or.inl rfl) | exact Or.inr (Or.inr rfl)) (hd : (x == ("__debug__" : Str)) = false := by decide)
    (hcd : (x == ("__classdict__" : Str)) = false := by decide) : DE X W (.Name x pos) (dVar i) := by
  refine ⟨tVar i, pe_var hN hv hd hcd, fun θ0 G0 ρ M r M' θ G σ H Q p s e rs rv kk => ?_⟩
  unfold dVar at e
  cases q : ρ[i]? with
  | none => rw [q] at e; cases e
  | some z =>
    cases z with
    | none => rw [q] at e; cases e
    | some d =>
      rw [q] at e
      simp at e
      obtain ⟨e1, e2⟩ := e
      subst e1; subst e2
      obtain ⟨v, hv, r⟩ := rv.get i d q
      exact ⟨v, hv, (kk θ G H (List.prefix_refl _) (Same.refl _) rs).2 d v rfl r⟩
theorem snd_c {K : PySem.W.Frag} {θ : List Th} {G : Hp} {v : V} {d : D} (h : ∀ G, Rp K G v d) : Snd K W (RV K) θ G (tC v) (ret d) := Snd.ret fun _ G _ _ => .dat (h G)
theorem de_int {i : Int} {j : Nat} : DE X W (.Constant (.int i) j pos) (ret (.int i)) := ⟨_, pe_int, fun _ _ => snd_c fun _ => .int i⟩
theorem de_bl {b : Bool} {j : Nat} : DE X W (.Constant (.bool b) j pos) (ret (.bl b)) := ⟨_, pe_bl, fun _ _ => snd_c fun _ => .bl b⟩
theorem de_non {j : Nat} : DE X W (.Constant .none j pos) (ret .non) := ⟨_, pe_non, fun _ _ => snd_c fun _ => .non⟩
theorem de_str {z : Str} {j : Nat} : DE X W (.Constant (.str z) j pos) (ret (.str z)) := ⟨_, pe_str, fun _ _ => snd_c fun _ => .str z⟩
/-- by two values -/
def SndO (K : PySem.W.Frag) (W : WN) (r : R2) (o : D → D → Ev D) : Prop := ∀ θ G x y d e, Rv K θ G x d → Rv K θ G y e → Snd K W (RV K) θ G (fun _ H Q => r x y H Q) (o d e)
theorem snd_op {K : PySem.W.Frag} {r : R2} {o : D → D → Ev D} {ta tb : TE} {f g : Ev D} (h : SndO K W r o) {θ : List Th} {G : Hp} (ha : ∀ θ G, Snd K W (RV K) θ G ta f) (hb : ∀ θ G, Snd K W (RV K) θ G tb g) :
    Snd K W (RV K) θ G (tOp r ta tb) (bnd f fun d => bnd g fun e => o d e) :=
  (ha θ G).bind (k := fun x σ H1 Q => tb σ H1 fun y H2 => r x y H2 Q) fun θ1 G1 v d _ _ hv => (hb θ1 G1).bind (k := fun y σ H2 Q => r v y H2 Q) fun θ2 G2 u e p s hu => h θ2 G2 v u d e (hv.mono p s) hu
theorem de_op {op : Operator} {r : R2} {o : D → D → Ev D} {a b : Expr} {f g : Ev D} (ho : OpR X (binaryOp op) r) (so : SndO X.K W r o) (ha : DE X W a f) (hb : DE X W b g) : DE X W (.BinOp a op b pos) (bnd f fun d => bnd g fun e => o d e) := by
  obtain ⟨ta, pa, sa⟩ := ha
  obtain ⟨tb, pb, sb⟩ := hb
  exact ⟨_, pe_op ho pa pb, fun θ G => snd_op so sa sb⟩
theorem de_cmp {op : CmpOp} {r : R2} {o : D → D → Ev D} {a b : Expr} {f g : Ev D} (ho : OpR X (compareOp op) r) (so : SndO X.K W r o) (ha : DE X W a f) (hb : DE X W b g) (hm : behindInMarks op b = false) : DE X W (.Compare a [op] [b] pos) (bnd f fun d => bnd g fun e => o d e) := by
  obtain ⟨ta, pa, sa⟩ := ha
  obtain ⟨tb, pb, sb⟩ := hb
  exact ⟨_, pe_cmpR ho pa pb hm, fun θ G => snd_op so sa sb⟩
/-- a bool as a test -/
def asB (d : D) : Ev Bool := match d with
  | .bl b => ret b
  | _ => stk
theorem snd_tB {K : PySem.W.Frag} {t : TE} {f : Ev D} (h : ∀ θ G, Snd K W (RV K) θ G t f) (θ : List Th) (G : Hp) : Snd K W RB θ G (tB t) (bnd f asB) := by
  refine (h θ G).bind (k := fun x _ H1 Q => ∃ c, x = .bl c ∧ Q c H1) fun θ1 G1 v d _ _ hv => ?_
  cases d with
  | bl b =>
    cases hv with
    | dat hv =>
      cases hv
      intro ρ M r M' θ G σ H Q p s e rs rv kk
      exact ⟨b, rfl, Snd.ret (K := K) (W := W) (R := RB) (θ0 := θ1) (G0 := G1) (v := b) (d := b) (fun _ _ _ _ => rfl) ρ M r M' θ G σ H Q p s e rs rv kk⟩
  | _ => exact Snd.stk
theorem dt_val {e : Expr} {f : Ev D} (h : DE X W e f) (he : ∀ whole, isTrue e X.env whole = (do let v ← whole; standAt e.pos; holding [v] (truthy v)) := by intro _; rfl) : DT X W e (bnd f asB) := by
  obtain ⟨t, p, s⟩ := h
  exact ⟨_, pt_val p he, snd_tB s⟩
theorem dt_cmp {op : CmpOp} {r : R2} {o : D → D → Ev D} {a b : Expr} {f g : Ev D} (ho : OpR X (compareOp op) r) (so : SndO X.K W r o) (ha : DE X W a f) (hb : DE X W b g) (hm : behindInMarks op b = false) : DT X W (.Compare a [op] [b] pos) (bnd (bnd f fun d => bnd g fun e => o d e) asB) := by
  obtain ⟨ta, pa, sa⟩ := ha
  obtain ⟨tb, pb, sb⟩ := hb
  exact ⟨_, pt_cmpR ho pa pb hm, snd_tB fun θ G => snd_op so sa sb⟩
/-! tests -/
def dAnd (f g : Ev Bool) : Ev Bool := bnd f fun c => if c = true then g else ret false
def dOr (f g : Ev Bool) : Ev Bool := bnd f fun c => if c = true then ret true else g
def dNot (f : Ev Bool) : Ev Bool := bnd f fun c => ret (!c)
theorem snd_b {K : PySem.W.Frag} {θ : List Th} {G : Hp} {b : Bool} : Snd K W RB θ G (fun _ H Q => Q b H) (ret b) := Snd.ret fun _ _ _ _ => rfl
theorem dw_and1 {a : Expr} {f : Ev Bool} (h : DT X W a f) : DW X W (.BoolOp .And [a] pos) f := by obtain ⟨t, p, s⟩ := h; exact ⟨_, pw_and1 p, s⟩
theorem dw_or1 {a : Expr} {f : Ev Bool} (h : DT X W a f) : DW X W (.BoolOp .Or [a] pos) f := by obtain ⟨t, p, s⟩ := h; exact ⟨_, pw_or1 p, s⟩
theorem dw_and {a b : Expr} {rest : List Expr} {f g : Ev Bool} (h : DT X W a f) (h2 : DW X W (.BoolOp .And (b :: rest) pos) g) : DW X W (.BoolOp .And (a :: b :: rest) pos) (dAnd f g) := by
  obtain ⟨t, p, s⟩ := h
  obtain ⟨u, p2, s2⟩ := h2
  refine ⟨_, pw_and p p2, fun θ G => (s θ G).bind (k := fun c σ H1 Q => if c = true then u σ H1 Q else Q false H1) fun θ1 G1 v d _ _ hv => ?_⟩
  cases hv
  cases v with
  | true => simpa using s2 θ1 G1
  | false => simpa using snd_b (K := X.K) (W := W) (θ := θ1) (G := G1) (b := false)
theorem dw_or {a b : Expr} {rest : List Expr} {f g : Ev Bool} (h : DT X W a f) (h2 : DW X W (.BoolOp .Or (b :: rest) pos) g) : DW X W (.BoolOp .Or (a :: b :: rest) pos) (dOr f g) := by
  obtain ⟨t, p, s⟩ := h
  obtain ⟨u, p2, s2⟩ := h2
  refine ⟨_, pw_or p p2, fun θ G => (s θ G).bind (k := fun c σ H1 Q => if c = true then Q true H1 else u σ H1 Q) fun θ1 G1 v d _ _ hv => ?_⟩
  cases hv
  cases v with
  | false => simpa using s2 θ1 G1
  | true => simpa using snd_b (K := X.K) (W := W) (θ := θ1) (G := G1) (b := true)
theorem DW.dt {e : Expr} {f : Ev Bool} (h : DW X W e f) : DT X W e f := by obtain ⟨t, p, s⟩ := h; exact ⟨t, p.pt, s⟩
theorem dt_not {a : Expr} {f : Ev Bool} (h : DT X W a f) : DT X W (.UnaryOp .Not a pos) (dNot f) := by
  obtain ⟨t, p, s⟩ := h
  refine ⟨_, pt_not p, fun θ G => (s θ G).bind (k := fun c σ H1 Q => Q (!c) H1) fun θ1 G1 v d _ _ hv => ?_⟩
  cases hv
  exact snd_b
/-! as values -/
def dAndV (f g : Ev D) : Ev D := bnd f fun d => bnd (asB d) fun c => if c = true then g else ret (.bl false)
def dOrV (f g : Ev D) : Ev D := bnd f fun d => bnd (asB d) fun c => if c = true then ret (.bl true) else g
def dNotV (f : Ev D) : Ev D := bnd f fun d => bnd (asB d) fun c => ret (.bl (!c))
theorem rv_bl {K : PySem.W.Frag} {θ : List Th} {G : Hp} {b : Bool} : Rv K θ G (.bl b) (.bl b) := .dat (.bl b)
theorem snd_asB {K : PySem.W.Frag} {A α : Type} {R : List Th → Hp → A → α → Prop} {θ : List Th} {G : Hp} {v : V} {d : D} {k : Bool → L2.St → Hp → (A → Hp → Prop) → Prop} {g : Bool → Ev α} (hv : Rv K θ G v d) (h : ∀ c, Snd K W R θ G (k c) (g c)) :
    Snd K W R θ G (fun σ H1 Q => ∃ c, v = .bl c ∧ k c σ H1 Q) (bnd (asB d) g) := by
  cases d with
  | bl b =>
    cases hv with
    | dat hv =>
      cases hv
      intro ρ M r M' θ G σ H Q p s e rs rv kk
      exact ⟨b, rfl, h b ρ M r M' θ G σ H Q p s e rs rv kk⟩
  | _ => exact Snd.stk
theorem de_one {op : BoolOp} {a : Expr} {f : Ev D} (h : DE X W a f) : DE X W (.BoolOp op [a] pos) f := by obtain ⟨t, p, s⟩ := h; exact ⟨_, pe_one p, s⟩
theorem de_and {a b : Expr} {rest : List Expr} {f g : Ev D} (h : DE X W a f) (h2 : DE X W (.BoolOp .And (b :: rest) pos) g) : DE X W (.BoolOp .And (a :: b :: rest) pos) (dAndV f g) := by
  obtain ⟨t, p, s⟩ := h
  obtain ⟨u, p2, s2⟩ := h2
  refine ⟨_, pe_and p p2, fun θ G => (s θ G).bind (k := fun x σ H1 Q => ∃ c, x = .bl c ∧ if c = true then u σ H1 Q else Q (.bl false) H1) fun θ1 G1 v d _ _ hv => snd_asB hv fun c => ?_⟩
  cases c with
  | true => simpa using s2 θ1 G1
  | false => simpa using Snd.ret (K := X.K) (W := W) (R := RV X.K) (θ0 := θ1) (G0 := G1) (v := .bl false) (d := .bl false) fun _ _ _ _ => rv_bl
theorem de_not {a : Expr} {f : Ev D} (h : DE X W a f) : DE X W (.UnaryOp .Not a pos) (dNotV f) := by
  obtain ⟨t, p, s⟩ := h
  refine ⟨_, pe_not p, fun θ G => (s θ G).bind (R2 := RV X.K) (k := fun (x : V) (σ : L2.St) (H1 : Hp) (Q : V → Hp → Prop) => ∃ c, x = .bl c ∧ Q (.bl (!c)) H1) fun θ1 G1 v d _ _ hv => snd_asB (k := fun (c : Bool) (_ : L2.St) (H1 : Hp) (Q : V → Hp → Prop) => Q (V.bl (!c)) H1) hv fun c => Snd.ret fun _ _ _ _ => rv_bl⟩
def dIf (c : Ev Bool) (f g : Ev D) : Ev D := bnd c fun b => if b = true then f else g
theorem de_if {c a b : Expr} {h : Ev Bool} {f g : Ev D} (hc : DT X W c h) (ha : DE X W a f) (hb : DE X W b g) : DE X W (.IfExp c a b pos) (dIf h f g) := by
  obtain ⟨t, p, s⟩ := hc
  obtain ⟨u, p2, s2⟩ := ha
  obtain ⟨z, p3, s3⟩ := hb
  refine ⟨_, pe_ifExp p p2 p3, fun θ G => (s θ G).bind (k := fun c σ H1 Q => if c = true then u σ H1 Q else z σ H1 Q) fun θ1 G1 v d _ _ hv => ?_⟩
  cases hv
  cases v with
  | true => simpa using s2 θ1 G1
  | false => simpa using s3 θ1 G1
/-! arguments -/
def dNil : Ev (List D) := ret []
def dCons (f : Ev D) (g : Ev (List D)) : Ev (List D) := bnd f fun d => bnd g fun ds => ret (d :: ds)
theorem da_nil : DA X W [] dNil := ⟨_, pa_nil, fun _ _ => Snd.ret fun _ _ _ _ => RvL.nil⟩
theorem da_cons {e : Expr} {es : List Expr} {f : Ev D} {g : Ev (List D)} (ha : DE X W e f) (hr : DA X W es g) (hs : starEach (e :: es) X.env = (false, eval e X.env) :: starEach es X.env := by rfl) : DA X W (e :: es) (dCons f g) := by
  obtain ⟨t, p, s⟩ := ha
  obtain ⟨u, p2, s2⟩ := hr
  exact ⟨_, pa_cons p p2 hs, fun θ G => (s θ G).bind (k := fun x σ H1 Q => u σ H1 fun xs H2 => Q (x :: xs) H2) fun θ1 G1 v d _ _ hv => (s2 θ1 G1).bind (k := fun xs σ H2 Q => Q (v :: xs) H2) fun θ2 G2 vs ds p s hvs => Snd.ret fun θ3 G3 p3 s3 => RvL.cons (hv.mono (p.trans p3) (s.trans s3)) (hvs.mono p3 s3)⟩
/-- by a list of values -/
def SndC (K : PySem.W.Frag) (W : WN) (r : List V → Hp → VK → Prop) (o : List D → Ev D) : Prop := ∀ θ G xs ds, RvL K θ G xs ds → Snd K W (RV K) θ G (fun _ H Q => r xs H Q) (o ds)
theorem snd_args {K : PySem.W.Frag} {r : List V → Hp → VK → Prop} {o : List D → Ev D} (h : SndC K W r o) {t : TA} {f : Ev (List D)} (s : ∀ θ G, Snd K W (RL K) θ G t f) (θ : List Th) (G : Hp) : Snd K W (RV K) θ G (fun σ H Q => t σ H fun vs H1 => r vs H1 Q) (bnd f o) :=
  (s θ G).bind (k := fun vs _ H1 Q => r vs H1 Q) fun θ1 G1 v d _ _ hv => h θ1 G1 v d hv
/-- a tuple, a list that stays as it is -/
def oTup (ds : List D) : Ev D := if ds.all D.np = true ∧ ds.length ≤ 16777216 then ret (.tup ds) else stk
def oLst (ds : List D) : Ev D := if ds.all D.np = true ∧ ds.length ≤ 16777216 then ret (.lst ds) else stk
theorem rp_tup {K : PySem.W.Frag} {G : Hp} {p : Addr} {xs : List V} {ds : List D} (h : G p = some (.tup xs)) (r : RpL K G xs ds) : Rp K G (.ref p) (.tup ds) := .tup (.inl (.inl h)) r.len r.get
theorem rp_lst {K : PySem.W.Frag} {G : Hp} {p : Addr} {xs : List V} {ds : List D} (h : G p = some (.lst xs)) (r : RpL K G xs ds) : Rp K G (.ref p) (.lst ds) := .lst h r.len r.get
theorem snd_tup {K : PySem.W.Frag} : SndC K W (fun xs H1 Q => xs.length ≤ sizeLine ∧ ∀ p, H1 p = none → Q (.ref p) (upd H1 p (.tup xs))) oTup := by
  intro θ0 G0 xs ds hx
  unfold oTup
  split
  · rename_i hc
    have hp := hx.rp hc.1
    intro ρ M r M' θ G σ H Q p s e rs rv kk
    unfold ret at e
    simp at e
    obtain ⟨e1, e2⟩ := e
    subst e1; subst e2
    refine ⟨by rw [hp.len, sizeLine_eq]; exact hc.2, fun a ha => ?_⟩
    have g := rs.fresh ha
    exact (kk θ (upd G a (.tup xs)) _ (List.prefix_refl _) (same_upd g) (rs.laid ha _)).2 _ _ rfl (.dat (rp_tup upd_same (hp.mono (s.trans (same_upd g)))))
  · exact Snd.stk
theorem snd_lst {K : PySem.W.Frag} : SndC K W (fun xs H1 Q => xs.length ≤ sizeLine ∧ ∀ p, H1 p = none → Q (.ref p) (upd H1 p (.lst xs))) oLst := by
  intro θ0 G0 xs ds hx
  unfold oLst
  split
  · rename_i hc
    have hp := hx.rp hc.1
    intro ρ M r M' θ G σ H Q p s e rs rv kk
    unfold ret at e
    simp at e
    obtain ⟨e1, e2⟩ := e
    subst e1; subst e2
    refine ⟨by rw [hp.len, sizeLine_eq]; exact hc.2, fun a ha => ?_⟩
    have g := rs.fresh ha
    exact (kk θ (upd G a (.lst xs)) _ (List.prefix_refl _) (same_upd g) (rs.laid ha _)).2 _ _ rfl (.dat (rp_lst upd_same (hp.mono (s.trans (same_upd g)))))
  · exact Snd.stk
/-- a list that will change -/
def oNew (ds : List D) : Ev D := fun _ M => if ds.all D.np = true ∧ ds.length ≤ 16777216 then some (.ok (.ptr M.length), M ++ [some ds]) else none
theorem snd_lstM {K : PySem.W.Frag} : SndC K W (fun xs H1 Q => xs.length ≤ sizeLine ∧ ∀ p, H1 p = none → Q (.ref p) (upd H1 p (.lst xs))) oNew := by
  intro θ0 G0 xs ds hx ρ M r M' θ G σ H Q p s e rs rv kk
  unfold oNew at e
  split at e
  · rename_i hc
    have hp := hx.rp hc.1
    simp at e
    obtain ⟨e1, e2⟩ := e
    subst e1; subst e2
    refine ⟨by rw [hp.len, sizeLine_eq]; exact hc.2, fun a ha => ?_⟩
    refine (kk (θ ++ [(a, .lst)]) G _ (List.prefix_append _ _) (Same.refl _) (rs.laidM ha (hp.mono s))).2 _ _ rfl (.ptr ?_)
    rw [← rs.len, List.getElem?_append_right (Nat.le_refl _), Nat.sub_self]
    rfl
  · cases e
theorem de_tup {es : List Expr} {f : Ev (List D)} {x1 : Nat} (h : DA X W es f) : DE X W (.Tuple es x1 pos) (bnd f oTup) := by
  obtain ⟨t, p, s⟩ := h
  exact ⟨_, pe_tup p, snd_args snd_tup s⟩
theorem de_lst {es : List Expr} {f : Ev (List D)} (h : DA X W es f) : DE X W (.List es pos) (bnd f oLst) := by
  obtain ⟨t, p, s⟩ := h
  exact ⟨_, pe_lst p, snd_args snd_lst s⟩
theorem de_lstM {es : List Expr} {f : Ev (List D)} (h : DA X W es f) : DE X W (.List es pos) (bnd f oNew) := by
  obtain ⟨t, p, s⟩ := h
  exact ⟨_, pe_lst p, snd_args snd_lstM s⟩
end
end Bw
namespace Bw
open PySem PySem.Spec PyProof.Rows L2
section
variable {X : Cx} {W : WN} {pos : Pos}
/-! ### numbers -/
def oI (C : Int → Int → Bool) (g : Int → Int → D) (d e : D) : Ev D := match d, e with
  | .int i, .int j => if C i j = true then ret (g i j) else stk
  | _, _ => stk
theorem snd_rI {K : PySem.W.Frag} {C : Int → Int → Prop} {C' : Int → Int → Bool} {g : Int → Int → V} {g' : Int → Int → D} (hC : ∀ i j, C' i j = true → C i j) (hg : ∀ i j G, Rp K G (g i j) (g' i j)) : SndO K W (rI C g) (oI C' g') := by
  intro θ G x y d e hx hy
  unfold oI
  split
  · rename_i i j
    split
    · rename_i c
      cases hx with
      | dat hx =>
        cases hy with
        | dat hy =>
          cases hx; cases hy
          intro ρ M r M' θ1 G1 σ H Q p s e rs rv kk
          exact ⟨i, j, rfl, rfl, hC i j c, Snd.ret (K := K) (W := W) (R := RV K) (θ0 := θ) (G0 := G) (v := g i j) (d := g' i j) (fun _ G _ _ => .dat (hg i j G)) ρ M r M' θ1 G1 σ H Q p s e rs rv kk⟩
    · exact Snd.stk
  · exact Snd.stk
theorem snd_rI0 {K : PySem.W.Frag} {g : Int → Int → V} {g' : Int → Int → D} (hg : ∀ i j G, Rp K G (g i j) (g' i j)) : SndO K W (rI0 g) (oI (fun _ _ => true) g') := by
  intro θ G x y d e hx hy
  have h := snd_rI (K := K) (W := W) (C := fun _ _ => True) (C' := fun _ _ => true) (g := g) (g' := g') (fun _ _ _ => trivial) hg θ G x y d e hx hy
  intro ρ M r M' θ1 G1 σ H Q p s e rs rv kk
  obtain ⟨i, j, a, b, _, q⟩ := h ρ M r M' θ1 G1 σ H Q p s e rs rv kk
  exact ⟨i, j, a, b, q⟩
def oAdd (d e : D) : Ev D := match d, e with
  | .int i, .int j => ret (.int (i + j))
  | .lst a, .lst b => if a.length + b.length ≤ 16777216 then ret (.lst (a ++ b)) else stk
  | .tup a, .tup b => if a.length + b.length ≤ 16777216 then ret (.tup (a ++ b)) else stk
  | _, _ => stk
def rAdd2 (K : PySem.W.Frag) : R2 := fun x y H Q => rI0 (fun i j => .int (i + j)) x y H Q ∨ rCat x y H Q ∨ rCatA K x y H Q
theorem op_add2 : OpR X (binaryOp .Add) (rAdd2 X.K) := by
  intro pins s σ H x y v u Q I rx ry h
  rcases h with h | h | h
  · exact op_add pins s σ H x y v u Q I rx ry h
  · exact op_cat pins s σ H x y v u Q I rx ry h
  · exact op_catA pins s σ H x y v u Q I rx ry h
theorem RpL.nil_iff {K : PySem.W.Frag} {G : Hp} {xs : List V} {ds : List D} (r : RpL K G xs ds) : xs = [] ↔ ds = [] := by
  constructor
  · intro e; subst e; exact List.eq_nil_of_length_eq_zero r.len.symm
  · intro e; subst e; exact r.nil_of
theorem snd_add {K : PySem.W.Frag} : SndO K W (rAdd2 K) oAdd := by
  intro θ G x y d e hx hy
  unfold oAdd
  split
  · rename_i i j
    intro ρ M r M' θ1 G1 σ H Q p s e rs rv kk
    exact .inl (snd_rI0 (K := K) (W := W) (g := fun i j => .int (i + j)) (g' := fun i j => .int (i + j)) (fun i j _ => .int _) θ G x y (.int i) (.int j) hx hy ρ M r M' θ1 G1 σ H Q p s e rs rv kk)
  · rename_i a b
    split
    · rename_i hl
      cases hx with
      | dat hx =>
        cases hy with
        | dat hy =>
          cases hx with
          | lst h1 l1 g1 =>
            cases hy with
            | lst h2 l2 g2 =>
              rename_i pa xs pb ys
              intro ρ M r M' θ1 G1 σ H Q p s e rs rv kk
              unfold ret at e
              cases e
              refine .inr (.inl ⟨pa, pb, xs, ys, rfl, rfl, rs.sub _ _ (s _ _ h1), rs.sub _ _ (s _ _ h2), by rw [l1, l2, sizeLine_eq]; exact hl, fun q hq => ?_⟩)
              have g := rs.fresh hq
              have r12 : RpL K G (xs ++ ys) (a ++ b) := RpL.append ⟨l1, g1⟩ ⟨l2, g2⟩
              exact (kk θ1 (upd G1 q (.lst (xs ++ ys))) _ (List.prefix_refl _) (same_upd g) (rs.laid hq _)).2 _ _ rfl (.dat (rp_lst upd_same (r12.mono (s.trans (same_upd g)))))
    · exact Snd.stk
  · rename_i a b
    split
    · rename_i hl
      cases hx with
      | dat hx =>
        cases hy with
        | dat hy =>
          cases hx with
          | tup h1 l1 g1 =>
            cases hy with
            | tup h2 l2 g2 =>
              rename_i pa xs pb ys
              intro ρ M r M' θ1 G1 σ H Q p s e rs rv kk
              unfold ret at e
              cases e
              have r1 : RpL K G xs a := ⟨l1, g1⟩
              have r2 : RpL K G ys b := ⟨l2, g2⟩
              refine .inr (.inr ⟨pa, pb, xs, ys, rfl, rfl, seqT rs.sub (seqT s h1), seqT rs.sub (seqT s h2), by rw [l1, l2, sizeLine_eq]; exact hl, fun z => ?_, fun _ z => ?_, fun _ _ q hq => ?_⟩)
              · rw [r1.nil_iff.mp z, List.nil_append] at kk
                exact (kk θ1 G1 H (List.prefix_refl _) (Same.refl _) rs).2 _ _ rfl (.dat ((Rp.tup h2 l2 g2).mono s))
              · rw [r2.nil_iff.mp z, List.append_nil] at kk
                exact (kk θ1 G1 H (List.prefix_refl _) (Same.refl _) rs).2 _ _ rfl (.dat ((Rp.tup h1 l1 g1).mono s))
              · have g := rs.fresh hq
                exact (kk θ1 (upd G1 q (.tup (xs ++ ys))) _ (List.prefix_refl _) (same_upd g) (rs.laid hq _)).2 _ _ rfl (.dat (rp_tup upd_same ((r1.append r2).mono (s.trans (same_upd g)))))
    · exact Snd.stk
  · exact Snd.stk
def oSub : D → D → Ev D := oI (fun _ _ => true) fun i j => .int (i - j)
def oMul : D → D → Ev D := oI (fun i j => decide (i.natAbs.log2 + j.natAbs.log2 < 1000000)) fun i j => .int (i * j)
def oDiv : D → D → Ev D := oI (fun i j => decide (j ≠ 0 ∧ j.natAbs.log2 < 9000)) fun i j => .int (i.fdiv j)
def oMod : D → D → Ev D := oI (fun i j => decide (j ≠ 0)) fun i j => .int (i.fmod j)
def oPow : D → D → Ev D := oI (fun i j => decide (0 ≤ j ∧ j ≤ 1000000 ∧ i.natAbs < 2 ^ 64)) fun i j => .int (i ^ j.toNat)
def CDivZ (_ j : Int) : Prop := j ≠ 0 ∧ j.natAbs.log2 < 9000
theorem op_fdivZ : OpR X (binaryOp .FloorDiv) (rI CDivZ fun i j => .int (i.fdiv j)) := opI fun i j _ _ _ _ _ hc q => floordiv_int hc.1 q (.inl (PyProof.noPylong_of_log2 hc.2))
variable {a b : Expr} {f g : Ev D}
theorem de_add (ha : DE X W a f) (hb : DE X W b g) : DE X W (.BinOp a .Add b pos) (bnd f fun d => bnd g fun e => oAdd d e) := de_op op_add2 snd_add ha hb
theorem de_sub (ha : DE X W a f) (hb : DE X W b g) : DE X W (.BinOp a .Sub b pos) (bnd f fun d => bnd g fun e => oSub d e) := de_op op_sub (snd_rI0 fun i j _ => .int _) ha hb
theorem de_mul (ha : DE X W a f) (hb : DE X W b g) : DE X W (.BinOp a .Mult b pos) (bnd f fun d => bnd g fun e => oMul d e) := de_op op_mulW (snd_rI (fun i j h => by unfold CMulW; exact of_decide_eq_true h) fun i j _ => .int _) ha hb
theorem de_div (ha : DE X W a f) (hb : DE X W b g) : DE X W (.BinOp a .FloorDiv b pos) (bnd f fun d => bnd g fun e => oDiv d e) := de_op op_fdivZ (snd_rI (fun i j h => by unfold CDivZ; exact of_decide_eq_true h) fun i j _ => .int _) ha hb
theorem de_mod (ha : DE X W a f) (hb : DE X W b g) : DE X W (.BinOp a .Mod b pos) (bnd f fun d => bnd g fun e => oMod d e) := de_op op_modN (snd_rI (fun i j h => of_decide_eq_true h) fun i j _ => .int _) ha hb
theorem de_pow (ha : DE X W a f) (hb : DE X W b g) : DE X W (.BinOp a .Pow b pos) (bnd f fun d => bnd g fun e => oPow d e) := de_op op_pow (snd_rI (fun i j h => by unfold CPow; exact of_decide_eq_true h) fun i j _ => .int _) ha hb
def oLt : D → D → Ev D := oI (fun _ _ => true) fun i j => .bl (decide (i < j))
def oLe : D → D → Ev D := oI (fun _ _ => true) fun i j => .bl (decide (i ≤ j))
def oGt : D → D → Ev D := oI (fun _ _ => true) fun i j => .bl (decide (j < i))
def oGe : D → D → Ev D := oI (fun _ _ => true) fun i j => .bl (decide (j ≤ i))
theorem de_lt (ha : DE X W a f) (hb : DE X W b g) : DE X W (.Compare a [.Lt] [b] pos) (bnd f fun d => bnd g fun e => oLt d e) := de_cmp op_lt (snd_rI0 fun i j _ => .bl _) ha hb (nomark _)
theorem de_gt (ha : DE X W a f) (hb : DE X W b g) : DE X W (.Compare a [.Gt] [b] pos) (bnd f fun d => bnd g fun e => oGt d e) := de_cmp op_gt (snd_rI0 fun i j _ => .bl _) ha hb (nomark _)
theorem dt_lt (ha : DE X W a f) (hb : DE X W b g) : DT X W (.Compare a [.Lt] [b] pos) (bnd (bnd f fun d => bnd g fun e => oLt d e) asB) := dt_cmp op_lt (snd_rI0 fun i j _ => .bl _) ha hb (nomark _)
theorem dt_gt (ha : DE X W a f) (hb : DE X W b g) : DT X W (.Compare a [.Gt] [b] pos) (bnd (bnd f fun d => bnd g fun e => oGt d e) asB) := dt_cmp op_gt (snd_rI0 fun i j _ => .bl _) ha hb (nomark _)
/-! ### equality of data -/
mutual
def toPy : D → PyData
  | .non => .none
  | .bl b => .bool b
  | .int i => .int i
  | .str z => .str z
  | .tup ds => .tuple (toPys ds)
  | .lst ds => .list (toPys ds)
  | .ptr _ => .none
  | .exv _ => .none
  | .dpt _ => .none
  | .npt _ => .none
  | .emp => .none
  | .scr ds => .list (toPys ds)
def toPys : List D → List PyData
  | [] => []
  | d :: ds => toPy d :: toPys ds
end
theorem dpAll_of {K : PySem.W.Frag} {H : Hp} : ∀ {xs : List V} {ds : List D}, xs.length = ds.length → (∀ (i : Nat) (v : V) (d : D), xs[i]? = some v → ds[i]? = some d → Dp K H v (toPy d)) → DpAll K H xs (toPys ds)
  | [], [], _, _ => .nil
  | v :: xs, d :: ds, l, h => .cons (h 0 v d rfl rfl) (dpAll_of (by simpa using l) fun i v d a b => h (i + 1) v d (by simpa using a) (by simpa using b))
  | [], _ :: _, l, _ => absurd l (by simp)
  | _ :: _, [], l, _ => absurd l (by simp)
mutual
/-- data that may be compared -/
def D.pl : D → Bool
  | .ptr _ => false
  | .dpt _ => false
  | .npt _ => false
  | .exv _ => false
  | .emp => false
  | .tup ds => plL ds
  | .lst ds => plL ds
  | .scr ds => plL ds
  | _ => true
def plL : List D → Bool
  | [] => true
  | d :: ds => D.pl d && plL ds
end
theorem plL_get : ∀ (ds : List D) (i : Nat) (d : D), plL ds = true → ds[i]? = some d → d.pl = true
  | [], i, d, _, h => by simp at h
  | e :: ds, 0, d, h, h2 => by
    simp at h2; subst h2
    unfold plL at h
    exact (Bool.and_eq_true_iff.mp h).1
  | e :: ds, i + 1, d, h, h2 => by
    unfold plL at h
    exact plL_get ds i d (Bool.and_eq_true_iff.mp h).2 (by simpa using h2)
theorem pl_np {d : D} (h : d.pl = true) : d.np = true := by
  cases d <;> first | rfl | (unfold D.pl at h; cases h)
theorem Rp.dp {K : PySem.W.Frag} {G : Hp} {v : V} {d : D} (h : Rp K G v d) (pl : d.pl = true) : Dp K G v (toPy d) := by
  induction h with
  | non => exact .non
  | bl b => exact .bl b
  | int i => exact .int i
  | str z => exact .str z
  | emp h => unfold D.pl at pl; cases pl
  | tup h l e ih => exact .tup h (dpAll_of l fun i v d a b => ih i v d a b (plL_get _ i d (by unfold D.pl at pl; exact pl) b))
  | lst h l e ih => exact .lst (.inl (.inl h)) (dpAll_of l fun i v d a b => ih i v d a b (plL_get _ i d (by unfold D.pl at pl; exact pl) b))
  | scr h l e ih => exact .lst h (dpAll_of l fun i v d a b => ih i v d a b (plL_get _ i d (by unfold D.pl at pl; exact pl) b))
def oEq (d e : D) : Ev D := if d.pl = true ∧ e.pl = true ∧ SeqAt.shaped (toPy d) = true ∧ SeqAt.shaped (toPy e) = true then ret (.bl (PyData.eqv (toPy d) (toPy e))) else stk
def oNe (d e : D) : Ev D := if d.pl = true ∧ e.pl = true ∧ SeqAt.shaped (toPy d) = true ∧ SeqAt.shaped (toPy e) = true then ret (.bl (!PyData.eqv (toPy d) (toPy e))) else stk
theorem snd_eqD {K : PySem.W.Frag} : SndO K W (rEqD K) oEq := by
  intro θ G x y d e hx hy
  unfold oEq
  split
  · rename_i c
    intro ρ M r M' θ1 G1 σ H Q p s e1 rs rv kk
    exact ⟨_, _, (((hx.rp (pl_np c.1)).mono s).mono rs.sub).dp c.1, (((hy.rp (pl_np c.2.1)).mono s).mono rs.sub).dp c.2.1, c.2.2.1, c.2.2.2, Snd.ret (K := K) (W := W) (R := RV K) (θ0 := θ) (G0 := G) (fun _ _ _ _ => rv_bl) ρ M r M' θ1 G1 σ H Q p s e1 rs rv kk⟩
  · exact Snd.stk
theorem snd_neD {K : PySem.W.Frag} : SndO K W (rNeD K) oNe := by
  intro θ G x y d e hx hy
  unfold oNe
  split
  · rename_i c
    intro ρ M r M' θ1 G1 σ H Q p s e1 rs rv kk
    exact ⟨_, _, (((hx.rp (pl_np c.1)).mono s).mono rs.sub).dp c.1, (((hy.rp (pl_np c.2.1)).mono s).mono rs.sub).dp c.2.1, c.2.2.1, c.2.2.2, Snd.ret (K := K) (W := W) (R := RV K) (θ0 := θ) (G0 := G) (fun _ _ _ _ => rv_bl) ρ M r M' θ1 G1 σ H Q p s e1 rs rv kk⟩
  · exact Snd.stk
theorem de_eq (hu : X.A.units + 64 < cLine) (ha : DE X W a f) (hb : DE X W b g) : DE X W (.Compare a [.Eq] [b] pos) (bnd f fun d => bnd g fun e => oEq d e) := de_cmp (op_eqD hu) snd_eqD ha hb (nomark _)
theorem de_ne (hu : X.A.units + 64 < cLine) (ha : DE X W a f) (hb : DE X W b g) : DE X W (.Compare a [.NotEq] [b] pos) (bnd f fun d => bnd g fun e => oNe d e) := de_cmp (op_neD hu) snd_neD ha hb (nomark _)
theorem dt_eq (hu : X.A.units + 64 < cLine) (ha : DE X W a f) (hb : DE X W b g) : DT X W (.Compare a [.Eq] [b] pos) (bnd (bnd f fun d => bnd g fun e => oEq d e) asB) := dt_cmp (op_eqD hu) snd_eqD ha hb (nomark _)
theorem dt_ne (hu : X.A.units + 64 < cLine) (ha : DE X W a f) (hb : DE X W b g) : DT X W (.Compare a [.NotEq] [b] pos) (bnd (bnd f fun d => bnd g fun e => oNe d e) asB) := dt_cmp (op_neD hu) snd_neD ha hb (nomark _)
/-! ### -x, abs, max, min, int, len -/
def oNeg (d : D) : Ev D := match d with
  | .int i => ret (.int (-i))
  | _ => stk
theorem de_neg (ha : DE X W a f) : DE X W (.UnaryOp .USub a pos) (bnd f oNeg) := by
  obtain ⟨t, p, s⟩ := ha
  refine ⟨_, pe_un un_neg p, fun θ G => (s θ G).bind (R2 := RV X.K) (k := fun (x : V) (_ : L2.St) (H : Hp) (Q : V → Hp → Prop) => rU (fun i => .int (-i)) x H Q) fun θ1 G1 v d _ _ hv => ?_⟩
  unfold oNeg
  split
  · rename_i i
    cases hv with
    | dat hv =>
      cases hv
      intro ρ M r M' θ2 G2 σ H Q p s e rs rv kk
      exact ⟨i, rfl, Snd.ret (K := X.K) (W := W) (R := RV X.K) (θ0 := θ1) (G0 := G1) (d := .int (-i)) (fun _ G _ _ => .dat (.int _)) ρ M r M' θ2 G2 σ H Q p s e rs rv kk⟩
  · exact Snd.stk
theorem de_callB {id : String} {r : List V → Hp → VK → Prop} {o : List D → Ev D} {x : Str} {p : Pos} {e : Expr} {es : List Expr} {h : Ev (List D)} (hc : CallR X (.builtin id) r) (so : SndC X.K W r o) (hm : X.mg x = none) (hv : bootBuiltins x = some (.builtin id)) (ha : DA X W (e :: es) h) (hg : Gl X x := by rfl) (hn : x ≠ "__name__" := by decide) (hdb : (x == ("__debug__" : Str)) = false := by decide)
    (he : starEach (e :: es) X.env = (false, eval e X.env) :: starEach es X.env := by rfl) (hpl : (backTo pos (starEach es X.env)).any (·.1) = false := by rfl) : DE X W (.Call (.Name x p) (e :: es) [] pos) (bnd h o) := by
  obtain ⟨t, q, s⟩ := ha
  exact ⟨_, pe_callB hc hg hm hv q hn hdb he hpl, snd_args so s⟩
theorem de_callTy {T : String} {r : List V → Hp → VK → Prop} {o : List D → Ev D} {x : Str} {p : Pos} {e : Expr} {es : List Expr} {h : Ev (List D)} (hc : CallR X (.type T) r) (so : SndC X.K W r o) (hm : X.mg x = none) (hv : bootBuiltins x = some (.type T)) (ha : DA X W (e :: es) h) (hg : Gl X x := by rfl) (hn : x ≠ "__name__" := by decide) (hdb : (x == ("__debug__" : Str)) = false := by decide)
    (he : starEach (e :: es) X.env = (false, eval e X.env) :: starEach es X.env := by rfl) (hpl : (backTo pos (starEach es X.env)).any (·.1) = false := by rfl) : DE X W (.Call (.Name x p) (e :: es) [] pos) (bnd h o) := by
  obtain ⟨t, q, s⟩ := ha
  exact ⟨_, pe_callTy hc hg hm hv q hn hdb he hpl, snd_args so s⟩
def o1I (h : Int → D) (ds : List D) : Ev D := match ds with
  | [.int i] => ret (h i)
  | _ => stk
def o2I (h : Int → Int → D) (ds : List D) : Ev D := match ds with
  | [.int i, .int j] => ret (h i j)
  | _ => stk
theorem vals1 {K : PySem.W.Frag} {θ : List Th} {G : Hp} {xs : List V} {d : D} (h : RvL K θ G xs [d]) : ∃ v, xs = [v] ∧ Rv K θ G v d := by
  obtain ⟨v, ys, rfl, hv, r⟩ := h.uncons
  rw [r.nil_of]
  exact ⟨v, rfl, hv⟩
theorem vals2 {K : PySem.W.Frag} {θ : List Th} {G : Hp} {xs : List V} {d e : D} (h : RvL K θ G xs [d, e]) : ∃ v u, xs = [v, u] ∧ Rv K θ G v d ∧ Rv K θ G u e := by
  obtain ⟨v, ys, rfl, hv, r⟩ := h.uncons
  obtain ⟨u, rfl, hu⟩ := vals1 r
  exact ⟨v, u, rfl, hv, hu⟩
theorem Rv.int_of {K : PySem.W.Frag} {θ : List Th} {G : Hp} {v : V} {i : Int} (h : Rv K θ G v (.int i)) : v = .int i := by
  cases h with
  | dat h => cases h; rfl
theorem Rv.bl_of {K : PySem.W.Frag} {θ : List Th} {G : Hp} {v : V} {i : Bool} (h : Rv K θ G v (.bl i)) : v = .bl i := by
  cases h with
  | dat h => cases h; rfl
theorem snd_1I {K : PySem.W.Frag} {r : List V → Hp → VK → Prop} {h : Int → D} {h' : Int → V} (hr : ∀ i H Q, Q (h' i) H → r [.int i] H Q) (hh : ∀ i G, Rp K G (h' i) (h i)) : SndC K W r (o1I h) := by
  intro θ0 G0 xs ds hx
  unfold o1I
  split
  · rename_i i
    obtain ⟨v, rfl, hv⟩ := vals1 hx
    rw [hv.int_of]
    intro ρ M r M' θ G σ H Q p s e rs rv kk
    exact hr i H Q (Snd.ret (K := K) (W := W) (R := RV K) (θ0 := θ0) (G0 := G0) (d := h i) (fun _ G _ _ => .dat (hh i G)) ρ M r M' θ G σ H Q p s e rs rv kk)
  · exact Snd.stk
theorem snd_2I {K : PySem.W.Frag} {r : List V → Hp → VK → Prop} {h : Int → Int → D} {h' : Int → Int → V} (hr : ∀ i j H Q, Q (h' i j) H → r [.int i, .int j] H Q) (hh : ∀ i j G, Rp K G (h' i j) (h i j)) : SndC K W r (o2I h) := by
  intro θ0 G0 xs ds hx
  unfold o2I
  split
  · rename_i i j
    obtain ⟨v, u, rfl, hv, hu⟩ := vals2 hx
    rw [hv.int_of, hu.int_of]
    intro ρ M r M' θ G σ H Q p s e rs rv kk
    exact hr i j H Q (Snd.ret (K := K) (W := W) (R := RV K) (θ0 := θ0) (G0 := G0) (d := h i j) (fun _ G _ _ => .dat (hh i j G)) ρ M r M' θ G σ H Q p s e rs rv kk)
  · exact Snd.stk
def oAbs : List D → Ev D := o1I fun i => .int (if i < 0 then -i else i)
def oMax : List D → Ev D := o2I fun i j => .int (if j > i then j else i)
def oMin : List D → Ev D := o2I fun i j => .int (if j < i then j else i)
def oToInt (ds : List D) : Ev D := match ds with
  | [.int i] => ret (.int i)
  | [.bl b] => ret (.int (if b then 1 else 0))
  | _ => stk
variable {p : Pos} {e : Expr} {es : List Expr} {h : Ev (List D)}
theorem de_abs (hm : X.mg "abs" = none) (ha : DA X W (e :: es) h) (hg : Gl X "abs" := by rfl) (he : starEach (e :: es) X.env = (false, eval e X.env) :: starEach es X.env := by rfl) (hpl : (backTo pos (starEach es X.env)).any (·.1) = false := by rfl) : DE X W (.Call (.Name "abs" p) (e :: es) [] pos) (bnd h oAbs) :=
  de_callB call_abs (snd_1I (h' := fun i => .int (if i < 0 then -i else i)) (fun i H Q q => ⟨i, rfl, q⟩) fun i G => .int _) hm (by decide +kernel) ha hg (by decide) (by decide) he hpl
theorem de_max (hc : X.calm = true) (hm : X.mg "max" = none) (ha : DA X W (e :: es) h) (hg : Gl X "max" := by rfl) (he : starEach (e :: es) X.env = (false, eval e X.env) :: starEach es X.env := by rfl) (hpl : (backTo pos (starEach es X.env)).any (·.1) = false := by rfl) : DE X W (.Call (.Name "max" p) (e :: es) [] pos) (bnd h oMax) :=
  de_callB (call_max2 hc) (snd_2I (h' := fun i j => .int (if j > i then j else i)) (fun i j H Q q => ⟨i, j, rfl, q⟩) fun i j G => .int _) hm (by decide +kernel) ha hg (by decide) (by decide) he hpl
theorem snd_toInt {K : PySem.W.Frag} : SndC K W (fun xs H Q => (∃ i, xs = [.int i] ∧ Q (.int i) H) ∨ ∃ k, xs = [.bl k] ∧ Q (.int (if k then 1 else 0)) H) oToInt := by
  intro θ0 G0 xs ds hx
  unfold oToInt
  split
  · rename_i i
    obtain ⟨v, rfl, hv⟩ := vals1 hx
    rw [hv.int_of]
    intro ρ M r M' θ G σ H Q p s e rs rv kk
    exact .inl ⟨i, rfl, Snd.ret (K := K) (W := W) (R := RV K) (θ0 := θ0) (G0 := G0) (d := .int i) (fun _ G _ _ => .dat (.int _)) ρ M r M' θ G σ H Q p s e rs rv kk⟩
  · rename_i i
    obtain ⟨v, rfl, hv⟩ := vals1 hx
    rw [hv.bl_of]
    intro ρ M r M' θ G σ H Q p s e rs rv kk
    exact .inr ⟨i, rfl, Snd.ret (K := K) (W := W) (R := RV K) (θ0 := θ0) (G0 := G0) (d := .int (if i then 1 else 0)) (fun _ G _ _ => .dat (.int _)) ρ M r M' θ G σ H Q p s e rs rv kk⟩
  · exact Snd.stk
theorem de_toInt (hm : X.mg "int" = none) (ha : DA X W (e :: es) h) (hg : Gl X "int" := by rfl) (he : starEach (e :: es) X.env = (false, eval e X.env) :: starEach es X.env := by rfl) (hpl : (backTo pos (starEach es X.env)).any (·.1) = false := by rfl) : DE X W (.Call (.Name "int" p) (e :: es) [] pos) (bnd h oToInt) :=
  de_callTy call_int1 snd_toInt hm (by decide +kernel) ha hg (by decide) (by decide) he hpl
/-! sequences -/
def seqOf (d : D) (M : Mem) : Option (List D) := match d with
  | .tup ds => some ds
  | .lst ds => some ds
  | .scr ds => some ds
  | .ptr n => match M[n]? with
    | some (some ds) => some ds
    | _ => none
  | _ => none
theorem seq_of {K : PySem.W.Frag} {θ : List Th} {G H : Hp} {M : Mem} {v : V} {d : D} {ds : List D} (rs : Rs K θ G H M) (hv : Rv K θ G v d) (h : seqOf d M = some ds) : ∃ a xs, v = .ref a ∧ (SqL K H a xs ∨ SqT K H a xs) ∧ RpL K G xs ds := by
  unfold seqOf at h
  split at h
  · cases h
    cases hv with
    | dat hv =>
      cases hv with
      | tup q l e => exact ⟨_, _, rfl, .inr (seqT rs.sub q), l, e⟩
  · cases h
    cases hv with
    | dat hv =>
      cases hv with
      | lst q l e => exact ⟨_, _, rfl, .inl (.inl (.inl (rs.sub _ _ q))), l, e⟩
  · cases h
    cases hv with
    | dat hv =>
      cases hv with
      | scr q l e => exact ⟨_, _, rfl, .inl (rs.sub.seq q), l, e⟩
  · rename_i n
    split at h
    · rename_i es hm
      cases h
      cases hv with
      | dat hv => cases hv
      | ptr hn =>
        obtain ⟨g, xs, hx, rl⟩ := rs.mem n _ _ hn hm
        exact ⟨_, xs, rfl, .inl (.inl (.inl hx)), rl⟩
    · cases h
  · cases h
def oLen (ds : List D) : Ev D := fun ρ M => match ds with
  | [d] => match seqOf d M with
    | some es => some (.ok (.int es.length), M)
    | none => none
  | _ => none
theorem snd_len {K : PySem.W.Frag} : SndC K W (fun xs H Q => ∃ p ys, xs = [.ref p] ∧ (SqL K H p ys ∨ SqT K H p ys) ∧ Q (.int ys.length) H) oLen := by
  intro θ0 G0 xs ds hx ρ M r M' θ G σ H Q p s e rs rv kk
  unfold oLen at e
  split at e
  · rename_i d
    split at e
    · rename_i es he
      cases e
      obtain ⟨v, rfl, hv⟩ := vals1 hx
      obtain ⟨a, xs, rfl, q, rl⟩ := seq_of rs (hv.mono p s) he
      refine ⟨a, xs, rfl, q, (kk θ G H (List.prefix_refl _) (Same.refl _) rs).2 _ _ rfl ?_⟩
      rw [rl.len]
      exact .dat (.int _)
    · cases e
  · cases e
theorem de_len (hm : X.mg "len" = none) (ha : DA X W (e :: es) h) (hg : Gl X "len" := by rfl) (he : starEach (e :: es) X.env = (false, eval e X.env) :: starEach es X.env := by rfl) (hpl : (backTo pos (starEach es X.env)).any (·.1) = false := by rfl) : DE X W (.Call (.Name "len" p) (e :: es) [] pos) (bnd h oLen) :=
  de_callB call_len_seq snd_len hm PySem.boot_len ha hg (by decide) (by decide) he hpl
/-! x[i] -/
def oIx (d e : D) : Ev D := fun ρ M => match e, seqOf d M with
  | .int i, some ds => match atI ds i with
    | some x => some (.ok x, M)
    | none => none
  | _, _ => none
theorem atI_of {K : PySem.W.Frag} {G : Hp} {xs : List V} {ds : List D} (r : RpL K G xs ds) {i : Int} {d : D} (h : atI ds i = some d) : ∃ v, atI xs i = some v ∧ Rp K G v d := by
  unfold atI at h ⊢
  rw [r.len]
  cases q : ixN ds.length i with
  | none => rw [q] at h; cases h
  | some j =>
    rw [q] at h
    exact r.at h
def rIxLT (K : PySem.W.Frag) : R2 := fun x y H Q => rIxL K x y H Q ∨ rIxT K x y H Q
theorem ix_LT : IxR X (rIxLT X.K) := ix_list.or ix_tup
theorem snd_ix {K : PySem.W.Frag} : SndO K W (rIxLT K) oIx := by
  intro θ0 G0 x y d e hx hy ρ M r M' θ G σ H Q p s e1 rs rv kk
  unfold oIx at e1
  split at e1
  · rename_i i ds hd
    split at e1
    · rename_i z hz
      cases e1
      have hi := hy.int_of
      subst hi
      obtain ⟨a, xs, rfl, q, rl⟩ := seq_of rs (hx.mono p s) hd
      obtain ⟨v, ev, rz⟩ := atI_of rl hz
      have fin := (kk θ G H (List.prefix_refl _) (Same.refl _) rs).2 _ v rfl (.dat rz)
      rcases q with q | q
      · exact .inl ⟨a, xs, i, v, rfl, rfl, q, ev, fin⟩
      · exact .inr ⟨a, xs, i, v, rfl, rfl, q, ev, fin⟩
    · cases e1
  · cases e1
theorem de_ix (ha : DE X W a f) (hb : DE X W b g) (hs : PlainIx b := by exact fun _ _ => rfl) : DE X W (.Subscript a b pos) (bnd f fun d => bnd g fun e => oIx d e) := by
  obtain ⟨ta, pa, sa⟩ := ha
  obtain ⟨tb, pb, sb⟩ := hb
  exact ⟨_, pe_ix ix_LT pa pb hs, fun θ G => snd_op snd_ix sa sb⟩
end
end Bw
namespace Bw
open PySem PySem.Spec PyProof.Rows L2
inductive Out where
  | nx (ρ : Env) | rt (d : D) | bk (ρ : Env) | ct (ρ : Env) | ex (C : Str) (ρ : Env)
abbrev Sv := Env → Mem → Option (Out × Mem)
/-- what the ends ask -/
structure Cont (K : PySem.W.Frag) (W : WN) (Dn : Ends) (o : Out) (θ : List Th) (G H : Hp) : Prop where
  nx : ∀ ρ σ, o = .nx ρ → Rσ K θ G σ ρ → Dn.nx σ H
  bk : ∀ ρ σ, o = .bk ρ → Rσ K θ G σ ρ → Dn.bk σ H
  ct : ∀ ρ σ, o = .ct ρ → Rσ K θ G σ ρ → Dn.ct σ H
  rt : ∀ d v, o = .rt d → Rv K θ G v d → Dn.rt v H
  ex : ∀ C ρ σ, o = .ex C ρ → Rσ K θ G σ ρ → W C σ H
def SndS (K : PySem.W.Frag) (W : WN) (t : TS) (f : Sv) : Prop :=
  ∀ (ρ : Env) (M : Mem) (o : Out) (M' : Mem) (θ : List Th) (G : Hp) (σ : L2.St) (H : Hp) (Dn : Ends), f ρ M = some (o, M') → Rs K θ G H M → Rσ K θ G σ ρ →
    (∀ (θ' : List Th) (G' H' : Hp), θ <+: θ' → Same G G' → Rs K θ' G' H' M' → Cont K W Dn o θ' G' H') → t Dn σ H
def DS (X : Cx) (W : WN) (st : Stmt) (f : Sv) : Prop := ∃ t, PS X st t ∧ SndS X.K W t f
def DSs (X : Cx) (W : WN) (st : List Stmt) (f : Sv) : Prop := ∃ t, PSs X st t ∧ SndS X.K W t f
/-- an expression, then a statement by its value -/
def thenS {α : Type} (f : Ev α) (g : α → Sv) : Sv := fun ρ M => match f ρ M with
  | some (.ok a, M1) => g a ρ M1
  | some (.exc C, M1) => some (.ex C ρ, M1)
  | none => none
def sNext : Sv := fun ρ M => some (.nx ρ, M)
def sSeq (f g : Sv) : Sv := fun ρ M => match f ρ M with
  | some (.nx ρ1, M1) => g ρ1 M1
  | r => r
section
variable {X : Cx} {W : WN} {pos : Pos} {K : PySem.W.Frag}
theorem snd_then {A α : Type} {R : List Th → Hp → A → α → Prop} {t : L2.St → Hp → (A → Hp → Prop) → Prop} {f : Ev α} {k : A → TS} {g : α → Sv} (h : ∀ θ G, Snd K W R θ G t f)
    (h2 : ∀ θ G v d, R θ G v d → ∀ (ρ : Env) (M : Mem) (o : Out) (M' : Mem) (σ : L2.St) (H : Hp) (Dn : Ends), g d ρ M = some (o, M') → Rs K θ G H M → Rσ K θ G σ ρ →
      (∀ (θ' : List Th) (G' H' : Hp), θ <+: θ' → Same G G' → Rs K θ' G' H' M' → Cont K W Dn o θ' G' H') → k v Dn σ H) :
    SndS K W (fun Dn σ H => t σ H fun v H1 => k v Dn σ H1) (thenS f g) := by
  intro ρ M o M' θ G σ H Dn e rs rv kk
  unfold thenS at e
  cases q : f ρ M with
  | none => rw [q] at e; cases e
  | some z =>
    obtain ⟨r1, M1⟩ := z
    rw [q] at e
    refine h θ G ρ M r1 M1 θ G σ H _ (List.prefix_refl _) (Same.refl _) q rs rv fun θ' G' H' p' s' rs' => ?_
    cases r1 with
    | exc C =>
      simp at e
      obtain ⟨e1, e2⟩ := e
      subst e1; subst e2
      exact ⟨fun C' h => by cases h; exact (kk θ' G' H' p' s' rs').ex C ρ σ rfl (rv.mono p' s'), fun d v h => (by cases h)⟩
    | ok a =>
      refine ⟨fun C' h => (by cases h), fun d v h rel => ?_⟩
      cases h
      exact h2 θ' G' v a rel ρ M1 o M' σ H' Dn e rs' (rv.mono p' s') fun θ2 G2 H2 p2 s2 rs2 => kk θ2 G2 H2 (p'.trans p2) (s'.trans s2) rs2
theorem dss_nil : DSs X W [] sNext := by
  refine ⟨_, pss_nil, fun ρ M o M' θ G σ H Dn e rs rv kk => ?_⟩
  unfold sNext at e
  cases e
  exact (kk θ G H (List.prefix_refl _) (Same.refl _) rs).nx ρ σ rfl rv
theorem snd_seq {t u : TS} {f g : Sv} (s1 : SndS K W t f) (s2 : SndS K W u g) : SndS K W (tSeq t u) (sSeq f g) := by
  intro ρ M o M' θ G σ H Dn e rs rv kk
  unfold sSeq at e
  cases q : f ρ M with
  | none => rw [q] at e; cases e
  | some z =>
    obtain ⟨o1, M1⟩ := z
    rw [q] at e
    refine s1 ρ M o1 M1 θ G σ H _ q rs rv fun θ' G' H' p' s' rs' => ?_
    cases o1 with
    | nx ρ1 =>
      refine ⟨fun ρ2 σ2 h r2 => ?_, fun ρ2 σ2 h => (by cases h), fun ρ2 σ2 h => (by cases h), fun d v h => (by cases h), fun C ρ2 σ2 h => (by cases h)⟩
      cases h
      exact s2 ρ1 M1 o M' θ' G' σ2 H' Dn e rs' r2 fun θ2 G2 H2 p2 s2 rs2 => kk θ2 G2 H2 (p'.trans p2) (s'.trans s2) rs2
    | bk ρ1 =>
      cases e
      have c := kk θ' G' H' p' s' rs'
      exact ⟨fun ρ2 σ2 h => (by cases h), c.bk, c.ct, c.rt, c.ex⟩
    | ct ρ1 =>
      cases e
      have c := kk θ' G' H' p' s' rs'
      exact ⟨fun ρ2 σ2 h => (by cases h), c.bk, c.ct, c.rt, c.ex⟩
    | rt d =>
      cases e
      have c := kk θ' G' H' p' s' rs'
      exact ⟨fun ρ2 σ2 h => (by cases h), c.bk, c.ct, c.rt, c.ex⟩
    | ex C ρ1 =>
      cases e
      have c := kk θ' G' H' p' s' rs'
      exact ⟨fun ρ2 σ2 h => (by cases h), c.bk, c.ct, c.rt, c.ex⟩
theorem dss_cons {st : Stmt} {rest : List Stmt} {f g : Sv} (h1 : DS X W st f) (h2 : DSs X W rest g) : DSs X W (st :: rest) (sSeq f g) := by
  obtain ⟨t, p, s⟩ := h1
  obtain ⟨u, p2, s2⟩ := h2
  exact ⟨_, pss_cons p p2, snd_seq s s2⟩
theorem dss_one {st : Stmt} {f : Sv} (h1 : DS X W st f) : DSs X W [st] f := by
  obtain ⟨t, p, s⟩ := h1
  exact ⟨_, pss_one p, s⟩
/-! ### targets -/
abbrev Tg := D → Env → Option Env
/-- which slots a target writes -/
def Wr (sl : List Nat) (σ σ' : L2.St) : Prop := ∀ vs : List Nat, (∀ i ∈ sl, i ∈ vs) → wipe σ' vs = wipe σ vs
theorem wipe_set {σ : L2.St} {i : Nat} {x : Option V} : ∀ vs : List Nat, wipe (σ.set i x) vs = if i ∈ vs then wipe σ vs else (wipe σ vs).set i x
  | [] => by simp [wipe]
  | v :: vs => by
    unfold wipe
    rw [wipe_set vs]
    by_cases h : i ∈ vs
    · simp [h]
    · by_cases hv : i = v
      · subst hv; simp [h]
      · simp [h, hv, List.set_comm _ _ hv]
theorem Wr.refl {sl : List Nat} {σ : L2.St} : Wr sl σ σ := fun _ _ => rfl
def SndG (K : PySem.W.Frag) (g : TG) (b : Tg) (sl : List Nat) : Prop := ∀ (d : D) (ρ ρ' : Env) (θ : List Th) (G : Hp) (σ : L2.St) (H : Hp) (M : Mem) (Q : L2.St → Hp → Prop) (v : V), b d ρ = some ρ' → Rs K θ G H M → Rσ K θ G σ ρ → Rv K θ G v d → (∀ σ', Rσ K θ G σ' ρ' → Wr sl σ σ' → Q σ' H) → g v σ H Q
def SndGs (K : PySem.W.Frag) (g : TGs) (b : List D → Env → Option Env) (sl : List Nat) : Prop := ∀ (ds : List D) (ρ ρ' : Env) (θ : List Th) (G : Hp) (σ : L2.St) (H : Hp) (M : Mem) (Q : L2.St → Hp → Prop) (vs : List V), b ds ρ = some ρ' → Rs K θ G H M → Rσ K θ G σ ρ → RpL K G vs ds → (∀ σ', Rσ K θ G σ' ρ' → Wr sl σ σ' → Q σ' H) → g vs σ H Q
def DG (X : Cx) (tg : Expr) (b : Tg) (sl : List Nat) : Prop := ∃ g, PG X tg g ∧ SndG X.K g b sl
def DGs (X : Cx) (tg : List Expr) (b : List D → Env → Option Env) (sl : List Nat) : Prop := ∃ g, PGs X tg g ∧ SndGs X.K g b sl
def gNm (i : Nat) : Tg := fun d ρ => some (ρ.set i (some d))
def gNl : List D → Env → Option Env := fun ds ρ => match ds with
  | [] => some ρ
  | _ => none
def gCn (b : Tg) (c : List D → Env → Option Env) : List D → Env → Option Env := fun ds ρ => match ds with
  | d :: r => match b d ρ with
    | some ρ1 => c r ρ1
    | none => none
  | [] => none
def gTp (n : Nat) (c : List D → Env → Option Env) : Tg := fun d ρ => match d with
  | .tup ds => if ds.length = n then c ds ρ else none
  | _ => none
def gLs (n : Nat) (c : List D → Env → Option Env) : Tg := fun d ρ => match d with
  | .lst ds => if ds.length = n then c ds ρ else none
  | _ => none
theorem dg_name (i : Nat) {x : Str} (hN : X.N.Nodup) (hi : X.N[i]? = some x := by rfl) (hx : Loc X.env.scope x := by first | exact .inl rfl | exact .inr rfl) (hf : X.fn x = true ∨ X.env.scope.names.lookup x = some .local := by first | exact .inl rfl | exact .inr rfl) : DG X (.Name x pos) (gNm i) [i] := by
  refine ⟨_, pg_name hN hi hx hf, fun d ρ ρ' θ G σ H M Q v e rs rv hv k => ?_⟩
  unfold gNm at e
  cases e
  exact k _ (rv.set hv) fun vs h => by rw [wipe_set, if_pos (h i (by simp))]
theorem dgs_nil : DGs X [] gNl [] := by
  refine ⟨_, pgs_nil, fun ds ρ ρ' θ G σ H M Q vs e rs rv hv k => ?_⟩
  unfold gNl at e
  split at e
  · cases e
    exact ⟨hv.nil_of, k _ rv Wr.refl⟩
  · cases e
theorem dgs_cons {e : Expr} {es : List Expr} {b : Tg} {c : List D → Env → Option Env} {sl sl2 : List Nat} (h1 : DG X e b sl) (h2 : DGs X es c sl2) (hs : (assignEach (e :: es) X.env).map (·.2) = assign e X.env :: (assignEach es X.env).map (·.2) := by rfl) : DGs X (e :: es) (gCn b c) (sl ++ sl2) := by
  obtain ⟨g, p, s⟩ := h1
  obtain ⟨u, p2, s2⟩ := h2
  refine ⟨_, pgs_cons p p2 hs, fun ds ρ ρ' θ G σ H M Q vs e rs rv hv k => ?_⟩
  unfold gCn at e
  split at e
  · rename_i d r
    split at e
    · rename_i ρ1 h1
      obtain ⟨v, ys, rfl, hv1, hvs⟩ := hv.uncons
      exact ⟨v, ys, rfl, s d ρ ρ1 θ G σ H M _ v h1 rs rv (.dat hv1) fun σ1 r1 w1 => s2 r ρ1 ρ' θ G σ1 H M Q ys e rs r1 hvs fun σ2 r2 w2 => k σ2 r2 fun vs h => (w2 vs fun i hi => h i (by simp [hi])).trans (w1 vs fun i hi => h i (by simp [hi]))⟩
    · cases e
  · cases e
theorem dg_tup {es : List Expr} {k n : Nat} {c : List D → Env → Option Env} {sl : List Nat} (hc : X.calm = true) (h : DGs X es c sl) (hn : (assignEach es X.env).length = n := by rfl) (hst : (assignEach es X.env).findIdx? (·.1) = none := by rfl) : DG X (.Tuple es k pos) (gTp n c) sl := by
  obtain ⟨g, p, s⟩ := h
  refine ⟨_, pg_tup hc p hn hst, fun d ρ ρ' θ G σ H M Q v e rs rv hv k => ?_⟩
  unfold gTp at e
  split at e
  · rename_i ds
    split at e
    · rename_i hl
      cases hv with
      | dat hv =>
        cases hv with
        | tup q l g => exact ⟨_, _, rfl, seqT rs.sub q, l.trans hl, s ds ρ ρ' θ G σ H M Q _ e rs rv ⟨l, g⟩ k⟩
    · cases e
  · cases e
/-! ### statements -/
def sAsg (f : Ev D) (b : Tg) : Sv := thenS f fun d ρ M => match b d ρ with
  | some ρ1 => some (.nx ρ1, M)
  | none => none
theorem snd_asg {t : TE} {g : TG} {f : Ev D} {b : Tg} {sl : List Nat} (s : ∀ θ G, Snd K W (RV K) θ G t f) (s2 : SndG K g b sl) : SndS K W (tAsg t g) (sAsg f b) := by
  refine snd_then (k := fun v (Dn : Ends) σ H1 => g v σ H1 Dn.nx) s fun θ G v d hv ρ M o M' σ H Dn e rs rv kk => ?_
  split at e
  · rename_i ρ1 h1
    cases e
    exact s2 d ρ ρ1 θ G σ H M _ v h1 rs rv hv fun σ' r' _ => (kk θ G H (List.prefix_refl _) (Same.refl _) rs).nx ρ1 σ' rfl r'
  · cases e
theorem ds_set (i : Nat) {x : Str} {e : Expr} {f : Ev D} {pos' : Pos} (hN : X.N.Nodup) (he : DE X W e f) (hi : X.N[i]? = some x := by rfl) (hx : Loc X.env.scope x := by first | exact .inl rfl | exact .inr rfl) (hs : swapsWith e (some (.Name x pos')) pos.line X.env = pure false := by rfl) (hf : X.fn x = true ∨ X.env.scope.names.lookup x = some .local := by first | exact .inl rfl | exact .inr rfl) :
    DS X W (.Assign [.Name x pos'] e pos) (sAsg f (gNm i)) := by
  obtain ⟨t, p, s⟩ := he
  refine ⟨_, ps_set hN hi hx p hs hf, snd_asg (sl := [i]) s fun d ρ ρ' θ G σ H M Q v e rs rv hv k => ?_⟩
  unfold gNm at e
  cases e
  exact k _ (rv.set hv) fun vs h => by rw [wipe_set, if_pos (h i (by simp))]
theorem ds_asg {tg e : Expr} {f : Ev D} {b : Tg} {sl : List Nat} (he : DE X W e f) (hg : DG X tg b sl) (hs : swapsWithSole [tg] e pos.line X.env = pure false := by rfl) (hw : swappedStores [tg] e X.env = pure none := by rfl)
    (h1 : (assignEach [tg] X.env).map (·.2) = [assign tg X.env] := by rfl) : DS X W (.Assign [tg] e pos) (sAsg f b) := by
  obtain ⟨t, p, s⟩ := he
  obtain ⟨g, p2, s2⟩ := hg
  exact ⟨_, ps_asg p p2 hs hw h1, snd_asg s s2⟩
/-- a, b = x, y -/
def sPar (i j : Nat) (f : Ev (List D)) : Sv := thenS f fun ds ρ M => match ds with
  | [d, e] => some (.nx ((ρ.set i (some d)).set j (some e)), M)
  | _ => none
theorem ds_par (i j : Nat) {x y : Str} {a b : Expr} {f : Ev (List D)} {px py pt : Pos} {kt k2 : Nat} {pt2 : Pos} (hN : X.N.Nodup) (ha : DA X W [a, b] f) (hc : X.calm = true := by rfl) (hi : X.N[i]? = some x := by rfl) (hj : X.N[j]? = some y := by rfl) (hij : i ≠ j := by decide)
    (hx : X.env.scope.names.lookup x = some .local := by rfl) (hy : X.env.scope.names.lookup y = some .local := by rfl)
    (hw : swappedStores [.Tuple [.Name x px, .Name y py] kt pt] (.Tuple [a, b] k2 pt2) X.env = pure (some [x, y]) := by rfl)
    (hs : swapsWithSole [.Tuple [.Name x px, .Name y py] kt pt] (.Tuple [a, b] k2 pt2) pos.line X.env = pure false := by rfl) :
    DS X W (.Assign [.Tuple [.Name x px, .Name y py] kt pt] (.Tuple [a, b] k2 pt2) pos) (sPar i j f) := by
  obtain ⟨t, p, s⟩ := ha
  refine ⟨_, ps_par hc hN hi hj hij hx hy p hw hs, ?_⟩
  refine snd_then (k := fun vs (Dn : Ends) σ H1 => ∃ v w, vs = [v, w] ∧ Dn.nx ((σ.set i (some v)).set j (some w)) H1) s fun θ G vs ds hv ρ M o M' σ H Dn e rs rv kk => ?_
  split at e
  · rename_i d e'
    cases e
    obtain ⟨v, u, rfl, h1, h2⟩ := vals2 hv
    exact ⟨v, u, rfl, (kk θ G H (List.prefix_refl _) (Same.refl _) rs).nx _ _ rfl ((rv.set h1).set h2)⟩
  · cases e
def sRet (f : Ev D) : Sv := thenS f fun d _ M => some (.rt d, M)
theorem ds_ret {e : Expr} {f : Ev D} (he : DE X W e f) : DS X W (.Return (some e) pos) (sRet f) := by
  obtain ⟨t, p, s⟩ := he
  refine ⟨_, ps_ret p, ?_⟩
  refine snd_then (k := fun v (Dn : Ends) σ H1 => Dn.rt v H1) s fun θ G v d hv ρ M o M' σ H Dn e rs rv kk => ?_
  cases e
  exact (kk θ G H (List.prefix_refl _) (Same.refl _) rs).rt d v rfl hv
def sExpr (f : Ev D) : Sv := thenS f fun _ ρ M => some (.nx ρ, M)
def sIf (c : Ev Bool) (f g : Sv) : Sv := thenS c fun b => if b = true then f else g
theorem ds_if {c : Expr} {a b : List Stmt} {h : Ev Bool} {f g : Sv} (hc : DT X W c h) (ha : DSs X W a f) (hb : DSs X W b g) : DS X W (.If c a b pos) (sIf h f g) := by
  obtain ⟨t, p, s⟩ := hc
  obtain ⟨u, p2, s2⟩ := ha
  obtain ⟨z, p3, s3⟩ := hb
  refine ⟨_, ps_if p p2 p3, ?_⟩
  refine snd_then (k := fun (b : Bool) (Dn : Ends) σ H1 => if b = true then u Dn σ H1 else z Dn σ H1) s fun θ G v d hv ρ M o M' σ H Dn e rs rv kk => ?_
  cases hv
  cases v with
  | true =>
    rw [if_pos rfl] at e ⊢
    exact s2 ρ M o M' θ G σ H Dn e rs rv kk
  | false =>
    rw [if_neg Bool.false_ne_true] at e ⊢
    exact s3 ρ M o M' θ G σ H Dn e rs rv kk
def sNever : Sv := fun _ _ => none
/-! ### while -/
def whileF (c : Ev Bool) (b : Sv) : Nat → Sv
  | 0 => fun _ _ => none
  | n + 1 => fun ρ M => match c ρ M with
    | some (.ok true, M1) => match b ρ M1 with
      | some (.nx ρ2, M2) => whileF c b n ρ2 M2
      | some (.ct ρ2, M2) => whileF c b n ρ2 M2
      | some (.bk ρ2, M2) => some (.nx ρ2, M2)
      | r => r
    | some (.ok false, M1) => some (.nx ρ, M1)
    | some (.exc C, M1) => some (.ex C ρ, M1)
    | none => none
theorem whileF_succ {c : Ev Bool} {b : Sv} : ∀ {n : Nat} {ρ : Env} {M : Mem} {r : Out × Mem}, whileF c b n ρ M = some r → whileF c b (n + 1) ρ M = some r
  | 0, ρ, M, r, h => by cases h
  | n + 1, ρ, M, r, h => by
    unfold whileF at h ⊢
    cases q : c ρ M with
    | none => rw [q] at h; cases h
    | some z =>
      obtain ⟨x, M1⟩ := z
      rw [q] at h
      cases x with
      | exc C => exact h
      | ok k =>
        cases k with
        | false => exact h
        | true =>
          dsimp only at h ⊢
          cases q2 : b ρ M1 with
          | none => rw [q2] at h; cases h
          | some z2 =>
            obtain ⟨o, M2⟩ := z2
            rw [q2] at h
            cases o with
            | nx ρ2 => exact whileF_succ h
            | ct ρ2 => exact whileF_succ h
            | bk ρ2 => exact h
            | rt d => exact h
            | ex C ρ2 => exact h
theorem whileF_le {c : Ev Bool} {b : Sv} {m n : Nat} (h : m ≤ n) {ρ : Env} {M : Mem} {r : Out × Mem} (e : whileF c b m ρ M = some r) : whileF c b n ρ M = some r := by
  induction h with
  | refl => exact e
  | step _ ih => exact whileF_succ ih
open Classical in
noncomputable def sWhile (c : Ev Bool) (b : Sv) : Sv := fun ρ M => if h : ∃ r n, whileF c b n ρ M = some r then some (Classical.choose h) else none
theorem sWhile_eq {c : Ev Bool} {b : Sv} {n : Nat} {ρ : Env} {M : Mem} {r : Out × Mem} (e : whileF c b n ρ M = some r) : sWhile c b ρ M = some r := by
  have h : ∃ r n, whileF c b n ρ M = some r := ⟨r, n, e⟩
  unfold sWhile
  rw [dif_pos h]
  obtain ⟨m, hm⟩ := Classical.choose_spec h
  have e1 := whileF_le (Nat.le_max_left m n) hm
  have e2 := whileF_le (Nat.le_max_right m n) e
  rw [e1] at e2
  exact e2
theorem sWhile_of {c : Ev Bool} {b : Sv} {ρ : Env} {M : Mem} {r : Out × Mem} (e : sWhile c b ρ M = some r) : ∃ n, whileF c b n ρ M = some r := by
  unfold sWhile at e
  split at e
  · rename_i h
    obtain ⟨m, hm⟩ := Classical.choose_spec h
    exact ⟨m, by rw [hm]; exact e⟩
  · cases e
theorem ds_while {c : Expr} {body : List Stmt} {h : Ev Bool} {f : Sv} (hp : PassesOwn (model X.prog X.w) X.A X.env X.xe) (hc : DT X W c h) (hb : DSs X W body f) : DS X W (.While c body [] pos) (sWhile h f) := by
  obtain ⟨tc, p, s⟩ := hc
  obtain ⟨tb, p2, s2⟩ := hb
  refine ⟨_, ps_while hp p p2, fun ρ M o M' θ G σ H Dn e rs rv kk => ?_⟩
  obtain ⟨n, hn⟩ := sWhile_of e
  refine ⟨fun m σ1 H1 => ∃ ρ1 M1 θ1 G1, θ <+: θ1 ∧ Same G G1 ∧ Rs X.K θ1 G1 H1 M1 ∧ Rσ X.K θ1 G1 σ1 ρ1 ∧ whileF h f m ρ1 M1 = some (o, M'), ⟨n, ρ, M, θ, G, List.prefix_refl _, Same.refl _, rs, rv, hn⟩, ?_⟩
  rintro m σ1 H1 ⟨ρ1, M1, θ1, G1, pr, sa, rs1, rv1, w⟩
  cases m with
  | zero => cases w
  | succ m =>
    unfold whileF at w
    cases q : h ρ1 M1 with
    | none => rw [q] at w; cases w
    | some z =>
      obtain ⟨x, M2⟩ := z
      rw [q] at w
      refine s θ1 G1 ρ1 M1 x M2 θ1 G1 σ1 H1 _ (List.prefix_refl _) (Same.refl _) q rs1 rv1 fun θ2 G2 H2 p2 sa2 rs2 => ?_
      cases x with
      | exc C =>
        cases w
        exact ⟨fun C' h => by cases h; exact (kk θ2 G2 H2 (pr.trans p2) (sa.trans sa2) rs2).ex C ρ1 σ1 rfl (rv1.mono p2 sa2), fun d v h => (by cases h)⟩
      | ok k =>
        refine ⟨fun C' h => (by cases h), fun d v h hv => ?_⟩
        cases h
        cases hv
        cases k with
        | false =>
          cases w
          rw [if_neg Bool.false_ne_true]
          exact (kk θ2 G2 H2 (pr.trans p2) (sa.trans sa2) rs2).nx ρ1 σ1 rfl (rv1.mono p2 sa2)
        | true =>
          rw [if_pos rfl]
          dsimp only at w
          refine ⟨fun σ3 H3 => ∃ ρ3 M3 θ3 G3, θ <+: θ3 ∧ Same G G3 ∧ Rs X.K θ3 G3 H3 M3 ∧ Rσ X.K θ3 G3 σ3 ρ3 ∧ whileF h f m ρ3 M3 = some (o, M'), fun σ' H' hN => ⟨m, Nat.lt_succ_self m, hN⟩, ?_⟩
          cases q2 : f ρ1 M2 with
          | none => rw [q2] at w; cases w
          | some z2 =>
            obtain ⟨o2, M3⟩ := z2
            rw [q2] at w
            refine s2 ρ1 M2 o2 M3 θ2 G2 σ1 H2 _ q2 rs2 (rv1.mono p2 sa2) fun θ3 G3 H3 p3 sa3 rs3 => ?_
            have pr3 := (pr.trans p2).trans p3
            have sm3 := (sa.trans sa2).trans sa3
            cases o2 with
            | nx ρ3 => exact ⟨fun ρ4 σ4 h r4 => by cases h; exact ⟨ρ3, M3, θ3, G3, pr3, sm3, rs3, r4, w⟩, fun _ _ h => (by cases h), fun _ _ h => (by cases h), fun _ _ h => (by cases h), fun _ _ _ h => (by cases h)⟩
            | ct ρ3 => exact ⟨fun _ _ h => (by cases h), fun _ _ h => (by cases h), fun ρ4 σ4 h r4 => by cases h; exact ⟨ρ3, M3, θ3, G3, pr3, sm3, rs3, r4, w⟩, fun _ _ h => (by cases h), fun _ _ _ h => (by cases h)⟩
            | bk ρ3 =>
              cases w
              exact ⟨fun _ _ h => (by cases h), fun ρ4 σ4 h r4 => by cases h; exact (kk θ3 G3 H3 pr3 sm3 rs3).nx ρ3 σ4 rfl r4, fun _ _ h => (by cases h), fun _ _ h => (by cases h), fun _ _ _ h => (by cases h)⟩
            | rt d =>
              cases w
              exact ⟨fun _ _ h => (by cases h), fun _ _ h => (by cases h), fun _ _ h => (by cases h), (kk θ3 G3 H3 pr3 sm3 rs3).rt, fun _ _ _ h => (by cases h)⟩
            | ex C ρ3 =>
              cases w
              exact ⟨fun _ _ h => (by cases h), fun _ _ h => (by cases h), fun _ _ h => (by cases h), fun _ _ h => (by cases h), (kk θ3 G3 H3 pr3 sm3 rs3).ex⟩
/-! ### for -/
def forF (b : Tg) (f : Sv) : List D → Sv
  | [] => fun ρ M => some (.nx ρ, M)
  | d :: ds => fun ρ M => match b d ρ with
    | none => none
    | some ρ1 => match f ρ1 M with
      | some (.nx ρ2, M2) => forF b f ds ρ2 M2
      | some (.ct ρ2, M2) => forF b f ds ρ2 M2
      | some (.bk ρ2, M2) => some (.nx ρ2, M2)
      | r => r
/-- what an iterator yields, from θ, G on -/
structure RI (K : PySem.W.Frag) (θ0 : List Th) (G0 : Hp) (J : It) (ds : List D) : Prop where
  go : ∀ (i : Nat) (θ : List Th) (G H : Hp) (M : Mem), θ0 <+: θ → Same G0 G → Rs K θ G H M → i < ds.length → J.go i H
  stop : ∀ (θ : List Th) (G H : Hp) (M : Mem), θ0 <+: θ → Same G0 G → Rs K θ G H M → J.stop ds.length H
  yld : ∀ (i : Nat) (d : D) (θ : List Th) (G H : Hp) (M : Mem) (x : V) (H' : Hp), θ0 <+: θ → Same G0 G → Rs K θ G H M → ds[i]? = some d → J.yld i H x H' → ∃ G', Same G G' ∧ Rs K θ G' H' M ∧ Rv K θ G' x d
def DI (X : Cx) (W : WN) (tg iter : Expr) (f : Ev (List D)) : Prop := ∃ wi, PI X tg iter wi ∧ ∀ θ G, Snd X.K W (RI X.K) θ G wi f
def sFor (h : Ev (List D)) (b : Tg) (f : Sv) : Sv := thenS h fun ds => forF b f ds
theorem ds_for {tg iter : Expr} {body : List Stmt} {h : Ev (List D)} {b : Tg} {f : Sv} {sl : List Nat} (hp : PassesOwn (model X.prog X.w) X.A X.env X.xe) (hi : DI X W tg iter h) (hg : DG X tg b sl) (hb : DSs X W body f) (hc : X.calm = true := by rfl)
    (hs : ∀ x, foldedSetIterable iter X.env x = pure x := by intro _; rfl) : DS X W (.For tg iter body [] pos) (sFor h b f) := by
  obtain ⟨wi, p, s⟩ := hi
  obtain ⟨g, pg, sg⟩ := hg
  obtain ⟨tb, p2, s2⟩ := hb
  refine ⟨_, ps_for hp hc p pg p2 hs, ?_⟩
  refine snd_then (R := RI X.K) (k := fun (J : It) (Dn : Ends) σ H1 => ∃ W : Nat → Nat → L2.St → Hp → Prop, (∃ m, W 0 m σ H1) ∧ ∀ i m σ H, W i m σ H →
    (J.stop i H ∧ Dn.nx σ H) ∨ (J.go i H ∧ ∃ N : L2.St → Hp → Prop, (∀ σ' H', N σ' H' → ∃ m', m' < m ∧ W (i + 1) m' σ' H') ∧ ∀ x H', J.yld i H x H' → g x σ H' fun σ2 H2 => tb { Dn with nx := N, ct := N, bk := Dn.nx } σ2 H2)) s ?_
  intro θ G J ds hJ ρ M o M' σ H Dn e rs rv kk
  refine ⟨fun i m σ1 H1 => ∃ ρ1 M1 θ1 G1, m + i = ds.length ∧ θ <+: θ1 ∧ Same G G1 ∧ Rs X.K θ1 G1 H1 M1 ∧ Rσ X.K θ1 G1 σ1 ρ1 ∧ forF b f (ds.drop i) ρ1 M1 = some (o, M'), ⟨ds.length, ρ, M, θ, G, rfl, List.prefix_refl _, Same.refl _, rs, rv, e⟩, ?_⟩
  rintro i m σ1 H1 ⟨ρ1, M1, θ1, G1, hm, pr, sa, rs1, rv1, w⟩
  by_cases hi : i < ds.length
  · right
    have hd : ds.drop i = ds[i] :: ds.drop (i + 1) := List.drop_eq_getElem_cons hi
    rw [hd] at w
    unfold forF at w
    refine ⟨hJ.go i θ1 G1 H1 M1 pr sa rs1 hi, fun σ3 H3 => ∃ ρ3 M3 θ3 G3, θ <+: θ3 ∧ Same G G3 ∧ Rs X.K θ3 G3 H3 M3 ∧ Rσ X.K θ3 G3 σ3 ρ3 ∧ forF b f (ds.drop (i + 1)) ρ3 M3 = some (o, M'), fun σ' H' hN => ?_, fun x H' hy => ?_⟩
    · obtain ⟨ρ3, M3, θ3, G3, a1, a2, a3, a4, a5⟩ := hN
      exact ⟨m - 1, by omega, ρ3, M3, θ3, G3, by omega, a1, a2, a3, a4, a5⟩
    · obtain ⟨G2, sa2, rs2, rx⟩ := hJ.yld i ds[i] θ1 G1 H1 M1 x H' pr sa rs1 (List.getElem?_eq_getElem hi) hy
      cases q : b ds[i] ρ1 with
      | none => rw [q] at w; cases w
      | some ρ2 =>
        rw [q] at w
        dsimp only at w
        refine sg ds[i] ρ1 ρ2 θ1 G2 σ1 H' M1 _ x q rs2 (rv1.mono (List.prefix_refl _) sa2) rx fun σ2 r2 _ => ?_
        cases q2 : f ρ2 M1 with
        | none => rw [q2] at w; cases w
        | some z2 =>
          obtain ⟨o2, M3⟩ := z2
          rw [q2] at w
          refine s2 ρ2 M1 o2 M3 θ1 G2 σ2 H' _ q2 rs2 r2 fun θ3 G3 H3 p3 sa3 rs3 => ?_
          have pr3 := pr.trans p3
          have sm3 := (sa.trans sa2).trans sa3
          cases o2 with
          | nx ρ3 => exact ⟨fun ρ4 σ4 h r4 => by cases h; exact ⟨ρ3, M3, θ3, G3, pr3, sm3, rs3, r4, w⟩, fun _ _ h => (by cases h), fun _ _ h => (by cases h), fun _ _ h => (by cases h), fun _ _ _ h => (by cases h)⟩
          | ct ρ3 => exact ⟨fun _ _ h => (by cases h), fun _ _ h => (by cases h), fun ρ4 σ4 h r4 => by cases h; exact ⟨ρ3, M3, θ3, G3, pr3, sm3, rs3, r4, w⟩, fun _ _ h => (by cases h), fun _ _ _ h => (by cases h)⟩
          | bk ρ3 =>
            cases w
            exact ⟨fun _ _ h => (by cases h), fun ρ4 σ4 h r4 => by cases h; exact (kk θ3 G3 H3 pr3 sm3 rs3).nx ρ3 σ4 rfl r4, fun _ _ h => (by cases h), fun _ _ h => (by cases h), fun _ _ _ h => (by cases h)⟩
          | rt d =>
            cases w
            exact ⟨fun _ _ h => (by cases h), fun _ _ h => (by cases h), fun _ _ h => (by cases h), (kk θ3 G3 H3 pr3 sm3 rs3).rt, fun _ _ _ h => (by cases h)⟩
          | ex C ρ3 =>
            cases w
            exact ⟨fun _ _ h => (by cases h), fun _ _ h => (by cases h), fun _ _ h => (by cases h), fun _ _ h => (by cases h), (kk θ3 G3 H3 pr3 sm3 rs3).ex⟩
  · left
    have hd : ds.drop i = [] := List.drop_eq_nil_of_le (by omega)
    rw [hd] at w
    cases w
    have hi2 : i = ds.length := by omega
    subst hi2
    exact ⟨hJ.stop θ1 G1 H1 _ pr sa rs1, (kk θ1 G1 H1 pr sa rs1).nx ρ1 σ1 rfl rv1⟩
end
end Bw
namespace Bw
open PySem PySem.Spec PyProof.Rows L2
/-! ### the heap once more -/
theorem Rs.take {K : PySem.W.Frag} {θ : List Th} {G H : Hp} {M : Mem} (r : Rs K θ G H M) (n : Nat) : Rs K (θ.take n) G H (M.take n) := by
  have gt : ∀ (m : Nat) (a : Th), (θ.take n)[m]? = some a → θ[m]? = some a := fun m a h => by
    rw [List.getElem?_take] at h
    split at h
    · exact h
    · cases h
  have gm : ∀ (m : Nat) (c : Option (List D)), (M.take n)[m]? = some c → M[m]? = some c := fun m a h => by
    rw [List.getElem?_take] at h
    split at h
    · exact h
    · cases h
  refine ⟨r.sub, by simp [r.len], r.nd.sublist ((List.take_sublist _ _).map _), fun m a h => r.live m a (gt m a h), fun m a ds h1 h2 => r.mem m a ds (gt m _ h1) (gm m _ h2), fun m a b es h1 h2 => r.dic m a b es (gt m _ h1) (gm m _ h2), fun m a ds h1 h2 => ?_⟩
  obtain ⟨g, xs, hx, rl⟩ := r.nst m a ds (gt m _ h1) (gm m _ h2)
  have hm : m < n := by
    rw [List.getElem?_take] at h1
    split at h1
    · assumption
    · cases h1
  refine ⟨g, xs, hx, ?_⟩
  rw [List.take_take, Nat.min_eq_left (Nat.le_of_lt hm)]; exact rl
/-- a numbered thing is changed -/
theorem Rs.putT {K : PySem.W.Frag} {θ : List Th} {G H : Hp} {M : Mem} (r : Rs K θ G H M) {n : Nat} {a : Addr} {k : Kd} {o : HO} {c : Option (List D)} (h1 : θ[n]? = some (a, k)) (g : G a = none)
    (hm : ∀ ds, k = .lst → c = some ds → ∃ xs, o = .lst xs ∧ RpL K G xs ds) (hd : ∀ b es, k = .dic → c = some (enc b es) → b = false ∧ ∃ xs, o = DH a xs ∧ RpE K G xs es) (hn : ∀ ds, k = .nst → c = some ds → ∃ xs, o = .lst xs ∧ RvL K (θ.take n) G xs ds) :
    Rs K θ G (upd H a o) (M.set n c) := by
  have i1 : n < θ.length := (List.getElem?_eq_some_iff.mp h1).1
  have cell : ∀ (m : Nat) (b : Addr) (k2 : Kd) (z : Option (List D)), θ[m]? = some (b, k2) → (M.set n c)[m]? = some z → (n ≠ m ∧ b ≠ a ∧ M[m]? = some z) ∨ (n = m ∧ b = a ∧ k2 = k ∧ c = z) := fun m b k2 z e1 e2 => by
    by_cases hm : n = m
    · subst hm
      rw [h1] at e1
      injection e1 with e1
      injection e1 with e1 e3
      rw [List.getElem?_set_self (by rw [← r.len]; exact i1)] at e2
      exact .inr ⟨rfl, e1.symm, e3.symm, Option.some.inj e2⟩
    · rw [List.getElem?_set_ne hm] at e2
      exact .inl ⟨hm, fun z => hm (r.inj h1 e1 z.symm), e2⟩
  refine ⟨fun b o e => ?_, by simp [r.len], r.nd, fun m b h => live_upd (r.live m b h), fun m b es e1 e2 => ?_, fun m b z es e1 e2 => ?_, fun m b es e1 e2 => ?_⟩
  · have hb : b ≠ a := ne_of_none e g
    rw [upd_ne hb]; exact r.sub _ _ e
  · rcases cell m b _ _ e1 e2 with ⟨_, hb, e2⟩ | ⟨_, hb, hk, e2⟩
    · obtain ⟨g2, ys, hy, rl2⟩ := r.mem m b es e1 e2
      exact ⟨g2, ys, by rw [upd_ne hb]; exact hy, rl2⟩
    · subst hb
      obtain ⟨xs, e3, rl⟩ := hm es hk.symm e2
      exact ⟨g, xs, by rw [upd_same, e3], rl⟩
  · rcases cell m b _ _ e1 e2 with ⟨_, hb, e2⟩ | ⟨_, hb, hk, e2⟩
    · obtain ⟨ys, hy, rl2⟩ := r.dic m b z es e1 e2
      exact ⟨ys, hy.keep (Same.refl _) (fun g => g) (upd_ne hb), rl2⟩
    · subst hb
      obtain ⟨e4, xs, e3, rl⟩ := hd z es hk.symm e2
      subst e4
      exact ⟨xs, ⟨g, by rw [upd_same, e3]⟩, rl⟩
  · rcases cell m b _ _ e1 e2 with ⟨_, hb, e2⟩ | ⟨hm', hb, hk, e5⟩
    · obtain ⟨g2, ys, hy, rl2⟩ := r.nst m b es e1 e2
      exact ⟨g2, ys, by rw [upd_ne hb]; exact hy, rl2⟩
    · subst hb; subst hm'
      obtain ⟨xs, e3, rl⟩ := hn es hk.symm e5
      exact ⟨g, xs, by rw [upd_same, e3], rl⟩
/-- a mutable list is changed -/
theorem Rs.put {K : PySem.W.Frag} {θ : List Th} {G H : Hp} {M : Mem} (r : Rs K θ G H M) {n : Nat} {a : Addr} {ds : List D} {xs : List V} (h1 : θ[n]? = some (a, .lst)) (g : G a = none) (rl : RpL K G xs ds) :
    Rs K θ G (upd H a (.lst xs)) (M.set n (some ds)) := r.putT h1 g (fun es _ e => ⟨xs, rfl, by cases e; exact rl⟩) (fun b es e _ => by cases e) fun ds e _ => by cases e
theorem pre_take {θ θ' : List Th} (p : θ <+: θ') {n : Nat} (h : θ.length ≤ n) : θ <+: θ'.take n := by
  obtain ⟨r, rfl⟩ := p
  rw [List.take_append]
  rw [List.take_of_length_le h]
  exact List.prefix_append _ _
section
variable {X : Cx} {W : WN} {pos : Pos} {K : PySem.W.Frag}
/-! ### what a for walks -/
def oRng1 (ds : List D) : Ev (List D) := match ds with
  | [.int j] => if -(2 ^ 62) ≤ j ∧ j < 2 ^ 62 then ret ((List.range j.toNat).map fun (i : Nat) => D.int (i : Int)) else stk
  | _ => stk
theorem ri_range {θ : List Th} {G : Hp} {n : Nat} : RI K θ G (Itr 0 n) ((List.range n).map fun (i : Nat) => D.int (i : Int)) := by
  refine ⟨fun i θ G H M _ _ _ h => by simpa [Itr] using h, fun θ G H M _ _ _ => by simp [Itr], fun i d θ G H M x H' _ _ rs h y => ?_⟩
  obtain ⟨rfl, rfl⟩ := y
  refine ⟨G, Same.refl _, rs, ?_⟩
  rw [List.getElem?_map] at h
  have hi : i < n := by
    rcases Nat.lt_or_ge i n with q | q
    · exact q
    · rw [List.getElem?_eq_none (by simpa using q)] at h; cases h
  rw [List.getElem?_range hi] at h
  cases h
  rw [Int.zero_add]
  exact .dat (.int _)
theorem di_range1 {tg : Expr} {a : Expr} {p : Pos} {h : Ev (List D)} (hm : X.mg "range" = none) (ha : DA X W [a] h) (hg : Gl X "range" := by rfl) (hs : starEach [a] X.env = [(false, eval a X.env)] := by rfl) : DI X W tg (.Call (.Name "range" p) [a] [] pos) (bnd h oRng1) := by
  obtain ⟨t, q, s⟩ := ha
  refine ⟨_, pi_range1 hg hm q hs, fun θ G => (s θ G).bind (R2 := RI X.K) (k := fun (vs : List V) (_ : L2.St) (H1 : Hp) (R : It → Hp → Prop) => ∃ j : Int, vs = [.int j] ∧ -(2 ^ 62) ≤ j ∧ j < 2 ^ 62 ∧ R (Itr 0 j.toNat) H1) fun θ1 G1 v d _ _ hv => ?_⟩
  unfold oRng1
  split
  · rename_i j
    split
    · rename_i hj
      obtain ⟨u, rfl, hu⟩ := vals1 hv
      rw [hu.int_of]
      intro ρ M r M' θ2 G2 σ H Q p s e rs rv kk
      exact ⟨j, rfl, hj.1, hj.2, Snd.ret (K := X.K) (W := W) (R := RI X.K) (θ0 := θ1) (G0 := G1) (fun _ _ _ _ => ri_range) ρ M r M' θ2 G2 σ H Q p s e rs rv kk⟩
    · exact Snd.stk
  · exact Snd.stk
def oItL (d : D) : Ev (List D) := match d with
  | .lst ds => ret ds
  | _ => stk
def oItT (d : D) : Ev (List D) := match d with
  | .tup ds => ret ds
  | _ => stk
theorem ri_list {θ : List Th} {G : Hp} {a : Addr} {xs : List V} {ds : List D} (h : SqL K G a xs) (r : RpL K G xs ds) : RI K θ G (Itl K a) ds := by
  refine ⟨fun i θ1 G1 H M _ s rs hi => ?_, fun θ1 G1 H M _ s rs => ?_, fun i d θ1 G1 H M x H' _ s rs hd y => ?_⟩
  · obtain ⟨v, hv, _⟩ := r.at (List.getElem?_eq_getElem hi)
    exact ⟨xs, v, rs.sub.seq (s.seq h), hv⟩
  · exact ⟨xs, rs.sub.seq (s.seq h), by rw [r.len]; exact Nat.le_refl _⟩
  · obtain ⟨rfl, y⟩ := y
    have := y xs (rs.sub.seq (s.seq h))
    exact ⟨G1, Same.refl _, rs, .dat ((r.get i x d this hd).mono s)⟩
theorem RI.mono {θ0 θ1 : List Th} {G0 G1 : Hp} {J : It} {ds : List D} (h : RI K θ0 G0 J ds) (p : θ0 <+: θ1) (s : Same G0 G1) : RI K θ1 G1 J ds :=
  ⟨fun i θ G H M p1 s1 => h.go i θ G H M (p.trans p1) (s.trans s1), fun θ G H M p1 s1 => h.stop θ G H M (p.trans p1) (s.trans s1), fun i d θ G H M x H' p1 s1 => h.yld i d θ G H M x H' (p.trans p1) (s.trans s1)⟩
theorem di_list {tg e : Expr} {f : Ev D} (h : DE X W e f) : DI X W tg e (bnd f oItL) := by
  obtain ⟨t, q, s⟩ := h
  refine ⟨_, pi_list q, fun θ G => (s θ G).bind (R2 := RI X.K) (k := fun (x : V) (_ : L2.St) (H1 : Hp) (R : It → Hp → Prop) => ∃ a, x = .ref a ∧ (∃ xs, SqL X.K H1 a xs) ∧ R (Itl X.K a) H1) fun θ1 G1 v d _ _ hv => ?_⟩
  unfold oItL
  split
  · rename_i ds
    cases hv with
    | dat hv =>
      cases hv with
      | lst hq l g =>
        rename_i a xs
        intro ρ M r M' θ2 G2 σ H Q p s e rs rv kk
        exact ⟨a, rfl, ⟨xs, .inl (.inl (rs.sub _ _ (s _ _ hq)))⟩, Snd.ret (K := X.K) (W := W) (R := RI X.K) (θ0 := θ1) (G0 := G1) (fun _ _ p s => (ri_list (.inl (.inl hq)) ⟨l, g⟩).mono p s) ρ M r M' θ2 G2 σ H Q p s e rs rv kk⟩
  · exact Snd.stk
/-! ### x[i] = e -/
def sStore (f fo fi : Ev D) : Sv := thenS f fun d => thenS fo fun o => thenS fi fun i => fun ρ M => match o, i with
  | .ptr n, .int k => match M[n]? with
    | some (some ds) => match ixN ds.length k with
      | some j => if d.np = true then some (.nx ρ, M.set n (some (ds.set j d))) else none
      | none => none
    | _ => none
  | _, _ => none
theorem snd_then' {A α : Type} {R : List Th → Hp → A → α → Prop} {t : L2.St → Hp → (A → Hp → Prop) → Prop} {f : Ev α} {k : A → TS} {g : α → Sv} {θ0 : List Th} {G0 : Hp} (h : ∀ θ G, Snd K W R θ G t f)
    (h2 : ∀ θ G v d, θ0 <+: θ → Same G0 G → R θ G v d → ∀ (ρ : Env) (M : Mem) (o : Out) (M' : Mem) (σ : L2.St) (H : Hp) (Dn : Ends), g d ρ M = some (o, M') → Rs K θ G H M → Rσ K θ G σ ρ →
      (∀ (θ' : List Th) (G' H' : Hp), θ <+: θ' → Same G G' → Rs K θ' G' H' M' → Cont K W Dn o θ' G' H') → k v Dn σ H) :
    ∀ (ρ : Env) (M : Mem) (o : Out) (M' : Mem) (θ : List Th) (G : Hp) (σ : L2.St) (H : Hp) (Dn : Ends), θ0 <+: θ → Same G0 G → thenS f g ρ M = some (o, M') → Rs K θ G H M → Rσ K θ G σ ρ →
      (∀ (θ' : List Th) (G' H' : Hp), θ <+: θ' → Same G G' → Rs K θ' G' H' M' → Cont K W Dn o θ' G' H') → t σ H fun v H1 => k v Dn σ H1 := by
  intro ρ M o M' θ G σ H Dn p0 s0 e rs rv kk
  unfold thenS at e
  cases q : f ρ M with
  | none => rw [q] at e; cases e
  | some z =>
    obtain ⟨r1, M1⟩ := z
    rw [q] at e
    refine h θ G ρ M r1 M1 θ G σ H _ (List.prefix_refl _) (Same.refl _) q rs rv fun θ' G' H' p' s' rs' => ?_
    cases r1 with
    | exc C =>
      simp at e
      obtain ⟨e1, e2⟩ := e
      subst e1; subst e2
      exact ⟨fun C' h => by cases h; exact (kk θ' G' H' p' s' rs').ex C ρ σ rfl (rv.mono p' s'), fun d v h => (by cases h)⟩
    | ok a =>
      refine ⟨fun C' h => (by cases h), fun d v h rel => ?_⟩
      cases h
      exact h2 θ' G' v a (p0.trans p') (s0.trans s') rel ρ M1 o M' σ H' Dn e rs' (rv.mono p' s') fun θ2 G2 H2 p2 s2 rs2 => kk θ2 G2 H2 (p'.trans p2) (s'.trans s2) rs2
theorem ds_store {o i e : Expr} {f fo fi : Ev D} {spos : Pos} (he : DE X W e f) (ho : DE X W o fo) (hi : DE X W i fi)
    (ha : ∀ v, assign (.Subscript o i pos) X.env v = (do
      let ov ← holding [v] (eval o X.env)
      let iv ← holding [v, ov] (eval i X.env)
      standAt pos
      holding [v, ov, iv] (setItem ov iv v)
      release [v, ov, iv] []) := by intro _; rfl)
    (hs : swapsWithSole [.Subscript o i pos] e spos.line X.env = pure false := by rfl) (hw : swappedStores [.Subscript o i pos] e X.env = pure none := by rfl)
    (h1 : (assignEach [.Subscript o i pos] X.env).map (·.2) = [assign (.Subscript o i pos) X.env] := by rfl) : DS X W (.Assign [.Subscript o i pos] e spos) (sStore f fo fi) := by
  obtain ⟨t, p, s⟩ := he
  obtain ⟨to, po, so⟩ := ho
  obtain ⟨ti, pi, si⟩ := hi
  refine ⟨_, ps_asg p (pg_sub po pi set_list ha) hs hw h1, ?_⟩
  unfold sStore
  refine snd_then (k := fun v (Dn : Ends) σ H1 => to σ H1 fun o H1 => ti σ H1 fun i H2 => rSetL o i v H2 fun H3 => Dn.nx σ H3) s fun θ G v d hv ρ M o M' σ H Dn e rs rv kk => ?_
  refine snd_then' (θ0 := θ) (G0 := G) (k := fun o (Dn : Ends) σ H1 => ti σ H1 fun i H2 => rSetL o i v H2 fun H3 => Dn.nx σ H3) so (fun θ1 G1 vo do' p1 s1 hvo ρ M o M' σ H Dn e rs rv kk => ?_) ρ M o M' θ G σ H Dn (List.prefix_refl _) (Same.refl _) e rs rv kk
  refine snd_then' (θ0 := θ1) (G0 := G1) (k := fun i (Dn : Ends) σ H2 => rSetL vo i v H2 fun H3 => Dn.nx σ H3) si (fun θ2 G2 vi di p2 s2 hvi ρ M o M' σ H Dn e rs rv kk => ?_) ρ M o M' θ1 G1 σ H Dn (List.prefix_refl _) (Same.refl _) e rs rv kk
  split at e
  · rename_i n k hyp
    split at e
    · rename_i ds hm
      split at e
      · rename_i j hj
        split at e
        · rename_i hnp
          simp at e
          obtain ⟨e1, e2⟩ := e
          subst e1; subst e2
          have hvi' := hvi.int_of
          subst hvi'
          cases hvo with
          | dat hvo => cases hvo
          | ptr hn =>
            have hn2 := pre_get p2 hn
            obtain ⟨g, xs, hx, rl⟩ := rs.mem n _ ds hn2 hm
            refine ⟨_, xs, k, j, rfl, rfl, hx, by rw [rl.len]; exact hj, ?_⟩
            have rd := (hv.rp hnp).mono (s1.trans s2)
            exact (kk θ2 G2 _ (List.prefix_refl _) (Same.refl _) (rs.put hn2 g (rl.set (j := j) rd))).nx ρ σ rfl rv
        · cases e
      · cases e
    · cases e
  · cases e
/-! ### x.append(e) -/
def oApp (o d : D) : Ev D := fun ρ M => match o with
  | .ptr n => match M[n]? with
    | some (some ds) => if d.np = true ∧ ds.length < 16777216 then some (.ok .non, M.set n (some (ds ++ [d]))) else none
    | _ => none
  | _ => none
def okPtr (o : D) : Ev D := fun ρ M => match o with
  | .ptr n => match M[n]? with
    | some (some _) => some (.ok o, M)
    | _ => none
  | _ => none
/-! ### comprehensions -/
def wipeD (ρ : Env) : List Nat → Env
  | [] => ρ
  | v :: vs => (wipeD ρ vs).set v none
def lcGo (b : Tg) (tt : Ev Bool) (te : Ev D) (n0 : Nat) (ρw : Env) : List D → Mem → Option Mem
  | [], M => some M
  | d :: ds, M => match b d ρw with
    | none => none
    | some ρ1 => match tt ρ1 M with
      | some (.ok true, M1) => match te ρ1 M1 with
        | some (.ok y, M2) => match M2[n0]? with
          | some (some acc) => if y.np = true ∧ acc.length < 16777216 then lcGo b tt te n0 ρw ds (M2.set n0 (some (acc ++ [y]))) else none
          | _ => none
        | _ => none
      | some (.ok false, M1) => lcGo b tt te n0 ρw ds M1
      | _ => none
def lcEnd (n0 : Nat) (M' : Mem) : Option (Res D × Mem) := match M'[n0]? with
  | some (some acc) => some (.ok (.lst acc), if M'.length = n0 + 1 then M'.take n0 else M'.set n0 none)
  | _ => none
def oLc (b : Tg) (tt : Ev Bool) (te : Ev D) (vs : List Nat) (ds : List D) : Ev D := fun ρ M => match lcGo b tt te M.length (wipeD ρ vs) ds (M ++ [some []]) with
  | some M' => lcEnd M.length M'
  | none => none
def W0 : WN := fun _ _ _ => False
end
end Bw
namespace Bw
open PySem PySem.Spec PyProof.Rows L2
/-! ### xs.count(True) -/
def eqkB (k : Bool) (v : Value) : Bool := match v with
  | .bool n => n == k
  | _ => false
section
variable {X : Cx} {W : WN} {pos : Pos} {K : PySem.W.Frag}
def rCntB (K : PySem.W.Frag) : V → List V → Hp → VK → Prop := fun x xs H Q => ∃ (p : Addr) (ns : List Bool) (k : Bool), x = .ref p ∧ xs = [.bl k] ∧ SqL K H p (ns.map V.bl) ∧ Q (.int (ns.count k : Nat)) H
def blsOf : List D → Option (List Bool)
  | [] => some []
  | .bl b :: r => (blsOf r).map (b :: ·)
  | _ => none
def oCntB (d : D) (es : List D) : Ev D := match d, es with
  | .lst ds, [.bl k] => match blsOf ds with
    | some ns => ret (.int (ns.count k : Nat))
    | none => stk
  | _, _ => stk
/-! ### comprehension rules -/
def DTs (X : Cx) (W : WN) (es : List Expr) (f : Ev Bool) : Prop := ∃ t, PTs X es t ∧ ∀ θ G, Snd X.K W RB θ G t f
/-- the reading of what is given -/
def tOf (K : PySem.W.Frag) (W : WN) {A α : Type} (R : List Th → Hp → A → α → Prop) (f : Ev α) : L2.St → Hp → (A → Hp → Prop) → Prop := fun σ H Q => ∃ (ρ : Env) (M : Mem) (r : Res α) (M' : Mem) (θ : List Th) (G : Hp), f ρ M = some (r, M') ∧ Rs K θ G H M ∧ Rσ K θ G σ ρ ∧
  ∀ (θ' : List Th) (G' H' : Hp), θ <+: θ' → Same G G' → Rs K θ' G' H' M' → (∀ C, r = .exc C → W C σ H') ∧ (∀ d v, r = .ok d → R θ' G' v d → Q v H')
def gOf (K : PySem.W.Frag) (b : Tg) (sl : List Nat) : TG := fun v σ H Q => ∃ (d : D) (ρ ρ' : Env) (θ : List Th) (G : Hp) (M : Mem), b d ρ = some ρ' ∧ Rs K θ G H M ∧ Rσ K θ G σ ρ ∧ Rv K θ G v d ∧ ∀ σ', Rσ K θ G σ' ρ' → Wr sl σ σ' → Q σ' H
/-! ### calls of defs -/
abbrev Fd := List D → Mem → Option (Res D × Mem)
def spF (K : PySem.W.Frag) (mg : Str → Option Value) (n : Nat) (F : Fd) : Sp := fun vs H Q E => ∃ (θ : List Th) (G : Hp) (ds : List D) (M : Mem) (r : Res D) (M' : Mem), Rs K θ G H M ∧ RvL K θ G vs ds ∧ ds.length = n ∧ F ds M = some (r, M') ∧
  ∀ (θ' : List Th) (G' H' : Hp), θ <+: θ' → Same G G' → Rs K θ' G' H' M' → (∀ x C, r = .exc x → mg x = some (.ref C) → E (.ref C) none H') ∧ (∀ d v, r = .ok d → Rv K θ' G' v d → Q v H')
def oCall (n : Nat) (F : Fd) (ds : List D) : Ev D := fun _ M => if ds.length = n then F ds M else none
/-- how the wishes by names and by classes go together -/
def WOk (mg : Str → Option Value) (WC : WX) (W : WN) : Prop := ∀ x σ H, W x σ H → ∀ C, mg x = some (.ref C) → WC (.ref C) none σ H
theorem wok0 {mg : Str → Option Value} : WOk mg (fun _ _ _ _ => False) W0 := fun _ _ _ h => h.elim
theorem pass_0 {σ : L2.St} {E : XK} : PassesAt CX0 X σ E := fun _ _ _ _ _ _ h => h.elim
/-- how a body's end is the call's -/
inductive Exit : Out → Mem → Res D → Mem → Prop
  | rt {d : D} {M' g : Mem} (h : ∀ n, d = .ptr n ∨ d = .npt n → n < M'.length) (h2 : ∀ n, d ≠ .dpt n) : Exit (.rt d) (M' ++ g) (.ok d) M'
  | nx {ρ : Env} {M' g : Mem} : Exit (.nx ρ) (M' ++ g) (.ok .non) M'
  | ex {C : Str} {ρ : Env} {M' g : Mem} : Exit (.ex C ρ) (M' ++ g) (.exc C) M'
def startD (N : List Str) (ds : List D) : Env := ds.map some ++ List.replicate (N.length - ds.length) none
theorem body_ok {mg : Str → Option Value} {N : List Str} {n : Nat} {F : Fd} {t : TS} {fb : Sv} {W : WN} {vs : List V} {H : Hp} {Q : VK} {E : XK} (hW : ∀ x σ H, (∀ C, mg x = some (.ref C) → E (.ref C) none H) → W x σ H) (s : SndS K W t fb)
    (hF : ∀ ds M r M', ds.length = n → F ds M = some (r, M') → M.length ≤ M'.length ∧ ∃ o M2, fb (startD N ds) M = some (o, M2) ∧ Exit o M2 r M') (h : spF K mg n F vs H Q E) : t { nx := fun _ H' => Q .non H', rt := Q } (L2.start N vs) H := by
  obtain ⟨θ, G, ds, M, r, M', rs, rv, hl, e, kk⟩ := h
  obtain ⟨hle, o, M2, e2, ex⟩ := hF ds M r M' hl e
  refine s (startD N ds) M o M2 θ G (L2.start N vs) H _ e2 rs (Rσ.start rv.len rv.get _ rfl) fun θ' G' H' p' s' rs' => ?_
  have tk : ∀ {g : Mem}, M2 = M' ++ g → Rs K (θ'.take M'.length) G' H' M' ∧ θ <+: θ'.take M'.length := fun {g} h => by
    subst h
    have := rs'.take M'.length
    rw [List.take_left] at this
    exact ⟨this, pre_take p' (by rw [rs.len]; exact hle)⟩
  cases ex with
  | rt hp hq =>
    obtain ⟨r1, r2⟩ := tk rfl
    refine ⟨fun ρ σ h => (by cases h), fun ρ σ h => (by cases h), fun ρ σ h => (by cases h), fun d v h hv => ?_, fun C ρ σ h => (by cases h)⟩
    cases h
    refine (kk _ G' H' r2 s' r1).2 _ v rfl ?_
    cases hv with
    | dat hv => exact .dat hv
    | exv hn h => exact .exv hn h
    | dpt hn => exact absurd rfl (hq _)
    | ptr hn =>
      refine .ptr ?_
      rw [List.getElem?_take_of_lt (hp _ (.inl rfl))]
      exact hn
    | npt hn =>
      refine .npt ?_
      rw [List.getElem?_take_of_lt (hp _ (.inr rfl))]
      exact hn
  | nx =>
    obtain ⟨r1, r2⟩ := tk rfl
    refine ⟨fun ρ σ h _ => ?_, fun ρ σ h => (by cases h), fun ρ σ h => (by cases h), fun d v h => (by cases h), fun C ρ σ h => (by cases h)⟩
    exact (kk _ G' H' r2 s' r1).2 .non .non rfl (.dat .non)
  | ex =>
    obtain ⟨r1, r2⟩ := tk rfl
    refine ⟨fun ρ σ h => (by cases h), fun ρ σ h => (by cases h), fun ρ σ h => (by cases h), fun d v h => (by cases h), fun C ρ σ h _ => ?_⟩
    cases h
    exact hW _ _ _ fun C hC => (kk _ G' H' r2 s' r1).1 _ C rfl hC
theorem spF_len {mg : Str → Option Value} {n : Nat} {F : Fd} {vs : List V} {H : Hp} {Q : VK} {E : XK} (h : spF K mg n F vs H Q E) : vs.length = n := by
  obtain ⟨θ, G, ds, M, r, M', rs, rv, hl, e, kk⟩ := h
  rw [rv.len]; exact hl
theorem wokX {mg : Str → Option Value} {E : XK} : WOk mg (fun cls d _ H => E cls d H) (fun x _ H => ∀ C, mg x = some (.ref C) → E (.ref C) none H) := fun _ _ _ h C hC => h C hC
end
end Bw
namespace Bw
open PySem PySem.Spec PyProof.Rows L2
def D.ptLt (d : D) (k : Nat) : Bool := match d with
  | .ptr n => decide (n < k)
  | .npt n => decide (n < k)
  | .dpt _ => false
  | _ => true
/-- a def's worth, from its body; so many new lists stay -/
def runF (keep : Nat) (N : List Str) (fb : Sv) : Fd := fun ds M => match fb (startD N ds) M with
  | some (.rt d, M2) => if M.length + keep ≤ M2.length ∧ d.ptLt (M.length + keep) = true then some (.ok d, M2.take (M.length + keep)) else none
  | some (.nx _, M2) => if M.length + keep ≤ M2.length then some (.ok .non, M2.take (M.length + keep)) else none
  | _ => none
theorem runF_ok {keep n : Nat} {N : List Str} {fb : Sv} : ∀ ds M r M', ds.length = n → runF keep N fb ds M = some (r, M') → M.length ≤ M'.length ∧ ∃ o M2, fb (startD N ds) M = some (o, M2) ∧ Exit o M2 r M' := by
  intro ds M r M' _ h
  unfold runF at h
  split at h
  · rename_i d M2 e
    split at h
    · rename_i hc
      cases h
      refine ⟨by rw [List.length_take]; omega, _, _, e, ?_⟩
      have e2 : M2 = M2.take (M.length + keep) ++ M2.drop (M.length + keep) := (List.take_append_drop _ _).symm
      have ex := Exit.rt (d := d) (M' := M2.take (M.length + keep)) (g := M2.drop (M.length + keep)) (fun n hn => by
        rw [List.length_take]
        rcases hn with hn | hn
        · subst hn
          have := of_decide_eq_true hc.2
          omega
        · subst hn
          have := of_decide_eq_true hc.2
          omega) fun n hn => by subst hn; cases hc.2
      rw [← e2] at ex
      exact ex
    · cases h
  · rename_i ρ M2 e
    split at h
    · rename_i hc
      cases h
      refine ⟨by rw [List.length_take]; omega, _, _, e, ?_⟩
      have e2 : M2 = M2.take (M.length + keep) ++ M2.drop (M.length + keep) := (List.take_append_drop _ _).symm
      have ex := Exit.nx (ρ := ρ) (M' := M2.take (M.length + keep)) (g := M2.drop (M.length + keep))
      rw [← e2] at ex
      exact ex
    · cases h
  · cases h
theorem runF_nx {keep : Nat} {N : List Str} {fb : Sv} : ∀ ds M C M', runF keep N fb ds M ≠ some (.exc C, M') := by
  intro ds M C M' h
  unfold runF at h
  split at h
  · split at h <;> cases h
  · split at h <;> cases h
  · cases h
/-- what a body gives, as the def's worth -/
theorem runF_rt {N : List Str} {fb : Sv} {ds : List D} {M M2 : Mem} {d : D} (h : fb (startD N ds) M = some (.rt d, M2)) (hl : M.length ≤ M2.length) (hp : d.np = true) : runF 0 N fb ds M = some (.ok d, M2.take M.length) := by
  unfold runF
  rw [h]
  dsimp only
  rw [if_pos]
  · rfl
  · refine ⟨hl, ?_⟩
    cases d <;> first | rfl | cases hp
theorem runF_pure {N : List Str} {fb : Sv} {ds : List D} {M : Mem} {d : D} (h : fb (startD N ds) M = some (.rt d, M)) (hp : d.np = true) : runF 0 N fb ds M = some (.ok d, M) := by
  rw [runF_rt h (Nat.le_refl _) hp, List.take_length]
/-- the law's promise: no error -/
def spL (K : PySem.W.Frag) (n : Nat) (F : Fd) : Sp := fun vs H Q _ => ∃ (θ : List Th) (G : Hp) (ds : List D) (M : Mem) (d : D) (M' : Mem), Rs K θ G H M ∧ RvL K θ G vs ds ∧ ds.length = n ∧ F ds M = some (.ok d, M') ∧
  ∀ (θ' : List Th) (G' H' : Hp), θ <+: θ' → Same G G' → Rs K θ' G' H' M' → ∀ v, Rv K θ' G' v d → Q v H'
theorem spL_imp {K : PySem.W.Frag} {mg : Str → Option Value} {n : Nat} {F : Fd} (vs : List V) (H : Hp) (Q : VK) (E : XK) (h : spL K n F vs H Q E) : spF K mg n F vs H Q E := by
  obtain ⟨θ, G, ds, M, d, M', rs, rv, hl, e, kk⟩ := h
  exact ⟨θ, G, ds, M, .ok d, M', rs, rv, hl, e, fun θ' G' H' p s rs' => ⟨fun x C h => (by cases h), fun d' v h hv => by cases h; exact kk θ' G' H' p s rs' v hv⟩⟩
/-- the law's start -/
theorem law_start {K : PySem.W.Frag} {F : Fd} {H : Hp} {a : Addr} {ns : List Int} (hl : ns.length ≤ 63) (hS : SqL K H a (ns.map V.int)) (hF : ∀ ns : List Int, ns.length ≤ 63 → ∃ M', F [.scr (ns.map D.int)] [] = some (.ok (.bl true), M')) : spL K 1 F [.ref a] H (fun v _ => v = .bl true) fun _ _ _ => False := by
  obtain ⟨M', e⟩ := hF ns hl
  refine ⟨[], H, _, [], _, M', ⟨Same.refl _, rfl, List.nodup_nil, fun n a h => by simp at h, fun n a ds h => by simp at h, fun n a b es h => by simp at h, fun n a ds h => by simp at h⟩, RvL.cons (.dat (.scr hS (by simp) fun i v d h1 h2 => ?_)) RvL.nil, rfl, e, fun θ' G' H' p s rs v hv => hv.bl_of⟩
  rw [List.getElem?_map] at h1 h2
  cases q : ns[i]? with
  | none => rw [q] at h1; cases h1
  | some n =>
    rw [q] at h1 h2
    cases h1; cases h2
    exact .int n
end Bw
namespace Bw
open PySem PySem.Spec PyProof.Rows L2
/-! ### an error that was caught, kept as a value -/
section
variable {X : Cx} {pins : List (Addr × Obj)} {σ : L2.St} {H : Hp} {s : Shared}
end
end Bw
namespace Bw
open PySem PySem.Spec PyProof.Rows L2
/-- the wish of the body of a try whose one clause is «except c as n», n in slot i; behind the suite the error stands as a value -/
def wK (K : PySem.W.Frag) (c : Value) (i : Nat) (ts : Addr → Value → Option Addr → TS) (Wo : WX) (Dn : Ends) : WX := fun cls d σ H =>
  d = none ∧ ∃ b, PySem.W.exmOne K cls c = some b ∧ (b = false → Wo cls d σ H) ∧
    (b = true → ∀ a, H a = none → ts a cls d { nx := fun σ1 H1 => Dn.nx (σ1.set i none) (upd H1 a (ExQ cls a)), rt := fun v H1 => Dn.rt v (upd H1 a (ExQ cls a)), bk := fun σ1 H1 => Dn.bk (σ1.set i none) (upd H1 a (ExQ cls a)), ct := fun σ1 H1 => Dn.ct (σ1.set i none) (upd H1 a (ExQ cls a)) } (σ.set i (some (.ref a))) H)
section
variable {X : Cx} {x n : Str} {c : Value} {i : Nat} {body more : List Stmt} {first : Stmt} {np pos hpos : Pos} {tb : WX → TS} {ts : Addr → Value → Option Addr → TS} {Wo : WX}
end
end Bw
namespace Bw
open PySem PySem.Spec PyProof.Rows L2
section
variable {X : Cx} {W : WN} {pos : Pos} {K : PySem.W.Frag}
/-! ### isinstance -/
/-- a value's kind, errors that were caught too -/
def TyQ (K : PySem.W.Frag) (H : Hp) (x : V) (t : Value) : Prop := TyX K H x t ∨ ∃ a C, x = .ref a ∧ t = .ref C ∧ H a = some (ExQ (.ref C) a) ∧ ExcC K C
theorem kitq {pins : List (Addr × Obj)} {σ : L2.St} {H : Hp} {s : Shared} {x : V} {u t : Value} (I : Inv X pins σ H s) (rx : RelV x u) (ty : TyQ X.K H x t) : ∃ P : Heap → Prop, PySem.W.KitX X.K u t P ∧ P s.heap ∧ u ≠ .builtin "__main__.__loader__#opaque" := by
  rcases ty with ty | ⟨a, C, rfl, rfl, ha, c⟩
  · exact kit_of I rx ty
  · cases rx
    obtain ⟨⟨⟨oc, od, oda, osl⟩, vs, e, ⟨z1, z2⟩, d⟩, _, _⟩ := I.hok a _ ha
    dsimp only at z1 z2 d
    subst z1 z2 d
    exact ⟨_, PySem.W.handS_kitx_exc c.hg c.hk c.hs c.hd c.ha c.hn c.ht c.hm, ⟨e, rfl, rfl, trivial⟩, fun z => nomatch z⟩
def rQ1 (K : PySem.W.Frag) (c : V) (u : Value) : List V → Hp → VK → Prop := fun xs H Q => ∃ (x : V) (t : Value) (b : Bool), xs = [x, c] ∧ TyQ K H x t ∧ PySem.W.kitOne K t u = some b ∧ Q (.bl b) H
theorem call_Q1 {c : V} {u : Value} (k : ClsV c u) : CallR X (.builtin "isinstance") (rQ1 X.K c u) := by
  intro pins s σ H xs us Q I r h
  obtain ⟨x, t, b, rfl, ty, e, q⟩ := h
  obtain ⟨u1, u2, rfl, r1, r2⟩ := L2.vals2 r
  cases k.eq r2
  obtain ⟨P, Z, p, hx⟩ := kitq I r1 ty
  exact PySem.W.kia_one Z I.kIn p e hx fun tk => ⟨.bl b, H, I.tok tk, rfl, q⟩
def rQT (K : PySem.W.Frag) (cs : List V) (ws : List Value) : List V → Hp → VK → Prop := fun xs H Q => ∃ (x : V) (tp : Addr) (t : Value) (b : Bool), xs = [x, .ref tp] ∧ H tp = some (.tup cs) ∧ TyQ K H x t ∧ PySem.W.kitAny K t ws = some b ∧ Q (.bl b) H
/-- the answer, by the kind: tb of a built-in type, tx of an error's class -/
def oIsi (tb : String → Option Bool) (tx : Str → Option Bool) (d : D) : Ev D := fun _ M =>
  let o : Option Bool := match d with
    | .non => tb "NoneType"
    | .bl _ => tb "bool"
    | .int _ => tb "int"
    | .str _ => tb "str"
    | .tup _ => tb "tuple"
    | .lst _ => tb "list"
    | .scr _ => tb "list"
    | .emp => tb "dict"
    | .ptr n => match M[n]? with
      | some (some _) => tb "list"
      | _ => none
    | .exv x => tx x
    | .dpt _ => none
    | .npt _ => none
  match o with
  | some b => some (.ok (.bl b), M)
  | none => none
/-- what is to be known of the classes that are asked for -/
structure IsiOk (K : PySem.W.Frag) (ask : Value → Option Bool) (tb : String → Option Bool) (tx : Str → Option Bool) : Prop where
  tb : ∀ a b, tb a = some b → ask (.type a) = some b
  tx : ∀ x C b, tx x = some b → PySem.W.nsIn K mainGlobals x = some (some (.ref C)) → ask (.ref C) = some b ∧ ExcC K C
theorem tyq_of {θ : List Th} {G H : Hp} {M : Mem} {v : V} {d : D} {ask : Value → Option Bool} {tb : String → Option Bool} {tx : Str → Option Bool} (rs : Rs K θ G H M) (hv : Rv K θ G v d) (ok : IsiOk K ask tb tx) {ρ : Env} {r : Res D} {M' : Mem} (e : oIsi tb tx d ρ M = some (r, M')) : ∃ b t, r = .ok (.bl b) ∧ M' = M ∧ TyQ K H v t ∧ ask t = some b := by
  have sqT : ∀ {a xs}, SqT K G a xs → TyX K H (.ref a) (.type "tuple") := fun {a xs} h => by
    rcases seqT rs.sub h with (h | ⟨o, h⟩) | ⟨o, its, n, h1, h2, _⟩
    · exact .base (.tup h)
    · exact .fTuple h
    · exact .kTuple h1 h2
  have sqL : ∀ {a xs}, SqL K H a xs → TyX K H (.ref a) (.type "list") := fun {a xs} h => by
    rcases h with (h | ⟨o, h⟩) | ⟨o, its, n, h1, h2, _⟩
    · exact .base (.lst h)
    · exact .base (.frz h)
    · exact .kList h1 h2
  have go : ∀ {o : Option Bool} {t : Value}, (match o with | some b => some (Res.ok (D.bl b), M) | none => none) = some (r, M') → TyQ K H v t → (∀ b, o = some b → ask t = some b) → ∃ b t, r = .ok (.bl b) ∧ M' = M ∧ TyQ K H v t ∧ ask t = some b := by
    intro o t h1 h2 h3
    cases o with
    | none => cases h1
    | some b => cases h1; exact ⟨b, t, rfl, rfl, h2, h3 b rfl⟩
  unfold oIsi at e
  cases hv with
  | dat hv =>
    cases hv with
    | non => exact go e (.inl (.base .non)) fun b h => ok.tb _ b h
    | bl _ => exact go e (.inl (.base (.bl _))) fun b h => ok.tb _ b h
    | int _ => exact go e (.inl (.base (.int _))) fun b h => ok.tb _ b h
    | str _ => exact go e (.inl (.base (.str _))) fun b h => ok.tb _ b h
    | tup h _ _ => exact go e (.inl (sqT h)) fun b h => ok.tb _ b h
    | lst h _ _ => exact go e (.inl (.base (.lst (rs.sub _ _ h)))) fun b h => ok.tb _ b h
    | scr h _ _ => exact go e (.inl (sqL (rs.sub.seq h))) fun b h => ok.tb _ b h
    | emp h => exact go e (.inl (.base (.dK (rs.sub _ _ h)))) fun b h => ok.tb _ b h
  | @ptr n a hn =>
    cases q : M[n]? with
    | none => dsimp only at e; rw [q] at e; cases e
    | some z =>
      cases z with
      | none => dsimp only at e; rw [q] at e; cases e
      | some ds =>
        dsimp only at e
        rw [q] at e
        obtain ⟨_, xs, hx, _⟩ := rs.mem n a ds hn q
        exact go e (.inl (sqL (.inl (.inl hx)))) fun b h => ok.tb _ b h
  | dpt _ => cases e
  | npt _ => cases e
  | @exv x a C hn h =>
    dsimp only at e
    cases q : tx x with
    | none => rw [q] at e; cases e
    | some b =>
      rw [q] at e
      obtain ⟨q1, q2⟩ := ok.tx x C b q hn
      exact go (o := some b) e (.inr ⟨a, C, rfl, rfl, rs.sub _ _ h, q2⟩) fun b' h' => by cases h'; exact q1
variable {p p2 : Pos} {e : Expr} {f : Ev D}
/-- isinstance(e, c), c by its name -/
theorem de_isi {cx : Str} {c : V} {u : Value} {tb : String → Option Bool} {tx : Str → Option Bool} (hc : PE X (.Name cx p2) (tC c)) (k : ClsV c u) (ok : IsiOk X.K (fun t => PySem.W.kitOne X.K t u) tb tx) (hm : X.mg "isinstance" = none) (he : DE X W e f) (hg : Gl X "isinstance" := by rfl)
    (hs : starEach [e, .Name cx p2] X.env = (false, eval e X.env) :: starEach [.Name cx p2] X.env := by rfl) (hs2 : starEach [.Name cx p2] X.env = (false, eval (.Name cx p2) X.env) :: starEach [] X.env := by rfl) (hpl : (backTo pos (starEach [.Name cx p2] X.env)).any (·.1) = false := by rfl) :
    DE X W (.Call (.Name "isinstance" p) [e, .Name cx p2] [] pos) (bnd f (oIsi tb tx)) := by
  obtain ⟨t, q, s⟩ := he
  refine ⟨_, pe_callB (call_Q1 k) hg hm (by decide +kernel) (pa_cons q (pa_cons hc pa_nil hs2) hs) (by decide) (by decide) hs hpl, fun θ G => ?_⟩
  refine (s θ G).bind (R2 := RV X.K) (k := fun (x : V) (_ : L2.St) (H1 : Hp) (Q : V → Hp → Prop) => rQ1 X.K c u [x, c] H1 Q) fun θ1 G1 v d _ _ hv => ?_
  intro ρ M r M' θ2 G2 σ H Q p2 s2 e rs rv kk
  obtain ⟨b, t, rfl, rfl, ty, q2⟩ := tyq_of rs (hv.mono p2 s2) ok e
  exact ⟨v, t, b, rfl, ty, q2, (kk θ2 G2 H (List.prefix_refl _) (Same.refl _) rs).2 _ _ rfl rv_bl⟩
/-! ### repr of a truth -/
def oRepr (ds : List D) : Ev D := match ds with
  | [.bl b] => ret (.str (if b then "True" else "False"))
  | _ => stk
/-! ### x in a list of truths; is True, is False -/
def oInB (d e : D) : Ev D := match d, e with
  | .bl b, .lst ds => match blsOf ds with
    | some bs => ret (.bl (bs.contains b))
    | none => stk
  | _, _ => stk
variable {a b : Expr} {g : Ev D}
/-! ### raise, try -/
def sRaise (x : Str) : Sv := fun ρ M => some (.ex x ρ, M)
theorem ds_raise {WC : WX} {x : Str} {C : Addr} {m : Str} {j : Nat} {p3 pos2 : Pos} (hw : WOk X.mg WC W) (hc : X.calm = true) (tk : Takes X WC) (q : PySem.W.excIn X.K C [.type "ValueError", .type "Exception", .type "BaseException", .type "object"] "ValueError.__new__" = true) (gC : X.mg x = some (.ref C)) (kC : PySem.W.keepIn X.K (.ref C) = true) (r : Raises X (.ref C)) (hg : Gl X x := by rfl) (hdb : (x == ("__debug__" : Str)) = false := by decide) :
    DS X W (.Raise (some (.Call (.Name x p) [.Constant (.str m) j p3] [] pos)) none pos2) (sRaise x) := by
  refine ⟨_, ps_raise hc tk (pmk_own PySem.F.excBase_ValueError q gC kC r hg hdb), fun ρ M o M' θ G σ H Dn e rs rv kk => ?_⟩
  unfold sRaise at e
  cases e
  exact hw x σ H ((kk θ G H (List.prefix_refl _) (Same.refl _) rs).ex x ρ σ rfl rv) C gC
end
end Bw
namespace Bw
open PySem PySem.Spec PyProof.Rows L2
section
variable {X : Cx} {W : WN} {pos : Pos} {K : PySem.W.Frag}
/-- the reading of a body's worth -/
def tSOf (K : PySem.W.Frag) (W : WN) (f : Sv) : TS := fun Dn σ H => ∃ (ρ : Env) (M : Mem) (o : Out) (M' : Mem) (θ : List Th) (G : Hp), f ρ M = some (o, M') ∧ Rs K θ G H M ∧ Rσ K θ G σ ρ ∧
  ∀ (θ' : List Th) (G' H' : Hp), θ <+: θ' → Same G G' → Rs K θ' G' H' M' → Cont K W Dn o θ' G' H'
/-- wishes by names, out of wishes by classes -/
def wnOf (mg : Str → Option Value) (WC : WX) : WN := fun x σ H => ∀ C, mg x = some (.ref C) → WC (.ref C) none σ H
/-- try: .. except c as n: m = n; mt: which classes the clause takes -/
def sTry (mt : Str → Option Bool) (i j : Nat) (f : Sv) : Sv := fun ρ M => match f ρ M with
  | some (.ex x ρ1, M1) => match mt x with
    | some true => if i < ρ1.length then some (.nx (((ρ1.set i (some (.exv x))).set j (some (.exv x))).set i none), M1) else none
    | some false => some (.ex x ρ1, M1)
    | none => none
  | r => r
end
/-- a def's worth, errors too -/
def runX (N : List Str) (fb : Sv) : Fd := fun ds M => match fb (startD N ds) M with
  | some (.rt d, M2) => if M.length ≤ M2.length ∧ d.ptLt M.length = true then some (.ok d, M2.take M.length) else none
  | some (.nx _, M2) => if M.length ≤ M2.length then some (.ok .non, M2.take M.length) else none
  | some (.ex x _, M2) => if M.length ≤ M2.length then some (.exc x, M2.take M.length) else none
  | _ => none
theorem runX_ok {n : Nat} {N : List Str} {fb : Sv} : ∀ ds M r M', ds.length = n → runX N fb ds M = some (r, M') → M.length ≤ M'.length ∧ ∃ o M2, fb (startD N ds) M = some (o, M2) ∧ Exit o M2 r M' := by
  intro ds M r M' _ h
  unfold runX at h
  have cut : ∀ M2 : Mem, M2 = M2.take M.length ++ M2.drop M.length := fun M2 => (List.take_append_drop _ _).symm
  split at h
  · rename_i d M2 e
    split at h
    · rename_i hc
      cases h
      refine ⟨by rw [List.length_take]; omega, _, _, e, ?_⟩
      have ex := Exit.rt (d := d) (M' := M2.take M.length) (g := M2.drop M.length) (fun n hn => by
        rw [List.length_take]
        rcases hn with hn | hn
        · subst hn
          have := of_decide_eq_true hc.2
          omega
        · subst hn
          have := of_decide_eq_true hc.2
          omega) fun n hn => by subst hn; cases hc.2
      rw [← cut M2] at ex
      exact ex
    · cases h
  · rename_i ρ M2 e
    split at h
    · cases h
      refine ⟨by rw [List.length_take]; omega, _, _, e, ?_⟩
      have ex := Exit.nx (ρ := ρ) (M' := M2.take M.length) (g := M2.drop M.length)
      rw [← cut M2] at ex
      exact ex
    · cases h
  · rename_i x ρ M2 e
    split at h
    · cases h
      refine ⟨by rw [List.length_take]; omega, _, _, e, ?_⟩
      have ex := Exit.ex (C := x) (ρ := ρ) (M' := M2.take M.length) (g := M2.drop M.length)
      rw [← cut M2] at ex
      exact ex
    · cases h
  · cases h
theorem runX_rt {N : List Str} {fb : Sv} {ds : List D} {M : Mem} {d : D} (h : fb (startD N ds) M = some (.rt d, M)) (hp : d.np = true) : runX N fb ds M = some (.ok d, M) := by
  unfold runX
  rw [h]
  dsimp only
  rw [if_pos ⟨Nat.le_refl _, by cases d <;> first | rfl | cases hp⟩, List.take_length]
theorem isi_ty {K : PySem.W.Frag} {T : String} : IsiOk K (fun t => PySem.W.kitOne K t (.type T)) (fun a => kitB a T) (fun _ => none) := ⟨fun a b h => kit_ty h, fun x C b h => (by cases h)⟩
/-- x is True, x is False -/
def oIsB (d e : D) : Ev D := match d, e with
  | .bl a, .bl b => ret (.bl (decide (a = b)))
  | _, _ => stk
theorem snd_isB {K : PySem.W.Frag} {W : WN} : SndO K W rIsB oIsB := by
  intro θ G x y d e hx hy
  unfold oIsB
  split
  · rename_i a b
    rw [hx.bl_of, hy.bl_of]
    intro ρ M r M' θ1 G1 σ H Q p s e rs rv kk
    exact ⟨a, b, rfl, rfl, Snd.ret (K := K) (W := W) (R := RV K) (θ0 := θ) (G0 := G) (fun _ _ _ _ => rv_bl) ρ M r M' θ1 G1 σ H Q p s e rs rv kk⟩
  · exact Snd.stk
section
variable {X : Cx} {W : WN} {pos : Pos} {a b : Expr} {f g : Ev D}
theorem de_isB (ha : DE X W a f) (hb : DE X W b g) : DE X W (.Compare a [.Is] [b] pos) (bnd f fun d => bnd g fun e => oIsB d e) := de_cmp op_isBl snd_isB ha hb (nomark _)
end
/-- x is not True, x is not False -/
def oIsnB (d e : D) : Ev D := match d, e with
  | .bl a, .bl b => ret (.bl (!decide (a = b)))
  | _, _ => stk
theorem snd_isnB {K : PySem.W.Frag} {W : WN} : SndO K W rNotB oIsnB := by
  intro θ G x y d e hx hy
  unfold oIsnB
  split
  · rename_i a b
    rw [hx.bl_of, hy.bl_of]
    intro ρ M r M' θ1 G1 σ H Q p s e rs rv kk
    exact ⟨a, b, rfl, rfl, Snd.ret (K := K) (W := W) (R := RV K) (θ0 := θ) (G0 := G) (fun _ _ _ _ => rv_bl) ρ M r M' θ1 G1 σ H Q p s e rs rv kk⟩
  · exact Snd.stk
section
variable {X : Cx} {W : WN} {pos : Pos} {a b : Expr} {f g : Ev D}
theorem dt_isnB (ha : DE X W a f) (hb : DE X W b g) : DT X W (.Compare a [.IsNot] [b] pos) (bnd (bnd f fun d => bnd g fun e => oIsnB d e) asB) := dt_cmp op_notBl snd_isnB ha hb (nomark _)
/-- {} -/
theorem de_emp : DE X W (.Dict [] [] pos) (ret .emp) := by
  refine ⟨_, pe_dnewK, fun θ0 G0 ρ M r M' θ G σ H Q p s e rs rv kk => ?_⟩
  unfold ret at e
  cases e
  intro a ha
  have g := rs.fresh ha
  exact (kk θ _ _ (List.prefix_refl _) (same_upd g) (rs.laid ha _)).2 _ _ rfl (.dat (.emp upd_same))
end
end Bw
namespace Bw
open PySem PySem.Spec PyProof.Rows L2
/-! ### fractions as rationals -/
def frQ (q : Rat) : D := .tup [.int q.num, .int (q.den : Int)]
def Bd (n : Nat) (q : Rat) : Prop := q.num.natAbs < 2 ^ n ∧ q.den < 2 ^ n
theorem Bd.mono {m n : Nat} {q : Rat} (h : Bd m q) (l : m ≤ n) : Bd n q := ⟨Nat.lt_of_lt_of_le h.1 (Nat.pow_le_pow_right (by decide) l), Nat.lt_of_lt_of_le h.2 (Nat.pow_le_pow_right (by decide) l)⟩
def MulOk (i j : Int) : Prop := i.natAbs.log2 + j.natAbs.log2 < 1000000
def DivOk (j : Int) : Prop := j ≠ 0 ∧ j.natAbs.log2 < 9000
theorem log2_le_of {n a : Nat} (h : n < 2 ^ a) : n.log2 ≤ a := by
  rcases Nat.eq_zero_or_pos n with rfl | hp
  · simp
  · exact Nat.le_of_lt ((Nat.log2_lt (by omega)).mpr h)
theorem MulOk.of {i j : Int} {a b : Nat} (hi : i.natAbs < 2 ^ a) (hj : j.natAbs < 2 ^ b) (h : a + b < 1000000 := by decide) : MulOk i j := by
  have := log2_le_of hi
  have := log2_le_of hj
  unfold MulOk; omega
theorem DivOk.of {j : Int} {b : Nat} (h0 : j ≠ 0) (hj : j.natAbs < 2 ^ b) (h : b < 9000 := by decide) : DivOk j := ⟨h0, Nat.lt_of_le_of_lt (log2_le_of hj) h⟩
theorem oMul_int {i j : Int} (h : MulOk i j) (ρ : Env) (M : Mem) : oMul (.int i) (.int j) ρ M = some (.ok (.int (i * j)), M) := by
  unfold oMul oI
  dsimp only
  rw [if_pos (decide_eq_true (show i.natAbs.log2 + j.natAbs.log2 < 1000000 from h))]; rfl
theorem oDiv_int {i j : Int} (h : DivOk j) (ρ : Env) (M : Mem) : oDiv (.int i) (.int j) ρ M = some (.ok (.int (i.fdiv j)), M) := by
  unfold oDiv oI
  dsimp only
  rw [if_pos (decide_eq_true (show j ≠ 0 ∧ j.natAbs.log2 < 9000 from h))]; rfl
theorem oMod_int {i j : Int} (h : j ≠ 0) (ρ : Env) (M : Mem) : oMod (.int i) (.int j) ρ M = some (.ok (.int (i.fmod j)), M) := by
  unfold oMod oI
  dsimp only
  rw [if_pos (decide_eq_true h)]; rfl
theorem oAdd_int {i j : Int} (ρ : Env) (M : Mem) : oAdd (.int i) (.int j) ρ M = some (.ok (.int (i + j)), M) := rfl
theorem oSub_int {i j : Int} (ρ : Env) (M : Mem) : oSub (.int i) (.int j) ρ M = some (.ok (.int (i - j)), M) := rfl
theorem oLt_int {i j : Int} (ρ : Env) (M : Mem) : oLt (.int i) (.int j) ρ M = some (.ok (.bl (decide (i < j))), M) := rfl
theorem oLe_int {i j : Int} (ρ : Env) (M : Mem) : oLe (.int i) (.int j) ρ M = some (.ok (.bl (decide (i ≤ j))), M) := rfl
theorem oGt_int {i j : Int} (ρ : Env) (M : Mem) : oGt (.int i) (.int j) ρ M = some (.ok (.bl (decide (j < i))), M) := rfl
theorem oGe_int {i j : Int} (ρ : Env) (M : Mem) : oGe (.int i) (.int j) ρ M = some (.ok (.bl (decide (j ≤ i))), M) := rfl
theorem oNeg_int {i : Int} (ρ : Env) (M : Mem) : oNeg (.int i) ρ M = some (.ok (.int (-i)), M) := rfl
theorem oEq_int {i j : Int} (ρ : Env) (M : Mem) : oEq (.int i) (.int j) ρ M = some (.ok (.bl (decide (i = j))), M) := by
  unfold oEq
  rw [if_pos ⟨rfl, rfl, by rfl, by rfl⟩]
  show some (Res.ok (D.bl (PyData.eqv (.int i) (.int j))), M) = _
  simp only [PyData.eqv]
  congr
theorem oNe_int {i j : Int} (ρ : Env) (M : Mem) : oNe (.int i) (.int j) ρ M = some (.ok (.bl (!decide (i = j))), M) := by
  unfold oNe
  rw [if_pos ⟨rfl, rfl, by rfl, by rfl⟩]
  show some (Res.ok (D.bl (!PyData.eqv (.int i) (.int j))), M) = _
  simp only [PyData.eqv]
  congr
theorem eqv_fr (x y : Rat) : PyData.eqv (toPy (frQ x)) (toPy (frQ y)) = decide (x = y) := by
  simp only [frQ, toPy, toPys, PyData.eqv, PyData.eqvAll, Bool.and_true]
  rw [Bool.eq_iff_iff]
  simp only [Bool.and_eq_true, beq_iff_eq, decide_eq_true_eq]
  constructor
  · rintro ⟨a, b⟩
    exact Rat.ext a (by exact_mod_cast b)
  · rintro rfl; exact ⟨rfl, rfl⟩
theorem shaped_fr (x : Rat) : SeqAt.shaped (toPy (frQ x)) = true := by rfl
theorem oEq_fr (x y : Rat) (ρ : Env) (M : Mem) : oEq (frQ x) (frQ y) ρ M = some (.ok (.bl (decide (x = y))), M) := by
  unfold oEq
  rw [if_pos ⟨rfl, rfl, shaped_fr x, shaped_fr y⟩, eqv_fr]; rfl
theorem oNe_fr (x y : Rat) (ρ : Env) (M : Mem) : oNe (frQ x) (frQ y) ρ M = some (.ok (.bl (!decide (x = y))), M) := by
  unfold oNe
  rw [if_pos ⟨rfl, rfl, shaped_fr x, shaped_fr y⟩, eqv_fr]; rfl
theorem oEq_bl {i j : Bool} (ρ : Env) (M : Mem) : oEq (.bl i) (.bl j) ρ M = some (.ok (.bl (decide (i = j))), M) := by
  cases i <;> cases j <;> rfl
theorem oNe_bl {i j : Bool} (ρ : Env) (M : Mem) : oNe (.bl i) (.bl j) ρ M = some (.ok (.bl (!decide (i = j))), M) := by
  cases i <;> cases j <;> rfl
theorem np_fr (x : Rat) : (frQ x).np = true := rfl
/-! uniqueness of lowest terms -/
theorem rat_uniq {q : Rat} {n : Int} {d : Nat} (hd : d ≠ 0) (hc : n.natAbs.Coprime d) (h : n * (q.den : Int) = q.num * (d : Int)) : q.num = n ∧ q.den = d := by
  have e : mkRat n d = q := by
    rw [← Rat.mkRat_self q, Rat.mkRat_eq_iff hd q.den_nz]; exact h
  have e2 : mkRat n d = ⟨n, d, hd, hc⟩ := by
    rw [← Rat.normalize_eq_mkRat hd, Rat.normalize_eq]
    have g : n.natAbs.gcd d = 1 := hc
    simp [g]
  rw [e2] at e
  subst e
  exact ⟨rfl, rfl⟩
theorem fr_of {q : Rat} {n d : Int} (hd : 0 < d) (hc : Int.gcd n d = 1) (h : n * (q.den : Int) = q.num * d) : D.tup [.int n, .int d] = frQ q := by
  obtain ⟨k, rfl⟩ : ∃ k : Nat, d = k := ⟨d.toNat, by omega⟩
  have hk : k ≠ 0 := by omega
  obtain ⟨a, b⟩ := rat_uniq (q := q) hk (by simpa [Nat.Coprime, Int.gcd] using hc) h
  unfold frQ
  rw [a, b]
theorem fdiv_nat (i : Int) (n : Nat) : i.fdiv (n : Int) = i / (n : Int) := Int.fdiv_eq_ediv_of_nonneg i (Int.natCast_nonneg n)
theorem fmod_nat (i : Int) (n : Nat) : i.fmod (n : Int) = i % (n : Int) := Int.fmod_eq_emod_of_nonneg i (Int.natCast_nonneg n)
theorem gcd_fmod (a b : Int) : Int.gcd b (a.fmod b) = Int.gcd a b := by
  have h : a.fmod b = a - b * (a.fdiv b) := by have := Int.mul_fdiv_add_fmod a b; omega
  rw [h, Int.gcd_sub_mul_left_right, Int.gcd_comm]
theorem natAbs_fmod_lt (a : Int) {b : Int} (h : b ≠ 0) : (a.fmod b).natAbs < b.natAbs := by
  rcases Int.lt_or_gt_of_ne h with hb | hb
  · have h3 := Int.fmod_eq_emod (a := a) (b := b)
    have h1 := Int.emod_nonneg a h
    have h2 := Int.emod_lt_of_neg a hb
    have h4 : ¬ (0 ≤ b) := by omega
    simp only [h4, false_or] at h3
    split at h3
    · rename_i hd
      have := Int.emod_eq_zero_of_dvd hd
      omega
    · rename_i hd
      have : a % b ≠ 0 := fun z => hd (Int.dvd_of_emod_eq_zero z)
      omega
  · have h1 := Int.fmod_nonneg_of_pos a hb
    have h2 := Int.fmod_lt_of_pos a hb
    omega
end Bw
namespace Bw
open PySem PySem.Spec PyProof.Rows L2
/-! ### evaluation, step by step -/
section
variable {α β : Type}
def bindR (x : Option (Res α × Mem)) (k : α → Mem → Option (Res β × Mem)) : Option (Res β × Mem) := match x with
  | some (.ok a, M) => k a M
  | some (.exc C, M) => some (.exc C, M)
  | none => none
theorem bindR_ok (a : α) (M : Mem) (k : α → Mem → Option (Res β × Mem)) : bindR (some (.ok a, M)) k = k a M := rfl
def thenR (x : Option (Res α × Mem)) (ρ : Env) (k : α → Mem → Option (Out × Mem)) : Option (Out × Mem) := match x with
  | some (.ok a, M) => k a M
  | some (.exc C, M) => some (.ex C ρ, M)
  | none => none
theorem thenR_ok (a : α) (M : Mem) (ρ : Env) (k : α → Mem → Option (Out × Mem)) : thenR (some (.ok a, M)) ρ k = k a M := rfl
theorem bnd_ap (f : Ev α) (g : α → Ev β) (ρ : Env) (M : Mem) : bnd f g ρ M = bindR (f ρ M) fun a M1 => g a ρ M1 := rfl
theorem ret_ap (a : α) (ρ : Env) (M : Mem) : ret a ρ M = some (.ok a, M) := rfl
theorem thenS_ap (f : Ev α) (g : α → Sv) (ρ : Env) (M : Mem) : thenS f g ρ M = thenR (f ρ M) ρ fun a M1 => g a ρ M1 := rfl
def varR (x : Option (Option D)) (M : Mem) : Option (Res D × Mem) := match x with
  | some (some d) => some (.ok d, M)
  | _ => none
theorem varR_ok (d : D) (M : Mem) : varR (some (some d)) M = some (.ok d, M) := rfl
theorem dVar_ap (i : Nat) (ρ : Env) (M : Mem) : dVar i ρ M = varR ρ[i]? M := by
  unfold dVar varR
  rfl
def seqR (x : Option (Out × Mem)) (g : Sv) : Option (Out × Mem) := match x with
  | some (.nx ρ1, M1) => g ρ1 M1
  | r => r
theorem seqR_nx (ρ : Env) (M : Mem) (g : Sv) : seqR (some (.nx ρ, M)) g = g ρ M := rfl
theorem seqR_rt (d : D) (M : Mem) (g : Sv) : seqR (some (.rt d, M)) g = some (.rt d, M) := rfl
theorem sSeq_ap (f g : Sv) (ρ : Env) (M : Mem) : sSeq f g ρ M = seqR (f ρ M) g := by
  unfold sSeq seqR
  rfl
def asgR (x : Option Env) (M : Mem) : Option (Out × Mem) := match x with
  | some ρ => some (.nx ρ, M)
  | none => none
theorem asgR_ok (ρ : Env) (M : Mem) : asgR (some ρ) M = some (.nx ρ, M) := rfl
theorem sAsg_ap (f : Ev D) (b : Tg) (ρ : Env) (M : Mem) : sAsg f b ρ M = thenR (f ρ M) ρ fun d M1 => asgR (b d ρ) M1 := by
  unfold sAsg
  rw [thenS_ap]
  congr
theorem gNm_ap (i : Nat) (d : D) (ρ : Env) : gNm i d ρ = some (ρ.set i (some d)) := rfl
def gcnR (x : Option Env) (k : Env → Option Env) : Option Env := match x with
  | some ρ => k ρ
  | none => none
theorem gcnR_ok (ρ : Env) (k : Env → Option Env) : gcnR (some ρ) k = k ρ := rfl
theorem gCn_ap (b : Tg) (c : List D → Env → Option Env) (d : D) (r : List D) (ρ : Env) : gCn b c (d :: r) ρ = gcnR (b d ρ) fun ρ1 => c r ρ1 := by
  unfold gCn gcnR
  rfl
theorem gNl_ap (ρ : Env) : gNl [] ρ = some ρ := rfl
theorem gTp_ap (n : Nat) (c : List D → Env → Option Env) (ds : List D) (ρ : Env) (h : ds.length = n) : gTp n c (.tup ds) ρ = c ds ρ := by
  unfold gTp
  dsimp only
  rw [if_pos h]
theorem gTp_fr (c : List D → Env → Option Env) (q : Rat) (ρ : Env) : gTp 2 c (frQ q) ρ = c [.int q.num, .int (q.den : Int)] ρ := rfl
theorem gLs_ap (n : Nat) (c : List D → Env → Option Env) (ds : List D) (ρ : Env) (h : ds.length = n) : gLs n c (.lst ds) ρ = c ds ρ := by
  unfold gLs
  dsimp only
  rw [if_pos h]
theorem sPar_ap (i j : Nat) (f : Ev (List D)) (ρ : Env) (M : Mem) : sPar i j f ρ M = thenR (f ρ M) ρ fun ds M1 => match ds with
  | [d, e] => some (.nx ((ρ.set i (some d)).set j (some e)), M1)
  | _ => none := rfl
theorem sRet_ap (f : Ev D) (ρ : Env) (M : Mem) : sRet f ρ M = thenR (f ρ M) ρ fun d M1 => some (.rt d, M1) := rfl
theorem sExpr_ap (f : Ev D) (ρ : Env) (M : Mem) : sExpr f ρ M = thenR (f ρ M) ρ fun d M1 => some (.nx ρ, M1) := rfl
theorem sNext_ap (ρ : Env) (M : Mem) : sNext ρ M = some (.nx ρ, M) := rfl
theorem sIf_ap (c : Ev Bool) (f g : Sv) (ρ : Env) (M : Mem) : sIf c f g ρ M = thenR (c ρ M) ρ fun b M1 => if b = true then f ρ M1 else g ρ M1 := by
  unfold sIf
  rw [thenS_ap]
  congr
  funext b M1
  split <;> rfl
theorem dNil_ap (ρ : Env) (M : Mem) : dNil ρ M = some (.ok [], M) := rfl
theorem dCons_ap (f : Ev D) (g : Ev (List D)) (ρ : Env) (M : Mem) : dCons f g ρ M = bindR (f ρ M) fun d M1 => bindR (g ρ M1) fun ds M2 => some (.ok (d :: ds), M2) := rfl
theorem oTup_ap (ds : List D) (ρ : Env) (M : Mem) (h : ds.all D.np = true) (l : ds.length ≤ 16777216) : oTup ds ρ M = some (.ok (.tup ds), M) := by
  unfold oTup
  rw [if_pos ⟨h, l⟩]; rfl
theorem oLst_ap (ds : List D) (ρ : Env) (M : Mem) (h : ds.all D.np = true) (l : ds.length ≤ 16777216) : oLst ds ρ M = some (.ok (.lst ds), M) := by
  unfold oLst
  rw [if_pos ⟨h, l⟩]; rfl
theorem oCall_ap (n : Nat) (F : Fd) (ds : List D) (ρ : Env) (M : Mem) (h : ds.length = n) : oCall n F ds ρ M = F ds M := by
  unfold oCall
  rw [if_pos h]
theorem asB_ap (b : Bool) (ρ : Env) (M : Mem) : asB (.bl b) ρ M = some (.ok b, M) := rfl
theorem dAnd_ap (f g : Ev Bool) (ρ : Env) (M : Mem) : dAnd f g ρ M = bindR (f ρ M) fun c M1 => if c = true then g ρ M1 else some (.ok false, M1) := by
  unfold dAnd
  rw [bnd_ap]
  congr
  funext b M1
  split <;> rfl
theorem dOr_ap (f g : Ev Bool) (ρ : Env) (M : Mem) : dOr f g ρ M = bindR (f ρ M) fun c M1 => if c = true then some (.ok true, M1) else g ρ M1 := by
  unfold dOr
  rw [bnd_ap]
  congr
  funext b M1
  split <;> rfl
theorem dNot_ap (f : Ev Bool) (ρ : Env) (M : Mem) : dNot f ρ M = bindR (f ρ M) fun c M1 => some (.ok (!c), M1) := rfl
theorem dAndV_ap (f g : Ev D) (ρ : Env) (M : Mem) : dAndV f g ρ M = bindR (f ρ M) fun d M1 => bindR (asB d ρ M1) fun c M1 => if c = true then g ρ M1 else some (.ok (.bl false), M1) := by
  unfold dAndV
  rw [bnd_ap]
  congr
  funext b M1
  rw [bnd_ap]
  congr
  funext b M1
  split <;> rfl
theorem dOrV_ap (f g : Ev D) (ρ : Env) (M : Mem) : dOrV f g ρ M = bindR (f ρ M) fun d M1 => bindR (asB d ρ M1) fun c M1 => if c = true then some (.ok (.bl true), M1) else g ρ M1 := by
  unfold dOrV
  rw [bnd_ap]
  congr
  funext b M1
  rw [bnd_ap]
  congr
  funext b M1
  split <;> rfl
theorem dNotV_ap (f : Ev D) (ρ : Env) (M : Mem) : dNotV f ρ M = bindR (f ρ M) fun d M1 => bindR (asB d ρ M1) fun c M1 => some (.ok (.bl (!c)), M1) := rfl
theorem dIf_ap (c : Ev Bool) (f g : Ev D) (ρ : Env) (M : Mem) : dIf c f g ρ M = bindR (c ρ M) fun b M1 => if b = true then f ρ M1 else g ρ M1 := by
  unfold dIf
  rw [bnd_ap]
  congr
  funext b M1
  split <;> rfl
theorem oPow_ap (i : Int) (n : Nat) (ρ : Env) (M : Mem) (h : n ≤ 1000000) (hi : i.natAbs < 2 ^ 64) : oPow (.int i) (.int (n : Int)) ρ M = some (.ok (.int (i ^ n)), M) := by
  unfold oPow oI
  dsimp only
  rw [if_pos (decide_eq_true ⟨by omega, by omega, hi⟩)]; rfl
theorem oAdd_lst (a b : List D) (ρ : Env) (M : Mem) (h : a.length + b.length ≤ 16777216) : oAdd (.lst a) (.lst b) ρ M = some (.ok (.lst (a ++ b)), M) := by
  unfold oAdd
  dsimp only
  rw [if_pos h]; rfl
theorem oAbs_ap (i : Int) (ρ : Env) (M : Mem) : oAbs [.int i] ρ M = some (.ok (.int (if i < 0 then -i else i)), M) := rfl
theorem oMax_ap (i j : Int) (ρ : Env) (M : Mem) : oMax [.int i, .int j] ρ M = some (.ok (.int (if j > i then j else i)), M) := rfl
theorem oMin_ap (i j : Int) (ρ : Env) (M : Mem) : oMin [.int i, .int j] ρ M = some (.ok (.int (if j < i then j else i)), M) := rfl
theorem oToInt_b (b : Bool) (ρ : Env) (M : Mem) : oToInt [.bl b] ρ M = some (.ok (.int (if b then 1 else 0)), M) := rfl
theorem oToInt_i (b : Int) (ρ : Env) (M : Mem) : oToInt [.int b] ρ M = some (.ok (.int b), M) := rfl
theorem oLen_lst (ds : List D) (ρ : Env) (M : Mem) : oLen [.lst ds] ρ M = some (.ok (.int ds.length), M) := rfl
theorem oLen_scr (ds : List D) (ρ : Env) (M : Mem) : oLen [.scr ds] ρ M = some (.ok (.int ds.length), M) := rfl
theorem oLen_tup (ds : List D) (ρ : Env) (M : Mem) : oLen [.tup ds] ρ M = some (.ok (.int ds.length), M) := rfl
def ixR (x : Option D) (M : Mem) : Option (Res D × Mem) := match x with
  | some d => some (.ok d, M)
  | none => none
theorem ixR_ok (d : D) (M : Mem) : ixR (some d) M = some (.ok d, M) := rfl
theorem oIx_lst (ds : List D) (i : Int) (ρ : Env) (M : Mem) : oIx (.lst ds) (.int i) ρ M = ixR (atI ds i) M := by
  unfold oIx ixR seqOf
  dsimp only
  all_goals (split <;> rename_i h <;> rw [h])
theorem oIx_scr (ds : List D) (i : Int) (ρ : Env) (M : Mem) : oIx (.scr ds) (.int i) ρ M = ixR (atI ds i) M := by
  unfold oIx ixR seqOf
  dsimp only
  all_goals (split <;> rename_i h <;> rw [h])
theorem oIx_tup (ds : List D) (i : Int) (ρ : Env) (M : Mem) : oIx (.tup ds) (.int i) ρ M = ixR (atI ds i) M := by
  unfold oIx ixR seqOf
  dsimp only
  all_goals (split <;> rename_i h <;> rw [h])
theorem oIx_ptr {n : Nat} {ds : List D} (i : Int) (ρ : Env) {M : Mem} (h : M[n]? = some (some ds)) : oIx (.ptr n) (.int i) ρ M = ixR (atI ds i) M := by
  unfold oIx ixR seqOf
  dsimp only
  rw [h]
  all_goals (try dsimp only)
  all_goals (split <;> rename_i h <;> rw [h])
theorem oIx_fr0 (q : Rat) (ρ : Env) (M : Mem) : oIx (frQ q) (.int 0) ρ M = some (.ok (.int q.num), M) := rfl
theorem oIx_fr1 (q : Rat) (ρ : Env) (M : Mem) : oIx (frQ q) (.int 1) ρ M = some (.ok (.int (q.den : Int)), M) := rfl
theorem oRng1_ap (j : Int) (ρ : Env) (M : Mem) (h1 : 0 ≤ j) (h : j < 2 ^ 62) : oRng1 [.int j] ρ M = some (.ok ((List.range j.toNat).map fun (i : Nat) => D.int (i : Int)), M) := by
  unfold oRng1
  dsimp only
  rw [if_pos ⟨by omega, h⟩]; rfl
theorem oItL_ap (ds : List D) (ρ : Env) (M : Mem) : oItL (.lst ds) ρ M = some (.ok ds, M) := rfl
theorem oItT_ap (ds : List D) (ρ : Env) (M : Mem) : oItT (.tup ds) ρ M = some (.ok ds, M) := rfl
theorem sFor_ap (h : Ev (List D)) (b : Tg) (f : Sv) (ρ : Env) (M : Mem) : sFor h b f ρ M = thenR (h ρ M) ρ fun ds M1 => forF b f ds ρ M1 := rfl
def ofR (x : Option (Out × Mem)) (k : Env → Mem → Option (Out × Mem)) : Option (Out × Mem) := match x with
  | some (.nx ρ2, M2) => k ρ2 M2
  | some (.ct ρ2, M2) => k ρ2 M2
  | some (.bk ρ2, M2) => some (.nx ρ2, M2)
  | r => r
theorem ofR_nx (ρ : Env) (M : Mem) (k : Env → Mem → Option (Out × Mem)) : ofR (some (.nx ρ, M)) k = k ρ M := rfl
def forB (x : Option Env) (k : Env → Option (Out × Mem)) : Option (Out × Mem) := match x with
  | none => none
  | some ρ => k ρ
theorem forB_ok (ρ : Env) (k : Env → Option (Out × Mem)) : forB (some ρ) k = k ρ := rfl
theorem forF_nil (b : Tg) (f : Sv) (ρ : Env) (M : Mem) : forF b f [] ρ M = some (.nx ρ, M) := rfl
theorem forF_cons (b : Tg) (f : Sv) (d : D) (ds : List D) (ρ : Env) (M : Mem) : forF b f (d :: ds) ρ M = forB (b d ρ) fun ρ1 => ofR (f ρ1 M) fun ρ2 M2 => forF b f ds ρ2 M2 := by
  conv => lhs; unfold forF
  unfold forB ofR
  rfl
/-- x[i] = e -/
theorem sStore_ap (f fo fi : Ev D) (ρ : Env) (M : Mem) : sStore f fo fi ρ M = thenR (f ρ M) ρ fun d M1 => thenR (fo ρ M1) ρ fun o M2 => thenR (fi ρ M2) ρ fun i M3 => match o, i with
  | .ptr n, .int k => match M3[n]? with
    | some (some ds) => match ixN ds.length k with
      | some j => if d.np = true then some (.nx ρ, M3.set n (some (ds.set j d))) else none
      | none => none
    | _ => none
  | _, _ => none := rfl
end
theorem atI_0 {α : Type} (a : α) (l : List α) : atI (a :: l) 0 = some a := by
  unfold atI ixN
  simp
theorem atI_nat' {α : Type} (l : List α) (n : Nat) : atI l (n : Int) = l[n]? := by
  unfold atI ixN
  rw [if_pos (by omega)]
  by_cases h : n < l.length
  · rw [if_pos (by omega)]; simp
  · rw [if_neg (by omega)]; simp; omega
end Bw
/-! calls where no repr is under way -/
namespace Bw
open PySem PySem.Spec PyProof.Rows L2
structure Rg (k : Nat) (A : Around) : Prop where
  r : Room k A
  g : A.guards = some []
theorem Rg.mono {j k : Nat} {A : Around} (h : Rg k A) (l : j ≤ k) : Rg j A := ⟨h.r.mono l, h.g⟩
theorem Rg.units {k : Nat} {A : Around} (h : Rg k A) : A.units + 64 < cLine := h.r.units
theorem Rg.un200 {k : Nat} {A : Around} (h : Rg k A) : A.units + 200 < cLine := by have := h.r.un; omega
/-- a def's promise, no repr under way -/
structure GOk (P : Program) (w : World) (K : PySem.W.Frag) (mg : Str → Option Value) (base : Heap) (C : CXT) (k : Nat) (f : Addr) (fd : FuncData) (ps : List Str) (sp : Sp) : Prop where
  n : ∀ vs H Q E, sp vs H Q E → vs.length = ps.length
  go : ∀ (A : Around) (ou : List PySem.Env) (s : Shared) (H : Hp) (ar : Args) (us : List Value) (vs : List V) (Q : VK) (E : XK), Rg k A → Env0 P w K mg base A ou s H → BindsTo s fd ar (ps.zip us) → Vals vs us → sp vs H Q E → codeAny (model P w) A (.call (.ref f) ar) (CR C ou P w H s Q E) s
section
variable {P : Program} {w : World} {K : PySem.W.Frag} {mg : Str → Option Value} {base : Heap} {C : CXT} {k : Nat} {f : Addr} {fd : FuncData} {ps : List Str} {sp : Sp}
theorem GOk.mono {j : Nat} (F : GOk P w K mg base C j f fd ps sp) (l : j ≤ k) : GOk P w K mg base C k f fd ps sp := ⟨F.n, fun A ou s H ar us vs Q E hr => F.go A ou s H ar us vs Q E (hr.mono l)⟩
theorem GOk.imp {sp' : Sp} (F : GOk P w K mg base C k f fd ps sp) (h : ∀ vs H Q E, sp' vs H Q E → sp vs H Q E) : GOk P w K mg base C k f fd ps sp' :=
  ⟨fun vs H Q E q => F.n vs H Q E (h vs H Q E q), fun A ou s H ar us vs Q E hr he hb hv hs => F.go A ou s H ar us vs Q E hr he hb hv (h vs H Q E hs)⟩
/-- by its body -/
theorem gok_of {x qual : Str} {st : Stmt} {N : List Str} (FU : Fun K x qual st f fd) (S : FnScope N ps (defScope st)) (hn : ∀ vs H Q E, sp vs H Q E → vs.length = ps.length)
    (hbody : ∀ (cdv : Value) (A : Around) (ou : List PySem.Env) (s : Shared) (H : Hp) (vs : List V) (Q : VK) (E : XK), Rg k (A.deeper (envOfC qual (defScope st) s.heap.objs.size f cdv)) → sp vs H Q E →
      ∃ t, PSs (cxOf C P w K mg base N qual (defScope st) f cdv A ou s H E) (defBody st) t ∧ t { nx := fun _ H' => Q .non H', rt := Q } (L2.start N vs) H) : GOk P w K mg base C (k + 1) f fd ps sp := by
  obtain ⟨oc, od, kV, doc, pm, an, cdv, ct, osl, e, lk, hcd⟩ := FU.ex
  subst e
  refine ⟨hn, fun A ou s H ar us vs Q E hr e0 hb rv hsp => ?_⟩
  have stay := fun (b : Addr) (o : Obj) (q : base.get? b = some o) => (e0.bs b o q).1
  have KX : K.In s.heap := e0.mod.kin.keeps stay
  have lim : s.heap.NoLimit := e0.mod.nolimit.keeps stay
  refine codeAny_call_function hr.r.depth (KX _ _ lk) rfl S.co S.gen rfl (PySem.W.codeRec_of KX hcd) (hb _ _ _ _ (wpAny_newFunctionEnv_cells S.kind (fun z hz => ?_) fun env he s1 ic => ?_))
  · rcases S.par z.1 (List.of_mem_zip hz).1 with q | q
    · exact Or.inl q
    · exact Or.inr ⟨q, PySem.W.cellsFrom_some _ _ _ (Or.inl q)⟩
  · subst he
    refine ⟨lim.keeps ic.toInCall.keep, codeAny_func ?_⟩
    obtain ⟨t, ht, hq⟩ := hbody cdv A ou s H vs Q E ⟨hr.r.deeper _, hr.g⟩ hsp
    refine wpAny_mono (ht.run [] s1 (L2.start N vs) H _ (inv_start S hr.r.hd e0 (hn _ _ _ _ hsp) rv ic) hq) (fun fl s2 hs => ?_) fun _ _ z => z
    cases fl with
    | brk => obtain ⟨_, _, _, z⟩ := hs; exact z.elim
    | cont => obtain ⟨_, _, _, z⟩ := hs; exact z.elim
    | next => obtain ⟨σ2, H2, J, z⟩ := hs; exact ⟨.non, H2, J.os, J.bare, J.base, J.hok, rfl, z⟩
    | ret u => obtain ⟨v, σ2, H2, J, ru, z⟩ := hs; exact ⟨v, H2, J.os, J.bare, J.base, J.hok, ru, z⟩
end
/-- g(e, ..) of a def -/
theorem pe_callG {X : Cx} {C : CXT} {k : Nat} {f : Addr} {fd : FuncData} {ps : List Str} {sp : Sp} {x : Str} {p pos : Pos} {e : Expr} {es : List Expr} {ta : TA} {E : L2.St → XK} (F : GOk X.prog X.w X.K X.mg X.base C k f fd ps sp) (hr : Rg k X.A) (hg : Gl X x) (hm : X.mg x = some (.ref f)) (hk : PySem.W.keepIn X.K (.ref f) = true) (hb : Binds X.K fd ps []) (hx : ∀ σ, PassesAt C X σ (E σ))
    (hargs : PA X (e :: es) ta) (hdb : (x == ("__debug__" : Str)) = false := by decide) (he : starEach (e :: es) X.env = (false, eval e X.env) :: starEach es X.env := by rfl) (hpl : (backTo pos (starEach es X.env)).any (·.1) = false := by rfl) :
    PE X (.Call (.Name x p) (e :: es) [] pos) (tCallS sp E ta) := by
  refine ⟨fun pins s σ H Q I h => wpAny_Call_Name_kw (ld_glob I hg hm (PySem.W.callWith_K (h₀ := X.base) I.ok.mod.kin hk (thn (hargs.run pos pins s σ H _ I h) fun us s1 z => ?_) he hpl) hdb)⟩
  obtain ⟨vs, H1, I1, rv, q⟩ := z
  have hl : us.length = ps.length := rv.length.symm.trans (F.n _ _ _ _ q)
  have b := hb s1 us I1.kIn (by rw [List.append_nil]; exact hl)
  rw [List.append_nil] at b
  refine ⟨I1.kIn, wpAny_call (codeAny_mono (F.go X.A X.stack s1 H1 ⟨us, []⟩ us vs Q (E σ) hr I1.env0 b rv q) fun res s2 hq => ?_)⟩
  rcases res with er | fl
  · exact hx σ pins H1 s1 er s2 I1 hq
  · cases fl <;> first | exact I1.after hq | exact False.elim hq
/-- the head: the law's promise at the heap behind the top -/
theorem headG {P : Program} {w : World} {K : PySem.W.Frag} {mg mb : Str → Option Value} {k : Nat} {fa sa : Addr} {fd : FuncData} {x : Str} {sp : Sp} {st : Shared} {us : List Value} {ns : List Int} (KX : K.In st.heap) (nsG : st.heap.Ns mainGlobals mg) (nsB : st.heap.Ns builtinsNs mb) (bbt : ∀ y : Str, y ≠ "__name__" → mb y = bootBuiltins y) (lim : st.heap.NoLimit) (ng : st.gens = #[])
    (hs : st.heap.get? sa = some { cls := .type "list", data := .seq us.toArray }) (ii : IntsAre us ns) (hl : ns.length ≤ sizeLine) (hr : Room k callerA) (F : ∀ b : Heap, K.In b → b.Ns mainGlobals mg → GOk P w K mg b CX0 k fa fd [x] sp) (bi : ∀ (s : Shared) (u : Value), BindsTo s fd ⟨[u], []⟩ [(x, u)])
    (hsp : ∀ H : Hp, SqL K H sa (ns.map V.int) → sp [.ref sa] H (fun v _ => v = .bl true) fun _ _ _ => False) : codeAny (model P w) callerA (.call (.ref fa) ⟨[.ref sa], []⟩) (fun r s' => r = .ok (.ret (.bool true)) ∧ OldK st.heap s'.heap ∧ s'.os = st.os ∧ AllBare s'.gens) st := by
  have main : ∀ H : Hp, Only H → SqL K H sa (ns.map V.int) → HOk P w H st.heap → (∀ b, H b ≠ none → b = sa ∧ K.lookup sa = none) → codeAny (model P w) callerA (.call (.ref fa) ⟨[.ref sa], []⟩) (fun r s' => r = .ok (.ret (.bool true)) ∧ OldK st.heap s'.heap ∧ s'.os = st.os ∧ AllBare s'.gens) st := by
    intro H oH sH kH only
    have offD : ∀ {b : Addr} {o : Obj} {es : Array DictEntry} {ep : Nat}, st.heap.get? b = some o → o.data = .dict es ep → H b = none := by
      intro b o es ep e d
      by_cases z : H b = none
      · exact z
      · have zz := (only b z).1
        rw [zz, hs] at e
        cases e
        cases d
    have back : ∀ {b : Addr} {m : Str → Option Value}, st.heap.Ns b m → (hidT st.heap H).Ns b m := by
      rintro b m ⟨o, es, ep, e, d, rest⟩
      exact ⟨o, es, ep, hidT_get e (offD e d), d, rest⟩
    have kin : K.In (hidT st.heap H) := by
      intro b o e
      refine hidT_get (KX b o e) ?_
      by_cases z : H b = none
      · exact z
      · obtain ⟨z1, z2⟩ := only b z
        rw [z1, z2] at e
        cases e
    obtain ⟨ml, nl, ql⟩ := lim
    have md : Mod K mg (hidT st.heap H) := ⟨kin, back nsG, ⟨mb, back nsB, bbt⟩, ml, back nl, ql⟩
    have en : Env0 P w K mg (hidT st.heap H) callerA [] st H := ⟨rfl, md, fun b o e => of_hidT e, Nat.le_of_eq (hidT_size _ _), trivial, fun b hb => (by cases hb), kH, .of_eq ng⟩
    refine codeAny_mono ((F _ kin (back nsG)).go callerA [] st H ⟨[.ref sa], []⟩ [.ref sa] [.ref sa] _ _ ⟨hr, rfl⟩ en (bi st (.ref sa)) (.cons rfl .nil) (hsp H sH)) fun r s' h => ?_
    rcases r with er | fl
    · exact False.elim h
    · cases fl with
      | ret u =>
        obtain ⟨v, H2, os, bare, un, k2, ru, q⟩ := h
        have qv : v = .bl true := q
        subst qv
        have eu : u = Value.bool true := ru
        subst eu
        refine ⟨rfl, OldK.of_keep fun b o e => ?_, os, bare⟩
        by_cases z : H b = none
        · exact un.keep b o e z (fun y => by cases y) (fun y => by cases y)
        · rcases oH b with y | ⟨ob, xs, y⟩
          · exact absurd y z
          · have e1 := (kH b _ y).1
            have e2 := (k2 b _ (un.frzs b ob _ y)).1
            rw [e] at e1
            cases e1
            exact e2
      | _ => exact False.elim h
  have rv := vals_ints ii
  cases hk : K.lookup sa with
  | some o =>
    have e := KX sa o hk
    rw [hs] at e
    cases e
    exact main (fun _ => none) (fun _ => Or.inl rfl) (.inr ⟨_, us.toArray, _, hk, rfl, rfl, rfl, by rw [List.size_toArray, ii.length]; exact hl, by simpa using rv⟩) (fun b u z => by cases z) fun b z => absurd rfl z
  | none =>
    let Hs : Hp := fun b => if b = sa then some (.frz { cls := .type "list", data := .seq us.toArray } (.lst (ns.map V.int))) else none
    have at_ : Hs sa = some (.frz { cls := .type "list", data := .seq us.toArray } (.lst (ns.map V.int))) := if_pos rfl
    have off : ∀ b, b ≠ sa → Hs b = none := fun b z => if_neg z
    refine main Hs (fun b => ?_) (.inl (.inr ⟨_, at_⟩)) (fun b u z => ?_) fun b z => ?_
    · by_cases y : b = sa
      · subst y; exact Or.inr ⟨_, _, at_⟩
      · exact Or.inl (off b y)
    · by_cases y : b = sa
      · subst y
        rw [at_] at z
        cases z
        exact ⟨hs, by rw [List.length_map]; exact hl, us, _, rv, hs⟩
      · rw [off b y] at z; cases z
    · by_cases y : b = sa
      · exact ⟨y, hk⟩
      · exact absurd (off b y) z
theorem walkG {l : PySem.W.OpenLaw} {n k : Nat} {q : Program} {loose : List Str} {XP : (Str → Option Value) → Heap → Prop} {YP : World → Heap → Prop} {d : DefRec} {K : Params → PySem.W.Frag} {sp : World → Sp} {x : Str} (mo : l.most = some n) (hz : n ≤ sizeLine) (df : d.params.defaults = []) (hr : Room k callerA) (hY : ∀ (w : World) (h : Heap), YP w h → (K w.params).In h)
    (F : ∀ (w : World) (mg : Str → Option Value) (fa : Addr) (h : Heap), (K w.params).In h → h.Ns mainGlobals mg → mg d.name = some (.ref fa) → ∃ fd : FuncData, (∀ (s : Shared) (u : Value), BindsTo s fd ⟨[u], []⟩ [(x, u)]) ∧ ∀ b : Heap, (K w.params).In b → b.Ns mainGlobals mg → GOk l.prog w (K w.params) mg b CX0 k fa fd [x] (sp w))
    (hsp : ∀ (w : World) (H : Hp) (a : Addr) (ns : List Int), ns.length ≤ n → SqL (K w.params) H a (ns.map V.int) → sp w [.ref a] H (fun v _ => v = .bl true) fun _ _ _ => False) : PySem.W.WalkO q loose XP YP l.row.toRowW d [] (fun f vs => PySem.call f vs) := by
  refine Att.attach_call mo df fun w s0 s1 mg mb fa o pm cd doc a vs ns G Y ho hd hcd hmg hobj hints hlen hgen => ?_
  have KX := hY w _ Y
  obtain ⟨fd, b, hF⟩ := F w mg fa _ KX G.T.g hmg
  exact headG KX G.T.g G.T.b G.T.builtins G.T.nolimit hgen hobj hints (Nat.le_trans hlen hz) hr hF b fun H hS => hsp w H a ns hlen hS
end Bw
set_option maxHeartbeats 4000000
/-! t[::-1] of a tuple; x in a tuple; repr of data -/
namespace Bw
open PySem PySem.Spec PyProof.Rows L2 HT
section
variable {prog : Program} {w : World} {A : Around} {E : Value → Shared → Prop} {s : Shared}
end
section
variable {X : Cx}
/-- x[::-1] of a list or a tuple -/
def tRv (K : PySem.W.Frag) (te : TE) : TE := fun σ H Q => te σ H fun x H1 => ∃ a xs, x = .ref a ∧ ((SqL K H1 a xs ∧ ∀ p, H1 p = none → Q (.ref p) (upd H1 p (.lst xs.reverse))) ∨ (SqT K H1 a xs ∧ ∀ p, H1 p = none → Q (.ref p) (upd H1 p (.tup xs.reverse))))
/-- x in t, x not in t -/
def rInT (K : PySem.W.Frag) (neg : Bool) : R2 := fun x y H Q => ∃ d ds, Dp K H x d ∧ Dp K H y (.tuple ds) ∧ SeqAt.shaped d = true ∧ SeqAt.shaped (.tuple ds) = true ∧ Q (.bl (if neg then !ds.any fun z => PyData.eqv z d else ds.any fun z => PyData.eqv z d)) H
theorem op_inT (hu : X.A.units + 65 < cLine) : OpR X (compareOp .In) (rInT X.K false) := by
  intro pins s σ H x y v u Q I rx ry h
  obtain ⟨d, ds, hd, he, sd, se, q⟩ := h
  obtain ⟨_, r1⟩ := Dp.reads I d x v hd rx
  obtain ⟨_, r2⟩ := Dp.reads I (.tuple ds) y u he ry
  exact SeqAt.in_tuple_reads r2 r1 (SeqAt.canLay_of_shaped se) (SeqAt.canLay_of_shaped sd) (room_in_shaped sd hu) ⟨.bl _, H, I, rfl, q⟩
/-- repr of data -/
def rRepr (K : PySem.W.Frag) : List V → Hp → VK → Prop := fun xs H Q => ∃ x d, xs = [x] ∧ Dp K H x d ∧ d.showable = true ∧ d.hasDict = false ∧ d.depth ≤ 100 ∧ d.shown.length ≤ sizeLine ∧ Q (.str d.shown) H
theorem call_reprD (hg : X.A.guards = some []) (hu : X.A.units + 200 < cLine) : CallR X (.builtin "repr") (rRepr X.K) := by
  intro pins s σ H xs us Q I r h
  obtain ⟨x, d, rfl, hd, hs, hn, hp, hz, q⟩ := h
  obtain ⟨u, rfl, ru⟩ := L2.vals1 r
  obtain ⟨as, rd⟩ := Dp.reads I d x u hd ru
  cases rd with
  | none => exact PySem.P.repr_of_none ⟨.str _, H, I.tok _, ⟨_, rfl⟩, q⟩
  | bool b => exact PySem.P.repr_of_bool ⟨.str _, H, I.tok _, ⟨_, by cases b <;> rfl⟩, q⟩
  | int i t => exact PySem.P.repr_of_int (by simpa [PyData.showable] using hs) ⟨.str _, H, I.tok _, ⟨_, rfl⟩, q⟩
  | str z t => exact PySem.P.repr_of_str ⟨.str _, H, I.tok _, ⟨_, rfl⟩, q⟩ hz
  | list a b c e => exact repr_of_reads' (Reads.list a b c e) hs (PyData.noDict_hsm hn) hg (by omega) (fun _ _ z => z) (fun h' v tk k => ⟨.str _, H, I.kept (t' := tk) k, ⟨_, rfl⟩, q⟩) hz
  | tuple a b c e => exact repr_of_reads' (Reads.tuple a b c e) hs (PyData.noDict_hsm hn) hg (by omega) (fun _ _ z => z) (fun h' v tk k => ⟨.str _, H, I.kept (t' := tk) k, ⟨_, rfl⟩, q⟩) hz
  | dict _ _ _ _ _ => cases hn
end
end Bw
namespace Bw
open PySem PySem.Spec PyProof.Rows L2 RZ
section
variable {X : Cx} {W : WN} {pos : Pos} {K : PySem.W.Frag}
/-! ### calls of defs, no repr under way -/
theorem de_callG {C : CXT} {WC : WX} {k n : Nat} {f : Addr} {fd : FuncData} {ps : List Str} {F : Fd} {x : Str} {p : Pos} {e : Expr} {es : List Expr} {h : Ev (List D)} (hw : WOk X.mg WC W) (FO : GOk X.prog X.w X.K X.mg X.base C k f fd ps (spF X.K X.mg n F)) (hr : Rg k X.A) (hm : X.mg x = some (.ref f)) (hk : PySem.W.keepIn X.K (.ref f) = true) (hb : Binds X.K fd ps []) (hx : ∀ σ, PassesAt C X σ (WE WC σ))
    (hargs : DA X W (e :: es) h) (hg : Gl X x := by rfl) (hdb : (x == ("__debug__" : Str)) = false := by decide) (he : starEach (e :: es) X.env = (false, eval e X.env) :: starEach es X.env := by rfl) (hpl : (backTo pos (starEach es X.env)).any (·.1) = false := by rfl) :
    DE X W (.Call (.Name x p) (e :: es) [] pos) (bnd h (oCall n F)) := by
  obtain ⟨t, q, s⟩ := hargs
  refine ⟨_, pe_callG FO hr hg hm hk hb hx q hdb he hpl, fun θ G => ?_⟩
  refine (s θ G).bind (R2 := RV X.K) (k := fun (vs : List V) (σ : L2.St) (H1 : Hp) (Q : V → Hp → Prop) => spF X.K X.mg n F vs H1 Q (WE WC σ)) fun θ1 G1 vs ds _ _ hv => ?_
  intro ρ M r M' θ2 G2 σ H Q p2 s2 e rs rv kk
  unfold oCall at e
  split at e
  · rename_i hl
    exact ⟨θ2, G2, ds, M, r, M', rs, hv.mono p2 s2, hl, e, fun θ' G' H' a b c => ⟨fun x C h1 h2 => hw _ _ _ ((kk θ' G' H' a b c).1 x h1) C h2, (kk θ' G' H' a b c).2⟩⟩
  · cases e
/-! ### repr of data -/
def oReprD (ds : List D) : Ev D := match ds with
  | [d] => if d.pl = true ∧ (toPy d).showable = true ∧ (toPy d).hasDict = false ∧ (toPy d).depth ≤ 100 ∧ (toPy d).shown.length ≤ 16777216 then ret (.str (toPy d).shown) else stk
  | _ => stk
theorem snd_reprD : SndC K W (rRepr K) oReprD := by
  intro θ0 G0 xs ds hx
  unfold oReprD
  split
  · rename_i d
    split
    · rename_i c
      obtain ⟨v, rfl, hv⟩ := vals1 hx
      intro ρ M r M' θ G σ H Q p s e rs rv kk
      exact ⟨v, toPy d, rfl, (((hv.rp (pl_np c.1)).mono s).mono rs.sub).dp c.1, c.2.1, c.2.2.1, c.2.2.2.1, by rw [sizeLine_eq]; exact c.2.2.2.2, Snd.ret (K := K) (W := W) (R := RV K) (θ0 := θ0) (G0 := G0) (fun _ _ _ _ => .dat (.str _)) ρ M r M' θ G σ H Q p s e rs rv kk⟩
    · exact Snd.stk
  · exact Snd.stk
variable {p p2 : Pos} {e : Expr} {es : List Expr} {h : Ev (List D)} {f g : Ev D} {a b c : Expr}
theorem de_reprD (hr : ∃ k, Rg k X.A) (hm : X.mg "repr" = none) (ha : DA X W (e :: es) h) (hg : Gl X "repr" := by rfl) (he : starEach (e :: es) X.env = (false, eval e X.env) :: starEach es X.env := by rfl) (hpl : (backTo pos (starEach es X.env)).any (·.1) = false := by rfl) : DE X W (.Call (.Name "repr" p) (e :: es) [] pos) (bnd h oReprD) := by
  obtain ⟨k, hr⟩ := hr
  exact de_callB (call_reprD hr.g hr.un200) snd_reprD hm (by decide +kernel) ha hg (by decide) (by decide) he hpl
/-! ### tuple(..), list(..) -/
def oSq (k : List D → D) (ds : List D) : Ev D := fun ρ M => match ds with
  | [d] => match seqOf d M with
    | some es => some (.ok (k es), M)
    | none => none
  | _ => none
def oTupOf : List D → Ev D := oSq .tup
def oLstOf : List D → Ev D := oSq .lst
theorem snd_lstOf : SndC K W (fun xs H Q => ∃ p ys, xs = [.ref p] ∧ (SqL K H p ys ∨ SqT K H p ys) ∧ ∀ l, H l = none → Q (.ref l) (upd H l (.lst ys))) oLstOf := by
  intro θ0 G0 xs ds hx ρ M r M' θ G σ H Q p s e rs rv kk
  unfold oLstOf oSq at e
  split at e
  · rename_i d
    split at e
    · rename_i es he
      cases e
      obtain ⟨v, rfl, hv⟩ := vals1 hx
      obtain ⟨a, xs, rfl, q, rl⟩ := seq_of rs (hv.mono p s) he
      refine ⟨a, xs, rfl, q, fun l hl => ?_⟩
      have g := rs.fresh hl
      exact (kk θ (upd G l (.lst xs)) _ (List.prefix_refl _) (same_upd g) (rs.laid hl _)).2 _ _ rfl (.dat (rp_lst upd_same (rl.mono (same_upd g))))
    · cases e
  · cases e
theorem de_lstOf (hm : X.mg "list" = none) (ha : DA X W (e :: es) h) (hg : Gl X "list" := by rfl) (he : starEach (e :: es) X.env = (false, eval e X.env) :: starEach es X.env := by rfl) (hpl : (backTo pos (starEach es X.env)).any (·.1) = false := by rfl) : DE X W (.Call (.Name "list" p) (e :: es) [] pos) (bnd h oLstOf) :=
  de_callTy call_list_of snd_lstOf hm (by decide +kernel) ha hg (by decide) (by decide) he hpl
/-! ### any, all -/
def oBs (k : List Bool → Bool) (ds : List D) : Ev D := match ds with
  | [.lst es] => match blsOf es with
    | some bs => ret (.bl (k bs))
    | none => stk
  | _ => stk
def oAny : List D → Ev D := oBs fun bs => bs.any id
def oAll : List D → Ev D := oBs fun bs => bs.all id
/-! ### constants of the module -/
theorem de_const {x : Str} {ca : Addr} {d : D} (hm : X.mg x = some (.ref ca)) (hd : ∀ G, Rp X.K G (.ref ca) d) (hg : Gl X x := by rfl) (hdb : (x == ("__debug__" : Str)) = false := by decide) : DE X W (.Name x pos) (ret d) := ⟨_, pe_glob (v := .ref ca) hg hm rfl (hd := hdb), fun _ _ => snd_c hd⟩
/-! ### is None -/
def D.isN : D → Bool
  | .non => true
  | _ => false
theorem Rv.isN {θ : List Th} {G : Hp} {v : V} {d : D} (h : Rv K θ G v d) : decide (v = .non) = d.isN := by
  cases h with
  | dat h => cases h <;> first | rfl | exact decide_eq_false (fun z => by cases z)
  | ptr h => exact decide_eq_false (fun z => by cases z)
  | exv _ h => exact decide_eq_false (fun z => by cases z)
  | dpt h => exact decide_eq_false (fun z => by cases z)
  | npt h => exact decide_eq_false (fun z => by cases z)
def oIsN (d e : D) : Ev D := match e with
  | .non => ret (.bl d.isN)
  | _ => stk
def oNotN (d e : D) : Ev D := match e with
  | .non => ret (.bl (!d.isN))
  | _ => stk
/-! ### truth of a sequence -/
def asTru (d : D) : Ev Bool := fun ρ M => match d with
  | .bl b => some (.ok b, M)
  | d => match seqOf d M with
    | some es => some (.ok (!es.isEmpty), M)
    | none => none
theorem dt_tru (h : DE X W e f) (he : ∀ whole, isTrue e X.env whole = (do let v ← whole; standAt e.pos; holding [v] (truthy v)) := by intro _; rfl) : DT X W e (bnd f asTru) := by
  obtain ⟨t, q, s⟩ := h
  refine ⟨_, pt_truth q he, fun θ G => (s θ G).bind (R2 := RB) (k := fun (x : V) (_ : L2.St) (H : Hp) (Q : Bool → Hp → Prop) => ∃ k, TruV X.K x H k ∧ Q k H) fun θ1 G1 v d _ _ hv => ?_⟩
  intro ρ M r M' θ2 G2 σ H Q p s e rs rv kk
  unfold asTru at e
  split at e
  · rename_i b
    cases e
    rw [hv.bl_of]
    exact ⟨b, rfl, (kk θ2 G2 H (List.prefix_refl _) (Same.refl _) rs).2 _ _ rfl rfl⟩
  · split at e
    · rename_i es he
      cases e
      obtain ⟨a, xs, rfl, q, rl⟩ := seq_of rs (hv.mono p s) he
      have ee : xs.isEmpty = es.isEmpty := by
        have := rl.len
        cases xs <;> cases es <;> simp_all
      refine ⟨!es.isEmpty, ?_, (kk θ2 G2 H (List.prefix_refl _) (Same.refl _) rs).2 _ _ rfl rfl⟩
      rw [← ee]
      rcases q with q | q
      · exact .inl ⟨xs, q, rfl⟩
      · exact .inr (.inl ⟨xs, q, rfl⟩)
    · cases e
/-! ### a < b < c -/
def dChain (f g h : Ev D) (o o' : D → D → Ev D) : Ev D := bnd f fun x => bnd g fun y => bnd (o x y) fun z => bnd (asB z) fun k => if k = true then bnd h fun w => o' y w else ret (.bl false)
/-! ### == of lists that change -/
def frz (M : Mem) (d : D) : D := match d with
  | .ptr n => match M[n]? with
    | some (some ds) => .lst ds
    | _ => d
  | _ => d
def oEqM (d e : D) : Ev D := fun ρ M => oEq (frz M d) (frz M e) ρ M
def oNeM (d e : D) : Ev D := fun ρ M => oNe (frz M d) (frz M e) ρ M
/-! ### x in a row -/
def oInD (neg : Bool) (d e : D) : Ev D :=
  if d.pl = true ∧ e.pl = true ∧ SeqAt.shaped (toPy d) = true ∧ SeqAt.shaped (toPy e) = true then match e with
    | .tup es => ret (.bl (if neg then !(toPys es).any fun z => PyData.eqv z (toPy d) else (toPys es).any fun z => PyData.eqv z (toPy d)))
    | .lst es => ret (.bl (if neg then !(toPys es).any fun z => PyData.eqv z (toPy d) else (toPys es).any fun z => PyData.eqv z (toPy d)))
    | _ => stk
  else stk
def rInLT (K : PySem.W.Frag) (neg : Bool) : R2 := fun x y H Q => rInT K neg x y H Q ∨ ∃ d ds, Dp K H x d ∧ Dp K H y (.list ds) ∧ SeqAt.shaped d = true ∧ SeqAt.shaped (.list ds) = true ∧ Q (.bl (if neg then !ds.any fun z => PyData.eqv z d else ds.any fun z => PyData.eqv z d)) H
theorem op_inLT (hu : X.A.units + 65 < cLine) : OpR X (compareOp .In) (rInLT X.K false) := by
  intro pins s σ H x y v u Q I rx ry h
  rcases h with h | h
  · exact op_inT hu pins s σ H x y v u Q I rx ry h
  · exact op_inD hu pins s σ H x y v u Q I rx ry h
theorem snd_inD {neg : Bool} : SndO K W (rInLT K neg) (oInD neg) := by
  intro θ G x y d e hx hy
  unfold oInD
  split
  · rename_i c
    split
    · rename_i es
      intro ρ M r M' θ1 G1 σ H Q p s e1 rs rv kk
      exact .inl ⟨_, _, (((hx.rp (pl_np c.1)).mono s).mono rs.sub).dp c.1, (((hy.rp (pl_np c.2.1)).mono s).mono rs.sub).dp c.2.1, c.2.2.1, c.2.2.2, Snd.ret (K := K) (W := W) (R := RV K) (θ0 := θ) (G0 := G) (fun _ _ _ _ => rv_bl) ρ M r M' θ1 G1 σ H Q p s e1 rs rv kk⟩
    · rename_i es
      intro ρ M r M' θ1 G1 σ H Q p s e1 rs rv kk
      exact .inr ⟨_, _, (((hx.rp (pl_np c.1)).mono s).mono rs.sub).dp c.1, (((hy.rp (pl_np c.2.1)).mono s).mono rs.sub).dp c.2.1, c.2.2.1, c.2.2.2, Snd.ret (K := K) (W := W) (R := RV K) (θ0 := θ) (G0 := G) (fun _ _ _ _ => rv_bl) ρ M r M' θ1 G1 σ H Q p s e1 rs rv kk⟩
    · exact Snd.stk
  · exact Snd.stk
theorem de_inD (hr : ∃ k, Rg k X.A) (ha : DE X W a f) (hb : DE X W b g) (hm : behindInMarks .In b = false := by rfl) : DE X W (.Compare a [.In] [b] pos) (bnd f fun d => bnd g fun e => oInD false d e) := by
  obtain ⟨k, hr⟩ := hr
  exact de_cmp (op_inLT (by have := hr.un200; omega)) snd_inD ha hb hm
/-! ### slices -/
abbrev RO : List Th → Hp → Option Int → Option Int → Prop := fun _ _ x y => x = y
def DO (X : Cx) (W : WN) (e : Option Expr) (g : Ev (Option Int)) : Prop := ∃ t, PO X e t ∧ ∀ θ G, Snd X.K W RO θ G t g
def asI (d : D) : Ev (Option Int) := match d with
  | .int i => ret (some i)
  | _ => stk
theorem do_none : DO X W none (ret none) := ⟨_, po_none, fun _ _ => Snd.ret fun _ _ _ _ => rfl⟩
theorem do_some (h : DE X W e f) : DO X W (some e) (bnd f asI) := by
  obtain ⟨t, q, s⟩ := h
  refine ⟨_, po_some q, fun θ G => (s θ G).bind (R2 := RO) (k := fun (x : V) (_ : L2.St) (H : Hp) (Q : Option Int → Hp → Prop) => ∃ i, x = .int i ∧ Q (some i) H) fun θ1 G1 v d _ _ hv => ?_⟩
  unfold asI
  split
  · rename_i i
    rw [hv.int_of]
    intro ρ M r M' θ2 G2 σ H Q p s e rs rv kk
    exact ⟨i, rfl, Snd.ret (K := X.K) (W := W) (R := RO) (θ0 := θ1) (G0 := G1) (fun _ _ _ _ => rfl) ρ M r M' θ2 G2 σ H Q p s e rs rv kk⟩
  · exact Snd.stk
def cutD (ds : List D) (lo hi : Option Int) : List D := (ds.drop (HT.sIx ds.length 0 lo)).take (HT.sIx ds.length ds.length hi - HT.sIx ds.length 0 lo)
theorem RpL.drop {G : Hp} {xs : List V} {ds : List D} (r : RpL K G xs ds) (n : Nat) : RpL K G (xs.drop n) (ds.drop n) := ⟨by simp [r.len], fun i v d h1 h2 => r.get (n + i) v d (by simpa using h1) (by simpa using h2)⟩
theorem RpL.take {G : Hp} {xs : List V} {ds : List D} (r : RpL K G xs ds) (n : Nat) : RpL K G (xs.take n) (ds.take n) := by
  refine ⟨by simp [r.len], fun i v d h1 h2 => ?_⟩
  rw [List.getElem?_take] at h1 h2
  split at h1
  · rename_i hi
    rw [if_pos hi] at h2
    exact r.get i v d h1 h2
  · cases h1
theorem RpL.cut {G : Hp} {xs : List V} {ds : List D} (r : RpL K G xs ds) (lo hi : Option Int) : RpL K G (cutV xs lo hi) (cutD ds lo hi) := by
  unfold cutV cutD
  rw [r.len]
  exact (r.drop _).take _
theorem RpL.reverse {G : Hp} {xs : List V} {ds : List D} (r : RpL K G xs ds) : RpL K G xs.reverse ds.reverse := by
  refine ⟨by simp [r.len], fun i v d h1 h2 => ?_⟩
  have hi : i < xs.length := by
    rcases Nat.lt_or_ge i xs.length with q | q
    · exact q
    · rw [List.getElem?_eq_none (by simpa using q)] at h1; cases h1
  rw [List.getElem?_reverse hi] at h1
  rw [List.getElem?_reverse (by rw [← r.len]; exact hi), ← r.len] at h2
  exact r.get _ v d h1 h2
/-- a list's items -/
def lseq (d : D) (M : Mem) : Option (List D) := match d with
  | .tup _ => none
  | d => seqOf d M
theorem lseq_of {θ : List Th} {G H : Hp} {M : Mem} {v : V} {d : D} {ds : List D} (rs : Rs K θ G H M) (hv : Rv K θ G v d) (h : lseq d M = some ds) : ∃ a xs, v = .ref a ∧ SqL K H a xs ∧ RpL K G xs ds := by
  cases hv with
  | dat q =>
    cases q with
    | lst h1 l g => cases h; exact ⟨_, _, rfl, .inl (.inl (rs.sub _ _ h1)), l, g⟩
    | scr h1 l g => cases h; exact ⟨_, _, rfl, rs.sub.seq h1, l, g⟩
    | _ => cases h
  | ptr hn =>
    rename_i n a
    unfold lseq seqOf at h
    dsimp only at h
    split at h
    · rename_i es hm
      cases h
      obtain ⟨g, xs, hx, rl⟩ := rs.mem n _ _ hn hm
      exact ⟨_, xs, rfl, .inl (.inl hx), rl⟩
    · cases h
  | dpt _ => cases h
  | npt _ => cases h
  | exv _ _ => cases h
def oSl (d : D) (lo hi : Option Int) : Ev D := fun ρ M => match d with
  | .tup ds => some (.ok (.tup (cutD ds lo hi)), M)
  | d => match lseq d M with
    | some ds => some (.ok (.lst (cutD ds lo hi)), M)
    | none => none
theorem de_slice {lo hi : Option Expr} {gl gh : Ev (Option Int)} (ha : DE X W a f) (hl : DO X W lo gl) (hh : DO X W hi gh) : DE X W (.Subscript a (.Slice lo hi none p2) pos) (bnd f fun d => bnd gl fun l => bnd gh fun u => oSl d l u) := by
  obtain ⟨t, q, s⟩ := ha
  obtain ⟨tl, pl, sl⟩ := hl
  obtain ⟨th, ph, sh⟩ := hh
  refine ⟨_, pe_slice (sl_tupA.or sl_list) q pl ph, fun θ G => ?_⟩
  refine (s θ G).bind (R2 := RV X.K) (k := fun (x : V) (σ : L2.St) (H1 : Hp) (Q : V → Hp → Prop) => tl σ H1 fun l H2 => th σ H2 fun u H3 => rSlA X.K x l u H3 Q ∨ rSlL X.K x l u H3 Q) fun θ1 G1 v d _ _ hv => ?_
  refine (sl θ1 G1).bind (R2 := RV X.K) (k := fun (l : Option Int) (σ : L2.St) (H2 : Hp) (Q : V → Hp → Prop) => th σ H2 fun u H3 => rSlA X.K v l u H3 Q ∨ rSlL X.K v l u H3 Q) fun θ2 G2 l l' p2 s2 hl => ?_
  cases hl
  refine (sh θ2 G2).bind (R2 := RV X.K) (k := fun (u : Option Int) (_ : L2.St) (H3 : Hp) (Q : V → Hp → Prop) => rSlA X.K v l u H3 Q ∨ rSlL X.K v l u H3 Q) fun θ3 G3 u u' p3 s3 hu => ?_
  cases hu
  intro ρ M r M' θ4 G4 σ H Q p4 s4 e rs rv kk
  have hv4 := hv.mono ((p2.trans p3).trans p4) ((s2.trans s3).trans s4)
  have lay : ∀ {xs : List V} {ds : List D}, RpL X.K G4 xs ds → ∀ q, H q = none → (r = .ok (.lst (cutD ds l u))) → M' = M → Q (.ref q) (upd H q (.lst (cutV xs l u))) := by
    intro xs ds rl q hq e1 e2
    subst e1; subst e2
    have g := rs.fresh hq
    exact (kk θ4 (upd G4 q (.lst (cutV xs l u))) _ (List.prefix_refl _) (same_upd g) (rs.laid hq _)).2 _ _ rfl (.dat (rp_lst upd_same ((rl.cut l u).mono (same_upd g))))
  unfold oSl at e
  split at e
  · rename_i ds
    cases e
    cases hv4 with
    | dat hd =>
      cases hd with
      | tup h1 l1 g1 =>
        rename_i a xs
        have rl : RpL X.K G4 xs ds := ⟨l1, g1⟩
        refine .inl ⟨a, xs, rfl, seqT rs.sub h1, fun hw => ?_, fun _ q hq => ?_⟩
        · have ec : cutD ds l u = ds := by
            unfold cutD
            rw [rl.len] at hw
            rw [hw.1, hw.2]
            simp
          rw [ec] at kk
          exact (kk θ4 G4 H (List.prefix_refl _) (Same.refl _) rs).2 _ _ rfl (.dat (.tup h1 l1 g1))
        · have g := rs.fresh hq
          exact (kk θ4 (upd G4 q (.tup (cutV xs l u))) _ (List.prefix_refl _) (same_upd g) (rs.laid hq _)).2 _ _ rfl (.dat (rp_tup upd_same ((rl.cut l u).mono (same_upd g))))
  · split at e
    · rename_i ds hd
      cases e
      obtain ⟨a, xs, rfl, q, rl⟩ := lseq_of rs hv4 hd
      exact .inr ⟨a, xs, rfl, q, fun q hq => lay rl q hq rfl rfl⟩
    · cases e
/-! ### x[::-1] -/
def oRv (d : D) : Ev D := fun ρ M => match d with
  | .tup ds => some (.ok (.tup ds.reverse), M)
  | d => match lseq d M with
    | some ds => some (.ok (.lst ds.reverse), M)
    | none => none
/-! ### for over a list or a tuple -/
def iSeq (K : PySem.W.Frag) (tl : TE) : TI := fun σ H R => tl σ H fun x H1 => (∃ a, x = .ref a ∧ (∃ xs, SqL K H1 a xs) ∧ R (Itl K a) H1) ∨ ∃ a, x = .ref a ∧ (∃ xs, SqT K H1 a xs) ∧ R (Itt K a) H1
def oItS (d : D) : Ev (List D) := match d with
  | .lst ds => ret ds
  | .tup ds => ret ds
  | _ => stk
/-! ### zip of two tuples, of two lists -/
def zipD (a b : List D) : List D := (a.zip b).map fun q => .tup [q.1, q.2]
def oZip (ds : List D) : Ev (List D) := match ds with
  | [.tup a, .tup b] => ret (zipD a b)
  | [.lst a, .lst b] => ret (zipD a b)
  | _ => stk
theorem rp_pair {G : Hp} {q : Addr} {x y : V} {u v : D} (h : G q = some (.tup [x, y])) (hx : Rp K G x u) (hy : Rp K G y v) : Rp K G (.ref q) (.tup [u, v]) := rp_tup h (RpL.cons hx (RpL.cons hy RpL.nil))
/-! ### x += e of numbers -/
def sAug (i : Nat) (f : Ev D) (o : D → D → Ev D) : Sv := fun ρ M => match ρ[i]? with
  | some (some d) => thenS f (fun e => thenS (o d e) fun z ρ M => some (.nx (ρ.set i (some z)), M)) ρ M
  | _ => none
def oAddI (d e : D) : Ev D := match d, e with
  | .int i, .int j => ret (.int (i + j))
  | _, _ => stk
def oSubI (d e : D) : Ev D := match d, e with
  | .int i, .int j => ret (.int (i - j))
  | _, _ => stk
end
/-! ### defs -/
section
variable {K : PySem.W.Frag} {P : Program} {w : World} {mg : Str → Option Value} {base : Heap} {x qual : Str} {st : Stmt} {f : Addr} {fd : FuncData} {N ps : List Str} {k n : Nat} {F : Fd} {fb : Sv}
theorem fn_okG (FU : Fun K x qual st f fd) (S : FnScope N ps (defScope st)) (hn : ps.length = n)
    (body : ∀ (cdv : Value) (A : Around) (outer : List PySem.Env) (s : Shared) (H : Hp) (E : XK), Rg k (A.deeper (envOfC qual (defScope st) s.heap.objs.size f cdv)) → DSs (cxOf CX0 P w K mg base N qual (defScope st) f cdv A outer s H E).nox W0 (defBody st) fb)
    (hF : ∀ ds M r M', ds.length = n → F ds M = some (r, M') → M.length ≤ M'.length ∧ ∃ o M2, fb (startD N ds) M = some (o, M2) ∧ Exit o M2 r M')
    (hx : ∀ ds M C M', F ds M ≠ some (.exc C, M')) : GOk P w K mg base CX0 (k + 1) f fd ps (spF K mg n F) := by
  refine gok_of FU S (fun vs H Q E h => (spF_len h).trans hn.symm) fun cdv A outer s H vs Q E hr h => ?_
  obtain ⟨t, p, sn⟩ := body cdv A outer s H E hr
  refine ⟨t, p.nox, ?_⟩
  obtain ⟨θ, G, ds, M, r, M', rs, rv, hl, e, kk⟩ := h
  obtain ⟨hle, o, M2, e2, ex⟩ := hF ds M r M' hl e
  cases r with
  | exc C => exact absurd e (hx ds M C M')
  | ok d =>
    exact body_ok (mg := fun _ => some (.ref 0)) (W := W0) (E := fun _ _ _ => False) (fun _ _ _ h => h 0 rfl) sn hF ⟨θ, G, ds, M, .ok d, M', rs, rv, hl, e, fun θ' G' H' p' s' rs' => ⟨fun x C hC => (by cases hC), (kk θ' G' H' p' s' rs').2⟩⟩
theorem fn_okXG (FU : Fun K x qual st f fd) (S : FnScope N ps (defScope st)) (hn : ps.length = n)
    (body : ∀ (cdv : Value) (A : Around) (outer : List PySem.Env) (s : Shared) (H : Hp) (E : XK), Rg k (A.deeper (envOfC qual (defScope st) s.heap.objs.size f cdv)) → DSs (cxOf (L2.CX P w) P w K mg base N qual (defScope st) f cdv A outer s H E) (fun x _ H => ∀ C, mg x = some (.ref C) → E (.ref C) none H) (defBody st) fb)
    (hF : ∀ ds M r M', ds.length = n → F ds M = some (r, M') → M.length ≤ M'.length ∧ ∃ o M2, fb (startD N ds) M = some (o, M2) ∧ Exit o M2 r M') : GOk P w K mg base (L2.CX P w) (k + 1) f fd ps (spF K mg n F) := by
  refine gok_of FU S (fun vs H Q E h => (spF_len h).trans hn.symm) fun cdv A outer s H vs Q E hr h => ?_
  obtain ⟨t, p, sn⟩ := body cdv A outer s H E hr
  exact ⟨t, p, body_ok (fun _ _ _ h => h) sn hF h⟩
end
end Bw
namespace Bw
open PySem PySem.Spec PyProof.Rows L2
theorem rp_c2 {K : PySem.W.Frag} {a : Addr} {od : Option Addr} {n : Nat} {sl : Array (Option Value)} {t0 t1 : Tok} {i j : Int} (l : K.lookup a = some ⟨.type "tuple", od, .seq #[.int i t0, .int j t1] n, sl⟩) (G : Hp) : Rp K G (.ref a) (.tup [.int i, .int j]) := by
  have r : RpL K G [V.int i, V.int j] [.int i, .int j] := RpL.cons (.int i) (RpL.cons (.int j) RpL.nil)
  have v : Vals [V.int i, V.int j] [Value.int i t0, Value.int j t1] := .cons ⟨t0, rfl⟩ (.cons ⟨t1, rfl⟩ .nil)
  have z : (#[Value.int i t0, Value.int j t1] : Array Value).size ≤ sizeLine := by rw [sizeLine_eq]; simp
  exact .tup (.inr ⟨_, _, n, l, rfl, rfl, z, v⟩) r.len r.get
end Bw
namespace Bw
open PySem PySem.Spec PyProof.Rows L2
/-! ### == of texts -/
def oEqS (d e : D) : Ev D := match d, e with
  | .str a, .str b => ret (.bl (decide (a = b)))
  | _, _ => stk
def oNeS (d e : D) : Ev D := match d, e with
  | .str a, .str b => ret (.bl (!decide (a = b)))
  | _, _ => stk
section
variable {X : Cx} {W : WN} {pos : Pos} {K : PySem.W.Frag} {a b : Expr} {f g : Ev D}
theorem Rv.str_of {θ : List Th} {G : Hp} {v : V} {z : Str} (h : Rv K θ G v (.str z)) : v = .str z := by
  cases h with
  | dat h => cases h; rfl
theorem dec_str (a b : Str) : decide (V.str a = V.str b) = decide (a = b) := by
  by_cases h : a = b
  · subst h; simp
  · rw [decide_eq_false h, decide_eq_false fun z => h (by cases z; rfl)]
theorem snd_neS : SndO K W rNe oNeS := by
  intro θ G x y d e hx hy
  unfold oNeS
  split
  · rename_i a b
    rw [hx.str_of, hy.str_of]
    intro ρ M r M' θ1 G1 σ H Q p s e rs rv kk
    refine ⟨rfl, ?_⟩
    rw [dec_str]
    exact Snd.ret (K := K) (W := W) (R := RV K) (θ0 := θ) (G0 := G) (fun _ _ _ _ => rv_bl) ρ M r M' θ1 G1 σ H Q p s e rs rv kk
  · exact Snd.stk
theorem dt_neS (ha : DE X W a f) (hb : DE X W b g) : DT X W (.Compare a [.NotEq] [b] pos) (bnd (bnd f fun d => bnd g fun e => oNeS d e) asB) := dt_cmp op_ne snd_neS ha hb (nomark _)
end
theorem oEqS_ap (a b : Str) (ρ : Env) (M : Mem) : oEqS (.str a) (.str b) ρ M = some (.ok (.bl (decide (a = b))), M) := rfl
theorem oNeS_ap (a b : Str) (ρ : Env) (M : Mem) : oNeS (.str a) (.str b) ρ M = some (.ok (.bl (!decide (a = b))), M) := rfl
/-! ### what is shown -/
structure Sh (k n : Nat) (d : D) : Prop where
  pl : d.pl = true
  sh : (toPy d).showable = true
  nd : (toPy d).hasDict = false
  dp : (toPy d).depth ≤ k
  ln : (toPy d).shown.length ≤ 2000 * n
theorem Sh.mono {k n k' n' : Nat} {d : D} (h : Sh k n d) (hk : k ≤ k') (hn : n ≤ n') : Sh k' n' d := ⟨h.pl, h.sh, h.nd, Nat.le_trans h.dp hk, Nat.le_trans h.ln (Nat.mul_le_mul_left _ hn)⟩
theorem Sh.int {i : Int} (h : i.natAbs.log2 < 1920) : Sh 0 1 (.int i) := ⟨rfl, by simpa [toPy, PyData.showable] using h, rfl, by simp [toPy, PyData.depth], by
  have := int_text_len_1921 h
  simp only [toPy, PyData.shown]
  omega⟩
theorem Sh.non : Sh 0 1 .non := ⟨rfl, rfl, rfl, by simp [toPy, PyData.depth], by show (PySem.Str.ofString "None").length ≤ _; decide⟩
theorem Sh.bl (b : Bool) : Sh 0 1 (.bl b) := ⟨rfl, rfl, rfl, by simp [toPy, PyData.depth], by cases b <;> simp only [toPy, PyData.shown] <;> decide⟩
theorem plL_of : ∀ {ds : List D}, (∀ d ∈ ds, d.pl = true) → plL ds = true
  | [], _ => rfl
  | d :: ds, h => by
    unfold plL
    rw [h d (by simp), plL_of fun e he => h e (by simp [he])]
    rfl
theorem shL_of : ∀ {ds : List D}, (∀ d ∈ ds, (toPy d).showable = true) → PyData.showableAll (toPys ds) = true
  | [], _ => rfl
  | d :: ds, h => by
    simp only [toPys, PyData.showableAll]
    rw [h d (by simp), shL_of fun e he => h e (by simp [he])]
    rfl
theorem ndL_of : ∀ {ds : List D}, (∀ d ∈ ds, (toPy d).hasDict = false) → PyData.hasDictAll (toPys ds) = false
  | [], _ => rfl
  | d :: ds, h => by
    simp only [toPys, PyData.hasDictAll]
    rw [h d (by simp), ndL_of fun e he => h e (by simp [he])]
    rfl
theorem dpL_of {k : Nat} : ∀ {ds : List D}, (∀ d ∈ ds, (toPy d).depth ≤ k) → PyData.depthAll (toPys ds) ≤ k
  | [], _ => by simp [toPys, PyData.depthAll]
  | d :: ds, h => by
    simp only [toPys, PyData.depthAll]
    have h1 := h d (by simp)
    have h2 := dpL_of (ds := ds) fun e he => h e (by simp [he])
    omega
theorem lnL_of {n : Nat} : ∀ {ds : List D}, (∀ d ∈ ds, (toPy d).shown.length ≤ n) → piled (PyData.shownAll (toPys ds)) ≤ ds.length * (n + 2)
  | [], _ => by simp [toPys, PyData.shownAll, piled]
  | d :: ds, h => by
    simp only [toPys, PyData.shownAll]
    rw [piled_cons]
    have h1 := h d (by simp)
    have h2 := lnL_of (ds := ds) fun e he => h e (by simp [he])
    rw [List.length_cons, Nat.succ_mul]
    omega
theorem textFrom_le : ∀ (ts : List Str) (k : Nat) (acc : Str), (textFrom k acc ts).length ≤ acc.length + piled ts
  | [], k, acc => by simp [textFrom]
  | t :: ts, k, acc => by
    unfold textFrom
    refine Nat.le_trans (textFrom_le ts _ _) ?_
    rw [strLen_append, strLen_append, piled_cons]
    have : ((if k > 0 then ", " else "" : String) : Str).length ≤ 2 := by split <;> decide
    omega
theorem join_le (ts : List Str) : (Str.join ", " ts).length ≤ piled ts := by
  cases ts with
  | nil => exact Nat.zero_le _
  | cons t r =>
    have := join_length_add (t :: r) (by simp)
    omega
theorem Sh.tup {k n : Nat} {ds : List D} (h : ∀ d ∈ ds, Sh k n d) : Sh (k + 1) (ds.length * (n + 1) + 1) (.tup ds) := by
  refine ⟨?_, ?_, ?_, ?_, ?_⟩
  · unfold D.pl; exact plL_of fun d hd => (h d hd).pl
  · simp only [toPy, PyData.showable]; exact shL_of fun d hd => (h d hd).sh
  · simp only [toPy, PyData.hasDict]; exact ndL_of fun d hd => (h d hd).nd
  · simp only [toPy, PyData.depth]
    have := dpL_of fun d hd => (h d hd).dp
    omega
  · simp only [toPy, PyData.shown]
    have h1 := lnL_of fun d hd => (h d hd).ln
    have h2 := join_le (PyData.shownAll (toPys ds))
    unfold tupleText
    rw [strLen_append, strLen_append]
    have e1 : (("(" : String) : Str).length = 1 := by decide
    have e2 : ((if (PyData.shownAll (toPys ds)).length == 1 then ",)" else ")" : String) : Str).length ≤ 2 := by split <;> decide
    have e3 : ds.length * (2000 * n + 2) ≤ 2000 * (ds.length * (n + 1)) := by
      have a1 : 2000 * n + 2 ≤ 2000 * (n + 1) := by omega
      have a2 := Nat.mul_le_mul_left ds.length a1
      have a3 : ds.length * (2000 * (n + 1)) = 2000 * (ds.length * (n + 1)) := Nat.mul_left_comm _ _ _
      omega
    rw [e1]
    omega
theorem Sh.lst {k n : Nat} {ds : List D} (h : ∀ d ∈ ds, Sh k n d) : Sh (k + 1) (ds.length * (n + 1) + 1) (.lst ds) := by
  refine ⟨?_, ?_, ?_, ?_, ?_⟩
  · unfold D.pl; exact plL_of fun d hd => (h d hd).pl
  · simp only [toPy, PyData.showable]; exact shL_of fun d hd => (h d hd).sh
  · simp only [toPy, PyData.hasDict]; exact ndL_of fun d hd => (h d hd).nd
  · simp only [toPy, PyData.depth]
    have := dpL_of fun d hd => (h d hd).dp
    omega
  · simp only [toPy, PyData.shown]
    have h1 := lnL_of fun d hd => (h d hd).ln
    have h2 := textFrom_le (PyData.shownAll (toPys ds)) 0 "["
    unfold listText
    rw [strLen_append]
    have e1 : (("[" : String) : Str).length = 1 := by decide
    have e2 : (("]" : String) : Str).length = 1 := by decide
    have e3 : ds.length * (2000 * n + 2) ≤ 2000 * (ds.length * (n + 1)) := by
      have a1 : 2000 * n + 2 ≤ 2000 * (n + 1) := by omega
      have a2 := Nat.mul_le_mul_left ds.length a1
      have a3 : ds.length * (2000 * (n + 1)) = 2000 * (ds.length * (n + 1)) := Nat.mul_left_comm _ _ _
      omega
    rw [e1] at h2
    rw [e2]
    omega
theorem bd_log {q : Rat} (h : Bd 1900 q) : q.num.natAbs.log2 < 1920 ∧ ((q.den : Int)).natAbs.log2 < 1920 := by
  have h1 := log2_le_of h.1
  have h2 := log2_le_of h.2
  rw [Int.natAbs_natCast]
  omega
theorem Sh.fr {q : Rat} (h : Bd 1900 q) : Sh 1 5 (frQ q) := by
  obtain ⟨h1, h2⟩ := bd_log h
  have t := Sh.tup (k := 0) (n := 1) (ds := [.int q.num, .int (q.den : Int)]) (by
    simp only [List.mem_cons, List.not_mem_nil, or_false]
    rintro d (rfl | rfl)
    · exact Sh.int h1
    · exact Sh.int h2)
  exact t
/-! ### evaluation of the new parts -/
theorem oItS_lst (ds : List D) (ρ : Env) (M : Mem) : oItS (.lst ds) ρ M = some (.ok ds, M) := rfl
theorem oItS_tup (ds : List D) (ρ : Env) (M : Mem) : oItS (.tup ds) ρ M = some (.ok ds, M) := rfl
theorem oTupOf_lst (ds : List D) (ρ : Env) (M : Mem) : oTupOf [.lst ds] ρ M = some (.ok (.tup ds), M) := rfl
theorem oTupOf_tup (ds : List D) (ρ : Env) (M : Mem) : oTupOf [.tup ds] ρ M = some (.ok (.tup ds), M) := rfl
theorem oLstOf_lst (ds : List D) (ρ : Env) (M : Mem) : oLstOf [.lst ds] ρ M = some (.ok (.lst ds), M) := rfl
theorem oLstOf_tup (ds : List D) (ρ : Env) (M : Mem) : oLstOf [.tup ds] ρ M = some (.ok (.lst ds), M) := rfl
theorem oRv_lst (ds : List D) (ρ : Env) (M : Mem) : oRv (.lst ds) ρ M = some (.ok (.lst ds.reverse), M) := rfl
theorem oRv_tup (ds : List D) (ρ : Env) (M : Mem) : oRv (.tup ds) ρ M = some (.ok (.tup ds.reverse), M) := rfl
theorem oAdd_tup (a b : List D) (ρ : Env) (M : Mem) (h : a.length + b.length ≤ 16777216) : oAdd (.tup a) (.tup b) ρ M = some (.ok (.tup (a ++ b)), M) := by
  unfold oAdd
  dsimp only
  rw [if_pos h]; rfl
theorem dChain_ap (f g h : Ev D) (o o' : D → D → Ev D) (ρ : Env) (M : Mem) : dChain f g h o o' ρ M = bindR (f ρ M) fun x M1 => bindR (g ρ M1) fun y M2 => bindR (o x y ρ M2) fun z M3 => bindR (asB z ρ M3) fun k M4 => if k = true then bindR (h ρ M4) fun w M5 => o' y w ρ M5 else some (.ok (.bl false), M4) := by
  unfold dChain
  simp only [bnd_ap]
  congr
  funext x M1
  congr
  funext y M2
  congr
  funext z M3
  congr
  funext k M4
  split <;> rfl
theorem asTru_bl (b : Bool) (ρ : Env) (M : Mem) : asTru (.bl b) ρ M = some (.ok b, M) := rfl
theorem asTru_tup (ds : List D) (ρ : Env) (M : Mem) : asTru (.tup ds) ρ M = some (.ok (!ds.isEmpty), M) := rfl
theorem asTru_lst (ds : List D) (ρ : Env) (M : Mem) : asTru (.lst ds) ρ M = some (.ok (!ds.isEmpty), M) := rfl
theorem oIsN_ap (d : D) (ρ : Env) (M : Mem) : oIsN d .non ρ M = some (.ok (.bl d.isN), M) := rfl
theorem oNotN_ap (d : D) (ρ : Env) (M : Mem) : oNotN d .non ρ M = some (.ok (.bl (!d.isN)), M) := rfl
theorem asI_ap (i : Int) (ρ : Env) (M : Mem) : asI (.int i) ρ M = some (.ok (some i), M) := rfl
theorem oSl_tup (ds : List D) (l u : Option Int) (ρ : Env) (M : Mem) : oSl (.tup ds) l u ρ M = some (.ok (.tup (cutD ds l u)), M) := rfl
theorem oSl_lst (ds : List D) (l u : Option Int) (ρ : Env) (M : Mem) : oSl (.lst ds) l u ρ M = some (.ok (.lst (cutD ds l u)), M) := rfl
theorem oZip_tup (a b : List D) (ρ : Env) (M : Mem) : oZip [.tup a, .tup b] ρ M = some (.ok (zipD a b), M) := rfl
theorem oZip_lst (a b : List D) (ρ : Env) (M : Mem) : oZip [.lst a, .lst b] ρ M = some (.ok (zipD a b), M) := rfl
theorem oAddI_ap (i j : Int) (ρ : Env) (M : Mem) : oAddI (.int i) (.int j) ρ M = some (.ok (.int (i + j)), M) := rfl
/-! ### rows of plain data -/
theorem oNe_nil (ρ : Env) (M : Mem) : oNe (.lst []) (.lst []) ρ M = some (.ok (.bl false), M) := rfl
end Bw
namespace Bw
open PySem PySem.Spec PyProof.Rows L2
/-- isinstance of several built-in types -/
def kitBs (a : String) : List String → Option Bool
  | [] => some false
  | T :: l => match kitB a T with
    | some true => some true
    | some false => kitBs a l
    | none => none
end Bw
/-! dicts of mixed keys: the readings -/
namespace Bw
open PySem PySem.Spec PyProof.Rows L2
/-- a value as a key -/
inductive KyV (K : PySem.W.Frag) (H : Hp) : V → NK → Prop
  | non : KyV K H .non .none
  | int (i : Int) : KyV K H (.int i) (.num i)
  | tup {a : Addr} {is : List Int} (h : SqT K H a (is.map V.int)) : KyV K H (.ref a) (.tup (is.map .num))
theorem nestedInts {h : Heap} : ∀ {is : List Int} {us : List Value}, Vals (is.map V.int) us → NestedAll h (is.map .num) us
  | [], us, r => by cases r; exact .nil
  | i :: is, us, r => by
    rw [List.map_cons] at r
    cases r with
    | cons a b =>
      obtain ⟨t, rfl⟩ := a
      exact .cons (.int i t) (nestedInts b)
theorem KyV.ky {X : Cx} {pins : List (Addr × Obj)} {σ : L2.St} {H : Hp} {s : Shared} {v : V} {k : NK} {u : Value} (I : Inv X pins σ H s) (x : KyV X.K H v k) (r : RelV v u) : KyIs s.heap k u := by
  cases x with
  | non => cases (show u = Value.none from r); exact .non
  | int i => obtain ⟨t, rfl⟩ := r; exact .int i t
  | tup q =>
    cases (show u = Value.ref _ from r)
    obtain ⟨its, rv, ⟨o, e, c, n, d⟩, _⟩ := I.tuple q
    exact .tup (.tup e c d (by simpa using nestedInts rv))
theorem KyV.mono {K : PySem.W.Frag} {G H : Hp} {v : V} {k : NK} (s : Same G H) (x : KyV K G v k) : KyV K H v k := by
  cases x with
  | non => exact .non
  | int i => exact .int i
  | tup q => exact .tup (seqT s q)
def lookV (es : VE) (k : NK) : Option (V × V) := (es.find? fun x => decide (x.1 = k)).map (·.2)
def putV (es : VE) (k : NK) (kv v : V) : VE := if (lookV es k).isSome = true then es.map (fun x => if x.1 = k then (x.1, x.2.1, v) else x) else es ++ [(k, kv, v)]
abbrev PV : VE → R3 → Prop := Paired fun (p : NK × V × V) (q : NK × Value × Value) => p.1 = q.1 ∧ RelV p.2.1 q.2.1 ∧ RelV p.2.2 q.2.2
theorem PV.look {es : VE} {rows : R3} (h : PV es rows) (k : NK) : (lookV es k = none ∧ look3 rows k = none) ∨ ∃ p q, lookV es k = some p ∧ look3 rows k = some q ∧ RelV p.1 q.1 ∧ RelV p.2 q.2 := by
  induction h with
  | nil => exact .inl ⟨rfl, rfl⟩
  | @cons p q ps qs r t ih =>
    by_cases e : p.1 = k
    · right
      refine ⟨p.2, q.2, ?_, ?_, r.2.1, r.2.2⟩
      · unfold lookV; rw [List.find?_cons_of_pos (by simpa using e)]; rfl
      · unfold look3; rw [List.find?_cons_of_pos (by simpa using r.1.symm.trans e)]; rfl
    · have e2 : ¬ q.1 = k := fun z => e (r.1.trans z)
      unfold lookV look3 at ih ⊢
      rw [List.find?_cons_of_neg (by simpa using e), List.find?_cons_of_neg (by simpa using e2)]
      exact ih
theorem PV.put {es : VE} {rows : R3} (h : PV es rows) {k : NK} {kv v : V} {ku u : Value} (rk : RelV kv ku) (rv : RelV v u) : PV (putV es k kv v) (put3 rows k ku u) := by
  unfold putV put3
  have map : PV (es.map (fun x => if x.1 = k then (x.1, x.2.1, v) else x)) (rows.map (fun x => if x.1 = k then (x.1, x.2.1, u) else x)) := by
    clear rk
    induction h with
    | nil => exact .nil
    | @cons p q ps qs r t ih =>
      rw [List.map_cons, List.map_cons]
      refine .cons ?_ ih
      by_cases e : p.1 = k
      · rw [if_pos e, if_pos (r.1.symm.trans e)]; exact ⟨r.1, r.2.1, rv⟩
      · rw [if_neg e, if_neg (fun z => e (r.1.trans z))]; exact r
  rcases PV.look h k with ⟨e1, e2⟩ | ⟨p, q, e1, e2, _⟩
  · rw [e1, e2]
    exact Paired.snoc h ⟨rfl, rk, rv⟩
  · rw [e1, e2]
    exact map
/-- what is known of a dict -/
structure D3 (K : PySem.W.Frag) (H : Hp) (a : Addr) (es : VE) : Prop where
  rd : Rd H a (DH a es)
  ky : ∀ p ∈ es, KyV K H p.2.1 p.1
section
variable {X : Cx} {pins : List (Addr × Obj)} {σ : L2.St} {H : Hp} {s : Shared} {a : Addr} {es : VE}
theorem PV.keys {rows : R3} (h : PV es rows) (I : Inv X pins σ H s) (ky : ∀ p ∈ es, KyV X.K H p.2.1 p.1) : ∀ x ∈ rows, KyIs s.heap x.1 x.2.1 := by
  induction h with
  | nil => intro x hx; cases hx
  | @cons p q ps qs r t ih =>
    intro x hx
    rcases List.mem_cons.mp hx with e | hx
    · subst e
      rw [← r.1]
      exact (ky p (by simp)).ky I r.2.1
    · exact ih (fun p hp => ky p (by simp [hp])) x hx
theorem DH.new {P : Program} {w : World} {H' : Hp} {h' : Heap} {es : VE} {rows : R3} (h1 : (a == sysModules) = false) (h2 : es.length ≤ sizeLine) (h3 : PV es rows) (h4 : Dic3 h' a rows) : ObjOk P w H' h' a (DH a es) := by
  refine ⟨⟨h1, h2, rows, h3, h4⟩, ?_, fun g1 g2 q k => ?_⟩
  · obtain ⟨o, _, _, e, _⟩ := h4; exact ⟨o, e⟩
  · obtain ⟨q1, q2, rows, q3, o, es, ep, e, r⟩ := q
    exact ⟨q1, q2, rows, q3, o, es, ep, k o e, r⟩
end
/-- d[y] -/
def rIx3 (K : PySem.W.Frag) : R2 := fun x y H Q => ∃ a es k p, x = .ref a ∧ D3 K H a es ∧ KyV K H y k ∧ lookV es k = some p ∧ Q p.2 H
/-- y in d -/
def rIn3 (K : PySem.W.Frag) : R2 := fun y x H Q => ∃ a es k, x = .ref a ∧ D3 K H a es ∧ KyV K H y k ∧ Q (.bl (lookV es k).isSome) H
/-- d[y] = v -/
def rSet3 (K : PySem.W.Frag) : TSet := fun o i v H Q => ∃ a es k, o = .ref a ∧ H a = some (DH a es) ∧ (∀ p ∈ es, KyV K H p.2.1 p.1) ∧ KyV K H i k ∧ es.length < sizeLine ∧ Q (upd H a (DH a (putV es k i v)))
/-- d.get(y, z) -/
def tGet3 (K : PySem.W.Frag) (td ty tx : TE) : TE := fun σ H Q => td σ H fun x H1 => ∃ a es, x = .ref a ∧ D3 K H1 a es ∧ ty σ H1 fun y H2 => tx σ H2 fun z H3 => ∃ es3 k, D3 K H3 a es3 ∧ KyV K H3 y k ∧ Q (((lookV es3 k).map (·.2)).getD z) H3
section
variable {X : Cx} {o i e f : Expr} {pos apos cpos : Pos} {td ty tx : TE}
end
/-! ### for y in d -/
/-- the keys of the locked dict -/
def Itk3 (d : Addr) (o : Obj) (es : VE) : It :=
  ⟨fun i H => H d = some (.frz o (DH d es)) ∧ i < es.length, fun i H x H' => H' = H ∧ ∃ k v, es[i]? = some (k, x, v), fun i H => H d = some (.frz o (DH d es)) ∧ es.length ≤ i⟩
section
variable {P : Program} {w : World} {K : PySem.W.Frag} {tg : Expr} {d : Addr} {o : Obj} {en : Array DictEntry} {ep : Nat}
end
def iKeys3 (td : TE) : TI := fun σ H R => td σ H fun x H1 => ∃ d o es, x = .ref d ∧ H1 d = some (.frz o (DH d es)) ∧ R (Itk3 d o es) H1
end Bw
/-! dicts, by data -/
namespace Bw
open PySem PySem.Spec PyProof.Rows L2
def decs : List D → Option DEs
  | [] => some []
  | .tup [k, v] :: r => (decs r).map ((k, v) :: ·)
  | _ :: _ => none
def dec (ds : List D) : Option (Bool × DEs) := match ds with
  | .bl b :: r => (decs r).map (b, ·)
  | _ => none
def dicOf (d : D) (M : Mem) : Option (Nat × Bool × DEs) := match d with
  | .dpt n => match M[n]? with
    | some (some ds) => (dec ds).map (n, ·)
    | _ => none
  | _ => none
section
variable {K : PySem.W.Frag} {θ : List Th} {G H : Hp} {M : Mem} {v : V} {d : D} {n : Nat} {b : Bool} {es : DEs}
theorem ints_of : ∀ {ds : List D} {is : List Int}, intsD ds = some is → ds = is.map D.int
  | [], is, h => by cases h; rfl
  | d :: r, is, h => by
    unfold intsD at h
    split at h
    · rename_i h0; cases h0
    · rename_i i r' e0
      cases e0
      cases q : intsD r with
      | none => rw [q] at h; cases h
      | some ps => rw [q] at h; cases h; rw [List.map_cons, ints_of q]
    · cases h
theorem rpl_ints : ∀ {is : List Int} {xs : List V}, RpL K G xs (is.map D.int) → xs = is.map V.int
  | [], xs, r => r.nil_of
  | i :: is, xs, r => by
    rw [List.map_cons] at r
    obtain ⟨w, ys, rfl, h1, h2⟩ := r.uncons
    cases h1
    rw [List.map_cons, rpl_ints h2]
theorem ky_of {k : NK} (h : Rp K G v d) (e : keyN d = some k) : KyV K G v k := by
  cases h with
  | non => cases e; exact .non
  | int i => cases e; exact .int i
  | @tup a xs ds h l g =>
    unfold keyN at e
    dsimp only at e
    cases q : intsD ds with
    | none => rw [q] at e; cases e
    | some is =>
      rw [q] at e
      cases e
      have e2 := ints_of q
      subst e2
      have e3 := rpl_ints ⟨l, g⟩
      subst e3
      exact .tup h
  | _ => cases e
def lookD (es : DEs) (k : NK) : Option D := (es.find? fun p => decide (keyN p.1 = some k)).map (·.2)
def putD (es : DEs) (k : NK) (kd x : D) : DEs := if (lookD es k).isSome = true then es.map (fun p => if keyN p.1 = some k then (p.1, x) else p) else es ++ [(kd, x)]
theorem RpE.look {xs : VE} (h : RpE K G xs es) (k : NK) : (lookV xs k = none ∧ lookD es k = none) ∨ ∃ p x, lookV xs k = some p ∧ lookD es k = some x ∧ Rp K G p.2 x := by
  unfold RpE at h
  induction h with
  | nil => exact .inl ⟨rfl, rfl⟩
  | @cons p q ps qs r t ih =>
    by_cases e : p.1 = k
    · right
      refine ⟨p.2, q.2, ?_, ?_, r.2.2⟩
      · unfold lookV; rw [List.find?_cons_of_pos (by simpa using e)]; rfl
      · unfold lookD; rw [List.find?_cons_of_pos (by rw [r.1, e]; simp)]; rfl
    · unfold lookV lookD at ih ⊢
      rw [List.find?_cons_of_neg (by simpa using e), List.find?_cons_of_neg (by rw [r.1]; simpa using e)]
      exact ih
theorem RpE.put {xs : VE} (h : RpE K G xs es) {k : NK} {kv u : V} {kd x : D} (e : keyN kd = some k) (rk : Rp K G kv kd) (rv : Rp K G u x) : RpE K G (putV xs k kv u) (putD es k kd x) := by
  unfold putV putD
  have map : RpE K G (xs.map (fun x => if x.1 = k then (x.1, x.2.1, u) else x)) (es.map (fun p => if keyN p.1 = some k then (p.1, x) else p)) := by
    unfold RpE at h ⊢
    clear rk e
    induction h with
    | nil => exact .nil
    | @cons p q ps qs r t ih =>
      rw [List.map_cons, List.map_cons]
      refine .cons ?_ ih
      by_cases e : p.1 = k
      · rw [if_pos e, if_pos (by rw [r.1, e])]; exact ⟨r.1, r.2.1, rv⟩
      · rw [if_neg e, if_neg (by rw [r.1]; simpa using e)]; exact r
  rcases h.look k with ⟨e1, e2⟩ | ⟨p, q, e1, e2, _⟩
  · rw [e1, e2]
    exact Paired.snoc h ⟨e, rk, rv⟩
  · rw [e1, e2]
    exact map
theorem RpE.keys {xs : VE} (h : RpE K G xs es) : ∀ p ∈ xs, KyV K G p.2.1 p.1 := by
  unfold RpE at h
  induction h with
  | nil => intro p hp; cases hp
  | @cons p q ps qs r t ih =>
    intro z hz
    rcases List.mem_cons.mp hz with e | hz
    · subst e; exact ky_of r.2.1 r.1
    · exact ih z hz
end
/-- d[y] -/
def oDIx (d e : D) : Ev D := fun _ M => match dicOf d M, keyN e with
  | some (_, _, es), some k => match lookD es k with
    | some x => some (.ok x, M)
    | none => none
  | _, _ => none
def oDIn (e d : D) : Ev D := fun _ M => match dicOf d M, keyN e with
  | some (_, _, es), some k => some (.ok (.bl (lookD es k).isSome), M)
  | _, _ => none
def okDic (d : D) : Ev D := fun _ M => match dicOf d M with
  | some _ => some (.ok d, M)
  | none => none
def oDGt (d e z : D) : Ev D := fun _ M => match dicOf d M, keyN e with
  | some (_, _, es), some k => if z.np = true then some (.ok ((lookD es k).getD z), M) else none
  | _, _ => none
def oDNew : Ev D := fun _ M => some (.ok (.dpt M.length), M ++ [some (enc false [])])
def sDPut (f fo fi : Ev D) : Sv := thenS f fun x => thenS fo fun o => thenS fi fun i => fun ρ M => match dicOf o M, keyN i with
  | some (n, false, es), some k => if x.np = true ∧ i.np = true ∧ es.length < 16777216 then some (.nx ρ, M.set n (some (enc false (putD es k i x)))) else none
  | _, _ => none
section
variable {X : Cx} {W : WN} {pos : Pos} {K : PySem.W.Frag}
end
end Bw
/-! dicts walked -/
namespace Bw
open PySem PySem.Spec PyProof.Rows L2
def del (G : Hp) (a : Addr) : Hp := fun b => if b = a then none else G b
theorem del_ne {G : Hp} {a b : Addr} (h : b ≠ a) : del G a b = G b := if_neg h
section
variable {K : PySem.W.Frag} {G H : Hp} {a : Addr} {o : Obj} {xs : VE}
theorem Rp.del {v : V} {d : D} (h : Rp K G v d) (e : G a = some (.frz o (DH a xs))) : Rp K (del G a) v d := by
  have ne : ∀ {b : Addr} {u : HO}, G b = some u → (∀ o' : Obj, u ≠ .frz o' (DH a xs)) → b ≠ a := fun {b u} q n z => by
    subst z
    rw [e] at q
    cases q
    exact n _ rfl
  induction h with
  | non => exact .non
  | bl b => exact .bl b
  | int i => exact .int i
  | str z => exact .str z
  | tup h l _ ih =>
    refine .tup ?_ l ih
    rcases h with (h | ⟨o', h⟩) | h
    · exact .inl (.inl (by rw [del_ne (ne h fun _ z => by cases z)]; exact h))
    · exact .inl (.inr ⟨o', by rw [del_ne (ne h fun _ z => by cases z)]; exact h⟩)
    · exact .inr h
  | lst h l _ ih => exact .lst (by rw [del_ne (ne h fun _ z => by cases z)]; exact h) l ih
  | scr h l _ ih =>
    refine .scr ?_ l ih
    rcases h with (h | ⟨o', h⟩) | h
    · exact .inl (.inl (by rw [del_ne (ne h fun _ z => by cases z)]; exact h))
    · exact .inl (.inr ⟨o', by rw [del_ne (ne h fun _ z => by cases z)]; exact h⟩)
    · exact .inr h
  | emp h => exact .emp (by rw [del_ne (ne h fun _ z => by cases z)]; exact h)
theorem Rv.del {θ : List Th} {v : V} {d : D} (h : Rv K θ G v d) (e : G a = some (.frz o (DH a xs))) : Rv K θ (del G a) v d := by
  cases h with
  | dat h => exact .dat (h.del e)
  | ptr h => exact .ptr h
  | dpt h => exact .dpt h
  | npt h => exact .npt h
  | exv hn h => exact .exv hn (by
      rw [del_ne fun z => ?_]
      · exact h
      · subst z; rw [e] at h; cases h)
theorem RpL.del {vs : List V} {ds : List D} (h : RpL K G vs ds) (e : G a = some (.frz o (DH a xs))) : RpL K (del G a) vs ds := ⟨h.len, fun i v d p q => (h.get i v d p q).del e⟩
theorem RvL.del {θ : List Th} {vs : List V} {ds : List D} (h : RvL K θ G vs ds) (e : G a = some (.frz o (DH a xs))) : RvL K θ (del G a) vs ds := ⟨h.len, fun i v d p q => (h.get i v d p q).del e⟩
theorem RpE.del {ys : VE} {es : DEs} (h : RpE K G ys es) (e : G a = some (.frz o (DH a xs))) : RpE K (del G a) ys es := Paired.mapP h fun p q z => ⟨z.1, z.2.1.del e, z.2.2.del e⟩
variable {θ : List Th} {M : Mem} {n : Nat} {es : DEs}
end
open Classical in
/-- the dict in slot i is locked while f runs -/
noncomputable def dLk (i : Nat) (f : Ev D) : Ev D := fun ρ M => match ρ[i]? with
  | some (some d) => match dicOf d M with
    | some (n, false, es) => match f ρ (M.set n (some (enc true es))) with
      | some (.ok x, M2) => if M2[n]? = some (some (enc true es)) then some (.ok x, M2.set n (some (enc false es))) else none
      | some (.exc C, M2) => some (.exc C, M2)
      | none => none
    | _ => none
  | _ => none
section
variable {X : Cx} {W : WN} {pos : Pos} {K : PySem.W.Frag}
def oItD (d : D) : Ev (List D) := fun _ M => match dicOf d M with
  | some (_, true, es) => some (.ok (es.map (·.1)), M)
  | _ => none
end
end Bw
/-! lists that change, once more -/
namespace Bw
open PySem PySem.Spec PyProof.Rows L2
/-- the parts of a list that stands, changing or not -/
def lstAt (d : D) (M : Mem) : Option (List D) := match d with
  | .lst ds => some ds
  | .ptr n => match M[n]? with
    | some (some ds) => some ds
    | _ => none
  | _ => none
section
variable {X : Cx} {W : WN} {pos : Pos} {K : PySem.W.Frag}
theorem lstAt_of {θ : List Th} {G H : Hp} {M : Mem} {v : V} {d : D} {ds : List D} (rs : Rs K θ G H M) (hv : Rv K θ G v d) (h : lstAt d M = some ds) : ∃ a xs, v = .ref a ∧ H a = some (.lst xs) ∧ RpL K G xs ds := by
  cases hv with
  | dat q =>
    cases q with
    | lst h1 l g => cases h; exact ⟨_, _, rfl, rs.sub _ _ h1, l, g⟩
    | _ => cases h
  | ptr hn =>
    rename_i n a
    unfold lstAt at h
    dsimp only at h
    split at h
    · rename_i es hm
      cases h
      obtain ⟨g, xs, hx, rl⟩ := rs.mem n _ _ hn hm
      exact ⟨_, xs, rfl, hx, rl⟩
    · cases h
  | dpt _ => cases h
  | npt _ => cases h
  | exv _ _ => cases h
/-- a + b, a list that will change -/
def oAddN (d e : D) : Ev D := fun ρ M => match lstAt d M, lstAt e M with
  | some a, some b => if a.length + b.length ≤ 16777216 then some (.ok (.ptr M.length), M ++ [some (a ++ b)]) else none
  | _, _ => none
/-- repr of a list that changes -/
def oReprM (ds : List D) : Ev D := fun ρ M => match ds with
  | [d] => oReprD [frz M d] ρ M
  | _ => none
/-- a list that changes is walked, and stays as it is from then on -/
def oItF (d : D) : Ev (List D) := fun ρ M => match d with
  | .ptr n => match M[n]? with
    | some (some ds) => some (.ok ds, M.set n none)
    | _ => none
  | _ => none
end
end Bw
namespace Bw
open PySem PySem.Spec PyProof.Rows L2
section
variable {X : Cx} {W : WN} {K : PySem.W.Frag}
/-! ### enumerate of a list that stays -/
def enumFrom (n : Nat) : List D → List D
  | [] => []
  | d :: ds => .tup [.int (n : Int), d] :: enumFrom (n + 1) ds
theorem enum_len : ∀ (ds : List D) (n : Nat), (enumFrom n ds).length = ds.length
  | [], _ => rfl
  | _ :: ds, n => by rw [enumFrom, List.length_cons, List.length_cons, enum_len ds]
theorem enum_get : ∀ {ds : List D} {n i : Nat} {d : D}, (enumFrom n ds)[i]? = some d → ∃ u, ds[i]? = some u ∧ d = .tup [.int ((n + i : Nat) : Int), u]
  | [], n, i, d, h => by cases h
  | x :: ds, n, 0, d, h => by
    rw [enumFrom] at h
    cases h
    exact ⟨x, rfl, rfl⟩
  | x :: ds, n, i + 1, d, h => by
    rw [enumFrom] at h
    obtain ⟨u, h1, h2⟩ := enum_get (ds := ds) (n := n + 1) (i := i) (d := d) h
    refine ⟨u, h1, ?_⟩
    rw [h2]
    congr 3
    omega
def oEnum (ds : List D) : Ev (List D) := match ds with
  | [.lst a] => ret (enumFrom 0 a)
  | _ => stk
theorem ri_enumL {θ : List Th} {G : Hp} {a : Addr} {xs : List V} {ds : List D} (ha : SqL K G a xs) (r1 : RpL K G xs ds) : RI K θ G (Ite K a) (enumFrom 0 ds) := by
  refine ⟨fun i θ1 G1 H M _ s rs hi => ?_, fun θ1 G1 H M _ s rs => ?_, fun i d θ1 G1 H M x H' _ s rs hd y => ?_⟩
  · rw [enum_len] at hi
    obtain ⟨v, hv, _⟩ := r1.at (List.getElem?_eq_getElem (show i < ds.length by omega))
    exact ⟨xs, v, rs.sub.seq (s.seq ha), hv⟩
  · refine ⟨xs, rs.sub.seq (s.seq ha), ?_⟩
    rw [enum_len, r1.len]
    omega
  · obtain ⟨T, x1, rfl, hT, rfl, h1⟩ := y
    obtain ⟨u, hu, rfl⟩ := enum_get hd
    have g := rs.fresh hT
    have e1 := h1 xs (rs.sub.seq (s.seq ha))
    refine ⟨upd G1 T (.tup [.int (i : Nat), x1]), same_upd g, rs.laid hT _, .dat ?_⟩
    rw [Nat.zero_add]
    exact rp_pair upd_same (.int _) (((r1.get i _ _ e1 hu).mono s).mono (same_upd g))
theorem di_enum {elts : List Expr} {kk : Nat} {tpos p pos : Pos} {e : Expr} {h : Ev (List D)} (hm : X.mg "enumerate" = none) (ha : DA X W [e] h) (hg : Gl X "enumerate" := by rfl) (hs : starEach [e] X.env = [(false, eval e X.env)] := by rfl) :
    DI X W (.Tuple elts kk tpos) (.Call (.Name "enumerate" p) [e] [] pos) (bnd h oEnum) := by
  obtain ⟨t, q, s⟩ := ha
  refine ⟨_, pi_enum hg hm q hs, fun θ G => (s θ G).bind (R2 := RI X.K) (k := fun (vs : List V) (_ : L2.St) (H1 : Hp) (R : It → Hp → Prop) => ∃ a xs, vs = [.ref a] ∧ SqL X.K H1 a xs ∧ R (Ite X.K a) H1) fun θ1 G1 vs ds _ _ hv => ?_⟩
  unfold oEnum
  split
  · rename_i da
    obtain ⟨v, rfl, h1⟩ := vals1 hv
    cases h1 with
    | dat h1 =>
      cases h1 with
      | lst q1 l1 g1 =>
        intro ρ M r M' θ2 G2 σ H Q p s e rs rv kk
        exact ⟨_, _, rfl, .inl (.inl (rs.sub _ _ (s _ _ q1))), Snd.ret (K := X.K) (W := W) (R := RI X.K) (θ0 := θ1) (G0 := G1) (fun _ _ p s => (ri_enumL (.inl (.inl q1)) ⟨l1, g1⟩).mono p s) ρ M r M' θ2 G2 σ H Q p s e rs rv kk⟩
  · exact Snd.stk
theorem oEnum_lst (a : List D) (ρ : Env) (M : Mem) : oEnum [.lst a] ρ M = some (.ok (enumFrom 0 a), M) := rfl
end
end Bw
/-! sum and sorted of a list of ints -/
namespace Bw
open PySem PySem.Spec PyProof.Rows L2
section
variable {X : Cx} {W : WN} {K : PySem.W.Frag}
def insOf : List D → Option (List Int)
  | [] => some []
  | .int b :: r => (insOf r).map (b :: ·)
  | _ => none
def oSum (ds : List D) : Ev D := match ds with
  | [.lst es] => match insOf es with
    | some bs => ret (.int bs.sum)
    | none => stk
  | _ => stk
end
end Bw
/-! lists that change, joined to ones that stay; list() that will change -/
namespace Bw
open PySem PySem.Spec PyProof.Rows L2
section
variable {X : Cx} {W : WN} {pos : Pos} {K : PySem.W.Frag}
/-- a + b, a list that stays -/
def oAddL (d e : D) : Ev D := fun ρ M => match lstAt d M, lstAt e M with
  | some a, some b => if a.length + b.length ≤ 16777216 then some (.ok (.lst (a ++ b)), M) else none
  | _, _ => none
theorem snd_addL : SndO K W (rAdd2 K) oAddL := by
  intro θ0 G0 x y d e hx hy ρ M r M' θ G σ H Q p s ee rs rv kk
  unfold oAddL at ee
  split at ee
  · rename_i a b h1 h2
    split at ee
    · rename_i hl
      cases ee
      obtain ⟨pa, xs, rfl, q1, r1⟩ := lstAt_of rs (hx.mono p s) h1
      obtain ⟨pb, ys, rfl, q2, r2⟩ := lstAt_of rs (hy.mono p s) h2
      refine .inr (.inl ⟨pa, pb, xs, ys, rfl, rfl, q1, q2, by rw [r1.len, r2.len, sizeLine_eq]; exact hl, fun q hq => ?_⟩)
      have g := rs.fresh hq
      exact (kk θ (upd G q (.lst (xs ++ ys))) _ (List.prefix_refl _) (same_upd g) (rs.laid hq _)).2 _ _ rfl (.dat (rp_lst upd_same ((r1.append r2).mono (same_upd g))))
    · cases ee
  · cases ee
theorem de_addL {a b : Expr} {f g : Ev D} (ha : DE X W a f) (hb : DE X W b g) : DE X W (.BinOp a .Add b pos) (bnd f fun d => bnd g fun e => oAddL d e) := de_op op_add2 snd_addL ha hb
/-- list(x), a list that will change -/
def oLstN (ds : List D) : Ev D := fun ρ M => match ds with
  | [d] => match seqOf d M with
    | some es => some (.ok (.ptr M.length), M ++ [some es])
    | none => none
  | _ => none
theorem snd_lstN : SndC K W (fun xs H Q => ∃ p ys, xs = [.ref p] ∧ (SqL K H p ys ∨ SqT K H p ys) ∧ ∀ l, H l = none → Q (.ref l) (upd H l (.lst ys))) oLstN := by
  intro θ0 G0 xs ds hx ρ M r M' θ G σ H Q p s e rs rv kk
  unfold oLstN at e
  split at e
  · rename_i d
    split at e
    · rename_i es he
      cases e
      obtain ⟨v, rfl, hv⟩ := vals1 hx
      obtain ⟨a, xs, rfl, q, rl⟩ := seq_of rs (hv.mono p s) he
      refine ⟨a, xs, rfl, q, fun l hl => ?_⟩
      refine (kk (θ ++ [(l, .lst)]) G _ (List.prefix_append _ _) (Same.refl _) (rs.laidM hl rl)).2 _ _ rfl (.ptr ?_)
      rw [← rs.len, List.getElem?_append_right (Nat.le_refl _), Nat.sub_self]
      rfl
    · cases e
  · cases e
theorem de_lstN {p : Pos} {e : Expr} {es : List Expr} {h : Ev (List D)} (hm : X.mg "list" = none) (ha : DA X W (e :: es) h) (hg : Gl X "list" := by rfl) (he : starEach (e :: es) X.env = (false, eval e X.env) :: starEach es X.env := by rfl) (hpl : (backTo pos (starEach es X.env)).any (·.1) = false := by rfl) : DE X W (.Call (.Name "list" p) (e :: es) [] pos) (bnd h oLstN) :=
  de_callTy call_list_of snd_lstN hm (by decide +kernel) ha hg (by decide) (by decide) he hpl
theorem oLstN_lst (a : List D) (ρ : Env) (M : Mem) : oLstN [.lst a] ρ M = some (.ok (.ptr M.length), M ++ [some a]) := rfl
end
end Bw
/-! a list so many times, that will change -/
namespace Bw
open PySem PySem.Spec PyProof.Rows L2
section
variable {X : Cx} {W : WN} {pos : Pos} {K : PySem.W.Frag}
def oRepN (d e : D) : Ev D := fun ρ M => match lstAt d M, e with
  | some a, .int k => if 0 ≤ k ∧ k < 1000000 ∧ a.length * k.toNat ≤ 16777216 then some (.ok (.ptr M.length), M ++ [some (List.replicate k.toNat a).flatten]) else none
  | _, _ => none
theorem rpl_rep {G : Hp} {xs : List V} {ds : List D} (r : RpL K G xs ds) : ∀ n : Nat, RpL K G (List.replicate n xs).flatten (List.replicate n ds).flatten
  | 0 => RpL.nil
  | n + 1 => by
    rw [List.replicate_succ, List.replicate_succ, List.flatten_cons, List.flatten_cons]
    exact r.append (rpl_rep r n)
end
end Bw
/-! zip of a tuple and a list -/
namespace Bw
open PySem PySem.Spec PyProof.Rows L2
def ItM (K : PySem.W.Frag) (a b : Addr) : It where
  go := fun i H => ∃ (us ws : List V) (x y : V), SqT K H a us ∧ SqL K H b ws ∧ us[i]? = some x ∧ ws[i]? = some y
  yld := fun i H v H' => ∃ (t : Addr) (x y : V), v = .ref t ∧ H t = none ∧ H' = upd H t (.tup [x, y]) ∧ (∀ us, SqT K H a us → us[i]? = some x) ∧ (∀ ws, SqL K H b ws → ws[i]? = some y)
  stop := fun i H => ∃ us ws : List V, SqT K H a us ∧ SqL K H b ws ∧ i = min us.length ws.length
def atM (z t0 t1 j1 j2 a b : Addr) (i : Nat) (h : Heap) : Prop := IsZip h z t0 t1 .none ∧ IsTupOf2 h t0 (.ref j1) (.ref j2) ∧ (∃ p q, IsTupOf2 h t1 p q) ∧ h.IsTupleIter j1 a i ∧ h.IsListIter j2 b i
def iZipM (K : PySem.W.Frag) (ta : TA) : TI := fun σ H R => ta σ H fun vs H1 => ∃ a b us ws, vs = [.ref a, .ref b] ∧ SqT K H1 a us ∧ SqL K H1 b ws ∧ R (ItM K a b) H1
section
variable {X : Cx} {W : WN} {pos : Pos} {K : PySem.W.Frag}
def oZipM (ds : List D) : Ev (List D) := match ds with
  | [.tup a, .lst b] => ret (zipD a b)
  | _ => stk
end
end Bw
/-! enumerate of a tuple -/
namespace Bw
open PySem PySem.Spec PyProof.Rows L2
abbrev enObj (it : Nat) : Obj := { cls := .type "enumerate", data := .fields #[.none, .bool false, .ref it, rawInt 0, .none, .none] }
def ItN (K : PySem.W.Frag) (a : Addr) : It where
  go := fun i H => ∃ (us : List V) (x : V), SqT K H a us ∧ us[i]? = some x
  yld := fun i H v H' => ∃ (t : Addr) (x : V), v = .ref t ∧ H t = none ∧ H' = upd H t (.tup [.int (i : Nat), x]) ∧ (∀ us, SqT K H a us → us[i]? = some x)
  stop := fun i H => ∃ us : List V, SqT K H a us ∧ i = us.length
def atN (e j a : Addr) (i : Nat) (h : Heap) : Prop := (∃ old, IsEnum h e j ((0 : Int) + (i : Int)) old) ∧ h.IsTupleIter j a i
def iEnT (K : PySem.W.Frag) (ta : TA) : TI := fun σ H R => ta σ H fun vs H1 => ∃ a us, vs = [.ref a] ∧ SqT K H1 a us ∧ R (ItN K a) H1
section
variable {X : Cx} {W : WN} {pos : Pos} {K : PySem.W.Frag}
def oEnT (ds : List D) : Ev (List D) := match ds with
  | [.tup a] => ret (enumFrom 0 a)
  | _ => stk
end
end Bw
/-! lists that hold lists that will change -/
namespace Bw
open PySem PySem.Spec PyProof.Rows L2
section
variable {X : Cx} {W : WN} {pos : Pos} {K : PySem.W.Frag}
def oNewN (ds : List D) : Ev D := fun _ M => if ds.length ≤ 16777216 then some (.ok (.npt M.length), M ++ [some ds]) else none
/-! x[i] of it -/
def oIxN (d e : D) : Ev D := fun ρ M => match d, e with
  | .npt n, .int i => match M[n]? with
    | some (some ds) => match atI ds i with
      | some x => some (.ok x, M)
      | none => none
    | _ => none
  | _, _ => none
/-! x[i] = e -/
def sStoreN (f fo fi : Ev D) : Sv := thenS f fun d => thenS fo fun o => thenS fi fun i => fun ρ M => match o, i with
  | .npt n, .int k => match M[n]? with
    | some (some ds) => match ixN ds.length k with
      | some j => if d.np = true then some (.nx ρ, M.set n (some (ds.set j d))) else none
      | none => none
    | _ => none
  | _, _ => none
/-! xs.pop(i) -/
def oPopI (d y : D) : Ev D := fun ρ M => match d, y with
  | .ptr n, .int i => match M[n]? with
    | some (some ds) => match seqIndex? i ds.length with
      | some k => match ds[k]? with
        | some x => if -(2 ^ 63) ≤ i ∧ i < 2 ^ 63 then some (.ok x, M.set n (some (ds.eraseIdx k))) else none
        | none => none
      | none => none
    | _ => none
  | _, _ => none
/-! evaluation -/
end
end Bw
/-! the first place of a truth in a list of truths; 1 << n -/
namespace Bw
open PySem PySem.Spec PyProof.Rows L2
section
variable {X : Cx} {W : WN} {pos : Pos} {K : PySem.W.Frag}
def idxB (k : Bool) : List Bool → Option Nat
  | [] => none
  | b :: r => if b = k then some 0 else (idxB k r).map (· + 1)
def oIdxB (d : D) (es : List D) : Ev D := match d, es with
  | .lst ds, [.bl k] => match blsOf ds with
    | some ns => match idxB k ns with
      | some j => ret (.int (j : Nat))
      | none => stk
    | none => stk
  | _, _ => stk
/-! << -/
def oShl (d e : D) : Ev D := match d, e with
  | .int i, .int j => if 0 ≤ j ∧ j ≤ 1000000 ∧ i.natAbs < 2 ^ 64 then ret (.int (i * 2 ^ j.toNat)) else stk
  | _, _ => stk
end
end Bw
namespace Bw
open PySem PySem.Spec PyProof.Rows L2
end Bw
namespace Bw
open PySem PySem.Spec PyProof.Rows L2
end Bw
/-! repr of data that hold {} and no list; a tuple so many times -/
namespace Bw
open PySem PySem.Spec PyProof.Rows L2
mutual
def toPyE : D → PyData
  | .non => .none
  | .bl b => .bool b
  | .int i => .int i
  | .str z => .str z
  | .tup ds => .tuple (toPysE ds)
  | .emp => .dict []
  | _ => .none
def toPysE : List D → List PyData
  | [] => []
  | d :: ds => toPyE d :: toPysE ds
end
mutual
def D.plE : D → Bool
  | .non => true
  | .bl _ => true
  | .int _ => true
  | .str _ => true
  | .emp => true
  | .tup ds => plEL ds
  | _ => false
def plEL : List D → Bool
  | [] => true
  | d :: ds => d.plE && plEL ds
end
section
variable {X : Cx} {pins : List (Addr × Obj)} {σ : L2.St} {H : Hp} {s : Shared}
end
def rReprE (K : PySem.W.Frag) : List V → Hp → VK → Prop := fun xs H Q => ∃ x d, xs = [x] ∧ Rp K H x d ∧ d.plE = true ∧ (toPyE d).showable = true ∧ (toPyE d).depth ≤ 100 ∧ (toPyE d).shown.length ≤ sizeLine ∧ Q (.str (toPyE d).shown) H
/-- either way -/
def oReprA (ds : List D) : Ev D := match ds with
  | [d] => if d.plE = true then (if (toPyE d).showable = true ∧ (toPyE d).depth ≤ 100 ∧ (toPyE d).shown.length ≤ 16777216 then ret (.str (toPyE d).shown) else stk) else oReprD [d]
  | _ => stk
section
variable {X : Cx} {W : WN} {pos : Pos} {K : PySem.W.Frag}
/-! a tuple so many times -/
def oRepT (d e : D) : Ev D := match d, e with
  | .tup ds, .int k => if ds ≠ [] ∧ 2 ≤ k ∧ k ≤ 1000 ∧ ds.length ≤ 1000 then ret (.tup (List.replicate k.toNat ds).flatten) else stk
  | _, _ => stk
theorem snd_repT : SndO K W (rRepT K) oRepT := by
  intro θ0 G0 x y d e hx hy
  unfold oRepT
  split
  · rename_i ds k
    split
    · rename_i hc
      have h2 := hy.int_of
      subst h2
      intro ρ M r M' θ G σ H Q p s e rs rv kk
      unfold ret at e
      cases e
      cases hx with
      | dat hx =>
        cases hx with
        | tup ht l g =>
          rename_i a xs
          refine ⟨a, k, xs, rfl, rfl, seqT (fun _ _ h => rs.sub _ _ (s _ _ h)) ht, fun z => hc.1 ?_, hc.2.1, hc.2.2.1, by rw [l]; exact hc.2.2.2, fun q hq => ?_⟩
          · subst z
            exact List.eq_nil_of_length_eq_zero l.symm
          · have rl : RpL K G (List.replicate k.toNat xs).flatten (List.replicate k.toNat ds).flatten := (rpl_rep (⟨l, g⟩ : RpL K _ xs ds) k.toNat).mono s
            have sm := same_upd (o := HO.tup (List.replicate k.toNat xs).flatten) (rs.fresh hq)
            exact (kk θ _ _ (List.prefix_refl _) sm (rs.laid hq _)).2 _ _ rfl (.dat (rp_tup upd_same (rl.mono sm)))
    · exact Snd.stk
  · exact Snd.stk
end
end Bw
/-! a tuple once, or no time -/
namespace Bw
open PySem PySem.Spec PyProof.Rows L2
theorem tup_once (l : Addr) (items : Array Value) (n : Nat) (dd : Option Addr) (sl : Array (Option Value)) (u : Tok) :
    Meets (Builtin.«tuple.__mul__» ⟨[.ref l, .int 1 u], []⟩) (fun _ R s => s.heap.get? l = some { cls := .type "tuple", dict := dd, data := .seq items n, slots := sl } ∧ R (.ok (.ret (Value.ref l))) s) :=
  .of_wp fun prog w A R s h => by
    obtain ⟨hp, g, d, tk, os⟩ := s
    obtain ⟨hl, h⟩ := h
    have f1 := AutoSeq1.idx_int
    have c1 : (items.isEmpty || (1 : Int) == 1) = true := by simp
    wp_walk using wpAny_loadPart' hl
    repeat (first
      | (refine wpAny_ite_false (decide_eq_false (by decide)) ?_; wp_walk using wpAny_loadPart' hl)
      | (refine wpAny_ite_true (decide_eq_true (by rw [c1])) ?_; wp_walk using wpAny_loadPart' hl))
    exact ⟨_, rfl, h⟩
theorem tup_never (l : Addr) (items : Array Value) (n : Nat) (dd : Option Addr) (sl : Array (Option Value)) (x : Int) (u : Tok) (c0 : (decide (x < -(2 ^ 63)) || decide (x ≥ 2 ^ 63)) = false) (c1 : (items.isEmpty || x == 1) = false) (c2 : (decide (x ≤ 0) || items.isEmpty) = true) :
    Meets (Builtin.«tuple.__mul__» ⟨[.ref l, .int x u], []⟩) (fun _ R s => s.heap.get? l = some { cls := .type "tuple", dict := dd, data := .seq items n, slots := sl } ∧
      R (.ok (.ret (Value.ref s.heap.objs.size))) { s with heap := s.heap.push { cls := Value.type "tuple", data := Data.seq #[] }, toks := s.toks }) :=
  .of_wp fun prog w A R s h => by
    obtain ⟨hp, g, d, tk, os⟩ := s
    obtain ⟨hl, h⟩ := h
    have f1 := AutoSeq1.idx_int
    wp_walk using wpAny_loadPart' hl
    repeat (first
      | (refine wpAny_ite_false (decide_eq_false (by rw [c0]; exact Bool.false_ne_true)) ?_; wp_walk using wpAny_loadPart' hl)
      | (refine wpAny_ite_false (decide_eq_false (by rw [c1]; exact Bool.false_ne_true)) ?_; wp_walk using wpAny_loadPart' hl)
      | (refine wpAny_ite_true (decide_eq_true (by rw [c2])) ?_; wp_walk using wpAny_loadPart' hl))
    exact ⟨_, rfl, h⟩
def rRepA (K : PySem.W.Frag) : R2 := fun x y H Q => ∃ l k xs, x = .ref l ∧ y = .int k ∧ SqT K H l xs ∧ xs ≠ [] ∧ ((k = 1 ∧ Q (.ref l) H) ∨ (-(2 ^ 63) ≤ k ∧ k ≤ 0 ∧ ∀ p, H p = none → Q (.ref p) (upd H p (.tup []))))
theorem op_repA {X : Cx} : OpR X (binaryOp .Mult) (rRepA X.K) := by
  intro pins s σ H x y v u Q I rx ry h
  obtain ⟨l, k, xs, rfl, rfl, hT, hne, h⟩ := h
  cases rx
  obtain ⟨t, rfl⟩ := ry
  obtain ⟨its, r, ⟨⟨cls, dd, data, sl⟩, ho, hc, n, hd⟩, hs⟩ := I.tuple hT
  simp only at hc hd
  subst hc hd
  have hle : its.length = xs.length := r.length.symm
  have hi : its.toArray.isEmpty = false := by
    cases its with
    | nil => exact absurd (List.eq_nil_of_length_eq_zero hle.symm) hne
    | cons a b => rfl
  rcases h with ⟨rfl, q⟩ | ⟨h1, h2, q⟩
  · refine wpAny_binaryOp_repeat_ref (T := "tuple") (U := "int") (by decide) ⟨_, ho, rfl⟩ (fun s' => typeIs_int s' 1 t) noFill_tuple_mul F.fills_int_mul F.slot_int_rmul repeat_tuple F.slot_int_index.lookup
      (call_meets F.slot_int_rmul (typeIs_int s 1 t) F.entry_int_rmul (F.args_int_rmul_2 _ _) (int_rmul_tuple 1 t l its.toArray n dd sl)
        ⟨ho, rfl, ⟨_, ho, rfl⟩, call_meets F.slot_tuple_mul ⟨_, ho, rfl⟩ F.entry_tuple_mul (F.args_tuple_mul_2 _ _) (tup_once l its.toArray n dd sl t) ⟨ho, ?_⟩⟩)
    exact ⟨.ref l, H, I, rfl, q⟩
  · have c0 : (decide (k < -(2 ^ 63)) || decide (k ≥ 2 ^ 63)) = false := by
      rw [decide_eq_false (by omega), decide_eq_false (by omega)] <;> rfl
    have c1 : (its.toArray.isEmpty || k == 1) = false := by
      rw [hi, Bool.false_or]
      exact beq_eq_false_iff_ne.mpr (by omega)
    have c2 : (decide (k ≤ 0) || its.toArray.isEmpty) = true := by
      rw [decide_eq_true h2]; rfl
    refine wpAny_binaryOp_repeat_ref (T := "tuple") (U := "int") (by decide) ⟨_, ho, rfl⟩ (fun s' => typeIs_int s' k t) noFill_tuple_mul F.fills_int_mul F.slot_int_rmul repeat_tuple F.slot_int_index.lookup
      (call_meets F.slot_int_rmul (typeIs_int s k t) F.entry_int_rmul (F.args_int_rmul_2 _ _) (int_rmul_tuple k t l its.toArray n dd sl)
        ⟨ho, rfl, ⟨_, ho, rfl⟩, call_meets F.slot_tuple_mul ⟨_, ho, rfl⟩ F.entry_tuple_mul (F.args_tuple_mul_2 _ _) (tup_never l its.toArray n dd sl k t c0 c1 c2) ⟨ho, ?_⟩⟩)
    refine ⟨.ref s.heap.objs.size, _, I.laid (t' := s.toks) (o := .tup []) (fun b ob q => Heap.get?_push_of_some _ q) (Nat.le_refl _) ?_, rfl, q _ (I.hok.fresh (Nat.le_refl _))⟩
    exact ⟨by simp, [], .nil, IsTup.new _ _⟩
/-- a tuple so many times, any number -/
def oRepU (d e : D) : Ev D := match d, e with
  | .tup ds, .int k => if ds ≠ [] ∧ -1000 ≤ k ∧ k ≤ 1000 ∧ ds.length ≤ 1000 then ret (.tup (List.replicate k.toNat ds).flatten) else stk
  | _, _ => stk
theorem op_or {X : Cx} {f : Value → Value → Sem Value} {r r2 : R2} (h : OpR X f r) (h2 : OpR X f r2) : OpR X f (fun x y H Q => r x y H Q ∨ r2 x y H Q) := by
  intro pins s σ H x y v u Q I rx ry q
  rcases q with q | q
  · exact h pins s σ H x y v u Q I rx ry q
  · exact h2 pins s σ H x y v u Q I rx ry q
section
variable {X : Cx} {W : WN} {pos : Pos} {K : PySem.W.Frag}
theorem snd_repU : SndO K W (fun x y H Q => rRepT K x y H Q ∨ rRepA K x y H Q) oRepU := by
  intro θ0 G0 x y d e hx hy
  unfold oRepU
  split
  · rename_i ds k
    split
    · rename_i hc
      have h2 := hy.int_of
      subst h2
      intro ρ M r M' θ G σ H Q p s e rs rv kk
      have kk' : ∀ (θ' : List Th) (G' H' : Hp), θ <+: θ' → Same G G' → Rs K θ' G' H' M → ∀ v, Rv K θ' G' v (.tup (List.replicate k.toNat ds).flatten) → Q v H' := by
        unfold ret at e
        cases e
        exact fun θ' G' H' a b c v rv => (kk θ' G' H' a b c).2 _ v rfl rv
      by_cases k2 : 2 ≤ k
      · refine .inl ?_
        have e' : oRepT (.tup ds) (.int k) ρ M = some (r, M') := by
          unfold oRepT
          dsimp only
          rw [if_pos ⟨hc.1, k2, hc.2.2.1, hc.2.2.2⟩]
          exact e
        exact snd_repT θ0 G0 x (.int k) (.tup ds) (.int k) hx hy ρ M r M' θ G σ H Q p s e' rs rv kk
      · refine .inr ?_
        cases hx with
        | dat hx =>
          cases hx with
          | tup ht l g =>
            rename_i a xs
            refine ⟨a, k, xs, rfl, rfl, seqT (fun _ _ h => rs.sub _ _ (s _ _ h)) ht, fun z => hc.1 ?_, ?_⟩
            · subst z
              exact List.eq_nil_of_length_eq_zero l.symm
            · by_cases k1 : k = 1
              · subst k1
                refine .inl ⟨rfl, kk' θ G H (List.prefix_refl _) (L2.Same.refl _) rs _ ?_⟩
                have e1 : (List.replicate (1 : Int).toNat ds).flatten = ds := by
                  show (List.replicate 1 ds).flatten = ds
                  simp
                rw [e1]
                exact .dat ((Rp.tup ht l g).mono s)
              · refine .inr ⟨by omega, by omega, fun q hq => ?_⟩
                have sm := same_upd (o := HO.tup []) (rs.fresh hq)
                refine kk' θ _ _ (List.prefix_refl _) sm (rs.laid hq _) _ ?_
                have e0 : (List.replicate k.toNat ds).flatten = [] := by
                  have : k.toNat = 0 := by omega
                  rw [this]; rfl
                rw [e0]
                exact .dat (rp_tup upd_same RpL.nil)
    · exact Snd.stk
  · exact Snd.stk
theorem de_repU {a b : Expr} {f g : Ev D} (ha : DE X W a f) (hb : DE X W b g) : DE X W (.BinOp a .Mult b pos) (bnd f fun d => bnd g fun e => oRepU d e) := de_op (op_or op_repT op_repA) snd_repU ha hb
end
theorem oRepU_ap (ds : List D) (k : Int) (ρ : Env) (M : Mem) (h : ds ≠ []) (h1 : -1000 ≤ k) (h2 : k ≤ 1000) (h3 : ds.length ≤ 1000) : oRepU (.tup ds) (.int k) ρ M = some (.ok (.tup (List.replicate k.toNat ds).flatten), M) := by
  unfold oRepU
  dsimp only
  rw [if_pos ⟨h, h1, h2, h3⟩]; rfl
end Bw
/-! a list that will change no more -/
namespace Bw
open PySem PySem.Spec PyProof.Rows L2
section
variable {X : Cx} {W : WN} {pos : Pos} {K : PySem.W.Frag}
def oFrz (d : D) : Ev D := fun ρ M => match d with
  | .ptr n => match M[n]? with
    | some (some ds) => some (.ok (.lst ds), M.set n none)
    | _ => none
  | _ => none
end
end Bw
/-! range with a beginning, range downward -/
namespace Bw
open PySem PySem.Spec PyProof.Rows L2
section
variable {X : Cx} {W : WN} {pos : Pos} {K : PySem.W.Frag}
def oRng2 (ds : List D) : Ev (List D) := match ds with
  | [.int i, .int j] => if -(2 ^ 62) ≤ i ∧ i < 2 ^ 62 ∧ -(2 ^ 62) ≤ j ∧ j < 2 ^ 62 then ret ((List.range (j - i).toNat).map fun (k : Nat) => D.int (i + (k : Int))) else stk
  | _ => stk
def oRngD (ds : List D) : Ev (List D) := match ds with
  | [.int i, .int j, .int c] => if c = -1 ∧ -(2 ^ 62) ≤ i ∧ i < 2 ^ 62 ∧ -(2 ^ 62) ≤ j ∧ j < 2 ^ 62 then ret ((List.range (i - j).toNat).map fun (k : Nat) => D.int (i - (k : Int))) else stk
  | _ => stk
end
end Bw
/-! sorted whole numbers -/
namespace Bw
open PySem PySem.Spec PyProof.Rows L2
def srtI (ns : List Int) : List Int := ns.mergeSort fun a b => decide (a ≤ b)
section
variable {X : Cx} {W : WN} {pos : Pos} {K : PySem.W.Frag}
def oSrt (ds : List D) : Ev D := fun ρ M => match ds with
  | [d] => match lstAt d M with
    | some es => match insOf es with
      | some ns => if ns.length < 64 then some (.ok (.lst ((srtI ns).map D.int)), M) else none
      | none => none
    | none => none
  | _ => none
end
end Bw
/-! xs.extend(ys), xs.insert(i, y), of a list that changes -/
namespace Bw
open PySem PySem.Spec PyProof.Rows L2
section
variable {X : Cx} {W : WN} {pos : Pos} {K : PySem.W.Frag}
def SndM (K : PySem.W.Frag) (W : WN) (r : V → List V → Hp → VK → Prop) (op : D → List D → Ev D) : Prop := ∀ θ G n a xs ds, θ[n]? = some (a, Kd.lst) → RvL K θ G xs ds → Snd K W (RV K) θ G (fun _ H Q => r (.ref a) xs H Q) (op (.ptr n) ds)
def oExt (o : D) (ds : List D) : Ev D := fun ρ M => match o, ds with
  | .ptr n, [d] => match M[n]?, lstAt d M with
    | some (some xs), some es => if xs.length + es.length ≤ 16777216 then some (.ok .non, M.set n (some (xs ++ es))) else none
    | _, _ => none
  | _, _ => none
def oIns (o : D) (ds : List D) : Ev D := fun ρ M => match o, ds with
  | .ptr n, [.int i, d] => match M[n]? with
    | some (some xs) => if d.np = true ∧ 0 ≤ i ∧ i < 2 ^ 62 ∧ xs.length < 16777216 then some (.ok .non, M.set n (some (xs.take i.toNat ++ [d] ++ xs.drop i.toNat))) else none
    | _ => none
  | _, _ => none
abbrev rInsert : V → List V → Hp → VK → Prop := fun x vs H Q => ∃ (l : Addr) (xs : List V) (i : Int) (y : V), x = .ref l ∧ vs = [.int i, y] ∧ H l = some (.lst xs) ∧ xs.length < sizeLine ∧ 0 ≤ i ∧ i < 2 ^ 63 ∧ Q .non (upd H l (.lst (xs.take i.toNat ++ [y] ++ xs.drop i.toNat)))
end
end Bw
/-! xs[lo:hi:step] of a list -/
namespace Bw
open PySem PySem.Spec PyProof.Rows L2
def pickL {α : Type} (xs : List α) (lo hi : Option Int) (k : Int) : List α :=
  (sliceRange (sliceBounds lo hi (some k) xs.length).1 (sliceBounds lo hi (some k) xs.length).2.1 (sliceBounds lo hi (some k) xs.length).2.2).filterMap (xs[·]?)
section
variable {X : Cx} {W : WN} {pos : Pos} {K : PySem.W.Frag}
def tSs (K : PySem.W.Frag) (te : TE) (tl th tk : TO) : TE := fun σ H Q => te σ H fun x H1 => tl σ H1 fun lo H2 => th σ H2 fun hi H3 => tk σ H3 fun st H4 => ∃ a xs k, x = .ref a ∧ st = some k ∧ k ≠ 0 ∧ SqL K H4 a xs ∧ (pickL xs lo hi k).length ≤ sizeLine ∧ ∀ p, H4 p = none → Q (.ref p) (upd H4 p (.lst (pickL xs lo hi k)))
def oSlS (d : D) (lo hi st : Option Int) : Ev D := fun ρ M => match lseq d M, st with
  | some ds, some k => if k ≠ 0 ∧ (pickL ds lo hi k).length ≤ 16777216 then some (.ok (.lst (pickL ds lo hi k)), M) else none
  | _, _ => none
end
end Bw
/-! a comprehension over a list that changes, which stays as it was while it is walked -/
namespace Bw
open PySem PySem.Spec PyProof.Rows L2
section
variable {X : Cx} {W : WN} {pos : Pos} {K : PySem.W.Frag}
def RIM (K : PySem.W.Frag) (θ : List Th) (_ : Hp) (J : It) (n : Nat) : Prop := ∃ a, θ[n]? = some (a, Kd.lst) ∧ J = Itl K a
def oItM (d : D) : Ev Nat := fun ρ M => match d with
  | .ptr n => match M[n]? with
    | some (some _) => some (.ok n, M)
    | _ => none
  | _ => none
def DIM (X : Cx) (W : WN) (tg iter : Expr) (f : Ev Nat) : Prop := ∃ wi, PI X tg iter wi ∧ ∀ θ G, Snd X.K W (RIM X.K) θ G wi f
open Classical in
noncomputable def lcGoM (b : Tg) (tt : Ev Bool) (te : Ev D) (n0 n : Nat) (ds0 : List D) (ρw : Env) : List D → Mem → Option Mem
  | [], M => if M[n]? = some (some ds0) then some M else none
  | d :: ds, M => if M[n]? = some (some ds0) then (match b d ρw with
    | none => none
    | some ρ1 => match tt ρ1 M with
      | some (.ok true, M1) => match te ρ1 M1 with
        | some (.ok y, M2) => match M2[n0]? with
          | some (some acc) => if y.np = true ∧ acc.length < 16777216 then lcGoM b tt te n0 n ds0 ρw ds (M2.set n0 (some (acc ++ [y]))) else none
          | _ => none
        | _ => none
      | some (.ok false, M1) => lcGoM b tt te n0 n ds0 ρw ds M1
      | _ => none) else none
noncomputable def oLcM (b : Tg) (tt : Ev Bool) (te : Ev D) (vs : List Nat) (n : Nat) : Ev D := fun ρ M => match M[n]? with
  | some (some ds0) => match lcGoM b tt te M.length n ds0 (wipeD ρ vs) ds0 (M ++ [some []]) with
    | some M' => lcEnd M.length M'
    | none => none
  | _ => none
end
end Bw
/-! xs.extend of a tuple, and of a list -/
namespace Bw
open PySem PySem.Spec PyProof.Rows L2
section
variable {X : Cx} {W : WN} {pos : Pos} {K : PySem.W.Frag}
def rExtT (K : PySem.W.Frag) : V → List V → Hp → VK → Prop := fun x vs H Q => ∃ l b xs zs, x = .ref l ∧ vs = [.ref b] ∧ H l = some (.lst xs) ∧ SqT K H b zs ∧ xs.length + zs.length ≤ sizeLine ∧ Q .non (upd H l (.lst (xs ++ zs)))
def rExtU (K : PySem.W.Frag) : V → List V → Hp → VK → Prop := fun x vs H Q => rExtend x vs H Q ∨ rExtT K x vs H Q
def oExU (o : D) (ds : List D) : Ev D := fun ρ M => match o, ds with
  | .ptr n, [.tup es] => match M[n]? with
    | some (some xs) => if xs.length + es.length ≤ 16777216 then some (.ok .non, M.set n (some (xs ++ es))) else none
    | _ => none
  | o, ds => oExt o ds ρ M
end
end Bw
/-! a comprehension of two walks; xs += ys -/
namespace Bw
open PySem PySem.Spec PyProof.Rows L2
section
variable {X : Cx} {W : WN} {pos : Pos} {K : PySem.W.Frag}
def lc2Go (b : Tg) (tt : Ev Bool) (h1 : Ev (List D)) (b1 : Tg) (tt1 : Ev Bool) (te : Ev D) (vs1 : List Nat) (n0 : Nat) (ρw : Env) : List D → Mem → Option Mem
  | [], M => some M
  | d :: ds, M => match b d ρw with
    | none => none
    | some ρ1 => match tt ρ1 M with
      | some (.ok true, M1) => match h1 ρ1 M1 with
        | some (.ok ds1, M2) => match lcGo b1 tt1 te n0 (wipeD ρ1 vs1) ds1 M2 with
          | some M3 => lc2Go b tt h1 b1 tt1 te vs1 n0 ρw ds M3
          | none => none
        | _ => none
      | some (.ok false, M1) => lc2Go b tt h1 b1 tt1 te vs1 n0 ρw ds M1
      | _ => none
def oLc2 (b : Tg) (tt : Ev Bool) (h1 : Ev (List D)) (b1 : Tg) (tt1 : Ev Bool) (te : Ev D) (vs vs1 : List Nat) (ds : List D) : Ev D := fun ρ M => match lc2Go b tt h1 b1 tt1 te vs1 M.length (wipeD ρ vs) ds (M ++ [some []]) with
  | some M' => lcEnd M.length M'
  | none => none
/-! ### xs += ys -/
def sAugL (i : Nat) (f : Ev D) : Sv := fun ρ M => match ρ[i]? with
  | some (some (.ptr n)) => thenS f (fun e ρ M => match M[n]?, lstAt e M with
    | some (some xs), some es => if xs.length + es.length ≤ 16777216 then some (.nx (ρ.set i (some (.ptr n))), M.set n (some (xs ++ es))) else none
    | _, _ => none) ρ M
  | _ => none
end
end Bw
/-! a comprehension whose list will change; a comprehension of two walks that is named -/
namespace Bw
open PySem PySem.Spec PyProof.Rows L2
section
variable {X : Cx} {W : WN} {pos : Pos} {K : PySem.W.Frag}
def oLcP (b : Tg) (tt : Ev Bool) (te : Ev D) (vs : List Nat) (ds : List D) : Ev D := fun ρ M => match lcGo b tt te M.length (wipeD ρ vs) ds (M ++ [some []]) with
  | some M' => match M'[M.length]? with
    | some (some _) => some (.ok (.ptr M.length), M')
    | _ => none
  | none => none
end
end Bw
/-! list(range(n)) -/
namespace Bw
open PySem PySem.Spec PyProof.Rows L2
section
variable {X : Cx} {W : WN} {pos : Pos} {K : PySem.W.Frag}
def oLstR (d : D) : Ev D := match d with
  | .int n => if 0 ≤ n ∧ n ≤ 1000000 then ret (.lst ((List.range n.toNat).map fun (i : Nat) => D.int (i : Int))) else stk
  | _ => stk
end
end Bw
namespace Bw
open PySem PySem.Spec PyProof.Rows L2
/-! ### a slot whose list will change no more, from a statement on -/
def sFrzV (i : Nat) : Sv := fun ρ M => match ρ[i]? with
  | some (some (.ptr n)) => match M[n]? with
    | some (some ds) => some (.nx (ρ.set i (some (.lst ds))), M.set n none)
    | _ => none
  | _ => none
end Bw
namespace Bw
open PySem PySem.Spec PyProof.Rows L2
/-! ### defs called where an error is handled -/
/-- room for so many calls, whatever is handled; no repr under way -/
structure Rh (k : Nat) (A : Around) : Prop where
  dp : A.depth + 3 * k + 5 < recursionLimit
  un : A.units + 16 * k + 200 < cLine
  g : A.guards = some []
section
variable {j k : Nat} {A : Around}
theorem Rh.mono (h : Rh k A) (l : j ≤ k) : Rh j A := ⟨by have := h.dp; omega, by have := h.un; omega, h.g⟩
theorem Rh.units (h : Rh k A) : A.units + 64 < cLine := by have := h.un; omega
end
abbrev hx (X : Cx) : Cx := { X with calm := false }
/-- a def's promise, whatever is handled -/
structure HCk (P : Program) (w : World) (K : PySem.W.Frag) (mg : Str → Option Value) (base : Heap) (C : CXT) (k : Nat) (f : Addr) (fd : FuncData) (ps : List Str) (sp : Sp) : Prop where
  n : ∀ vs H Q E, sp vs H Q E → vs.length = ps.length
  go : ∀ (A : Around) (ou : List PySem.Env) (s : Shared) (H : Hp) (ar : Args) (us : List Value) (vs : List V) (Q : VK) (E : XK), Rh k A → Env0 P w K mg base A ou s H → BindsTo s fd ar (ps.zip us) → Vals vs us → sp vs H Q E → codeAny (model P w) A (.call (.ref f) ar) (CR C ou P w H s Q E) s
section
variable {P : Program} {w : World} {K : PySem.W.Frag} {mg : Str → Option Value} {base : Heap} {C : CXT} {k : Nat} {f : Addr} {fd : FuncData} {ps : List Str} {sp : Sp}
end
section
variable {X : Cx} {W : WN} {pos : Pos} {K : PySem.W.Frag}
end
section
variable {K : PySem.W.Frag} {P : Program} {w : World} {mg : Str → Option Value} {base : Heap} {x qual : Str} {st : Stmt} {f : Addr} {fd : FuncData} {N ps : List Str} {k n : Nat} {F : Fd} {fb : Sv}
end
/-! ### try: .. except c as n: a suite that knows the error -/
def wT (K : PySem.W.Frag) (c : Value) (i : Nat) (ts : Addr → Value → TS) (Wo : WX) (Dn : Ends) : WX := fun cls d σ H =>
  d = none ∧ ∃ b, PySem.W.exmOne K cls c = some b ∧ (b = false → Wo cls d σ H) ∧
    (b = true → ∀ a, H a = none → ts a cls { nx := fun σ1 H1 => Dn.nx (σ1.set i none) H1, rt := Dn.rt, bk := fun σ1 H1 => Dn.bk (σ1.set i none) H1, ct := fun σ1 H1 => Dn.ct (σ1.set i none) H1 } (σ.set i (some (.ref a))) (upd H a (ExQ cls a)))
section
variable {X : Cx} {x n : Str} {c : Value} {i : Nat} {body more : List Stmt} {first : Stmt} {np pos hpos : Pos} {tb : WX → TS} {ts : Addr → Value → TS} {Wo : WX}
end
/-- try: f, except c as slot i: g -/
def sTryS (mt : Str → Option Bool) (i : Nat) (f g : Sv) : Sv := fun ρ M => match f ρ M with
  | some (.ex x ρ1, M1) => match mt x with
    | some true => if i < ρ1.length then (match g (ρ1.set i (some (.exv x))) M1 with
      | some (.nx ρ2, M2) => some (.nx (ρ2.set i none), M2)
      | some (.bk ρ2, M2) => some (.bk (ρ2.set i none), M2)
      | some (.ct ρ2, M2) => some (.ct (ρ2.set i none), M2)
      | some (.rt d, M2) => some (.rt d, M2)
      | _ => none) else none
    | some false => some (.ex x ρ1, M1)
    | none => none
  | r => r
section
variable {X : Cx} {W : WN} {pos : Pos}
end
end Bw
/-! what a walk never reaches -/
namespace Bw
open PySem PySem.Spec PyProof.Rows L2
section
variable {X : Cx} {W : WN}
def sStk : Sv := fun _ _ => none
end
end Bw
/-! sorted(set(xs)), xs a list of whole numbers -/
namespace Bw
open PySem PySem.Spec PyProof.Rows L2
section
variable {P : Program} {w : World} {A : Around} {E : Value → Shared → Prop} {s : Shared}
/-- the new set, still empty -/
abbrev freshS (w : World) : Obj := { cls := .type "set", dict := none, data := .set #[] 0 (.fresh 0 0 (!w.params.followText "set-order")) }
/-- what set(xs) leaves -/
structure MadeS (w : World) (s : Shared) (ns : List Int) (h' : Heap) : Prop where
  set : ∃ c, c ≤ ns.length ∧ SetR w h' s.heap.objs.size (fun j => decide (j ∈ ns)) c
  old : ∀ b o, s.heap.get? b = some o → h'.get? b = some o
end
/-! as a call -/
section
variable {X : Cx} {W : WN} {pos : Pos} {K : PySem.W.Frag}
def rSetL (K : PySem.W.Frag) (w : World) : List V → Hp → VK → Prop := fun vs H Q => ∃ (l : Addr) (ns : List Int), vs = [V.ref l] ∧ SqL K H l (ns.map V.int) ∧ ns.length ≤ 1000 ∧
  ∀ a c, H a = none → c ≤ ns.length → Q (.ref a) (upd H a (SetO w a (fun j => decide (j ∈ ns)) c))
def insU (k : Int) (l : List Int) : List Int := if k ∈ l then l else k :: l
def dedU : List Int → List Int
  | [] => []
  | k :: l => insU k (dedU l)
/-- the members, rising -/
def uniI (ns : List Int) : List Int := srtI (dedU ns)
def oSrtSet (ds : List D) : Ev D := fun ρ M => match ds with
  | [d] => match lstAt d M with
    | some es => match insOf es with
      | some ns => if ns.length < 64 then some (.ok (.lst ((uniI ns).map D.int)), M) else none
      | none => none
    | none => none
  | _ => none
def rSrtSet (K : PySem.W.Frag) (w : World) : List V → Hp → VK → Prop := fun vs H Q => rSetL K w vs H fun v H2 => rSortedSet w [v] H2 Q
end
end Bw
/-! sorted pairs of whole numbers -/
namespace Bw
open PySem PySem.Spec PyProof.Rows L2
abbrev pB : Int := 1048576
def prD (p : Int × Int) : D := .tup [.int p.1, .int p.2]
def prsOf : List D → Option (List (Int × Int))
  | [] => some []
  | .tup [.int i, .int j] :: ds => (prsOf ds).map ((i, j) :: ·)
  | _ :: _ => none
def codP (p : Int × Int) : Int := p.1 * pB + p.2
def okP (p : Int × Int) : Bool := decide (0 ≤ p.1 ∧ p.1 < pB ∧ 0 ≤ p.2 ∧ p.2 < pB)
def srtP (ps : List (Int × Int)) : List (Int × Int) := ps.mergeSort fun a b => decide (codP a ≤ codP b)
section
variable {X : Cx} {W : WN} {pos : Pos} {K : PySem.W.Frag}
def oSrtP (ds : List D) : Ev D := fun ρ M => match ds with
  | [d] => match lstAt d M with
    | some es => match prsOf es with
      | some ps => if ps.length < 64 ∧ ps.all okP = true then some (.ok (.lst ((srtP ps).map prD)), M) else none
      | none => none
    | none => none
  | _ => none
end
end Bw
/-! continue; xs.remove(x) of data -/
namespace Bw
open PySem PySem.Spec PyProof.Rows L2
def sCt : Sv := fun ρ M => some (.ct ρ, M)
end Bw
namespace RmA
open PySem PySem.Spec PyProof.Rows
open AutoSeq1 (wpAny_loadPart')
open MeetsSeq MeetsSeq2 MeetsSeq3 SeqRoads2 SeqAt
end RmA
namespace Bw
open PySem PySem.Spec PyProof.Rows L2
section
variable {X : Cx} {W : WN} {pos : Pos} {K : PySem.W.Frag}
/-- l.remove(x): the first equal one goes -/
def rRemD (K : PySem.W.Frag) : V → List V → Hp → VK → Prop := fun x vs H Q => ∃ (a : Addr) (y : V) (d : PyData) (xs : List V) (ds : List PyData) (j : Nat) (z : PyData), x = V.ref a ∧ vs = [y] ∧ H a = some (.lst xs) ∧ DpAll K H xs ds ∧ Dp K H y d ∧
  SeqAt.shaped (.list ds) = true ∧ SeqAt.shaped d = true ∧ ds[j]? = some z ∧ PyData.eqv z d = true ∧ (∀ (m : Nat) (z' : PyData), m < j → ds[m]? = some z' → PyData.eqv z' d = false) ∧ Q .non (upd H a (.lst (xs.eraseIdx j)))
/-- the first place of equal data -/
def idxP (d : PyData) : List PyData → Option Nat
  | [] => none
  | z :: r => if PyData.eqv z d = true then some 0 else (idxP d r).map (· + 1)
def oRem (o : D) (es : List D) : Ev D := fun ρ M => match o, es with
  | .ptr n, [d] => match M[n]? with
    | some (some xs) => if d.pl = true ∧ plL xs = true ∧ SeqAt.shaped (toPy d) = true ∧ SeqAt.shaped (.list (toPys xs)) = true then
        match idxP (toPy d) (toPys xs) with
        | some j => some (.ok .non, M.set n (some (xs.eraseIdx j)))
        | none => none
      else none
    | _ => none
  | _, _ => none
theorem RpL.eraseIdx {G : Hp} {xs : List V} {ds : List D} (r : RpL K G xs ds) (j : Nat) : RpL K G (xs.eraseIdx j) (ds.eraseIdx j) := by
  refine ⟨by rw [List.length_eraseIdx, List.length_eraseIdx, r.len], fun i v d h1 h2 => ?_⟩
  rw [List.getElem?_eraseIdx] at h1 h2
  split at h1
  · rename_i h; rw [if_pos h] at h2; exact r.get i v d h1 h2
  · rename_i h; rw [if_neg h] at h2; exact r.get (i + 1) v d h1 h2
end
end Bw
/-! zip of a list and a tuple; a for over a list that changes -/
namespace Bw
open PySem PySem.Spec PyProof.Rows L2
def ItLT (K : PySem.W.Frag) (a b : Addr) : It where
  go := fun i H => ∃ (us ws : List V) (x y : V), SqL K H a us ∧ SqT K H b ws ∧ us[i]? = some x ∧ ws[i]? = some y
  yld := fun i H v H' => ∃ (t : Addr) (x y : V), v = .ref t ∧ H t = none ∧ H' = upd H t (.tup [x, y]) ∧ (∀ us, SqL K H a us → us[i]? = some x) ∧ (∀ ws, SqT K H b ws → ws[i]? = some y)
  stop := fun i H => ∃ us ws : List V, SqL K H a us ∧ SqT K H b ws ∧ i = min us.length ws.length
def atLT (z t0 t1 j1 j2 a b : Addr) (i : Nat) (h : Heap) : Prop := IsZip h z t0 t1 .none ∧ IsTupOf2 h t0 (.ref j1) (.ref j2) ∧ (∃ p q, IsTupOf2 h t1 p q) ∧ h.IsListIter j1 a i ∧ h.IsTupleIter j2 b i
def iZipLT (K : PySem.W.Frag) (ta : TA) : TI := fun σ H R => ta σ H fun vs H1 => ∃ a b us ws, vs = [.ref a, .ref b] ∧ SqL K H1 a us ∧ SqT K H1 b ws ∧ R (ItLT K a b) H1
section
variable {X : Cx} {W : WN} {pos : Pos} {K : PySem.W.Frag}
def oZipN (ds : List D) : Ev (List D) := match ds with
  | [.lst a, .tup b] => ret (zipD a b)
  | _ => stk
/-! a for over a list that changes, which stays as it was while it is walked -/
open Classical in
noncomputable def forFM (b : Tg) (f : Sv) (n : Nat) (ds0 : List D) : List D → Sv
  | [], ρ, M => if M[n]? = some (some ds0) then some (.nx ρ, M) else none
  | d :: ds, ρ, M => if M[n]? = some (some ds0) then (match b d ρ with
    | none => none
    | some ρ1 => match f ρ1 M with
      | some (.nx ρ2, M2) => forFM b f n ds0 ds ρ2 M2
      | some (.ct ρ2, M2) => forFM b f n ds0 ds ρ2 M2
      | some (.bk ρ2, M2) => some (.nx ρ2, M2)
      | r => r) else none
noncomputable def sForM (h : Ev Nat) (b : Tg) (f : Sv) : Sv := thenS h fun n ρ M => match M[n]? with
  | some (some ds0) => forFM b f n ds0 ds0 ρ M
  | _ => none
end
end Bw
namespace Bw
open PySem PySem.Spec PyProof.Rows L2
/-! xs.pop() of a list that changes -/
section
variable {X : Cx} {W : WN} {pos : Pos}
def oPop (d : D) : Ev D := fun ρ M => match d with
  | .ptr n => match M[n]? with
    | some (some ds) => match ds[ds.length - 1]? with
      | some x => some (.ok x, M.set n (some ds.dropLast))
      | none => none
    | _ => none
  | _ => none
end
end Bw
namespace Bw
open PySem PySem.Spec PyProof.Rows L2
/-! ### a written dict of functions: what is at a text's key is called, or None is told of -/
/-- of a written dict: what is at a text's key, or None -/
def KGet (K : PySem.W.Frag) (w : World) (p : Addr) (z : Str) (v : V) : Prop := ∃ es n r, KDict K w p es n ∧ PySem.W.nsIn K p z = some r ∧ RelV v (r.getD .none)
def tGetW (K : PySem.W.Frag) (w : World) (p : Addr) (td ty : TE) : TE := fun σ H Q => td σ H fun x H1 => x = .ref p ∧ ty σ H1 fun y H2 => ∃ (z : Str) (v : V), y = .str z ∧ KGet K w p z v ∧ Q v H2
section
variable {X : Cx} {o e : Expr} {td ty : TE} {apos cpos : Pos} {p : Addr} {es : Array DictEntry} {n : Nat}
theorem pe_getW (D : KDict X.K X.w p es n) (ho : PE X o td) (he : PE X e ty) (m : M1 X o "get" apos e cpos) : PE X (.Call (.Attribute o "get" apos) [e] [] cpos) (tGetW X.K X.w p td ty) := by
  refine ⟨fun pins s σ H Q I h => ?_⟩
  refine wpAny_Call_method m.base m.few m.line PySem.F.plainAttrs_dict PySem.F.slot_dict_get PySem.F.type_dict_get (thn (ho.run pins s σ H _ I h) fun u s1 ⟨x, H1, I1, rx, ex, q1⟩ => ?_)
  subst ex
  obtain rfl : u = Value.ref p := rx
  have hm1 := PySem.W.mapOf_K (prog := X.prog) (w := X.w) I1.kIn D.at_ D.lit
  refine ⟨hm1.typeIs, hm1.noDict, ?_⟩
  rw [m.trees]
  refine Calls.callWith_builtin rfl (Calls.evalArgs_plain (Calls.spliced_cons (thn (he.run pins s1 σ H1 _ I1 q1) fun iv s2 ⟨y, H2, I2, ry, z, v, ey, ⟨es', n', r, D', er, rv⟩, q2⟩ => Calls.spliced_nil ?_)))
  subst ey
  obtain ⟨t, rfl⟩ := (show ∃ t, iv = Value.str z t from ry)
  have hm2 := PySem.W.mapOf_K (prog := X.prog) (w := X.w) I2.kIn D'.at_ D'.lit
  refine call_meetsIn PySem.F.slot_dict_get hm2.typeIs PySem.F.entry_dict_get (PySem.F.args_dict_get_2 _ _) (meets_dict_get (strKind X.prog X.w) p (strKind_is X.prog X.w z t) D.low) ⟨_, hm2, ⟨v, H2, I2.tok _, ?_, q2⟩⟩
  rw [PySem.W.find_K D'.at_ er]
  exact rv
end
/-- of several defs that a slot may hold, the promise goes with the address -/
def tCallGA (i : Nat) (T : Addr → Sp → Prop) (E : L2.St → XK) (ta : TA) : TE := fun σ H Q => ∃ (f : Addr) (sp : Sp), σ[i]? = some (some (.ref f)) ∧ T f sp ∧ ta σ H fun vs H1 => sp vs H1 Q (E σ)
theorem pe_callGA {X : Cx} {C : CXT} {k i : Nat} {x : Str} {p pos : Pos} {e : Expr} {es : List Expr} {ta : TA} {E : L2.St → XK} {T : Addr → Sp → Prop} (A : ∀ f sp, T f sp → ∃ (fd : FuncData) (ps : List Str), GOk X.prog X.w X.K X.mg X.base C k f fd ps sp ∧ PySem.W.keepIn X.K (.ref f) = true ∧ Binds X.K fd ps []) (hr : Rg k X.A) (hN : X.N[i]? = some x) (hv : Vis X.env.scope x) (hx : ∀ σ, PassesAt C X σ (E σ))
    (hargs : PA X (e :: es) ta) (hdb : (x == ("__debug__" : Str)) = false := by decide) (hcd : (x == ("__classdict__" : Str)) = false := by decide) (he : starEach (e :: es) X.env = (false, eval e X.env) :: starEach es X.env := by rfl) (hpl : (backTo pos (starEach es X.env)).any (·.1) = false := by rfl) :
    PE X (.Call (.Name x p) (e :: es) [] pos) (tCallGA i T E ta) := by
  refine ⟨fun pins s σ H Q I h => ?_⟩
  obtain ⟨f, sp, hs, hT, ht⟩ := h
  obtain ⟨fd, ps, F, hk, hb⟩ := A f sp hT
  refine wpAny_Call_Name_kw (thn ((pe_var (pos := p) hN hv hdb hcd).run pins s σ H (fun v H1 => v = .ref f ∧ H1 = H) I ⟨.ref f, hs, rfl, rfl⟩) fun u s0 ⟨v, H0, I0, r0, q0⟩ => ?_)
  obtain ⟨rfl, rfl⟩ := q0
  cases r0
  refine PySem.W.callWith_K (h₀ := X.base) I0.ok.mod.kin hk (thn (hargs.run pos pins s0 σ _ _ I0 ht) fun us s1 z => ?_) he hpl
  obtain ⟨vs, H1, I1, rv, q⟩ := z
  have hl : us.length = ps.length := rv.length.symm.trans (F.n _ _ _ _ q)
  have b := hb s1 us I1.kIn (by rw [List.append_nil]; exact hl)
  rw [List.append_nil] at b
  refine ⟨I1.kIn, wpAny_call (codeAny_mono (F.go X.A X.stack s1 H1 ⟨us, []⟩ us vs Q (E σ) hr I1.env0 b rv q) fun res s2 hq => ?_)⟩
  rcases res with er | fl
  · exact hx σ pins H1 s1 er s2 I1 hq
  · cases fl <;> first | exact I1.after hq | exact False.elim hq
/-- what is known of the dict -/
structure FormsOk (P : Program) (w : World) (K : PySem.W.Frag) (mg : Str → Option Value) (base : Heap) (k n : Nat) (p : Addr) (tb : List (Str × Fd)) (ms : List Str) : Prop where
  kd : ∃ es m, KDict K w p es m
  hit : ∀ z F, tb.lookup z = some F → ∃ f fd ps, PySem.W.nsIn K p z = some (some (.ref f)) ∧ GOk P w K mg base CX0 k f fd ps (spF K mg n F) ∧ PySem.W.keepIn K (.ref f) = true ∧ Binds K fd ps []
  miss : ∀ z, ms.contains z = true → PySem.W.nsIn K p z = some none
def sForm (i n : Nat) (kf : Ev D) (h : Ev (List D)) (tb : List (Str × Fd)) (ms : List Str) : Sv := fun ρ M => match kf ρ M with
  | some (.ok (.str z), M1) => if ρ.length ≤ i then none else if ms.contains z = true then some (.rt (.bl false), M1) else match tb.lookup z with
    | some F => sRet (bnd h (oCall n F)) (ρ.set i none) M1
    | none => none
  | _ => none
theorem Rσ.setN {K : PySem.W.Frag} {θ : List Th} {G : Hp} {σ : L2.St} {ρ : Env} (h : Rσ K θ G σ ρ) (i : Nat) (v : Option V) : Rσ K θ G (σ.set i v) (ρ.set i none) := by
  refine ⟨by simp [h.len], fun j e hj => ?_⟩
  by_cases hij : i = j
  · subst hij
    rw [List.getElem?_set] at hj
    simp at hj
  · rw [List.getElem?_set_ne hij] at hj ⊢
    exact h.get j e hj
theorem lookup_mem {z : Str} {F : Fd} : ∀ {tb : List (Str × Fd)}, tb.lookup z = some F → (z, F) ∈ tb
  | [], h => by simp at h
  | (y, G) :: tb, h => by
    rw [List.lookup_cons] at h
    split at h
    · rename_i q
      have := eq_of_beq q
      cases h
      rw [this]
      exact List.mem_cons_self
    · exact List.mem_cons_of_mem _ (lookup_mem h)
theorem dss_form {X : Cx} {W : WN} {WC : WX} {i n k c1 : Nat} {p : Addr} {x y : Str} {px pf ap cp pa pc pn pp pq pr pb pz : Pos} {ke a : Expr} {as : List Expr} {kf : Ev D} {h : Ev (List D)} {tb : List (Str × Fd)} {ms : List Str}
    (hN : X.N.Nodup) (hw : WOk X.mg WC W) (FO : FormsOk X.prog X.w X.K X.mg X.base k n p tb ms) (hr : Rg k X.A) (hx : ∀ σ, PassesAt CX0 X σ (WE WC σ)) (hm : X.mg y = some (.ref p)) (hk : DE X W ke kf) (ha : DA X W (a :: as) h)
    (m : M1 X (.Name y pf) "get" ap ke cp := by exact ⟨rfl, rfl, rfl, rfl⟩)
    (hi : X.N[i]? = some x := by rfl) (hl : Loc X.env.scope x := by first | exact .inl rfl | exact .inr rfl) (hv : Vis X.env.scope x := by first | exact Or.inl rfl | exact Or.inr (Or.inl rfl) | exact Or.inr (Or.inr rfl)) (hd : (x == ("__debug__" : Str)) = false := by decide) (hcd : (x == ("__classdict__" : Str)) = false := by decide)
    (hs : swapsWith (.Call (.Attribute (.Name y pf) "get" ap) [ke] [] cp) (some (.Name x px)) pa.line X.env = pure false := by rfl) (hf : X.fn x = true ∨ X.env.scope.names.lookup x = some .local := by first | exact .inl rfl | exact .inr rfl)
    (hg : Gl X y := by rfl) (hdy : (y == ("__debug__" : Str)) = false := by decide) (he : starEach (a :: as) X.env = (false, eval a X.env) :: starEach as X.env := by rfl) (hpl : (backTo pr (starEach as X.env)).any (·.1) = false := by rfl) :
    DSs X W [.Assign [.Name x px] (.Call (.Attribute (.Name y pf) "get" ap) [ke] [] cp) pa, .Return (some (.BoolOp .And [.Compare (.Name x pc) [.IsNot] [.Constant .none c1 pn] pp, .Call (.Name x pq) (a :: as) [] pr] pb)) pz] (sForm i n kf h tb ms) := by
  obtain ⟨tk, qk, sk⟩ := hk
  obtain ⟨ta, qa, sa⟩ := ha
  obtain ⟨es, mm, KD⟩ := FO.kd
  refine ⟨_, pss_cons (ps_set hN hi hl (pe_getW KD (pe_glob (v := .ref p) hg hm rfl (hd := hdy)) qk m) hs hf) (pss_one (ps_ret (pe_and (pe_cmpR op_notN (pe_var hi hv hd hcd) pe_non (nomark _)) (pe_one (pe_callGA (k := k) (T := fun f sp => ∃ z F, tb.lookup z = some F ∧ PySem.W.nsIn X.K p z = some (some (.ref f)) ∧ sp = spF X.K X.mg n F) (fun f sp ⟨z, F, e1, e2, e3⟩ => ?_) hr hi hv hx qa hd hcd he hpl))))), ?_⟩
  · obtain ⟨f', fd, ps, g1, g2, g3, g4⟩ := FO.hit z F e1
    rw [e2] at g1
    cases g1
    subst e3
    exact ⟨fd, ps, g2, g3, g4⟩
  · intro ρ M o M' θ G σ H Dn e rs rv kk
    unfold sForm at e
    cases q : kf ρ M with
    | none => rw [q] at e; cases e
    | some z =>
      obtain ⟨r1, M1⟩ := z
      rw [q] at e
      cases r1 with
      | exc C => cases e
      | ok d =>
        cases d with
        | str z =>
          dsimp only at e
          refine ⟨rfl, ?_⟩
          refine sk θ G ρ M (.ok (.str z)) M1 θ G σ H _ (List.prefix_refl _) (Same.refl _) q rs rv fun θ1 G1 H1 p1 s1 rs1 => ⟨fun C hC => (by cases hC), fun d v hd' hvd => ?_⟩
          cases hd'
          have ev : v = .str z := by
            have := hvd.rp rfl
            cases this
            rfl
          subst ev
          split at e
          · cases e
          rename_i hlen
          have hlt : i < σ.length := by rw [rv.len]; omega
          have sg : ∀ v : V, (σ.set i (some v))[i]? = some (some v) := fun v => List.getElem?_set_self hlt
          split at e
          · rename_i hms
            cases e
            exact ⟨z, .non, rfl, ⟨es, mm, none, KD, FO.miss z hms, rfl⟩, .non, sg _, rfl, false, by simp, (kk θ1 G1 H1 p1 s1 rs1).rt (.bl false) (.bl false) rfl rv_bl⟩
          · split at e
            · rename_i F hF
              obtain ⟨f, fd, ps, g1, g2, g3, g4⟩ := FO.hit z F hF
              refine ⟨z, .ref f, rfl, ⟨es, mm, some (.ref f), KD, g1, rfl⟩, .ref f, sg _, rfl, true, by simp, ?_⟩
              rw [if_pos rfl]
              refine ⟨f, _, sg _, ⟨z, F, hF, g1, rfl⟩, ?_⟩
              unfold sRet thenS at e
              have rv1 := (rv.mono p1 s1).setN i (some (.ref f))
              cases q2 : (bnd h (oCall n F)) (ρ.set i none) M1 with
              | none => rw [q2] at e; cases e
              | some z2 =>
                obtain ⟨r2, M2⟩ := z2
                rw [q2] at e
                have SB : Snd X.K W (RV X.K) θ1 G1 (fun σ H Q => ta σ H fun vs H1 => spF X.K X.mg n F vs H1 Q (WE WC σ)) (bnd h (oCall n F)) := by
                  refine (sa θ1 G1).bind (R2 := RV X.K) (k := fun (vs : List V) (σ : L2.St) (H1 : Hp) (Q : V → Hp → Prop) => spF X.K X.mg n F vs H1 Q (WE WC σ)) fun θ2 G2 vs ds _ _ hv => ?_
                  intro ρ M r M' θ3 G3 σ H Q p2 s2 e rs rv kk
                  unfold oCall at e
                  split at e
                  · rename_i hl
                    exact ⟨θ3, G3, ds, M, r, M', rs, hv.mono p2 s2, hl, e, fun θ' G' H' a b c => ⟨fun x C h1 h2 => hw _ _ _ ((kk θ' G' H' a b c).1 x h1) C h2, (kk θ' G' H' a b c).2⟩⟩
                  · cases e
                refine SB (ρ.set i none) M1 r2 M2 θ1 G1 _ H1 _ (List.prefix_refl _) (Same.refl _) q2 rs1 rv1 fun θ2 G2 H2 p2 s2 rs2 => ?_
                cases r2 with
                | exc C =>
                  simp at e
                  obtain ⟨e1, e2⟩ := e
                  subst e1; subst e2
                  exact ⟨fun C' h => by cases h; exact (kk θ2 G2 H2 (p1.trans p2) (s1.trans s2) rs2).ex C _ _ rfl (rv1.mono p2 s2), fun d v h => (by cases h)⟩
                | ok d =>
                  simp at e
                  obtain ⟨e1, e2⟩ := e
                  subst e1; subst e2
                  exact ⟨fun C' h => (by cases h), fun d' v h hv => by cases h; exact (kk θ2 G2 H2 (p1.trans p2) (s1.trans s2) rs2).rt d v rfl hv⟩
            · cases e
        | _ => cases e
end Bw
/-! {} in a list of texts -/
namespace Bw
open PySem PySem.Spec PyProof.Rows L2
open PySem.SeqAt PySem.MeetsSeq PySem.MeetsSeq2 PySem.MeetsSeq3 PySem.SeqRoads2
open PySem.AutoSeq1 (wpAny_loadPart')
theorem dict_eq_declines_str (l : Addr) (es : Array DictEntry) (n : Nat) (sl : Array (Option Value)) (b : Str) (u : Tok) :
    Meets (Builtin.«dict.__eq__» ⟨[.ref l, .str b u], []⟩) (fun _ R s => s.heap.get? l = some { cls := .type "dict", dict := none, data := .dict es n, slots := sl } ∧ R (.ok (.ret .notImplemented)) s) :=
  .of_wp fun prog w A R s h => by obtain ⟨hp, g, d, tk, os⟩ := s; obtain ⟨hl, h⟩ := h; have f1 := F.sub_str_dict; wp_walk using wpAny_loadPart' hl; exact ⟨_, rfl, h⟩
theorem str_eq_declines_dict (b : Str) (u : Tok) (l : Addr) (es : Array DictEntry) (n : Nat) (sl : Array (Option Value)) :
    Meets (Builtin.«str.__eq__» ⟨[.str b u, .ref l], []⟩) (fun _ R s => s.heap.get? l = some { cls := .type "dict", dict := none, data := .dict es n, slots := sl } ∧ R (.ok (.ret .notImplemented)) s) :=
  .of_wp fun prog w A R s h => by obtain ⟨hp, g, d, tk, os⟩ := s; obtain ⟨hl, h⟩ := h; wp_walk using wpAny_loadPart' hl, wpAny_load hl; exact ⟨_, rfl, h⟩
section
variable {A : Around} {s : Shared}
theorem rcAt_str_dict {l : Addr} {es : Array DictEntry} {n : Nat} {sl : Array (Option Value)} (b : Str) (u : Tok) (ho : s.heap.get? l = some { cls := .type "dict", dict := none, data := .dict es n, slots := sl }) (hu : A.units < cLine) : RcAt A s (.str b u) (.ref l) false := fun prog w E Q h =>
  rc_eq_decline_or (k := false) (typeIs_str s b u) ⟨_, ho, rfl⟩ (by decide) F.sub_dict_str F.slot_str_eq F.slot_dict_eq_refl
    (fun _ hq => call_meets F.slot_str_eq (typeIs_str s b u) F.entry_str_eq (F.args_str_eq_2 _ _) (str_eq_declines_dict b u l es n sl) ⟨ho, hq⟩)
    (fun _ hq => call_meets F.slot_dict_eq_refl ⟨_, ho, rfl⟩ F.entry_dict_eq (F.args_dict_eq_2 _ _) (dict_eq_declines_str l es n sl b u) ⟨ho, hq⟩)
    (fun _ hq => wpAny_of_eq (rfl : isSame (.str b u) (.ref l) = pure false) hq) (.inr hu) h
theorem eqAt_str_dict {l : Addr} {es : Array DictEntry} {n : Nat} {sl : Array (Option Value)} (b : Str) (u : Tok) (ho : s.heap.get? l = some { cls := .type "dict", dict := none, data := .dict es n, slots := sl }) (hu : A.units < cLine) : EqAt A s (.str b u) (.ref l) false := fun prog w E Q h => by
  unfold eqBool
  refine wpAny_holding ?_
  refine wpAny_ite_split (fun hab => absurd (eq_of_beq hab) nofun) (fun _ => ?_)
  exact wpAny_bind (rcAt_str_dict b u ho hu prog w E _ (wpAny_truthy_bool h))
end
/-- {} in a list of texts -/
def rInE (K : PySem.W.Frag) : R2 := fun x y H Q => rInLT K false x y H Q ∨ ∃ (a c : Addr) (xs : List V), x = .ref a ∧ y = .ref c ∧ H a = some (.dK []) ∧ SqL K H c xs ∧ (∀ v ∈ xs, ∃ z, v = .str z) ∧ Q (.bl false) H
theorem vals_strs : ∀ {xs : List V} {us : List Value}, Vals xs us → (∀ v ∈ xs, ∃ z, v = V.str z) → ∀ u ∈ us, ∃ z t, u = Value.str z t
  | _, _, .nil, _, u, hu => by simp at hu
  | _, _, .cons r1 r2, h, u, hu => by
    rcases List.mem_cons.mp hu with e | e
    · subst e
      obtain ⟨z, rfl⟩ := h _ List.mem_cons_self
      obtain ⟨t, rfl⟩ := r1
      exact ⟨z, t, rfl⟩
    · exact vals_strs r2 (fun v hv => h v (List.mem_cons_of_mem _ hv)) u e
theorem op_inE {X : Cx} (hu : X.A.units + 65 < cLine) : OpR X (compareOp .In) (rInE X.K) := by
  intro pins s σ H x y v u Q I rx ry h
  rcases h with h | ⟨a, c, xs, rfl, rfl, ha, hc, hs, q⟩
  · exact op_inLT hu pins s σ H x y v u Q I rx ry h
  · obtain rfl : v = Value.ref a := rx
    obtain rfl : u = Value.ref c := ry
    obtain ⟨_, hd, vs, rel, ob, es, ep, h1, ⟨g1, g2, g3⟩, h3, _⟩ := dk_of I.hok ha
    obtain ⟨cls, dd, data, sl⟩ := ob
    simp only at g1 g2 g3 h3
    subst g1 g2 g3 h3
    obtain ⟨its, rv, pl, hz⟩ := I.list hc
    refine in_listAt (fun _ => false) pl.isList (fun z hz => ?_) ?_
    · obtain ⟨w, t, rfl⟩ := vals_strs rv hs z (by simpa using hz)
      exact eqAt_str_dict w t h1 (by show X.A.units + 1 < cLine; omega)
    · have : (its.toArray.any fun _ => false) = false := by simp
      rw [this]
      exact ⟨.bl false, H, I, rfl, q⟩
def allStr (ds : List D) : Bool := ds.all fun d => match d with | .str _ => true | _ => false
def oInE (d e : D) : Ev D := match d, e with
  | .emp, .lst es => if allStr es = true then ret (.bl false) else stk
  | d, e => oInD false d e
section
variable {X : Cx} {W : WN} {K : PySem.W.Frag} {a b : Expr} {f g : Ev D} {pos : Pos}
theorem snd_inE : SndO K W (rInE K) oInE := by
  intro θ G x y d e hx hy
  unfold oInE
  split
  · rename_i es
    split
    · rename_i c
      intro ρ M r M' θ1 G1 σ H Q p s e1 rs rv kk
      have h1 := ((hx.rp rfl).mono s).mono rs.sub
      have h2 := ((hy.rp rfl).mono s).mono rs.sub
      cases h1 with
      | @emp a' h1 =>
        cases h2 with
        | @lst b' xs ds h2 l2 e2 =>
          refine .inr ⟨a', b', xs, rfl, rfl, h1, .inl (.inl h2), fun v hv => ?_, Snd.ret (K := K) (W := W) (R := RV K) (θ0 := θ) (G0 := G) (fun _ _ _ _ => rv_bl) ρ M r M' θ1 G1 σ H Q p s e1 rs rv kk⟩
          obtain ⟨i, hi, hi2⟩ := List.mem_iff_getElem.mp hv
          have hd : es[i]? = some es[i] := List.getElem?_eq_getElem (by omega)
          have r3 := e2 i v es[i] (by rw [← hi2]; exact List.getElem?_eq_getElem hi) hd
          have h4 := List.all_eq_true.mp c es[i] (List.getElem_mem _)
          cases hz : es[i] with
          | str z =>
            rw [hz] at r3
            cases r3
            exact ⟨z, rfl⟩
          | _ => rw [hz] at h4; cases h4
    · exact Snd.stk
  · intro ρ M r M' θ1 G1 σ H Q p s e1 rs rv kk
    exact .inl (snd_inD θ G x y _ _ hx hy ρ M r M' θ1 G1 σ H Q p s e1 rs rv kk)
theorem de_inE (hr : ∃ k, Rg k X.A) (ha : DE X W a f) (hb : DE X W b g) (hm : behindInMarks .In b = false := by rfl) : DE X W (.Compare a [.In] [b] pos) (bnd f fun d => bnd g fun e => oInE d e) := by
  obtain ⟨k, hr⟩ := hr
  exact de_cmp (op_inE (by have := hr.un200; omega)) snd_inE ha hb hm
end
end Bw
namespace Bw
open PySem PySem.Spec PyProof.Rows L2
def C_NOUGHT : D := .tup [.int 0, .int 1]
noncomputable def den__law_pot : Sv :=
  (sSeq (sAsg (bnd (dCons (ret (.int 2147483647)) (dCons (ret (.int 2147483629)) (dCons (ret (.int 2147483587)) (dCons (ret (.int 2147483579)) (dCons (ret (.int 2147483563)) (dCons (ret (.int 2147483549)) (dCons (ret (.int 2147483543)) (dCons (ret (.int 2147483497)) dNil)))))))) oLst) (gNm 2))
  (sSeq (sAsg (bnd (dVar 2) fun d => bnd (bnd (dVar 1) fun d => bnd (ret (.int 8)) fun e => oMod d e) fun e => oIx d e) (gNm 3))
  (sRet (bnd (dCons (bnd (dCons (ret (.int 0)) (dCons (bnd (dVar 0) fun d => bnd (bnd (ret (.int 10)) fun d => bnd (ret (.int 18)) fun e => oPow d e) fun e => oSub d e) dNil)) oMax) (dCons (bnd (bnd (bnd (bnd (bnd (dVar 0) fun d => bnd (ret (.int 1000000007)) fun e => oMod d e) fun d => bnd (bnd (ret (.int 7919)) fun d => bnd (dVar 1) fun e => oMul d e) fun e => oAdd d e) fun d => bnd (ret (.int 31)) fun e => oAdd d e) fun d => bnd (ret (.int 5)) fun e => oPow d e) fun d => bnd (dVar 3) fun e => oMod d e) (dCons (ret (.int 0)) dNil))) oNew))))
noncomputable def F__law_pot : Fd := runF 1 ["cell", "place", "primes", "prime"] den__law_pot
theorem hF__law_pot : ∀ ds M r M', ds.length = 2 → F__law_pot ds M = some (r, M') → M.length ≤ M'.length ∧ ∃ o M2, den__law_pot (startD ["cell", "place", "primes", "prime"] ds) M = some (o, M2) ∧ Exit o M2 r M' := runF_ok
theorem hX__law_pot : ∀ ds M C M', F__law_pot ds M ≠ some (.exc C, M') := runF_nx
noncomputable def den__law_take : Sv :=
  (sSeq (sIf (bnd (bnd (bnd (dVar 0) fun d => bnd (ret (.int 0)) fun e => oIx d e) fun d => bnd (ret (.int 0)) fun e => oGt d e) asB) (sSeq (sAsg (bnd (bnd (dVar 0) fun d => bnd (ret (.int 0)) fun e => oIx d e) fun d => bnd (dVar 1) fun e => oMod d e) (gNm 2))
  (sSeq (sStore (bnd (bnd (dVar 0) fun d => bnd (ret (.int 0)) fun e => oIx d e) fun d => bnd (dVar 1) fun e => oDiv d e) (dVar 0) (ret (.int 0)))
  (sRet (dVar 2)))) sNext)
  (sSeq (sStore (bnd (bnd (dVar 0) fun d => bnd (ret (.int 2)) fun e => oIx d e) fun d => bnd (ret (.int 1)) fun e => oAdd d e) (dVar 0) (ret (.int 2)))
  (sSeq (sStore (bnd (bnd (bnd (bnd (bnd (dVar 0) fun d => bnd (ret (.int 1)) fun e => oIx d e) fun d => bnd (ret (.int 69621)) fun e => oMul d e) fun d => bnd (bnd (bnd (ret (.int 104729)) fun d => bnd (bnd (dVar 0) fun d => bnd (ret (.int 2)) fun e => oIx d e) fun e => oMul d e) fun d => bnd (bnd (dVar 0) fun d => bnd (ret (.int 2)) fun e => oIx d e) fun e => oMul d e) fun e => oAdd d e) fun d => bnd (ret (.int 12345)) fun e => oAdd d e) fun d => bnd (ret (.int 2147483629)) fun e => oMod d e) (dVar 0) (ret (.int 1)))
  (sRet (bnd (bnd (bnd (bnd (bnd (dVar 0) fun d => bnd (ret (.int 1)) fun e => oIx d e) fun d => bnd (ret (.int 3)) fun e => oPow d e) fun d => bnd (ret (.int 2147483587)) fun e => oMod d e) fun d => bnd (ret (.int 16)) fun e => oDiv d e) fun d => bnd (dVar 1) fun e => oMod d e)))))
noncomputable def F__law_take : Fd := runF 0 ["pot", "many", "digit"] den__law_take
theorem hF__law_take : ∀ ds M r M', ds.length = 2 → F__law_take ds M = some (r, M') → M.length ≤ M'.length ∧ ∃ o M2, den__law_take (startD ["pot", "many", "digit"] ds) M = some (o, M2) ∧ Exit o M2 r M' := runF_ok
theorem hX__law_take : ∀ ds M C M', F__law_take ds M ≠ some (.exc C, M') := runF_nx
noncomputable def den__law_full : Sv :=
  (sRet (bnd (bnd (dCons (bnd (dCons (ret (.int 1)) (dCons (ret (.int 1)) dNil)) oTup) (dCons (bnd (dCons (ret (.int 101)) (dCons (ret (.int 89)) dNil)) oTup) (dCons (bnd (dCons (ret (.int 9)) (dCons (ret (.int 2)) dNil)) oTup) (dCons (bnd (dCons (ret (.int 7)) (dCons (ret (.int 3)) dNil)) oTup) (dCons (bnd (dCons (ret (.int 1)) (dCons (ret (.int 1000)) dNil)) oTup) (dCons (bnd (dCons (ret (.int 997)) (dCons (ret (.int 991)) dNil)) oTup) dNil)))))) oLst) fun d => bnd (bnd (dCons (dVar 0) (dCons (ret (.int 6)) dNil)) (oCall 2 F__law_take)) fun e => oIx d e))
noncomputable def F__law_full : Fd := runF 0 ["pot"] den__law_full
theorem hF__law_full : ∀ ds M r M', ds.length = 1 → F__law_full ds M = some (r, M') → M.length ≤ M'.length ∧ ∃ o M2, den__law_full (startD ["pot"] ds) M = some (o, M2) ∧ Exit o M2 r M' := runF_ok
theorem hX__law_full : ∀ ds M C M', F__law_full ds M ≠ some (.exc C, M') := runF_nx
noncomputable def den__law_low_L1 : Sv :=
  (sPar 2 3 (dCons (dVar 3) (dCons (bnd (dVar 2) fun d => bnd (dVar 3) fun e => oMod d e) dNil)))
noncomputable def den__law_low : Sv :=
  (sSeq (sPar 2 3 (dCons (bnd (dCons (dVar 0) dNil) oAbs) (dCons (bnd (dCons (dVar 1) dNil) oAbs) dNil)))
  (sSeq (sWhile (bnd (bnd (dVar 3) fun d => bnd (ret (.int 0)) fun e => oGt d e) asB) den__law_low_L1)
  (sSeq (sIf (bnd (bnd (dVar 1) fun d => bnd (ret (.int 0)) fun e => oLt d e) asB) (sAsg (bnd (ret (.int 0)) fun d => bnd (dVar 2) fun e => oSub d e) (gNm 2)) sNext)
  (sRet (bnd (dCons (bnd (dVar 0) fun d => bnd (dVar 2) fun e => oDiv d e) (dCons (bnd (dVar 1) fun d => bnd (dVar 2) fun e => oDiv d e) dNil)) oTup)))))
noncomputable def F__law_low : Fd := runF 0 ["a", "b", "one", "other"] den__law_low
theorem hF__law_low : ∀ ds M r M', ds.length = 2 → F__law_low ds M = some (r, M') → M.length ≤ M'.length ∧ ∃ o M2, den__law_low (startD ["a", "b", "one", "other"] ds) M = some (o, M2) ∧ Exit o M2 r M' := runF_ok
theorem hX__law_low : ∀ ds M C M', F__law_low ds M ≠ some (.exc C, M') := runF_nx
noncomputable def den_is_whole : Sv :=
  (sRet (dAndV (bnd (dVar 0) (oIsi (fun a => kitB a "int") (fun _ => none))) (dNotV (bnd (dVar 0) (oIsi (fun a => kitB a "bool") (fun _ => none))))))
noncomputable def F_is_whole : Fd := runF 0 ["thing"] den_is_whole
theorem hF_is_whole : ∀ ds M r M', ds.length = 1 → F_is_whole ds M = some (r, M') → M.length ≤ M'.length ∧ ∃ o M2, den_is_whole (startD ["thing"] ds) M = some (o, M2) ∧ Exit o M2 r M' := runF_ok
theorem hX_is_whole : ∀ ds M C M', F_is_whole ds M ≠ some (.exc C, M') := runF_nx
noncomputable def den_common_L1 : Sv :=
  (sPar 0 1 (dCons (dVar 1) (dCons (bnd (dVar 0) fun d => bnd (dVar 1) fun e => oMod d e) dNil)))
noncomputable def den_common : Sv :=
  (sSeq (sWhile (bnd (bnd (dVar 1) fun d => bnd (ret (.int 0)) fun e => oNe d e) asB) den_common_L1)
  (sRet (bnd (dCons (dVar 0) dNil) oAbs)))
noncomputable def F_common : Fd := runF 0 ["a", "b"] den_common
theorem hF_common : ∀ ds M r M', ds.length = 2 → F_common ds M = some (r, M') → M.length ≤ M'.length ∧ ∃ o M2, den_common (startD ["a", "b"] ds) M = some (o, M2) ∧ Exit o M2 r M' := runF_ok
theorem hX_common : ∀ ds M C M', F_common ds M ≠ some (.exc C, M') := runF_nx
noncomputable def den_is_fraction : Sv :=
  (sSeq (sIf (dOr (dNot (bnd (bnd (dVar 0) (oIsi (fun a => kitB a "tuple") (fun _ => none))) asB)) (bnd (bnd (bnd (dCons (dVar 0) dNil) oLen) fun d => bnd (ret (.int 2)) fun e => oNe d e) asB)) (sRet (ret (.bl false))) sNext)
  (sSeq (sAsg (dVar 0) (gTp 2 (gCn (gNm 1) (gCn (gNm 2) gNl))))
  (sRet (dAndV (bnd (dCons (dVar 1) dNil) (oCall 1 F_is_whole)) (dAndV (bnd (dCons (dVar 2) dNil) (oCall 1 F_is_whole)) (dAndV (bnd (dVar 2) fun d => bnd (ret (.int 0)) fun e => oGt d e) (bnd (bnd (dCons (dVar 1) (dCons (dVar 2) dNil)) (oCall 2 F_common)) fun d => bnd (ret (.int 1)) fun e => oEq d e)))))))
noncomputable def F_is_fraction : Fd := runF 0 ["thing", "a", "b"] den_is_fraction
theorem hF_is_fraction : ∀ ds M r M', ds.length = 1 → F_is_fraction ds M = some (r, M') → M.length ≤ M'.length ∧ ∃ o M2, den_is_fraction (startD ["thing", "a", "b"] ds) M = some (o, M2) ∧ Exit o M2 r M' := runF_ok
theorem hX_is_fraction : ∀ ds M C M', F_is_fraction ds M ≠ some (.exc C, M') := runF_nx
noncomputable def den_is_less : Sv :=
  (sSeq (sAsg (dVar 0) (gTp 2 (gCn (gNm 2) (gCn (gNm 3) gNl))))
  (sSeq (sAsg (dVar 1) (gTp 2 (gCn (gNm 4) (gCn (gNm 5) gNl))))
  (sRet (bnd (bnd (dVar 2) fun d => bnd (dVar 5) fun e => oMul d e) fun d => bnd (bnd (dVar 4) fun d => bnd (dVar 3) fun e => oMul d e) fun e => oLt d e))))
noncomputable def F_is_less : Fd := runF 0 ["one", "other", "a", "b", "c", "d"] den_is_less
theorem hF_is_less : ∀ ds M r M', ds.length = 2 → F_is_less ds M = some (r, M') → M.length ≤ M'.length ∧ ∃ o M2, den_is_less (startD ["one", "other", "a", "b", "c", "d"] ds) M = some (o, M2) ∧ Exit o M2 r M' := runF_ok
theorem hX_is_less : ∀ ds M C M', F_is_less ds M ≠ some (.exc C, M') := runF_nx
noncomputable def den_times : Sv :=
  (sSeq (sAsg (dVar 0) (gTp 2 (gCn (gNm 4) (gCn (gNm 5) gNl))))
  (sSeq (sAsg (dVar 1) (gTp 2 (gCn (gNm 6) (gCn (gNm 7) gNl))))
  (sSeq (sAsg (bnd (dCons (dVar 4) (dCons (dVar 7) dNil)) (oCall 2 F_common)) (gNm 2))
  (sSeq (sAsg (bnd (dCons (dVar 6) (dCons (dVar 5) dNil)) (oCall 2 F_common)) (gNm 3))
  (sRet (bnd (dCons (bnd (bnd (dVar 4) fun d => bnd (dVar 2) fun e => oDiv d e) fun d => bnd (bnd (dVar 6) fun d => bnd (dVar 3) fun e => oDiv d e) fun e => oMul d e) (dCons (bnd (bnd (dVar 5) fun d => bnd (dVar 3) fun e => oDiv d e) fun d => bnd (bnd (dVar 7) fun d => bnd (dVar 2) fun e => oDiv d e) fun e => oMul d e) dNil)) oTup))))))
noncomputable def F_times : Fd := runF 0 ["one", "other", "left", "right", "a", "b", "c", "d"] den_times
theorem hF_times : ∀ ds M r M', ds.length = 2 → F_times ds M = some (r, M') → M.length ≤ M'.length ∧ ∃ o M2, den_times (startD ["one", "other", "left", "right", "a", "b", "c", "d"] ds) M = some (o, M2) ∧ Exit o M2 r M' := runF_ok
theorem hX_times : ∀ ds M C M', F_times ds M ≠ some (.exc C, M') := runF_nx
noncomputable def den_is_layer : Sv :=
  (sSeq (sIf (dOr (dNot (bnd (bnd (dVar 1) (oIsi (fun a => kitB a "tuple") (fun _ => none))) asB)) (bnd (bnd (bnd (dCons (dVar 1) dNil) oLen) fun d => bnd (ret (.int 2)) fun e => oNe d e) asB)) (sRet (ret (.bl false))) sNext)
  (sSeq (sAsg (dVar 1) (gTp 2 (gCn (gNm 2) (gCn (gNm 3) gNl))))
  (sSeq (sIf (dOr (dNot (bnd (bnd (dCons (dVar 2) dNil) (oCall 1 F_is_fraction)) asB)) (dNot (bnd (bnd (dCons (dVar 3) dNil) (oCall 1 F_is_fraction)) asB))) (sRet (ret (.bl false))) sNext)
  (sSeq (sIf (dOr (bnd (bnd (dCons (dVar 2) (dCons (ret C_NOUGHT) dNil)) (oCall 2 F_is_less)) asB) (bnd (bnd (dCons (dVar 3) (dCons (ret C_NOUGHT) dNil)) (oCall 2 F_is_less)) asB)) (sRet (ret (.bl false))) sNext)
  (sSeq (sIf (bnd (bnd (dVar 2) fun d => bnd (ret C_NOUGHT) fun e => oEq d e) asB) (sRet (bnd (dVar 3) fun d => bnd (ret C_NOUGHT) fun e => oNe d e)) sNext)
  (sRet (dNotV (bnd (dCons (bnd (dCons (dVar 0) (dCons (dVar 2) dNil)) (oCall 2 F_times)) (dCons (dVar 3) dNil)) (oCall 2 F_is_less)))))))))
noncomputable def F_is_layer : Fd := runF 0 ["full", "thing", "water", "salt"] den_is_layer
theorem hF_is_layer : ∀ ds M r M', ds.length = 2 → F_is_layer ds M = some (r, M') → M.length ≤ M'.length ∧ ∃ o M2, den_is_layer (startD ["full", "thing", "water", "salt"] ds) M = some (o, M2) ∧ Exit o M2 r M' := runF_ok
theorem hX_is_layer : ∀ ds M C M', F_is_layer ds M ≠ some (.exc C, M') := runF_nx
noncomputable def den_is_wet : Sv :=
  (sRet (dAndV (bnd (dCons (dVar 0) (dCons (bnd (dCons (dVar 1) (dCons (dVar 2) dNil)) oTup) dNil)) (oCall 2 F_is_layer)) (bnd (dVar 1) fun d => bnd (ret C_NOUGHT) fun e => oNe d e)))
noncomputable def F_is_wet : Fd := runF 0 ["full", "water", "salt"] den_is_wet
theorem hF_is_wet : ∀ ds M r M', ds.length = 3 → F_is_wet ds M = some (r, M') → M.length ≤ M'.length ∧ ∃ o M2, den_is_wet (startD ["full", "water", "salt"] ds) M = some (o, M2) ∧ Exit o M2 r M' := runF_ok
theorem hX_is_wet : ∀ ds M C M', F_is_wet ds M ≠ some (.exc C, M') := runF_nx
noncomputable def den_is_positive : Sv :=
  (sRet (dAndV (bnd (dCons (dVar 0) dNil) (oCall 1 F_is_fraction)) (bnd (bnd (dVar 0) fun d => bnd (ret (.int 0)) fun e => oIx d e) fun d => bnd (ret (.int 0)) fun e => oGt d e)))
noncomputable def F_is_positive : Fd := runF 0 ["thing"] den_is_positive
theorem hF_is_positive : ∀ ds M r M', ds.length = 1 → F_is_positive ds M = some (r, M') → M.length ≤ M'.length ∧ ∃ o M2, den_is_positive (startD ["thing"] ds) M = some (o, M2) ∧ Exit o M2 r M' := runF_ok
theorem hX_is_positive : ∀ ds M C M', F_is_positive ds M ≠ some (.exc C, M') := runF_nx
noncomputable def den__law_times : Sv :=
  (sRet (bnd (dCons (bnd (bnd (dVar 0) fun d => bnd (ret (.int 0)) fun e => oIx d e) fun d => bnd (bnd (dVar 1) fun d => bnd (ret (.int 0)) fun e => oIx d e) fun e => oMul d e) (dCons (bnd (bnd (dVar 0) fun d => bnd (ret (.int 1)) fun e => oIx d e) fun d => bnd (bnd (dVar 1) fun d => bnd (ret (.int 1)) fun e => oIx d e) fun e => oMul d e) dNil)) (oCall 2 F__law_low)))
noncomputable def F__law_times : Fd := runF 0 ["one", "other"] den__law_times
theorem hF__law_times : ∀ ds M r M', ds.length = 2 → F__law_times ds M = some (r, M') → M.length ≤ M'.length ∧ ∃ o M2, den__law_times (startD ["one", "other"] ds) M = some (o, M2) ∧ Exit o M2 r M' := runF_ok
theorem hX__law_times : ∀ ds M C M', F__law_times ds M ≠ some (.exc C, M') := runF_nx
noncomputable def den_fraction : Sv :=
  (sSeq (sIf (bnd (bnd (dVar 1) fun d => bnd (ret (.int 0)) fun e => oEq d e) asB) (sRaise "NoFraction") sNext)
  (sSeq (sAsg (dIf (bnd (bnd (dVar 1) fun d => bnd (ret (.int 0)) fun e => oGt d e) asB) (bnd (dCons (dVar 0) (dCons (dVar 1) dNil)) (oCall 2 F_common)) (bnd (bnd (dCons (dVar 0) (dCons (dVar 1) dNil)) (oCall 2 F_common)) oNeg)) (gNm 2))
  (sRet (bnd (dCons (bnd (dVar 0) fun d => bnd (dVar 2) fun e => oDiv d e) (dCons (bnd (dVar 1) fun d => bnd (dVar 2) fun e => oDiv d e) dNil)) oTup))))
noncomputable def F_fraction : Fd := runX ["a", "b", "shared"] den_fraction
theorem hF_fraction : ∀ ds M r M', ds.length = 2 → F_fraction ds M = some (r, M') → M.length ≤ M'.length ∧ ∃ o M2, den_fraction (startD ["a", "b", "shared"] ds) M = some (o, M2) ∧ Exit o M2 r M' := runX_ok
noncomputable def den__law_folded_L1 : Sv :=
  (sStore (bnd (bnd (dVar 2) fun d => bnd (bnd (dVar 3) fun d => bnd (dVar 1) fun e => oMod d e) fun e => oIx d e) fun d => bnd (dVar 4) fun e => oAdd d e) (dVar 2) (bnd (dVar 3) fun d => bnd (dVar 1) fun e => oMod d e))
noncomputable def den__law_folded : Sv :=
  (sSeq (sAsg (bnd (dCons (bnd (dVar 0) fun d => bnd (ret none) fun l => bnd (bnd (dVar 1) asI) fun u => oSl d l u) dNil) oLstN) (gNm 2))
  (sSeq (sFor (bnd (dCons (bnd (dVar 0) fun d => bnd (bnd (dVar 1) asI) fun l => bnd (ret none) fun u => oSl d l u) dNil) oEnum) (gTp 2 (gCn (gNm 3) (gCn (gNm 4) gNl))) den__law_folded_L1)
  (sRet (dVar 2))))
noncomputable def F__law_folded : Fd := runF 1 ["script", "most", "found", "at", "cell"] den__law_folded
theorem hF__law_folded : ∀ ds M r M', ds.length = 2 → F__law_folded ds M = some (r, M') → M.length ≤ M'.length ∧ ∃ o M2, den__law_folded (startD ["script", "most", "found", "at", "cell"] ds) M = some (o, M2) ∧ Exit o M2 r M' := runF_ok
theorem hX__law_folded : ∀ ds M C M', F__law_folded ds M ≠ some (.exc C, M') := runF_nx
noncomputable def den__law_spoilt : Sv :=
  (sSeq (sAsg (bnd (dCons (dVar 0) (dCons (ret (.int 12)) dNil)) (oCall 2 F__law_take)) (gNm 2))
  (sSeq (sAsg (bnd (dCons (dVar 0) (dCons (bnd (dCons (dVar 1) dNil) oLen) dNil)) (oCall 2 F__law_take)) (gNm 3))
  (sSeq (sAsg (bnd (dCons (ret (.str (Str.ofString "pour"))) (dCons (ret (.str (Str.ofString "lead"))) (dCons (ret (.str (Str.ofString "let"))) (dCons (ret (.str (Str.ofString "rake"))) (dCons (ret (.str (Str.ofString "stir"))) (dCons (ret (.str (Str.ofString "Rake"))) (dCons (ret (.str (Str.ofString ""))) (dCons (ret (.str (Str.ofString "stirs"))) (dCons (ret .non) (dCons (ret (.int 1)) (dCons (ret (.bl true)) (dCons (bnd (dCons (ret (.str (Str.ofString "let"))) dNil) oTup) (dCons (bnd dNil oLst) (dCons (ret .emp) (dCons (bnd (dCons (ret (.int 1)) dNil) oLst) dNil))))))))))))))) oLst) (gNm 4))
  (sSeq (sAsg (bnd (dVar 4) fun d => bnd (bnd (dCons (dVar 0) (dCons (ret (.int 15)) dNil)) (oCall 2 F__law_take)) fun e => oIx d e) (gNm 5))
  (sSeq (sIf (bnd (bnd (dVar 2) fun d => bnd (ret (.int 0)) fun e => oEq d e) asB) (sRet (bnd (bnd (dVar 1) fun d => bnd (ret none) fun l => bnd (bnd (dVar 3) asI) fun u => oSl d l u) fun d => bnd (bnd (dVar 1) fun d => bnd (bnd (bnd (dVar 3) fun d => bnd (ret (.int 1)) fun e => oAdd d e) asI) fun l => bnd (ret none) fun u => oSl d l u) fun e => oAdd d e)) sNext)
  (sSeq (sIf (bnd (bnd (dVar 2) fun d => bnd (ret (.int 1)) fun e => oEq d e) asB) (sRet (bnd (bnd (dVar 1) fun d => bnd (ret none) fun l => bnd (bnd (bnd (dVar 3) fun d => bnd (ret (.int 1)) fun e => oAdd d e) asI) fun u => oSl d l u) fun d => bnd (bnd (dVar 1) fun d => bnd (bnd (dVar 3) asI) fun l => bnd (ret none) fun u => oSl d l u) fun e => oAdd d e)) sNext)
  (sSeq (sIf (bnd (bnd (dVar 2) fun d => bnd (ret (.int 2)) fun e => oEq d e) asB) (sRet (bnd (dCons (dVar 1) dNil) oLstOf)) sNext)
  (sSeq (sIf (bnd (bnd (dVar 2) fun d => bnd (ret (.int 3)) fun e => oEq d e) asB) (sRet (bnd (bnd (dCons (dVar 5) dNil) oTup) fun d => bnd (bnd (dVar 1) fun d => bnd (bnd (ret (.int 1)) asI) fun l => bnd (ret none) fun u => oSl d l u) fun e => oAdd d e)) sNext)
  (sSeq (sIf (bnd (bnd (dVar 2) fun d => bnd (ret (.int 4)) fun e => oEq d e) asB) (sRet (bnd (bnd (dCons (ret .non) (dCons (bnd dNil oTup) (dCons (ret (.str (Str.ofString "rake"))) (dCons (ret (.int 0)) (dCons (ret .emp) (dCons (ret (.bl true)) (dCons (bnd dNil oLst) (dCons (bnd (dCons (ret (.str (Str.ofString "rake"))) dNil) oTup) dNil)))))))) oLst) fun d => bnd (bnd (dCons (dVar 0) (dCons (ret (.int 8)) dNil)) (oCall 2 F__law_take)) fun e => oIx d e)) sNext)
  (sRet (dVar 1)))))))))))
noncomputable def F__law_spoilt : Fd := runF 0 ["pot", "deed", "way", "at", "some", "word"] den__law_spoilt
theorem hF__law_spoilt : ∀ ds M r M', ds.length = 2 → F__law_spoilt ds M = some (r, M') → M.length ≤ M'.length ∧ ∃ o M2, den__law_spoilt (startD ["pot", "deed", "way", "at", "some", "word"] ds) M = some (o, M2) ∧ Exit o M2 r M' := runF_ok
theorem hX__law_spoilt : ∀ ds M C M', F__law_spoilt ds M ≠ some (.exc C, M') := runF_nx
noncomputable def den__law_any_water : Sv :=
  (sSeq (sAsg (bnd (dCons (dVar 0) (dCons (ret (.int 10)) dNil)) (oCall 2 F__law_take)) (gNm 1))
  (sSeq (sAsg (bnd (dCons (bnd (ret (.int 1)) fun d => bnd (bnd (dCons (dVar 0) (dCons (ret (.int 60)) dNil)) (oCall 2 F__law_take)) fun e => oAdd d e) (dCons (bnd (ret (.int 1)) fun d => bnd (bnd (dCons (dVar 0) (dCons (ret (.int 12)) dNil)) (oCall 2 F__law_take)) fun e => oAdd d e) dNil)) (oCall 2 F__law_low)) (gNm 2))
  (sRet (bnd (bnd (dCons (bnd (dCons (ret (.int 0)) (dCons (ret (.int 1)) dNil)) oTup) (dCons (bnd (dCons (bnd (ret (.int 3)) oNeg) (dCons (ret (.int 2)) dNil)) oTup) (dCons (bnd (dCons (ret (.int 2)) (dCons (ret (.int 4)) dNil)) oTup) (dCons (bnd (dCons (ret (.int 1)) (dCons (ret (.int 0)) dNil)) oTup) (dCons (ret (.int 1)) (dCons (bnd (dCons (ret (.int 1)) (dCons (bnd (ret (.int 2)) oNeg) dNil)) oTup) (dCons (dVar 2) (dCons (dVar 2) (dCons (dVar 2) (dCons (dVar 2) dNil)))))))))) oLst) fun d => bnd (dVar 1) fun e => oIx d e))))
noncomputable def F__law_any_water : Fd := runF 0 ["pot", "way", "some"] den__law_any_water
theorem hF__law_any_water : ∀ ds M r M', ds.length = 1 → F__law_any_water ds M = some (r, M') → M.length ≤ M'.length ∧ ∃ o M2, den__law_any_water (startD ["pot", "way", "some"] ds) M = some (o, M2) ∧ Exit o M2 r M' := runF_ok
theorem hX__law_any_water : ∀ ds M C M', F__law_any_water ds M ≠ some (.exc C, M') := runF_nx
noncomputable def den__law_any_pan : Sv :=
  (sRet (bnd (bnd (dCons (ret (.int 0)) (dCons (ret (.int 1)) (dCons (ret (.int 4)) (dCons (ret (.int 5)) (dCons (bnd (ret (.int 1)) oNeg) (dCons (bnd (ret (.int 10)) fun d => bnd (ret (.int 30)) fun e => oPow d e) (dCons (ret (.bl true)) (dCons (ret (.bl false)) (dCons (ret .non) (dCons (ret (.str (Str.ofString "0"))) (dCons (bnd (dCons (ret (.int 0)) dNil) oTup) (dCons (ret (.int 2)) dNil)))))))))))) oLst) fun d => bnd (bnd (dCons (dVar 0) (dCons (ret (.int 12)) dNil)) (oCall 2 F__law_take)) fun e => oIx d e))
noncomputable def F__law_any_pan : Fd := runF 0 ["pot"] den__law_any_pan
theorem hF__law_any_pan : ∀ ds M r M', ds.length = 1 → F__law_any_pan ds M = some (r, M') → M.length ≤ M'.length ∧ ∃ o M2, den__law_any_pan (startD ["pot"] ds) M = some (o, M2) ∧ Exit o M2 r M' := runF_ok
theorem hX__law_any_pan : ∀ ds M C M', F__law_any_pan ds M ≠ some (.exc C, M') := runF_nx
noncomputable def den__law_pour : Sv :=
  (sSeq (sAsg (bnd (dCons (dVar 0) dNil) (oCall 1 F__law_any_water)) (gNm 2))
  (sSeq (sAsg (bnd (dCons (dVar 0) (dCons (ret (.int 6)) dNil)) (oCall 2 F__law_take)) (gNm 3))
  (sSeq (sAsg (bnd (dCons (dVar 0) dNil) (oCall 1 F__law_any_water)) (gNm 4))
  (sSeq (sIf (dAnd (bnd (bnd (dVar 3) fun d => bnd (ret (.int 4)) fun e => oLt d e) asB) (dAnd (bnd (bnd (dVar 2) (oIsi (fun a => kitB a "tuple") (fun _ => none))) asB) (bnd (bnd (bnd (dVar 2) fun d => bnd (ret (.int 1)) fun e => oIx d e) fun d => bnd (ret (.int 0)) fun e => oGt d e) asB))) (sAsg (bnd (dCons (bnd (bnd (bnd (dVar 1) fun d => bnd (ret (.int 0)) fun e => oIx d e) fun d => bnd (bnd (dVar 2) fun d => bnd (ret (.int 0)) fun e => oIx d e) fun e => oMul d e) fun d => bnd (bnd (bnd (dCons (ret (.int 0)) (dCons (ret (.int 1)) (dCons (ret (.int 2)) (dCons (ret (.int 3)) dNil)))) oLst) fun d => bnd (dVar 3) fun e => oIx d e) fun e => oMul d e) (dCons (bnd (bnd (bnd (dVar 1) fun d => bnd (ret (.int 1)) fun e => oIx d e) fun d => bnd (bnd (dVar 2) fun d => bnd (ret (.int 1)) fun e => oIx d e) fun e => oMul d e) fun d => bnd (ret (.int 2)) fun e => oMul d e) dNil)) (oCall 2 F__law_low)) (gNm 4)) sNext)
  (sRet (bnd (dCons (ret (.str (Str.ofString "pour"))) (dCons (bnd (dCons (dVar 0) dNil) (oCall 1 F__law_any_pan)) (dCons (dVar 2) (dCons (dVar 4) dNil)))) oTup))))))
noncomputable def F__law_pour : Fd := runF 0 ["pot", "full", "water", "way", "salt"] den__law_pour
theorem hF__law_pour : ∀ ds M r M', ds.length = 2 → F__law_pour ds M = some (r, M') → M.length ≤ M'.length ∧ ∃ o M2, den__law_pour (startD ["pot", "full", "water", "way", "salt"] ds) M = some (o, M2) ∧ Exit o M2 r M' := runF_ok
theorem hX__law_pour : ∀ ds M C M', F__law_pour ds M ≠ some (.exc C, M') := runF_nx
noncomputable def den__law_deed : Sv :=
  (sSeq (sAsg (bnd (dCons (dVar 0) (dCons (ret (.int 7)) dNil)) (oCall 2 F__law_take)) (gNm 2))
  (sSeq (sIf (bnd (bnd (dVar 2) fun d => bnd (ret (.int 2)) fun e => oLt d e) asB) (sRet (bnd (dCons (dVar 0) (dCons (dVar 1) dNil)) (oCall 2 F__law_pour))) sNext)
  (sSeq (sAsg (bnd (dCons (dVar 0) dNil) (oCall 1 F__law_any_pan)) (gNm 3))
  (sSeq (sIf (bnd (bnd (dVar 2) fun d => bnd (ret (.int 4)) fun e => oLt d e) asB) (sSeq (sAsg (bnd (bnd (dCons (ret (.str (Str.ofString "under"))) (dCons (ret (.str (Str.ofString "over"))) (dCons (ret (.str (Str.ofString "over"))) (dCons (ret (.str (Str.ofString "Over"))) (dCons (ret (.str (Str.ofString ""))) (dCons (ret .non) (dCons (ret (.int 0)) (dCons (ret (.str (Str.ofString "under "))) (dCons (bnd dNil oLst) (dCons (ret .emp) dNil)))))))))) oLst) fun d => bnd (bnd (dCons (dVar 0) (dCons (ret (.int 10)) dNil)) (oCall 2 F__law_take)) fun e => oIx d e) (gNm 4))
  (sSeq (sAsg (bnd (bnd (dCons (ret (.bl true)) (dCons (ret (.bl false)) (dCons (ret (.int 0)) (dCons (ret (.int 1)) (dCons (ret .non) (dCons (ret (.bl false)) dNil)))))) oLst) fun d => bnd (bnd (dCons (dVar 0) (dCons (ret (.int 6)) dNil)) (oCall 2 F__law_take)) fun e => oIx d e) (gNm 5))
  (sRet (bnd (dCons (ret (.str (Str.ofString "lead"))) (dCons (dVar 3) (dCons (bnd (dCons (dVar 0) dNil) (oCall 1 F__law_any_pan)) (dCons (bnd (dCons (dVar 0) dNil) (oCall 1 F__law_any_water)) (dCons (dVar 4) (dCons (dVar 5) dNil)))))) oTup)))) sNext)
  (sSeq (sIf (bnd (bnd (dVar 2) fun d => bnd (ret (.int 4)) fun e => oEq d e) asB) (sRet (bnd (dCons (ret (.str (Str.ofString "let"))) (dCons (dVar 3) (dCons (bnd (dCons (dVar 0) dNil) (oCall 1 F__law_any_water)) dNil))) oTup)) sNext)
  (sRet (bnd (dCons (bnd (bnd (dCons (ret (.str (Str.ofString "rake"))) (dCons (ret (.str (Str.ofString "stir"))) dNil)) oLst) fun d => bnd (bnd (dVar 2) fun d => bnd (ret (.int 5)) fun e => oSub d e) fun e => oIx d e) (dCons (dVar 3) dNil)) oTup)))))))
noncomputable def F__law_deed : Fd := runF 0 ["pot", "full", "way", "pan", "how", "anyhow"] den__law_deed
theorem hF__law_deed : ∀ ds M r M', ds.length = 2 → F__law_deed ds M = some (r, M') → M.length ≤ M'.length ∧ ∃ o M2, den__law_deed (startD ["pot", "full", "way", "pan", "how", "anyhow"] ds) M = some (o, M2) ∧ Exit o M2 r M' := runF_ok
theorem hX__law_deed : ∀ ds M C M', F__law_deed ds M ≠ some (.exc C, M') := runF_nx
noncomputable def den_is_pouring : Sv :=
  (sRet (dAndV (bnd (bnd (dCons (dVar 1) dNil) oLen) fun d => bnd (ret (.int 3)) fun e => oEq d e) (dAndV (bnd (dCons (bnd (dVar 1) fun d => bnd (ret (.int 0)) fun e => oIx d e) dNil) (oCall 1 F_is_whole)) (bnd (dCons (dVar 0) (dCons (bnd (dVar 1) fun d => bnd (ret (.int 1)) fun e => oIx d e) (dCons (bnd (dVar 1) fun d => bnd (ret (.int 2)) fun e => oIx d e) dNil))) (oCall 3 F_is_wet)))))
noncomputable def F_is_pouring : Fd := runF 0 ["full", "rest"] den_is_pouring
theorem hF_is_pouring : ∀ ds M r M', ds.length = 2 → F_is_pouring ds M = some (r, M') → M.length ≤ M'.length ∧ ∃ o M2, den_is_pouring (startD ["full", "rest"] ds) M = some (o, M2) ∧ Exit o M2 r M' := runF_ok
theorem hX_is_pouring : ∀ ds M C M', F_is_pouring ds M ≠ some (.exc C, M') := runF_nx
noncomputable def den_is_way : Sv :=
  (sRet (dAndV (bnd (dVar 0) (oIsi (fun a => kitB a "str") (fun _ => none))) (bnd (dVar 0) fun d => bnd (bnd (dCons (ret (.str (Str.ofString "under"))) (dCons (ret (.str (Str.ofString "over"))) dNil)) oTup) fun e => oInD false d e)))
noncomputable def F_is_way : Fd := runF 0 ["thing"] den_is_way
theorem hF_is_way : ∀ ds M r M', ds.length = 1 → F_is_way ds M = some (r, M') → M.length ≤ M'.length ∧ ∃ o M2, den_is_way (startD ["thing"] ds) M = some (o, M2) ∧ Exit o M2 r M' := runF_ok
theorem hX_is_way : ∀ ds M C M', F_is_way ds M ≠ some (.exc C, M') := runF_nx
noncomputable def den_is_leading : Sv :=
  (sSeq (sIf (dOr (bnd (bnd (bnd (dCons (dVar 1) dNil) oLen) fun d => bnd (ret (.int 5)) fun e => oNe d e) asB) (dOr (dNot (bnd (bnd (dCons (bnd (dVar 1) fun d => bnd (ret (.int 0)) fun e => oIx d e) dNil) (oCall 1 F_is_whole)) asB)) (dNot (bnd (bnd (dCons (bnd (dVar 1) fun d => bnd (ret (.int 1)) fun e => oIx d e) dNil) (oCall 1 F_is_whole)) asB)))) (sRet (ret (.bl false))) sNext)
  (sSeq (sAsg (bnd (dVar 1) fun d => bnd (bnd (ret (.int 2)) asI) fun l => bnd (ret none) fun u => oSl d l u) (gTp 3 (gCn (gNm 2) (gCn (gNm 3) (gCn (gNm 4) gNl)))))
  (sRet (dAndV (bnd (dCons (dVar 2) dNil) (oCall 1 F_is_positive)) (dAndV (bnd (dCons (dVar 3) dNil) (oCall 1 F_is_way)) (bnd (dVar 4) (oIsi (fun a => kitB a "bool") (fun _ => none))))))))
noncomputable def F_is_leading : Fd := runF 0 ["full", "rest", "water", "how", "anyhow"] den_is_leading
theorem hF_is_leading : ∀ ds M r M', ds.length = 2 → F_is_leading ds M = some (r, M') → M.length ≤ M'.length ∧ ∃ o M2, den_is_leading (startD ["full", "rest", "water", "how", "anyhow"] ds) M = some (o, M2) ∧ Exit o M2 r M' := runF_ok
theorem hX_is_leading : ∀ ds M C M', F_is_leading ds M ≠ some (.exc C, M') := runF_nx
noncomputable def den_is_letting : Sv :=
  (sRet (dAndV (bnd (bnd (dCons (dVar 1) dNil) oLen) fun d => bnd (ret (.int 2)) fun e => oEq d e) (dAndV (bnd (dCons (bnd (dVar 1) fun d => bnd (ret (.int 0)) fun e => oIx d e) dNil) (oCall 1 F_is_whole)) (bnd (dCons (bnd (dVar 1) fun d => bnd (ret (.int 1)) fun e => oIx d e) dNil) (oCall 1 F_is_positive)))))
noncomputable def F_is_letting : Fd := runF 0 ["full", "rest"] den_is_letting
theorem hF_is_letting : ∀ ds M r M', ds.length = 2 → F_is_letting ds M = some (r, M') → M.length ≤ M'.length ∧ ∃ o M2, den_is_letting (startD ["full", "rest"] ds) M = some (o, M2) ∧ Exit o M2 r M' := runF_ok
theorem hX_is_letting : ∀ ds M C M', F_is_letting ds M ≠ some (.exc C, M') := runF_nx
noncomputable def den_is_at_pan : Sv :=
  (sRet (dAndV (bnd (bnd (dCons (dVar 1) dNil) oLen) fun d => bnd (ret (.int 1)) fun e => oEq d e) (bnd (dCons (bnd (dVar 1) fun d => bnd (ret (.int 0)) fun e => oIx d e) dNil) (oCall 1 F_is_whole))))
noncomputable def F_is_at_pan : Fd := runF 0 ["full", "rest"] den_is_at_pan
theorem hF_is_at_pan : ∀ ds M r M', ds.length = 2 → F_is_at_pan ds M = some (r, M') → M.length ≤ M'.length ∧ ∃ o M2, den_is_at_pan (startD ["full", "rest"] ds) M = some (o, M2) ∧ Exit o M2 r M' := runF_ok
theorem hX_is_at_pan : ∀ ds M C M', F_is_at_pan ds M ≠ some (.exc C, M') := runF_nx
noncomputable def tab_FORMS : List (Str × Fd) := [("pour", F_is_pouring), ("lead", F_is_leading), ("let", F_is_letting), ("rake", F_is_at_pan), ("stir", F_is_at_pan)]
noncomputable def den_is_deed : Sv :=
  (sSeq (sIf (dOr (dNot (bnd (bnd (dVar 1) (oIsi (fun a => kitB a "tuple") (fun _ => none))) asB)) (dOr (dNot (bnd (dVar 1) asTru)) (dNot (bnd (bnd (bnd (dVar 1) fun d => bnd (ret (.int 0)) fun e => oIx d e) (oIsi (fun a => kitB a "str") (fun _ => none))) asB)))) (sRet (ret (.bl false))) sNext)
  (sForm 2 2 (bnd (dVar 1) fun d => bnd (ret (.int 0)) fun e => oIx d e) (dCons (bnd (dVar 0) fun d => bnd (ret (.int 0)) fun e => oIx d e) (dCons (bnd (dVar 1) fun d => bnd (bnd (ret (.int 1)) asI) fun l => bnd (ret none) fun u => oSl d l u) dNil)) tab_FORMS ["Rake", "", "stirs", "0", "under", "over", "Over", "under "]))
noncomputable def F_is_deed : Fd := runF 0 ["works", "thing", "form"] den_is_deed
theorem hF_is_deed : ∀ ds M r M', ds.length = 2 → F_is_deed ds M = some (r, M') → M.length ≤ M'.length ∧ ∃ o M2, den_is_deed (startD ["works", "thing", "form"] ds) M = some (o, M2) ∧ Exit o M2 r M' := runF_ok
theorem hX_is_deed : ∀ ds M C M', F_is_deed ds M ≠ some (.exc C, M') := runF_nx
noncomputable def den__law_whole : Sv :=
  (sRet (dAndV (bnd (dVar 0) (oIsi (fun a => kitB a "int") (fun _ => none))) (dNotV (bnd (dVar 0) (oIsi (fun a => kitB a "bool") (fun _ => none))))))
noncomputable def F__law_whole : Fd := runF 0 ["thing"] den__law_whole
theorem hF__law_whole : ∀ ds M r M', ds.length = 1 → F__law_whole ds M = some (r, M') → M.length ≤ M'.length ∧ ∃ o M2, den__law_whole (startD ["thing"] ds) M = some (o, M2) ∧ Exit o M2 r M' := runF_ok
theorem hX__law_whole : ∀ ds M C M', F__law_whole ds M ≠ some (.exc C, M') := runF_nx
noncomputable def den__law_is_water : Sv :=
  (sSeq (sIf (dOr (dNot (bnd (bnd (dVar 0) (oIsi (fun a => kitB a "tuple") (fun _ => none))) asB)) (dOr (bnd (bnd (bnd (dCons (dVar 0) dNil) oLen) fun d => bnd (ret (.int 2)) fun e => oNe d e) asB) (dOr (dNot (bnd (bnd (dCons (bnd (dVar 0) fun d => bnd (ret (.int 0)) fun e => oIx d e) dNil) (oCall 1 F__law_whole)) asB)) (dNot (bnd (bnd (dCons (bnd (dVar 0) fun d => bnd (ret (.int 1)) fun e => oIx d e) dNil) (oCall 1 F__law_whole)) asB))))) (sRet (ret (.bl false))) sNext)
  (sRet (dAndV (bnd (bnd (dVar 0) fun d => bnd (ret (.int 0)) fun e => oIx d e) fun d => bnd (ret (.int 0)) fun e => oGt d e) (dAndV (bnd (bnd (dVar 0) fun d => bnd (ret (.int 1)) fun e => oIx d e) fun d => bnd (ret (.int 0)) fun e => oGt d e) (bnd (bnd (dCons (bnd (dVar 0) fun d => bnd (ret (.int 0)) fun e => oIx d e) (dCons (bnd (dVar 0) fun d => bnd (ret (.int 1)) fun e => oIx d e) dNil)) (oCall 2 F__law_low)) fun d => bnd (dVar 0) fun e => oEq d e)))))
noncomputable def F__law_is_water : Fd := runF 0 ["thing"] den__law_is_water
theorem hF__law_is_water : ∀ ds M r M', ds.length = 1 → F__law_is_water ds M = some (r, M') → M.length ≤ M'.length ∧ ∃ o M2, den__law_is_water (startD ["thing"] ds) M = some (o, M2) ∧ Exit o M2 r M' := runF_ok
theorem hX__law_is_water : ∀ ds M C M', F__law_is_water ds M ≠ some (.exc C, M') := runF_nx
noncomputable def den__law_under : Sv :=
  (sRet (bnd (bnd (bnd (dVar 0) fun d => bnd (ret (.int 0)) fun e => oIx d e) fun d => bnd (bnd (dVar 1) fun d => bnd (ret (.int 1)) fun e => oIx d e) fun e => oMul d e) fun d => bnd (bnd (bnd (dVar 1) fun d => bnd (ret (.int 0)) fun e => oIx d e) fun d => bnd (bnd (dVar 0) fun d => bnd (ret (.int 1)) fun e => oIx d e) fun e => oMul d e) fun e => oLt d e))
noncomputable def F__law_under : Fd := runF 0 ["one", "other"] den__law_under
theorem hF__law_under : ∀ ds M r M', ds.length = 2 → F__law_under ds M = some (r, M') → M.length ≤ M'.length ∧ ∃ o M2, den__law_under (startD ["one", "other"] ds) M = some (o, M2) ∧ Exit o M2 r M' := runF_ok
theorem hX__law_under : ∀ ds M C M', F__law_under ds M ≠ some (.exc C, M') := runF_nx
noncomputable def den__law_is_salt : Sv :=
  (sSeq (sIf (bnd (bnd (dVar 2) fun d => bnd (bnd (dCons (ret (.int 0)) (dCons (ret (.int 1)) dNil)) oTup) fun e => oEq d e) asB) (sRet (bnd (bnd (dCons (dVar 2) dNil) oReprD) fun d => bnd (ret (.str (Str.ofString "(0, 1)"))) fun e => oEq d e)) sNext)
  (sRet (dAndV (bnd (dCons (dVar 2) dNil) (oCall 1 F__law_is_water)) (dNotV (bnd (dCons (bnd (dCons (dVar 0) (dCons (dVar 1) dNil)) (oCall 2 F__law_times)) (dCons (dVar 2) dNil)) (oCall 2 F__law_under))))))
noncomputable def F__law_is_salt : Fd := runF 0 ["full", "water", "thing"] den__law_is_salt
theorem hF__law_is_salt : ∀ ds M r M', ds.length = 3 → F__law_is_salt ds M = some (r, M') → M.length ≤ M'.length ∧ ∃ o M2, den__law_is_salt (startD ["full", "water", "thing"] ds) M = some (o, M2) ∧ Exit o M2 r M' := runF_ok
theorem hX__law_is_salt : ∀ ds M C M', F__law_is_salt ds M ≠ some (.exc C, M') := runF_nx
noncomputable def den__law_due : Sv :=
  (sSeq (sIf (dOr (dNot (bnd (bnd (dVar 1) (oIsi (fun a => kitB a "tuple") (fun _ => none))) asB)) (dOr (bnd (bnd (bnd (dCons (dVar 1) dNil) oLen) fun d => bnd (ret (.int 2)) fun e => oLt d e) asB) (dOr (dNot (bnd (bnd (bnd (dVar 1) fun d => bnd (ret (.int 0)) fun e => oIx d e) (oIsi (fun a => kitB a "str") (fun _ => none))) asB)) (dNot (bnd (bnd (dCons (bnd (dVar 1) fun d => bnd (ret (.int 1)) fun e => oIx d e) dNil) (oCall 1 F__law_whole)) asB))))) (sRet (ret (.bl false))) sNext)
  (sSeq (sIf (bnd (bnd (bnd (dVar 1) fun d => bnd (ret (.int 0)) fun e => oIx d e) fun d => bnd (ret (.str (Str.ofString "pour"))) fun e => oEq d e) asB) (sRet (dAndV (bnd (bnd (dCons (dVar 1) dNil) oLen) fun d => bnd (ret (.int 4)) fun e => oEq d e) (dAndV (bnd (dCons (bnd (dVar 1) fun d => bnd (ret (.int 2)) fun e => oIx d e) dNil) (oCall 1 F__law_is_water)) (bnd (dCons (dVar 0) (dCons (bnd (dVar 1) fun d => bnd (ret (.int 2)) fun e => oIx d e) (dCons (bnd (dVar 1) fun d => bnd (ret (.int 3)) fun e => oIx d e) dNil))) (oCall 3 F__law_is_salt))))) sNext)
  (sSeq (sIf (bnd (bnd (bnd (dVar 1) fun d => bnd (ret (.int 0)) fun e => oIx d e) fun d => bnd (ret (.str (Str.ofString "let"))) fun e => oEq d e) asB) (sRet (dAndV (bnd (bnd (dCons (dVar 1) dNil) oLen) fun d => bnd (ret (.int 3)) fun e => oEq d e) (bnd (dCons (bnd (dVar 1) fun d => bnd (ret (.int 2)) fun e => oIx d e) dNil) (oCall 1 F__law_is_water)))) sNext)
  (sSeq (sIf (bnd (bnd (bnd (dVar 1) fun d => bnd (ret (.int 0)) fun e => oIx d e) fun d => bnd (ret (.str (Str.ofString "lead"))) fun e => oEq d e) asB) (sSeq (sIf (dOr (bnd (bnd (bnd (dCons (dVar 1) dNil) oLen) fun d => bnd (ret (.int 6)) fun e => oNe d e) asB) (dOr (dNot (bnd (bnd (dCons (bnd (dVar 1) fun d => bnd (ret (.int 2)) fun e => oIx d e) dNil) (oCall 1 F__law_whole)) asB)) (dNot (bnd (bnd (dCons (bnd (dVar 1) fun d => bnd (ret (.int 3)) fun e => oIx d e) dNil) (oCall 1 F__law_is_water)) asB)))) (sRet (ret (.bl false))) sNext)
  (sRet (dAndV (bnd (bnd (dVar 1) fun d => bnd (ret (.int 4)) fun e => oIx d e) fun d => bnd (bnd (dCons (ret (.str (Str.ofString "under"))) (dCons (ret (.str (Str.ofString "over"))) dNil)) oLst) fun e => oInE d e) (bnd (bnd (dVar 1) fun d => bnd (ret (.int 5)) fun e => oIx d e) (oIsi (fun a => kitB a "bool") (fun _ => none)))))) sNext)
  (sRet (dAndV (bnd (bnd (dCons (dVar 1) dNil) oLen) fun d => bnd (ret (.int 2)) fun e => oEq d e) (bnd (bnd (dVar 1) fun d => bnd (ret (.int 0)) fun e => oIx d e) fun d => bnd (bnd (dCons (ret (.str (Str.ofString "rake"))) (dCons (ret (.str (Str.ofString "stir"))) dNil)) oLst) fun e => oInE d e)))))))
noncomputable def F__law_due : Fd := runF 0 ["full", "thing"] den__law_due
theorem hF__law_due : ∀ ds M r M', ds.length = 2 → F__law_due ds M = some (r, M') → M.length ≤ M'.length ∧ ∃ o M2, den__law_due (startD ["full", "thing"] ds) M = some (o, M2) ∧ Exit o M2 r M' := runF_ok
theorem hX__law_due : ∀ ds M C M', F__law_due ds M ≠ some (.exc C, M') := runF_nx
noncomputable def den_law_L1 : Sv :=
  (sSeq (sAsg (bnd (dCons (dVar 5) (dCons (bnd (dCons (dVar 5) (dCons (dVar 6) dNil)) (oCall 2 F__law_deed)) dNil)) (oCall 2 F__law_spoilt)) (gNm 8))
  (sIf (bnd (bnd (bnd (dCons (bnd (dCons (dVar 1) (dCons (dVar 8) dNil)) (oCall 2 F_is_deed)) dNil) oReprD) fun d => bnd (bnd (dCons (bnd (dCons (dVar 6) (dCons (dVar 8) dNil)) (oCall 2 F__law_due)) dNil) oReprD) fun e => oNeS d e) asB) (sRet (ret (.bl false))) sNext))
noncomputable def den_law_L2 : Sv :=
  (sSeq (sAsg (bnd (dCons (dVar 4) (dCons (dVar 3) dNil)) (oCall 2 F__law_pot)) (gNm 5))
  (sSeq (sAsg (bnd (dCons (dVar 5) dNil) (oCall 1 F__law_full)) (gNm 6))
  (sSeq (sAsg (bnd (dCons (dVar 6) (dCons (bnd (bnd (dCons (bnd (dCons (bnd (dCons (ret (.int 1)) (dCons (ret (.int 1)) dNil)) oTup) (dCons (bnd (dCons (ret (.int 5)) (dCons (ret (.int 1)) dNil)) oTup) dNil)) oTup) dNil) oTup) fun d => bnd (bnd (ret (.int 1)) fun d => bnd (bnd (dCons (dVar 5) (dCons (ret (.int 5)) dNil)) (oCall 2 F__law_take)) fun e => oAdd d e) fun e => oRepU d e) (dCons (bnd (dCons (bnd (dCons (bnd (dCons (ret (.int 1)) (dCons (ret (.int 1)) dNil)) oTup) (dCons (bnd (dCons (ret (.int 1)) (dCons (ret (.int 1)) dNil)) oTup) dNil)) oTup) dNil) oTup) dNil))) oTup) (gNm 1))
  (sFor (bnd (dCons (ret (.int 8)) dNil) oRng1) (gNm 7) den_law_L1))))
noncomputable def den_law_L3 : Sv :=
  (sIf (bnd (bnd (bnd (dCons (dVar 1) (dCons (bnd (dVar 2) fun d => bnd (bnd (bnd (dCons (ret (.str (Str.ofString "under"))) (dCons (ret (.bl true)) dNil)) oTup) fun d => bnd (ret none) fun l => bnd (bnd (bnd (ret (.int 2)) fun d => bnd (bnd (dCons (bnd (bnd (dVar 2) fun d => bnd (ret (.int 0)) fun e => oIx d e) fun d => bnd (ret (.str (Str.ofString "lead"))) fun e => oEq d e) dNil) oToInt) fun e => oMul d e) asI) fun u => oSl d l u) fun e => oAdd d e) dNil)) (oCall 2 F_is_deed)) fun d => bnd (ret (.bl true)) fun e => oIsnB d e) asB) (sRet (ret (.bl false))) sNext)
noncomputable def den_law : Sv :=
  (sSeq (sFor (bnd (dCons (bnd (bnd (dCons (ret (.int 0)) dNil) oLst) fun d => bnd (bnd (dCons (dVar 0) (dCons (ret (.int 20)) dNil)) (oCall 2 F__law_folded)) fun e => oAddL d e) dNil) oEnum) (gTp 2 (gCn (gNm 3) (gCn (gNm 4) gNl))) den_law_L2)
  (sSeq (sAsg (bnd (dCons (bnd (dCons (bnd (bnd (ret (.int 10)) fun d => bnd (ret (.int 30)) fun e => oPow d e) fun d => bnd (ret (.int 1)) fun e => oAdd d e) (dCons (ret (.int 7)) dNil)) (oCall 2 F_fraction)) (dCons (bnd (dCons (bnd (dCons (bnd (dCons (ret (.int 1)) (dCons (ret (.int 1)) dNil)) oTup) (dCons (bnd (dCons (ret (.int 5)) (dCons (ret (.int 1)) dNil)) oTup) dNil)) oTup) dNil) oTup) (dCons (bnd (dCons (bnd (dCons (bnd (dCons (ret (.int 1)) (dCons (ret (.int 1)) dNil)) oTup) (dCons (bnd (dCons (ret (.int 1)) (dCons (ret (.int 1)) dNil)) oTup) dNil)) oTup) dNil) oTup) dNil))) oTup) (gNm 1))
  (sSeq (sFor (bnd (bnd (dCons (bnd (dCons (ret (.str (Str.ofString "pour"))) (dCons (ret (.int 1)) (dCons (bnd (dCons (ret (.int 1)) (dCons (ret (.int 1001)) dNil)) oTup) (dCons (bnd (dCons (bnd (bnd (ret (.int 10)) fun d => bnd (ret (.int 6)) fun e => oPow d e) fun d => bnd (ret (.int 1)) fun e => oAdd d e) (dCons (ret (.int 1)) dNil)) oTup) dNil)))) oTup) (dCons (bnd (dCons (ret (.str (Str.ofString "let"))) (dCons (ret (.int 0)) (dCons (bnd (dCons (bnd (bnd (ret (.int 10)) fun d => bnd (ret (.int 30)) fun e => oPow d e) fun d => bnd (ret (.int 1)) fun e => oAdd d e) (dCons (ret (.int 7)) dNil)) oTup) dNil))) oTup) (dCons (bnd (dCons (ret (.str (Str.ofString "lead"))) (dCons (ret (.int 0)) (dCons (ret (.int 1)) (dCons (bnd (dCons (ret (.int 1)) (dCons (bnd (ret (.int 10)) fun d => bnd (ret (.int 6)) fun e => oPow d e) dNil)) oTup) dNil)))) oTup) dNil))) oLst) oItL) (gNm 2) den_law_L3)
  (sSeq (sAsg (bnd (dCons (bnd (dCons (ret (.int 1)) (dCons (ret (.int 1)) dNil)) oTup) (dCons (bnd (dCons (bnd (dCons (bnd (dCons (ret (.int 1)) (dCons (ret (.int 1)) dNil)) oTup) (dCons (bnd (dCons (ret (.int 5)) (dCons (ret (.int 1)) dNil)) oTup) dNil)) oTup) dNil) oTup) (dCons (bnd (dCons (bnd (dCons (bnd (dCons (ret (.int 1)) (dCons (ret (.int 1)) dNil)) oTup) (dCons (bnd (dCons (ret (.int 1)) (dCons (ret (.int 1)) dNil)) oTup) dNil)) oTup) dNil) oTup) dNil))) oTup) (gNm 1))
  (sRet (dAndV (bnd (bnd (dCons (dVar 1) (dCons (bnd (dCons (ret (.str (Str.ofString "lead"))) (dCons (ret (.int 7)) (dCons (bnd (ret (.int 7)) oNeg) (dCons (bnd (dCons (ret (.int 1)) (dCons (ret (.int 2)) dNil)) oTup) (dCons (ret (.str (Str.ofString "over"))) (dCons (ret (.bl false)) dNil)))))) oTup) dNil)) (oCall 2 F_is_deed)) fun d => bnd (ret (.bl true)) fun e => oIsB d e) (bnd (bnd (dCons (dVar 1) (dCons (bnd (dCons (ret (.str (Str.ofString "rake"))) (dCons (ret (.int 3)) dNil)) oTup) dNil)) (oCall 2 F_is_deed)) fun d => bnd (ret (.bl true)) fun e => oIsB d e)))))))
noncomputable def F_law : Fd := runF 0 ["script", "works", "deed", "place", "cell", "pot", "full", "turn", "thing"] den_law
theorem hF_law : ∀ ds M r M', ds.length = 1 → F_law ds M = some (r, M') → M.length ≤ M'.length ∧ ∃ o M2, den_law (startD ["script", "works", "deed", "place", "cell", "pot", "full", "turn", "thing"] ds) M = some (o, M2) ∧ Exit o M2 r M' := runF_ok
theorem hX_law : ∀ ds M C M', F_law ds M ≠ some (.exc C, M') := runF_nx
def topS (i : Nat) : Stmt := PySem.Challenge.pw_brineways_k49_deeds_judged.main.body.getD i (.Pass ⟨0, 0, 0, 0⟩)
abbrev s__law_folded : Stmt := topS 26
abbrev N__law_folded : List Str := ["script", "most", "found", "at", "cell"]
theorem S__law_folded : FnScope N__law_folded ["script", "most"] (defScope s__law_folded) := ⟨rfl, rfl, rfl, by decide +kernel, rfl, by decide +kernel, by decide +kernel⟩
abbrev s__law_pot : Stmt := topS 24
abbrev N__law_pot : List Str := ["cell", "place", "primes", "prime"]
theorem S__law_pot : FnScope N__law_pot ["cell", "place"] (defScope s__law_pot) := ⟨rfl, rfl, rfl, by decide +kernel, rfl, by decide +kernel, by decide +kernel⟩
abbrev s__law_take : Stmt := topS 25
abbrev N__law_take : List Str := ["pot", "many", "digit"]
theorem S__law_take : FnScope N__law_take ["pot", "many"] (defScope s__law_take) := ⟨rfl, rfl, rfl, by decide +kernel, rfl, by decide +kernel, by decide +kernel⟩
abbrev s__law_full : Stmt := topS 33
abbrev N__law_full : List Str := ["pot"]
theorem S__law_full : FnScope N__law_full ["pot"] (defScope s__law_full) := ⟨rfl, rfl, rfl, by decide +kernel, rfl, by decide +kernel, by decide +kernel⟩
abbrev s__law_spoilt : Stmt := topS 38
abbrev N__law_spoilt : List Str := ["pot", "deed", "way", "at", "some", "word"]
theorem S__law_spoilt : FnScope N__law_spoilt ["pot", "deed"] (defScope s__law_spoilt) := ⟨rfl, rfl, rfl, by decide +kernel, rfl, by decide +kernel, by decide +kernel⟩
abbrev s__law_low : Stmt := topS 27
abbrev N__law_low : List Str := ["a", "b", "one", "other"]
theorem S__law_low : FnScope N__law_low ["a", "b"] (defScope s__law_low) := ⟨rfl, rfl, rfl, by decide +kernel, rfl, by decide +kernel, by decide +kernel⟩
abbrev s__law_any_water : Stmt := topS 34
abbrev N__law_any_water : List Str := ["pot", "way", "some"]
theorem S__law_any_water : FnScope N__law_any_water ["pot"] (defScope s__law_any_water) := ⟨rfl, rfl, rfl, by decide +kernel, rfl, by decide +kernel, by decide +kernel⟩
abbrev s__law_any_pan : Stmt := topS 35
abbrev N__law_any_pan : List Str := ["pot"]
theorem S__law_any_pan : FnScope N__law_any_pan ["pot"] (defScope s__law_any_pan) := ⟨rfl, rfl, rfl, by decide +kernel, rfl, by decide +kernel, by decide +kernel⟩
abbrev s__law_pour : Stmt := topS 36
abbrev N__law_pour : List Str := ["pot", "full", "water", "way", "salt"]
theorem S__law_pour : FnScope N__law_pour ["pot", "full"] (defScope s__law_pour) := ⟨rfl, rfl, rfl, by decide +kernel, rfl, by decide +kernel, by decide +kernel⟩
abbrev s__law_deed : Stmt := topS 37
abbrev N__law_deed : List Str := ["pot", "full", "way", "pan", "how", "anyhow"]
theorem S__law_deed : FnScope N__law_deed ["pot", "full"] (defScope s__law_deed) := ⟨rfl, rfl, rfl, by decide +kernel, rfl, by decide +kernel, by decide +kernel⟩
abbrev s_is_whole : Stmt := topS 5
abbrev N_is_whole : List Str := ["thing"]
theorem S_is_whole : FnScope N_is_whole ["thing"] (defScope s_is_whole) := ⟨rfl, rfl, rfl, by decide +kernel, rfl, by decide +kernel, by decide +kernel⟩
abbrev s_common : Stmt := topS 6
abbrev N_common : List Str := ["a", "b"]
theorem S_common : FnScope N_common ["a", "b"] (defScope s_common) := ⟨rfl, rfl, rfl, by decide +kernel, rfl, by decide +kernel, by decide +kernel⟩
abbrev s_is_fraction : Stmt := topS 7
abbrev N_is_fraction : List Str := ["thing", "a", "b"]
theorem S_is_fraction : FnScope N_is_fraction ["thing"] (defScope s_is_fraction) := ⟨rfl, rfl, rfl, by decide +kernel, rfl, by decide +kernel, by decide +kernel⟩
abbrev s_is_less : Stmt := topS 10
abbrev N_is_less : List Str := ["one", "other", "a", "b", "c", "d"]
theorem S_is_less : FnScope N_is_less ["one", "other"] (defScope s_is_less) := ⟨rfl, rfl, rfl, by decide +kernel, rfl, by decide +kernel, by decide +kernel⟩
abbrev s_times : Stmt := topS 9
abbrev N_times : List Str := ["one", "other", "left", "right", "a", "b", "c", "d"]
theorem S_times : FnScope N_times ["one", "other"] (defScope s_times) := ⟨rfl, rfl, rfl, by decide +kernel, rfl, by decide +kernel, by decide +kernel⟩
abbrev s_is_layer : Stmt := topS 13
abbrev N_is_layer : List Str := ["full", "thing", "water", "salt"]
theorem S_is_layer : FnScope N_is_layer ["full", "thing"] (defScope s_is_layer) := ⟨rfl, rfl, rfl, by decide +kernel, rfl, by decide +kernel, by decide +kernel⟩
abbrev s_is_wet : Stmt := topS 14
abbrev N_is_wet : List Str := ["full", "water", "salt"]
theorem S_is_wet : FnScope N_is_wet ["full", "water", "salt"] (defScope s_is_wet) := ⟨rfl, rfl, rfl, by decide +kernel, rfl, by decide +kernel, by decide +kernel⟩
abbrev s_is_pouring : Stmt := topS 16
abbrev N_is_pouring : List Str := ["full", "rest"]
theorem S_is_pouring : FnScope N_is_pouring ["full", "rest"] (defScope s_is_pouring) := ⟨rfl, rfl, rfl, by decide +kernel, rfl, by decide +kernel, by decide +kernel⟩
abbrev s_is_positive : Stmt := topS 11
abbrev N_is_positive : List Str := ["thing"]
theorem S_is_positive : FnScope N_is_positive ["thing"] (defScope s_is_positive) := ⟨rfl, rfl, rfl, by decide +kernel, rfl, by decide +kernel, by decide +kernel⟩
abbrev s_is_way : Stmt := topS 18
abbrev N_is_way : List Str := ["thing"]
theorem S_is_way : FnScope N_is_way ["thing"] (defScope s_is_way) := ⟨rfl, rfl, rfl, by decide +kernel, rfl, by decide +kernel, by decide +kernel⟩
abbrev s_is_leading : Stmt := topS 17
abbrev N_is_leading : List Str := ["full", "rest", "water", "how", "anyhow"]
theorem S_is_leading : FnScope N_is_leading ["full", "rest"] (defScope s_is_leading) := ⟨rfl, rfl, rfl, by decide +kernel, rfl, by decide +kernel, by decide +kernel⟩
abbrev s_is_letting : Stmt := topS 19
abbrev N_is_letting : List Str := ["full", "rest"]
theorem S_is_letting : FnScope N_is_letting ["full", "rest"] (defScope s_is_letting) := ⟨rfl, rfl, rfl, by decide +kernel, rfl, by decide +kernel, by decide +kernel⟩
abbrev s_is_at_pan : Stmt := topS 20
abbrev N_is_at_pan : List Str := ["full", "rest"]
theorem S_is_at_pan : FnScope N_is_at_pan ["full", "rest"] (defScope s_is_at_pan) := ⟨rfl, rfl, rfl, by decide +kernel, rfl, by decide +kernel, by decide +kernel⟩
abbrev s_is_deed : Stmt := topS 22
abbrev N_is_deed : List Str := ["works", "thing", "form"]
theorem S_is_deed : FnScope N_is_deed ["works", "thing"] (defScope s_is_deed) := ⟨rfl, rfl, rfl, by decide +kernel, rfl, by decide +kernel, by decide +kernel⟩
abbrev s__law_whole : Stmt := topS 39
abbrev N__law_whole : List Str := ["thing"]
theorem S__law_whole : FnScope N__law_whole ["thing"] (defScope s__law_whole) := ⟨rfl, rfl, rfl, by decide +kernel, rfl, by decide +kernel, by decide +kernel⟩
abbrev s__law_is_water : Stmt := topS 40
abbrev N__law_is_water : List Str := ["thing"]
theorem S__law_is_water : FnScope N__law_is_water ["thing"] (defScope s__law_is_water) := ⟨rfl, rfl, rfl, by decide +kernel, rfl, by decide +kernel, by decide +kernel⟩
abbrev s__law_under : Stmt := topS 32
abbrev N__law_under : List Str := ["one", "other"]
theorem S__law_under : FnScope N__law_under ["one", "other"] (defScope s__law_under) := ⟨rfl, rfl, rfl, by decide +kernel, rfl, by decide +kernel, by decide +kernel⟩
abbrev s__law_times : Stmt := topS 30
abbrev N__law_times : List Str := ["one", "other"]
theorem S__law_times : FnScope N__law_times ["one", "other"] (defScope s__law_times) := ⟨rfl, rfl, rfl, by decide +kernel, rfl, by decide +kernel, by decide +kernel⟩
abbrev s__law_is_salt : Stmt := topS 41
abbrev N__law_is_salt : List Str := ["full", "water", "thing"]
theorem S__law_is_salt : FnScope N__law_is_salt ["full", "water", "thing"] (defScope s__law_is_salt) := ⟨rfl, rfl, rfl, by decide +kernel, rfl, by decide +kernel, by decide +kernel⟩
abbrev s__law_due : Stmt := topS 42
abbrev N__law_due : List Str := ["full", "thing"]
theorem S__law_due : FnScope N__law_due ["full", "thing"] (defScope s__law_due) := ⟨rfl, rfl, rfl, by decide +kernel, rfl, by decide +kernel, by decide +kernel⟩
abbrev s_fraction : Stmt := topS 8
abbrev N_fraction : List Str := ["a", "b", "shared"]
theorem S_fraction : FnScope N_fraction ["a", "b"] (defScope s_fraction) := ⟨rfl, rfl, rfl, by decide +kernel, rfl, by decide +kernel, by decide +kernel⟩
abbrev s_law : Stmt := topS 43
abbrev N_law : List Str := ["script", "works", "deed", "place", "cell", "pot", "full", "turn", "thing"]
theorem S_law : FnScope N_law ["script"] (defScope s_law) := ⟨rfl, rfl, rfl, by decide +kernel, rfl, by decide +kernel, by decide +kernel⟩
set_option maxHeartbeats 0 in
structure Top (w : World) (K : PySem.W.Frag) (mg : Str → Option Value) where
  a__law_folded : Addr
  fd__law_folded : FuncData
  F__law_folded : Fun K "_law_folded" "_law_folded" s__law_folded a__law_folded fd__law_folded
  b__law_folded : Binds K fd__law_folded ["script", "most"] []
  g__law_folded : mg "_law_folded" = some (.ref a__law_folded)
  a__law_pot : Addr
  fd__law_pot : FuncData
  F__law_pot : Fun K "_law_pot" "_law_pot" s__law_pot a__law_pot fd__law_pot
  b__law_pot : Binds K fd__law_pot ["cell", "place"] []
  g__law_pot : mg "_law_pot" = some (.ref a__law_pot)
  a__law_take : Addr
  fd__law_take : FuncData
  F__law_take : Fun K "_law_take" "_law_take" s__law_take a__law_take fd__law_take
  b__law_take : Binds K fd__law_take ["pot", "many"] []
  g__law_take : mg "_law_take" = some (.ref a__law_take)
  a__law_full : Addr
  fd__law_full : FuncData
  F__law_full : Fun K "_law_full" "_law_full" s__law_full a__law_full fd__law_full
  b__law_full : Binds K fd__law_full ["pot"] []
  g__law_full : mg "_law_full" = some (.ref a__law_full)
  a__law_spoilt : Addr
  fd__law_spoilt : FuncData
  F__law_spoilt : Fun K "_law_spoilt" "_law_spoilt" s__law_spoilt a__law_spoilt fd__law_spoilt
  b__law_spoilt : Binds K fd__law_spoilt ["pot", "deed"] []
  g__law_spoilt : mg "_law_spoilt" = some (.ref a__law_spoilt)
  a__law_low : Addr
  fd__law_low : FuncData
  F__law_low : Fun K "_law_low" "_law_low" s__law_low a__law_low fd__law_low
  b__law_low : Binds K fd__law_low ["a", "b"] []
  g__law_low : mg "_law_low" = some (.ref a__law_low)
  a__law_any_water : Addr
  fd__law_any_water : FuncData
  F__law_any_water : Fun K "_law_any_water" "_law_any_water" s__law_any_water a__law_any_water fd__law_any_water
  b__law_any_water : Binds K fd__law_any_water ["pot"] []
  g__law_any_water : mg "_law_any_water" = some (.ref a__law_any_water)
  a__law_any_pan : Addr
  fd__law_any_pan : FuncData
  F__law_any_pan : Fun K "_law_any_pan" "_law_any_pan" s__law_any_pan a__law_any_pan fd__law_any_pan
  b__law_any_pan : Binds K fd__law_any_pan ["pot"] []
  g__law_any_pan : mg "_law_any_pan" = some (.ref a__law_any_pan)
  a__law_pour : Addr
  fd__law_pour : FuncData
  F__law_pour : Fun K "_law_pour" "_law_pour" s__law_pour a__law_pour fd__law_pour
  b__law_pour : Binds K fd__law_pour ["pot", "full"] []
  g__law_pour : mg "_law_pour" = some (.ref a__law_pour)
  a__law_deed : Addr
  fd__law_deed : FuncData
  F__law_deed : Fun K "_law_deed" "_law_deed" s__law_deed a__law_deed fd__law_deed
  b__law_deed : Binds K fd__law_deed ["pot", "full"] []
  g__law_deed : mg "_law_deed" = some (.ref a__law_deed)
  a_is_whole : Addr
  fd_is_whole : FuncData
  F_is_whole : Fun K "is_whole" "is_whole" s_is_whole a_is_whole fd_is_whole
  b_is_whole : Binds K fd_is_whole ["thing"] []
  g_is_whole : mg "is_whole" = some (.ref a_is_whole)
  a_common : Addr
  fd_common : FuncData
  F_common : Fun K "common" "common" s_common a_common fd_common
  b_common : Binds K fd_common ["a", "b"] []
  g_common : mg "common" = some (.ref a_common)
  a_is_fraction : Addr
  fd_is_fraction : FuncData
  F_is_fraction : Fun K "is_fraction" "is_fraction" s_is_fraction a_is_fraction fd_is_fraction
  b_is_fraction : Binds K fd_is_fraction ["thing"] []
  g_is_fraction : mg "is_fraction" = some (.ref a_is_fraction)
  a_is_less : Addr
  fd_is_less : FuncData
  F_is_less : Fun K "is_less" "is_less" s_is_less a_is_less fd_is_less
  b_is_less : Binds K fd_is_less ["one", "other"] []
  g_is_less : mg "is_less" = some (.ref a_is_less)
  a_times : Addr
  fd_times : FuncData
  F_times : Fun K "times" "times" s_times a_times fd_times
  b_times : Binds K fd_times ["one", "other"] []
  g_times : mg "times" = some (.ref a_times)
  a_is_layer : Addr
  fd_is_layer : FuncData
  F_is_layer : Fun K "is_layer" "is_layer" s_is_layer a_is_layer fd_is_layer
  b_is_layer : Binds K fd_is_layer ["full", "thing"] []
  g_is_layer : mg "is_layer" = some (.ref a_is_layer)
  a_is_wet : Addr
  fd_is_wet : FuncData
  F_is_wet : Fun K "is_wet" "is_wet" s_is_wet a_is_wet fd_is_wet
  b_is_wet : Binds K fd_is_wet ["full", "water", "salt"] []
  g_is_wet : mg "is_wet" = some (.ref a_is_wet)
  a_is_pouring : Addr
  fd_is_pouring : FuncData
  F_is_pouring : Fun K "is_pouring" "is_pouring" s_is_pouring a_is_pouring fd_is_pouring
  b_is_pouring : Binds K fd_is_pouring ["full", "rest"] []
  g_is_pouring : mg "is_pouring" = some (.ref a_is_pouring)
  a_is_positive : Addr
  fd_is_positive : FuncData
  F_is_positive : Fun K "is_positive" "is_positive" s_is_positive a_is_positive fd_is_positive
  b_is_positive : Binds K fd_is_positive ["thing"] []
  g_is_positive : mg "is_positive" = some (.ref a_is_positive)
  a_is_way : Addr
  fd_is_way : FuncData
  F_is_way : Fun K "is_way" "is_way" s_is_way a_is_way fd_is_way
  b_is_way : Binds K fd_is_way ["thing"] []
  g_is_way : mg "is_way" = some (.ref a_is_way)
  a_is_leading : Addr
  fd_is_leading : FuncData
  F_is_leading : Fun K "is_leading" "is_leading" s_is_leading a_is_leading fd_is_leading
  b_is_leading : Binds K fd_is_leading ["full", "rest"] []
  g_is_leading : mg "is_leading" = some (.ref a_is_leading)
  a_is_letting : Addr
  fd_is_letting : FuncData
  F_is_letting : Fun K "is_letting" "is_letting" s_is_letting a_is_letting fd_is_letting
  b_is_letting : Binds K fd_is_letting ["full", "rest"] []
  g_is_letting : mg "is_letting" = some (.ref a_is_letting)
  a_is_at_pan : Addr
  fd_is_at_pan : FuncData
  F_is_at_pan : Fun K "is_at_pan" "is_at_pan" s_is_at_pan a_is_at_pan fd_is_at_pan
  b_is_at_pan : Binds K fd_is_at_pan ["full", "rest"] []
  g_is_at_pan : mg "is_at_pan" = some (.ref a_is_at_pan)
  a_is_deed : Addr
  fd_is_deed : FuncData
  F_is_deed : Fun K "is_deed" "is_deed" s_is_deed a_is_deed fd_is_deed
  b_is_deed : Binds K fd_is_deed ["works", "thing"] []
  g_is_deed : mg "is_deed" = some (.ref a_is_deed)
  a__law_whole : Addr
  fd__law_whole : FuncData
  F__law_whole : Fun K "_law_whole" "_law_whole" s__law_whole a__law_whole fd__law_whole
  b__law_whole : Binds K fd__law_whole ["thing"] []
  g__law_whole : mg "_law_whole" = some (.ref a__law_whole)
  a__law_is_water : Addr
  fd__law_is_water : FuncData
  F__law_is_water : Fun K "_law_is_water" "_law_is_water" s__law_is_water a__law_is_water fd__law_is_water
  b__law_is_water : Binds K fd__law_is_water ["thing"] []
  g__law_is_water : mg "_law_is_water" = some (.ref a__law_is_water)
  a__law_under : Addr
  fd__law_under : FuncData
  F__law_under : Fun K "_law_under" "_law_under" s__law_under a__law_under fd__law_under
  b__law_under : Binds K fd__law_under ["one", "other"] []
  g__law_under : mg "_law_under" = some (.ref a__law_under)
  a__law_times : Addr
  fd__law_times : FuncData
  F__law_times : Fun K "_law_times" "_law_times" s__law_times a__law_times fd__law_times
  b__law_times : Binds K fd__law_times ["one", "other"] []
  g__law_times : mg "_law_times" = some (.ref a__law_times)
  a__law_is_salt : Addr
  fd__law_is_salt : FuncData
  F__law_is_salt : Fun K "_law_is_salt" "_law_is_salt" s__law_is_salt a__law_is_salt fd__law_is_salt
  b__law_is_salt : Binds K fd__law_is_salt ["full", "water", "thing"] []
  g__law_is_salt : mg "_law_is_salt" = some (.ref a__law_is_salt)
  a__law_due : Addr
  fd__law_due : FuncData
  F__law_due : Fun K "_law_due" "_law_due" s__law_due a__law_due fd__law_due
  b__law_due : Binds K fd__law_due ["full", "thing"] []
  g__law_due : mg "_law_due" = some (.ref a__law_due)
  a_fraction : Addr
  fd_fraction : FuncData
  F_fraction : Fun K "fraction" "fraction" s_fraction a_fraction fd_fraction
  b_fraction : Binds K fd_fraction ["a", "b"] []
  g_fraction : mg "fraction" = some (.ref a_fraction)
  a_law : Addr
  fd_law : FuncData
  F_law : Fun K "law" "law" s_law a_law fd_law
  b_law : Binds K fd_law ["script"] []
  g_law : mg "law" = some (.ref a_law)
  z_abs : mg "abs" = none
  z_bool : mg "bool" = none
  z_enumerate : mg "enumerate" = none
  z_int : mg "int" = none
  z_isinstance : mg "isinstance" = none
  z_len : mg "len" = none
  z_list : mg "list" = none
  z_max : mg "max" = none
  z_range : mg "range" = none
  z_repr : mg "repr" = none
  z_str : mg "str" = none
  z_tuple : mg "tuple" = none
  c_NOUGHT : Addr
  g_NOUGHT : mg "NOUGHT" = some (.ref c_NOUGHT)
  r_NOUGHT : ∀ G, Rp K G (.ref c_NOUGHT) C_NOUGHT
  c_FORMS : Addr
  g_FORMS : mg "FORMS" = some (.ref c_FORMS)
  dw_FORMS : He.dicW K c_FORMS = some (He.keysIn w.params ["pour", "lead", "let", "rake", "stir"])
  hv_FORMS_pour : PySem.W.nsIn K c_FORMS "pour" = some (some (.ref a_is_pouring))
  hv_FORMS_lead : PySem.W.nsIn K c_FORMS "lead" = some (some (.ref a_is_leading))
  hv_FORMS_let : PySem.W.nsIn K c_FORMS "let" = some (some (.ref a_is_letting))
  hv_FORMS_rake : PySem.W.nsIn K c_FORMS "rake" = some (some (.ref a_is_at_pan))
  hv_FORMS_stir : PySem.W.nsIn K c_FORMS "stir" = some (some (.ref a_is_at_pan))
  ms_FORMS_0 : PySem.W.nsIn K c_FORMS "Rake" = some none
  ms_FORMS_1 : PySem.W.nsIn K c_FORMS "" = some none
  ms_FORMS_2 : PySem.W.nsIn K c_FORMS "stirs" = some none
  ms_FORMS_3 : PySem.W.nsIn K c_FORMS "0" = some none
  ms_FORMS_4 : PySem.W.nsIn K c_FORMS "under" = some none
  ms_FORMS_5 : PySem.W.nsIn K c_FORMS "over" = some none
  ms_FORMS_6 : PySem.W.nsIn K c_FORMS "Over" = some none
  ms_FORMS_7 : PySem.W.nsIn K c_FORMS "under " = some none
  c_NoFraction : Addr
  n_NoFraction : PySem.W.nsIn K mainGlobals "NoFraction" = some (some (.ref c_NoFraction))
  g_NoFraction : mg "NoFraction" = some (.ref c_NoFraction)
  x_NoFraction : ExcC K c_NoFraction
  hd_NoFraction : PySem.W.hasDictIn K c_NoFraction = true
  b_NoFraction : PySem.W.subIn K (.ref c_NoFraction) (.type "BaseException") = some true
  t_NoFraction : PySem.W.typeIn K (.ref c_NoFraction) = some (.type "type")
  q_NoFraction : PySem.W.excIn K c_NoFraction [.type "ValueError", .type "Exception", .type "BaseException", .type "object"] "ValueError.__new__" = true
  k_NoFraction : PySem.W.keepIn K (.ref c_NoFraction) = true
section
variable {P : Program} {w : World} {K : PySem.W.Frag} {mg : Str → Option Value} {base : Heap}
set_option maxHeartbeats 4000000 in
theorem ok__law_folded (T : Top w K mg) : GOk P w K mg base CX0 1 T.a__law_folded T.fd__law_folded ["script", "most"] (spF K mg 2 F__law_folded) :=
  fn_okG (k := 0) (fb := den__law_folded) T.F__law_folded S__law_folded rfl (fun cdv A outer s H E hr => 
  (dss_cons (ds_set 2 S__law_folded.nd (de_lstN T.z_list (da_cons (de_slice (de_var 0) do_none (do_some (de_var 1))) da_nil)))
  (dss_cons (ds_for PassesOwn.never (di_enum T.z_enumerate (da_cons (de_slice (de_var 0) (do_some (de_var 1)) do_none) da_nil)) (dg_tup rfl (dgs_cons (dg_name 3 S__law_folded.nd) (dgs_cons (dg_name 4 S__law_folded.nd) dgs_nil))) (dss_one (ds_store (de_add (de_ix (de_var 2) (de_mod (de_var 3) (de_var 1))) (de_var 4)) (de_var 2) (de_mod (de_var 3) (de_var 1)))))
  (dss_one (ds_ret (de_var 2)))))) hF__law_folded hX__law_folded
set_option maxHeartbeats 4000000 in
theorem ok__law_pot (T : Top w K mg) : GOk P w K mg base CX0 1 T.a__law_pot T.fd__law_pot ["cell", "place"] (spF K mg 2 F__law_pot) :=
  fn_okG (k := 0) (fb := den__law_pot) T.F__law_pot S__law_pot rfl (fun cdv A outer s H E hr => 
  (dss_cons (ds_set 2 S__law_pot.nd (de_lst (da_cons de_int (da_cons de_int (da_cons de_int (da_cons de_int (da_cons de_int (da_cons de_int (da_cons de_int (da_cons de_int da_nil))))))))))
  (dss_cons (ds_set 3 S__law_pot.nd (de_ix (de_var 2) (de_mod (de_var 1) de_int)))
  (dss_one (ds_ret (de_lstM (da_cons (de_max rfl T.z_max (da_cons de_int (da_cons (de_sub (de_var 0) (de_pow de_int de_int)) da_nil))) (da_cons (de_mod (de_pow (de_add (de_add (de_mod (de_var 0) de_int) (de_mul de_int (de_var 1))) de_int) de_int) (de_var 3)) (da_cons de_int da_nil))))))))) hF__law_pot hX__law_pot
set_option maxHeartbeats 4000000 in
theorem ok__law_take (T : Top w K mg) : GOk P w K mg base CX0 1 T.a__law_take T.fd__law_take ["pot", "many"] (spF K mg 2 F__law_take) :=
  fn_okG (k := 0) (fb := den__law_take) T.F__law_take S__law_take rfl (fun cdv A outer s H E hr => 
  (dss_cons (ds_if (dt_gt (de_ix (de_var 0) de_int) de_int) (dss_cons (ds_set 2 S__law_take.nd (de_mod (de_ix (de_var 0) de_int) (de_var 1)))
  (dss_cons (ds_store (de_div (de_ix (de_var 0) de_int) (de_var 1)) (de_var 0) de_int)
  (dss_one (ds_ret (de_var 2))))) dss_nil)
  (dss_cons (ds_store (de_add (de_ix (de_var 0) de_int) de_int) (de_var 0) de_int)
  (dss_cons (ds_store (de_mod (de_add (de_add (de_mul (de_ix (de_var 0) de_int) de_int) (de_mul (de_mul de_int (de_ix (de_var 0) de_int)) (de_ix (de_var 0) de_int))) de_int) de_int) (de_var 0) de_int)
  (dss_one (ds_ret (de_mod (de_div (de_mod (de_pow (de_ix (de_var 0) de_int) de_int) de_int) de_int) (de_var 1)))))))) hF__law_take hX__law_take
set_option maxHeartbeats 4000000 in
theorem ok__law_full (T : Top w K mg) : GOk P w K mg base CX0 2 T.a__law_full T.fd__law_full ["pot"] (spF K mg 1 F__law_full) :=
  fn_okG (k := 1) (fb := den__law_full) T.F__law_full S__law_full rfl (fun cdv A outer s H E hr => 
  (dss_one (ds_ret (de_ix (de_lst (da_cons (de_tup (da_cons de_int (da_cons de_int da_nil))) (da_cons (de_tup (da_cons de_int (da_cons de_int da_nil))) (da_cons (de_tup (da_cons de_int (da_cons de_int da_nil))) (da_cons (de_tup (da_cons de_int (da_cons de_int da_nil))) (da_cons (de_tup (da_cons de_int (da_cons de_int da_nil))) (da_cons (de_tup (da_cons de_int (da_cons de_int da_nil))) da_nil))))))) (de_callG wok0 (ok__law_take T) (hr.mono (by decide)) T.g__law_take T.F__law_take.kp T.b__law_take (fun _ => pass_0) (da_cons (de_var 0) (da_cons de_int da_nil))))))) hF__law_full hX__law_full
set_option maxHeartbeats 4000000 in
theorem ok__law_spoilt (T : Top w K mg) : GOk P w K mg base CX0 2 T.a__law_spoilt T.fd__law_spoilt ["pot", "deed"] (spF K mg 2 F__law_spoilt) :=
  fn_okG (k := 1) (fb := den__law_spoilt) T.F__law_spoilt S__law_spoilt rfl (fun cdv A outer s H E hr => 
  (dss_cons (ds_set 2 S__law_spoilt.nd (de_callG wok0 (ok__law_take T) (hr.mono (by decide)) T.g__law_take T.F__law_take.kp T.b__law_take (fun _ => pass_0) (da_cons (de_var 0) (da_cons de_int da_nil))))
  (dss_cons (ds_set 3 S__law_spoilt.nd (de_callG wok0 (ok__law_take T) (hr.mono (by decide)) T.g__law_take T.F__law_take.kp T.b__law_take (fun _ => pass_0) (da_cons (de_var 0) (da_cons (de_len T.z_len (da_cons (de_var 1) da_nil)) da_nil))))
  (dss_cons (ds_set 4 S__law_spoilt.nd (de_lst (da_cons de_str (da_cons de_str (da_cons de_str (da_cons de_str (da_cons de_str (da_cons de_str (da_cons de_str (da_cons de_str (da_cons de_non (da_cons de_int (da_cons de_bl (da_cons (de_tup (da_cons de_str da_nil)) (da_cons (de_lst da_nil) (da_cons de_emp (da_cons (de_lst (da_cons de_int da_nil)) da_nil)))))))))))))))))
  (dss_cons (ds_set 5 S__law_spoilt.nd (de_ix (de_var 4) (de_callG wok0 (ok__law_take T) (hr.mono (by decide)) T.g__law_take T.F__law_take.kp T.b__law_take (fun _ => pass_0) (da_cons (de_var 0) (da_cons de_int da_nil)))))
  (dss_cons (ds_if (dt_eq hr.units (de_var 2) de_int) (dss_one (ds_ret (de_add (de_slice (de_var 1) do_none (do_some (de_var 3))) (de_slice (de_var 1) (do_some (de_add (de_var 3) de_int)) do_none)))) dss_nil)
  (dss_cons (ds_if (dt_eq hr.units (de_var 2) de_int) (dss_one (ds_ret (de_add (de_slice (de_var 1) do_none (do_some (de_add (de_var 3) de_int))) (de_slice (de_var 1) (do_some (de_var 3)) do_none)))) dss_nil)
  (dss_cons (ds_if (dt_eq hr.units (de_var 2) de_int) (dss_one (ds_ret (de_lstOf T.z_list (da_cons (de_var 1) da_nil)))) dss_nil)
  (dss_cons (ds_if (dt_eq hr.units (de_var 2) de_int) (dss_one (ds_ret (de_add (de_tup (da_cons (de_var 5) da_nil)) (de_slice (de_var 1) (do_some de_int) do_none)))) dss_nil)
  (dss_cons (ds_if (dt_eq hr.units (de_var 2) de_int) (dss_one (ds_ret (de_ix (de_lst (da_cons de_non (da_cons (de_tup da_nil) (da_cons de_str (da_cons de_int (da_cons de_emp (da_cons de_bl (da_cons (de_lst da_nil) (da_cons (de_tup (da_cons de_str da_nil)) da_nil))))))))) (de_callG wok0 (ok__law_take T) (hr.mono (by decide)) T.g__law_take T.F__law_take.kp T.b__law_take (fun _ => pass_0) (da_cons (de_var 0) (da_cons de_int da_nil)))))) dss_nil)
  (dss_one (ds_ret (de_var 1))))))))))))) hF__law_spoilt hX__law_spoilt
set_option maxHeartbeats 4000000 in
theorem ok__law_low (T : Top w K mg) : GOk P w K mg base CX0 1 T.a__law_low T.fd__law_low ["a", "b"] (spF K mg 2 F__law_low) :=
  fn_okG (k := 0) (fb := den__law_low) T.F__law_low S__law_low rfl (fun cdv A outer s H E hr => 
  (dss_cons (ds_par 2 3 S__law_low.nd (da_cons (de_abs T.z_abs (da_cons (de_var 0) da_nil)) (da_cons (de_abs T.z_abs (da_cons (de_var 1) da_nil)) da_nil)))
  (dss_cons (ds_while PassesOwn.never (dt_gt (de_var 3) de_int) (dss_one (ds_par 2 3 S__law_low.nd (da_cons (de_var 3) (da_cons (de_mod (de_var 2) (de_var 3)) da_nil)))))
  (dss_cons (ds_if (dt_lt (de_var 1) de_int) (dss_one (ds_set 2 S__law_low.nd (de_sub de_int (de_var 2)))) dss_nil)
  (dss_one (ds_ret (de_tup (da_cons (de_div (de_var 0) (de_var 2)) (da_cons (de_div (de_var 1) (de_var 2)) da_nil))))))))) hF__law_low hX__law_low
set_option maxHeartbeats 4000000 in
theorem ok__law_any_water (T : Top w K mg) : GOk P w K mg base CX0 2 T.a__law_any_water T.fd__law_any_water ["pot"] (spF K mg 1 F__law_any_water) :=
  fn_okG (k := 1) (fb := den__law_any_water) T.F__law_any_water S__law_any_water rfl (fun cdv A outer s H E hr => 
  (dss_cons (ds_set 1 S__law_any_water.nd (de_callG wok0 (ok__law_take T) (hr.mono (by decide)) T.g__law_take T.F__law_take.kp T.b__law_take (fun _ => pass_0) (da_cons (de_var 0) (da_cons de_int da_nil))))
  (dss_cons (ds_set 2 S__law_any_water.nd (de_callG wok0 (ok__law_low T) (hr.mono (by decide)) T.g__law_low T.F__law_low.kp T.b__law_low (fun _ => pass_0) (da_cons (de_add de_int (de_callG wok0 (ok__law_take T) (hr.mono (by decide)) T.g__law_take T.F__law_take.kp T.b__law_take (fun _ => pass_0) (da_cons (de_var 0) (da_cons de_int da_nil)))) (da_cons (de_add de_int (de_callG wok0 (ok__law_take T) (hr.mono (by decide)) T.g__law_take T.F__law_take.kp T.b__law_take (fun _ => pass_0) (da_cons (de_var 0) (da_cons de_int da_nil)))) da_nil))))
  (dss_one (ds_ret (de_ix (de_lst (da_cons (de_tup (da_cons de_int (da_cons de_int da_nil))) (da_cons (de_tup (da_cons (de_neg de_int) (da_cons de_int da_nil))) (da_cons (de_tup (da_cons de_int (da_cons de_int da_nil))) (da_cons (de_tup (da_cons de_int (da_cons de_int da_nil))) (da_cons de_int (da_cons (de_tup (da_cons de_int (da_cons (de_neg de_int) da_nil))) (da_cons (de_var 2) (da_cons (de_var 2) (da_cons (de_var 2) (da_cons (de_var 2) da_nil))))))))))) (de_var 1))))))) hF__law_any_water hX__law_any_water
set_option maxHeartbeats 4000000 in
theorem ok__law_any_pan (T : Top w K mg) : GOk P w K mg base CX0 2 T.a__law_any_pan T.fd__law_any_pan ["pot"] (spF K mg 1 F__law_any_pan) :=
  fn_okG (k := 1) (fb := den__law_any_pan) T.F__law_any_pan S__law_any_pan rfl (fun cdv A outer s H E hr => 
  (dss_one (ds_ret (de_ix (de_lst (da_cons de_int (da_cons de_int (da_cons de_int (da_cons de_int (da_cons (de_neg de_int) (da_cons (de_pow de_int de_int) (da_cons de_bl (da_cons de_bl (da_cons de_non (da_cons de_str (da_cons (de_tup (da_cons de_int da_nil)) (da_cons de_int da_nil))))))))))))) (de_callG wok0 (ok__law_take T) (hr.mono (by decide)) T.g__law_take T.F__law_take.kp T.b__law_take (fun _ => pass_0) (da_cons (de_var 0) (da_cons de_int da_nil))))))) hF__law_any_pan hX__law_any_pan
set_option maxHeartbeats 4000000 in
theorem ok__law_pour (T : Top w K mg) : GOk P w K mg base CX0 3 T.a__law_pour T.fd__law_pour ["pot", "full"] (spF K mg 2 F__law_pour) :=
  fn_okG (k := 2) (fb := den__law_pour) T.F__law_pour S__law_pour rfl (fun cdv A outer s H E hr => 
  (dss_cons (ds_set 2 S__law_pour.nd (de_callG wok0 (ok__law_any_water T) (hr.mono (by decide)) T.g__law_any_water T.F__law_any_water.kp T.b__law_any_water (fun _ => pass_0) (da_cons (de_var 0) da_nil)))
  (dss_cons (ds_set 3 S__law_pour.nd (de_callG wok0 (ok__law_take T) (hr.mono (by decide)) T.g__law_take T.F__law_take.kp T.b__law_take (fun _ => pass_0) (da_cons (de_var 0) (da_cons de_int da_nil))))
  (dss_cons (ds_set 4 S__law_pour.nd (de_callG wok0 (ok__law_any_water T) (hr.mono (by decide)) T.g__law_any_water T.F__law_any_water.kp T.b__law_any_water (fun _ => pass_0) (da_cons (de_var 0) da_nil)))
  (dss_cons (ds_if (DW.dt (dw_and (dt_lt (de_var 3) de_int) (dw_and (dt_val (de_isi (pe_bltn (v := .ty "tuple") (u := .type "tuple") rfl T.z_tuple (by decide +kernel) rfl) (ClsV.ty "tuple") isi_ty T.z_isinstance (de_var 2))) (dw_and1 (dt_gt (de_ix (de_var 2) de_int) de_int))))) (dss_one (ds_set 4 S__law_pour.nd (de_callG wok0 (ok__law_low T) (hr.mono (by decide)) T.g__law_low T.F__law_low.kp T.b__law_low (fun _ => pass_0) (da_cons (de_mul (de_mul (de_ix (de_var 1) de_int) (de_ix (de_var 2) de_int)) (de_ix (de_lst (da_cons de_int (da_cons de_int (da_cons de_int (da_cons de_int da_nil))))) (de_var 3))) (da_cons (de_mul (de_mul (de_ix (de_var 1) de_int) (de_ix (de_var 2) de_int)) de_int) da_nil))))) dss_nil)
  (dss_one (ds_ret (de_tup (da_cons de_str (da_cons (de_callG wok0 (ok__law_any_pan T) (hr.mono (by decide)) T.g__law_any_pan T.F__law_any_pan.kp T.b__law_any_pan (fun _ => pass_0) (da_cons (de_var 0) da_nil)) (da_cons (de_var 2) (da_cons (de_var 4) da_nil)))))))))))) hF__law_pour hX__law_pour
set_option maxHeartbeats 4000000 in
theorem ok__law_deed (T : Top w K mg) : GOk P w K mg base CX0 4 T.a__law_deed T.fd__law_deed ["pot", "full"] (spF K mg 2 F__law_deed) :=
  fn_okG (k := 3) (fb := den__law_deed) T.F__law_deed S__law_deed rfl (fun cdv A outer s H E hr => 
  (dss_cons (ds_set 2 S__law_deed.nd (de_callG wok0 (ok__law_take T) (hr.mono (by decide)) T.g__law_take T.F__law_take.kp T.b__law_take (fun _ => pass_0) (da_cons (de_var 0) (da_cons de_int da_nil))))
  (dss_cons (ds_if (dt_lt (de_var 2) de_int) (dss_one (ds_ret (de_callG wok0 (ok__law_pour T) (hr.mono (by decide)) T.g__law_pour T.F__law_pour.kp T.b__law_pour (fun _ => pass_0) (da_cons (de_var 0) (da_cons (de_var 1) da_nil))))) dss_nil)
  (dss_cons (ds_set 3 S__law_deed.nd (de_callG wok0 (ok__law_any_pan T) (hr.mono (by decide)) T.g__law_any_pan T.F__law_any_pan.kp T.b__law_any_pan (fun _ => pass_0) (da_cons (de_var 0) da_nil)))
  (dss_cons (ds_if (dt_lt (de_var 2) de_int) (dss_cons (ds_set 4 S__law_deed.nd (de_ix (de_lst (da_cons de_str (da_cons de_str (da_cons de_str (da_cons de_str (da_cons de_str (da_cons de_non (da_cons de_int (da_cons de_str (da_cons (de_lst da_nil) (da_cons de_emp da_nil))))))))))) (de_callG wok0 (ok__law_take T) (hr.mono (by decide)) T.g__law_take T.F__law_take.kp T.b__law_take (fun _ => pass_0) (da_cons (de_var 0) (da_cons de_int da_nil)))))
  (dss_cons (ds_set 5 S__law_deed.nd (de_ix (de_lst (da_cons de_bl (da_cons de_bl (da_cons de_int (da_cons de_int (da_cons de_non (da_cons de_bl da_nil))))))) (de_callG wok0 (ok__law_take T) (hr.mono (by decide)) T.g__law_take T.F__law_take.kp T.b__law_take (fun _ => pass_0) (da_cons (de_var 0) (da_cons de_int da_nil)))))
  (dss_one (ds_ret (de_tup (da_cons de_str (da_cons (de_var 3) (da_cons (de_callG wok0 (ok__law_any_pan T) (hr.mono (by decide)) T.g__law_any_pan T.F__law_any_pan.kp T.b__law_any_pan (fun _ => pass_0) (da_cons (de_var 0) da_nil)) (da_cons (de_callG wok0 (ok__law_any_water T) (hr.mono (by decide)) T.g__law_any_water T.F__law_any_water.kp T.b__law_any_water (fun _ => pass_0) (da_cons (de_var 0) da_nil)) (da_cons (de_var 4) (da_cons (de_var 5) da_nil))))))))))) dss_nil)
  (dss_cons (ds_if (dt_eq hr.units (de_var 2) de_int) (dss_one (ds_ret (de_tup (da_cons de_str (da_cons (de_var 3) (da_cons (de_callG wok0 (ok__law_any_water T) (hr.mono (by decide)) T.g__law_any_water T.F__law_any_water.kp T.b__law_any_water (fun _ => pass_0) (da_cons (de_var 0) da_nil)) da_nil)))))) dss_nil)
  (dss_one (ds_ret (de_tup (da_cons (de_ix (de_lst (da_cons de_str (da_cons de_str da_nil))) (de_sub (de_var 2) de_int)) (da_cons (de_var 3) da_nil))))))))))) hF__law_deed hX__law_deed
set_option maxHeartbeats 4000000 in
theorem ok_is_whole (T : Top w K mg) : GOk P w K mg base CX0 1 T.a_is_whole T.fd_is_whole ["thing"] (spF K mg 1 F_is_whole) :=
  fn_okG (k := 0) (fb := den_is_whole) T.F_is_whole S_is_whole rfl (fun cdv A outer s H E hr => 
  (dss_one (ds_ret (de_and (de_isi (pe_bltn (v := .ty "int") (u := .type "int") rfl T.z_int (by decide +kernel) rfl) (ClsV.ty "int") isi_ty T.z_isinstance (de_var 0)) (de_one (de_not (de_isi (pe_bltn (v := .ty "bool") (u := .type "bool") rfl T.z_bool (by decide +kernel) rfl) (ClsV.ty "bool") isi_ty T.z_isinstance (de_var 0)))))))) hF_is_whole hX_is_whole
set_option maxHeartbeats 4000000 in
theorem ok_common (T : Top w K mg) : GOk P w K mg base CX0 1 T.a_common T.fd_common ["a", "b"] (spF K mg 2 F_common) :=
  fn_okG (k := 0) (fb := den_common) T.F_common S_common rfl (fun cdv A outer s H E hr => 
  (dss_cons (ds_while PassesOwn.never (dt_ne hr.units (de_var 1) de_int) (dss_one (ds_par 0 1 S_common.nd (da_cons (de_var 1) (da_cons (de_mod (de_var 0) (de_var 1)) da_nil)))))
  (dss_one (ds_ret (de_abs T.z_abs (da_cons (de_var 0) da_nil)))))) hF_common hX_common
set_option maxHeartbeats 4000000 in
theorem ok_is_fraction (T : Top w K mg) : GOk P w K mg base CX0 2 T.a_is_fraction T.fd_is_fraction ["thing"] (spF K mg 1 F_is_fraction) :=
  fn_okG (k := 1) (fb := den_is_fraction) T.F_is_fraction S_is_fraction rfl (fun cdv A outer s H E hr => 
  (dss_cons (ds_if (DW.dt (dw_or (dt_not (dt_val (de_isi (pe_bltn (v := .ty "tuple") (u := .type "tuple") rfl T.z_tuple (by decide +kernel) rfl) (ClsV.ty "tuple") isi_ty T.z_isinstance (de_var 0)))) (dw_or1 (dt_ne hr.units (de_len T.z_len (da_cons (de_var 0) da_nil)) de_int)))) (dss_one (ds_ret de_bl)) dss_nil)
  (dss_cons (ds_asg (de_var 0) (dg_tup rfl (dgs_cons (dg_name 1 S_is_fraction.nd) (dgs_cons (dg_name 2 S_is_fraction.nd) dgs_nil))))
  (dss_one (ds_ret (de_and (de_callG wok0 (ok_is_whole T) (hr.mono (by decide)) T.g_is_whole T.F_is_whole.kp T.b_is_whole (fun _ => pass_0) (da_cons (de_var 1) da_nil)) (de_and (de_callG wok0 (ok_is_whole T) (hr.mono (by decide)) T.g_is_whole T.F_is_whole.kp T.b_is_whole (fun _ => pass_0) (da_cons (de_var 2) da_nil)) (de_and (de_gt (de_var 2) de_int) (de_one (de_eq hr.units (de_callG wok0 (ok_common T) (hr.mono (by decide)) T.g_common T.F_common.kp T.b_common (fun _ => pass_0) (da_cons (de_var 1) (da_cons (de_var 2) da_nil))) de_int)))))))))) hF_is_fraction hX_is_fraction
set_option maxHeartbeats 4000000 in
theorem ok_is_less (T : Top w K mg) : GOk P w K mg base CX0 1 T.a_is_less T.fd_is_less ["one", "other"] (spF K mg 2 F_is_less) :=
  fn_okG (k := 0) (fb := den_is_less) T.F_is_less S_is_less rfl (fun cdv A outer s H E hr => 
  (dss_cons (ds_asg (de_var 0) (dg_tup rfl (dgs_cons (dg_name 2 S_is_less.nd) (dgs_cons (dg_name 3 S_is_less.nd) dgs_nil))))
  (dss_cons (ds_asg (de_var 1) (dg_tup rfl (dgs_cons (dg_name 4 S_is_less.nd) (dgs_cons (dg_name 5 S_is_less.nd) dgs_nil))))
  (dss_one (ds_ret (de_lt (de_mul (de_var 2) (de_var 5)) (de_mul (de_var 4) (de_var 3)))))))) hF_is_less hX_is_less
set_option maxHeartbeats 4000000 in
theorem ok_times (T : Top w K mg) : GOk P w K mg base CX0 2 T.a_times T.fd_times ["one", "other"] (spF K mg 2 F_times) :=
  fn_okG (k := 1) (fb := den_times) T.F_times S_times rfl (fun cdv A outer s H E hr => 
  (dss_cons (ds_asg (de_var 0) (dg_tup rfl (dgs_cons (dg_name 4 S_times.nd) (dgs_cons (dg_name 5 S_times.nd) dgs_nil))))
  (dss_cons (ds_asg (de_var 1) (dg_tup rfl (dgs_cons (dg_name 6 S_times.nd) (dgs_cons (dg_name 7 S_times.nd) dgs_nil))))
  (dss_cons (ds_set 2 S_times.nd (de_callG wok0 (ok_common T) (hr.mono (by decide)) T.g_common T.F_common.kp T.b_common (fun _ => pass_0) (da_cons (de_var 4) (da_cons (de_var 7) da_nil))))
  (dss_cons (ds_set 3 S_times.nd (de_callG wok0 (ok_common T) (hr.mono (by decide)) T.g_common T.F_common.kp T.b_common (fun _ => pass_0) (da_cons (de_var 6) (da_cons (de_var 5) da_nil))))
  (dss_one (ds_ret (de_tup (da_cons (de_mul (de_div (de_var 4) (de_var 2)) (de_div (de_var 6) (de_var 3))) (da_cons (de_mul (de_div (de_var 5) (de_var 3)) (de_div (de_var 7) (de_var 2))) da_nil)))))))))) hF_times hX_times
set_option maxHeartbeats 4000000 in
theorem ok_is_layer (T : Top w K mg) : GOk P w K mg base CX0 3 T.a_is_layer T.fd_is_layer ["full", "thing"] (spF K mg 2 F_is_layer) :=
  fn_okG (k := 2) (fb := den_is_layer) T.F_is_layer S_is_layer rfl (fun cdv A outer s H E hr => 
  (dss_cons (ds_if (DW.dt (dw_or (dt_not (dt_val (de_isi (pe_bltn (v := .ty "tuple") (u := .type "tuple") rfl T.z_tuple (by decide +kernel) rfl) (ClsV.ty "tuple") isi_ty T.z_isinstance (de_var 1)))) (dw_or1 (dt_ne hr.units (de_len T.z_len (da_cons (de_var 1) da_nil)) de_int)))) (dss_one (ds_ret de_bl)) dss_nil)
  (dss_cons (ds_asg (de_var 1) (dg_tup rfl (dgs_cons (dg_name 2 S_is_layer.nd) (dgs_cons (dg_name 3 S_is_layer.nd) dgs_nil))))
  (dss_cons (ds_if (DW.dt (dw_or (dt_not (dt_val (de_callG wok0 (ok_is_fraction T) (hr.mono (by decide)) T.g_is_fraction T.F_is_fraction.kp T.b_is_fraction (fun _ => pass_0) (da_cons (de_var 2) da_nil)))) (dw_or1 (dt_not (dt_val (de_callG wok0 (ok_is_fraction T) (hr.mono (by decide)) T.g_is_fraction T.F_is_fraction.kp T.b_is_fraction (fun _ => pass_0) (da_cons (de_var 3) da_nil))))))) (dss_one (ds_ret de_bl)) dss_nil)
  (dss_cons (ds_if (DW.dt (dw_or (dt_val (de_callG wok0 (ok_is_less T) (hr.mono (by decide)) T.g_is_less T.F_is_less.kp T.b_is_less (fun _ => pass_0) (da_cons (de_var 2) (da_cons (de_const T.g_NOUGHT T.r_NOUGHT) da_nil)))) (dw_or1 (dt_val (de_callG wok0 (ok_is_less T) (hr.mono (by decide)) T.g_is_less T.F_is_less.kp T.b_is_less (fun _ => pass_0) (da_cons (de_var 3) (da_cons (de_const T.g_NOUGHT T.r_NOUGHT) da_nil))))))) (dss_one (ds_ret de_bl)) dss_nil)
  (dss_cons (ds_if (dt_eq hr.units (de_var 2) (de_const T.g_NOUGHT T.r_NOUGHT)) (dss_one (ds_ret (de_ne hr.units (de_var 3) (de_const T.g_NOUGHT T.r_NOUGHT)))) dss_nil)
  (dss_one (ds_ret (de_not (de_callG wok0 (ok_is_less T) (hr.mono (by decide)) T.g_is_less T.F_is_less.kp T.b_is_less (fun _ => pass_0) (da_cons (de_callG wok0 (ok_times T) (hr.mono (by decide)) T.g_times T.F_times.kp T.b_times (fun _ => pass_0) (da_cons (de_var 0) (da_cons (de_var 2) da_nil))) (da_cons (de_var 3) da_nil)))))))))))) hF_is_layer hX_is_layer
set_option maxHeartbeats 4000000 in
theorem ok_is_wet (T : Top w K mg) : GOk P w K mg base CX0 4 T.a_is_wet T.fd_is_wet ["full", "water", "salt"] (spF K mg 3 F_is_wet) :=
  fn_okG (k := 3) (fb := den_is_wet) T.F_is_wet S_is_wet rfl (fun cdv A outer s H E hr => 
  (dss_one (ds_ret (de_and (de_callG wok0 (ok_is_layer T) (hr.mono (by decide)) T.g_is_layer T.F_is_layer.kp T.b_is_layer (fun _ => pass_0) (da_cons (de_var 0) (da_cons (de_tup (da_cons (de_var 1) (da_cons (de_var 2) da_nil))) da_nil))) (de_one (de_ne hr.units (de_var 1) (de_const T.g_NOUGHT T.r_NOUGHT))))))) hF_is_wet hX_is_wet
set_option maxHeartbeats 4000000 in
theorem ok_is_pouring (T : Top w K mg) : GOk P w K mg base CX0 5 T.a_is_pouring T.fd_is_pouring ["full", "rest"] (spF K mg 2 F_is_pouring) :=
  fn_okG (k := 4) (fb := den_is_pouring) T.F_is_pouring S_is_pouring rfl (fun cdv A outer s H E hr => 
  (dss_one (ds_ret (de_and (de_eq hr.units (de_len T.z_len (da_cons (de_var 1) da_nil)) de_int) (de_and (de_callG wok0 (ok_is_whole T) (hr.mono (by decide)) T.g_is_whole T.F_is_whole.kp T.b_is_whole (fun _ => pass_0) (da_cons (de_ix (de_var 1) de_int) da_nil)) (de_one (de_callG wok0 (ok_is_wet T) (hr.mono (by decide)) T.g_is_wet T.F_is_wet.kp T.b_is_wet (fun _ => pass_0) (da_cons (de_var 0) (da_cons (de_ix (de_var 1) de_int) (da_cons (de_ix (de_var 1) de_int) da_nil)))))))))) hF_is_pouring hX_is_pouring
set_option maxHeartbeats 4000000 in
theorem ok_is_positive (T : Top w K mg) : GOk P w K mg base CX0 3 T.a_is_positive T.fd_is_positive ["thing"] (spF K mg 1 F_is_positive) :=
  fn_okG (k := 2) (fb := den_is_positive) T.F_is_positive S_is_positive rfl (fun cdv A outer s H E hr => 
  (dss_one (ds_ret (de_and (de_callG wok0 (ok_is_fraction T) (hr.mono (by decide)) T.g_is_fraction T.F_is_fraction.kp T.b_is_fraction (fun _ => pass_0) (da_cons (de_var 0) da_nil)) (de_one (de_gt (de_ix (de_var 0) de_int) de_int)))))) hF_is_positive hX_is_positive
set_option maxHeartbeats 4000000 in
theorem ok_is_way (T : Top w K mg) : GOk P w K mg base CX0 1 T.a_is_way T.fd_is_way ["thing"] (spF K mg 1 F_is_way) :=
  fn_okG (k := 0) (fb := den_is_way) T.F_is_way S_is_way rfl (fun cdv A outer s H E hr => 
  (dss_one (ds_ret (de_and (de_isi (pe_bltn (v := .ty "str") (u := .type "str") rfl T.z_str (by decide +kernel) rfl) (ClsV.ty "str") isi_ty T.z_isinstance (de_var 0)) (de_one (de_inD ⟨_, hr⟩ (de_var 0) (de_tup (da_cons de_str (da_cons de_str da_nil))))))))) hF_is_way hX_is_way
set_option maxHeartbeats 4000000 in
theorem ok_is_leading (T : Top w K mg) : GOk P w K mg base CX0 4 T.a_is_leading T.fd_is_leading ["full", "rest"] (spF K mg 2 F_is_leading) :=
  fn_okG (k := 3) (fb := den_is_leading) T.F_is_leading S_is_leading rfl (fun cdv A outer s H E hr => 
  (dss_cons (ds_if (DW.dt (dw_or (dt_ne hr.units (de_len T.z_len (da_cons (de_var 1) da_nil)) de_int) (dw_or (dt_not (dt_val (de_callG wok0 (ok_is_whole T) (hr.mono (by decide)) T.g_is_whole T.F_is_whole.kp T.b_is_whole (fun _ => pass_0) (da_cons (de_ix (de_var 1) de_int) da_nil)))) (dw_or1 (dt_not (dt_val (de_callG wok0 (ok_is_whole T) (hr.mono (by decide)) T.g_is_whole T.F_is_whole.kp T.b_is_whole (fun _ => pass_0) (da_cons (de_ix (de_var 1) de_int) da_nil)))))))) (dss_one (ds_ret de_bl)) dss_nil)
  (dss_cons (ds_asg (de_slice (de_var 1) (do_some de_int) do_none) (dg_tup rfl (dgs_cons (dg_name 2 S_is_leading.nd) (dgs_cons (dg_name 3 S_is_leading.nd) (dgs_cons (dg_name 4 S_is_leading.nd) dgs_nil)))))
  (dss_one (ds_ret (de_and (de_callG wok0 (ok_is_positive T) (hr.mono (by decide)) T.g_is_positive T.F_is_positive.kp T.b_is_positive (fun _ => pass_0) (da_cons (de_var 2) da_nil)) (de_and (de_callG wok0 (ok_is_way T) (hr.mono (by decide)) T.g_is_way T.F_is_way.kp T.b_is_way (fun _ => pass_0) (da_cons (de_var 3) da_nil)) (de_one (de_isi (pe_bltn (v := .ty "bool") (u := .type "bool") rfl T.z_bool (by decide +kernel) rfl) (ClsV.ty "bool") isi_ty T.z_isinstance (de_var 4)))))))))) hF_is_leading hX_is_leading
set_option maxHeartbeats 4000000 in
theorem ok_is_letting (T : Top w K mg) : GOk P w K mg base CX0 4 T.a_is_letting T.fd_is_letting ["full", "rest"] (spF K mg 2 F_is_letting) :=
  fn_okG (k := 3) (fb := den_is_letting) T.F_is_letting S_is_letting rfl (fun cdv A outer s H E hr => 
  (dss_one (ds_ret (de_and (de_eq hr.units (de_len T.z_len (da_cons (de_var 1) da_nil)) de_int) (de_and (de_callG wok0 (ok_is_whole T) (hr.mono (by decide)) T.g_is_whole T.F_is_whole.kp T.b_is_whole (fun _ => pass_0) (da_cons (de_ix (de_var 1) de_int) da_nil)) (de_one (de_callG wok0 (ok_is_positive T) (hr.mono (by decide)) T.g_is_positive T.F_is_positive.kp T.b_is_positive (fun _ => pass_0) (da_cons (de_ix (de_var 1) de_int) da_nil)))))))) hF_is_letting hX_is_letting
set_option maxHeartbeats 4000000 in
theorem ok_is_at_pan (T : Top w K mg) : GOk P w K mg base CX0 2 T.a_is_at_pan T.fd_is_at_pan ["full", "rest"] (spF K mg 2 F_is_at_pan) :=
  fn_okG (k := 1) (fb := den_is_at_pan) T.F_is_at_pan S_is_at_pan rfl (fun cdv A outer s H E hr => 
  (dss_one (ds_ret (de_and (de_eq hr.units (de_len T.z_len (da_cons (de_var 1) da_nil)) de_int) (de_one (de_callG wok0 (ok_is_whole T) (hr.mono (by decide)) T.g_is_whole T.F_is_whole.kp T.b_is_whole (fun _ => pass_0) (da_cons (de_ix (de_var 1) de_int) da_nil))))))) hF_is_at_pan hX_is_at_pan
theorem forms_FORMS (T : Top w K mg) : FormsOk P w K mg base 5 2 T.c_FORMS tab_FORMS ["Rake", "", "stirs", "0", "under", "over", "Over", "under "] := by
  refine ⟨He.dicW_ok T.dw_FORMS, fun z F h => ?_, fun z h => ?_⟩
  · have h2 := lookup_mem h
    simp only [tab_FORMS, List.mem_cons, List.not_mem_nil, or_false, Prod.mk.injEq] at h2
    rcases h2 with ⟨rfl, rfl⟩ | ⟨rfl, rfl⟩ | ⟨rfl, rfl⟩ | ⟨rfl, rfl⟩ | ⟨rfl, rfl⟩
    · exact ⟨_, _, _, T.hv_FORMS_pour, (ok_is_pouring T).mono (by decide), T.F_is_pouring.kp, T.b_is_pouring⟩
    · exact ⟨_, _, _, T.hv_FORMS_lead, (ok_is_leading T).mono (by decide), T.F_is_leading.kp, T.b_is_leading⟩
    · exact ⟨_, _, _, T.hv_FORMS_let, (ok_is_letting T).mono (by decide), T.F_is_letting.kp, T.b_is_letting⟩
    · exact ⟨_, _, _, T.hv_FORMS_rake, (ok_is_at_pan T).mono (by decide), T.F_is_at_pan.kp, T.b_is_at_pan⟩
    · exact ⟨_, _, _, T.hv_FORMS_stir, (ok_is_at_pan T).mono (by decide), T.F_is_at_pan.kp, T.b_is_at_pan⟩
  · have h2 := List.contains_iff_mem.mp h
    simp only [List.mem_cons, List.not_mem_nil, or_false] at h2
    rcases h2 with rfl | rfl | rfl | rfl | rfl | rfl | rfl | rfl
    · exact T.ms_FORMS_0
    · exact T.ms_FORMS_1
    · exact T.ms_FORMS_2
    · exact T.ms_FORMS_3
    · exact T.ms_FORMS_4
    · exact T.ms_FORMS_5
    · exact T.ms_FORMS_6
    · exact T.ms_FORMS_7
set_option maxHeartbeats 4000000 in
theorem ok_is_deed (T : Top w K mg) : GOk P w K mg base CX0 6 T.a_is_deed T.fd_is_deed ["works", "thing"] (spF K mg 2 F_is_deed) :=
  fn_okG (k := 5) (fb := den_is_deed) T.F_is_deed S_is_deed rfl (fun cdv A outer s H E hr => 
  (dss_cons (ds_if (DW.dt (dw_or (dt_not (dt_val (de_isi (pe_bltn (v := .ty "tuple") (u := .type "tuple") rfl T.z_tuple (by decide +kernel) rfl) (ClsV.ty "tuple") isi_ty T.z_isinstance (de_var 1)))) (dw_or (dt_not (dt_tru (de_var 1))) (dw_or1 (dt_not (dt_val (de_isi (pe_bltn (v := .ty "str") (u := .type "str") rfl T.z_str (by decide +kernel) rfl) (ClsV.ty "str") isi_ty T.z_isinstance (de_ix (de_var 1) de_int)))))))) (dss_one (ds_ret de_bl)) dss_nil)
  (dss_form (i := 2) (n := 2) S_is_deed.nd wok0 (forms_FORMS T) (hr.mono (by decide)) (fun _ => pass_0) T.g_FORMS (de_ix (de_var 1) de_int) (da_cons (de_ix (de_var 0) de_int) (da_cons (de_slice (de_var 1) (do_some de_int) do_none) da_nil))))) hF_is_deed hX_is_deed
set_option maxHeartbeats 4000000 in
theorem ok__law_whole (T : Top w K mg) : GOk P w K mg base CX0 1 T.a__law_whole T.fd__law_whole ["thing"] (spF K mg 1 F__law_whole) :=
  fn_okG (k := 0) (fb := den__law_whole) T.F__law_whole S__law_whole rfl (fun cdv A outer s H E hr => 
  (dss_one (ds_ret (de_and (de_isi (pe_bltn (v := .ty "int") (u := .type "int") rfl T.z_int (by decide +kernel) rfl) (ClsV.ty "int") isi_ty T.z_isinstance (de_var 0)) (de_one (de_not (de_isi (pe_bltn (v := .ty "bool") (u := .type "bool") rfl T.z_bool (by decide +kernel) rfl) (ClsV.ty "bool") isi_ty T.z_isinstance (de_var 0)))))))) hF__law_whole hX__law_whole
set_option maxHeartbeats 4000000 in
theorem ok__law_is_water (T : Top w K mg) : GOk P w K mg base CX0 2 T.a__law_is_water T.fd__law_is_water ["thing"] (spF K mg 1 F__law_is_water) :=
  fn_okG (k := 1) (fb := den__law_is_water) T.F__law_is_water S__law_is_water rfl (fun cdv A outer s H E hr => 
  (dss_cons (ds_if (DW.dt (dw_or (dt_not (dt_val (de_isi (pe_bltn (v := .ty "tuple") (u := .type "tuple") rfl T.z_tuple (by decide +kernel) rfl) (ClsV.ty "tuple") isi_ty T.z_isinstance (de_var 0)))) (dw_or (dt_ne hr.units (de_len T.z_len (da_cons (de_var 0) da_nil)) de_int) (dw_or (dt_not (dt_val (de_callG wok0 (ok__law_whole T) (hr.mono (by decide)) T.g__law_whole T.F__law_whole.kp T.b__law_whole (fun _ => pass_0) (da_cons (de_ix (de_var 0) de_int) da_nil)))) (dw_or1 (dt_not (dt_val (de_callG wok0 (ok__law_whole T) (hr.mono (by decide)) T.g__law_whole T.F__law_whole.kp T.b__law_whole (fun _ => pass_0) (da_cons (de_ix (de_var 0) de_int) da_nil))))))))) (dss_one (ds_ret de_bl)) dss_nil)
  (dss_one (ds_ret (de_and (de_gt (de_ix (de_var 0) de_int) de_int) (de_and (de_gt (de_ix (de_var 0) de_int) de_int) (de_one (de_eq hr.units (de_callG wok0 (ok__law_low T) (hr.mono (by decide)) T.g__law_low T.F__law_low.kp T.b__law_low (fun _ => pass_0) (da_cons (de_ix (de_var 0) de_int) (da_cons (de_ix (de_var 0) de_int) da_nil))) (de_var 0))))))))) hF__law_is_water hX__law_is_water
set_option maxHeartbeats 4000000 in
theorem ok__law_under (T : Top w K mg) : GOk P w K mg base CX0 1 T.a__law_under T.fd__law_under ["one", "other"] (spF K mg 2 F__law_under) :=
  fn_okG (k := 0) (fb := den__law_under) T.F__law_under S__law_under rfl (fun cdv A outer s H E hr => 
  (dss_one (ds_ret (de_lt (de_mul (de_ix (de_var 0) de_int) (de_ix (de_var 1) de_int)) (de_mul (de_ix (de_var 1) de_int) (de_ix (de_var 0) de_int)))))) hF__law_under hX__law_under
set_option maxHeartbeats 4000000 in
theorem ok__law_times (T : Top w K mg) : GOk P w K mg base CX0 2 T.a__law_times T.fd__law_times ["one", "other"] (spF K mg 2 F__law_times) :=
  fn_okG (k := 1) (fb := den__law_times) T.F__law_times S__law_times rfl (fun cdv A outer s H E hr => 
  (dss_one (ds_ret (de_callG wok0 (ok__law_low T) (hr.mono (by decide)) T.g__law_low T.F__law_low.kp T.b__law_low (fun _ => pass_0) (da_cons (de_mul (de_ix (de_var 0) de_int) (de_ix (de_var 1) de_int)) (da_cons (de_mul (de_ix (de_var 0) de_int) (de_ix (de_var 1) de_int)) da_nil)))))) hF__law_times hX__law_times
set_option maxHeartbeats 4000000 in
theorem ok__law_is_salt (T : Top w K mg) : GOk P w K mg base CX0 3 T.a__law_is_salt T.fd__law_is_salt ["full", "water", "thing"] (spF K mg 3 F__law_is_salt) :=
  fn_okG (k := 2) (fb := den__law_is_salt) T.F__law_is_salt S__law_is_salt rfl (fun cdv A outer s H E hr => 
  (dss_cons (ds_if (dt_eq hr.units (de_var 2) (de_tup (da_cons de_int (da_cons de_int da_nil)))) (dss_one (ds_ret (de_eq hr.units (de_reprD ⟨_, hr⟩ T.z_repr (da_cons (de_var 2) da_nil)) de_str))) dss_nil)
  (dss_one (ds_ret (de_and (de_callG wok0 (ok__law_is_water T) (hr.mono (by decide)) T.g__law_is_water T.F__law_is_water.kp T.b__law_is_water (fun _ => pass_0) (da_cons (de_var 2) da_nil)) (de_one (de_not (de_callG wok0 (ok__law_under T) (hr.mono (by decide)) T.g__law_under T.F__law_under.kp T.b__law_under (fun _ => pass_0) (da_cons (de_callG wok0 (ok__law_times T) (hr.mono (by decide)) T.g__law_times T.F__law_times.kp T.b__law_times (fun _ => pass_0) (da_cons (de_var 0) (da_cons (de_var 1) da_nil))) (da_cons (de_var 2) da_nil)))))))))) hF__law_is_salt hX__law_is_salt
set_option maxHeartbeats 4000000 in
theorem ok__law_due (T : Top w K mg) : GOk P w K mg base CX0 4 T.a__law_due T.fd__law_due ["full", "thing"] (spF K mg 2 F__law_due) :=
  fn_okG (k := 3) (fb := den__law_due) T.F__law_due S__law_due rfl (fun cdv A outer s H E hr => 
  (dss_cons (ds_if (DW.dt (dw_or (dt_not (dt_val (de_isi (pe_bltn (v := .ty "tuple") (u := .type "tuple") rfl T.z_tuple (by decide +kernel) rfl) (ClsV.ty "tuple") isi_ty T.z_isinstance (de_var 1)))) (dw_or (dt_lt (de_len T.z_len (da_cons (de_var 1) da_nil)) de_int) (dw_or (dt_not (dt_val (de_isi (pe_bltn (v := .ty "str") (u := .type "str") rfl T.z_str (by decide +kernel) rfl) (ClsV.ty "str") isi_ty T.z_isinstance (de_ix (de_var 1) de_int)))) (dw_or1 (dt_not (dt_val (de_callG wok0 (ok__law_whole T) (hr.mono (by decide)) T.g__law_whole T.F__law_whole.kp T.b__law_whole (fun _ => pass_0) (da_cons (de_ix (de_var 1) de_int) da_nil))))))))) (dss_one (ds_ret de_bl)) dss_nil)
  (dss_cons (ds_if (dt_eq hr.units (de_ix (de_var 1) de_int) de_str) (dss_one (ds_ret (de_and (de_eq hr.units (de_len T.z_len (da_cons (de_var 1) da_nil)) de_int) (de_and (de_callG wok0 (ok__law_is_water T) (hr.mono (by decide)) T.g__law_is_water T.F__law_is_water.kp T.b__law_is_water (fun _ => pass_0) (da_cons (de_ix (de_var 1) de_int) da_nil)) (de_one (de_callG wok0 (ok__law_is_salt T) (hr.mono (by decide)) T.g__law_is_salt T.F__law_is_salt.kp T.b__law_is_salt (fun _ => pass_0) (da_cons (de_var 0) (da_cons (de_ix (de_var 1) de_int) (da_cons (de_ix (de_var 1) de_int) da_nil))))))))) dss_nil)
  (dss_cons (ds_if (dt_eq hr.units (de_ix (de_var 1) de_int) de_str) (dss_one (ds_ret (de_and (de_eq hr.units (de_len T.z_len (da_cons (de_var 1) da_nil)) de_int) (de_one (de_callG wok0 (ok__law_is_water T) (hr.mono (by decide)) T.g__law_is_water T.F__law_is_water.kp T.b__law_is_water (fun _ => pass_0) (da_cons (de_ix (de_var 1) de_int) da_nil)))))) dss_nil)
  (dss_cons (ds_if (dt_eq hr.units (de_ix (de_var 1) de_int) de_str) (dss_cons (ds_if (DW.dt (dw_or (dt_ne hr.units (de_len T.z_len (da_cons (de_var 1) da_nil)) de_int) (dw_or (dt_not (dt_val (de_callG wok0 (ok__law_whole T) (hr.mono (by decide)) T.g__law_whole T.F__law_whole.kp T.b__law_whole (fun _ => pass_0) (da_cons (de_ix (de_var 1) de_int) da_nil)))) (dw_or1 (dt_not (dt_val (de_callG wok0 (ok__law_is_water T) (hr.mono (by decide)) T.g__law_is_water T.F__law_is_water.kp T.b__law_is_water (fun _ => pass_0) (da_cons (de_ix (de_var 1) de_int) da_nil)))))))) (dss_one (ds_ret de_bl)) dss_nil)
  (dss_one (ds_ret (de_and (de_inE ⟨_, hr⟩ (de_ix (de_var 1) de_int) (de_lst (da_cons de_str (da_cons de_str da_nil)))) (de_one (de_isi (pe_bltn (v := .ty "bool") (u := .type "bool") rfl T.z_bool (by decide +kernel) rfl) (ClsV.ty "bool") isi_ty T.z_isinstance (de_ix (de_var 1) de_int))))))) dss_nil)
  (dss_one (ds_ret (de_and (de_eq hr.units (de_len T.z_len (da_cons (de_var 1) da_nil)) de_int) (de_one (de_inE ⟨_, hr⟩ (de_ix (de_var 1) de_int) (de_lst (da_cons de_str (da_cons de_str da_nil))))))))))))) hF__law_due hX__law_due
set_option maxHeartbeats 4000000 in
theorem ok_fraction (T : Top w K mg) : GOk P w K mg base (L2.CX P w) 2 T.a_fraction T.fd_fraction ["a", "b"] (spF K mg 2 F_fraction) :=
  fn_okXG (k := 1) (fb := den_fraction) T.F_fraction S_fraction rfl (fun cdv A outer s H E hr => 
  (dss_cons (ds_if (dt_eq hr.units (de_var 1) de_int) (dss_one (ds_raise wokX rfl (takes_of rfl rfl rfl rfl) T.q_NoFraction T.g_NoFraction T.k_NoFraction (raises_own T.b_NoFraction T.t_NoFraction))) dss_nil)
  (dss_cons (ds_set 2 S_fraction.nd (de_if (dt_gt (de_var 1) de_int) (de_callG wokX (ok_common T) (hr.mono (by decide)) T.g_common T.F_common.kp T.b_common (fun _ => pass_0) (da_cons (de_var 0) (da_cons (de_var 1) da_nil))) (de_neg (de_callG wokX (ok_common T) (hr.mono (by decide)) T.g_common T.F_common.kp T.b_common (fun _ => pass_0) (da_cons (de_var 0) (da_cons (de_var 1) da_nil))))))
  (dss_one (ds_ret (de_tup (da_cons (de_div (de_var 0) (de_var 2)) (da_cons (de_div (de_var 1) (de_var 2)) da_nil)))))))) hF_fraction
set_option maxHeartbeats 4000000 in
theorem ok_law (T : Top w K mg) : GOk P w K mg base CX0 7 T.a_law T.fd_law ["script"] (spF K mg 1 F_law) :=
  fn_okG (k := 6) (fb := den_law) T.F_law S_law rfl (fun cdv A outer s H E hr => 
  (dss_cons (ds_for PassesOwn.never (di_enum T.z_enumerate (da_cons (de_addL (de_lst (da_cons de_int da_nil)) (de_callG wok0 (ok__law_folded T) (hr.mono (by decide)) T.g__law_folded T.F__law_folded.kp T.b__law_folded (fun _ => pass_0) (da_cons (de_var 0) (da_cons de_int da_nil)))) da_nil)) (dg_tup rfl (dgs_cons (dg_name 3 S_law.nd) (dgs_cons (dg_name 4 S_law.nd) dgs_nil))) (dss_cons (ds_set 5 S_law.nd (de_callG wok0 (ok__law_pot T) (hr.mono (by decide)) T.g__law_pot T.F__law_pot.kp T.b__law_pot (fun _ => pass_0) (da_cons (de_var 4) (da_cons (de_var 3) da_nil))))
  (dss_cons (ds_set 6 S_law.nd (de_callG wok0 (ok__law_full T) (hr.mono (by decide)) T.g__law_full T.F__law_full.kp T.b__law_full (fun _ => pass_0) (da_cons (de_var 5) da_nil)))
  (dss_cons (ds_set 1 S_law.nd (de_tup (da_cons (de_var 6) (da_cons (de_repU (de_tup (da_cons (de_tup (da_cons (de_tup (da_cons de_int (da_cons de_int da_nil))) (da_cons (de_tup (da_cons de_int (da_cons de_int da_nil))) da_nil))) da_nil)) (de_add de_int (de_callG wok0 (ok__law_take T) (hr.mono (by decide)) T.g__law_take T.F__law_take.kp T.b__law_take (fun _ => pass_0) (da_cons (de_var 5) (da_cons de_int da_nil))))) (da_cons (de_tup (da_cons (de_tup (da_cons (de_tup (da_cons de_int (da_cons de_int da_nil))) (da_cons (de_tup (da_cons de_int (da_cons de_int da_nil))) da_nil))) da_nil)) da_nil)))))
  (dss_one (ds_for PassesOwn.never (di_range1 T.z_range (da_cons de_int da_nil)) (dg_name 7 S_law.nd) (dss_cons (ds_set 8 S_law.nd (de_callG wok0 (ok__law_spoilt T) (hr.mono (by decide)) T.g__law_spoilt T.F__law_spoilt.kp T.b__law_spoilt (fun _ => pass_0) (da_cons (de_var 5) (da_cons (de_callG wok0 (ok__law_deed T) (hr.mono (by decide)) T.g__law_deed T.F__law_deed.kp T.b__law_deed (fun _ => pass_0) (da_cons (de_var 5) (da_cons (de_var 6) da_nil))) da_nil))))
  (dss_one (ds_if (dt_neS (de_reprD ⟨_, hr⟩ T.z_repr (da_cons (de_callG wok0 (ok_is_deed T) (hr.mono (by decide)) T.g_is_deed T.F_is_deed.kp T.b_is_deed (fun _ => pass_0) (da_cons (de_var 1) (da_cons (de_var 8) da_nil))) da_nil)) (de_reprD ⟨_, hr⟩ T.z_repr (da_cons (de_callG wok0 (ok__law_due T) (hr.mono (by decide)) T.g__law_due T.F__law_due.kp T.b__law_due (fun _ => pass_0) (da_cons (de_var 6) (da_cons (de_var 8) da_nil))) da_nil))) (dss_one (ds_ret de_bl)) dss_nil)))))))))
  (dss_cons (ds_set 1 S_law.nd (de_tup (da_cons (de_callG wok0 (ok_fraction T) (hr.mono (by decide)) T.g_fraction T.F_fraction.kp T.b_fraction (fun σ => passAt takes0 σ) (da_cons (de_add (de_pow de_int de_int) de_int) (da_cons de_int da_nil))) (da_cons (de_tup (da_cons (de_tup (da_cons (de_tup (da_cons de_int (da_cons de_int da_nil))) (da_cons (de_tup (da_cons de_int (da_cons de_int da_nil))) da_nil))) da_nil)) (da_cons (de_tup (da_cons (de_tup (da_cons (de_tup (da_cons de_int (da_cons de_int da_nil))) (da_cons (de_tup (da_cons de_int (da_cons de_int da_nil))) da_nil))) da_nil)) da_nil)))))
  (dss_cons (ds_for PassesOwn.never (di_list (de_lst (da_cons (de_tup (da_cons de_str (da_cons de_int (da_cons (de_tup (da_cons de_int (da_cons de_int da_nil))) (da_cons (de_tup (da_cons (de_add (de_pow de_int de_int) de_int) (da_cons de_int da_nil))) da_nil))))) (da_cons (de_tup (da_cons de_str (da_cons de_int (da_cons (de_tup (da_cons (de_add (de_pow de_int de_int) de_int) (da_cons de_int da_nil))) da_nil)))) (da_cons (de_tup (da_cons de_str (da_cons de_int (da_cons de_int (da_cons (de_tup (da_cons de_int (da_cons (de_pow de_int de_int) da_nil))) da_nil))))) da_nil))))) (dg_name 2 S_law.nd) (dss_one (ds_if (dt_isnB (de_callG wok0 (ok_is_deed T) (hr.mono (by decide)) T.g_is_deed T.F_is_deed.kp T.b_is_deed (fun _ => pass_0) (da_cons (de_var 1) (da_cons (de_add (de_var 2) (de_slice (de_tup (da_cons de_str (da_cons de_bl da_nil))) do_none (do_some (de_mul de_int (de_toInt T.z_int (da_cons (de_eq hr.units (de_ix (de_var 2) de_int) de_str) da_nil)))))) da_nil))) de_bl) (dss_one (ds_ret de_bl)) dss_nil)))
  (dss_cons (ds_set 1 S_law.nd (de_tup (da_cons (de_tup (da_cons de_int (da_cons de_int da_nil))) (da_cons (de_tup (da_cons (de_tup (da_cons (de_tup (da_cons de_int (da_cons de_int da_nil))) (da_cons (de_tup (da_cons de_int (da_cons de_int da_nil))) da_nil))) da_nil)) (da_cons (de_tup (da_cons (de_tup (da_cons (de_tup (da_cons de_int (da_cons de_int da_nil))) (da_cons (de_tup (da_cons de_int (da_cons de_int da_nil))) da_nil))) da_nil)) da_nil)))))
  (dss_one (ds_ret (de_and (de_isB (de_callG wok0 (ok_is_deed T) (hr.mono (by decide)) T.g_is_deed T.F_is_deed.kp T.b_is_deed (fun _ => pass_0) (da_cons (de_var 1) (da_cons (de_tup (da_cons de_str (da_cons de_int (da_cons (de_neg de_int) (da_cons (de_tup (da_cons de_int (da_cons de_int da_nil))) (da_cons de_str (da_cons de_bl da_nil))))))) da_nil))) de_bl) (de_one (de_isB (de_callG wok0 (ok_is_deed T) (hr.mono (by decide)) T.g_is_deed T.F_is_deed.kp T.b_is_deed (fun _ => pass_0) (da_cons (de_var 1) (da_cons (de_tup (da_cons de_str (da_cons de_int da_nil))) da_nil))) de_bl)))))))))) hF_law hX_law
end
set_option maxHeartbeats 0 in
theorem all_mk {w : World} {K : PySem.W.Frag} {h : Heap} {mg : Str → Option Value} (X : K.In h) (G : h.Ns mainGlobals mg)
    {f0 : Addr} {od0 an0 : Option Addr} {sl0 : Array (Option Value)} {oc0 kV0 dc0 pm0 cd0 ct0 : Value}
    (a0 : PySem.W.nsIn K mainGlobals "_law_folded" = some (some (.ref f0))) (l0 : K.lookup f0 = some ⟨oc0, od0, .func (PySem.W.fnOf "_law_folded" "_law_folded" (defArgs s__law_folded) (defBody s__law_folded) (defScope s__law_folded) .none kV0 dc0 pm0 an0 cd0 ct0), sl0⟩) (c0 : PySem.W.codeIn K cd0 "_law_folded" = true) (k0 : PySem.W.keepIn K (.ref f0) = true)
    {f1 : Addr} {od1 an1 : Option Addr} {sl1 : Array (Option Value)} {oc1 kV1 dc1 pm1 cd1 ct1 : Value}
    (a1 : PySem.W.nsIn K mainGlobals "_law_pot" = some (some (.ref f1))) (l1 : K.lookup f1 = some ⟨oc1, od1, .func (PySem.W.fnOf "_law_pot" "_law_pot" (defArgs s__law_pot) (defBody s__law_pot) (defScope s__law_pot) .none kV1 dc1 pm1 an1 cd1 ct1), sl1⟩) (c1 : PySem.W.codeIn K cd1 "_law_pot" = true) (k1 : PySem.W.keepIn K (.ref f1) = true)
    {f2 : Addr} {od2 an2 : Option Addr} {sl2 : Array (Option Value)} {oc2 kV2 dc2 pm2 cd2 ct2 : Value}
    (a2 : PySem.W.nsIn K mainGlobals "_law_take" = some (some (.ref f2))) (l2 : K.lookup f2 = some ⟨oc2, od2, .func (PySem.W.fnOf "_law_take" "_law_take" (defArgs s__law_take) (defBody s__law_take) (defScope s__law_take) .none kV2 dc2 pm2 an2 cd2 ct2), sl2⟩) (c2 : PySem.W.codeIn K cd2 "_law_take" = true) (k2 : PySem.W.keepIn K (.ref f2) = true)
    {f3 : Addr} {od3 an3 : Option Addr} {sl3 : Array (Option Value)} {oc3 kV3 dc3 pm3 cd3 ct3 : Value}
    (a3 : PySem.W.nsIn K mainGlobals "_law_full" = some (some (.ref f3))) (l3 : K.lookup f3 = some ⟨oc3, od3, .func (PySem.W.fnOf "_law_full" "_law_full" (defArgs s__law_full) (defBody s__law_full) (defScope s__law_full) .none kV3 dc3 pm3 an3 cd3 ct3), sl3⟩) (c3 : PySem.W.codeIn K cd3 "_law_full" = true) (k3 : PySem.W.keepIn K (.ref f3) = true)
    {f4 : Addr} {od4 an4 : Option Addr} {sl4 : Array (Option Value)} {oc4 kV4 dc4 pm4 cd4 ct4 : Value}
    (a4 : PySem.W.nsIn K mainGlobals "_law_spoilt" = some (some (.ref f4))) (l4 : K.lookup f4 = some ⟨oc4, od4, .func (PySem.W.fnOf "_law_spoilt" "_law_spoilt" (defArgs s__law_spoilt) (defBody s__law_spoilt) (defScope s__law_spoilt) .none kV4 dc4 pm4 an4 cd4 ct4), sl4⟩) (c4 : PySem.W.codeIn K cd4 "_law_spoilt" = true) (k4 : PySem.W.keepIn K (.ref f4) = true)
    {f5 : Addr} {od5 an5 : Option Addr} {sl5 : Array (Option Value)} {oc5 kV5 dc5 pm5 cd5 ct5 : Value}
    (a5 : PySem.W.nsIn K mainGlobals "_law_low" = some (some (.ref f5))) (l5 : K.lookup f5 = some ⟨oc5, od5, .func (PySem.W.fnOf "_law_low" "_law_low" (defArgs s__law_low) (defBody s__law_low) (defScope s__law_low) .none kV5 dc5 pm5 an5 cd5 ct5), sl5⟩) (c5 : PySem.W.codeIn K cd5 "_law_low" = true) (k5 : PySem.W.keepIn K (.ref f5) = true)
    {f6 : Addr} {od6 an6 : Option Addr} {sl6 : Array (Option Value)} {oc6 kV6 dc6 pm6 cd6 ct6 : Value}
    (a6 : PySem.W.nsIn K mainGlobals "_law_any_water" = some (some (.ref f6))) (l6 : K.lookup f6 = some ⟨oc6, od6, .func (PySem.W.fnOf "_law_any_water" "_law_any_water" (defArgs s__law_any_water) (defBody s__law_any_water) (defScope s__law_any_water) .none kV6 dc6 pm6 an6 cd6 ct6), sl6⟩) (c6 : PySem.W.codeIn K cd6 "_law_any_water" = true) (k6 : PySem.W.keepIn K (.ref f6) = true)
    {f7 : Addr} {od7 an7 : Option Addr} {sl7 : Array (Option Value)} {oc7 kV7 dc7 pm7 cd7 ct7 : Value}
    (a7 : PySem.W.nsIn K mainGlobals "_law_any_pan" = some (some (.ref f7))) (l7 : K.lookup f7 = some ⟨oc7, od7, .func (PySem.W.fnOf "_law_any_pan" "_law_any_pan" (defArgs s__law_any_pan) (defBody s__law_any_pan) (defScope s__law_any_pan) .none kV7 dc7 pm7 an7 cd7 ct7), sl7⟩) (c7 : PySem.W.codeIn K cd7 "_law_any_pan" = true) (k7 : PySem.W.keepIn K (.ref f7) = true)
    {f8 : Addr} {od8 an8 : Option Addr} {sl8 : Array (Option Value)} {oc8 kV8 dc8 pm8 cd8 ct8 : Value}
    (a8 : PySem.W.nsIn K mainGlobals "_law_pour" = some (some (.ref f8))) (l8 : K.lookup f8 = some ⟨oc8, od8, .func (PySem.W.fnOf "_law_pour" "_law_pour" (defArgs s__law_pour) (defBody s__law_pour) (defScope s__law_pour) .none kV8 dc8 pm8 an8 cd8 ct8), sl8⟩) (c8 : PySem.W.codeIn K cd8 "_law_pour" = true) (k8 : PySem.W.keepIn K (.ref f8) = true)
    {f9 : Addr} {od9 an9 : Option Addr} {sl9 : Array (Option Value)} {oc9 kV9 dc9 pm9 cd9 ct9 : Value}
    (a9 : PySem.W.nsIn K mainGlobals "_law_deed" = some (some (.ref f9))) (l9 : K.lookup f9 = some ⟨oc9, od9, .func (PySem.W.fnOf "_law_deed" "_law_deed" (defArgs s__law_deed) (defBody s__law_deed) (defScope s__law_deed) .none kV9 dc9 pm9 an9 cd9 ct9), sl9⟩) (c9 : PySem.W.codeIn K cd9 "_law_deed" = true) (k9 : PySem.W.keepIn K (.ref f9) = true)
    {f10 : Addr} {od10 an10 : Option Addr} {sl10 : Array (Option Value)} {oc10 kV10 dc10 pm10 cd10 ct10 : Value}
    (a10 : PySem.W.nsIn K mainGlobals "is_whole" = some (some (.ref f10))) (l10 : K.lookup f10 = some ⟨oc10, od10, .func (PySem.W.fnOf "is_whole" "is_whole" (defArgs s_is_whole) (defBody s_is_whole) (defScope s_is_whole) .none kV10 dc10 pm10 an10 cd10 ct10), sl10⟩) (c10 : PySem.W.codeIn K cd10 "is_whole" = true) (k10 : PySem.W.keepIn K (.ref f10) = true)
    {f11 : Addr} {od11 an11 : Option Addr} {sl11 : Array (Option Value)} {oc11 kV11 dc11 pm11 cd11 ct11 : Value}
    (a11 : PySem.W.nsIn K mainGlobals "common" = some (some (.ref f11))) (l11 : K.lookup f11 = some ⟨oc11, od11, .func (PySem.W.fnOf "common" "common" (defArgs s_common) (defBody s_common) (defScope s_common) .none kV11 dc11 pm11 an11 cd11 ct11), sl11⟩) (c11 : PySem.W.codeIn K cd11 "common" = true) (k11 : PySem.W.keepIn K (.ref f11) = true)
    {f12 : Addr} {od12 an12 : Option Addr} {sl12 : Array (Option Value)} {oc12 kV12 dc12 pm12 cd12 ct12 : Value}
    (a12 : PySem.W.nsIn K mainGlobals "is_fraction" = some (some (.ref f12))) (l12 : K.lookup f12 = some ⟨oc12, od12, .func (PySem.W.fnOf "is_fraction" "is_fraction" (defArgs s_is_fraction) (defBody s_is_fraction) (defScope s_is_fraction) .none kV12 dc12 pm12 an12 cd12 ct12), sl12⟩) (c12 : PySem.W.codeIn K cd12 "is_fraction" = true) (k12 : PySem.W.keepIn K (.ref f12) = true)
    {f13 : Addr} {od13 an13 : Option Addr} {sl13 : Array (Option Value)} {oc13 kV13 dc13 pm13 cd13 ct13 : Value}
    (a13 : PySem.W.nsIn K mainGlobals "is_less" = some (some (.ref f13))) (l13 : K.lookup f13 = some ⟨oc13, od13, .func (PySem.W.fnOf "is_less" "is_less" (defArgs s_is_less) (defBody s_is_less) (defScope s_is_less) .none kV13 dc13 pm13 an13 cd13 ct13), sl13⟩) (c13 : PySem.W.codeIn K cd13 "is_less" = true) (k13 : PySem.W.keepIn K (.ref f13) = true)
    {f14 : Addr} {od14 an14 : Option Addr} {sl14 : Array (Option Value)} {oc14 kV14 dc14 pm14 cd14 ct14 : Value}
    (a14 : PySem.W.nsIn K mainGlobals "times" = some (some (.ref f14))) (l14 : K.lookup f14 = some ⟨oc14, od14, .func (PySem.W.fnOf "times" "times" (defArgs s_times) (defBody s_times) (defScope s_times) .none kV14 dc14 pm14 an14 cd14 ct14), sl14⟩) (c14 : PySem.W.codeIn K cd14 "times" = true) (k14 : PySem.W.keepIn K (.ref f14) = true)
    {f15 : Addr} {od15 an15 : Option Addr} {sl15 : Array (Option Value)} {oc15 kV15 dc15 pm15 cd15 ct15 : Value}
    (a15 : PySem.W.nsIn K mainGlobals "is_layer" = some (some (.ref f15))) (l15 : K.lookup f15 = some ⟨oc15, od15, .func (PySem.W.fnOf "is_layer" "is_layer" (defArgs s_is_layer) (defBody s_is_layer) (defScope s_is_layer) .none kV15 dc15 pm15 an15 cd15 ct15), sl15⟩) (c15 : PySem.W.codeIn K cd15 "is_layer" = true) (k15 : PySem.W.keepIn K (.ref f15) = true)
    {f16 : Addr} {od16 an16 : Option Addr} {sl16 : Array (Option Value)} {oc16 kV16 dc16 pm16 cd16 ct16 : Value}
    (a16 : PySem.W.nsIn K mainGlobals "is_wet" = some (some (.ref f16))) (l16 : K.lookup f16 = some ⟨oc16, od16, .func (PySem.W.fnOf "is_wet" "is_wet" (defArgs s_is_wet) (defBody s_is_wet) (defScope s_is_wet) .none kV16 dc16 pm16 an16 cd16 ct16), sl16⟩) (c16 : PySem.W.codeIn K cd16 "is_wet" = true) (k16 : PySem.W.keepIn K (.ref f16) = true)
    {f17 : Addr} {od17 an17 : Option Addr} {sl17 : Array (Option Value)} {oc17 kV17 dc17 pm17 cd17 ct17 : Value}
    (a17 : PySem.W.nsIn K mainGlobals "is_pouring" = some (some (.ref f17))) (l17 : K.lookup f17 = some ⟨oc17, od17, .func (PySem.W.fnOf "is_pouring" "is_pouring" (defArgs s_is_pouring) (defBody s_is_pouring) (defScope s_is_pouring) .none kV17 dc17 pm17 an17 cd17 ct17), sl17⟩) (c17 : PySem.W.codeIn K cd17 "is_pouring" = true) (k17 : PySem.W.keepIn K (.ref f17) = true)
    {f18 : Addr} {od18 an18 : Option Addr} {sl18 : Array (Option Value)} {oc18 kV18 dc18 pm18 cd18 ct18 : Value}
    (a18 : PySem.W.nsIn K mainGlobals "is_positive" = some (some (.ref f18))) (l18 : K.lookup f18 = some ⟨oc18, od18, .func (PySem.W.fnOf "is_positive" "is_positive" (defArgs s_is_positive) (defBody s_is_positive) (defScope s_is_positive) .none kV18 dc18 pm18 an18 cd18 ct18), sl18⟩) (c18 : PySem.W.codeIn K cd18 "is_positive" = true) (k18 : PySem.W.keepIn K (.ref f18) = true)
    {f19 : Addr} {od19 an19 : Option Addr} {sl19 : Array (Option Value)} {oc19 kV19 dc19 pm19 cd19 ct19 : Value}
    (a19 : PySem.W.nsIn K mainGlobals "is_way" = some (some (.ref f19))) (l19 : K.lookup f19 = some ⟨oc19, od19, .func (PySem.W.fnOf "is_way" "is_way" (defArgs s_is_way) (defBody s_is_way) (defScope s_is_way) .none kV19 dc19 pm19 an19 cd19 ct19), sl19⟩) (c19 : PySem.W.codeIn K cd19 "is_way" = true) (k19 : PySem.W.keepIn K (.ref f19) = true)
    {f20 : Addr} {od20 an20 : Option Addr} {sl20 : Array (Option Value)} {oc20 kV20 dc20 pm20 cd20 ct20 : Value}
    (a20 : PySem.W.nsIn K mainGlobals "is_leading" = some (some (.ref f20))) (l20 : K.lookup f20 = some ⟨oc20, od20, .func (PySem.W.fnOf "is_leading" "is_leading" (defArgs s_is_leading) (defBody s_is_leading) (defScope s_is_leading) .none kV20 dc20 pm20 an20 cd20 ct20), sl20⟩) (c20 : PySem.W.codeIn K cd20 "is_leading" = true) (k20 : PySem.W.keepIn K (.ref f20) = true)
    {f21 : Addr} {od21 an21 : Option Addr} {sl21 : Array (Option Value)} {oc21 kV21 dc21 pm21 cd21 ct21 : Value}
    (a21 : PySem.W.nsIn K mainGlobals "is_letting" = some (some (.ref f21))) (l21 : K.lookup f21 = some ⟨oc21, od21, .func (PySem.W.fnOf "is_letting" "is_letting" (defArgs s_is_letting) (defBody s_is_letting) (defScope s_is_letting) .none kV21 dc21 pm21 an21 cd21 ct21), sl21⟩) (c21 : PySem.W.codeIn K cd21 "is_letting" = true) (k21 : PySem.W.keepIn K (.ref f21) = true)
    {f22 : Addr} {od22 an22 : Option Addr} {sl22 : Array (Option Value)} {oc22 kV22 dc22 pm22 cd22 ct22 : Value}
    (a22 : PySem.W.nsIn K mainGlobals "is_at_pan" = some (some (.ref f22))) (l22 : K.lookup f22 = some ⟨oc22, od22, .func (PySem.W.fnOf "is_at_pan" "is_at_pan" (defArgs s_is_at_pan) (defBody s_is_at_pan) (defScope s_is_at_pan) .none kV22 dc22 pm22 an22 cd22 ct22), sl22⟩) (c22 : PySem.W.codeIn K cd22 "is_at_pan" = true) (k22 : PySem.W.keepIn K (.ref f22) = true)
    {f23 : Addr} {od23 an23 : Option Addr} {sl23 : Array (Option Value)} {oc23 kV23 dc23 pm23 cd23 ct23 : Value}
    (a23 : PySem.W.nsIn K mainGlobals "is_deed" = some (some (.ref f23))) (l23 : K.lookup f23 = some ⟨oc23, od23, .func (PySem.W.fnOf "is_deed" "is_deed" (defArgs s_is_deed) (defBody s_is_deed) (defScope s_is_deed) .none kV23 dc23 pm23 an23 cd23 ct23), sl23⟩) (c23 : PySem.W.codeIn K cd23 "is_deed" = true) (k23 : PySem.W.keepIn K (.ref f23) = true)
    {f24 : Addr} {od24 an24 : Option Addr} {sl24 : Array (Option Value)} {oc24 kV24 dc24 pm24 cd24 ct24 : Value}
    (a24 : PySem.W.nsIn K mainGlobals "_law_whole" = some (some (.ref f24))) (l24 : K.lookup f24 = some ⟨oc24, od24, .func (PySem.W.fnOf "_law_whole" "_law_whole" (defArgs s__law_whole) (defBody s__law_whole) (defScope s__law_whole) .none kV24 dc24 pm24 an24 cd24 ct24), sl24⟩) (c24 : PySem.W.codeIn K cd24 "_law_whole" = true) (k24 : PySem.W.keepIn K (.ref f24) = true)
    {f25 : Addr} {od25 an25 : Option Addr} {sl25 : Array (Option Value)} {oc25 kV25 dc25 pm25 cd25 ct25 : Value}
    (a25 : PySem.W.nsIn K mainGlobals "_law_is_water" = some (some (.ref f25))) (l25 : K.lookup f25 = some ⟨oc25, od25, .func (PySem.W.fnOf "_law_is_water" "_law_is_water" (defArgs s__law_is_water) (defBody s__law_is_water) (defScope s__law_is_water) .none kV25 dc25 pm25 an25 cd25 ct25), sl25⟩) (c25 : PySem.W.codeIn K cd25 "_law_is_water" = true) (k25 : PySem.W.keepIn K (.ref f25) = true)
    {f26 : Addr} {od26 an26 : Option Addr} {sl26 : Array (Option Value)} {oc26 kV26 dc26 pm26 cd26 ct26 : Value}
    (a26 : PySem.W.nsIn K mainGlobals "_law_under" = some (some (.ref f26))) (l26 : K.lookup f26 = some ⟨oc26, od26, .func (PySem.W.fnOf "_law_under" "_law_under" (defArgs s__law_under) (defBody s__law_under) (defScope s__law_under) .none kV26 dc26 pm26 an26 cd26 ct26), sl26⟩) (c26 : PySem.W.codeIn K cd26 "_law_under" = true) (k26 : PySem.W.keepIn K (.ref f26) = true)
    {f27 : Addr} {od27 an27 : Option Addr} {sl27 : Array (Option Value)} {oc27 kV27 dc27 pm27 cd27 ct27 : Value}
    (a27 : PySem.W.nsIn K mainGlobals "_law_times" = some (some (.ref f27))) (l27 : K.lookup f27 = some ⟨oc27, od27, .func (PySem.W.fnOf "_law_times" "_law_times" (defArgs s__law_times) (defBody s__law_times) (defScope s__law_times) .none kV27 dc27 pm27 an27 cd27 ct27), sl27⟩) (c27 : PySem.W.codeIn K cd27 "_law_times" = true) (k27 : PySem.W.keepIn K (.ref f27) = true)
    {f28 : Addr} {od28 an28 : Option Addr} {sl28 : Array (Option Value)} {oc28 kV28 dc28 pm28 cd28 ct28 : Value}
    (a28 : PySem.W.nsIn K mainGlobals "_law_is_salt" = some (some (.ref f28))) (l28 : K.lookup f28 = some ⟨oc28, od28, .func (PySem.W.fnOf "_law_is_salt" "_law_is_salt" (defArgs s__law_is_salt) (defBody s__law_is_salt) (defScope s__law_is_salt) .none kV28 dc28 pm28 an28 cd28 ct28), sl28⟩) (c28 : PySem.W.codeIn K cd28 "_law_is_salt" = true) (k28 : PySem.W.keepIn K (.ref f28) = true)
    {f29 : Addr} {od29 an29 : Option Addr} {sl29 : Array (Option Value)} {oc29 kV29 dc29 pm29 cd29 ct29 : Value}
    (a29 : PySem.W.nsIn K mainGlobals "_law_due" = some (some (.ref f29))) (l29 : K.lookup f29 = some ⟨oc29, od29, .func (PySem.W.fnOf "_law_due" "_law_due" (defArgs s__law_due) (defBody s__law_due) (defScope s__law_due) .none kV29 dc29 pm29 an29 cd29 ct29), sl29⟩) (c29 : PySem.W.codeIn K cd29 "_law_due" = true) (k29 : PySem.W.keepIn K (.ref f29) = true)
    {f30 : Addr} {od30 an30 : Option Addr} {sl30 : Array (Option Value)} {oc30 kV30 dc30 pm30 cd30 ct30 : Value}
    (a30 : PySem.W.nsIn K mainGlobals "fraction" = some (some (.ref f30))) (l30 : K.lookup f30 = some ⟨oc30, od30, .func (PySem.W.fnOf "fraction" "fraction" (defArgs s_fraction) (defBody s_fraction) (defScope s_fraction) .none kV30 dc30 pm30 an30 cd30 ct30), sl30⟩) (c30 : PySem.W.codeIn K cd30 "fraction" = true) (k30 : PySem.W.keepIn K (.ref f30) = true)
    {f31 : Addr} {od31 an31 : Option Addr} {sl31 : Array (Option Value)} {oc31 kV31 dc31 pm31 cd31 ct31 : Value}
    (a31 : PySem.W.nsIn K mainGlobals "law" = some (some (.ref f31))) (l31 : K.lookup f31 = some ⟨oc31, od31, .func (PySem.W.fnOf "law" "law" (defArgs s_law) (defBody s_law) (defScope s_law) .none kV31 dc31 pm31 an31 cd31 ct31), sl31⟩) (c31 : PySem.W.codeIn K cd31 "law" = true) (k31 : PySem.W.keepIn K (.ref f31) = true)
    (z_abs : PySem.W.nsIn K mainGlobals "abs" = some none)
    (z_bool : PySem.W.nsIn K mainGlobals "bool" = some none)
    (z_enumerate : PySem.W.nsIn K mainGlobals "enumerate" = some none)
    (z_int : PySem.W.nsIn K mainGlobals "int" = some none)
    (z_isinstance : PySem.W.nsIn K mainGlobals "isinstance" = some none)
    (z_len : PySem.W.nsIn K mainGlobals "len" = some none)
    (z_list : PySem.W.nsIn K mainGlobals "list" = some none)
    (z_max : PySem.W.nsIn K mainGlobals "max" = some none)
    (z_range : PySem.W.nsIn K mainGlobals "range" = some none)
    (z_repr : PySem.W.nsIn K mainGlobals "repr" = some none)
    (z_str : PySem.W.nsIn K mainGlobals "str" = some none)
    (z_tuple : PySem.W.nsIn K mainGlobals "tuple" = some none)
    {c_NOUGHT : Addr} {od_NOUGHT : Option Addr} {n_NOUGHT : Nat} {sl_NOUGHT : Array (Option Value)} {t0_NOUGHT t1_NOUGHT : Tok} (m_NOUGHT : PySem.W.nsIn K mainGlobals "NOUGHT" = some (some (.ref c_NOUGHT))) (l_NOUGHT : K.lookup c_NOUGHT = some ⟨.type "tuple", od_NOUGHT, .seq #[.int 0 t0_NOUGHT, .int 1 t1_NOUGHT] n_NOUGHT, sl_NOUGHT⟩)
    {c_FORMS : Addr} (m_FORMS : PySem.W.nsIn K mainGlobals "FORMS" = some (some (.ref c_FORMS))) (dw_FORMS : He.dicW K c_FORMS = some (He.keysIn w.params ["pour", "lead", "let", "rake", "stir"]))
    (hv_FORMS_pour : PySem.W.nsIn K c_FORMS "pour" = some (some (.ref f17)))
    (hv_FORMS_lead : PySem.W.nsIn K c_FORMS "lead" = some (some (.ref f20)))
    (hv_FORMS_let : PySem.W.nsIn K c_FORMS "let" = some (some (.ref f21)))
    (hv_FORMS_rake : PySem.W.nsIn K c_FORMS "rake" = some (some (.ref f22)))
    (hv_FORMS_stir : PySem.W.nsIn K c_FORMS "stir" = some (some (.ref f22)))
    (ms_FORMS_0 : PySem.W.nsIn K c_FORMS "Rake" = some none)
    (ms_FORMS_1 : PySem.W.nsIn K c_FORMS "" = some none)
    (ms_FORMS_2 : PySem.W.nsIn K c_FORMS "stirs" = some none)
    (ms_FORMS_3 : PySem.W.nsIn K c_FORMS "0" = some none)
    (ms_FORMS_4 : PySem.W.nsIn K c_FORMS "under" = some none)
    (ms_FORMS_5 : PySem.W.nsIn K c_FORMS "over" = some none)
    (ms_FORMS_6 : PySem.W.nsIn K c_FORMS "Over" = some none)
    (ms_FORMS_7 : PySem.W.nsIn K c_FORMS "under " = some none)
    {c_NoFraction : Addr} (n_NoFraction : PySem.W.nsIn K mainGlobals "NoFraction" = some (some (.ref c_NoFraction)))
    (hg_NoFraction : PySem.W.findIn K (.ref c_NoFraction) "__getattribute__" = some (some (.builtin "BaseException.__getattribute__")))
    (hk_NoFraction : PySem.W.findIn K (.ref c_NoFraction) "__getattr__" = some none)
    (hd_NoFraction : PySem.W.hasDictIn K c_NoFraction = true)
    (ha_NoFraction : PySem.W.findIn K (.ref c_NoFraction) "__class__" = some (some (.builtin "object.__class__")))
    (hm_NoFraction : PySem.W.mroIn K c_NoFraction (.type "object") = some true)
    (hn_ : PySem.W.specialIn K (.builtin "object.__class__") "__get__" = some (some (.builtin "getset_descriptor.__get__")))
    (ht_ : PySem.W.takesIn K (.builtin "object.__class__") = some true)
    (b_NoFraction : PySem.W.subIn K (.ref c_NoFraction) (.type "BaseException") = some true)
    (t_NoFraction : PySem.W.typeIn K (.ref c_NoFraction) = some (.type "type"))
    (q_NoFraction : PySem.W.excIn K c_NoFraction [.type "ValueError", .type "Exception", .type "BaseException", .type "object"] "ValueError.__new__" = true)
    (k_NoFraction : PySem.W.keepIn K (.ref c_NoFraction) = true)
    : ∃ T : Top w K mg, T.a_law = f31 ∧ T.fd_law = PySem.W.fnOf "law" "law" (defArgs s_law) (defBody s_law) (defScope s_law) .none kV31 dc31 pm31 an31 cd31 ct31 := by
  have F0 := fun_mk (st := s__law_folded) l0 c0 k0
  have b0 := F0.binds (ps := ["script", "most"]) fun _ _ _ _ _ _ us hl => match us, hl with | [_, _], _ => rfl
  have F1 := fun_mk (st := s__law_pot) l1 c1 k1
  have b1 := F1.binds (ps := ["cell", "place"]) fun _ _ _ _ _ _ us hl => match us, hl with | [_, _], _ => rfl
  have F2 := fun_mk (st := s__law_take) l2 c2 k2
  have b2 := F2.binds (ps := ["pot", "many"]) fun _ _ _ _ _ _ us hl => match us, hl with | [_, _], _ => rfl
  have F3 := fun_mk (st := s__law_full) l3 c3 k3
  have b3 := F3.binds (ps := ["pot"]) fun _ _ _ _ _ _ us hl => match us, hl with | [_], _ => rfl
  have F4 := fun_mk (st := s__law_spoilt) l4 c4 k4
  have b4 := F4.binds (ps := ["pot", "deed"]) fun _ _ _ _ _ _ us hl => match us, hl with | [_, _], _ => rfl
  have F5 := fun_mk (st := s__law_low) l5 c5 k5
  have b5 := F5.binds (ps := ["a", "b"]) fun _ _ _ _ _ _ us hl => match us, hl with | [_, _], _ => rfl
  have F6 := fun_mk (st := s__law_any_water) l6 c6 k6
  have b6 := F6.binds (ps := ["pot"]) fun _ _ _ _ _ _ us hl => match us, hl with | [_], _ => rfl
  have F7 := fun_mk (st := s__law_any_pan) l7 c7 k7
  have b7 := F7.binds (ps := ["pot"]) fun _ _ _ _ _ _ us hl => match us, hl with | [_], _ => rfl
  have F8 := fun_mk (st := s__law_pour) l8 c8 k8
  have b8 := F8.binds (ps := ["pot", "full"]) fun _ _ _ _ _ _ us hl => match us, hl with | [_, _], _ => rfl
  have F9 := fun_mk (st := s__law_deed) l9 c9 k9
  have b9 := F9.binds (ps := ["pot", "full"]) fun _ _ _ _ _ _ us hl => match us, hl with | [_, _], _ => rfl
  have F10 := fun_mk (st := s_is_whole) l10 c10 k10
  have b10 := F10.binds (ps := ["thing"]) fun _ _ _ _ _ _ us hl => match us, hl with | [_], _ => rfl
  have F11 := fun_mk (st := s_common) l11 c11 k11
  have b11 := F11.binds (ps := ["a", "b"]) fun _ _ _ _ _ _ us hl => match us, hl with | [_, _], _ => rfl
  have F12 := fun_mk (st := s_is_fraction) l12 c12 k12
  have b12 := F12.binds (ps := ["thing"]) fun _ _ _ _ _ _ us hl => match us, hl with | [_], _ => rfl
  have F13 := fun_mk (st := s_is_less) l13 c13 k13
  have b13 := F13.binds (ps := ["one", "other"]) fun _ _ _ _ _ _ us hl => match us, hl with | [_, _], _ => rfl
  have F14 := fun_mk (st := s_times) l14 c14 k14
  have b14 := F14.binds (ps := ["one", "other"]) fun _ _ _ _ _ _ us hl => match us, hl with | [_, _], _ => rfl
  have F15 := fun_mk (st := s_is_layer) l15 c15 k15
  have b15 := F15.binds (ps := ["full", "thing"]) fun _ _ _ _ _ _ us hl => match us, hl with | [_, _], _ => rfl
  have F16 := fun_mk (st := s_is_wet) l16 c16 k16
  have b16 := F16.binds (ps := ["full", "water", "salt"]) fun _ _ _ _ _ _ us hl => match us, hl with | [_, _, _], _ => rfl
  have F17 := fun_mk (st := s_is_pouring) l17 c17 k17
  have b17 := F17.binds (ps := ["full", "rest"]) fun _ _ _ _ _ _ us hl => match us, hl with | [_, _], _ => rfl
  have F18 := fun_mk (st := s_is_positive) l18 c18 k18
  have b18 := F18.binds (ps := ["thing"]) fun _ _ _ _ _ _ us hl => match us, hl with | [_], _ => rfl
  have F19 := fun_mk (st := s_is_way) l19 c19 k19
  have b19 := F19.binds (ps := ["thing"]) fun _ _ _ _ _ _ us hl => match us, hl with | [_], _ => rfl
  have F20 := fun_mk (st := s_is_leading) l20 c20 k20
  have b20 := F20.binds (ps := ["full", "rest"]) fun _ _ _ _ _ _ us hl => match us, hl with | [_, _], _ => rfl
  have F21 := fun_mk (st := s_is_letting) l21 c21 k21
  have b21 := F21.binds (ps := ["full", "rest"]) fun _ _ _ _ _ _ us hl => match us, hl with | [_, _], _ => rfl
  have F22 := fun_mk (st := s_is_at_pan) l22 c22 k22
  have b22 := F22.binds (ps := ["full", "rest"]) fun _ _ _ _ _ _ us hl => match us, hl with | [_, _], _ => rfl
  have F23 := fun_mk (st := s_is_deed) l23 c23 k23
  have b23 := F23.binds (ps := ["works", "thing"]) fun _ _ _ _ _ _ us hl => match us, hl with | [_, _], _ => rfl
  have F24 := fun_mk (st := s__law_whole) l24 c24 k24
  have b24 := F24.binds (ps := ["thing"]) fun _ _ _ _ _ _ us hl => match us, hl with | [_], _ => rfl
  have F25 := fun_mk (st := s__law_is_water) l25 c25 k25
  have b25 := F25.binds (ps := ["thing"]) fun _ _ _ _ _ _ us hl => match us, hl with | [_], _ => rfl
  have F26 := fun_mk (st := s__law_under) l26 c26 k26
  have b26 := F26.binds (ps := ["one", "other"]) fun _ _ _ _ _ _ us hl => match us, hl with | [_, _], _ => rfl
  have F27 := fun_mk (st := s__law_times) l27 c27 k27
  have b27 := F27.binds (ps := ["one", "other"]) fun _ _ _ _ _ _ us hl => match us, hl with | [_, _], _ => rfl
  have F28 := fun_mk (st := s__law_is_salt) l28 c28 k28
  have b28 := F28.binds (ps := ["full", "water", "thing"]) fun _ _ _ _ _ _ us hl => match us, hl with | [_, _, _], _ => rfl
  have F29 := fun_mk (st := s__law_due) l29 c29 k29
  have b29 := F29.binds (ps := ["full", "thing"]) fun _ _ _ _ _ _ us hl => match us, hl with | [_, _], _ => rfl
  have F30 := fun_mk (st := s_fraction) l30 c30 k30
  have b30 := F30.binds (ps := ["a", "b"]) fun _ _ _ _ _ _ us hl => match us, hl with | [_, _], _ => rfl
  have F31 := fun_mk (st := s_law) l31 c31 k31
  have b31 := F31.binds (ps := ["script"]) fun _ _ _ _ _ _ us hl => match us, hl with | [_], _ => rfl
  exact ⟨⟨f0, _, F0, b0, PySem.W.mg_of X G a0, f1, _, F1, b1, PySem.W.mg_of X G a1, f2, _, F2, b2, PySem.W.mg_of X G a2, f3, _, F3, b3, PySem.W.mg_of X G a3, f4, _, F4, b4, PySem.W.mg_of X G a4, f5, _, F5, b5, PySem.W.mg_of X G a5, f6, _, F6, b6, PySem.W.mg_of X G a6, f7, _, F7, b7, PySem.W.mg_of X G a7, f8, _, F8, b8, PySem.W.mg_of X G a8, f9, _, F9, b9, PySem.W.mg_of X G a9, f10, _, F10, b10, PySem.W.mg_of X G a10, f11, _, F11, b11, PySem.W.mg_of X G a11, f12, _, F12, b12, PySem.W.mg_of X G a12, f13, _, F13, b13, PySem.W.mg_of X G a13, f14, _, F14, b14, PySem.W.mg_of X G a14, f15, _, F15, b15, PySem.W.mg_of X G a15, f16, _, F16, b16, PySem.W.mg_of X G a16, f17, _, F17, b17, PySem.W.mg_of X G a17, f18, _, F18, b18, PySem.W.mg_of X G a18, f19, _, F19, b19, PySem.W.mg_of X G a19, f20, _, F20, b20, PySem.W.mg_of X G a20, f21, _, F21, b21, PySem.W.mg_of X G a21, f22, _, F22, b22, PySem.W.mg_of X G a22, f23, _, F23, b23, PySem.W.mg_of X G a23, f24, _, F24, b24, PySem.W.mg_of X G a24, f25, _, F25, b25, PySem.W.mg_of X G a25, f26, _, F26, b26, PySem.W.mg_of X G a26, f27, _, F27, b27, PySem.W.mg_of X G a27, f28, _, F28, b28, PySem.W.mg_of X G a28, f29, _, F29, b29, PySem.W.mg_of X G a29, f30, _, F30, b30, PySem.W.mg_of X G a30, f31, _, F31, b31, PySem.W.mg_of X G a31, PySem.W.mg_none_of X G z_abs, PySem.W.mg_none_of X G z_bool, PySem.W.mg_none_of X G z_enumerate, PySem.W.mg_none_of X G z_int, PySem.W.mg_none_of X G z_isinstance, PySem.W.mg_none_of X G z_len, PySem.W.mg_none_of X G z_list, PySem.W.mg_none_of X G z_max, PySem.W.mg_none_of X G z_range, PySem.W.mg_none_of X G z_repr, PySem.W.mg_none_of X G z_str, PySem.W.mg_none_of X G z_tuple, c_NOUGHT, PySem.W.mg_of X G m_NOUGHT, rp_c2 l_NOUGHT, c_FORMS, PySem.W.mg_of X G m_FORMS, dw_FORMS, hv_FORMS_pour, hv_FORMS_lead, hv_FORMS_let, hv_FORMS_rake, hv_FORMS_stir, ms_FORMS_0, ms_FORMS_1, ms_FORMS_2, ms_FORMS_3, ms_FORMS_4, ms_FORMS_5, ms_FORMS_6, ms_FORMS_7, c_NoFraction, n_NoFraction, PySem.W.mg_of X G n_NoFraction, ⟨hg_NoFraction, hk_NoFraction, b_NoFraction, hd_NoFraction, ha_NoFraction, hn_, ht_, hm_NoFraction⟩, hd_NoFraction, b_NoFraction, t_NoFraction, q_NoFraction, k_NoFraction⟩, rfl, rfl⟩
set_option maxHeartbeats 0 in
theorem law_end {l : PySem.W.OpenLaw} {w : World} {fa : Addr} {K : PySem.W.Frag} {h : Heap} {mg : Str → Option Value} (X : K.In h) (G : h.Ns mainGlobals mg) (hfa : mg "law" = some (.ref fa))
    {f0 : Addr} {od0 an0 : Option Addr} {sl0 : Array (Option Value)} {oc0 kV0 dc0 pm0 cd0 ct0 : Value}
    (a0 : PySem.W.nsIn K mainGlobals "_law_folded" = some (some (.ref f0))) (l0 : K.lookup f0 = some ⟨oc0, od0, .func (PySem.W.fnOf "_law_folded" "_law_folded" (defArgs s__law_folded) (defBody s__law_folded) (defScope s__law_folded) .none kV0 dc0 pm0 an0 cd0 ct0), sl0⟩) (c0 : PySem.W.codeIn K cd0 "_law_folded" = true) (k0 : PySem.W.keepIn K (.ref f0) = true)
    {f1 : Addr} {od1 an1 : Option Addr} {sl1 : Array (Option Value)} {oc1 kV1 dc1 pm1 cd1 ct1 : Value}
    (a1 : PySem.W.nsIn K mainGlobals "_law_pot" = some (some (.ref f1))) (l1 : K.lookup f1 = some ⟨oc1, od1, .func (PySem.W.fnOf "_law_pot" "_law_pot" (defArgs s__law_pot) (defBody s__law_pot) (defScope s__law_pot) .none kV1 dc1 pm1 an1 cd1 ct1), sl1⟩) (c1 : PySem.W.codeIn K cd1 "_law_pot" = true) (k1 : PySem.W.keepIn K (.ref f1) = true)
    {f2 : Addr} {od2 an2 : Option Addr} {sl2 : Array (Option Value)} {oc2 kV2 dc2 pm2 cd2 ct2 : Value}
    (a2 : PySem.W.nsIn K mainGlobals "_law_take" = some (some (.ref f2))) (l2 : K.lookup f2 = some ⟨oc2, od2, .func (PySem.W.fnOf "_law_take" "_law_take" (defArgs s__law_take) (defBody s__law_take) (defScope s__law_take) .none kV2 dc2 pm2 an2 cd2 ct2), sl2⟩) (c2 : PySem.W.codeIn K cd2 "_law_take" = true) (k2 : PySem.W.keepIn K (.ref f2) = true)
    {f3 : Addr} {od3 an3 : Option Addr} {sl3 : Array (Option Value)} {oc3 kV3 dc3 pm3 cd3 ct3 : Value}
    (a3 : PySem.W.nsIn K mainGlobals "_law_full" = some (some (.ref f3))) (l3 : K.lookup f3 = some ⟨oc3, od3, .func (PySem.W.fnOf "_law_full" "_law_full" (defArgs s__law_full) (defBody s__law_full) (defScope s__law_full) .none kV3 dc3 pm3 an3 cd3 ct3), sl3⟩) (c3 : PySem.W.codeIn K cd3 "_law_full" = true) (k3 : PySem.W.keepIn K (.ref f3) = true)
    {f4 : Addr} {od4 an4 : Option Addr} {sl4 : Array (Option Value)} {oc4 kV4 dc4 pm4 cd4 ct4 : Value}
    (a4 : PySem.W.nsIn K mainGlobals "_law_spoilt" = some (some (.ref f4))) (l4 : K.lookup f4 = some ⟨oc4, od4, .func (PySem.W.fnOf "_law_spoilt" "_law_spoilt" (defArgs s__law_spoilt) (defBody s__law_spoilt) (defScope s__law_spoilt) .none kV4 dc4 pm4 an4 cd4 ct4), sl4⟩) (c4 : PySem.W.codeIn K cd4 "_law_spoilt" = true) (k4 : PySem.W.keepIn K (.ref f4) = true)
    {f5 : Addr} {od5 an5 : Option Addr} {sl5 : Array (Option Value)} {oc5 kV5 dc5 pm5 cd5 ct5 : Value}
    (a5 : PySem.W.nsIn K mainGlobals "_law_low" = some (some (.ref f5))) (l5 : K.lookup f5 = some ⟨oc5, od5, .func (PySem.W.fnOf "_law_low" "_law_low" (defArgs s__law_low) (defBody s__law_low) (defScope s__law_low) .none kV5 dc5 pm5 an5 cd5 ct5), sl5⟩) (c5 : PySem.W.codeIn K cd5 "_law_low" = true) (k5 : PySem.W.keepIn K (.ref f5) = true)
    {f6 : Addr} {od6 an6 : Option Addr} {sl6 : Array (Option Value)} {oc6 kV6 dc6 pm6 cd6 ct6 : Value}
    (a6 : PySem.W.nsIn K mainGlobals "_law_any_water" = some (some (.ref f6))) (l6 : K.lookup f6 = some ⟨oc6, od6, .func (PySem.W.fnOf "_law_any_water" "_law_any_water" (defArgs s__law_any_water) (defBody s__law_any_water) (defScope s__law_any_water) .none kV6 dc6 pm6 an6 cd6 ct6), sl6⟩) (c6 : PySem.W.codeIn K cd6 "_law_any_water" = true) (k6 : PySem.W.keepIn K (.ref f6) = true)
    {f7 : Addr} {od7 an7 : Option Addr} {sl7 : Array (Option Value)} {oc7 kV7 dc7 pm7 cd7 ct7 : Value}
    (a7 : PySem.W.nsIn K mainGlobals "_law_any_pan" = some (some (.ref f7))) (l7 : K.lookup f7 = some ⟨oc7, od7, .func (PySem.W.fnOf "_law_any_pan" "_law_any_pan" (defArgs s__law_any_pan) (defBody s__law_any_pan) (defScope s__law_any_pan) .none kV7 dc7 pm7 an7 cd7 ct7), sl7⟩) (c7 : PySem.W.codeIn K cd7 "_law_any_pan" = true) (k7 : PySem.W.keepIn K (.ref f7) = true)
    {f8 : Addr} {od8 an8 : Option Addr} {sl8 : Array (Option Value)} {oc8 kV8 dc8 pm8 cd8 ct8 : Value}
    (a8 : PySem.W.nsIn K mainGlobals "_law_pour" = some (some (.ref f8))) (l8 : K.lookup f8 = some ⟨oc8, od8, .func (PySem.W.fnOf "_law_pour" "_law_pour" (defArgs s__law_pour) (defBody s__law_pour) (defScope s__law_pour) .none kV8 dc8 pm8 an8 cd8 ct8), sl8⟩) (c8 : PySem.W.codeIn K cd8 "_law_pour" = true) (k8 : PySem.W.keepIn K (.ref f8) = true)
    {f9 : Addr} {od9 an9 : Option Addr} {sl9 : Array (Option Value)} {oc9 kV9 dc9 pm9 cd9 ct9 : Value}
    (a9 : PySem.W.nsIn K mainGlobals "_law_deed" = some (some (.ref f9))) (l9 : K.lookup f9 = some ⟨oc9, od9, .func (PySem.W.fnOf "_law_deed" "_law_deed" (defArgs s__law_deed) (defBody s__law_deed) (defScope s__law_deed) .none kV9 dc9 pm9 an9 cd9 ct9), sl9⟩) (c9 : PySem.W.codeIn K cd9 "_law_deed" = true) (k9 : PySem.W.keepIn K (.ref f9) = true)
    {f10 : Addr} {od10 an10 : Option Addr} {sl10 : Array (Option Value)} {oc10 kV10 dc10 pm10 cd10 ct10 : Value}
    (a10 : PySem.W.nsIn K mainGlobals "is_whole" = some (some (.ref f10))) (l10 : K.lookup f10 = some ⟨oc10, od10, .func (PySem.W.fnOf "is_whole" "is_whole" (defArgs s_is_whole) (defBody s_is_whole) (defScope s_is_whole) .none kV10 dc10 pm10 an10 cd10 ct10), sl10⟩) (c10 : PySem.W.codeIn K cd10 "is_whole" = true) (k10 : PySem.W.keepIn K (.ref f10) = true)
    {f11 : Addr} {od11 an11 : Option Addr} {sl11 : Array (Option Value)} {oc11 kV11 dc11 pm11 cd11 ct11 : Value}
    (a11 : PySem.W.nsIn K mainGlobals "common" = some (some (.ref f11))) (l11 : K.lookup f11 = some ⟨oc11, od11, .func (PySem.W.fnOf "common" "common" (defArgs s_common) (defBody s_common) (defScope s_common) .none kV11 dc11 pm11 an11 cd11 ct11), sl11⟩) (c11 : PySem.W.codeIn K cd11 "common" = true) (k11 : PySem.W.keepIn K (.ref f11) = true)
    {f12 : Addr} {od12 an12 : Option Addr} {sl12 : Array (Option Value)} {oc12 kV12 dc12 pm12 cd12 ct12 : Value}
    (a12 : PySem.W.nsIn K mainGlobals "is_fraction" = some (some (.ref f12))) (l12 : K.lookup f12 = some ⟨oc12, od12, .func (PySem.W.fnOf "is_fraction" "is_fraction" (defArgs s_is_fraction) (defBody s_is_fraction) (defScope s_is_fraction) .none kV12 dc12 pm12 an12 cd12 ct12), sl12⟩) (c12 : PySem.W.codeIn K cd12 "is_fraction" = true) (k12 : PySem.W.keepIn K (.ref f12) = true)
    {f13 : Addr} {od13 an13 : Option Addr} {sl13 : Array (Option Value)} {oc13 kV13 dc13 pm13 cd13 ct13 : Value}
    (a13 : PySem.W.nsIn K mainGlobals "is_less" = some (some (.ref f13))) (l13 : K.lookup f13 = some ⟨oc13, od13, .func (PySem.W.fnOf "is_less" "is_less" (defArgs s_is_less) (defBody s_is_less) (defScope s_is_less) .none kV13 dc13 pm13 an13 cd13 ct13), sl13⟩) (c13 : PySem.W.codeIn K cd13 "is_less" = true) (k13 : PySem.W.keepIn K (.ref f13) = true)
    {f14 : Addr} {od14 an14 : Option Addr} {sl14 : Array (Option Value)} {oc14 kV14 dc14 pm14 cd14 ct14 : Value}
    (a14 : PySem.W.nsIn K mainGlobals "times" = some (some (.ref f14))) (l14 : K.lookup f14 = some ⟨oc14, od14, .func (PySem.W.fnOf "times" "times" (defArgs s_times) (defBody s_times) (defScope s_times) .none kV14 dc14 pm14 an14 cd14 ct14), sl14⟩) (c14 : PySem.W.codeIn K cd14 "times" = true) (k14 : PySem.W.keepIn K (.ref f14) = true)
    {f15 : Addr} {od15 an15 : Option Addr} {sl15 : Array (Option Value)} {oc15 kV15 dc15 pm15 cd15 ct15 : Value}
    (a15 : PySem.W.nsIn K mainGlobals "is_layer" = some (some (.ref f15))) (l15 : K.lookup f15 = some ⟨oc15, od15, .func (PySem.W.fnOf "is_layer" "is_layer" (defArgs s_is_layer) (defBody s_is_layer) (defScope s_is_layer) .none kV15 dc15 pm15 an15 cd15 ct15), sl15⟩) (c15 : PySem.W.codeIn K cd15 "is_layer" = true) (k15 : PySem.W.keepIn K (.ref f15) = true)
    {f16 : Addr} {od16 an16 : Option Addr} {sl16 : Array (Option Value)} {oc16 kV16 dc16 pm16 cd16 ct16 : Value}
    (a16 : PySem.W.nsIn K mainGlobals "is_wet" = some (some (.ref f16))) (l16 : K.lookup f16 = some ⟨oc16, od16, .func (PySem.W.fnOf "is_wet" "is_wet" (defArgs s_is_wet) (defBody s_is_wet) (defScope s_is_wet) .none kV16 dc16 pm16 an16 cd16 ct16), sl16⟩) (c16 : PySem.W.codeIn K cd16 "is_wet" = true) (k16 : PySem.W.keepIn K (.ref f16) = true)
    {f17 : Addr} {od17 an17 : Option Addr} {sl17 : Array (Option Value)} {oc17 kV17 dc17 pm17 cd17 ct17 : Value}
    (a17 : PySem.W.nsIn K mainGlobals "is_pouring" = some (some (.ref f17))) (l17 : K.lookup f17 = some ⟨oc17, od17, .func (PySem.W.fnOf "is_pouring" "is_pouring" (defArgs s_is_pouring) (defBody s_is_pouring) (defScope s_is_pouring) .none kV17 dc17 pm17 an17 cd17 ct17), sl17⟩) (c17 : PySem.W.codeIn K cd17 "is_pouring" = true) (k17 : PySem.W.keepIn K (.ref f17) = true)
    {f18 : Addr} {od18 an18 : Option Addr} {sl18 : Array (Option Value)} {oc18 kV18 dc18 pm18 cd18 ct18 : Value}
    (a18 : PySem.W.nsIn K mainGlobals "is_positive" = some (some (.ref f18))) (l18 : K.lookup f18 = some ⟨oc18, od18, .func (PySem.W.fnOf "is_positive" "is_positive" (defArgs s_is_positive) (defBody s_is_positive) (defScope s_is_positive) .none kV18 dc18 pm18 an18 cd18 ct18), sl18⟩) (c18 : PySem.W.codeIn K cd18 "is_positive" = true) (k18 : PySem.W.keepIn K (.ref f18) = true)
    {f19 : Addr} {od19 an19 : Option Addr} {sl19 : Array (Option Value)} {oc19 kV19 dc19 pm19 cd19 ct19 : Value}
    (a19 : PySem.W.nsIn K mainGlobals "is_way" = some (some (.ref f19))) (l19 : K.lookup f19 = some ⟨oc19, od19, .func (PySem.W.fnOf "is_way" "is_way" (defArgs s_is_way) (defBody s_is_way) (defScope s_is_way) .none kV19 dc19 pm19 an19 cd19 ct19), sl19⟩) (c19 : PySem.W.codeIn K cd19 "is_way" = true) (k19 : PySem.W.keepIn K (.ref f19) = true)
    {f20 : Addr} {od20 an20 : Option Addr} {sl20 : Array (Option Value)} {oc20 kV20 dc20 pm20 cd20 ct20 : Value}
    (a20 : PySem.W.nsIn K mainGlobals "is_leading" = some (some (.ref f20))) (l20 : K.lookup f20 = some ⟨oc20, od20, .func (PySem.W.fnOf "is_leading" "is_leading" (defArgs s_is_leading) (defBody s_is_leading) (defScope s_is_leading) .none kV20 dc20 pm20 an20 cd20 ct20), sl20⟩) (c20 : PySem.W.codeIn K cd20 "is_leading" = true) (k20 : PySem.W.keepIn K (.ref f20) = true)
    {f21 : Addr} {od21 an21 : Option Addr} {sl21 : Array (Option Value)} {oc21 kV21 dc21 pm21 cd21 ct21 : Value}
    (a21 : PySem.W.nsIn K mainGlobals "is_letting" = some (some (.ref f21))) (l21 : K.lookup f21 = some ⟨oc21, od21, .func (PySem.W.fnOf "is_letting" "is_letting" (defArgs s_is_letting) (defBody s_is_letting) (defScope s_is_letting) .none kV21 dc21 pm21 an21 cd21 ct21), sl21⟩) (c21 : PySem.W.codeIn K cd21 "is_letting" = true) (k21 : PySem.W.keepIn K (.ref f21) = true)
    {f22 : Addr} {od22 an22 : Option Addr} {sl22 : Array (Option Value)} {oc22 kV22 dc22 pm22 cd22 ct22 : Value}
    (a22 : PySem.W.nsIn K mainGlobals "is_at_pan" = some (some (.ref f22))) (l22 : K.lookup f22 = some ⟨oc22, od22, .func (PySem.W.fnOf "is_at_pan" "is_at_pan" (defArgs s_is_at_pan) (defBody s_is_at_pan) (defScope s_is_at_pan) .none kV22 dc22 pm22 an22 cd22 ct22), sl22⟩) (c22 : PySem.W.codeIn K cd22 "is_at_pan" = true) (k22 : PySem.W.keepIn K (.ref f22) = true)
    {f23 : Addr} {od23 an23 : Option Addr} {sl23 : Array (Option Value)} {oc23 kV23 dc23 pm23 cd23 ct23 : Value}
    (a23 : PySem.W.nsIn K mainGlobals "is_deed" = some (some (.ref f23))) (l23 : K.lookup f23 = some ⟨oc23, od23, .func (PySem.W.fnOf "is_deed" "is_deed" (defArgs s_is_deed) (defBody s_is_deed) (defScope s_is_deed) .none kV23 dc23 pm23 an23 cd23 ct23), sl23⟩) (c23 : PySem.W.codeIn K cd23 "is_deed" = true) (k23 : PySem.W.keepIn K (.ref f23) = true)
    {f24 : Addr} {od24 an24 : Option Addr} {sl24 : Array (Option Value)} {oc24 kV24 dc24 pm24 cd24 ct24 : Value}
    (a24 : PySem.W.nsIn K mainGlobals "_law_whole" = some (some (.ref f24))) (l24 : K.lookup f24 = some ⟨oc24, od24, .func (PySem.W.fnOf "_law_whole" "_law_whole" (defArgs s__law_whole) (defBody s__law_whole) (defScope s__law_whole) .none kV24 dc24 pm24 an24 cd24 ct24), sl24⟩) (c24 : PySem.W.codeIn K cd24 "_law_whole" = true) (k24 : PySem.W.keepIn K (.ref f24) = true)
    {f25 : Addr} {od25 an25 : Option Addr} {sl25 : Array (Option Value)} {oc25 kV25 dc25 pm25 cd25 ct25 : Value}
    (a25 : PySem.W.nsIn K mainGlobals "_law_is_water" = some (some (.ref f25))) (l25 : K.lookup f25 = some ⟨oc25, od25, .func (PySem.W.fnOf "_law_is_water" "_law_is_water" (defArgs s__law_is_water) (defBody s__law_is_water) (defScope s__law_is_water) .none kV25 dc25 pm25 an25 cd25 ct25), sl25⟩) (c25 : PySem.W.codeIn K cd25 "_law_is_water" = true) (k25 : PySem.W.keepIn K (.ref f25) = true)
    {f26 : Addr} {od26 an26 : Option Addr} {sl26 : Array (Option Value)} {oc26 kV26 dc26 pm26 cd26 ct26 : Value}
    (a26 : PySem.W.nsIn K mainGlobals "_law_under" = some (some (.ref f26))) (l26 : K.lookup f26 = some ⟨oc26, od26, .func (PySem.W.fnOf "_law_under" "_law_under" (defArgs s__law_under) (defBody s__law_under) (defScope s__law_under) .none kV26 dc26 pm26 an26 cd26 ct26), sl26⟩) (c26 : PySem.W.codeIn K cd26 "_law_under" = true) (k26 : PySem.W.keepIn K (.ref f26) = true)
    {f27 : Addr} {od27 an27 : Option Addr} {sl27 : Array (Option Value)} {oc27 kV27 dc27 pm27 cd27 ct27 : Value}
    (a27 : PySem.W.nsIn K mainGlobals "_law_times" = some (some (.ref f27))) (l27 : K.lookup f27 = some ⟨oc27, od27, .func (PySem.W.fnOf "_law_times" "_law_times" (defArgs s__law_times) (defBody s__law_times) (defScope s__law_times) .none kV27 dc27 pm27 an27 cd27 ct27), sl27⟩) (c27 : PySem.W.codeIn K cd27 "_law_times" = true) (k27 : PySem.W.keepIn K (.ref f27) = true)
    {f28 : Addr} {od28 an28 : Option Addr} {sl28 : Array (Option Value)} {oc28 kV28 dc28 pm28 cd28 ct28 : Value}
    (a28 : PySem.W.nsIn K mainGlobals "_law_is_salt" = some (some (.ref f28))) (l28 : K.lookup f28 = some ⟨oc28, od28, .func (PySem.W.fnOf "_law_is_salt" "_law_is_salt" (defArgs s__law_is_salt) (defBody s__law_is_salt) (defScope s__law_is_salt) .none kV28 dc28 pm28 an28 cd28 ct28), sl28⟩) (c28 : PySem.W.codeIn K cd28 "_law_is_salt" = true) (k28 : PySem.W.keepIn K (.ref f28) = true)
    {f29 : Addr} {od29 an29 : Option Addr} {sl29 : Array (Option Value)} {oc29 kV29 dc29 pm29 cd29 ct29 : Value}
    (a29 : PySem.W.nsIn K mainGlobals "_law_due" = some (some (.ref f29))) (l29 : K.lookup f29 = some ⟨oc29, od29, .func (PySem.W.fnOf "_law_due" "_law_due" (defArgs s__law_due) (defBody s__law_due) (defScope s__law_due) .none kV29 dc29 pm29 an29 cd29 ct29), sl29⟩) (c29 : PySem.W.codeIn K cd29 "_law_due" = true) (k29 : PySem.W.keepIn K (.ref f29) = true)
    {f30 : Addr} {od30 an30 : Option Addr} {sl30 : Array (Option Value)} {oc30 kV30 dc30 pm30 cd30 ct30 : Value}
    (a30 : PySem.W.nsIn K mainGlobals "fraction" = some (some (.ref f30))) (l30 : K.lookup f30 = some ⟨oc30, od30, .func (PySem.W.fnOf "fraction" "fraction" (defArgs s_fraction) (defBody s_fraction) (defScope s_fraction) .none kV30 dc30 pm30 an30 cd30 ct30), sl30⟩) (c30 : PySem.W.codeIn K cd30 "fraction" = true) (k30 : PySem.W.keepIn K (.ref f30) = true)
    {f31 : Addr} {od31 an31 : Option Addr} {sl31 : Array (Option Value)} {oc31 kV31 dc31 pm31 cd31 ct31 : Value}
    (a31 : PySem.W.nsIn K mainGlobals "law" = some (some (.ref f31))) (l31 : K.lookup f31 = some ⟨oc31, od31, .func (PySem.W.fnOf "law" "law" (defArgs s_law) (defBody s_law) (defScope s_law) .none kV31 dc31 pm31 an31 cd31 ct31), sl31⟩) (c31 : PySem.W.codeIn K cd31 "law" = true) (k31 : PySem.W.keepIn K (.ref f31) = true)
    (z_abs : PySem.W.nsIn K mainGlobals "abs" = some none)
    (z_bool : PySem.W.nsIn K mainGlobals "bool" = some none)
    (z_enumerate : PySem.W.nsIn K mainGlobals "enumerate" = some none)
    (z_int : PySem.W.nsIn K mainGlobals "int" = some none)
    (z_isinstance : PySem.W.nsIn K mainGlobals "isinstance" = some none)
    (z_len : PySem.W.nsIn K mainGlobals "len" = some none)
    (z_list : PySem.W.nsIn K mainGlobals "list" = some none)
    (z_max : PySem.W.nsIn K mainGlobals "max" = some none)
    (z_range : PySem.W.nsIn K mainGlobals "range" = some none)
    (z_repr : PySem.W.nsIn K mainGlobals "repr" = some none)
    (z_str : PySem.W.nsIn K mainGlobals "str" = some none)
    (z_tuple : PySem.W.nsIn K mainGlobals "tuple" = some none)
    {c_NOUGHT : Addr} {od_NOUGHT : Option Addr} {n_NOUGHT : Nat} {sl_NOUGHT : Array (Option Value)} {t0_NOUGHT t1_NOUGHT : Tok} (m_NOUGHT : PySem.W.nsIn K mainGlobals "NOUGHT" = some (some (.ref c_NOUGHT))) (l_NOUGHT : K.lookup c_NOUGHT = some ⟨.type "tuple", od_NOUGHT, .seq #[.int 0 t0_NOUGHT, .int 1 t1_NOUGHT] n_NOUGHT, sl_NOUGHT⟩)
    {c_FORMS : Addr} (m_FORMS : PySem.W.nsIn K mainGlobals "FORMS" = some (some (.ref c_FORMS))) (dw_FORMS : He.dicW K c_FORMS = some (He.keysIn w.params ["pour", "lead", "let", "rake", "stir"]))
    (hv_FORMS_pour : PySem.W.nsIn K c_FORMS "pour" = some (some (.ref f17)))
    (hv_FORMS_lead : PySem.W.nsIn K c_FORMS "lead" = some (some (.ref f20)))
    (hv_FORMS_let : PySem.W.nsIn K c_FORMS "let" = some (some (.ref f21)))
    (hv_FORMS_rake : PySem.W.nsIn K c_FORMS "rake" = some (some (.ref f22)))
    (hv_FORMS_stir : PySem.W.nsIn K c_FORMS "stir" = some (some (.ref f22)))
    (ms_FORMS_0 : PySem.W.nsIn K c_FORMS "Rake" = some none)
    (ms_FORMS_1 : PySem.W.nsIn K c_FORMS "" = some none)
    (ms_FORMS_2 : PySem.W.nsIn K c_FORMS "stirs" = some none)
    (ms_FORMS_3 : PySem.W.nsIn K c_FORMS "0" = some none)
    (ms_FORMS_4 : PySem.W.nsIn K c_FORMS "under" = some none)
    (ms_FORMS_5 : PySem.W.nsIn K c_FORMS "over" = some none)
    (ms_FORMS_6 : PySem.W.nsIn K c_FORMS "Over" = some none)
    (ms_FORMS_7 : PySem.W.nsIn K c_FORMS "under " = some none)
    {c_NoFraction : Addr} (n_NoFraction : PySem.W.nsIn K mainGlobals "NoFraction" = some (some (.ref c_NoFraction)))
    (hg_NoFraction : PySem.W.findIn K (.ref c_NoFraction) "__getattribute__" = some (some (.builtin "BaseException.__getattribute__")))
    (hk_NoFraction : PySem.W.findIn K (.ref c_NoFraction) "__getattr__" = some none)
    (hd_NoFraction : PySem.W.hasDictIn K c_NoFraction = true)
    (ha_NoFraction : PySem.W.findIn K (.ref c_NoFraction) "__class__" = some (some (.builtin "object.__class__")))
    (hm_NoFraction : PySem.W.mroIn K c_NoFraction (.type "object") = some true)
    (hn_ : PySem.W.specialIn K (.builtin "object.__class__") "__get__" = some (some (.builtin "getset_descriptor.__get__")))
    (ht_ : PySem.W.takesIn K (.builtin "object.__class__") = some true)
    (b_NoFraction : PySem.W.subIn K (.ref c_NoFraction) (.type "BaseException") = some true)
    (t_NoFraction : PySem.W.typeIn K (.ref c_NoFraction) = some (.type "type"))
    (q_NoFraction : PySem.W.excIn K c_NoFraction [.type "ValueError", .type "Exception", .type "BaseException", .type "object"] "ValueError.__new__" = true)
    (k_NoFraction : PySem.W.keepIn K (.ref c_NoFraction) = true)
    : ∃ fd : FuncData, (∀ (s : Shared) (v : Value), BindsTo s fd ⟨[v], []⟩ [("script", v)]) ∧ ∀ base : Heap, K.In base → base.Ns mainGlobals mg → GOk l.prog w K mg base CX0 7 fa fd ["script"] (spL K 1 F_law) := by
  obtain ⟨T, e1, e2⟩ := all_mk X G a0 l0 c0 k0 a1 l1 c1 k1 a2 l2 c2 k2 a3 l3 c3 k3 a4 l4 c4 k4 a5 l5 c5 k5 a6 l6 c6 k6 a7 l7 c7 k7 a8 l8 c8 k8 a9 l9 c9 k9 a10 l10 c10 k10 a11 l11 c11 k11 a12 l12 c12 k12 a13 l13 c13 k13 a14 l14 c14 k14 a15 l15 c15 k15 a16 l16 c16 k16 a17 l17 c17 k17 a18 l18 c18 k18 a19 l19 c19 k19 a20 l20 c20 k20 a21 l21 c21 k21 a22 l22 c22 k22 a23 l23 c23 k23 a24 l24 c24 k24 a25 l25 c25 k25 a26 l26 c26 k26 a27 l27 c27 k27 a28 l28 c28 k28 a29 l29 c29 k29 a30 l30 c30 k30 a31 l31 c31 k31 z_abs z_bool z_enumerate z_int z_isinstance z_len z_list z_max z_range z_repr z_str z_tuple m_NOUGHT l_NOUGHT m_FORMS dw_FORMS hv_FORMS_pour hv_FORMS_lead hv_FORMS_let hv_FORMS_rake hv_FORMS_stir ms_FORMS_0 ms_FORMS_1 ms_FORMS_2 ms_FORMS_3 ms_FORMS_4 ms_FORMS_5 ms_FORMS_6 ms_FORMS_7 n_NoFraction hg_NoFraction hk_NoFraction hd_NoFraction ha_NoFraction hm_NoFraction hn_ ht_ b_NoFraction t_NoFraction q_NoFraction k_NoFraction
  have e := hfa.symm.trans (PySem.W.mg_of X G a31)
  cases e
  exact ⟨PySem.W.fnOf "law" "law" (defArgs s_law) (defBody s_law) (defScope s_law) .none kV31 dc31 pm31 an31 cd31 ct31, fun s v => .of_eq rfl, fun base _ _ => by have := ok_law (P := l.prog) (w := w) (base := base) T; rw [e1, e2] at this; exact this.imp spL_imp⟩
theorem np_int (i : Int) : (D.int i).np = true := rfl
theorem np_bl (i : Bool) : (D.bl i).np = true := rfl
theorem np_tup (i : List D) : (D.tup i).np = true := rfl
theorem np_lst (i : List D) : (D.lst i).np = true := rfl
theorem np_str (i : Str) : (D.str i).np = true := rfl
theorem np_non : D.non.np = true := rfl
theorem if_true_ {α : Type} (a b : α) : (if true = true then a else b) = a := rfl
theorem if_false_ {α : Type} (a b : α) : (if false = true then a else b) = b := rfl
theorem zero_add' (n : Nat) : 0 + n = n := Nat.zero_add n
theorem nat_lt_pow {n k : Nat} (m : Nat) (h : n < 2 ^ k) (l : k ≤ m) : n < 2 ^ m := Nat.lt_of_lt_of_le h (Nat.pow_le_pow_right (by decide) l)
theorem if_tt {α : Type} (a b : α) : (if True then a else b) = a := if_pos trivial
theorem if_ff {α : Type} (a b : α) : (if False then a else b) = b := if_neg id
/-! common -/
theorem common_loop : ∀ (n : Nat) (a b : Int) (M : Mem), b.natAbs < n → ∃ a', a'.natAbs = Int.gcd a b ∧
    whileF (bnd (bnd (dVar 1) fun d => bnd (ret (.int 0)) fun e => oNe d e) asB) den_common_L1 n [some (.int a), some (.int b)] M = some (.nx [some (.int a'), some (.int 0)], M)
  | 0, a, b, M, h => absurd h (by omega)
  | n + 1, a, b, M, h => by
    by_cases hb : b = 0
    · subst hb
      refine ⟨a, by simp, ?_⟩
      unfold whileF
      simp -implicitDefEqProofs only [sSeq_ap, sAsg_ap, sPar_ap, sRet_ap, sIf_ap, sExpr_ap, sNext_ap, bnd_ap, ret_ap, bindR_ok, thenR_ok, dVar_ap, varR_ok, seqR_nx, seqR_rt, asgR_ok, gNm_ap, gCn_ap, gcnR_ok, gNl_ap, gTp_fr, gTp_ap, gLs_ap, dCons_ap, dNil_ap, asB_ap, dOr_ap, dAnd_ap, dNot_ap, dAndV_ap, dOrV_ap, dNotV_ap, dIf_ap, oAdd_int, oSub_int, oLt_int, oLe_int, oGt_int, oGe_int, oNeg_int, oEq_int, oNe_int, oEq_fr, oNe_fr, oEq_bl, oNe_bl, oTup_ap, oLst_ap, oCall_ap, oAbs_ap, oMax_ap, oMin_ap, oToInt_b, oToInt_i, oLen_lst, oLen_scr, oLen_tup, oIx_lst, oIx_scr, oAdd_lst, oIx_tup, oIx_fr0, oIx_fr1, ixR_ok, oItL_ap, oItT_ap, sFor_ap, startD, List.map_cons, List.map_nil, List.length_cons, List.length_nil, List.replicate_succ, List.replicate_zero, List.cons_append, List.nil_append, List.append_nil, List.getElem?_cons_zero, List.getElem?_cons_succ, List.set_cons_zero, List.set_cons_succ, Nat.reduceAdd, Nat.reduceSub, Nat.sub_self, Nat.reduceLeDiff, List.all_cons, List.all_nil, np_fr, np_int, np_bl, np_tup, np_lst, np_str, np_non, Bool.and_self, Bool.and_true, if_true_, if_false_, zero_add', if_tt, if_ff, decide_true, decide_false, Nat.le_refl, oItS_lst, oItS_tup, oTupOf_lst, oTupOf_tup, oLstOf_lst, oLstOf_tup, oRv_lst, oRv_tup, oAdd_tup, dChain_ap, asTru_bl, asTru_tup, asTru_lst, oIsN_ap, oNotN_ap, asI_ap, oSl_tup, oSl_lst, oZip_tup, oZip_lst, oAddI_ap, oEqS_ap, oNeS_ap, oNe_nil, Bool.not_true, Bool.false_eq_true]
    · obtain ⟨a', e1, e2⟩ := common_loop n b (a.fmod b) M (by have := natAbs_fmod_lt a hb; omega)
      refine ⟨a', by rw [e1, gcd_fmod], ?_⟩
      unfold whileF
      simp -implicitDefEqProofs only [sSeq_ap, sAsg_ap, sPar_ap, sRet_ap, sIf_ap, sExpr_ap, sNext_ap, bnd_ap, ret_ap, bindR_ok, thenR_ok, dVar_ap, varR_ok, seqR_nx, seqR_rt, asgR_ok, gNm_ap, gCn_ap, gcnR_ok, gNl_ap, gTp_fr, gTp_ap, gLs_ap, dCons_ap, dNil_ap, asB_ap, dOr_ap, dAnd_ap, dNot_ap, dAndV_ap, dOrV_ap, dNotV_ap, dIf_ap, oAdd_int, oSub_int, oLt_int, oLe_int, oGt_int, oGe_int, oNeg_int, oEq_int, oNe_int, oEq_fr, oNe_fr, oEq_bl, oNe_bl, oTup_ap, oLst_ap, oCall_ap, oAbs_ap, oMax_ap, oMin_ap, oToInt_b, oToInt_i, oLen_lst, oLen_scr, oLen_tup, oIx_lst, oIx_scr, oAdd_lst, oIx_tup, oIx_fr0, oIx_fr1, ixR_ok, oItL_ap, oItT_ap, sFor_ap, startD, List.map_cons, List.map_nil, List.length_cons, List.length_nil, List.replicate_succ, List.replicate_zero, List.cons_append, List.nil_append, List.append_nil, List.getElem?_cons_zero, List.getElem?_cons_succ, List.set_cons_zero, List.set_cons_succ, Nat.reduceAdd, Nat.reduceSub, Nat.sub_self, Nat.reduceLeDiff, List.all_cons, List.all_nil, np_fr, np_int, np_bl, np_tup, np_lst, np_str, np_non, Bool.and_self, Bool.and_true, if_true_, if_false_, zero_add', if_tt, if_ff, decide_true, decide_false, Nat.le_refl, oItS_lst, oItS_tup, oTupOf_lst, oTupOf_tup, oLstOf_lst, oLstOf_tup, oRv_lst, oRv_tup, oAdd_tup, dChain_ap, asTru_bl, asTru_tup, asTru_lst, oIsN_ap, oNotN_ap, asI_ap, oSl_tup, oSl_lst, oZip_tup, oZip_lst, oAddI_ap, oEqS_ap, oNeS_ap, oNe_nil, hb, Bool.not_false]
      have e4 : den_common_L1 [some (.int a), some (.int b)] M = some (.nx [some (.int b), some (.int (a.fmod b))], M) := by
        simp -implicitDefEqProofs only [den_common_L1, sSeq_ap, sAsg_ap, sPar_ap, sRet_ap, sIf_ap, sExpr_ap, sNext_ap, bnd_ap, ret_ap, bindR_ok, thenR_ok, dVar_ap, varR_ok, seqR_nx, seqR_rt, asgR_ok, gNm_ap, gCn_ap, gcnR_ok, gNl_ap, gTp_fr, gTp_ap, gLs_ap, dCons_ap, dNil_ap, asB_ap, dOr_ap, dAnd_ap, dNot_ap, dAndV_ap, dOrV_ap, dNotV_ap, dIf_ap, oAdd_int, oSub_int, oLt_int, oLe_int, oGt_int, oGe_int, oNeg_int, oEq_int, oNe_int, oEq_fr, oNe_fr, oEq_bl, oNe_bl, oTup_ap, oLst_ap, oCall_ap, oAbs_ap, oMax_ap, oMin_ap, oToInt_b, oToInt_i, oLen_lst, oLen_scr, oLen_tup, oIx_lst, oIx_scr, oAdd_lst, oIx_tup, oIx_fr0, oIx_fr1, ixR_ok, oItL_ap, oItT_ap, sFor_ap, startD, List.map_cons, List.map_nil, List.length_cons, List.length_nil, List.replicate_succ, List.replicate_zero, List.cons_append, List.nil_append, List.append_nil, List.getElem?_cons_zero, List.getElem?_cons_succ, List.set_cons_zero, List.set_cons_succ, Nat.reduceAdd, Nat.reduceSub, Nat.sub_self, Nat.reduceLeDiff, List.all_cons, List.all_nil, np_fr, np_int, np_bl, np_tup, np_lst, np_str, np_non, Bool.and_self, Bool.and_true, if_true_, if_false_, zero_add', if_tt, if_ff, decide_true, decide_false, Nat.le_refl, oItS_lst, oItS_tup, oTupOf_lst, oTupOf_tup, oLstOf_lst, oLstOf_tup, oRv_lst, oRv_tup, oAdd_tup, dChain_ap, asTru_bl, asTru_tup, asTru_lst, oIsN_ap, oNotN_ap, asI_ap, oSl_tup, oSl_lst, oZip_tup, oZip_lst, oAddI_ap, oEqS_ap, oNeS_ap, oNe_nil, oMod_int hb]
      simp -implicitDefEqProofs only [e4, e2]
theorem common_eq (a b : Int) (M : Mem) : F_common [.int a, .int b] M = some (.ok (.int (Int.gcd a b : Nat)), M) := by
  obtain ⟨a', e1, e2⟩ := common_loop (b.natAbs + 1) a b M (by omega)
  refine runF_pure ?_ rfl
  have e3 := sWhile_eq e2
  simp -implicitDefEqProofs only [den_common, sSeq_ap, sAsg_ap, sPar_ap, sRet_ap, sIf_ap, sExpr_ap, sNext_ap, bnd_ap, ret_ap, bindR_ok, thenR_ok, dVar_ap, varR_ok, seqR_nx, seqR_rt, asgR_ok, gNm_ap, gCn_ap, gcnR_ok, gNl_ap, gTp_fr, gTp_ap, gLs_ap, dCons_ap, dNil_ap, asB_ap, dOr_ap, dAnd_ap, dNot_ap, dAndV_ap, dOrV_ap, dNotV_ap, dIf_ap, oAdd_int, oSub_int, oLt_int, oLe_int, oGt_int, oGe_int, oNeg_int, oEq_int, oNe_int, oEq_fr, oNe_fr, oEq_bl, oNe_bl, oTup_ap, oLst_ap, oCall_ap, oAbs_ap, oMax_ap, oMin_ap, oToInt_b, oToInt_i, oLen_lst, oLen_scr, oLen_tup, oIx_lst, oIx_scr, oAdd_lst, oIx_tup, oIx_fr0, oIx_fr1, ixR_ok, oItL_ap, oItT_ap, sFor_ap, startD, List.map_cons, List.map_nil, List.length_cons, List.length_nil, List.replicate_succ, List.replicate_zero, List.cons_append, List.nil_append, List.append_nil, List.getElem?_cons_zero, List.getElem?_cons_succ, List.set_cons_zero, List.set_cons_succ, Nat.reduceAdd, Nat.reduceSub, Nat.sub_self, Nat.reduceLeDiff, List.all_cons, List.all_nil, np_fr, np_int, np_bl, np_tup, np_lst, np_str, np_non, Bool.and_self, Bool.and_true, if_true_, if_false_, zero_add', if_tt, if_ff, decide_true, decide_false, Nat.le_refl, oItS_lst, oItS_tup, oTupOf_lst, oTupOf_tup, oLstOf_lst, oLstOf_tup, oRv_lst, oRv_tup, oAdd_tup, dChain_ap, asTru_bl, asTru_tup, asTru_lst, oIsN_ap, oNotN_ap, asI_ap, oSl_tup, oSl_lst, oZip_tup, oZip_lst, oAddI_ap, oEqS_ap, oNeS_ap, oNe_nil, e3]
  rw [← e1]
  congr
  split <;> omega
/-! plus -/
theorem nat_div_lt {n g k : Nat} (h : n < 2 ^ k) : n / g < 2 ^ k := Nat.lt_of_le_of_lt (Nat.div_le_self _ _) h
theorem den_nat_lt {q : Rat} {k : Nat} (h : Bd k q) : ((q.den : Int)).natAbs < 2 ^ k := by simpa using h.2
/-- times -/
theorem times_math (x y : Rat) : (x * y).num = (x.num / (Int.gcd x.num y.den : Nat)) * (y.num / (Int.gcd y.num x.den : Nat)) ∧ (x * y).den = (x.den / Int.gcd y.num x.den) * (y.den / Int.gcd x.num y.den) := by
  have e : x * y = Rat.mul x y := rfl
  have g1 : Int.gcd x.num y.den = x.num.natAbs.gcd y.den := by simp [Int.gcd]
  have g2 : Int.gcd y.num x.den = y.num.natAbs.gcd x.den := by simp [Int.gcd]
  rw [e, g1, g2]
  unfold Rat.mul
  simp -implicitDefEqProofs only [Int.divExact_eq_ediv, Nat.divExact_eq_div]
  exact ⟨trivial, trivial⟩
theorem times_eq {x y : Rat} (hx : Bd 4000 x) (hy : Bd 4000 y) (M : Mem) : F_times [frQ x, frQ y] M = some (.ok (frQ (x * y)), M) := by
  obtain ⟨m1, m2⟩ := times_math x y
  refine runF_pure ?_ rfl
  have gd : ∀ (n : Int) (d : Nat), 0 < d → 0 < Int.gcd n d ∧ Int.gcd n d ≤ d := fun n d hd => by
    have e : Int.gcd n d = n.natAbs.gcd d := by simp [Int.gcd]
    rw [e]
    exact ⟨Nat.gcd_pos_of_pos_right _ hd, Nat.gcd_le_right _ hd⟩
  obtain ⟨p1, l1⟩ := gd x.num y.den y.den_pos
  obtain ⟨p2, l2⟩ := gd y.num x.den x.den_pos
  have d1 : DivOk ((Int.gcd x.num y.den : Nat) : Int) := DivOk.of (b := 4000) (by omega) (by simpa using Nat.lt_of_le_of_lt l1 hy.2)
  have d2 : DivOk ((Int.gcd y.num x.den : Nat) : Int) := DivOk.of (b := 4000) (by omega) (by simpa using Nat.lt_of_le_of_lt l2 hx.2)
  have ab : ∀ (n : Int) (g : Nat), (n / (g : Int)).natAbs ≤ n.natAbs := fun n g => Int.natAbs_ediv_le_natAbs n g
  have k1 : MulOk (x.num / ((Int.gcd x.num y.den : Nat) : Int)) (y.num / ((Int.gcd y.num x.den : Nat) : Int)) := MulOk.of (a := 4000) (b := 4000) (Nat.lt_of_le_of_lt (ab _ _) hx.1) (Nat.lt_of_le_of_lt (ab _ _) hy.1)
  have k2 : MulOk ((x.den : Int) / ((Int.gcd y.num x.den : Nat) : Int)) ((y.den : Int) / ((Int.gcd x.num y.den : Nat) : Int)) := MulOk.of (a := 4000) (b := 4000) (Nat.lt_of_le_of_lt (ab _ _) (by simpa using hx.2)) (Nat.lt_of_le_of_lt (ab _ _) (by simpa using hy.2))
  simp -implicitDefEqProofs only [den_times, sSeq_ap, sAsg_ap, sPar_ap, sRet_ap, sIf_ap, sExpr_ap, sNext_ap, bnd_ap, ret_ap, bindR_ok, thenR_ok, dVar_ap, varR_ok, seqR_nx, seqR_rt, asgR_ok, gNm_ap, gCn_ap, gcnR_ok, gNl_ap, gTp_fr, gTp_ap, gLs_ap, dCons_ap, dNil_ap, asB_ap, dOr_ap, dAnd_ap, dNot_ap, dAndV_ap, dOrV_ap, dNotV_ap, dIf_ap, oAdd_int, oSub_int, oLt_int, oLe_int, oGt_int, oGe_int, oNeg_int, oEq_int, oNe_int, oEq_fr, oNe_fr, oEq_bl, oNe_bl, oTup_ap, oLst_ap, oCall_ap, oAbs_ap, oMax_ap, oMin_ap, oToInt_b, oToInt_i, oLen_lst, oLen_scr, oLen_tup, oIx_lst, oIx_scr, oAdd_lst, oIx_tup, oIx_fr0, oIx_fr1, ixR_ok, oItL_ap, oItT_ap, sFor_ap, startD, List.map_cons, List.map_nil, List.length_cons, List.length_nil, List.replicate_succ, List.replicate_zero, List.cons_append, List.nil_append, List.append_nil, List.getElem?_cons_zero, List.getElem?_cons_succ, List.set_cons_zero, List.set_cons_succ, Nat.reduceAdd, Nat.reduceSub, Nat.sub_self, Nat.reduceLeDiff, List.all_cons, List.all_nil, np_fr, np_int, np_bl, np_tup, np_lst, np_str, np_non, Bool.and_self, Bool.and_true, if_true_, if_false_, zero_add', if_tt, if_ff, decide_true, decide_false, Nat.le_refl, oItS_lst, oItS_tup, oTupOf_lst, oTupOf_tup, oLstOf_lst, oLstOf_tup, oRv_lst, oRv_tup, oAdd_tup, dChain_ap, asTru_bl, asTru_tup, asTru_lst, oIsN_ap, oNotN_ap, asI_ap, oSl_tup, oSl_lst, oZip_tup, oZip_lst, oAddI_ap, oEqS_ap, oNeS_ap, oNe_nil, common_eq, oDiv_int d1, oDiv_int d2, fdiv_nat, oMul_int k1, oMul_int k2]
  congr
  · exact m1.symm
  · rw [m2]; push_cast; rfl
theorem Bd.neg {n : Nat} {q : Rat} (h : Bd n q) : Bd n (-q) := by
  unfold Bd
  rw [Rat.neg_num, Rat.neg_den, Int.natAbs_neg]
  exact h
theorem Bd.inv {n : Nat} {q : Rat} (h : Bd n q) : Bd n q⁻¹ := by
  have e : q⁻¹ = Rat.inv q := rfl
  rw [e]
  unfold Rat.inv
  split
  · refine ⟨?_, h.1⟩
    show (-(q.den : Int)).natAbs < _
    rw [Int.natAbs_neg]
    exact h.2
  · split
    · exact ⟨h.2, h.1⟩
    · exact h
theorem isless_eq {x y : Rat} (hx : Bd 4000 x) (hy : Bd 4000 y) (M : Mem) : F_is_less [frQ x, frQ y] M = some (.ok (.bl (decide (x < y))), M) := by
  refine runF_pure ?_ rfl
  have k1 : MulOk x.num (y.den : Int) := MulOk.of (a := 4000) (b := 4000) hx.1 (den_nat_lt hy)
  have k2 : MulOk y.num (x.den : Int) := MulOk.of (a := 4000) (b := 4000) hy.1 (den_nat_lt hx)
  simp -implicitDefEqProofs only [den_is_less, sSeq_ap, sAsg_ap, sPar_ap, sRet_ap, sIf_ap, sExpr_ap, sNext_ap, bnd_ap, ret_ap, bindR_ok, thenR_ok, dVar_ap, varR_ok, seqR_nx, seqR_rt, asgR_ok, gNm_ap, gCn_ap, gcnR_ok, gNl_ap, gTp_fr, gTp_ap, gLs_ap, dCons_ap, dNil_ap, asB_ap, dOr_ap, dAnd_ap, dNot_ap, dAndV_ap, dOrV_ap, dNotV_ap, dIf_ap, oAdd_int, oSub_int, oLt_int, oLe_int, oGt_int, oGe_int, oNeg_int, oEq_int, oNe_int, oEq_fr, oNe_fr, oEq_bl, oNe_bl, oTup_ap, oLst_ap, oCall_ap, oAbs_ap, oMax_ap, oMin_ap, oToInt_b, oToInt_i, oLen_lst, oLen_scr, oLen_tup, oIx_lst, oIx_scr, oAdd_lst, oIx_tup, oIx_fr0, oIx_fr1, ixR_ok, oItL_ap, oItT_ap, sFor_ap, startD, List.map_cons, List.map_nil, List.length_cons, List.length_nil, List.replicate_succ, List.replicate_zero, List.cons_append, List.nil_append, List.append_nil, List.getElem?_cons_zero, List.getElem?_cons_succ, List.set_cons_zero, List.set_cons_succ, Nat.reduceAdd, Nat.reduceSub, Nat.sub_self, Nat.reduceLeDiff, List.all_cons, List.all_nil, np_fr, np_int, np_bl, np_tup, np_lst, np_str, np_non, Bool.and_self, Bool.and_true, if_true_, if_false_, zero_add', if_tt, if_ff, decide_true, decide_false, Nat.le_refl, oItS_lst, oItS_tup, oTupOf_lst, oTupOf_tup, oLstOf_lst, oLstOf_tup, oRv_lst, oRv_tup, oAdd_tup, dChain_ap, asTru_bl, asTru_tup, asTru_lst, oIsN_ap, oNotN_ap, asI_ap, oSl_tup, oSl_lst, oZip_tup, oZip_lst, oAddI_ap, oEqS_ap, oNeS_ap, oNe_nil, oMul_int k1, oMul_int k2, Rat.lt_iff]
/-! sizes -/
theorem bd_of {q : Rat} {N : Int} {Dn n : Nat} (hD : Dn ≠ 0) (e : q = mkRat N Dn) (hN : N.natAbs < 2 ^ n) (hDn : Dn < 2 ^ n) : Bd n q := by
  subst e
  rw [← Rat.normalize_eq_mkRat hD, Rat.normalize_eq]
  refine ⟨?_, ?_⟩
  · exact Nat.lt_of_le_of_lt (Int.natAbs_ediv_le_natAbs _ _) hN
  · exact nat_div_lt hDn
theorem mul_lt_pow {a b m n : Nat} (ha : a < 2 ^ m) (hb : b < 2 ^ n) : a * b < 2 ^ (m + n) := by
  rw [Nat.pow_add]; exact Nat.mul_lt_mul'' ha hb
theorem Bd.add {m n : Nat} {x y : Rat} (hx : Bd m x) (hy : Bd n y) : Bd (m + n + 1) (x + y) := by
  refine bd_of (Nat.ne_of_gt (Nat.mul_pos x.den_pos y.den_pos)) (by rw [Rat.add_def, Rat.normalize_eq_mkRat]) ?_ ?_
  · have h1 := mul_lt_pow hx.1 hy.2
    have h2 := mul_lt_pow hy.1 hx.2
    rw [Nat.add_comm n m] at h2
    have e1 : (x.num * (y.den : Int)).natAbs = x.num.natAbs * y.den := by rw [Int.natAbs_mul, Int.natAbs_natCast]
    have e2 : (y.num * (x.den : Int)).natAbs = y.num.natAbs * x.den := by rw [Int.natAbs_mul, Int.natAbs_natCast]
    have := Int.natAbs_add_le (x.num * (y.den : Int)) (y.num * (x.den : Int))
    rw [Nat.pow_succ]
    omega
  · have h3 := mul_lt_pow hx.2 hy.2
    exact nat_lt_pow _ h3 (by omega)
theorem Bd.mul {m n : Nat} {x y : Rat} (hx : Bd m x) (hy : Bd n y) : Bd (m + n) (x * y) := by
  refine bd_of (Nat.ne_of_gt (Nat.mul_pos x.den_pos y.den_pos)) (by rw [Rat.mul_def, Rat.normalize_eq_mkRat]) ?_ ?_
  · rw [Int.natAbs_mul]; exact mul_lt_pow hx.1 hy.1
  · exact mul_lt_pow hx.2 hy.2
theorem Bd.sub {m n : Nat} {x y : Rat} (hx : Bd m x) (hy : Bd n y) : Bd (m + n + 1) (x - y) := by
  rw [Rat.sub_eq_add_neg]; exact hx.add hy.neg
theorem Bd.div {m n : Nat} {x y : Rat} (hx : Bd m x) (hy : Bd n y) : Bd (m + n) (x / y) := by
  rw [Rat.div_def]; exact hx.mul hy.inv
/-! _law_low -/
theorem divInt_cross (t b : Int) (hb : b ≠ 0) : (Rat.divInt t b).num * b = t * ((Rat.divInt t b).den : Int) := by
  have h := Rat.num_divInt_den (Rat.divInt t b)
  rw [Rat.divInt_eq_divInt_iff (by have := (Rat.divInt t b).den_pos; omega) hb] at h
  exact h
theorem low_math {t b by' : Int} (hb : b ≠ 0) (e : by' = (Int.gcd t b : Int) * (if b < 0 then -1 else 1)) : D.tup [.int (t.fdiv by'), .int (b.fdiv by')] = frQ (Rat.divInt t b) := by
  have gp : 0 < Int.gcd t b := Int.gcd_pos_of_ne_zero_right t hb
  obtain ⟨t', ht⟩ : ((Int.gcd t b : Nat) : Int) ∣ t := Int.gcd_dvd_left ..
  obtain ⟨b', hb'⟩ : ((Int.gcd t b : Nat) : Int) ∣ b := Int.gcd_dvd_right ..
  have cop : Int.gcd t' b' = 1 := by
    have h := Int.gcd_mul_left ((Int.gcd t b : Nat) : Int) t' b'
    rw [← ht, ← hb', Int.natAbs_natCast] at h
    have h2 : Int.gcd t b * Int.gcd t' b' = Int.gcd t b * 1 := by rw [Nat.mul_one]; exact h.symm
    exact Nat.eq_of_mul_eq_mul_left gp h2
  have cr := divInt_cross t b hb
  generalize hg : ((Int.gcd t b : Nat) : Int) = g at *
  have gp' : 0 < g := by omega
  have s : ∃ s : Int, (s = 1 ∨ s = -1) ∧ by' = g * s ∧ 0 < b' * s := by
    split at e
    · rename_i h
      refine ⟨-1, .inr rfl, e, ?_⟩
      have : b' < 0 := by
        rcases Int.lt_or_le b' 0 with q | q
        · exact q
        · have := Int.mul_nonneg (Int.le_of_lt gp') q; omega
      omega
    · rename_i h
      refine ⟨1, .inl rfl, e, ?_⟩
      have : 0 < b' := by
        rcases Int.lt_or_le 0 b' with q | q
        · exact q
        · have h2 : g * b' ≤ 0 := Int.mul_nonpos_of_nonneg_of_nonpos (Int.le_of_lt gp') q
          omega
      omega
  obtain ⟨s, hs, e2, pb⟩ := s
  have q : ∀ z : Int, (g * z).fdiv (g * s) = z * s := fun z => by
    have : g * z = (z * s) * (g * s) := by rcases hs with h | h <;> subst h <;> grind
    rw [this]
    refine Int.mul_fdiv_cancel _ ?_
    rcases hs with h | h <;> subst h <;> omega
  have e3 : t.fdiv by' = t' * s := by rw [e2]; conv => lhs; lhs; rw [ht]
                                      exact q t'
  have e4 : b.fdiv by' = b' * s := by rw [e2]; conv => lhs; lhs; rw [hb']
                                      exact q b'
  rw [e3, e4]
  refine fr_of pb ?_ ?_
  · rcases hs with h | h <;> subst h <;> simp [cop]
  · refine Int.eq_of_mul_eq_mul_left (a := g) (by omega) ?_
    have c2 : (Rat.divInt t b).num * (g * b') = g * t' * ((Rat.divInt t b).den : Int) := by rw [← hb', ← ht]; exact cr
    grind
theorem bd_divInt {t b : Int} {n : Nat} (hb : b ≠ 0) (ht : t.natAbs < 2 ^ n) (hs : b.natAbs < 2 ^ n) : Bd n (Rat.divInt t b) := by
  rcases Int.lt_or_gt_of_ne hb with h | h
  · have e : Rat.divInt t b = mkRat (-t) b.natAbs := by
      have : -b = ((b.natAbs : Nat) : Int) := by omega
      rw [← Rat.neg_divInt_neg t b, this, Rat.divInt_ofNat]
    exact bd_of (by omega) e (by omega) (by omega)
  · have e : Rat.divInt t b = mkRat t b.natAbs := by
      have : b = ((b.natAbs : Nat) : Int) := by omega
      conv => lhs; rw [this]
      rw [Rat.divInt_ofNat]
    exact bd_of (by omega) e ht hs
/-! the reel -/
/-- at n a reel that was drawn of at most c times -/
def HasReel (c n : Nat) (M : Mem) : Prop := ∃ a r t : Int, M[n]? = some (some [.int a, .int r, .int t]) ∧ 0 ≤ a ∧ 0 ≤ r ∧ r < 2 ^ 40 ∧ 0 ≤ t ∧ t ≤ c
/-- all else stays -/
structure Turned (c n : Nat) (M M' : Mem) : Prop where
  len : M'.length = M.length
  oth : ∀ j, j ≠ n → M'[j]? = M[j]?
  has : HasReel c n M'
theorem Turned.trans {c c' n : Nat} {M M1 M2 : Mem} (a : Turned c n M M1) (b : Turned c' n M1 M2) : Turned c' n M M2 := ⟨b.len.trans a.len, fun j h => (b.oth j h).trans (a.oth j h), b.has⟩
theorem HasReel.mono {c c' n : Nat} {M : Mem} (h : HasReel c n M) (l : c ≤ c') : HasReel c' n M := by
  obtain ⟨a, r, t, e, h1, h2, h3, h4, h5⟩ := h
  exact ⟨a, r, t, e, h1, h2, h3, h4, by omega⟩
theorem Turned.mono {c c' n : Nat} {M M1 : Mem} (a : Turned c n M M1) (l : c ≤ c') : Turned c' n M M1 := ⟨a.len, a.oth, a.has.mono l⟩
theorem HasReel.self {c n : Nat} {M : Mem} (h : HasReel c n M) : Turned c n M M := ⟨rfl, fun _ _ => rfl, h⟩
theorem HasReel.lt {c n : Nat} {M : Mem} (h : HasReel c n M) : n < M.length := by
  obtain ⟨a, r, t, e, _⟩ := h
  rcases Nat.lt_or_ge n M.length with q | q
  · exact q
  · rw [List.getElem?_eq_none q] at e; cases e
theorem atI_mem {α : Type} {l : List α} {i : Int} (h0 : 0 ≤ i) (h : i < l.length) : ∃ d, atI l i = some d ∧ d ∈ l := by
  obtain ⟨j, rfl⟩ : ∃ j : Nat, i = j := ⟨i.toNat, by omega⟩
  have hj : j < l.length := by omega
  exact ⟨l[j], by rw [atI_nat', List.getElem?_eq_getElem hj], List.getElem_mem hj⟩
theorem atI3_0 {α : Type} (x y z : α) : atI [x, y, z] 0 = some x := rfl
theorem atI3_1 {α : Type} (x y z : α) : atI [x, y, z] 1 = some y := rfl
theorem atI3_2 {α : Type} (x y z : α) : atI [x, y, z] 2 = some z := rfl
theorem ixN3_0 : ixN 3 0 = some 0 := rfl
theorem ixN3_2 : ixN 3 2 = some 2 := rfl
theorem fmod_pos {i m : Int} (h : 0 < m) : 0 ≤ i.fmod m ∧ i.fmod m < m := ⟨Int.fmod_nonneg_of_pos i h, Int.fmod_lt_of_pos i h⟩
theorem natAbs_lt_of {x : Int} {k : Nat} (h0 : 0 ≤ x) (h : x < 2 ^ k) : x.natAbs < 2 ^ k := by
  have : (x.natAbs : Int) = x := by omega
  have h2 : (x.natAbs : Int) < ((2 ^ k : Nat) : Int) := by rw [this]; push_cast; exact h
  exact_mod_cast h2
theorem runF1 {N : List Str} {fb : Sv} {ds es : List D} {M : Mem} (h : fb (startD N ds) M = some (.rt (.ptr M.length), M ++ [some es])) : runF 1 N fb ds M = some (.ok (.ptr M.length), M ++ [some es]) := by
  unfold runF
  rw [h]
  dsimp only
  rw [if_pos ⟨by simp, by unfold D.ptLt; simp⟩, List.take_of_length_le (by simp)]
theorem oNew3 (x y z : Int) (ρ : Env) (M : Mem) : oNew [.int x, .int y, .int z] ρ M = some (.ok (.ptr M.length), M ++ [some [.int x, .int y, .int z]]) := rfl
theorem pow10_18 (ρ : Env) (M : Mem) : oPow (.int 10) (.int 18) ρ M = some (.ok (.int (10 ^ 18)), M) := rfl
theorem pow10_6 (ρ : Env) (M : Mem) : oPow (.int 10) (.int 6) ρ M = some (.ok (.int (10 ^ 6)), M) := rfl
theorem atI_lit {l : List D} {i : Int} {P : Int → Prop} (h0 : 0 ≤ i) (h : i < l.length) (hP : ∀ d ∈ l, ∃ k, d = .int k ∧ P k) : ∃ k, atI l i = some (.int k) ∧ P k := by
  obtain ⟨d, e, m⟩ := atI_mem h0 h
  obtain ⟨k, rfl, hk⟩ := hP d m
  exact ⟨k, e, hk⟩
/-! a comprehension that draws -/
theorem small_lt (m : Int) (h0 : 0 ≤ m) (h : m < 2 ^ 64) : m.natAbs < 2 ^ 4000 := nat_lt_pow 4000 (natAbs_lt_of (k := 64) h0 h) (by decide)
/-! a comprehension whose parts are pure -/
/-! the drawn layers -/
theorem run_t {N : List Str} {fb : Sv} {ds : List D} {M M2 : Mem} {d : D} {c n : Nat} (h : fb (startD N ds) M = some (.rt d, M2)) (t : Turned c n M M2) (hp : d.np = true) : runF 0 N fb ds M = some (.ok d, M2) := by
  rw [runF_rt h (by rw [t.len]; exact Nat.le_refl _) hp, List.take_of_length_le (by rw [t.len]; exact Nat.le_refl _)]
/-- a full strength -/
structure FullOk (f : Rat) : Prop where
  pos : 0 < f
  bd : Bd 10 f
  low : 1 ≤ 1000 * f
/-! a layer -/
def lyQ (p : Rat × Rat) : D := .tup [frQ p.1, frQ p.2]
structure LayOk (f : Rat) (p : Rat × Rat) : Prop where
  w : 0 ≤ p.1
  s : 0 ≤ p.2
  nz : p.1 = 0 → 0 < p.2
  le : 0 < p.1 → p.2 ≤ f * p.1
structure BdL (n : Nat) (p : Rat × Rat) : Prop where
  w : Bd n p.1
  s : Bd n p.2
theorem BdL.mono {m n : Nat} {p : Rat × Rat} (h : BdL m p) (l : m ≤ n) : BdL n p := ⟨h.w.mono l, h.s.mono l⟩
theorem np_ly (p : Rat × Rat) : (lyQ p).np = true := rfl
theorem mul_divInt (f q : Rat) : f * q = Rat.divInt (f.num * q.num) ((f.den : Int) * (q.den : Int)) := by
  rw [Rat.mul_def', ← Rat.divInt_ofNat]
  push_cast
  rfl
/-! rows of layers -/
/-- a row at m, a reel at n -/
structure Rw (c n m : Nat) (f : Rat) (ps : List (Rat × Rat)) (M : Mem) : Prop where
  has : HasReel c n M
  lst : M[m]? = some (some (ps.map lyQ))
  ne : n ≠ m
  ok : ∀ p ∈ ps, LayOk f p ∧ BdL 34 p
theorem Rw.turn {c c' n m : Nat} {f : Rat} {ps : List (Rat × Rat)} {M M' : Mem} (g : Rw c n m f ps M) (t : Turned c' n M M') : Rw c' n m f ps M' := ⟨t.has, by rw [t.oth m (Ne.symm g.ne)]; exact g.lst, g.ne, g.ok⟩
theorem Rw.lt {c n m : Nat} {f : Rat} {ps : List (Rat × Rat)} {M : Mem} (g : Rw c n m f ps M) : m < M.length := (List.getElem?_eq_some_iff.mp g.lst).1
theorem Rw.push {c n m : Nat} {f : Rat} {ps : List (Rat × Rat)} {M : Mem} {p : Rat × Rat} (g : Rw c n m f ps M) (h : LayOk f p ∧ BdL 34 p) : Rw c n m f (ps ++ [p]) (M.set m (some (ps.map lyQ ++ [lyQ p]))) := by
  refine ⟨?_, ?_, g.ne, fun x hx => ?_⟩
  · obtain ⟨a, r, t, e, rest⟩ := g.has
    exact ⟨a, r, t, by rw [List.getElem?_set_ne (Ne.symm g.ne)]; exact e, rest⟩
  · rw [List.getElem?_set_self g.lt, List.map_append]; rfl
  · rcases List.mem_append.mp hx with z | z
    · exact g.ok x z
    · simp at z; subst z; exact h
theorem seq_step {f g : Sv} {ρ ρ1 : Env} {M M1 : Mem} (h : f ρ M = some (.nx ρ1, M1)) : sSeq f g ρ M = g ρ1 M1 := by rw [sSeq_ap, h, seqR_nx]
theorem kA1 : kitB "NoneType" "int" = some false := by decide +kernel
theorem kA2 : kitB "bool" "int" = some true := by decide +kernel
theorem kA3 : kitB "int" "int" = some true := by decide +kernel
theorem kA4 : kitB "str" "int" = some false := by decide +kernel
theorem kA5 : kitB "tuple" "int" = some false := by decide +kernel
theorem kA6 : kitB "list" "int" = some false := by decide +kernel
theorem kA7 : kitB "dict" "int" = some false := by decide +kernel
theorem kB1 : kitB "NoneType" "bool" = some false := by decide +kernel
theorem kB2 : kitB "bool" "bool" = some true := by decide +kernel
theorem kB3 : kitB "int" "bool" = some false := by decide +kernel
theorem kB4 : kitB "str" "bool" = some false := by decide +kernel
theorem kB5 : kitB "tuple" "bool" = some false := by decide +kernel
theorem kB6 : kitB "list" "bool" = some false := by decide +kernel
theorem kB7 : kitB "dict" "bool" = some false := by decide +kernel
theorem kC1 : kitB "NoneType" "tuple" = some false := by decide +kernel
theorem kC2 : kitB "bool" "tuple" = some false := by decide +kernel
theorem kC3 : kitB "int" "tuple" = some false := by decide +kernel
theorem kC4 : kitB "str" "tuple" = some false := by decide +kernel
theorem kC5 : kitB "tuple" "tuple" = some true := by decide +kernel
theorem kC6 : kitB "list" "tuple" = some false := by decide +kernel
theorem kC7 : kitB "dict" "tuple" = some false := by decide +kernel
def isI : D → Bool
  | .int _ => true
  | .bl _ => true
  | _ => false
def isBl : D → Bool
  | .bl _ => true
  | _ => false
def isT : D → Bool
  | .tup _ => true
  | _ => false
def isWh : D → Bool
  | .int _ => true
  | _ => false
theorem oIsi_int {d : D} (h : d.np = true) (tx : Str → Option Bool) (ρ : Env) (M : Mem) : oIsi (fun a => kitB a "int") tx d ρ M = some (.ok (.bl (isI d)), M) := by
  cases d <;> first | (cases h; done) | (unfold oIsi; simp -implicitDefEqProofs only [kA1, kA2, kA3, kA4, kA5, kA6, kA7, isI])
theorem oIsi_bool {d : D} (h : d.np = true) (tx : Str → Option Bool) (ρ : Env) (M : Mem) : oIsi (fun a => kitB a "bool") tx d ρ M = some (.ok (.bl (isBl d)), M) := by
  cases d <;> first | (cases h; done) | (unfold oIsi; simp -implicitDefEqProofs only [kB1, kB2, kB3, kB4, kB5, kB6, kB7, isBl])
theorem oIsi_tup {d : D} (h : d.np = true) (tx : Str → Option Bool) (ρ : Env) (M : Mem) : oIsi (fun a => kitB a "tuple") tx d ρ M = some (.ok (.bl (isT d)), M) := by
  cases d <;> first | (cases h; done) | (unfold oIsi; simp -implicitDefEqProofs only [kC1, kC2, kC3, kC4, kC5, kC6, kC7, isT])
theorem whole_ev {f : Ev D} {ρ : Env} {M : Mem} {d : D} (e : f ρ M = some (.ok d, M)) (h : d.np = true) : dAndV (bnd f (oIsi (fun a => kitB a "int") (fun _ => none))) (dNotV (bnd f (oIsi (fun a => kitB a "bool") (fun _ => none)))) ρ M = some (.ok (.bl (isWh d)), M) := by
  simp -implicitDefEqProofs only [sSeq_ap, sAsg_ap, sPar_ap, sRet_ap, sIf_ap, sExpr_ap, sNext_ap, bnd_ap, ret_ap, bindR_ok, thenR_ok, dVar_ap, varR_ok, seqR_nx, seqR_rt, asgR_ok, gNm_ap, gCn_ap, gcnR_ok, gNl_ap, gTp_fr, gTp_ap, gLs_ap, dCons_ap, dNil_ap, asB_ap, dOr_ap, dAnd_ap, dNot_ap, dAndV_ap, dOrV_ap, dNotV_ap, dIf_ap, oAdd_int, oSub_int, oLt_int, oLe_int, oGt_int, oGe_int, oNeg_int, oEq_int, oNe_int, oEq_fr, oNe_fr, oEq_bl, oNe_bl, oTup_ap, oLst_ap, oCall_ap, oAbs_ap, oMax_ap, oMin_ap, oToInt_b, oToInt_i, oLen_lst, oLen_scr, oLen_tup, oIx_lst, oIx_scr, oAdd_lst, oIx_tup, oIx_fr0, oIx_fr1, ixR_ok, oItL_ap, oItT_ap, sFor_ap, startD, List.map_cons, List.map_nil, List.length_cons, List.length_nil, List.replicate_succ, List.replicate_zero, List.cons_append, List.nil_append, List.append_nil, List.getElem?_cons_zero, List.getElem?_cons_succ, List.set_cons_zero, List.set_cons_succ, Nat.reduceAdd, Nat.reduceSub, Nat.sub_self, Nat.reduceLeDiff, List.all_cons, List.all_nil, np_fr, np_int, np_bl, np_tup, np_lst, np_str, np_non, Bool.and_self, Bool.and_true, if_true_, if_false_, zero_add', if_tt, if_ff, decide_true, decide_false, Nat.le_refl, oItS_lst, oItS_tup, oTupOf_lst, oTupOf_tup, oLstOf_lst, oLstOf_tup, oRv_lst, oRv_tup, oAdd_tup, dChain_ap, asTru_bl, asTru_tup, asTru_lst, oIsN_ap, oNotN_ap, asI_ap, oSl_tup, oSl_lst, oZip_tup, oZip_lst, oAddI_ap, oEqS_ap, oNeS_ap, oNe_nil, e, oIsi_int h, oIsi_bool h]
  cases d <;> first | rfl | (cases h; done)
theorem isWh_eq {d : D} (h : d.np = true) (M : Mem) : F_is_whole [d] M = some (.ok (.bl (isWh d)), M) := by
  refine runF_pure ?_ rfl
  have e : dVar 0 [some d] M = some (.ok d, M) := rfl
  have st : startD ["thing"] [d] = [some d] := rfl
  unfold den_is_whole
  rw [st, sRet_ap, whole_ev e h, thenR_ok]
def isF : D → Bool
  | .tup [x, y] => match x, y with
    | .int a, .int b => decide (0 < b) && decide (((Int.gcd a b : Nat) : Int) = 1)
    | _, _ => false
  | _ => false
structure Good (d : D) : Prop where
  np : d.np = true
  el : ∀ ds, d = .tup ds → ds.all D.np = true
theorem isF_len {ds : List D} (h : ds.length ≠ 2) : isF (.tup ds) = false := by
  match ds, h with
  | [], _ => rfl
  | [x], _ => rfl
  | [x, y], h => exact absurd rfl h
  | x :: y :: z :: r, _ => rfl
theorem isfr_len {ds : List D} (h : ds.length ≠ 2) (M : Mem) : F_is_fraction [.tup ds] M = some (.ok (.bl (isF (.tup ds))), M) := by
  refine runF_pure ?_ rfl
  have e : decide ((ds.length : Int) = 2) = false := decide_eq_false (by omega)
  simp -implicitDefEqProofs only [den_is_fraction, sSeq_ap, sAsg_ap, sPar_ap, sRet_ap, sIf_ap, sExpr_ap, sNext_ap, bnd_ap, ret_ap, bindR_ok, thenR_ok, dVar_ap, varR_ok, seqR_nx, seqR_rt, asgR_ok, gNm_ap, gCn_ap, gcnR_ok, gNl_ap, gTp_fr, gTp_ap, gLs_ap, dCons_ap, dNil_ap, asB_ap, dOr_ap, dAnd_ap, dNot_ap, dAndV_ap, dOrV_ap, dNotV_ap, dIf_ap, oAdd_int, oSub_int, oLt_int, oLe_int, oGt_int, oGe_int, oNeg_int, oEq_int, oNe_int, oEq_fr, oNe_fr, oEq_bl, oNe_bl, oTup_ap, oLst_ap, oCall_ap, oAbs_ap, oMax_ap, oMin_ap, oToInt_b, oToInt_i, oLen_lst, oLen_scr, oLen_tup, oIx_lst, oIx_scr, oAdd_lst, oIx_tup, oIx_fr0, oIx_fr1, ixR_ok, oItL_ap, oItT_ap, sFor_ap, startD, List.map_cons, List.map_nil, List.length_cons, List.length_nil, List.replicate_succ, List.replicate_zero, List.cons_append, List.nil_append, List.append_nil, List.getElem?_cons_zero, List.getElem?_cons_succ, List.set_cons_zero, List.set_cons_succ, Nat.reduceAdd, Nat.reduceSub, Nat.sub_self, Nat.reduceLeDiff, List.all_cons, List.all_nil, np_fr, np_int, np_bl, np_tup, np_lst, np_str, np_non, Bool.and_self, Bool.and_true, if_true_, if_false_, zero_add', if_tt, if_ff, decide_true, decide_false, Nat.le_refl, oItS_lst, oItS_tup, oTupOf_lst, oTupOf_tup, oLstOf_lst, oLstOf_tup, oRv_lst, oRv_tup, oAdd_tup, dChain_ap, asTru_bl, asTru_tup, asTru_lst, oIsN_ap, oNotN_ap, asI_ap, oSl_tup, oSl_lst, oZip_tup, oZip_lst, oAddI_ap, oEqS_ap, oNeS_ap, oNe_nil, oIsi_tup (np_tup ds), isT, e, isF_len h, Bool.not_true, Bool.not_false, Bool.false_eq_true]
theorem isfr_two {x y : D} (el : x.np = true ∧ y.np = true) (M : Mem) : F_is_fraction [.tup [x, y]] M = some (.ok (.bl (isF (.tup [x, y]))), M) := by
  refine runF_pure ?_ rfl
  have n2 : decide ((2 : Int) = 2) = true := rfl
  have l2 : ∀ ρ M, oLen [.tup [x, y]] ρ M = some (.ok (.int 2), M) := fun _ _ => rfl
  have tp : ∀ c ρ, gTp 2 c (.tup [x, y]) ρ = c [x, y] ρ := fun _ _ => rfl
  have it : ∀ ρ M, oIsi (fun a => kitB a "tuple") (fun _ => none) (.tup [x, y]) ρ M = some (.ok (.bl true), M) := fun ρ M => oIsi_tup (np_tup _) _ ρ M
  by_cases hx : isWh x = true
  · by_cases hy : isWh y = true
    · cases x <;> first | (cases hx; done) | skip
      cases y <;> first | (cases hy; done) | skip
      rename_i a b
      by_cases hb : 0 < b
      · by_cases hg : ((Int.gcd a b : Nat) : Int) = 1
        · simp -implicitDefEqProofs only [den_is_fraction, sSeq_ap, sAsg_ap, sPar_ap, sRet_ap, sIf_ap, sExpr_ap, sNext_ap, bnd_ap, ret_ap, bindR_ok, thenR_ok, dVar_ap, varR_ok, seqR_nx, seqR_rt, asgR_ok, gNm_ap, gCn_ap, gcnR_ok, gNl_ap, gTp_fr, gTp_ap, gLs_ap, dCons_ap, dNil_ap, asB_ap, dOr_ap, dAnd_ap, dNot_ap, dAndV_ap, dOrV_ap, dNotV_ap, dIf_ap, oAdd_int, oSub_int, oLt_int, oLe_int, oGt_int, oGe_int, oNeg_int, oEq_int, oNe_int, oEq_fr, oNe_fr, oEq_bl, oNe_bl, oTup_ap, oLst_ap, oCall_ap, oAbs_ap, oMax_ap, oMin_ap, oToInt_b, oToInt_i, oLen_lst, oLen_scr, oLen_tup, oIx_lst, oIx_scr, oAdd_lst, oIx_tup, oIx_fr0, oIx_fr1, ixR_ok, oItL_ap, oItT_ap, sFor_ap, startD, List.map_cons, List.map_nil, List.length_cons, List.length_nil, List.replicate_succ, List.replicate_zero, List.cons_append, List.nil_append, List.append_nil, List.getElem?_cons_zero, List.getElem?_cons_succ, List.set_cons_zero, List.set_cons_succ, Nat.reduceAdd, Nat.reduceSub, Nat.sub_self, Nat.reduceLeDiff, List.all_cons, List.all_nil, np_fr, np_int, np_bl, np_tup, np_lst, np_str, np_non, Bool.and_self, Bool.and_true, if_true_, if_false_, zero_add', if_tt, if_ff, decide_true, decide_false, Nat.le_refl, oItS_lst, oItS_tup, oTupOf_lst, oTupOf_tup, oLstOf_lst, oLstOf_tup, oRv_lst, oRv_tup, oAdd_tup, dChain_ap, asTru_bl, asTru_tup, asTru_lst, oIsN_ap, oNotN_ap, asI_ap, oSl_tup, oSl_lst, oZip_tup, oZip_lst, oAddI_ap, oEqS_ap, oNeS_ap, oNe_nil, it, l2, n2, tp, isWh_eq (np_int a), isWh_eq (np_int b), isWh, hb, common_eq, hg, isF, Bool.not_true, Bool.not_false, Bool.false_eq_true]
        · simp -implicitDefEqProofs only [den_is_fraction, sSeq_ap, sAsg_ap, sPar_ap, sRet_ap, sIf_ap, sExpr_ap, sNext_ap, bnd_ap, ret_ap, bindR_ok, thenR_ok, dVar_ap, varR_ok, seqR_nx, seqR_rt, asgR_ok, gNm_ap, gCn_ap, gcnR_ok, gNl_ap, gTp_fr, gTp_ap, gLs_ap, dCons_ap, dNil_ap, asB_ap, dOr_ap, dAnd_ap, dNot_ap, dAndV_ap, dOrV_ap, dNotV_ap, dIf_ap, oAdd_int, oSub_int, oLt_int, oLe_int, oGt_int, oGe_int, oNeg_int, oEq_int, oNe_int, oEq_fr, oNe_fr, oEq_bl, oNe_bl, oTup_ap, oLst_ap, oCall_ap, oAbs_ap, oMax_ap, oMin_ap, oToInt_b, oToInt_i, oLen_lst, oLen_scr, oLen_tup, oIx_lst, oIx_scr, oAdd_lst, oIx_tup, oIx_fr0, oIx_fr1, ixR_ok, oItL_ap, oItT_ap, sFor_ap, startD, List.map_cons, List.map_nil, List.length_cons, List.length_nil, List.replicate_succ, List.replicate_zero, List.cons_append, List.nil_append, List.append_nil, List.getElem?_cons_zero, List.getElem?_cons_succ, List.set_cons_zero, List.set_cons_succ, Nat.reduceAdd, Nat.reduceSub, Nat.sub_self, Nat.reduceLeDiff, List.all_cons, List.all_nil, np_fr, np_int, np_bl, np_tup, np_lst, np_str, np_non, Bool.and_self, Bool.and_true, if_true_, if_false_, zero_add', if_tt, if_ff, decide_true, decide_false, Nat.le_refl, oItS_lst, oItS_tup, oTupOf_lst, oTupOf_tup, oLstOf_lst, oLstOf_tup, oRv_lst, oRv_tup, oAdd_tup, dChain_ap, asTru_bl, asTru_tup, asTru_lst, oIsN_ap, oNotN_ap, asI_ap, oSl_tup, oSl_lst, oZip_tup, oZip_lst, oAddI_ap, oEqS_ap, oNeS_ap, oNe_nil, it, l2, n2, tp, isWh_eq (np_int a), isWh_eq (np_int b), isWh, hb, common_eq, hg, isF, Bool.not_true, Bool.not_false, Bool.false_eq_true, Bool.and_false]
      · simp -implicitDefEqProofs only [den_is_fraction, sSeq_ap, sAsg_ap, sPar_ap, sRet_ap, sIf_ap, sExpr_ap, sNext_ap, bnd_ap, ret_ap, bindR_ok, thenR_ok, dVar_ap, varR_ok, seqR_nx, seqR_rt, asgR_ok, gNm_ap, gCn_ap, gcnR_ok, gNl_ap, gTp_fr, gTp_ap, gLs_ap, dCons_ap, dNil_ap, asB_ap, dOr_ap, dAnd_ap, dNot_ap, dAndV_ap, dOrV_ap, dNotV_ap, dIf_ap, oAdd_int, oSub_int, oLt_int, oLe_int, oGt_int, oGe_int, oNeg_int, oEq_int, oNe_int, oEq_fr, oNe_fr, oEq_bl, oNe_bl, oTup_ap, oLst_ap, oCall_ap, oAbs_ap, oMax_ap, oMin_ap, oToInt_b, oToInt_i, oLen_lst, oLen_scr, oLen_tup, oIx_lst, oIx_scr, oAdd_lst, oIx_tup, oIx_fr0, oIx_fr1, ixR_ok, oItL_ap, oItT_ap, sFor_ap, startD, List.map_cons, List.map_nil, List.length_cons, List.length_nil, List.replicate_succ, List.replicate_zero, List.cons_append, List.nil_append, List.append_nil, List.getElem?_cons_zero, List.getElem?_cons_succ, List.set_cons_zero, List.set_cons_succ, Nat.reduceAdd, Nat.reduceSub, Nat.sub_self, Nat.reduceLeDiff, List.all_cons, List.all_nil, np_fr, np_int, np_bl, np_tup, np_lst, np_str, np_non, Bool.and_self, Bool.and_true, if_true_, if_false_, zero_add', if_tt, if_ff, decide_true, decide_false, Nat.le_refl, oItS_lst, oItS_tup, oTupOf_lst, oTupOf_tup, oLstOf_lst, oLstOf_tup, oRv_lst, oRv_tup, oAdd_tup, dChain_ap, asTru_bl, asTru_tup, asTru_lst, oIsN_ap, oNotN_ap, asI_ap, oSl_tup, oSl_lst, oZip_tup, oZip_lst, oAddI_ap, oEqS_ap, oNeS_ap, oNe_nil, it, l2, n2, tp, isWh_eq (np_int a), isWh_eq (np_int b), isWh, hb, isF, Bool.not_true, Bool.not_false, Bool.false_eq_true, Bool.false_and]
    · have hy' : isWh y = false := by simpa using hy
      have e0 : isF (.tup [x, y]) = false := by
        cases x <;> first | (cases hx; done) | skip
        cases y <;> first | rfl | exact absurd rfl hy
      simp -implicitDefEqProofs only [den_is_fraction, sSeq_ap, sAsg_ap, sPar_ap, sRet_ap, sIf_ap, sExpr_ap, sNext_ap, bnd_ap, ret_ap, bindR_ok, thenR_ok, dVar_ap, varR_ok, seqR_nx, seqR_rt, asgR_ok, gNm_ap, gCn_ap, gcnR_ok, gNl_ap, gTp_fr, gTp_ap, gLs_ap, dCons_ap, dNil_ap, asB_ap, dOr_ap, dAnd_ap, dNot_ap, dAndV_ap, dOrV_ap, dNotV_ap, dIf_ap, oAdd_int, oSub_int, oLt_int, oLe_int, oGt_int, oGe_int, oNeg_int, oEq_int, oNe_int, oEq_fr, oNe_fr, oEq_bl, oNe_bl, oTup_ap, oLst_ap, oCall_ap, oAbs_ap, oMax_ap, oMin_ap, oToInt_b, oToInt_i, oLen_lst, oLen_scr, oLen_tup, oIx_lst, oIx_scr, oAdd_lst, oIx_tup, oIx_fr0, oIx_fr1, ixR_ok, oItL_ap, oItT_ap, sFor_ap, startD, List.map_cons, List.map_nil, List.length_cons, List.length_nil, List.replicate_succ, List.replicate_zero, List.cons_append, List.nil_append, List.append_nil, List.getElem?_cons_zero, List.getElem?_cons_succ, List.set_cons_zero, List.set_cons_succ, Nat.reduceAdd, Nat.reduceSub, Nat.sub_self, Nat.reduceLeDiff, List.all_cons, List.all_nil, np_fr, np_int, np_bl, np_tup, np_lst, np_str, np_non, Bool.and_self, Bool.and_true, if_true_, if_false_, zero_add', if_tt, if_ff, decide_true, decide_false, Nat.le_refl, oItS_lst, oItS_tup, oTupOf_lst, oTupOf_tup, oLstOf_lst, oLstOf_tup, oRv_lst, oRv_tup, oAdd_tup, dChain_ap, asTru_bl, asTru_tup, asTru_lst, oIsN_ap, oNotN_ap, asI_ap, oSl_tup, oSl_lst, oZip_tup, oZip_lst, oAddI_ap, oEqS_ap, oNeS_ap, oNe_nil, it, l2, n2, tp, isWh_eq el.1, isWh_eq el.2, hx, hy', e0, Bool.not_true, Bool.not_false, Bool.false_eq_true]
  · have hx' : isWh x = false := by simpa using hx
    have e0 : isF (.tup [x, y]) = false := by
      cases x <;> first | rfl | exact absurd rfl hx
    simp -implicitDefEqProofs only [den_is_fraction, sSeq_ap, sAsg_ap, sPar_ap, sRet_ap, sIf_ap, sExpr_ap, sNext_ap, bnd_ap, ret_ap, bindR_ok, thenR_ok, dVar_ap, varR_ok, seqR_nx, seqR_rt, asgR_ok, gNm_ap, gCn_ap, gcnR_ok, gNl_ap, gTp_fr, gTp_ap, gLs_ap, dCons_ap, dNil_ap, asB_ap, dOr_ap, dAnd_ap, dNot_ap, dAndV_ap, dOrV_ap, dNotV_ap, dIf_ap, oAdd_int, oSub_int, oLt_int, oLe_int, oGt_int, oGe_int, oNeg_int, oEq_int, oNe_int, oEq_fr, oNe_fr, oEq_bl, oNe_bl, oTup_ap, oLst_ap, oCall_ap, oAbs_ap, oMax_ap, oMin_ap, oToInt_b, oToInt_i, oLen_lst, oLen_scr, oLen_tup, oIx_lst, oIx_scr, oAdd_lst, oIx_tup, oIx_fr0, oIx_fr1, ixR_ok, oItL_ap, oItT_ap, sFor_ap, startD, List.map_cons, List.map_nil, List.length_cons, List.length_nil, List.replicate_succ, List.replicate_zero, List.cons_append, List.nil_append, List.append_nil, List.getElem?_cons_zero, List.getElem?_cons_succ, List.set_cons_zero, List.set_cons_succ, Nat.reduceAdd, Nat.reduceSub, Nat.sub_self, Nat.reduceLeDiff, List.all_cons, List.all_nil, np_fr, np_int, np_bl, np_tup, np_lst, np_str, np_non, Bool.and_self, Bool.and_true, if_true_, if_false_, zero_add', if_tt, if_ff, decide_true, decide_false, Nat.le_refl, oItS_lst, oItS_tup, oTupOf_lst, oTupOf_tup, oLstOf_lst, oLstOf_tup, oRv_lst, oRv_tup, oAdd_tup, dChain_ap, asTru_bl, asTru_tup, asTru_lst, oIsN_ap, oNotN_ap, asI_ap, oSl_tup, oSl_lst, oZip_tup, oZip_lst, oAddI_ap, oEqS_ap, oNeS_ap, oNe_nil, it, l2, n2, tp, isWh_eq el.1, hx', e0, Bool.not_true, Bool.not_false, Bool.false_eq_true]
theorem isfr_eq {d : D} (g : Good d) (M : Mem) : F_is_fraction [d] M = some (.ok (.bl (isF d)), M) := by
  by_cases ht : isT d = true
  · cases d with
    | tup ds =>
      by_cases hl : ds.length = 2
      · match ds, hl, g.el ds rfl with
        | [x, y], _, el =>
          simp -implicitDefEqProofs only [List.all_cons, List.all_nil, Bool.and_true, Bool.and_eq_true] at el
          exact isfr_two el M
      · exact isfr_len hl M
    | _ => cases ht
  · have ht' : isT d = false := by simpa using ht
    have e0 : isF d = false := by cases d <;> first | rfl | exact absurd rfl ht
    refine runF_pure ?_ rfl
    simp -implicitDefEqProofs only [den_is_fraction, sSeq_ap, sAsg_ap, sPar_ap, sRet_ap, sIf_ap, sExpr_ap, sNext_ap, bnd_ap, ret_ap, bindR_ok, thenR_ok, dVar_ap, varR_ok, seqR_nx, seqR_rt, asgR_ok, gNm_ap, gCn_ap, gcnR_ok, gNl_ap, gTp_fr, gTp_ap, gLs_ap, dCons_ap, dNil_ap, asB_ap, dOr_ap, dAnd_ap, dNot_ap, dAndV_ap, dOrV_ap, dNotV_ap, dIf_ap, oAdd_int, oSub_int, oLt_int, oLe_int, oGt_int, oGe_int, oNeg_int, oEq_int, oNe_int, oEq_fr, oNe_fr, oEq_bl, oNe_bl, oTup_ap, oLst_ap, oCall_ap, oAbs_ap, oMax_ap, oMin_ap, oToInt_b, oToInt_i, oLen_lst, oLen_scr, oLen_tup, oIx_lst, oIx_scr, oAdd_lst, oIx_tup, oIx_fr0, oIx_fr1, ixR_ok, oItL_ap, oItT_ap, sFor_ap, startD, List.map_cons, List.map_nil, List.length_cons, List.length_nil, List.replicate_succ, List.replicate_zero, List.cons_append, List.nil_append, List.append_nil, List.getElem?_cons_zero, List.getElem?_cons_succ, List.set_cons_zero, List.set_cons_succ, Nat.reduceAdd, Nat.reduceSub, Nat.sub_self, Nat.reduceLeDiff, List.all_cons, List.all_nil, np_fr, np_int, np_bl, np_tup, np_lst, np_str, np_non, Bool.and_self, Bool.and_true, if_true_, if_false_, zero_add', if_tt, if_ff, decide_true, decide_false, Nat.le_refl, oItS_lst, oItS_tup, oTupOf_lst, oTupOf_tup, oLstOf_lst, oLstOf_tup, oRv_lst, oRv_tup, oAdd_tup, dChain_ap, asTru_bl, asTru_tup, asTru_lst, oIsN_ap, oNotN_ap, asI_ap, oSl_tup, oSl_lst, oZip_tup, oZip_lst, oAddI_ap, oEqS_ap, oNeS_ap, oNe_nil, oIsi_tup g.np, ht', e0, Bool.not_false]
theorem isF_fr (q : Rat) : isF (frQ q) = true := by
  have h1 : (0 : Int) < (q.den : Int) := by have := q.den_pos; omega
  have h2 : Int.gcd q.num (q.den : Int) = 1 := by
    have := q.reduced
    simpa [Int.gcd, Nat.Coprime] using this
  unfold frQ isF
  simp [h2, q.den_pos]
theorem good_fr (q : Rat) : Good (frQ q) := ⟨rfl, fun ds h => by unfold frQ at h; cases h; rfl⟩
/-! one cell changes -/
structure Put (m : Nat) (ds : List D) (M M' : Mem) : Prop where
  len : M'.length = M.length
  here : M'[m]? = some (some ds)
  oth : ∀ j, j ≠ m → M'[j]? = M[j]?
theorem Put.self {m : Nat} {ds : List D} {M : Mem} (h : M[m]? = some (some ds)) : Put m ds M M := ⟨rfl, h, fun _ _ => rfl⟩
theorem Put.set {m : Nat} {ds es : List D} {M : Mem} (h : M[m]? = some (some es)) : Put m ds M (M.set m (some ds)) := ⟨by simp, List.getElem?_set_self (List.getElem?_eq_some_iff.mp h).1, fun j hj => List.getElem?_set_ne (Ne.symm hj)⟩
theorem Put.trans {m : Nat} {ds es : List D} {M M1 M2 : Mem} (a : Put m ds M M1) (b : Put m es M1 M2) : Put m es M M2 := ⟨b.len.trans a.len, b.here, fun j h => (b.oth j h).trans (a.oth j h)⟩
theorem Put.cut {ds : List D} {c : Option (List D)} {M M' : Mem} (a : Put M.length ds (M ++ [c]) M') : M'.take M.length = M := by
  refine List.ext_getElem? fun j => ?_
  by_cases h : j < M.length
  · rw [List.getElem?_take_of_lt h, a.oth j (by omega), List.getElem?_append_left h]
  · rw [List.getElem?_eq_none (by rw [List.length_take]; omega), List.getElem?_eq_none (by omega)]
theorem last_cell (M : Mem) (c : Option (List D)) : (M ++ [c])[M.length]? = some c := by rw [List.getElem?_append_right (Nat.le_refl _), Nat.sub_self]; rfl
/-! merged -/
noncomputable abbrev mCond : Ev Bool := dAnd (bnd (bnd (dVar 3) fun d => bnd (bnd (dCons (dVar 0) dNil) oLen) fun e => oLt d e) asB) (dNot (bnd (bnd (dCons (dVar 4) (dCons (bnd (dVar 0) fun d => bnd (dVar 3) fun e => oIx d e) dNil)) (oCall 2 F_is_less)) asB))
def upTo (y : Rat) : List Rat → List Rat
  | [] => []
  | x :: r => if y < x then [] else x :: upTo y r
def past (y : Rat) : List Rat → List Rat
  | [] => []
  | x :: r => if y < x then x :: r else past y r
/-- the two rows as one -/
def mrg : List Rat → List Rat → List Rat × List Rat
  | rest, [] => ([], rest)
  | rest, y :: ys => (upTo y rest ++ y :: (mrg (past y rest) ys).1, (mrg (past y rest) ys).2)
/-! rising rows -/
abbrev Asc (l : List Rat) : Prop := l.Pairwise (· ≤ ·)
def leB (a b : Rat) : Bool := decide (a ≤ b)
def srt (l : List Rat) : List Rat := l.mergeSort leB
theorem sIx_le {n d k : Nat} (h : k ≤ n) : HT.sIx n d (some (k : Int)) = k := by rw [HT.sIx_nat]; omega
theorem cut_take (ds : List D) {k : Nat} (h : k ≤ ds.length) : cutD ds none (some (k : Int)) = ds.take k := by
  unfold cutD
  rw [sIx_le h, HT.sIx_none]; simp
theorem cut_drop (ds : List D) {k : Nat} (h : k ≤ ds.length) : cutD ds (some (k : Int)) none = ds.drop k := by
  unfold cutD
  rw [sIx_le h, HT.sIx_none, List.take_of_length_le (by simp)]
def sqB (b : Bool) (ds : List D) : D := if b then .tup ds else .lst ds
/-! strengths -/
def stD (p : Rat × Rat) : D := if p.1 = 0 then .non else frQ (p.2 / p.1)
theorem gTp_ly (c : List D → Env → Option Env) (p : Rat × Rat) (ρ : Env) : gTp 2 c (lyQ p) ρ = c [frQ p.1, frQ p.2] ρ := rfl
theorem nought_fr : C_NOUGHT = frQ 0 := rfl
/-! tables of sums -/
def ky (p : Rat × Rat) : Option Rat := if p.1 = 0 then none else some (p.2 / p.1)
def kD : Option Rat → D
  | none => .non
  | some c => frQ c
def kN : Option Rat → NK
  | none => .none
  | some c => .tup [.num c.num, .num (c.den : Int)]
abbrev Tb := List (Option Rat × (Rat × Rat))
def encT (T : Tb) : DEs := T.map fun x => (kD x.1, lyQ x.2)
def tget (T : Tb) (k : Option Rat) : Option (Rat × Rat) := (T.find? fun x => decide (x.1 = k)).map (·.2)
def tput (T : Tb) (k : Option Rat) (v : Rat × Rat) : Tb := if (tget T k).isSome = true then T.map (fun x => if x.1 = k then (x.1, v) else x) else T ++ [(k, v)]
/-- all of the key k, summed -/
def sumK : List (Rat × Rat) → Option Rat → Rat × Rat
  | [], _ => (0, 0)
  | p :: ps, k => if ky p = k then (p.1 + (sumK ps k).1, p.2 + (sumK ps k).2) else sumK ps k
theorem sumK_cons (p : Rat × Rat) (ps : List (Rat × Rat)) (k : Option Rat) : sumK (p :: ps) k = if ky p = k then (p.1 + (sumK ps k).1, p.2 + (sumK ps k).2) else sumK ps k := rfl
theorem sumK_append : ∀ (a b : List (Rat × Rat)) (k : Option Rat), sumK (a ++ b) k = ((sumK a k).1 + (sumK b k).1, (sumK a k).2 + (sumK b k).2)
  | [], b, k => by
    show sumK b k = (0 + (sumK b k).1, 0 + (sumK b k).2)
    rw [Rat.zero_add, Rat.zero_add]
  | p :: a, b, k => by
    rw [List.cons_append, sumK_cons, sumK_cons, sumK_append a b k]
    split
    · rw [Rat.add_assoc, Rat.add_assoc]
    · rfl
/-- the table of ps -/
structure Tab (T : Tb) (ps : List (Rat × Rat)) : Prop where
  nd : (T.map (·.1)).Nodup
  sum : ∀ x ∈ T, x.2 = sumK ps x.1
  key : ∀ k, k ∈ T.map (·.1) ↔ ∃ p ∈ ps, ky p = k
  len : T.length ≤ ps.length
theorem tget_none {T : Tb} {k : Option Rat} : tget T k = none ↔ k ∉ T.map (·.1) := by
  unfold tget
  rw [Option.map_eq_none_iff, List.find?_eq_none]
  simp -implicitDefEqProofs only [decide_eq_true_eq, List.mem_map, not_exists, not_and]
theorem tget_some {T : Tb} {k : Option Rat} {v : Rat × Rat} (h : tget T k = some v) : (k, v) ∈ T := by
  unfold tget at h
  obtain ⟨x, h1, h2⟩ := Option.map_eq_some_iff.mp h
  have h3 := List.find?_some h1
  simp -implicitDefEqProofs only [decide_eq_true_eq] at h3
  have := List.mem_of_find?_eq_some h1
  rw [← h3, ← h2]; exact this
theorem Tab.get {T : Tb} {ps : List (Rat × Rat)} (t : Tab T ps) (k : Option Rat) : (tget T k).getD (0, 0) = sumK ps k := by
  cases h : tget T k with
  | some v => exact t.sum _ (tget_some h)
  | none =>
    have hn : ¬ ∃ p ∈ ps, ky p = k := fun z => tget_none.mp h ((t.key k).mpr z)
    clear h t
    show (0, 0) = sumK ps k
    induction ps with
    | nil => rfl
    | cons p ps ih =>
      rw [sumK_cons, if_neg fun z => hn ⟨p, by simp, z⟩]
      exact ih fun ⟨q, hq, z⟩ => hn ⟨q, by simp [hq], z⟩
theorem tput_keys (T : Tb) (k : Option Rat) (v : Rat × Rat) : (tput T k v).map (·.1) = if (tget T k).isSome = true then T.map (·.1) else T.map (·.1) ++ [k] := by
  unfold tput
  split
  · rw [List.map_map]
    refine List.map_congr_left fun x _ => ?_
    show (if x.1 = k then (x.1, v) else x).1 = x.1
    split <;> rfl
  · rw [List.map_append]; rfl
theorem sumK_snoc (ps : List (Rat × Rat)) (p : Rat × Rat) (k : Option Rat) : sumK (ps ++ [p]) k = if ky p = k then ((sumK ps k).1 + p.1, (sumK ps k).2 + p.2) else sumK ps k := by
  rw [sumK_append, sumK_cons]
  have e : sumK [] k = (0, 0) := rfl
  rw [e]
  split
  · rw [Rat.add_zero, Rat.add_zero]
  · show ((sumK ps k).1 + 0, (sumK ps k).2 + 0) = _
    rw [Rat.add_zero, Rat.add_zero]
theorem Tab.step {T : Tb} {ps : List (Rat × Rat)} (t : Tab T ps) (p : Rat × Rat) : Tab (tput T (ky p) ((sumK ps (ky p)).1 + p.1, (sumK ps (ky p)).2 + p.2)) (ps ++ [p]) := by
  have kk := tput_keys T (ky p) ((sumK ps (ky p)).1 + p.1, (sumK ps (ky p)).2 + p.2)
  refine ⟨?_, fun x hx => ?_, fun k => ?_, ?_⟩
  · rw [kk]
    split
    · exact t.nd
    · rename_i h
      rw [List.nodup_append]
      have hn : ky p ∉ T.map (·.1) := tget_none.mp (by simpa using h)
      refine ⟨t.nd, by simp, fun a ha b hb => ?_⟩
      simp at hb; subst hb
      rintro rfl
      exact hn ha
  · rw [sumK_snoc]
    unfold tput at hx
    split at hx
    · obtain ⟨y, hy, e⟩ := List.mem_map.mp hx
      split at e
      · rename_i hk
        subst e
        show _ = if ky p = y.1 then _ else _
        rw [if_pos hk.symm, hk]
      · rename_i hk
        subst e
        rw [if_neg fun z => hk z.symm]
        exact t.sum y hy
    · rename_i h
      rcases List.mem_append.mp hx with hx | hx
      · have hn : ky p ∉ T.map (·.1) := tget_none.mp (by simpa using h)
        rw [if_neg (fun z : ky p = x.1 => hn (by rw [z]; exact List.mem_map.mpr ⟨x, hx, rfl⟩))]
        exact t.sum x hx
      · simp at hx; subst hx
        rw [if_pos rfl]
  · rw [kk]
    have hm : (∃ q ∈ ps ++ [p], ky q = k) ↔ (∃ q ∈ ps, ky q = k) ∨ ky p = k := by
      constructor
      · rintro ⟨q, hq, e⟩
        rcases List.mem_append.mp hq with z | z
        · exact .inl ⟨q, z, e⟩
        · simp at z; subst z; exact .inr e
      · rintro (⟨q, hq, e⟩ | e)
        · exact ⟨q, by simp [hq], e⟩
        · exact ⟨p, by simp, e⟩
    rw [hm, ← t.key k]
    split
    · rename_i h
      constructor
      · exact .inl
      · rintro (h1 | h1)
        · exact h1
        · subst h1
          cases q : tget T (ky p) with
          | none => rw [q] at h; cases h
          | some v => exact List.mem_map.mpr ⟨_, tget_some q, rfl⟩
    · rw [List.mem_append]
      simp [eq_comm]
  · have h := congrArg List.length kk
    have hl := t.len
    rw [List.length_map] at h
    rw [h, List.length_append]
    split <;> simp <;> omega
theorem Tab.nil : Tab [] [] := ⟨by simp, by simp, by simp, by simp⟩
/-! gathered -/
theorem Bd.zero {n : Nat} : Bd n 0 ↔ 0 < n := by
  constructor
  · intro h
    rcases Nat.eq_zero_or_pos n with z | z
    · subst z; exact absurd h.2 (by decide)
    · exact z
  · intro h
    exact ⟨Nat.pos_of_ne_zero (by simp), Nat.one_lt_two_pow (by omega)⟩
/-! a comprehension whose parts read what stands -/
def Agr (M0 M : Mem) : Prop := ∀ j, j < M0.length → M[j]? = M0[j]?
/-- the brine of ps -/
structure IsG (ps B : List (Rat × Rat)) : Prop where
  ex : ∃ ks : List Rat, ks.Pairwise (· < ·) ∧ (∀ c, c ∈ ks ↔ ∃ p ∈ ps, ky p = some c) ∧ ∃ fl : List (Rat × Rat), ((∃ p ∈ ps, ky p = none) → fl = [sumK ps none]) ∧ ((¬ ∃ p ∈ ps, ky p = none) → fl = []) ∧ B = fl ++ ks.reverse.map fun c => sumK ps (some c)
def sk (T : Tb) : List Rat := T.filterMap (·.1)
def gD (T : Tb) (d : D) : D := (lookD (encT T) ((keyN d).getD .none)).getD .non
theorem key_bd {b N : Nat} {ps : List (Rat × Rat)} {c : Rat} (hb : ∀ q ∈ ps, BdL b q) (h : ∃ p ∈ ps, ky p = some c) : Bd (2 * b) c := by
  obtain ⟨p, hp, e⟩ := h
  unfold ky at e
  split at e
  · cases e
  · cases e
    have := hb p hp
    exact (this.s.div this.w).mono (by omega)
/-! is_layer, laid -/
def isLB (f : Rat) (p : Rat × Rat) : Bool := !decide (p.1 < 0) && !decide (p.2 < 0) && (if p.1 = 0 then !decide (p.2 = 0) else !decide (f * p.1 < p.2))
theorem bd_z : Bd 4000 (0 : Rat) := Bd.zero.mpr (by decide)
theorem isfr_fr (q : Rat) (M : Mem) : F_is_fraction [frQ q] M = some (.ok (.bl true), M) := by rw [isfr_eq (good_fr q), isF_fr]
theorem is_layer_eq {f : Rat} {p : Rat × Rat} (hf : Bd 2000 f) (hp : BdL 2000 p) (M : Mem) : F_is_layer [frQ f, lyQ p] M = some (.ok (.bl (isLB f p)), M) := by
  refine runF_pure ?_ rfl
  have it : ∀ ρ M, oIsi (fun a => kitB a "tuple") (fun _ => none) (lyQ p) ρ M = some (.ok (.bl true), M) := fun ρ M => oIsi_tup (np_ly p) _ ρ M
  have l2 : ∀ ρ M, oLen [lyQ p] ρ M = some (.ok (.int 2), M) := fun _ _ => rfl
  have n2 : decide ((2 : Int) = 2) = true := rfl
  have w0 := isless_eq (hp.w.mono (n := 4000) (by decide)) bd_z
  have s0 := isless_eq (hp.s.mono (n := 4000) (by decide)) bd_z
  have tm := times_eq (hf.mono (n := 4000) (by decide)) (hp.w.mono (n := 4000) (by decide))
  have ls := isless_eq ((hf.mul hp.w).mono (n := 4000) (by decide)) (hp.s.mono (n := 4000) (by decide))
  unfold isLB
  by_cases h1 : p.1 < 0
  · simp -implicitDefEqProofs only [den_is_layer, sSeq_ap, sAsg_ap, sPar_ap, sRet_ap, sIf_ap, sExpr_ap, sNext_ap, bnd_ap, ret_ap, bindR_ok, thenR_ok, dVar_ap, varR_ok, seqR_nx, seqR_rt, asgR_ok, gNm_ap, gCn_ap, gcnR_ok, gNl_ap, gTp_fr, gTp_ap, gLs_ap, dCons_ap, dNil_ap, asB_ap, dOr_ap, dAnd_ap, dNot_ap, dAndV_ap, dOrV_ap, dNotV_ap, dIf_ap, oAdd_int, oSub_int, oLt_int, oLe_int, oGt_int, oGe_int, oNeg_int, oEq_int, oNe_int, oEq_fr, oNe_fr, oEq_bl, oNe_bl, oTup_ap, oLst_ap, oCall_ap, oAbs_ap, oMax_ap, oMin_ap, oToInt_b, oToInt_i, oLen_lst, oLen_scr, oLen_tup, oIx_lst, oIx_scr, oAdd_lst, oIx_tup, oIx_fr0, oIx_fr1, ixR_ok, oItL_ap, oItT_ap, sFor_ap, startD, List.map_cons, List.map_nil, List.length_cons, List.length_nil, List.replicate_succ, List.replicate_zero, List.cons_append, List.nil_append, List.append_nil, List.getElem?_cons_zero, List.getElem?_cons_succ, List.set_cons_zero, List.set_cons_succ, Nat.reduceAdd, Nat.reduceSub, Nat.sub_self, Nat.reduceLeDiff, List.all_cons, List.all_nil, np_fr, np_int, np_bl, np_tup, np_lst, np_str, np_non, Bool.and_self, Bool.and_true, if_true_, if_false_, zero_add', if_tt, if_ff, decide_true, decide_false, Nat.le_refl, oItS_lst, oItS_tup, oTupOf_lst, oTupOf_tup, oLstOf_lst, oLstOf_tup, oRv_lst, oRv_tup, oAdd_tup, dChain_ap, asTru_bl, asTru_tup, asTru_lst, oIsN_ap, oNotN_ap, asI_ap, oSl_tup, oSl_lst, oZip_tup, oZip_lst, oAddI_ap, oEqS_ap, oNeS_ap, oNe_nil, it, l2, n2, gTp_ly, isfr_fr, nought_fr, w0, h1, Bool.not_true, Bool.false_eq_true, Bool.false_and]
  · by_cases h2 : p.2 < 0
    · simp -implicitDefEqProofs only [den_is_layer, sSeq_ap, sAsg_ap, sPar_ap, sRet_ap, sIf_ap, sExpr_ap, sNext_ap, bnd_ap, ret_ap, bindR_ok, thenR_ok, dVar_ap, varR_ok, seqR_nx, seqR_rt, asgR_ok, gNm_ap, gCn_ap, gcnR_ok, gNl_ap, gTp_fr, gTp_ap, gLs_ap, dCons_ap, dNil_ap, asB_ap, dOr_ap, dAnd_ap, dNot_ap, dAndV_ap, dOrV_ap, dNotV_ap, dIf_ap, oAdd_int, oSub_int, oLt_int, oLe_int, oGt_int, oGe_int, oNeg_int, oEq_int, oNe_int, oEq_fr, oNe_fr, oEq_bl, oNe_bl, oTup_ap, oLst_ap, oCall_ap, oAbs_ap, oMax_ap, oMin_ap, oToInt_b, oToInt_i, oLen_lst, oLen_scr, oLen_tup, oIx_lst, oIx_scr, oAdd_lst, oIx_tup, oIx_fr0, oIx_fr1, ixR_ok, oItL_ap, oItT_ap, sFor_ap, startD, List.map_cons, List.map_nil, List.length_cons, List.length_nil, List.replicate_succ, List.replicate_zero, List.cons_append, List.nil_append, List.append_nil, List.getElem?_cons_zero, List.getElem?_cons_succ, List.set_cons_zero, List.set_cons_succ, Nat.reduceAdd, Nat.reduceSub, Nat.sub_self, Nat.reduceLeDiff, List.all_cons, List.all_nil, np_fr, np_int, np_bl, np_tup, np_lst, np_str, np_non, Bool.and_self, Bool.and_true, if_true_, if_false_, zero_add', if_tt, if_ff, decide_true, decide_false, Nat.le_refl, oItS_lst, oItS_tup, oTupOf_lst, oTupOf_tup, oLstOf_lst, oLstOf_tup, oRv_lst, oRv_tup, oAdd_tup, dChain_ap, asTru_bl, asTru_tup, asTru_lst, oIsN_ap, oNotN_ap, asI_ap, oSl_tup, oSl_lst, oZip_tup, oZip_lst, oAddI_ap, oEqS_ap, oNeS_ap, oNe_nil, it, l2, n2, gTp_ly, isfr_fr, nought_fr, w0, h1, s0, h2, Bool.not_true, Bool.not_false, Bool.false_eq_true, Bool.false_and, Bool.and_false]
    · by_cases h3 : p.1 = 0
      · have h1' : ¬ ((0 : Rat) < 0) := Rat.lt_irrefl
        rw [h3] at w0
        simp -implicitDefEqProofs only [den_is_layer, sSeq_ap, sAsg_ap, sPar_ap, sRet_ap, sIf_ap, sExpr_ap, sNext_ap, bnd_ap, ret_ap, bindR_ok, thenR_ok, dVar_ap, varR_ok, seqR_nx, seqR_rt, asgR_ok, gNm_ap, gCn_ap, gcnR_ok, gNl_ap, gTp_fr, gTp_ap, gLs_ap, dCons_ap, dNil_ap, asB_ap, dOr_ap, dAnd_ap, dNot_ap, dAndV_ap, dOrV_ap, dNotV_ap, dIf_ap, oAdd_int, oSub_int, oLt_int, oLe_int, oGt_int, oGe_int, oNeg_int, oEq_int, oNe_int, oEq_fr, oNe_fr, oEq_bl, oNe_bl, oTup_ap, oLst_ap, oCall_ap, oAbs_ap, oMax_ap, oMin_ap, oToInt_b, oToInt_i, oLen_lst, oLen_scr, oLen_tup, oIx_lst, oIx_scr, oAdd_lst, oIx_tup, oIx_fr0, oIx_fr1, ixR_ok, oItL_ap, oItT_ap, sFor_ap, startD, List.map_cons, List.map_nil, List.length_cons, List.length_nil, List.replicate_succ, List.replicate_zero, List.cons_append, List.nil_append, List.append_nil, List.getElem?_cons_zero, List.getElem?_cons_succ, List.set_cons_zero, List.set_cons_succ, Nat.reduceAdd, Nat.reduceSub, Nat.sub_self, Nat.reduceLeDiff, List.all_cons, List.all_nil, np_fr, np_int, np_bl, np_tup, np_lst, np_str, np_non, Bool.and_self, Bool.and_true, if_true_, if_false_, zero_add', if_tt, if_ff, decide_true, decide_false, Nat.le_refl, oItS_lst, oItS_tup, oTupOf_lst, oTupOf_tup, oLstOf_lst, oLstOf_tup, oRv_lst, oRv_tup, oAdd_tup, dChain_ap, asTru_bl, asTru_tup, asTru_lst, oIsN_ap, oNotN_ap, asI_ap, oSl_tup, oSl_lst, oZip_tup, oZip_lst, oAddI_ap, oEqS_ap, oNeS_ap, oNe_nil, it, l2, n2, gTp_ly, isfr_fr, nought_fr, w0, h3, h1', s0, h2, Bool.not_true, Bool.not_false, Bool.false_eq_true, Bool.true_and, Bool.and_true]
      · simp -implicitDefEqProofs only [den_is_layer, sSeq_ap, sAsg_ap, sPar_ap, sRet_ap, sIf_ap, sExpr_ap, sNext_ap, bnd_ap, ret_ap, bindR_ok, thenR_ok, dVar_ap, varR_ok, seqR_nx, seqR_rt, asgR_ok, gNm_ap, gCn_ap, gcnR_ok, gNl_ap, gTp_fr, gTp_ap, gLs_ap, dCons_ap, dNil_ap, asB_ap, dOr_ap, dAnd_ap, dNot_ap, dAndV_ap, dOrV_ap, dNotV_ap, dIf_ap, oAdd_int, oSub_int, oLt_int, oLe_int, oGt_int, oGe_int, oNeg_int, oEq_int, oNe_int, oEq_fr, oNe_fr, oEq_bl, oNe_bl, oTup_ap, oLst_ap, oCall_ap, oAbs_ap, oMax_ap, oMin_ap, oToInt_b, oToInt_i, oLen_lst, oLen_scr, oLen_tup, oIx_lst, oIx_scr, oAdd_lst, oIx_tup, oIx_fr0, oIx_fr1, ixR_ok, oItL_ap, oItT_ap, sFor_ap, startD, List.map_cons, List.map_nil, List.length_cons, List.length_nil, List.replicate_succ, List.replicate_zero, List.cons_append, List.nil_append, List.append_nil, List.getElem?_cons_zero, List.getElem?_cons_succ, List.set_cons_zero, List.set_cons_succ, Nat.reduceAdd, Nat.reduceSub, Nat.sub_self, Nat.reduceLeDiff, List.all_cons, List.all_nil, np_fr, np_int, np_bl, np_tup, np_lst, np_str, np_non, Bool.and_self, Bool.and_true, if_true_, if_false_, zero_add', if_tt, if_ff, decide_true, decide_false, Nat.le_refl, oItS_lst, oItS_tup, oTupOf_lst, oTupOf_tup, oLstOf_lst, oLstOf_tup, oRv_lst, oRv_tup, oAdd_tup, dChain_ap, asTru_bl, asTru_tup, asTru_lst, oIsN_ap, oNotN_ap, asI_ap, oSl_tup, oSl_lst, oZip_tup, oZip_lst, oAddI_ap, oEqS_ap, oNeS_ap, oNe_nil, it, l2, n2, gTp_ly, isfr_fr, nought_fr, w0, h1, s0, h2, h3, Bool.not_true, Bool.not_false, Bool.false_eq_true, Bool.true_and, Bool.and_true, tm, ls]
/-! what a brine of ps is -/
theorem div_eq {a b c : Rat} (hb : b ≠ 0) : a / b = c ↔ a = c * b := by
  constructor
  · intro h; rw [← h, Rat.div_mul_cancel hb]
  · intro h; rw [h, Rat.mul_div_cancel hb]
theorem ky_some {p : Rat × Rat} {c : Rat} (h : ky p = some c) : p.1 ≠ 0 ∧ p.2 = c * p.1 := by
  unfold ky at h
  split at h
  · cases h
  · rename_i h0
    cases h
    exact ⟨h0, (Rat.div_mul_cancel h0).symm⟩
theorem ky_none {p : Rat × Rat} (h : ky p = none) : p.1 = 0 := by
  unfold ky at h
  split at h
  · assumption
  · cases h
theorem pos_of {f : Rat} {p : Rat × Rat} (h : LayOk f p) (h0 : p.1 ≠ 0) : 0 < p.1 := Rat.lt_of_le_of_ne h.w (Ne.symm h0)
theorem sum_some {f c : Rat} : ∀ ps : List (Rat × Rat), (∀ p ∈ ps, LayOk f p) → 0 ≤ (sumK ps (some c)).1 ∧ (sumK ps (some c)).2 = c * (sumK ps (some c)).1 ∧ ((∃ p ∈ ps, ky p = some c) → 0 < (sumK ps (some c)).1)
  | [], _ => ⟨Rat.le_refl, by show (0 : Rat) = c * 0; rw [Rat.mul_zero], fun ⟨p, hp, _⟩ => by simp at hp⟩
  | p :: ps, h => by
    obtain ⟨i1, i2, i3⟩ := sum_some (c := c) ps fun q hq => h q (by simp [hq])
    rw [sumK_cons]
    split
    · rename_i hk
      obtain ⟨n0, es⟩ := ky_some hk
      have pp := pos_of (h p (by simp)) n0
      have pos : 0 < p.1 + (sumK ps (some c)).1 := by
        have := Rat.add_le_add_left (c := p.1) |>.mpr i1
        rw [Rat.add_zero] at this
        exact Std.lt_of_lt_of_le pp this
      refine ⟨Rat.le_of_lt pos, ?_, fun _ => pos⟩
      show p.2 + (sumK ps (some c)).2 = c * (p.1 + (sumK ps (some c)).1)
      rw [es, i2, Rat.mul_add]
    · rename_i hk
      refine ⟨i1, i2, fun ⟨q, hq, e⟩ => i3 ?_⟩
      rcases List.mem_cons.mp hq with z | z
      · subst z; exact absurd e hk
      · exact ⟨q, z, e⟩
theorem sum_none {f : Rat} : ∀ ps : List (Rat × Rat), (∀ p ∈ ps, LayOk f p) → (sumK ps none).1 = 0 ∧ 0 ≤ (sumK ps none).2 ∧ ((∃ p ∈ ps, ky p = none) → 0 < (sumK ps none).2)
  | [], _ => ⟨rfl, Rat.le_refl, fun ⟨p, hp, _⟩ => by simp at hp⟩
  | p :: ps, h => by
    obtain ⟨i1, i2, i3⟩ := sum_none ps fun q hq => h q (by simp [hq])
    rw [sumK_cons]
    split
    · rename_i hk
      have n0 := ky_none hk
      have pp := (h p (by simp)).nz n0
      have pos : 0 < p.2 + (sumK ps none).2 := by
        have := Rat.add_le_add_left (c := p.2) |>.mpr i2
        rw [Rat.add_zero] at this
        exact Std.lt_of_lt_of_le pp this
      refine ⟨?_, Rat.le_of_lt pos, fun _ => pos⟩
      show p.1 + (sumK ps none).1 = 0
      rw [n0, i1, Rat.add_zero]
    · rename_i hk
      refine ⟨i1, i2, fun ⟨q, hq, e⟩ => i3 ?_⟩
      rcases List.mem_cons.mp hq with z | z
      · subst z; exact absurd e hk
      · exact ⟨q, z, e⟩
theorem ky_sumK {f : Rat} {ps : List (Rat × Rat)} {k : Option Rat} (h : ∀ p ∈ ps, LayOk f p) (hk : ∃ p ∈ ps, ky p = k) : ky (sumK ps k) = k ∧ LayOk f (sumK ps k) := by
  cases k with
  | none =>
    obtain ⟨a, b, c⟩ := sum_none ps h
    refine ⟨by unfold ky; rw [if_pos a], ⟨by rw [a]; exact Rat.le_refl, b, fun _ => c hk, fun z => ?_⟩⟩
    rw [a] at z; exact absurd z Rat.lt_irrefl
  | some c =>
    obtain ⟨a, b, d⟩ := sum_some (c := c) ps h
    have pos := d hk
    have n0 := Rat.ne_of_gt pos
    obtain ⟨p, hp, e⟩ := hk
    obtain ⟨q0, q1⟩ := ky_some e
    have lp := h p hp
    have pp := pos_of lp q0
    have c0 : 0 ≤ c := by
      rcases Rat.le_total (a := 0) (b := c) with z | z
      · exact z
      · have h1 := lp.s
        rw [q1] at h1
        rcases Rat.le_iff_lt_or_eq.mp z with z | z
        · have := (Rat.mul_neg_iff_of_pos_right (a := c) pp).mpr z
          exact absurd h1 (Rat.not_le.mpr this)
        · rw [z]; exact Rat.le_refl
    have cf : c ≤ f := by
      have h1 := lp.le pp
      rw [q1] at h1
      exact Rat.le_of_mul_le_mul_right h1 pp
    refine ⟨by unfold ky; rw [if_neg n0, (div_eq n0).mpr b], ⟨a, by rw [b]; exact Rat.mul_nonneg c0 a, fun z => absurd z n0, fun _ => by rw [b]; exact Rat.mul_le_mul_of_nonneg_right cf a⟩⟩
/-! sizes of rows -/
def SzL (n : Nat) (l : List (Rat × Rat)) : Prop := ∃ zs : List ((Rat × Rat) × Nat), zs.map (·.1) = l ∧ (∀ z ∈ zs, BdL z.2 z.1) ∧ (zs.map (·.2 + 1)).sum ≤ n
theorem SzL.mono {m n : Nat} {l : List (Rat × Rat)} (h : SzL m l) (e : m ≤ n) : SzL n l := by
  obtain ⟨zs, a, b, c⟩ := h
  exact ⟨zs, a, b, Nat.le_trans c e⟩
theorem sum_sub : ∀ {a b : List Nat}, a.Sublist b → a.sum ≤ b.sum
  | _, _, .slnil => Nat.le_refl _
  | _, _, .cons x h => by have := sum_sub h; simp; omega
  | _, _, .cons_cons x h => by have := sum_sub h; simp; omega
theorem SzL.sub {n : Nat} {l l' : List (Rat × Rat)} (h : SzL n l) (s : l'.Sublist l) : SzL n l' := by
  obtain ⟨zs, a, b, c⟩ := h
  rw [← a] at s
  obtain ⟨ys, h1, h2⟩ := List.sublist_map_iff.mp s
  exact ⟨ys, h2.symm, fun z hz => b z (h1.subset hz), Nat.le_trans (sum_sub (h1.map _)) c⟩
theorem le_sum_mem : ∀ {l : List Nat} {a : Nat}, a ∈ l → a ≤ l.sum
  | x :: l, a, h => by
    rw [List.sum_cons]
    rcases List.mem_cons.mp h with z | z
    · omega
    · have := le_sum_mem z; omega
theorem SzL.bd {n : Nat} {l : List (Rat × Rat)} (h : SzL n l) : ∀ p ∈ l, BdL n p := by
  obtain ⟨zs, a, b, c⟩ := h
  intro p hp
  rw [← a] at hp
  obtain ⟨z, hz, rfl⟩ := List.mem_map.mp hp
  refine (b z hz).mono (Nat.le_trans ?_ c)
  have : z.2 + 1 ≤ (zs.map (·.2 + 1)).sum := le_sum_mem (List.mem_map.mpr ⟨z, hz, rfl⟩)
  omega
def sumW (l : List (Rat × Rat)) : Rat := l.foldr (fun p s => p.1 + s) 0
def sumS (l : List (Rat × Rat)) : Rat := l.foldr (fun p s => p.2 + s) 0
theorem sumW_cons (p : Rat × Rat) (l : List (Rat × Rat)) : sumW (p :: l) = p.1 + sumW l := rfl
theorem sumS_cons (p : Rat × Rat) (l : List (Rat × Rat)) : sumS (p :: l) = p.2 + sumS l := rfl
theorem SzL.sum {n : Nat} {l : List (Rat × Rat)} (h : SzL n l) : Bd (n + 1) (sumW l) ∧ Bd (n + 1) (sumS l) := by
  obtain ⟨zs, a, b, c⟩ := h
  have main : ∀ zs : List ((Rat × Rat) × Nat), (∀ z ∈ zs, BdL z.2 z.1) → Bd ((zs.map (·.2 + 1)).sum + 1) (sumW (zs.map (·.1))) ∧ Bd ((zs.map (·.2 + 1)).sum + 1) (sumS (zs.map (·.1))) := by
    intro zs
    induction zs with
    | nil => intro _; exact ⟨Bd.zero.mpr (by omega), Bd.zero.mpr (by omega)⟩
    | cons z zs ih =>
      intro hz
      obtain ⟨i1, i2⟩ := ih fun x hx => hz x (by simp [hx])
      have hb := hz z (by simp)
      simp -implicitDefEqProofs only [List.map_cons, List.sum_cons, sumW_cons, sumS_cons]
      exact ⟨(hb.w.add i1).mono (by omega), (hb.s.add i2).mono (by omega)⟩
  obtain ⟨m1, m2⟩ := main zs b
  rw [a] at m1 m2
  exact ⟨m1.mono (by omega), m2.mono (by omega)⟩
def cnt (ps : List (Rat × Rat)) (k : Option Rat) : Nat := match ps with
  | [] => 0
  | p :: ps => (if ky p = k then 1 else 0) + cnt ps k
theorem sumK_cnt {b : Nat} : ∀ (ps : List (Rat × Rat)) (k : Option Rat), (∀ p ∈ ps, BdL b p) → BdL (cnt ps k * (b + 1) + 1) (sumK ps k)
  | [], k, _ => ⟨Bd.zero.mpr (by omega), Bd.zero.mpr (by omega)⟩
  | p :: ps, k, h => by
    have ih := sumK_cnt ps k fun q hq => h q (by simp [hq])
    have hp := h p (by simp)
    rw [sumK_cons]
    unfold cnt
    split
    · refine ⟨(hp.w.add ih.w).mono ?_, (hp.s.add ih.s).mono ?_⟩ <;> (rw [Nat.add_mul]; omega)
    · exact ih.mono (by rw [Nat.zero_add]; exact Nat.le_refl _)
theorem cnt_sum : ∀ (ps : List (Rat × Rat)) (ks : List (Option Rat)), ks.Nodup → (ks.map (cnt ps)).sum ≤ ps.length
  | [], ks, _ => by
    have : ∀ ks : List (Option Rat), (ks.map (cnt [])).sum = 0 := fun ks => by
      induction ks with
      | nil => rfl
      | cons k ks ih => rw [List.map_cons, List.sum_cons, ih]; rfl
    rw [this]; exact Nat.zero_le _
  | p :: ps, ks, nd => by
    have ih := cnt_sum ps ks nd
    have e : ∀ ks : List (Option Rat), (ks.map (cnt (p :: ps))).sum = (ks.map fun k => if ky p = k then 1 else 0).sum + (ks.map (cnt ps)).sum := fun ks => by
      induction ks with
      | nil => rfl
      | cons k ks ih =>
        rw [List.map_cons, List.sum_cons, ih, List.map_cons, List.sum_cons, List.map_cons, List.sum_cons]
        show (if ky p = k then 1 else 0) + cnt ps k + _ = _
        omega
    have one : ∀ ks : List (Option Rat), ks.Nodup → (ks.map fun k => if ky p = k then 1 else 0).sum ≤ 1 := fun ks => by
      induction ks with
      | nil => intro _; simp
      | cons k ks ih =>
        intro nd
        rw [List.nodup_cons] at nd
        rw [List.map_cons, List.sum_cons]
        split
        · rename_i h
          have z : (ks.map fun k => if ky p = k then 1 else 0).sum = 0 := by
            have : ∀ x ∈ ks, ¬ ky p = x := fun x hx z => nd.1 (by rw [← h, z]; exact hx)
            clear ih nd
            induction ks with
            | nil => rfl
            | cons y ks ih2 =>
              rw [List.map_cons, List.sum_cons, if_neg (this y (by simp)), ih2 fun x hx => this x (by simp [hx])]
          omega
        · have := ih nd.2; omega
    have := one ks nd
    rw [e, List.length_cons]
    omega
structure BrOk (f : Rat) (n m : Nat) (B : List (Rat × Rat)) : Prop where
  ok : ∀ x ∈ B, LayOk f x
  sz : SzL n B
  asc : ((B.filter fun x => decide (x.1 ≠ 0)).reverse.map fun x => x.2 / x.1).Pairwise (· < ·)
  kb : ∀ x ∈ B, x.1 ≠ 0 → Bd m (x.2 / x.1)
  head : ∀ x ∈ B.drop 1, x.1 ≠ 0
/-- the keys of a brine -/
def gKeys (has : Bool) (ks : List Rat) : List (Option Rat) := (if has then [none] else []) ++ ks.reverse.map some
theorem IsG.keys {ps B : List (Rat × Rat)} (g : IsG ps B) : ∃ (has : Bool) (ks : List Rat), ks.Pairwise (· < ·) ∧ (∀ k, k ∈ gKeys has ks ↔ ∃ p ∈ ps, ky p = k) ∧ B = (gKeys has ks).map (sumK ps) ∧ (gKeys has ks).Nodup := by
  obtain ⟨ks, h1, h2, fl, h3, h4, h5⟩ := g.ex
  have nd : ks.reverse.Nodup := by
    have : ks.reverse.Pairwise (fun a b => b < a) := List.pairwise_reverse.mpr h1
    exact this.imp fun z => Rat.ne_of_gt z
  have nd2 : (ks.reverse.map some).Nodup := List.pairwise_map.mpr (nd.imp fun h z => h (by cases z; rfl))
  have ms : ∀ c, some c ∈ ks.reverse.map some ↔ ∃ p ∈ ps, ky p = some c := fun c => by
    rw [← h2 c]
    constructor
    · intro h
      obtain ⟨d, hd, e⟩ := List.mem_map.mp h
      cases e
      exact List.mem_reverse.mp hd
    · intro h
      exact List.mem_map.mpr ⟨c, List.mem_reverse.mpr h, rfl⟩
  have mn : none ∉ ks.reverse.map some := fun h => by
    obtain ⟨d, hd, e⟩ := List.mem_map.mp h
    cases e
  by_cases hN : ∃ p ∈ ps, ky p = none
  · refine ⟨true, ks, h1, fun k => ?_, ?_, ?_⟩
    · unfold gKeys
      rw [if_pos rfl]
      cases k with
      | none => simp [hN]
      | some c => rw [← ms c]; simp
    · unfold gKeys
      rw [h5, h3 hN, if_pos rfl, List.map_append, List.map_map]; rfl
    · unfold gKeys
      rw [if_pos rfl]
      exact List.nodup_cons.mpr ⟨mn, nd2⟩
  · refine ⟨false, ks, h1, fun k => ?_, ?_, ?_⟩
    · unfold gKeys
      rw [if_neg Bool.false_ne_true, List.nil_append]
      cases k with
      | none =>
        constructor
        · intro h; exact absurd h mn
        · intro h; exact absurd h hN
      | some c => exact ms c
    · unfold gKeys
      rw [h5, h4 hN, if_neg Bool.false_ne_true, List.map_append, List.map_map]; rfl
    · unfold gKeys
      rw [if_neg Bool.false_ne_true, List.nil_append]; exact nd2
theorem wet_keys {f : Rat} {ps : List (Rat × Rat)} (h : ∀ p ∈ ps, LayOk f p) : ∀ (l : List (Option Rat)), (∀ k ∈ l, ∃ p ∈ ps, ky p = k) → ((l.map (sumK ps)).filter fun x => decide (x.1 ≠ 0)).map (fun x => x.2 / x.1) = l.filterMap id
  | [], _ => rfl
  | k :: l, hk => by
    have ih := wet_keys h l fun j hj => hk j (by simp [hj])
    obtain ⟨e1, e2⟩ := ky_sumK h (hk k (by simp))
    rw [List.map_cons]
    cases k with
    | none =>
      rw [List.filter_cons_of_neg (by simpa using ky_none e1)]
      exact ih
    | some c =>
      obtain ⟨n0, es⟩ := ky_some e1
      rw [List.filter_cons_of_pos (by simpa using n0), List.map_cons, ih, (div_eq n0).mpr es]
      rfl
theorem IsG.ok {f : Rat} {b : Nat} {ps B : List (Rat × Rat)} (g : IsG ps B) (h : ∀ p ∈ ps, LayOk f p ∧ BdL b p) : BrOk f (ps.length * (b + 3)) (2 * b) B := by
  obtain ⟨has, ks, h1, h2, h3, h4⟩ := g.keys
  have hl := fun p hp => (h p hp).1
  refine ⟨fun x hx => ?_, ?_, ?_, fun x hx n0 => ?_, fun x hx => ?_⟩
  · rw [h3] at hx
    obtain ⟨k, hk, rfl⟩ := List.mem_map.mp hx
    exact (ky_sumK hl ((h2 k).mp hk)).2
  · refine ⟨(gKeys has ks).map fun k => (sumK ps k, cnt ps k * (b + 1) + 1), by rw [h3, List.map_map]; rfl, fun z hz => ?_, ?_⟩
    · obtain ⟨k, _, rfl⟩ := List.mem_map.mp hz
      exact sumK_cnt ps k fun p hp => (h p hp).2
    · have e : ∀ l : List (Option Rat), (∀ k ∈ l, 1 ≤ cnt ps k) → ((l.map fun k => (sumK ps k, cnt ps k * (b + 1) + 1)).map (·.2 + 1)).sum ≤ (l.map (cnt ps)).sum * (b + 3) := fun l => by
        induction l with
        | nil => intro _; simp
        | cons k l ih =>
          intro hk
          have i := ih fun j hj => hk j (by simp [hj])
          have c1 := hk k (by simp)
          simp -implicitDefEqProofs only [List.map_cons, List.sum_cons]
          rw [Nat.add_mul]
          have e3 : cnt ps k * (b + 3) = cnt ps k * (b + 1) + 2 * cnt ps k := by rw [Nat.mul_add, Nat.mul_add]; omega
          omega
      have pos : ∀ k ∈ gKeys has ks, 1 ≤ cnt ps k := fun k hk => by
        obtain ⟨p, hp, ep⟩ := (h2 k).mp hk
        clear h h2 h3 g hl e
        induction ps with
        | nil => simp at hp
        | cons q ps ih =>
          unfold cnt
          rcases List.mem_cons.mp hp with z | z
          · subst z; rw [if_pos ep]; omega
          · have := ih z; omega
      exact Nat.le_trans (e _ pos) (Nat.mul_le_mul_right _ (cnt_sum ps _ h4))
  · have w := wet_keys hl (gKeys has ks) fun k hk => (h2 k).mp hk
    rw [← h3] at w
    rw [List.map_reverse, w, List.pairwise_reverse]
    have e : (gKeys has ks).filterMap id = ks.reverse := by
      have e0 : ∀ l : List Rat, (l.map some).filterMap id = l := fun l => by
        induction l with
        | nil => rfl
        | cons x l ih => rw [List.map_cons]; show x :: (l.map some).filterMap id = x :: l; rw [ih]
      unfold gKeys
      rw [List.filterMap_append, e0]
      cases has <;> rfl
    rw [e, List.pairwise_reverse]
    exact h1
  · rw [h3] at hx
    obtain ⟨k, hk, rfl⟩ := List.mem_map.mp hx
    obtain ⟨e1, _⟩ := ky_sumK hl ((h2 k).mp hk)
    cases k with
    | none => exact absurd (ky_none e1) n0
    | some c =>
      obtain ⟨_, es⟩ := ky_some e1
      rw [(div_eq n0).mpr es]
      exact key_bd (N := 0) (fun p hp => (h p hp).2) ((h2 _).mp hk)
  · have : x ∈ ((gKeys has ks).drop 1).map (sumK ps) := by rw [h3, ← List.map_drop] at hx; exact hx
    obtain ⟨k, hk, rfl⟩ := List.mem_map.mp this
    have hk2 : k ∈ gKeys has ks := List.mem_of_mem_drop hk
    obtain ⟨e1, _⟩ := ky_sumK hl ((h2 k).mp hk2)
    cases k with
    | some c => exact (ky_some e1).1
    | none =>
      exfalso
      unfold gKeys at hk
      have : none ∈ ks.reverse.map some := by
        cases has with
        | true => exact hk
        | false => exact List.mem_of_mem_drop hk
      obtain ⟨d, _, e⟩ := List.mem_map.mp this
      cases e
theorem cnt_pos {k : Option Rat} : ∀ {ps : List (Rat × Rat)}, (∃ p ∈ ps, ky p = k) → 1 ≤ cnt ps k
  | [], ⟨p, hp, _⟩ => by simp at hp
  | q :: ps, ⟨p, hp, e⟩ => by
    unfold cnt
    rcases List.mem_cons.mp hp with z | z
    · subst z; rw [if_pos e]; omega
    · have := cnt_pos ⟨p, z, e⟩; omega
theorem IsG.len {ps B : List (Rat × Rat)} (g : IsG ps B) : B.length ≤ ps.length := by
  obtain ⟨has, ks, h1, h2, h3, h4⟩ := g.keys
  have e : ∀ l : List (Option Rat), (∀ k ∈ l, 1 ≤ cnt ps k) → l.length ≤ (l.map (cnt ps)).sum := fun l => by
    induction l with
    | nil => intro _; simp
    | cons x l ih =>
      intro pos
      have := ih fun k hk => pos k (by simp [hk])
      have := pos x (by simp)
      simp -implicitDefEqProofs only [List.map_cons, List.sum_cons, List.length_cons]
      omega
  rw [h3, List.length_map]
  exact Nat.le_trans (e _ fun k hk => cnt_pos ((h2 k).mp hk)) (cnt_sum ps _ h4)
/-! a comprehension over a row of known things -/
abbrev wetOf (B : List (Rat × Rat)) : List (Rat × Rat) := B.filter fun x => decide (x.1 ≠ 0)
abbrev stR (x : Rat × Rat) : Rat := x.2 / x.1
/-- the strengths above nought, rising -/
def ownOf (B : List (Rat × Rat)) : List Rat := ((wetOf B).filter fun x => decide (x.2 ≠ 0)).reverse.map stR
/-! needs -/
/-- need by layers -/
def posF (c : Rat) (x : Rat × Rat) : Bool := decide (0 < x.1 - x.2 / c)
def ndL (c : Rat) (l : List (Rat × Rat)) : Rat := sumW (l.filter (posF c)) - sumS (l.filter (posF c)) / c
theorem numpos (q : Rat) : decide (q.num > 0) = decide (0 < q) := by
  rw [decide_eq_decide, Rat.lt_iff]; simp
theorem positive_eq (q : Rat) (M : Mem) : F_is_positive [frQ q] M = some (.ok (.bl (decide (0 < q))), M) := by
  refine runF_pure ?_ rfl
  simp -implicitDefEqProofs only [den_is_positive, sSeq_ap, sAsg_ap, sPar_ap, sRet_ap, sIf_ap, sExpr_ap, sNext_ap, bnd_ap, ret_ap, bindR_ok, thenR_ok, dVar_ap, varR_ok, seqR_nx, seqR_rt, asgR_ok, gNm_ap, gCn_ap, gcnR_ok, gNl_ap, gTp_fr, gTp_ap, gLs_ap, dCons_ap, dNil_ap, asB_ap, dOr_ap, dAnd_ap, dNot_ap, dAndV_ap, dOrV_ap, dNotV_ap, dIf_ap, oAdd_int, oSub_int, oLt_int, oLe_int, oGt_int, oGe_int, oNeg_int, oEq_int, oNe_int, oEq_fr, oNe_fr, oEq_bl, oNe_bl, oTup_ap, oLst_ap, oCall_ap, oAbs_ap, oMax_ap, oMin_ap, oToInt_b, oToInt_i, oLen_lst, oLen_scr, oLen_tup, oIx_lst, oIx_scr, oAdd_lst, oIx_tup, oIx_fr0, oIx_fr1, ixR_ok, oItL_ap, oItT_ap, sFor_ap, startD, List.map_cons, List.map_nil, List.length_cons, List.length_nil, List.replicate_succ, List.replicate_zero, List.cons_append, List.nil_append, List.append_nil, List.getElem?_cons_zero, List.getElem?_cons_succ, List.set_cons_zero, List.set_cons_succ, Nat.reduceAdd, Nat.reduceSub, Nat.sub_self, Nat.reduceLeDiff, List.all_cons, List.all_nil, np_fr, np_int, np_bl, np_tup, np_lst, np_str, np_non, Bool.and_self, Bool.and_true, if_true_, if_false_, zero_add', if_tt, if_ff, decide_true, decide_false, Nat.le_refl, oItS_lst, oItS_tup, oTupOf_lst, oTupOf_tup, oLstOf_lst, oLstOf_tup, oRv_lst, oRv_tup, oAdd_tup, dChain_ap, asTru_bl, asTru_tup, asTru_lst, oIsN_ap, oNotN_ap, asI_ap, oSl_tup, oSl_lst, oZip_tup, oZip_lst, oAddI_ap, oEqS_ap, oNeS_ap, oNe_nil, isfr_fr q, numpos]
/-! the law's own sums -/
theorem den_ne (q : Rat) : (q.den : Int) ≠ 0 := by have := q.den_pos; omega
section
variable {x y : Rat}
theorem dd_ne (x y : Rat) : (x.den : Int) * (y.den : Int) ≠ 0 := Int.mul_ne_zero (den_ne x) (den_ne y)
end
/-- a strength for f -/
structure StrOk (f : Rat) (k : Nat) (c : Rat) : Prop where
  pos : 0 < c
  le : c ≤ f
  bd : Bd k c
/-! sums over a brine -/
def sumF (φ : Rat × Rat → Rat) (l : List (Rat × Rat)) : Rat := l.foldr (fun p s => φ p + s) 0
theorem sumF_cons (φ : Rat × Rat → Rat) (p : Rat × Rat) (l : List (Rat × Rat)) : sumF φ (p :: l) = φ p + sumF φ l := rfl
theorem sumF_append (φ : Rat × Rat → Rat) : ∀ a b : List (Rat × Rat), sumF φ (a ++ b) = sumF φ a + sumF φ b
  | [], b => by show sumF φ b = 0 + sumF φ b; rw [Rat.zero_add]
  | x :: a, b => by rw [List.cons_append, sumF_cons, sumF_cons, sumF_append φ a b, Rat.add_assoc]
structure SumOk (φ : Rat × Rat → Rat) (l : List (Rat × Rat)) : Prop where
  el : ∀ x ∈ l, Bd 1800 (φ x)
  pre : ∀ a b, l = a ++ b → Bd 1800 (sumF φ a)
theorem SumOk.w {n : Nat} {l : List (Rat × Rat)} (h : SzL n l) (hn : n + 1 ≤ 1800) : SumOk (·.1) l := ⟨fun x hx => (h.bd x hx).w.mono (by omega), fun a b e => (h.sub (by rw [e]; exact List.sublist_append_left _ _)).sum.1.mono hn⟩
theorem SumOk.s {n : Nat} {l : List (Rat × Rat)} (h : SzL n l) (hn : n + 1 ≤ 1800) : SumOk (·.2) l := ⟨fun x hx => (h.bd x hx).s.mono (by omega), fun a b e => (h.sub (by rw [e]; exact List.sublist_append_left _ _)).sum.2.mono hn⟩
abbrev dryOf (B : List (Rat × Rat)) : List (Rat × Rat) := B.filter fun x => decide (x.1 = 0)
/-- the strength of the first of a row, None of none -/
def hdS : List (Rat × Rat) → D
  | [] => .non
  | x :: _ => frQ (stR x)
/-! shares -/
def shr (t : Rat) (B : List (Rat × Rat)) : List (Rat × Rat) := if t = 0 then [] else B.map fun x => (x.1 * t, x.2 * t)
/-! alike rows -/
/-! rows that make the same brine -/
abbrev HasK (ps : List (Rat × Rat)) (k : Option Rat) : Prop := ∃ p ∈ ps, ky p = k
structure Same (ps qs : List (Rat × Rat)) : Prop where
  key : ∀ k, HasK ps k ↔ HasK qs k
  sum : ∀ k, sumK ps k = sumK qs k
theorem Same.symm {a b : List (Rat × Rat)} (h : Same a b) : Same b a := ⟨fun k => (h.key k).symm, fun k => (h.sum k).symm⟩
theorem Same.trans {a b c : List (Rat × Rat)} (h : Same a b) (g : Same b c) : Same a c := ⟨fun k => (h.key k).trans (g.key k), fun k => (h.sum k).trans (g.sum k)⟩
theorem IsG.congr {ps qs B : List (Rat × Rat)} (g : IsG ps B) (h : Same ps qs) : IsG qs B := by
  obtain ⟨ks, a, b, fl, c, d, e⟩ := g.ex
  refine ⟨ks, a, fun c => (b c).trans (h.key _), fl, fun z => ?_, fun z => d fun y => z ((h.key _).mp y), ?_⟩
  · rw [c ((h.key _).mpr z), h.sum]
  · rw [e]
    congr 1
    exact List.map_congr_left fun c _ => h.sum _
theorem asc_eq : ∀ {l l' : List Rat}, l.Pairwise (· < ·) → l'.Pairwise (· < ·) → (∀ c, c ∈ l ↔ c ∈ l') → l = l'
  | [], [], _, _, _ => rfl
  | [], y :: l', _, _, h => by have := (h y).mpr (by simp); simp at this
  | x :: l, [], _, _, h => by have := (h x).mp (by simp); simp at this
  | x :: l, y :: l', h1, h2, h => by
    rw [List.pairwise_cons] at h1 h2
    have e : x = y := by
      rcases List.mem_cons.mp ((h x).mp (by simp)) with z | z
      · exact z
      · rcases List.mem_cons.mp ((h y).mpr (by simp)) with w | w
        · exact w.symm
        · exact absurd (h1.1 y w) (Rat.not_lt.mpr (Rat.le_of_lt (h2.1 x z)))
    subst e
    rw [asc_eq h1.2 h2.2 fun c => ?_]
    constructor
    · intro z
      rcases List.mem_cons.mp ((h c).mp (by simp [z])) with w | w
      · subst w; exact absurd (h1.1 c z) Rat.lt_irrefl
      · exact w
    · intro z
      rcases List.mem_cons.mp ((h c).mpr (by simp [z])) with w | w
      · subst w; exact absurd (h2.1 c z) Rat.lt_irrefl
      · exact w
theorem IsG.uniq {ps B C : List (Rat × Rat)} (g : IsG ps B) (h : IsG ps C) : B = C := by
  obtain ⟨ks, a, b, fl, c, d, e⟩ := g.ex
  obtain ⟨ks', a', b', fl', c', d', e'⟩ := h.ex
  have ek : ks = ks' := asc_eq a a' fun x => (b x).trans (b' x).symm
  have ef : fl = fl' := by
    by_cases z : ∃ p ∈ ps, ky p = none
    · rw [c z, c' z]
    · rw [d z, d' z]
  rw [e, e', ek, ef]
theorem IsG.nil : IsG [] [] := ⟨[], .nil, fun c => by simp, [], fun ⟨p, hp, _⟩ => by simp at hp, fun _ => rfl, rfl⟩
theorem sumK_no {k : Option Rat} : ∀ {ps : List (Rat × Rat)}, ¬ HasK ps k → sumK ps k = (0, 0)
  | [], _ => rfl
  | p :: ps, h => by
    rw [sumK_cons, if_neg fun z => h ⟨p, by simp, z⟩]
    exact sumK_no fun ⟨q, hq, e⟩ => h ⟨q, by simp [hq], e⟩
theorem sumK_keys {ps : List (Rat × Rat)} {k : Option Rat} : ∀ (l : List (Option Rat)), l.Nodup → (∀ j ∈ l, ky (sumK ps j) = j) → sumK (l.map (sumK ps)) k = if k ∈ l then sumK ps k else (0, 0)
  | [], _, _ => by simp; rfl
  | j :: l, nd, h => by
    rw [List.nodup_cons] at nd
    have ih := sumK_keys (k := k) l nd.2 fun i hi => h i (by simp [hi])
    rw [List.map_cons, sumK_cons, h j (by simp), ih]
    by_cases e : j = k
    · subst e
      rw [if_pos rfl, if_neg nd.1, if_pos (by simp)]
      rw [Rat.add_zero, Rat.add_zero]
    · rw [if_neg e]
      by_cases m : k ∈ l
      · rw [if_pos m, if_pos (by simp [m])]
      · rw [if_neg m, if_neg (by simp [m, Ne.symm e])]
theorem IsG.same {f : Rat} {ps B : List (Rat × Rat)} (g : IsG ps B) (hl : ∀ p ∈ ps, LayOk f p) : Same B ps := by
  obtain ⟨has, ks, h1, h2, h3, h4⟩ := g.keys
  have hk : ∀ j ∈ gKeys has ks, ky (sumK ps j) = j := fun j hj => (ky_sumK hl ((h2 j).mp hj)).1
  refine ⟨fun k => ?_, fun k => ?_⟩
  · refine Iff.trans ?_ (h2 k)
    rw [h3]
    constructor
    · rintro ⟨p, hp, e⟩
      obtain ⟨j, hj, rfl⟩ := List.mem_map.mp hp
      rw [hk j hj] at e
      rw [← e]; exact hj
    · intro z
      exact ⟨sumK ps k, List.mem_map.mpr ⟨k, z, rfl⟩, hk k z⟩
  · rw [h3, sumK_keys _ h4 hk]
    by_cases m : k ∈ gKeys has ks
    · rw [if_pos m]
    · rw [if_neg m, sumK_no fun z => m ((h2 k).mpr z)]
/-! sizes -/
theorem sumK_filter : ∀ (l : List (Rat × Rat)) (k : Option Rat), sumK l k = (sumW (l.filter fun p => decide (ky p = k)), sumS (l.filter fun p => decide (ky p = k)))
  | [], _ => rfl
  | p :: l, k => by
    rw [sumK_cons, sumK_filter l k]
    by_cases e : ky p = k
    · rw [if_pos e, List.filter_cons_of_pos (by simpa using e), sumW_cons, sumS_cons]
    · rw [if_neg e, List.filter_cons_of_neg (by simpa using e)]
theorem SzL.sumK {n : Nat} {l : List (Rat × Rat)} (h : SzL n l) (k : Option Rat) : BdL (n + 1) (Bw.sumK l k) := by
  rw [sumK_filter]
  have := (h.sub (List.filter_sublist (p := fun p => decide (ky p = k)))).sum
  exact ⟨this.1, this.2⟩
/-! a brine and a row that it is made of -/
structure BG (f : Rat) (ps B : List (Rat × Rat)) : Prop where
  g : IsG ps B
  lay : ∀ p ∈ ps, LayOk f p ∧ BdL 40 p
  len : ps.length ≤ 30
theorem BG.ln {f : Rat} {ps B : List (Rat × Rat)} (h : BG f ps B) : B.length ≤ 30 := Nat.le_trans h.g.len h.len
theorem BG.same {f : Rat} {ps B : List (Rat × Rat)} (h : BG f ps B) : Same B ps := h.g.same fun p hp => (h.lay p hp).1
theorem BG.nil (f : Rat) : BG f [] [] := ⟨IsG.nil, fun p hp => by simp at hp, by simp⟩
theorem BG.eq {f : Rat} {ps qs A B : List (Rat × Rat)} (h : BG f ps A) (g : BG f qs B) (s : Same ps qs) : A = B := (h.g.congr s).uniq g.g
/-! totals -/
structure AddK (G : Option Rat → Rat × Rat → Rat) : Prop where
  z : ∀ k, G k (0, 0) = 0
  a : ∀ k p q, G k (p.1 + q.1, p.2 + q.2) = G k p + G k q
abbrev totK (G : Option Rat → Rat × Rat → Rat) (l : List (Rat × Rat)) : Rat := sumF (fun p => G (ky p) p) l
def sumO (ψ : Option Rat → Rat) (l : List (Option Rat)) : Rat := l.foldr (fun k s => ψ k + s) 0
theorem sumO_cons (ψ : Option Rat → Rat) (k : Option Rat) (l : List (Option Rat)) : sumO ψ (k :: l) = ψ k + sumO ψ l := rfl
theorem sumO_zero {ψ : Option Rat → Rat} : ∀ {l : List (Option Rat)}, (∀ k ∈ l, ψ k = 0) → sumO ψ l = 0
  | [], _ => rfl
  | k :: l, h => by rw [sumO_cons, h k (by simp), sumO_zero fun j hj => h j (by simp [hj]), Rat.add_zero]
theorem sumO_one {j : Option Rat} {v : Rat} : ∀ {l : List (Option Rat)}, l.Nodup → j ∈ l → sumO (fun k => if j = k then v else 0) l = v
  | k :: l, nd, h => by
    rw [List.nodup_cons] at nd
    rw [sumO_cons]
    by_cases e : j = k
    · subst e
      rw [if_pos rfl, sumO_zero fun i hi => if_neg fun z => nd.1 (by rw [z]; exact hi), Rat.add_zero]
    · rw [if_neg e, Rat.zero_add]
      exact sumO_one nd.2 ((List.mem_cons.mp h).resolve_left e)
theorem sumO_add {ψ χ : Option Rat → Rat} : ∀ l : List (Option Rat), sumO (fun k => ψ k + χ k) l = sumO ψ l + sumO χ l
  | [] => by show (0 : Rat) = 0 + 0; rw [Rat.add_zero]
  | k :: l => by
    rw [sumO_cons, sumO_cons, sumO_cons, sumO_add l]
    grind
theorem sumO_congr {ψ χ : Option Rat → Rat} : ∀ {l : List (Option Rat)}, (∀ k ∈ l, ψ k = χ k) → sumO ψ l = sumO χ l
  | [], _ => rfl
  | k :: l, h => by rw [sumO_cons, sumO_cons, h k (by simp), sumO_congr fun j hj => h j (by simp [hj])]
theorem totK_keys {G : Option Rat → Rat × Rat → Rat} (hG : AddK G) {l : List (Option Rat)} (nd : l.Nodup) : ∀ ps : List (Rat × Rat), (∀ p ∈ ps, ky p ∈ l) → sumO (fun k => G k (sumK ps k)) l = totK G ps
  | [], _ => sumO_zero fun k _ => hG.z k
  | p :: ps, h => by
    have ih := totK_keys hG nd ps fun q hq => h q (by simp [hq])
    have e : ∀ k ∈ l, G k (sumK (p :: ps) k) = (if ky p = k then G (ky p) p else 0) + G k (sumK ps k) := fun k _ => by
      rw [sumK_cons]
      by_cases z : ky p = k
      · rw [if_pos z, if_pos z, hG.a, z]
      · rw [if_neg z, if_neg z, Rat.zero_add]
    rw [sumO_congr e, sumO_add, sumO_one nd (h p (by simp)), ih]
    rfl
theorem totK_map {G : Option Rat → Rat × Rat → Rat} {ps : List (Rat × Rat)} : ∀ (l : List (Option Rat)), (∀ j ∈ l, ky (sumK ps j) = j) → totK G (l.map (sumK ps)) = sumO (fun k => G k (sumK ps k)) l
  | [], _ => rfl
  | k :: l, h => by
    rw [List.map_cons, sumO_cons, ← totK_map l fun j hj => h j (by simp [hj])]
    show G (ky (sumK ps k)) (sumK ps k) + _ = _
    rw [h k (by simp)]
    rfl
theorem BG.tot {f : Rat} {ps B : List (Rat × Rat)} {G : Option Rat → Rat × Rat → Rat} (h : BG f ps B) (hG : AddK G) : totK G B = totK G ps := by
  obtain ⟨has, ks, h1, h2, h3, h4⟩ := h.g.keys
  rw [h3, totK_map _ fun j hj => (ky_sumK (fun p hp => (h.lay p hp).1) ((h2 j).mp hj)).1]
  exact totK_keys hG h4 ps fun p hp => (h2 _).mpr ⟨p, hp, rfl⟩
theorem BG.add {f : Rat} {ps qs A B C : List (Rat × Rat)} {G : Option Rat → Rat × Rat → Rat} (hG : AddK G) (hA : BG f ps A) (hB : BG f qs B) (hC : BG f (ps ++ qs) C) : totK G A + totK G B = totK G C := by
  rw [hA.tot hG, hB.tot hG, hC.tot hG]
  exact (sumF_append _ _ _).symm
/-! totals of water, salt, fallen salt, needs -/
def Gw (_ : Option Rat) (p : Rat × Rat) : Rat := p.1
def Gs (_ : Option Rat) (p : Rat × Rat) : Rat := p.2
def Gd : Option Rat → Rat × Rat → Rat
  | none, p => p.2
  | some _, _ => 0
def Gn (c : Rat) : Option Rat → Rat × Rat → Rat
  | none, _ => 0
  | some s, p => if s < c then p.1 - p.2 / c else 0
/-! shares of a brine -/
theorem ky_scl {t : Rat} (h : t ≠ 0) (x : Rat × Rat) : ky (x.1 * t, x.2 * t) = ky x := by
  unfold ky
  by_cases z : x.1 = 0
  · rw [if_pos z, if_pos (by show x.1 * t = 0; rw [z, Rat.zero_mul])]
  · have nz : x.1 * t ≠ 0 := fun e => (Rat.mul_eq_zero.mp e).elim z h
    rw [if_neg z, if_neg nz]
    congr 1
    show x.2 * t / (x.1 * t) = x.2 / x.1
    rw [div_eq nz]
    have := Rat.div_mul_cancel (a := x.2) z
    rw [← Rat.mul_assoc, this]
theorem sumK_scl {t : Rat} (h : t ≠ 0) (k : Option Rat) : ∀ ps : List (Rat × Rat), sumK (ps.map fun x => (x.1 * t, x.2 * t)) k = ((sumK ps k).1 * t, (sumK ps k).2 * t)
  | [] => by show ((0 : Rat), (0 : Rat)) = (0 * t, 0 * t); rw [Rat.zero_mul]
  | p :: ps => by
    rw [List.map_cons, sumK_cons, sumK_cons, ky_scl h, sumK_scl h k ps]
    split
    · rw [Rat.add_mul, Rat.add_mul]
    · rfl
theorem hasK_scl {t : Rat} (h : t ≠ 0) (ps : List (Rat × Rat)) (k : Option Rat) : HasK (ps.map fun x => (x.1 * t, x.2 * t)) k ↔ HasK ps k := by
  constructor
  · rintro ⟨p, hp, e⟩
    obtain ⟨q, hq, rfl⟩ := List.mem_map.mp hp
    rw [ky_scl h] at e
    exact ⟨q, hq, e⟩
  · rintro ⟨p, hp, e⟩
    exact ⟨_, List.mem_map.mpr ⟨p, hp, rfl⟩, by rw [ky_scl h]; exact e⟩
theorem shr_zero (B : List (Rat × Rat)) : shr 0 B = [] := by unfold shr; rw [if_pos rfl]
theorem shr_ne {t : Rat} (h : t ≠ 0) (B : List (Rat × Rat)) : shr t B = B.map fun x => (x.1 * t, x.2 * t) := by unfold shr; rw [if_neg h]
theorem IsG.shr {ps B : List (Rat × Rat)} (g : IsG ps B) (t : Rat) : IsG (Bw.shr t ps) (Bw.shr t B) := by
  by_cases h : t = 0
  · subst h
    rw [shr_zero, shr_zero]; exact IsG.nil
  · rw [shr_ne h, shr_ne h]
    obtain ⟨ks, a, b, fl, c, d, e⟩ := g.ex
    refine ⟨ks, a, fun x => (b x).trans (hasK_scl h ps _).symm, fl.map fun x => (x.1 * t, x.2 * t), fun z => ?_, fun z => ?_, ?_⟩
    · rw [c ((hasK_scl h ps none).mp z), sumK_scl h]; rfl
    · rw [d fun y => z ((hasK_scl h ps none).mpr y)]; rfl
    · rw [e, List.map_append, List.map_map]
      congr 1
      exact List.map_congr_left fun x _ => (sumK_scl h _ ps).symm
theorem LayOk.scl {f t : Rat} {x : Rat × Rat} (h : LayOk f x) (t0 : 0 < t) : LayOk f (x.1 * t, x.2 * t) := by
  have tn := Rat.le_of_lt t0
  refine ⟨Rat.mul_nonneg h.w tn, Rat.mul_nonneg h.s tn, fun z => ?_, fun z => ?_⟩
  · have : x.1 = 0 := by
      rcases Rat.mul_eq_zero.mp z with y | y
      · exact y
      · exact absurd y (Rat.ne_of_gt t0)
    exact Rat.mul_pos (h.nz this) t0
  · have : 0 < x.1 := by
      rcases Rat.le_iff_lt_or_eq.mp h.w with y | y
      · exact y
      · have z' : 0 < x.1 * t := z
        rw [← y, Rat.zero_mul] at z'
        exact absurd z' Rat.lt_irrefl
    have := Rat.mul_le_mul_of_nonneg_right (h.le this) tn
    show x.2 * t ≤ f * (x.1 * t)
    rw [← Rat.mul_assoc]; exact this
theorem shr_len (t : Rat) (B : List (Rat × Rat)) : (shr t B).length ≤ B.length := by
  unfold shr
  split <;> simp
theorem BG.shr {f t : Rat} {ps B : List (Rat × Rat)} (h : BG f ps B) (hp : ∀ p ∈ ps, BdL 34 p) (t0 : 0 ≤ t) (bt : Bd 6 t) : BG f (Bw.shr t ps) (Bw.shr t B) := by
  refine ⟨h.g.shr t, ?_, Nat.le_trans (shr_len t ps) h.len⟩
  by_cases z : t = 0
  · subst z
    rw [shr_zero]
    intro p hp; simp at hp
  · rw [shr_ne z]
    intro p hm
    obtain ⟨q, hq, rfl⟩ := List.mem_map.mp hm
    exact ⟨(h.lay q hq).1.scl (Rat.lt_of_le_of_ne t0 (Ne.symm z)), ⟨(hp q hq).w.mul bt, (hp q hq).s.mul bt⟩⟩
/-! is_brine -/
abbrev Below (x y : Rat × Rat) : Prop := y.2 * x.1 < x.2 * y.1
/-! the strengths of a brine -/
/-! least, greatest -/
def minL : Rat → List Rat → Rat
  | b, [] => b
  | b, q :: qs => minL (if q < b then q else b) qs
def maxL : Rat → List Rat → Rat
  | b, [] => b
  | b, q :: qs => maxL (if b < q then q else b) qs
theorem ixN3_1 : ixN 3 1 = some 1 := rfl
theorem take_eq {c n : Nat} {M : Mem} {m : Int} (hr : HasReel c n M) (hc : c < 2 ^ 30) (h0 : 0 < m) (hm : m.natAbs < 2 ^ 4000) :
    ∃ v M', F__law_take [.ptr n, .int m] M = some (.ok (.int v), M') ∧ 0 ≤ v ∧ v < m ∧ Turned (c + 1) n M M' := by
  have hn := hr.lt
  obtain ⟨a, r, t, e, ha, hr0, hr1, ht0, ht1⟩ := hr
  have hm0 : m ≠ 0 := by omega
  by_cases hp : 0 < a
  · refine ⟨a.fmod m, M.set n (some [.int (a.fdiv m), .int r, .int t]), ?_, (fmod_pos h0).1, (fmod_pos h0).2, by simp, fun j h => List.getElem?_set_ne (Ne.symm h), a.fdiv m, r, t, List.getElem?_set_self hn, ?_, hr0, hr1, ht0, by omega⟩
    · have hd : DivOk m := DivOk.of (b := 4000) hm0 hm
      have := runF_rt (N := ["pot", "many", "digit"]) (fb := den__law_take) (ds := [.ptr n, .int m]) (M := M) (M2 := M.set n (some [.int (a.fdiv m), .int r, .int t])) (d := .int (a.fmod m)) (by
        simp -implicitDefEqProofs only [den__law_take, sSeq_ap, sAsg_ap, sPar_ap, sRet_ap, sIf_ap, sExpr_ap, sNext_ap, bnd_ap, ret_ap, bindR_ok, thenR_ok, dVar_ap, varR_ok, seqR_nx, seqR_rt, asgR_ok, gNm_ap, gCn_ap, gcnR_ok, gNl_ap, gTp_fr, gTp_ap, gLs_ap, dCons_ap, dNil_ap, asB_ap, dOr_ap, dAnd_ap, dNot_ap, dAndV_ap, dOrV_ap, dNotV_ap, dIf_ap, oAdd_int, oSub_int, oLt_int, oLe_int, oGt_int, oGe_int, oNeg_int, oEq_int, oNe_int, oEq_fr, oNe_fr, oEq_bl, oNe_bl, oTup_ap, oLst_ap, oCall_ap, oAbs_ap, oMax_ap, oMin_ap, oToInt_b, oToInt_i, oLen_lst, oLen_scr, oLen_tup, oIx_lst, oIx_scr, oAdd_lst, oIx_tup, oIx_fr0, oIx_fr1, ixR_ok, oItL_ap, oItT_ap, sFor_ap, startD, List.map_cons, List.map_nil, List.length_cons, List.length_nil, List.replicate_succ, List.replicate_zero, List.cons_append, List.nil_append, List.append_nil, List.getElem?_cons_zero, List.getElem?_cons_succ, List.set_cons_zero, List.set_cons_succ, Nat.reduceAdd, Nat.reduceSub, Nat.sub_self, Nat.reduceLeDiff, List.all_cons, List.all_nil, np_fr, np_int, np_bl, np_tup, np_lst, np_str, np_non, Bool.and_self, Bool.and_true, if_true_, if_false_, zero_add', if_tt, if_ff, decide_true, decide_false, Nat.le_refl, oItS_lst, oItS_tup, oTupOf_lst, oTupOf_tup, oLstOf_lst, oLstOf_tup, oRv_lst, oRv_tup, oAdd_tup, dChain_ap, asTru_bl, asTru_tup, asTru_lst, oIsN_ap, oNotN_ap, asI_ap, oSl_tup, oSl_lst, oZip_tup, oZip_lst, oAddI_ap, oEqS_ap, oNeS_ap, oNe_nil, oIx_ptr _ _ e, atI3_0, hp, decide_true, oMod_int hm0, oDiv_int hd, sStore_ap, e, ixN3_0]) (by simp) rfl
      rw [F__law_take, this, List.take_of_length_le (by simp)]
    · exact Int.fdiv_nonneg ha (by omega)
  · have ea : a = 0 := by omega
    subst ea
    have hcz : (c : Int) < 2 ^ 30 := by exact_mod_cast hc
    have tl : (t + 1).natAbs < 2 ^ 31 := natAbs_lt_of (by omega) (by omega)
    have rl : r.natAbs < 2 ^ 40 := natAbs_lt_of hr0 hr1
    have k1 : MulOk r 69621 := MulOk.of (a := 40) (b := 20) rl (by decide)
    have k2 : MulOk 104729 (t + 1) := MulOk.of (a := 20) (b := 31) (by decide) tl
    have tt : (104729 * (t + 1)).natAbs < 2 ^ 51 := by rw [Int.natAbs_mul]; exact mul_lt_pow (m := 20) (n := 31) (by decide) tl
    have k3 : MulOk (104729 * (t + 1)) (t + 1) := MulOk.of tt tl
    have z1 : (2147483629 : Int) ≠ 0 := by decide
    have z2 : (2147483587 : Int) ≠ 0 := by decide
    have d16 : DivOk 16 := DivOk.of (b := 5) (by decide) (by decide)
    generalize hv1 : (r * 69621 + 104729 * (t + 1) * (t + 1) + 12345).fmod 2147483629 = v1
    have b1 : 0 ≤ v1 ∧ v1 < 2 ^ 31 := by
      have := fmod_pos (i := r * 69621 + 104729 * (t + 1) * (t + 1) + 12345) (m := 2147483629) (by decide)
      rw [hv1] at this; omega
    have p3 : ∀ ρ M, oPow (.int v1) (.int 3) ρ M = some (.ok (.int (v1 ^ 3)), M) := fun ρ M => oPow_ap v1 3 ρ M (by decide) (by omega)
    generalize hv3 : ((((v1 ^ 3).fmod 2147483587).fdiv 16).fmod m) = v3
    have b3 : 0 ≤ v3 ∧ v3 < m := by rw [← hv3]; exact fmod_pos h0
    have eM : (M.set n (some [D.int 0, .int r, .int (t + 1)]))[n]? = some (some [D.int 0, .int r, .int (t + 1)]) := List.getElem?_set_self hn
    have hn2 : n < (M.set n (some [D.int 0, .int r, .int (t + 1)])).length := by simpa using hn
    have eM2 : ((M.set n (some [D.int 0, .int r, .int (t + 1)])).set n (some [D.int 0, .int v1, .int (t + 1)]))[n]? = some (some [D.int 0, .int v1, .int (t + 1)]) := List.getElem?_set_self hn2
    refine ⟨v3, (M.set n (some [D.int 0, .int r, .int (t + 1)])).set n (some [D.int 0, .int v1, .int (t + 1)]), ?_, b3.1, b3.2, by simp, fun j h => by rw [List.getElem?_set_ne (Ne.symm h), List.getElem?_set_ne (Ne.symm h)], 0, v1, t + 1, eM2, by omega, b1.1, by omega, by omega, by push_cast; omega⟩
    have := runF_rt (N := ["pot", "many", "digit"]) (fb := den__law_take) (ds := [.ptr n, .int m]) (M := M) (M2 := (M.set n (some [D.int 0, .int r, .int (t + 1)])).set n (some [D.int 0, .int v1, .int (t + 1)])) (d := .int v3) (by
      have z0 : ¬ ((0 : Int) < 0) := by decide
      simp -implicitDefEqProofs only [den__law_take, sSeq_ap, sAsg_ap, sPar_ap, sRet_ap, sIf_ap, sExpr_ap, sNext_ap, bnd_ap, ret_ap, bindR_ok, thenR_ok, dVar_ap, varR_ok, seqR_nx, seqR_rt, asgR_ok, gNm_ap, gCn_ap, gcnR_ok, gNl_ap, gTp_fr, gTp_ap, gLs_ap, dCons_ap, dNil_ap, asB_ap, dOr_ap, dAnd_ap, dNot_ap, dAndV_ap, dOrV_ap, dNotV_ap, dIf_ap, oAdd_int, oSub_int, oLt_int, oLe_int, oGt_int, oGe_int, oNeg_int, oEq_int, oNe_int, oEq_fr, oNe_fr, oEq_bl, oNe_bl, oTup_ap, oLst_ap, oCall_ap, oAbs_ap, oMax_ap, oMin_ap, oToInt_b, oToInt_i, oLen_lst, oLen_scr, oLen_tup, oIx_lst, oIx_scr, oAdd_lst, oIx_tup, oIx_fr0, oIx_fr1, ixR_ok, oItL_ap, oItT_ap, sFor_ap, startD, List.map_cons, List.map_nil, List.length_cons, List.length_nil, List.replicate_succ, List.replicate_zero, List.cons_append, List.nil_append, List.append_nil, List.getElem?_cons_zero, List.getElem?_cons_succ, List.set_cons_zero, List.set_cons_succ, Nat.reduceAdd, Nat.reduceSub, Nat.sub_self, Nat.reduceLeDiff, List.all_cons, List.all_nil, np_fr, np_int, np_bl, np_tup, np_lst, np_str, np_non, Bool.and_self, Bool.and_true, if_true_, if_false_, zero_add', if_tt, if_ff, decide_true, decide_false, Nat.le_refl, oItS_lst, oItS_tup, oTupOf_lst, oTupOf_tup, oLstOf_lst, oLstOf_tup, oRv_lst, oRv_tup, oAdd_tup, dChain_ap, asTru_bl, asTru_tup, asTru_lst, oIsN_ap, oNotN_ap, asI_ap, oSl_tup, oSl_lst, oZip_tup, oZip_lst, oAddI_ap, oEqS_ap, oNeS_ap, oNe_nil, oIx_ptr _ _ e, atI3_0, atI3_2, z0, decide_false, Bool.false_eq_true, sStore_ap, e, ixN3_2, oIx_ptr _ _ eM, eM, ixN3_1, atI3_1, oMul_int k1, oMul_int k2, oMul_int k3, oMod_int z1, hv1, oIx_ptr _ _ eM2, p3, oMod_int z2, oDiv_int d16, oMod_int hm0, hv3]) (by simp) rfl
    rw [F__law_take, this, List.take_of_length_le (by simp)]
theorem prime8 {i : Int} (h0 : 0 ≤ i) (h : i < 8) : ∃ p : Int, atI [D.int 2147483647, .int 2147483629, .int 2147483587, .int 2147483579, .int 2147483563, .int 2147483549, .int 2147483543, .int 2147483497] i = some (.int p) ∧ (0 < p ∧ p < 2 ^ 31) :=
  atI_lit h0 h fun d hd => by
    simp -implicitDefEqProofs only [List.mem_cons, List.not_mem_nil, or_false] at hd
    rcases hd with h | h | h | h | h | h | h | h <;> subst h <;> exact ⟨_, rfl, by decide, by decide⟩
theorem pot_eq (cell : Int) (k : Nat) (hk : k < 64) (M : Mem) : ∃ M', F__law_pot [.int cell, .int (k : Int)] M = some (.ok (.ptr M.length), M') ∧ M'.length = M.length + 1 ∧ (∀ j, j < M.length → M'[j]? = M[j]?) ∧ HasReel 0 M.length M' := by
  have z8 : (8 : Int) ≠ 0 := by decide
  have z1 : (1000000007 : Int) ≠ 0 := by decide
  have k1 : MulOk 7919 (k : Int) := MulOk.of (a := 20) (b := 10) (by decide) (by rw [Int.natAbs_natCast]; omega)
  obtain ⟨p, e1, p0, p1⟩ := prime8 (fmod_pos (i := (k : Int)) (m := 8) (by decide)).1 (fmod_pos (by decide)).2
  have hp : p ≠ 0 := by omega
  have b0 := fmod_pos (i := cell) (m := 1000000007) (by decide)
  have p5 : ∀ ρ M, oPow (.int (cell.fmod 1000000007 + 7919 * (k : Int) + 31)) (.int 5) ρ M = some (.ok (.int ((cell.fmod 1000000007 + 7919 * (k : Int) + 31) ^ 5)), M) := fun ρ M => oPow_ap _ 5 ρ M (by decide) (by omega)
  refine ⟨M ++ [some [D.int (if cell - 10 ^ 18 > 0 then cell - 10 ^ 18 else 0), .int (((cell.fmod 1000000007 + 7919 * (k : Int) + 31) ^ 5).fmod p), .int 0]], ?_, by simp, fun j h => by rw [List.getElem?_append_left h], _, _, _, by rw [List.getElem?_append_right (Nat.le_refl _), Nat.sub_self]; rfl, ?_, ?_, ?_, by omega, by omega⟩
  · refine runF1 ?_
    simp -implicitDefEqProofs only [den__law_pot, sSeq_ap, sAsg_ap, sPar_ap, sRet_ap, sIf_ap, sExpr_ap, sNext_ap, bnd_ap, ret_ap, bindR_ok, thenR_ok, dVar_ap, varR_ok, seqR_nx, seqR_rt, asgR_ok, gNm_ap, gCn_ap, gcnR_ok, gNl_ap, gTp_fr, gTp_ap, gLs_ap, dCons_ap, dNil_ap, asB_ap, dOr_ap, dAnd_ap, dNot_ap, dAndV_ap, dOrV_ap, dNotV_ap, dIf_ap, oAdd_int, oSub_int, oLt_int, oLe_int, oGt_int, oGe_int, oNeg_int, oEq_int, oNe_int, oEq_fr, oNe_fr, oEq_bl, oNe_bl, oTup_ap, oLst_ap, oCall_ap, oAbs_ap, oMax_ap, oMin_ap, oToInt_b, oToInt_i, oLen_lst, oLen_scr, oLen_tup, oIx_lst, oIx_scr, oAdd_lst, oIx_tup, oIx_fr0, oIx_fr1, ixR_ok, oItL_ap, oItT_ap, sFor_ap, startD, List.map_cons, List.map_nil, List.length_cons, List.length_nil, List.replicate_succ, List.replicate_zero, List.cons_append, List.nil_append, List.append_nil, List.getElem?_cons_zero, List.getElem?_cons_succ, List.set_cons_zero, List.set_cons_succ, Nat.reduceAdd, Nat.reduceSub, Nat.sub_self, Nat.reduceLeDiff, List.all_cons, List.all_nil, np_fr, np_int, np_bl, np_tup, np_lst, np_str, np_non, Bool.and_self, Bool.and_true, if_true_, if_false_, zero_add', if_tt, if_ff, decide_true, decide_false, Nat.le_refl, oItS_lst, oItS_tup, oTupOf_lst, oTupOf_tup, oLstOf_lst, oLstOf_tup, oRv_lst, oRv_tup, oAdd_tup, dChain_ap, asTru_bl, asTru_tup, asTru_lst, oIsN_ap, oNotN_ap, asI_ap, oSl_tup, oSl_lst, oZip_tup, oZip_lst, oAddI_ap, oEqS_ap, oNeS_ap, oNe_nil, oMod_int z8, e1, pow10_18, oMod_int z1, oMul_int k1, p5, oMod_int hp, oNew3]
  · split <;> omega
  · exact (fmod_pos p0).1
  · have := (fmod_pos (i := (cell.fmod 1000000007 + 7919 * (k : Int) + 31) ^ 5) p0).2
    omega
theorem oSl_scr (ds : List D) (l u : Option Int) (ρ : Env) (M : Mem) : oSl (.scr ds) l u ρ M = some (.ok (.lst (cutD ds l u)), M) := rfl
theorem cut_take' (ds : List D) (k : Nat) : cutD ds none (some (k : Int)) = ds.take k := by
  by_cases h : k ≤ ds.length
  · exact cut_take ds h
  · unfold cutD
    rw [HT.sIx_nat, HT.sIx_none]
    rw [List.drop_zero, List.take_of_length_le (by omega), List.take_of_length_le (by omega)]
theorem cut_drop' (ds : List D) (k : Nat) : cutD ds (some (k : Int)) none = ds.drop k := by
  by_cases h : k ≤ ds.length
  · exact cut_drop ds h
  · unfold cutD
    rw [HT.sIx_nat, HT.sIx_none]
    rw [List.drop_eq_nil_of_le (by omega), List.drop_eq_nil_of_le (by omega), List.take_nil]
theorem fold_loop {S : D} {m n : Nat} (hm : 0 < m) : ∀ (cs es : List Int) (i : Nat) (M : Mem) (o3 o4 : Option D), M[n]? = some (some (es.map D.int)) → es.length = m →
    ∃ (es' : List Int) (M' : Mem) (o3' o4' : Option D), forF (gTp 2 (gCn (gNm 3) (gCn (gNm 4) gNl))) den__law_folded_L1 (enumFrom i (cs.map D.int)) [some S, some (.int (m : Int)), some (.ptr n), o3, o4] M = some (.nx [some S, some (.int (m : Int)), some (.ptr n), o3', o4'], M') ∧ es'.length = m ∧ Put n (es'.map D.int) M M'
  | [], es, i, M, o3, o4, h, hl => ⟨es, M, o3, o4, rfl, hl, Put.self h⟩
  | c :: cs, es, i, M, o3, o4, h, hl => by
    have hm0 : (m : Int) ≠ 0 := by omega
    have b := fmod_pos (i := (i : Int)) (m := (m : Int)) (by omega)
    obtain ⟨j, ej⟩ : ∃ j : Nat, ((i : Int)).fmod (m : Int) = (j : Int) := ⟨(((i : Int)).fmod (m : Int)).toNat, by omega⟩
    have hj : j < es.length := by omega
    have ix : atI (es.map D.int) (j : Int) = some (.int es[j]) := by rw [atI_nat', List.getElem?_map, List.getElem?_eq_getElem hj]; rfl
    have ixn : ixN (es.map D.int).length (j : Int) = some j := by
      unfold ixN
      rw [if_pos (by omega), if_pos (by rw [List.length_map]; omega)]
      simp
    have em : (es.map D.int).set j (.int (es[j] + c)) = (es.set j (es[j] + c)).map D.int := by rw [List.map_set]
    have pt : Put n ((es.set j (es[j] + c)).map D.int) M (M.set n (some ((es.set j (es[j] + c)).map D.int))) := Put.set h
    obtain ⟨es', M', o3', o4', e, l', p'⟩ := fold_loop (S := S) hm cs (es.set j (es[j] + c)) (i + 1) _ (some (.int (i : Int))) (some (.int c)) pt.here (by simpa using hl)
    refine ⟨es', M', o3', o4', ?_, l', pt.trans p'⟩
    have st : den__law_folded_L1 [some S, some (.int (m : Int)), some (.ptr n), some (.int (i : Int)), some (.int c)] M = some (.nx [some S, some (.int (m : Int)), some (.ptr n), some (.int (i : Int)), some (.int c)], M.set n (some ((es.set j (es[j] + c)).map D.int))) := by
      simp -implicitDefEqProofs only [den__law_folded_L1, sStore_ap, sSeq_ap, sAsg_ap, sPar_ap, sRet_ap, sIf_ap, sExpr_ap, sNext_ap, bnd_ap, ret_ap, bindR_ok, thenR_ok, dVar_ap, varR_ok, seqR_nx, seqR_rt, asgR_ok, gNm_ap, gCn_ap, gcnR_ok, gNl_ap, gTp_fr, gTp_ap, gLs_ap, dCons_ap, dNil_ap, asB_ap, dOr_ap, dAnd_ap, dNot_ap, dAndV_ap, dOrV_ap, dNotV_ap, dIf_ap, oAdd_int, oSub_int, oLt_int, oLe_int, oGt_int, oGe_int, oNeg_int, oEq_int, oNe_int, oEq_fr, oNe_fr, oEq_bl, oNe_bl, oTup_ap, oLst_ap, oCall_ap, oAbs_ap, oMax_ap, oMin_ap, oToInt_b, oToInt_i, oLen_lst, oLen_scr, oLen_tup, oIx_lst, oIx_scr, oAdd_lst, oIx_tup, oIx_fr0, oIx_fr1, ixR_ok, oItL_ap, oItT_ap, sFor_ap, startD, List.map_cons, List.map_nil, List.length_cons, List.length_nil, List.replicate_succ, List.replicate_zero, List.cons_append, List.nil_append, List.append_nil, List.getElem?_cons_zero, List.getElem?_cons_succ, List.set_cons_zero, List.set_cons_succ, Nat.reduceAdd, Nat.reduceSub, Nat.sub_self, Nat.reduceLeDiff, List.all_cons, List.all_nil, np_fr, np_int, np_bl, np_tup, np_lst, np_str, np_non, Bool.and_self, Bool.and_true, if_true_, if_false_, zero_add', if_tt, if_ff, decide_true, decide_false, Nat.le_refl, oItS_lst, oItS_tup, oTupOf_lst, oTupOf_tup, oLstOf_lst, oLstOf_tup, oRv_lst, oRv_tup, oAdd_tup, dChain_ap, asTru_bl, asTru_tup, asTru_lst, oIsN_ap, oNotN_ap, asI_ap, oSl_tup, oSl_lst, oZip_tup, oZip_lst, oAddI_ap, oEqS_ap, oNeS_ap, oNe_nil, oMod_int hm0, ej, oIx_ptr _ _ h, ix, h, ixn, em]
    rw [List.map_cons, enumFrom, forF_cons]
    simp -implicitDefEqProofs only [sSeq_ap, sAsg_ap, sPar_ap, sRet_ap, sIf_ap, sExpr_ap, sNext_ap, bnd_ap, ret_ap, bindR_ok, thenR_ok, dVar_ap, varR_ok, seqR_nx, seqR_rt, asgR_ok, gNm_ap, gCn_ap, gcnR_ok, gNl_ap, gTp_fr, gTp_ap, gLs_ap, dCons_ap, dNil_ap, asB_ap, dOr_ap, dAnd_ap, dNot_ap, dAndV_ap, dOrV_ap, dNotV_ap, dIf_ap, oAdd_int, oSub_int, oLt_int, oLe_int, oGt_int, oGe_int, oNeg_int, oEq_int, oNe_int, oEq_fr, oNe_fr, oEq_bl, oNe_bl, oTup_ap, oLst_ap, oCall_ap, oAbs_ap, oMax_ap, oMin_ap, oToInt_b, oToInt_i, oLen_lst, oLen_scr, oLen_tup, oIx_lst, oIx_scr, oAdd_lst, oIx_tup, oIx_fr0, oIx_fr1, ixR_ok, oItL_ap, oItT_ap, sFor_ap, startD, List.map_cons, List.map_nil, List.length_cons, List.length_nil, List.replicate_succ, List.replicate_zero, List.cons_append, List.nil_append, List.append_nil, List.getElem?_cons_zero, List.getElem?_cons_succ, List.set_cons_zero, List.set_cons_succ, Nat.reduceAdd, Nat.reduceSub, Nat.sub_self, Nat.reduceLeDiff, List.all_cons, List.all_nil, np_fr, np_int, np_bl, np_tup, np_lst, np_str, np_non, Bool.and_self, Bool.and_true, if_true_, if_false_, zero_add', if_tt, if_ff, decide_true, decide_false, Nat.le_refl, oItS_lst, oItS_tup, oTupOf_lst, oTupOf_tup, oLstOf_lst, oLstOf_tup, oRv_lst, oRv_tup, oAdd_tup, dChain_ap, asTru_bl, asTru_tup, asTru_lst, oIsN_ap, oNotN_ap, asI_ap, oSl_tup, oSl_lst, oZip_tup, oZip_lst, oAddI_ap, oEqS_ap, oNeS_ap, oNe_nil, forB_ok, st, ofR_nx, e]
theorem folded_eq (ns : List Int) {m : Nat} (hm : 0 < m) (M : Mem) : ∃ es : List Int, F__law_folded [.scr (ns.map D.int), .int (m : Int)] M = some (.ok (.ptr M.length), M ++ [some (es.map D.int)]) ∧ es.length ≤ m := by
  by_cases h : ns.length ≤ m
  · refine ⟨ns, ?_, h⟩
    refine runF1 ?_
    have t1 : cutD (ns.map D.int) none (some (m : Int)) = ns.map D.int := by rw [cut_take', List.take_of_length_le (by simpa using h)]
    have t2 : cutD (ns.map D.int) (some (m : Int)) none = [] := by rw [cut_drop', List.drop_eq_nil_of_le (by simpa using h)]
    simp -implicitDefEqProofs only [den__law_folded, sSeq_ap, sAsg_ap, sPar_ap, sRet_ap, sIf_ap, sExpr_ap, sNext_ap, bnd_ap, ret_ap, bindR_ok, thenR_ok, dVar_ap, varR_ok, seqR_nx, seqR_rt, asgR_ok, gNm_ap, gCn_ap, gcnR_ok, gNl_ap, gTp_fr, gTp_ap, gLs_ap, dCons_ap, dNil_ap, asB_ap, dOr_ap, dAnd_ap, dNot_ap, dAndV_ap, dOrV_ap, dNotV_ap, dIf_ap, oAdd_int, oSub_int, oLt_int, oLe_int, oGt_int, oGe_int, oNeg_int, oEq_int, oNe_int, oEq_fr, oNe_fr, oEq_bl, oNe_bl, oTup_ap, oLst_ap, oCall_ap, oAbs_ap, oMax_ap, oMin_ap, oToInt_b, oToInt_i, oLen_lst, oLen_scr, oLen_tup, oIx_lst, oIx_scr, oAdd_lst, oIx_tup, oIx_fr0, oIx_fr1, ixR_ok, oItL_ap, oItT_ap, sFor_ap, startD, List.map_cons, List.map_nil, List.length_cons, List.length_nil, List.replicate_succ, List.replicate_zero, List.cons_append, List.nil_append, List.append_nil, List.getElem?_cons_zero, List.getElem?_cons_succ, List.set_cons_zero, List.set_cons_succ, Nat.reduceAdd, Nat.reduceSub, Nat.sub_self, Nat.reduceLeDiff, List.all_cons, List.all_nil, np_fr, np_int, np_bl, np_tup, np_lst, np_str, np_non, Bool.and_self, Bool.and_true, if_true_, if_false_, zero_add', if_tt, if_ff, decide_true, decide_false, Nat.le_refl, oItS_lst, oItS_tup, oTupOf_lst, oTupOf_tup, oLstOf_lst, oLstOf_tup, oRv_lst, oRv_tup, oAdd_tup, dChain_ap, asTru_bl, asTru_tup, asTru_lst, oIsN_ap, oNotN_ap, asI_ap, oSl_tup, oSl_lst, oZip_tup, oZip_lst, oAddI_ap, oEqS_ap, oNeS_ap, oNe_nil, oSl_scr, t1, t2, oLstN_lst, oEnum_lst, enumFrom, forF_nil]
  · have t1 : cutD (ns.map D.int) none (some (m : Int)) = (ns.take m).map D.int := by rw [cut_take', List.map_take]
    have t2 : cutD (ns.map D.int) (some (m : Int)) none = (ns.drop m).map D.int := by rw [cut_drop', List.map_drop]
    obtain ⟨es', M', o3', o4', e, l', p'⟩ := fold_loop (S := .scr (ns.map D.int)) (n := M.length) hm (ns.drop m) (ns.take m) 0 (M ++ [some ((ns.take m).map D.int)]) none none (last_cell M _) (by rw [List.length_take]; omega)
    have eM : M' = M ++ [some (es'.map D.int)] := by
      have h1 : M'.length = M.length + 1 := by rw [p'.len]; simp
      apply List.ext_getElem?
      intro j
      by_cases hj : j < M.length
      · rw [p'.oth j (by omega), List.getElem?_append_left hj, List.getElem?_append_left hj]
      · by_cases hj2 : j = M.length
        · subst hj2; rw [p'.here, last_cell]
        · rw [List.getElem?_eq_none (by omega), List.getElem?_eq_none (by simp; omega)]
    subst eM
    refine ⟨es', ?_, by omega⟩
    refine runF1 ?_
    simp -implicitDefEqProofs only [den__law_folded, sSeq_ap, sAsg_ap, sPar_ap, sRet_ap, sIf_ap, sExpr_ap, sNext_ap, bnd_ap, ret_ap, bindR_ok, thenR_ok, dVar_ap, varR_ok, seqR_nx, seqR_rt, asgR_ok, gNm_ap, gCn_ap, gcnR_ok, gNl_ap, gTp_fr, gTp_ap, gLs_ap, dCons_ap, dNil_ap, asB_ap, dOr_ap, dAnd_ap, dNot_ap, dAndV_ap, dOrV_ap, dNotV_ap, dIf_ap, oAdd_int, oSub_int, oLt_int, oLe_int, oGt_int, oGe_int, oNeg_int, oEq_int, oNe_int, oEq_fr, oNe_fr, oEq_bl, oNe_bl, oTup_ap, oLst_ap, oCall_ap, oAbs_ap, oMax_ap, oMin_ap, oToInt_b, oToInt_i, oLen_lst, oLen_scr, oLen_tup, oIx_lst, oIx_scr, oAdd_lst, oIx_tup, oIx_fr0, oIx_fr1, ixR_ok, oItL_ap, oItT_ap, sFor_ap, startD, List.map_cons, List.map_nil, List.length_cons, List.length_nil, List.replicate_succ, List.replicate_zero, List.cons_append, List.nil_append, List.append_nil, List.getElem?_cons_zero, List.getElem?_cons_succ, List.set_cons_zero, List.set_cons_succ, Nat.reduceAdd, Nat.reduceSub, Nat.sub_self, Nat.reduceLeDiff, List.all_cons, List.all_nil, np_fr, np_int, np_bl, np_tup, np_lst, np_str, np_non, Bool.and_self, Bool.and_true, if_true_, if_false_, zero_add', if_tt, if_ff, decide_true, decide_false, Nat.le_refl, oItS_lst, oItS_tup, oTupOf_lst, oTupOf_tup, oLstOf_lst, oLstOf_tup, oRv_lst, oRv_tup, oAdd_tup, dChain_ap, asTru_bl, asTru_tup, asTru_lst, oIsN_ap, oNotN_ap, asI_ap, oSl_tup, oSl_lst, oZip_tup, oZip_lst, oAddI_ap, oEqS_ap, oNeS_ap, oNe_nil, oSl_scr, t1, t2, oLstN_lst, oEnum_lst, e]
theorem low_loop : ∀ (n : Nat) (x y : Option D) (a b : Nat) (M : Mem), b < n →
    whileF (bnd (bnd (dVar 3) fun d => bnd (ret (.int 0)) fun e => oGt d e) asB) den__law_low_L1 n [x, y, some (.int (a : Int)), some (.int (b : Int))] M = some (.nx [x, y, some (.int (Nat.gcd a b : Nat)), some (.int 0)], M)
  | 0, x, y, a, b, M, h => absurd h (by omega)
  | n + 1, x, y, a, b, M, h => by
    by_cases hb : b = 0
    · subst hb
      unfold whileF
      simp -implicitDefEqProofs only [sSeq_ap, sAsg_ap, sPar_ap, sRet_ap, sIf_ap, sExpr_ap, sNext_ap, bnd_ap, ret_ap, bindR_ok, thenR_ok, dVar_ap, varR_ok, seqR_nx, seqR_rt, asgR_ok, gNm_ap, gCn_ap, gcnR_ok, gNl_ap, gTp_fr, gTp_ap, gLs_ap, dCons_ap, dNil_ap, asB_ap, dOr_ap, dAnd_ap, dNot_ap, dAndV_ap, dOrV_ap, dNotV_ap, dIf_ap, oAdd_int, oSub_int, oLt_int, oLe_int, oGt_int, oGe_int, oNeg_int, oEq_int, oNe_int, oEq_fr, oNe_fr, oEq_bl, oNe_bl, oTup_ap, oLst_ap, oCall_ap, oAbs_ap, oMax_ap, oMin_ap, oToInt_b, oToInt_i, oLen_lst, oLen_scr, oLen_tup, oIx_lst, oIx_scr, oAdd_lst, oIx_tup, oIx_fr0, oIx_fr1, ixR_ok, oItL_ap, oItT_ap, sFor_ap, startD, List.map_cons, List.map_nil, List.length_cons, List.length_nil, List.replicate_succ, List.replicate_zero, List.cons_append, List.nil_append, List.append_nil, List.getElem?_cons_zero, List.getElem?_cons_succ, List.set_cons_zero, List.set_cons_succ, Nat.reduceAdd, Nat.reduceSub, Nat.sub_self, Nat.reduceLeDiff, List.all_cons, List.all_nil, np_fr, np_int, np_bl, np_tup, np_lst, np_str, np_non, Bool.and_self, Bool.and_true, if_true_, if_false_, zero_add', if_tt, if_ff, decide_true, decide_false, Nat.le_refl, oItS_lst, oItS_tup, oTupOf_lst, oTupOf_tup, oLstOf_lst, oLstOf_tup, oRv_lst, oRv_tup, oAdd_tup, dChain_ap, asTru_bl, asTru_tup, asTru_lst, oIsN_ap, oNotN_ap, asI_ap, oSl_tup, oSl_lst, oZip_tup, oZip_lst, oAddI_ap, oEqS_ap, oNeS_ap, oNe_nil]
      simp
    · have ih := low_loop n x y b (a % b) M (by have := Nat.mod_lt a (Nat.pos_of_ne_zero hb); omega)
      unfold whileF
      have hb' : (b : Int) ≠ 0 := by omega
      have hb2 : (0 : Int) < (b : Int) := by omega
      have e : ((a : Int)).fmod (b : Int) = ((a % b : Nat) : Int) := by rw [fmod_nat]; rfl
      have e2 : Nat.gcd b (a % b) = Nat.gcd a b := by rw [Nat.gcd_comm b, ← Nat.gcd_rec, Nat.gcd_comm]
      have e4 : den__law_low_L1 [x, y, some (.int (a : Int)), some (.int (b : Int))] M = some (.nx [x, y, some (.int (b : Int)), some (.int ((a % b : Nat) : Int))], M) := by
        simp -implicitDefEqProofs only [den__law_low_L1, sSeq_ap, sAsg_ap, sPar_ap, sRet_ap, sIf_ap, sExpr_ap, sNext_ap, bnd_ap, ret_ap, bindR_ok, thenR_ok, dVar_ap, varR_ok, seqR_nx, seqR_rt, asgR_ok, gNm_ap, gCn_ap, gcnR_ok, gNl_ap, gTp_fr, gTp_ap, gLs_ap, dCons_ap, dNil_ap, asB_ap, dOr_ap, dAnd_ap, dNot_ap, dAndV_ap, dOrV_ap, dNotV_ap, dIf_ap, oAdd_int, oSub_int, oLt_int, oLe_int, oGt_int, oGe_int, oNeg_int, oEq_int, oNe_int, oEq_fr, oNe_fr, oEq_bl, oNe_bl, oTup_ap, oLst_ap, oCall_ap, oAbs_ap, oMax_ap, oMin_ap, oToInt_b, oToInt_i, oLen_lst, oLen_scr, oLen_tup, oIx_lst, oIx_scr, oAdd_lst, oIx_tup, oIx_fr0, oIx_fr1, ixR_ok, oItL_ap, oItT_ap, sFor_ap, startD, List.map_cons, List.map_nil, List.length_cons, List.length_nil, List.replicate_succ, List.replicate_zero, List.cons_append, List.nil_append, List.append_nil, List.getElem?_cons_zero, List.getElem?_cons_succ, List.set_cons_zero, List.set_cons_succ, Nat.reduceAdd, Nat.reduceSub, Nat.sub_self, Nat.reduceLeDiff, List.all_cons, List.all_nil, np_fr, np_int, np_bl, np_tup, np_lst, np_str, np_non, Bool.and_self, Bool.and_true, if_true_, if_false_, zero_add', if_tt, if_ff, decide_true, decide_false, Nat.le_refl, oItS_lst, oItS_tup, oTupOf_lst, oTupOf_tup, oLstOf_lst, oLstOf_tup, oRv_lst, oRv_tup, oAdd_tup, dChain_ap, asTru_bl, asTru_tup, asTru_lst, oIsN_ap, oNotN_ap, asI_ap, oSl_tup, oSl_lst, oZip_tup, oZip_lst, oAddI_ap, oEqS_ap, oNeS_ap, oNe_nil, oMod_int hb', e]
      simp -implicitDefEqProofs only [sSeq_ap, sAsg_ap, sPar_ap, sRet_ap, sIf_ap, sExpr_ap, sNext_ap, bnd_ap, ret_ap, bindR_ok, thenR_ok, dVar_ap, varR_ok, seqR_nx, seqR_rt, asgR_ok, gNm_ap, gCn_ap, gcnR_ok, gNl_ap, gTp_fr, gTp_ap, gLs_ap, dCons_ap, dNil_ap, asB_ap, dOr_ap, dAnd_ap, dNot_ap, dAndV_ap, dOrV_ap, dNotV_ap, dIf_ap, oAdd_int, oSub_int, oLt_int, oLe_int, oGt_int, oGe_int, oNeg_int, oEq_int, oNe_int, oEq_fr, oNe_fr, oEq_bl, oNe_bl, oTup_ap, oLst_ap, oCall_ap, oAbs_ap, oMax_ap, oMin_ap, oToInt_b, oToInt_i, oLen_lst, oLen_scr, oLen_tup, oIx_lst, oIx_scr, oAdd_lst, oIx_tup, oIx_fr0, oIx_fr1, ixR_ok, oItL_ap, oItT_ap, sFor_ap, startD, List.map_cons, List.map_nil, List.length_cons, List.length_nil, List.replicate_succ, List.replicate_zero, List.cons_append, List.nil_append, List.append_nil, List.getElem?_cons_zero, List.getElem?_cons_succ, List.set_cons_zero, List.set_cons_succ, Nat.reduceAdd, Nat.reduceSub, Nat.sub_self, Nat.reduceLeDiff, List.all_cons, List.all_nil, np_fr, np_int, np_bl, np_tup, np_lst, np_str, np_non, Bool.and_self, Bool.and_true, if_true_, if_false_, zero_add', if_tt, if_ff, decide_true, decide_false, Nat.le_refl, oItS_lst, oItS_tup, oTupOf_lst, oTupOf_tup, oLstOf_lst, oLstOf_tup, oRv_lst, oRv_tup, oAdd_tup, dChain_ap, asTru_bl, asTru_tup, asTru_lst, oIsN_ap, oNotN_ap, asI_ap, oSl_tup, oSl_lst, oZip_tup, oZip_lst, oAddI_ap, oEqS_ap, oNeS_ap, oNe_nil, hb2, e4, ih, e2]
theorem low_eq {t b : Int} (hb : b ≠ 0) (hs : b.natAbs < 2 ^ 4000) (M : Mem) : F__law_low [.int t, .int b] M = some (.ok (frQ (Rat.divInt t b)), M) := by
  refine runF_pure ?_ rfl
  have a1 : (if t < 0 then -t else t) = ((t.natAbs : Nat) : Int) := by split <;> omega
  have a2 : (if b < 0 then -b else b) = ((b.natAbs : Nat) : Int) := by split <;> omega
  have lp := sWhile_eq (low_loop (b.natAbs + 1) (some (.int t)) (some (.int b)) t.natAbs b.natAbs M (by omega))
  have gp : 0 < Int.gcd t b := Int.gcd_pos_of_ne_zero_right t hb
  have gl : Int.gcd t b < 2 ^ 4000 := Nat.lt_of_le_of_lt (Nat.gcd_le_right _ (by omega)) hs
  have eg : Nat.gcd t.natAbs b.natAbs = Int.gcd t b := rfl
  have k2 : DivOk ((Int.gcd t b : Nat) : Int) := DivOk.of (b := 4000) (by omega) (by rw [Int.natAbs_natCast]; exact gl)
  have k3 : DivOk (0 - ((Int.gcd t b : Nat) : Int)) := DivOk.of (b := 4000) (by omega) (by rw [Int.zero_sub, Int.natAbs_neg, Int.natAbs_natCast]; exact gl)
  simp -implicitDefEqProofs only [den__law_low, sSeq_ap, sAsg_ap, sPar_ap, sRet_ap, sIf_ap, sExpr_ap, sNext_ap, bnd_ap, ret_ap, bindR_ok, thenR_ok, dVar_ap, varR_ok, seqR_nx, seqR_rt, asgR_ok, gNm_ap, gCn_ap, gcnR_ok, gNl_ap, gTp_fr, gTp_ap, gLs_ap, dCons_ap, dNil_ap, asB_ap, dOr_ap, dAnd_ap, dNot_ap, dAndV_ap, dOrV_ap, dNotV_ap, dIf_ap, oAdd_int, oSub_int, oLt_int, oLe_int, oGt_int, oGe_int, oNeg_int, oEq_int, oNe_int, oEq_fr, oNe_fr, oEq_bl, oNe_bl, oTup_ap, oLst_ap, oCall_ap, oAbs_ap, oMax_ap, oMin_ap, oToInt_b, oToInt_i, oLen_lst, oLen_scr, oLen_tup, oIx_lst, oIx_scr, oAdd_lst, oIx_tup, oIx_fr0, oIx_fr1, ixR_ok, oItL_ap, oItT_ap, sFor_ap, startD, List.map_cons, List.map_nil, List.length_cons, List.length_nil, List.replicate_succ, List.replicate_zero, List.cons_append, List.nil_append, List.append_nil, List.getElem?_cons_zero, List.getElem?_cons_succ, List.set_cons_zero, List.set_cons_succ, Nat.reduceAdd, Nat.reduceSub, Nat.sub_self, Nat.reduceLeDiff, List.all_cons, List.all_nil, np_fr, np_int, np_bl, np_tup, np_lst, np_str, np_non, Bool.and_self, Bool.and_true, if_true_, if_false_, zero_add', if_tt, if_ff, decide_true, decide_false, Nat.le_refl, oItS_lst, oItS_tup, oTupOf_lst, oTupOf_tup, oLstOf_lst, oLstOf_tup, oRv_lst, oRv_tup, oAdd_tup, dChain_ap, asTru_bl, asTru_tup, asTru_lst, oIsN_ap, oNotN_ap, asI_ap, oSl_tup, oSl_lst, oZip_tup, oZip_lst, oAddI_ap, oEqS_ap, oNeS_ap, oNe_nil, a1, a2, lp, eg]
  by_cases hn : b < 0
  · simp -implicitDefEqProofs only [sSeq_ap, sAsg_ap, sPar_ap, sRet_ap, sIf_ap, sExpr_ap, sNext_ap, bnd_ap, ret_ap, bindR_ok, thenR_ok, dVar_ap, varR_ok, seqR_nx, seqR_rt, asgR_ok, gNm_ap, gCn_ap, gcnR_ok, gNl_ap, gTp_fr, gTp_ap, gLs_ap, dCons_ap, dNil_ap, asB_ap, dOr_ap, dAnd_ap, dNot_ap, dAndV_ap, dOrV_ap, dNotV_ap, dIf_ap, oAdd_int, oSub_int, oLt_int, oLe_int, oGt_int, oGe_int, oNeg_int, oEq_int, oNe_int, oEq_fr, oNe_fr, oEq_bl, oNe_bl, oTup_ap, oLst_ap, oCall_ap, oAbs_ap, oMax_ap, oMin_ap, oToInt_b, oToInt_i, oLen_lst, oLen_scr, oLen_tup, oIx_lst, oIx_scr, oAdd_lst, oIx_tup, oIx_fr0, oIx_fr1, ixR_ok, oItL_ap, oItT_ap, sFor_ap, startD, List.map_cons, List.map_nil, List.length_cons, List.length_nil, List.replicate_succ, List.replicate_zero, List.cons_append, List.nil_append, List.append_nil, List.getElem?_cons_zero, List.getElem?_cons_succ, List.set_cons_zero, List.set_cons_succ, Nat.reduceAdd, Nat.reduceSub, Nat.sub_self, Nat.reduceLeDiff, List.all_cons, List.all_nil, np_fr, np_int, np_bl, np_tup, np_lst, np_str, np_non, Bool.and_self, Bool.and_true, if_true_, if_false_, zero_add', if_tt, if_ff, decide_true, decide_false, Nat.le_refl, oItS_lst, oItS_tup, oTupOf_lst, oTupOf_tup, oLstOf_lst, oLstOf_tup, oRv_lst, oRv_tup, oAdd_tup, dChain_ap, asTru_bl, asTru_tup, asTru_lst, oIsN_ap, oNotN_ap, asI_ap, oSl_tup, oSl_lst, oZip_tup, oZip_lst, oAddI_ap, oEqS_ap, oNeS_ap, oNe_nil, hn, decide_true, oDiv_int k3]
    rw [low_math hb (by rw [if_pos hn]; omega)]
  · simp -implicitDefEqProofs only [sSeq_ap, sAsg_ap, sPar_ap, sRet_ap, sIf_ap, sExpr_ap, sNext_ap, bnd_ap, ret_ap, bindR_ok, thenR_ok, dVar_ap, varR_ok, seqR_nx, seqR_rt, asgR_ok, gNm_ap, gCn_ap, gcnR_ok, gNl_ap, gTp_fr, gTp_ap, gLs_ap, dCons_ap, dNil_ap, asB_ap, dOr_ap, dAnd_ap, dNot_ap, dAndV_ap, dOrV_ap, dNotV_ap, dIf_ap, oAdd_int, oSub_int, oLt_int, oLe_int, oGt_int, oGe_int, oNeg_int, oEq_int, oNe_int, oEq_fr, oNe_fr, oEq_bl, oNe_bl, oTup_ap, oLst_ap, oCall_ap, oAbs_ap, oMax_ap, oMin_ap, oToInt_b, oToInt_i, oLen_lst, oLen_scr, oLen_tup, oIx_lst, oIx_scr, oAdd_lst, oIx_tup, oIx_fr0, oIx_fr1, ixR_ok, oItL_ap, oItT_ap, sFor_ap, startD, List.map_cons, List.map_nil, List.length_cons, List.length_nil, List.replicate_succ, List.replicate_zero, List.cons_append, List.nil_append, List.append_nil, List.getElem?_cons_zero, List.getElem?_cons_succ, List.set_cons_zero, List.set_cons_succ, Nat.reduceAdd, Nat.reduceSub, Nat.sub_self, Nat.reduceLeDiff, List.all_cons, List.all_nil, np_fr, np_int, np_bl, np_tup, np_lst, np_str, np_non, Bool.and_self, Bool.and_true, if_true_, if_false_, zero_add', if_tt, if_ff, decide_true, decide_false, Nat.le_refl, oItS_lst, oItS_tup, oTupOf_lst, oTupOf_tup, oLstOf_lst, oLstOf_tup, oRv_lst, oRv_tup, oAdd_tup, dChain_ap, asTru_bl, asTru_tup, asTru_lst, oIsN_ap, oNotN_ap, asI_ap, oSl_tup, oSl_lst, oZip_tup, oZip_lst, oAddI_ap, oEqS_ap, oNeS_ap, oNe_nil, hn, decide_false, Bool.false_eq_true, oDiv_int k2]
    rw [low_math hb (by rw [if_neg hn]; omega)]
inductive Na (B L : Nat) : D → Prop
  | int (i : Int) (h : i.natAbs < 2 ^ B) : Na B L (.int i)
  | bl (b : Bool) : Na B L (.bl b)
  | non : Na B L .non
  | emp : Na B L .emp
  | str (s : Str) : Na B L (.str s)
  | tup (ds : List D) (hl : ds.length ≤ L) (h : ∀ e, e ∈ ds → Na B L e) : Na B L (.tup ds)
  | lst (ds : List D) (hl : ds.length ≤ L) (h : ∀ e, e ∈ ds → Na B L e) : Na B L (.lst ds)
theorem na_np {B L : Nat} {d : D} (h : Na B L d) : d.np = true := by cases h <;> rfl
theorem na_of_int {B L : Nat} {i : Int} (h : Na B L (.int i)) : i.natAbs < 2 ^ B := by cases h; assumption
theorem na_of_tup {B L : Nat} {ds : List D} (h : Na B L (.tup ds)) : ds.length ≤ L ∧ ∀ e ∈ ds, Na B L e := by cases h; exact ⟨by assumption, by assumption⟩
theorem na_two {B L : Nat} {x y : D} (hL : 2 ≤ L) (hx : Na B L x) (hy : Na B L y) : Na B L (.tup [x, y]) := .tup _ hL (by
  simp -implicitDefEqProofs only [List.mem_cons, List.not_mem_nil, or_false]
  rintro e (rfl | rfl)
  · exact hx
  · exact hy)
theorem na_good {B L : Nat} {d : D} (h : Na B L d) : Good d := ⟨na_np h, fun ds e => by
  subst e
  rw [List.all_eq_true]
  exact fun x hx => na_np ((na_of_tup h).2 x hx)⟩
theorem bd_of_na {B L : Nat} {q : Rat} (h : Na B L (frQ q)) : Bd B q := by
  have := (na_of_tup h).2
  have h1 := na_of_int (this (.int q.num) (by simp))
  have h2 := na_of_int (this (.int (q.den : Int)) (by simp))
  exact ⟨h1, by rw [Int.natAbs_natCast] at h2; exact h2⟩
theorem isF_ex {d : D} (h : isF d = true) : ∃ q, d = frQ q := by
  unfold isF at h
  split at h
  · split at h
    · rename_i a b
      rw [Bool.and_eq_true, decide_eq_true_eq, decide_eq_true_eq] at h
      obtain ⟨hb, hg⟩ := h
      have hg' : Int.gcd a b = 1 := by exact_mod_cast hg
      refine ⟨⟨a, b.toNat, by omega, ?_⟩, ?_⟩
      · show Nat.gcd a.natAbs b.toNat = 1
        have : b.toNat = b.natAbs := by omega
        rw [this]; exact hg'
      · unfold frQ
        show _ = D.tup [.int a, .int (b.toNat : Int)]
        rw [Int.toNat_of_nonneg (by omega)]
    · cases h
  · cases h
theorem frQ_inj {a b : Rat} (h : frQ a = frQ b) : a = b := by
  unfold frQ at h
  injection h with h
  injection h with h1 h
  injection h1 with h1
  injection h with h2 _
  injection h2 with h2
  exact Rat.ext h1 (by exact_mod_cast h2)
theorem lwhole_eq {d : D} (h : d.np = true) (M : Mem) : F__law_whole [d] M = some (.ok (.bl (isWh d)), M) := isWh_eq h M
theorem i2_0 (a b : D) : atI [a, b] 0 = some a := rfl
theorem i2_1 (a b : D) : atI [a, b] 1 = some b := rfl
theorem num_pos' {q : Rat} : 0 < q.num ↔ 0 < q := by
  rw [Rat.lt_iff]
  show _ ↔ 0 * (q.den : Int) < q.num * 1
  omega
def posN : D → Bool
  | .tup (.int a :: _) => decide (0 < a)
  | _ => false
def isPs (d : D) : Bool := isF d && posN d
theorem isPs_fr (q : Rat) : isPs (frQ q) = decide (0 < q.num) := by
  unfold isPs; rw [isF_fr, Bool.true_and]; rfl
theorem isPs_no {d : D} (h : isF d = false) : isPs d = false := by unfold isPs; rw [h]; rfl
theorem ps_eq {B L : Nat} {d : D} (h : Na B L d) (M : Mem) : F_is_positive [d] M = some (.ok (.bl (isPs d)), M) := by
  cases hF : isF d
  · have f := isfr_eq (na_good h)
    rw [hF] at f
    rw [isPs_no hF]
    refine runF_pure ?_ rfl
    simp -implicitDefEqProofs only [den_is_positive, sSeq_ap, sAsg_ap, sPar_ap, sRet_ap, sIf_ap, sExpr_ap, sNext_ap, bnd_ap, ret_ap, bindR_ok, thenR_ok, dVar_ap, varR_ok, seqR_nx, seqR_rt, asgR_ok, gNm_ap, gCn_ap, gcnR_ok, gNl_ap, gTp_fr, gTp_ap, gLs_ap, dCons_ap, dNil_ap, asB_ap, dOr_ap, dAnd_ap, dNot_ap, dAndV_ap, dOrV_ap, dNotV_ap, dIf_ap, oAdd_int, oSub_int, oLt_int, oLe_int, oGt_int, oGe_int, oNeg_int, oEq_int, oNe_int, oEq_fr, oNe_fr, oEq_bl, oNe_bl, oTup_ap, oLst_ap, oCall_ap, oAbs_ap, oMax_ap, oMin_ap, oToInt_b, oToInt_i, oLen_lst, oLen_scr, oLen_tup, oIx_lst, oIx_scr, oAdd_lst, oIx_tup, oIx_fr0, oIx_fr1, ixR_ok, oItL_ap, oItT_ap, sFor_ap, startD, List.map_cons, List.map_nil, List.length_cons, List.length_nil, List.replicate_succ, List.replicate_zero, List.cons_append, List.nil_append, List.append_nil, List.getElem?_cons_zero, List.getElem?_cons_succ, List.set_cons_zero, List.set_cons_succ, Nat.reduceAdd, Nat.reduceSub, Nat.sub_self, Nat.reduceLeDiff, List.all_cons, List.all_nil, np_fr, np_int, np_bl, np_tup, np_lst, np_str, np_non, Bool.and_self, Bool.and_true, if_true_, if_false_, zero_add', if_tt, if_ff, decide_true, decide_false, Nat.le_refl, oItS_lst, oItS_tup, oTupOf_lst, oTupOf_tup, oLstOf_lst, oLstOf_tup, oRv_lst, oRv_tup, oAdd_tup, dChain_ap, asTru_bl, asTru_tup, asTru_lst, oIsN_ap, oNotN_ap, asI_ap, oSl_tup, oSl_lst, oZip_tup, oZip_lst, oAddI_ap, oEqS_ap, oNeS_ap, oNe_nil, f, Bool.false_eq_true]
  · obtain ⟨q, rfl⟩ := isF_ex hF
    rw [positive_eq, isPs_fr, decide_eq_decide.mpr num_pos']
theorem np_emp : D.emp.np = true := rfl
theorem fraction_eq {a b : Int} (hb : b ≠ 0) (hs : b.natAbs < 2 ^ 4000) (M : Mem) : F_fraction [.int a, .int b] M = some (.ok (frQ (Rat.divInt a b)), M) := by
  refine runX_rt ?_ rfl
  have gp : 0 < Int.gcd a b := Int.gcd_pos_of_ne_zero_right a hb
  have gl : Int.gcd a b < 2 ^ 4000 := Nat.lt_of_le_of_lt (Nat.gcd_le_right _ (by omega)) hs
  by_cases hn : 0 < b
  · have k : DivOk ((Int.gcd a b : Nat) : Int) := DivOk.of (b := 4000) (by omega) (by rw [Int.natAbs_natCast]; exact gl)
    have lm := low_math (t := a) (by' := ((Int.gcd a b : Nat) : Int)) hb (by rw [if_neg (by omega), Int.mul_one])
    simp -implicitDefEqProofs only [den_fraction, sSeq_ap, sAsg_ap, sPar_ap, sRet_ap, sIf_ap, sExpr_ap, sNext_ap, bnd_ap, ret_ap, bindR_ok, thenR_ok, dVar_ap, varR_ok, seqR_nx, seqR_rt, asgR_ok, gNm_ap, gCn_ap, gcnR_ok, gNl_ap, gTp_fr, gTp_ap, gLs_ap, dCons_ap, dNil_ap, asB_ap, dOr_ap, dAnd_ap, dNot_ap, dAndV_ap, dOrV_ap, dNotV_ap, dIf_ap, oAdd_int, oSub_int, oLt_int, oLe_int, oGt_int, oGe_int, oNeg_int, oEq_int, oNe_int, oEq_fr, oNe_fr, oEq_bl, oNe_bl, oTup_ap, oLst_ap, oCall_ap, oAbs_ap, oMax_ap, oMin_ap, oToInt_b, oToInt_i, oLen_lst, oLen_scr, oLen_tup, oIx_lst, oIx_scr, oAdd_lst, oIx_tup, oIx_fr0, oIx_fr1, ixR_ok, oItL_ap, oItT_ap, sFor_ap, startD, List.map_cons, List.map_nil, List.length_cons, List.length_nil, List.replicate_succ, List.replicate_zero, List.cons_append, List.nil_append, List.append_nil, List.getElem?_cons_zero, List.getElem?_cons_succ, List.set_cons_zero, List.set_cons_succ, Nat.reduceAdd, Nat.reduceSub, Nat.sub_self, Nat.reduceLeDiff, List.all_cons, List.all_nil, np_fr, np_int, np_bl, np_tup, np_lst, np_str, np_non, Bool.and_self, Bool.and_true, if_true_, if_false_, zero_add', if_tt, if_ff, decide_true, decide_false, Nat.le_refl, oItS_lst, oItS_tup, oTupOf_lst, oTupOf_tup, oLstOf_lst, oLstOf_tup, oRv_lst, oRv_tup, oAdd_tup, dChain_ap, asTru_bl, asTru_tup, asTru_lst, oIsN_ap, oNotN_ap, asI_ap, oSl_tup, oSl_lst, oZip_tup, oZip_lst, oAddI_ap, oEqS_ap, oNeS_ap, oNe_nil, decide_eq_false hb, hn, Bool.false_eq_true, common_eq, oDiv_int k, lm]
  · have k : DivOk (-((Int.gcd a b : Nat) : Int)) := DivOk.of (b := 4000) (by omega) (by rw [Int.natAbs_neg, Int.natAbs_natCast]; exact gl)
    have lm := low_math (t := a) (by' := -((Int.gcd a b : Nat) : Int)) hb (by rw [if_pos (by omega)]; omega)
    simp -implicitDefEqProofs only [den_fraction, sSeq_ap, sAsg_ap, sPar_ap, sRet_ap, sIf_ap, sExpr_ap, sNext_ap, bnd_ap, ret_ap, bindR_ok, thenR_ok, dVar_ap, varR_ok, seqR_nx, seqR_rt, asgR_ok, gNm_ap, gCn_ap, gcnR_ok, gNl_ap, gTp_fr, gTp_ap, gLs_ap, dCons_ap, dNil_ap, asB_ap, dOr_ap, dAnd_ap, dNot_ap, dAndV_ap, dOrV_ap, dNotV_ap, dIf_ap, oAdd_int, oSub_int, oLt_int, oLe_int, oGt_int, oGe_int, oNeg_int, oEq_int, oNe_int, oEq_fr, oNe_fr, oEq_bl, oNe_bl, oTup_ap, oLst_ap, oCall_ap, oAbs_ap, oMax_ap, oMin_ap, oToInt_b, oToInt_i, oLen_lst, oLen_scr, oLen_tup, oIx_lst, oIx_scr, oAdd_lst, oIx_tup, oIx_fr0, oIx_fr1, ixR_ok, oItL_ap, oItT_ap, sFor_ap, startD, List.map_cons, List.map_nil, List.length_cons, List.length_nil, List.replicate_succ, List.replicate_zero, List.cons_append, List.nil_append, List.append_nil, List.getElem?_cons_zero, List.getElem?_cons_succ, List.set_cons_zero, List.set_cons_succ, Nat.reduceAdd, Nat.reduceSub, Nat.sub_self, Nat.reduceLeDiff, List.all_cons, List.all_nil, np_fr, np_int, np_bl, np_tup, np_lst, np_str, np_non, Bool.and_self, Bool.and_true, if_true_, if_false_, zero_add', if_tt, if_ff, decide_true, decide_false, Nat.le_refl, oItS_lst, oItS_tup, oTupOf_lst, oTupOf_tup, oLstOf_lst, oLstOf_tup, oRv_lst, oRv_tup, oAdd_tup, dChain_ap, asTru_bl, asTru_tup, asTru_lst, oIsN_ap, oNotN_ap, asI_ap, oSl_tup, oSl_lst, oZip_tup, oZip_lst, oAddI_ap, oEqS_ap, oNeS_ap, oNe_nil, decide_eq_false hb, hn, Bool.false_eq_true, common_eq, oDiv_int k, lm]
theorem repr_bl (b : Bool) : ∃ z : Str, ∀ ρ M, oReprD [.bl b] ρ M = some (.ok (.str z), M) := by
  refine ⟨(toPy (.bl b)).shown, fun ρ M => ?_⟩
  unfold oReprD
  dsimp only
  rw [if_pos ⟨rfl, rfl, rfl, by simp [toPy, PyData.depth], by cases b <;> simp -implicitDefEqProofs only [toPy, PyData.shown] <;> decide⟩]
  rfl
theorem neS_self (z : Str) (ρ : Env) (M : Mem) : oNeS (.str z) (.str z) ρ M = some (.ok (.bl false), M) := by
  show some (Res.ok (D.bl (!decide (z = z))), M) = _
  rw [decide_eq_true rfl]; rfl
def great : Rat := Rat.divInt (10 ^ 30 + 1) 7
def tiny : Rat := Rat.divInt 1 1001
def mill : Rat := Rat.divInt (10 ^ 6 + 1) 1
theorem q1_eq : D.tup [.int 1, .int 1001] = frQ tiny := by
  unfold frQ
  rw [show tiny.num = 1 from by decide +kernel, show tiny.den = 1001 from by decide +kernel]
  rfl
theorem q2_eq : D.tup [.int (10 ^ 6 + 1), .int 1] = frQ mill := by
  unfold frQ
  rw [show mill.num = 10 ^ 6 + 1 from by decide +kernel, show mill.den = 1 from by decide +kernel]
  rfl
theorem pow10_30 (ρ : Env) (M : Mem) : oPow (.int 10) (.int 30) ρ M = some (.ok (.int (10 ^ 30)), M) := oPow_ap 10 30 ρ M (by decide) (by decide)
theorem oAddL_ptr {n : Nat} {a : List D} {d : D} {M : Mem} (h : M[n]? = some (some a)) (hl : a.length ≤ 1000) (ρ : Env) : oAddL (.lst [d]) (.ptr n) ρ M = some (.ok (.lst (d :: a)), M) := by
  unfold oAddL lstAt
  dsimp only
  rw [h]
  dsimp only
  rw [if_pos (by simp; omega)]
  rfl
section
variable {x y : Rat}
theorem num_lt {k : Nat} (h : Bd k x) : x.num.natAbs < 2 ^ k := h.1
theorem den_lt {k : Nat} (h : Bd k x) : ((x.den : Int)).natAbs < 2 ^ k := by rw [Int.natAbs_natCast]; exact h.2
theorem ltimes_eq (hx : Bd 1900 x) (hy : Bd 1900 y) (M : Mem) : F__law_times [frQ x, frQ y] M = some (.ok (frQ (x * y)), M) := by
  refine runF_pure ?_ rfl
  have k1 : MulOk x.num y.num := MulOk.of (num_lt hx) (num_lt hy)
  have k3 : MulOk (x.den : Int) (y.den : Int) := MulOk.of (den_lt hx) (den_lt hy)
  have k4 : ((x.den : Int) * (y.den : Int)).natAbs < 2 ^ 4000 := by rw [Int.natAbs_mul]; exact nat_lt_pow 4000 (mul_lt_pow (den_lt hx) (den_lt hy)) (by decide)
  simp -implicitDefEqProofs only [den__law_times, sSeq_ap, sAsg_ap, sPar_ap, sRet_ap, sIf_ap, sExpr_ap, sNext_ap, bnd_ap, ret_ap, bindR_ok, thenR_ok, dVar_ap, varR_ok, seqR_nx, seqR_rt, asgR_ok, gNm_ap, gCn_ap, gcnR_ok, gNl_ap, gTp_fr, gTp_ap, gLs_ap, dCons_ap, dNil_ap, asB_ap, dOr_ap, dAnd_ap, dNot_ap, dAndV_ap, dOrV_ap, dNotV_ap, dIf_ap, oAdd_int, oSub_int, oLt_int, oLe_int, oGt_int, oGe_int, oNeg_int, oEq_int, oNe_int, oEq_fr, oNe_fr, oEq_bl, oNe_bl, oTup_ap, oLst_ap, oCall_ap, oAbs_ap, oMax_ap, oMin_ap, oToInt_b, oToInt_i, oLen_lst, oLen_scr, oLen_tup, oIx_lst, oIx_scr, oAdd_lst, oIx_tup, oIx_fr0, oIx_fr1, ixR_ok, oItL_ap, oItT_ap, sFor_ap, startD, List.map_cons, List.map_nil, List.length_cons, List.length_nil, List.replicate_succ, List.replicate_zero, List.cons_append, List.nil_append, List.append_nil, List.getElem?_cons_zero, List.getElem?_cons_succ, List.set_cons_zero, List.set_cons_succ, Nat.reduceAdd, Nat.reduceSub, Nat.sub_self, Nat.reduceLeDiff, List.all_cons, List.all_nil, np_fr, np_int, np_bl, np_tup, np_lst, np_str, np_non, Bool.and_self, Bool.and_true, if_true_, if_false_, zero_add', if_tt, if_ff, decide_true, decide_false, Nat.le_refl, oItS_lst, oItS_tup, oTupOf_lst, oTupOf_tup, oLstOf_lst, oLstOf_tup, oRv_lst, oRv_tup, oAdd_tup, dChain_ap, asTru_bl, asTru_tup, asTru_lst, oIsN_ap, oNotN_ap, asI_ap, oSl_tup, oSl_lst, oZip_tup, oZip_lst, oAddI_ap, oEqS_ap, oNeS_ap, oNe_nil, oMul_int k1, oMul_int k3, low_eq (dd_ne x y) k4, ← mul_divInt]
theorem lunder_eq (hx : Bd 1900 x) (hy : Bd 1900 y) (M : Mem) : F__law_under [frQ x, frQ y] M = some (.ok (.bl (decide (x < y))), M) := by
  refine runF_pure ?_ rfl
  have k1 : MulOk x.num (y.den : Int) := MulOk.of (num_lt hx) (den_lt hy)
  have k2 : MulOk y.num (x.den : Int) := MulOk.of (num_lt hy) (den_lt hx)
  have e : decide (x.num * (y.den : Int) < y.num * (x.den : Int)) = decide (x < y) := decide_eq_decide.mpr (Rat.lt_iff x y).symm
  simp -implicitDefEqProofs only [den__law_under, sSeq_ap, sAsg_ap, sPar_ap, sRet_ap, sIf_ap, sExpr_ap, sNext_ap, bnd_ap, ret_ap, bindR_ok, thenR_ok, dVar_ap, varR_ok, seqR_nx, seqR_rt, asgR_ok, gNm_ap, gCn_ap, gcnR_ok, gNl_ap, gTp_fr, gTp_ap, gLs_ap, dCons_ap, dNil_ap, asB_ap, dOr_ap, dAnd_ap, dNot_ap, dAndV_ap, dOrV_ap, dNotV_ap, dIf_ap, oAdd_int, oSub_int, oLt_int, oLe_int, oGt_int, oGe_int, oNeg_int, oEq_int, oNe_int, oEq_fr, oNe_fr, oEq_bl, oNe_bl, oTup_ap, oLst_ap, oCall_ap, oAbs_ap, oMax_ap, oMin_ap, oToInt_b, oToInt_i, oLen_lst, oLen_scr, oLen_tup, oIx_lst, oIx_scr, oAdd_lst, oIx_tup, oIx_fr0, oIx_fr1, ixR_ok, oItL_ap, oItT_ap, sFor_ap, startD, List.map_cons, List.map_nil, List.length_cons, List.length_nil, List.replicate_succ, List.replicate_zero, List.cons_append, List.nil_append, List.append_nil, List.getElem?_cons_zero, List.getElem?_cons_succ, List.set_cons_zero, List.set_cons_succ, Nat.reduceAdd, Nat.reduceSub, Nat.sub_self, Nat.reduceLeDiff, List.all_cons, List.all_nil, np_fr, np_int, np_bl, np_tup, np_lst, np_str, np_non, Bool.and_self, Bool.and_true, if_true_, if_false_, zero_add', if_tt, if_ff, decide_true, decide_false, Nat.le_refl, oItS_lst, oItS_tup, oTupOf_lst, oTupOf_tup, oLstOf_lst, oLstOf_tup, oRv_lst, oRv_tup, oAdd_tup, dChain_ap, asTru_bl, asTru_tup, asTru_lst, oIsN_ap, oNotN_ap, asI_ap, oSl_tup, oSl_lst, oZip_tup, oZip_lst, oAddI_ap, oEqS_ap, oNeS_ap, oNe_nil, oMul_int k1, oMul_int k2, e]
end
/-! judges of deeds -/
def isS : D → Bool
  | .str _ => true
  | _ => false
theorem kS1 : kitB "NoneType" "str" = some false := by decide +kernel
theorem kS2 : kitB "bool" "str" = some false := by decide +kernel
theorem kS3 : kitB "int" "str" = some false := by decide +kernel
theorem kS4 : kitB "str" "str" = some true := by decide +kernel
theorem kS5 : kitB "tuple" "str" = some false := by decide +kernel
theorem kS6 : kitB "list" "str" = some false := by decide +kernel
theorem kS7 : kitB "dict" "str" = some false := by decide +kernel
theorem oIsi_str {d : D} (h : d.np = true) (tx : Str → Option Bool) (ρ : Env) (M : Mem) : oIsi (fun a => kitB a "str") tx d ρ M = some (.ok (.bl (isS d)), M) := by
  cases d <;> first | (cases h; done) | (unfold oIsi; simp -implicitDefEqProofs only [kS1, kS2, kS3, kS4, kS5, kS6, kS7, isS])
/-- water and salt that may be laid in -/
noncomputable def wetD (f : Rat) (w s : D) : Bool := @decide (∃ a b : Rat, w = frQ a ∧ s = frQ b ∧ 0 < a ∧ 0 ≤ b ∧ b ≤ f * a) (Classical.propDecidable _)
theorem wet_fr (f a b : Rat) : wetD f (frQ a) (frQ b) = decide (0 < a ∧ 0 ≤ b ∧ b ≤ f * a) := by
  unfold wetD
  rw [Bool.eq_iff_iff]
  simp -implicitDefEqProofs only [decide_eq_true_eq]
  constructor
  · rintro ⟨a', b', e1, e2, h⟩
    rw [frQ_inj e1, frQ_inj e2]; exact h
  · exact fun h => ⟨a, b, rfl, rfl, h⟩
theorem wet_no {f : Rat} {w s : D} (h : isF w = false ∨ isF s = false) : wetD f w s = false := by
  unfold wetD
  rw [decide_eq_false_iff_not]
  rintro ⟨a, b, rfl, rfl, _⟩
  rw [isF_fr, isF_fr] at h
  simp at h
section
variable {f : Rat}
theorem lay_no {w s : D} (nw : Na 101 12 w) (ns : Na 101 12 s) (h : isF w = false ∨ isF s = false) (M : Mem) : F_is_layer [frQ f, .tup [w, s]] M = some (.ok (.bl false), M) := by
  refine runF_pure ?_ rfl
  have it : ∀ ρ M, oIsi (fun a => kitB a "tuple") (fun _ => none) (.tup [w, s]) ρ M = some (.ok (.bl true), M) := fun ρ M => oIsi_tup (np_tup _) _ ρ M
  have l2 : ∀ ρ M, oLen [.tup [w, s]] ρ M = some (.ok (.int 2), M) := fun _ _ => rfl
  have n2 : decide ((2 : Int) = 2) = true := rfl
  have fw := isfr_eq (na_good nw)
  have fs := isfr_eq (na_good ns)
  by_cases hw : isF w = true
  · have hs : isF s = false := by
      rcases h with h | h
      · rw [hw] at h; cases h
      · exact h
    rw [hw] at fw; rw [hs] at fs
    simp -implicitDefEqProofs only [den_is_layer, sSeq_ap, sAsg_ap, sPar_ap, sRet_ap, sIf_ap, sExpr_ap, sNext_ap, bnd_ap, ret_ap, bindR_ok, thenR_ok, dVar_ap, varR_ok, seqR_nx, seqR_rt, asgR_ok, gNm_ap, gCn_ap, gcnR_ok, gNl_ap, gTp_fr, gTp_ap, gLs_ap, dCons_ap, dNil_ap, asB_ap, dOr_ap, dAnd_ap, dNot_ap, dAndV_ap, dOrV_ap, dNotV_ap, dIf_ap, oAdd_int, oSub_int, oLt_int, oLe_int, oGt_int, oGe_int, oNeg_int, oEq_int, oNe_int, oEq_fr, oNe_fr, oEq_bl, oNe_bl, oTup_ap, oLst_ap, oCall_ap, oAbs_ap, oMax_ap, oMin_ap, oToInt_b, oToInt_i, oLen_lst, oLen_scr, oLen_tup, oIx_lst, oIx_scr, oAdd_lst, oIx_tup, oIx_fr0, oIx_fr1, ixR_ok, oItL_ap, oItT_ap, sFor_ap, startD, List.map_cons, List.map_nil, List.length_cons, List.length_nil, List.replicate_succ, List.replicate_zero, List.cons_append, List.nil_append, List.append_nil, List.getElem?_cons_zero, List.getElem?_cons_succ, List.set_cons_zero, List.set_cons_succ, Nat.reduceAdd, Nat.reduceSub, Nat.sub_self, Nat.reduceLeDiff, List.all_cons, List.all_nil, np_fr, np_int, np_bl, np_tup, np_lst, np_str, np_non, Bool.and_self, Bool.and_true, if_true_, if_false_, zero_add', if_tt, if_ff, decide_true, decide_false, Nat.le_refl, oItS_lst, oItS_tup, oTupOf_lst, oTupOf_tup, oLstOf_lst, oLstOf_tup, oRv_lst, oRv_tup, oAdd_tup, dChain_ap, asTru_bl, asTru_tup, asTru_lst, oIsN_ap, oNotN_ap, asI_ap, oSl_tup, oSl_lst, oZip_tup, oZip_lst, oAddI_ap, oEqS_ap, oNeS_ap, oNe_nil, it, l2, n2, fw, fs, Bool.not_true, Bool.not_false, Bool.false_eq_true]
  · have hw' : isF w = false := by simpa using hw
    rw [hw'] at fw
    simp -implicitDefEqProofs only [den_is_layer, sSeq_ap, sAsg_ap, sPar_ap, sRet_ap, sIf_ap, sExpr_ap, sNext_ap, bnd_ap, ret_ap, bindR_ok, thenR_ok, dVar_ap, varR_ok, seqR_nx, seqR_rt, asgR_ok, gNm_ap, gCn_ap, gcnR_ok, gNl_ap, gTp_fr, gTp_ap, gLs_ap, dCons_ap, dNil_ap, asB_ap, dOr_ap, dAnd_ap, dNot_ap, dAndV_ap, dOrV_ap, dNotV_ap, dIf_ap, oAdd_int, oSub_int, oLt_int, oLe_int, oGt_int, oGe_int, oNeg_int, oEq_int, oNe_int, oEq_fr, oNe_fr, oEq_bl, oNe_bl, oTup_ap, oLst_ap, oCall_ap, oAbs_ap, oMax_ap, oMin_ap, oToInt_b, oToInt_i, oLen_lst, oLen_scr, oLen_tup, oIx_lst, oIx_scr, oAdd_lst, oIx_tup, oIx_fr0, oIx_fr1, ixR_ok, oItL_ap, oItT_ap, sFor_ap, startD, List.map_cons, List.map_nil, List.length_cons, List.length_nil, List.replicate_succ, List.replicate_zero, List.cons_append, List.nil_append, List.append_nil, List.getElem?_cons_zero, List.getElem?_cons_succ, List.set_cons_zero, List.set_cons_succ, Nat.reduceAdd, Nat.reduceSub, Nat.sub_self, Nat.reduceLeDiff, List.all_cons, List.all_nil, np_fr, np_int, np_bl, np_tup, np_lst, np_str, np_non, Bool.and_self, Bool.and_true, if_true_, if_false_, zero_add', if_tt, if_ff, decide_true, decide_false, Nat.le_refl, oItS_lst, oItS_tup, oTupOf_lst, oTupOf_tup, oLstOf_lst, oLstOf_tup, oRv_lst, oRv_tup, oAdd_tup, dChain_ap, asTru_bl, asTru_tup, asTru_lst, oIsN_ap, oNotN_ap, asI_ap, oSl_tup, oSl_lst, oZip_tup, oZip_lst, oAddI_ap, oEqS_ap, oNeS_ap, oNe_nil, it, l2, n2, fw, Bool.not_true, Bool.not_false, Bool.false_eq_true]
theorem wet_eq {w s : D} (f0 : 0 < f) (bf : Bd 110 f) (nw : Na 101 12 w) (ns : Na 101 12 s) (M : Mem) : F_is_wet [frQ f, w, s] M = some (.ok (.bl (wetD f w s)), M) := by
  refine runF_pure ?_ rfl
  have npw := na_np nw
  have nps := na_np ns
  by_cases hb : isF w = false ∨ isF s = false
  · rw [wet_no hb]
    have l := lay_no (f := f) nw ns hb
    simp -implicitDefEqProofs only [den_is_wet, sSeq_ap, sAsg_ap, sPar_ap, sRet_ap, sIf_ap, sExpr_ap, sNext_ap, bnd_ap, ret_ap, bindR_ok, thenR_ok, dVar_ap, varR_ok, seqR_nx, seqR_rt, asgR_ok, gNm_ap, gCn_ap, gcnR_ok, gNl_ap, gTp_fr, gTp_ap, gLs_ap, dCons_ap, dNil_ap, asB_ap, dOr_ap, dAnd_ap, dNot_ap, dAndV_ap, dOrV_ap, dNotV_ap, dIf_ap, oAdd_int, oSub_int, oLt_int, oLe_int, oGt_int, oGe_int, oNeg_int, oEq_int, oNe_int, oEq_fr, oNe_fr, oEq_bl, oNe_bl, oTup_ap, oLst_ap, oCall_ap, oAbs_ap, oMax_ap, oMin_ap, oToInt_b, oToInt_i, oLen_lst, oLen_scr, oLen_tup, oIx_lst, oIx_scr, oAdd_lst, oIx_tup, oIx_fr0, oIx_fr1, ixR_ok, oItL_ap, oItT_ap, sFor_ap, startD, List.map_cons, List.map_nil, List.length_cons, List.length_nil, List.replicate_succ, List.replicate_zero, List.cons_append, List.nil_append, List.append_nil, List.getElem?_cons_zero, List.getElem?_cons_succ, List.set_cons_zero, List.set_cons_succ, Nat.reduceAdd, Nat.reduceSub, Nat.sub_self, Nat.reduceLeDiff, List.all_cons, List.all_nil, np_fr, np_int, np_bl, np_tup, np_lst, np_str, np_non, Bool.and_self, Bool.and_true, if_true_, if_false_, zero_add', if_tt, if_ff, decide_true, decide_false, Nat.le_refl, oItS_lst, oItS_tup, oTupOf_lst, oTupOf_tup, oLstOf_lst, oLstOf_tup, oRv_lst, oRv_tup, oAdd_tup, dChain_ap, asTru_bl, asTru_tup, asTru_lst, oIsN_ap, oNotN_ap, asI_ap, oSl_tup, oSl_lst, oZip_tup, oZip_lst, oAddI_ap, oEqS_ap, oNeS_ap, oNe_nil, npw, nps, l, Bool.false_eq_true]
  · have hw : isF w = true := by
      cases h : isF w with
      | true => rfl
      | false => exact absurd (.inl h) hb
    have hs : isF s = true := by
      cases h : isF s with
      | true => rfl
      | false => exact absurd (.inr h) hb
    obtain ⟨a, rfl⟩ := isF_ex hw
    obtain ⟨b, rfl⟩ := isF_ex hs
    have l := is_layer_eq (f := f) (p := (a, b)) (bf.mono (by decide)) ⟨(bd_of_na nw).mono (by decide), (bd_of_na ns).mono (by decide)⟩
    have tl : D.tup [frQ a, frQ b] = lyQ (a, b) := rfl
    rw [wet_fr]
    have key : (isLB f (a, b) && !decide (a = 0)) = decide (0 < a ∧ 0 ≤ b ∧ b ≤ f * a) := by
      unfold isLB
      rw [Bool.eq_iff_iff]
      simp -implicitDefEqProofs only [Bool.and_eq_true, Bool.not_eq_true', decide_eq_false_iff_not, decide_eq_true_eq]
      constructor
      · rintro ⟨⟨⟨h1, h2⟩, h3⟩, h4⟩
        rw [if_neg h4] at h3
        simp -implicitDefEqProofs only [Bool.not_eq_true', decide_eq_false_iff_not] at h3
        grind
      · rintro ⟨h1, h2, h3⟩
        have h4 : ¬ a = 0 := by grind
        refine ⟨⟨⟨by grind, by grind⟩, ?_⟩, h4⟩
        rw [if_neg h4]
        simp -implicitDefEqProofs only [Bool.not_eq_true', decide_eq_false_iff_not]
        grind
    rw [← key]
    cases hl : isLB f (a, b) <;> rw [hl] at l <;> simp -implicitDefEqProofs only [den_is_wet, sSeq_ap, sAsg_ap, sPar_ap, sRet_ap, sIf_ap, sExpr_ap, sNext_ap, bnd_ap, ret_ap, bindR_ok, thenR_ok, dVar_ap, varR_ok, seqR_nx, seqR_rt, asgR_ok, gNm_ap, gCn_ap, gcnR_ok, gNl_ap, gTp_fr, gTp_ap, gLs_ap, dCons_ap, dNil_ap, asB_ap, dOr_ap, dAnd_ap, dNot_ap, dAndV_ap, dOrV_ap, dNotV_ap, dIf_ap, oAdd_int, oSub_int, oLt_int, oLe_int, oGt_int, oGe_int, oNeg_int, oEq_int, oNe_int, oEq_fr, oNe_fr, oEq_bl, oNe_bl, oTup_ap, oLst_ap, oCall_ap, oAbs_ap, oMax_ap, oMin_ap, oToInt_b, oToInt_i, oLen_lst, oLen_scr, oLen_tup, oIx_lst, oIx_scr, oAdd_lst, oIx_tup, oIx_fr0, oIx_fr1, ixR_ok, oItL_ap, oItT_ap, sFor_ap, startD, List.map_cons, List.map_nil, List.length_cons, List.length_nil, List.replicate_succ, List.replicate_zero, List.cons_append, List.nil_append, List.append_nil, List.getElem?_cons_zero, List.getElem?_cons_succ, List.set_cons_zero, List.set_cons_succ, Nat.reduceAdd, Nat.reduceSub, Nat.sub_self, Nat.reduceLeDiff, List.all_cons, List.all_nil, np_fr, np_int, np_bl, np_tup, np_lst, np_str, np_non, Bool.and_self, Bool.and_true, if_true_, if_false_, zero_add', if_tt, if_ff, decide_true, decide_false, Nat.le_refl, oItS_lst, oItS_tup, oTupOf_lst, oTupOf_tup, oLstOf_lst, oLstOf_tup, oRv_lst, oRv_tup, oAdd_tup, dChain_ap, asTru_bl, asTru_tup, asTru_lst, oIsN_ap, oNotN_ap, asI_ap, oSl_tup, oSl_lst, oZip_tup, oZip_lst, oAddI_ap, oEqS_ap, oNeS_ap, oNe_nil, tl, l, nought_fr, Bool.false_eq_true, Bool.true_and, Bool.false_and]
def wayD : D → Bool
  | .str z => decide (z = Str.ofString "under") || decide (z = Str.ofString "over")
  | _ => false
noncomputable def pourD (f : Rat) : List D → Bool
  | [p, w, s] => isWh p && wetD f w s
  | _ => false
def leadD : List D → Bool
  | [a, b, w, h, k] => isWh a && isWh b && isPs w && wayD h && isBl k
  | _ => false
def letD : List D → Bool
  | [p, w] => isWh p && isPs w
  | _ => false
def panD : List D → Bool
  | [p] => isWh p
  | _ => false
theorem eqv_strs (a b : Str) : PyData.eqv (toPy (.str a)) (toPy (.str b)) = decide (a = b) := by
  rw [Bool.eq_iff_iff]
  simp [toPy, PyData.eqv]
theorem shaped_str {z : Str} (h : PyData.strOk z = true) : SeqAt.shaped (toPy (.str z)) = true := by simp [SeqAt.shaped, toPy, PyData.depth, PyData.canLay0, h]
theorem oEq_strs {a b : Str} (ha : PyData.strOk a = true) (hb : PyData.strOk b = true) (ρ : Env) (M : Mem) : oEq (.str a) (.str b) ρ M = some (.ok (.bl (decide (a = b))), M) := by
  unfold oEq
  rw [if_pos ⟨rfl, rfl, shaped_str ha, shaped_str hb⟩, eqv_strs]
  rfl
theorem ok_under : PyData.strOk (Str.ofString "under") = true := by decide +kernel
theorem ok_over : PyData.strOk (Str.ofString "over") = true := by decide +kernel
theorem shaped_uo : SeqAt.shaped (toPy (.tup [.str (Str.ofString "under"), .str (Str.ofString "over")])) = true ∧ SeqAt.shaped (toPy (.lst [.str (Str.ofString "under"), .str (Str.ofString "over")])) = true := by
  constructor <;> simp [SeqAt.shaped, toPy, toPys, PyData.depth, PyData.depthAll, PyData.canLay0, PyData.canLayAll0, ok_under, ok_over]
theorem any_uo (d : D) : ((toPys [.str (Str.ofString "under"), .str (Str.ofString "over")]).any fun z => PyData.eqv z (toPy d)) = (PyData.eqv (toPy (.str (Str.ofString "under"))) (toPy d) || PyData.eqv (toPy (.str (Str.ofString "over"))) (toPy d)) := by
  simp [toPys]
theorem way_str {z : Str} (hz : PyData.strOk z = true) (ρ : Env) (M : Mem) : oInD false (.str z) (.tup [.str (Str.ofString "under"), .str (Str.ofString "over")]) ρ M = some (.ok (.bl (wayD (.str z))), M) ∧ oInD false (.str z) (.lst [.str (Str.ofString "under"), .str (Str.ofString "over")]) ρ M = some (.ok (.bl (wayD (.str z))), M) := by
  have e : ∀ w : Str, decide (w = z) = decide (z = w) := fun w => by rw [decide_eq_decide]; exact eq_comm
  constructor <;> unfold oInD
  · rw [if_pos ⟨rfl, rfl, shaped_str hz, shaped_uo.1⟩]
    simp -implicitDefEqProofs only [any_uo, eqv_strs, wayD, e]
    rfl
  · rw [if_pos ⟨rfl, rfl, shaped_str hz, shaped_uo.2⟩]
    simp -implicitDefEqProofs only [any_uo, eqv_strs, wayD, e]
    rfl
theorem way_eq {d : D} (h : Na 101 12 d) (hz : ∀ z, d = .str z → PyData.strOk z = true) (M : Mem) : F_is_way [d] M = some (.ok (.bl (wayD d)), M) := by
  refine runF_pure ?_ rfl
  have np := na_np h
  have st := fun ρ M => oIsi_str np (fun _ => none) ρ M
  cases d with
  | str z =>
    have w := fun ρ M => (way_str (hz z rfl) ρ M).1
    simp -implicitDefEqProofs only [den_is_way, sSeq_ap, sAsg_ap, sPar_ap, sRet_ap, sIf_ap, sExpr_ap, sNext_ap, bnd_ap, ret_ap, bindR_ok, thenR_ok, dVar_ap, varR_ok, seqR_nx, seqR_rt, asgR_ok, gNm_ap, gCn_ap, gcnR_ok, gNl_ap, gTp_fr, gTp_ap, gLs_ap, dCons_ap, dNil_ap, asB_ap, dOr_ap, dAnd_ap, dNot_ap, dAndV_ap, dOrV_ap, dNotV_ap, dIf_ap, oAdd_int, oSub_int, oLt_int, oLe_int, oGt_int, oGe_int, oNeg_int, oEq_int, oNe_int, oEq_fr, oNe_fr, oEq_bl, oNe_bl, oTup_ap, oLst_ap, oCall_ap, oAbs_ap, oMax_ap, oMin_ap, oToInt_b, oToInt_i, oLen_lst, oLen_scr, oLen_tup, oIx_lst, oIx_scr, oAdd_lst, oIx_tup, oIx_fr0, oIx_fr1, ixR_ok, oItL_ap, oItT_ap, sFor_ap, startD, List.map_cons, List.map_nil, List.length_cons, List.length_nil, List.replicate_succ, List.replicate_zero, List.cons_append, List.nil_append, List.append_nil, List.getElem?_cons_zero, List.getElem?_cons_succ, List.set_cons_zero, List.set_cons_succ, Nat.reduceAdd, Nat.reduceSub, Nat.sub_self, Nat.reduceLeDiff, List.all_cons, List.all_nil, np_fr, np_int, np_bl, np_tup, np_lst, np_str, np_non, Bool.and_self, Bool.and_true, if_true_, if_false_, zero_add', if_tt, if_ff, decide_true, decide_false, Nat.le_refl, oItS_lst, oItS_tup, oTupOf_lst, oTupOf_tup, oLstOf_lst, oLstOf_tup, oRv_lst, oRv_tup, oAdd_tup, dChain_ap, asTru_bl, asTru_tup, asTru_lst, oIsN_ap, oNotN_ap, asI_ap, oSl_tup, oSl_lst, oZip_tup, oZip_lst, oAddI_ap, oEqS_ap, oNeS_ap, oNe_nil, st, isS, w]
  | _ => simp -implicitDefEqProofs only [den_is_way, sSeq_ap, sAsg_ap, sPar_ap, sRet_ap, sIf_ap, sExpr_ap, sNext_ap, bnd_ap, ret_ap, bindR_ok, thenR_ok, dVar_ap, varR_ok, seqR_nx, seqR_rt, asgR_ok, gNm_ap, gCn_ap, gcnR_ok, gNl_ap, gTp_fr, gTp_ap, gLs_ap, dCons_ap, dNil_ap, asB_ap, dOr_ap, dAnd_ap, dNot_ap, dAndV_ap, dOrV_ap, dNotV_ap, dIf_ap, oAdd_int, oSub_int, oLt_int, oLe_int, oGt_int, oGe_int, oNeg_int, oEq_int, oNe_int, oEq_fr, oNe_fr, oEq_bl, oNe_bl, oTup_ap, oLst_ap, oCall_ap, oAbs_ap, oMax_ap, oMin_ap, oToInt_b, oToInt_i, oLen_lst, oLen_scr, oLen_tup, oIx_lst, oIx_scr, oAdd_lst, oIx_tup, oIx_fr0, oIx_fr1, ixR_ok, oItL_ap, oItT_ap, sFor_ap, startD, List.map_cons, List.map_nil, List.length_cons, List.length_nil, List.replicate_succ, List.replicate_zero, List.cons_append, List.nil_append, List.append_nil, List.getElem?_cons_zero, List.getElem?_cons_succ, List.set_cons_zero, List.set_cons_succ, Nat.reduceAdd, Nat.reduceSub, Nat.sub_self, Nat.reduceLeDiff, List.all_cons, List.all_nil, np_fr, np_int, np_bl, np_tup, np_lst, np_str, np_non, Bool.and_self, Bool.and_true, if_true_, if_false_, zero_add', if_tt, if_ff, decide_true, decide_false, Nat.le_refl, oItS_lst, oItS_tup, oTupOf_lst, oTupOf_tup, oLstOf_lst, oLstOf_tup, oRv_lst, oRv_tup, oAdd_tup, dChain_ap, asTru_bl, asTru_tup, asTru_lst, oIsN_ap, oNotN_ap, asI_ap, oSl_tup, oSl_lst, oZip_tup, oZip_lst, oAddI_ap, oEqS_ap, oNeS_ap, oNe_nil, st, isS, wayD, Bool.false_eq_true]
/-- what stands in a tuple -/
structure El (d : D) : Prop where
  na : Na 101 12 d
  st : ∀ z, d = .str z → PyData.strOk z = true
  sh : d = .emp ∨ (d.pl = true ∧ SeqAt.shaped (toPy d) = true)
theorem l_len {r : List D} {k : Int} : ∀ (ρ : Env) (M : Mem), oLen [.tup r] ρ M = some (.ok (.int r.length), M) := fun _ _ => rfl
theorem a3_0 (a b c : D) : atI [a, b, c] 0 = some a := rfl
theorem a3_1 (a b c : D) : atI [a, b, c] 1 = some b := rfl
theorem a3_2 (a b c : D) : atI [a, b, c] 2 = some c := rfl
theorem a2_0 (a b : D) : atI [a, b] 0 = some a := rfl
theorem a2_1 (a b : D) : atI [a, b] 1 = some b := rfl
theorem a1_0 (a : D) : atI [a] 0 = some a := rfl
theorem a5_0 (a b c d e : D) : atI [a, b, c, d, e] 0 = some a := rfl
theorem a5_1 (a b c d e : D) : atI [a, b, c, d, e] 1 = some b := rfl
theorem pour_eq {r : List D} (f0 : 0 < f) (bf : Bd 110 f) (h : ∀ e ∈ r, El e) (M : Mem) : F_is_pouring [frQ f, .tup r] M = some (.ok (.bl (pourD f r)), M) := by
  refine runF_pure ?_ rfl
  have ll := fun ρ M => l_len (r := r) (k := 0) ρ M
  by_cases hl : r.length = 3
  · match r, hl, h with
    | [p, w, s], _, h =>
      have wp := isWh_eq (na_np (h p (by simp)).na)
      have we := wet_eq f0 bf (h w (by simp)).na (h s (by simp)).na
      have n3 : decide ((3 : Int) = 3) = true := rfl
      have ll' : ∀ ρ M, oLen [.tup [p, w, s]] ρ M = some (.ok (.int 3), M) := fun _ _ => rfl
      cases hp : isWh p <;> rw [hp] at wp <;> simp -implicitDefEqProofs only [den_is_pouring, sSeq_ap, sAsg_ap, sPar_ap, sRet_ap, sIf_ap, sExpr_ap, sNext_ap, bnd_ap, ret_ap, bindR_ok, thenR_ok, dVar_ap, varR_ok, seqR_nx, seqR_rt, asgR_ok, gNm_ap, gCn_ap, gcnR_ok, gNl_ap, gTp_fr, gTp_ap, gLs_ap, dCons_ap, dNil_ap, asB_ap, dOr_ap, dAnd_ap, dNot_ap, dAndV_ap, dOrV_ap, dNotV_ap, dIf_ap, oAdd_int, oSub_int, oLt_int, oLe_int, oGt_int, oGe_int, oNeg_int, oEq_int, oNe_int, oEq_fr, oNe_fr, oEq_bl, oNe_bl, oTup_ap, oLst_ap, oCall_ap, oAbs_ap, oMax_ap, oMin_ap, oToInt_b, oToInt_i, oLen_lst, oLen_scr, oLen_tup, oIx_lst, oIx_scr, oAdd_lst, oIx_tup, oIx_fr0, oIx_fr1, ixR_ok, oItL_ap, oItT_ap, sFor_ap, startD, List.map_cons, List.map_nil, List.length_cons, List.length_nil, List.replicate_succ, List.replicate_zero, List.cons_append, List.nil_append, List.append_nil, List.getElem?_cons_zero, List.getElem?_cons_succ, List.set_cons_zero, List.set_cons_succ, Nat.reduceAdd, Nat.reduceSub, Nat.sub_self, Nat.reduceLeDiff, List.all_cons, List.all_nil, np_fr, np_int, np_bl, np_tup, np_lst, np_str, np_non, Bool.and_self, Bool.and_true, if_true_, if_false_, zero_add', if_tt, if_ff, decide_true, decide_false, Nat.le_refl, oItS_lst, oItS_tup, oTupOf_lst, oTupOf_tup, oLstOf_lst, oLstOf_tup, oRv_lst, oRv_tup, oAdd_tup, dChain_ap, asTru_bl, asTru_tup, asTru_lst, oIsN_ap, oNotN_ap, asI_ap, oSl_tup, oSl_lst, oZip_tup, oZip_lst, oAddI_ap, oEqS_ap, oNeS_ap, oNe_nil, ll', n3, a3_0, a3_1, a3_2, wp, we, pourD, hp, Bool.true_and, Bool.false_and, Bool.false_eq_true]
  · have e : pourD f r = false := by
      match r, hl with
      | [], _ => rfl
      | [_], _ => rfl
      | [_, _], _ => rfl
      | [_, _, _], h => exact absurd rfl h
      | _ :: _ :: _ :: _ :: _, _ => rfl
    have n3 : decide ((r.length : Int) = 3) = false := decide_eq_false (by omega)
    simp -implicitDefEqProofs only [den_is_pouring, sSeq_ap, sAsg_ap, sPar_ap, sRet_ap, sIf_ap, sExpr_ap, sNext_ap, bnd_ap, ret_ap, bindR_ok, thenR_ok, dVar_ap, varR_ok, seqR_nx, seqR_rt, asgR_ok, gNm_ap, gCn_ap, gcnR_ok, gNl_ap, gTp_fr, gTp_ap, gLs_ap, dCons_ap, dNil_ap, asB_ap, dOr_ap, dAnd_ap, dNot_ap, dAndV_ap, dOrV_ap, dNotV_ap, dIf_ap, oAdd_int, oSub_int, oLt_int, oLe_int, oGt_int, oGe_int, oNeg_int, oEq_int, oNe_int, oEq_fr, oNe_fr, oEq_bl, oNe_bl, oTup_ap, oLst_ap, oCall_ap, oAbs_ap, oMax_ap, oMin_ap, oToInt_b, oToInt_i, oLen_lst, oLen_scr, oLen_tup, oIx_lst, oIx_scr, oAdd_lst, oIx_tup, oIx_fr0, oIx_fr1, ixR_ok, oItL_ap, oItT_ap, sFor_ap, startD, List.map_cons, List.map_nil, List.length_cons, List.length_nil, List.replicate_succ, List.replicate_zero, List.cons_append, List.nil_append, List.append_nil, List.getElem?_cons_zero, List.getElem?_cons_succ, List.set_cons_zero, List.set_cons_succ, Nat.reduceAdd, Nat.reduceSub, Nat.sub_self, Nat.reduceLeDiff, List.all_cons, List.all_nil, np_fr, np_int, np_bl, np_tup, np_lst, np_str, np_non, Bool.and_self, Bool.and_true, if_true_, if_false_, zero_add', if_tt, if_ff, decide_true, decide_false, Nat.le_refl, oItS_lst, oItS_tup, oTupOf_lst, oTupOf_tup, oLstOf_lst, oLstOf_tup, oRv_lst, oRv_tup, oAdd_tup, dChain_ap, asTru_bl, asTru_tup, asTru_lst, oIsN_ap, oNotN_ap, asI_ap, oSl_tup, oSl_lst, oZip_tup, oZip_lst, oAddI_ap, oEqS_ap, oNeS_ap, oNe_nil, n3, e, Bool.false_eq_true]
theorem let_eq {r : List D} (h : ∀ e ∈ r, El e) (A : D) (M : Mem) : F_is_letting [A, .tup r] M = some (.ok (.bl (letD r)), M) := by
  refine runF_pure ?_ rfl
  by_cases hl : r.length = 2
  · match r, hl, h with
    | [p, w], _, h =>
      have wp := isWh_eq (na_np (h p (by simp)).na)
      have we := ps_eq (h w (by simp)).na
      have n3 : decide ((2 : Int) = 2) = true := rfl
      have ll' : ∀ ρ M, oLen [.tup [p, w]] ρ M = some (.ok (.int 2), M) := fun _ _ => rfl
      cases hp : isWh p <;> rw [hp] at wp <;> simp -implicitDefEqProofs only [den_is_letting, sSeq_ap, sAsg_ap, sPar_ap, sRet_ap, sIf_ap, sExpr_ap, sNext_ap, bnd_ap, ret_ap, bindR_ok, thenR_ok, dVar_ap, varR_ok, seqR_nx, seqR_rt, asgR_ok, gNm_ap, gCn_ap, gcnR_ok, gNl_ap, gTp_fr, gTp_ap, gLs_ap, dCons_ap, dNil_ap, asB_ap, dOr_ap, dAnd_ap, dNot_ap, dAndV_ap, dOrV_ap, dNotV_ap, dIf_ap, oAdd_int, oSub_int, oLt_int, oLe_int, oGt_int, oGe_int, oNeg_int, oEq_int, oNe_int, oEq_fr, oNe_fr, oEq_bl, oNe_bl, oTup_ap, oLst_ap, oCall_ap, oAbs_ap, oMax_ap, oMin_ap, oToInt_b, oToInt_i, oLen_lst, oLen_scr, oLen_tup, oIx_lst, oIx_scr, oAdd_lst, oIx_tup, oIx_fr0, oIx_fr1, ixR_ok, oItL_ap, oItT_ap, sFor_ap, startD, List.map_cons, List.map_nil, List.length_cons, List.length_nil, List.replicate_succ, List.replicate_zero, List.cons_append, List.nil_append, List.append_nil, List.getElem?_cons_zero, List.getElem?_cons_succ, List.set_cons_zero, List.set_cons_succ, Nat.reduceAdd, Nat.reduceSub, Nat.sub_self, Nat.reduceLeDiff, List.all_cons, List.all_nil, np_fr, np_int, np_bl, np_tup, np_lst, np_str, np_non, Bool.and_self, Bool.and_true, if_true_, if_false_, zero_add', if_tt, if_ff, decide_true, decide_false, Nat.le_refl, oItS_lst, oItS_tup, oTupOf_lst, oTupOf_tup, oLstOf_lst, oLstOf_tup, oRv_lst, oRv_tup, oAdd_tup, dChain_ap, asTru_bl, asTru_tup, asTru_lst, oIsN_ap, oNotN_ap, asI_ap, oSl_tup, oSl_lst, oZip_tup, oZip_lst, oAddI_ap, oEqS_ap, oNeS_ap, oNe_nil, ll', n3, a2_0, a2_1, wp, we, letD, hp, Bool.true_and, Bool.false_and, Bool.false_eq_true]
  · have e : letD r = false := by
      match r, hl with
      | [], _ => rfl
      | [_], _ => rfl
      | [_, _], h => exact absurd rfl h
      | _ :: _ :: _ :: _, _ => rfl
    have n3 : decide ((r.length : Int) = 2) = false := decide_eq_false (by omega)
    simp -implicitDefEqProofs only [den_is_letting, sSeq_ap, sAsg_ap, sPar_ap, sRet_ap, sIf_ap, sExpr_ap, sNext_ap, bnd_ap, ret_ap, bindR_ok, thenR_ok, dVar_ap, varR_ok, seqR_nx, seqR_rt, asgR_ok, gNm_ap, gCn_ap, gcnR_ok, gNl_ap, gTp_fr, gTp_ap, gLs_ap, dCons_ap, dNil_ap, asB_ap, dOr_ap, dAnd_ap, dNot_ap, dAndV_ap, dOrV_ap, dNotV_ap, dIf_ap, oAdd_int, oSub_int, oLt_int, oLe_int, oGt_int, oGe_int, oNeg_int, oEq_int, oNe_int, oEq_fr, oNe_fr, oEq_bl, oNe_bl, oTup_ap, oLst_ap, oCall_ap, oAbs_ap, oMax_ap, oMin_ap, oToInt_b, oToInt_i, oLen_lst, oLen_scr, oLen_tup, oIx_lst, oIx_scr, oAdd_lst, oIx_tup, oIx_fr0, oIx_fr1, ixR_ok, oItL_ap, oItT_ap, sFor_ap, startD, List.map_cons, List.map_nil, List.length_cons, List.length_nil, List.replicate_succ, List.replicate_zero, List.cons_append, List.nil_append, List.append_nil, List.getElem?_cons_zero, List.getElem?_cons_succ, List.set_cons_zero, List.set_cons_succ, Nat.reduceAdd, Nat.reduceSub, Nat.sub_self, Nat.reduceLeDiff, List.all_cons, List.all_nil, np_fr, np_int, np_bl, np_tup, np_lst, np_str, np_non, Bool.and_self, Bool.and_true, if_true_, if_false_, zero_add', if_tt, if_ff, decide_true, decide_false, Nat.le_refl, oItS_lst, oItS_tup, oTupOf_lst, oTupOf_tup, oLstOf_lst, oLstOf_tup, oRv_lst, oRv_tup, oAdd_tup, dChain_ap, asTru_bl, asTru_tup, asTru_lst, oIsN_ap, oNotN_ap, asI_ap, oSl_tup, oSl_lst, oZip_tup, oZip_lst, oAddI_ap, oEqS_ap, oNeS_ap, oNe_nil, n3, e, Bool.false_eq_true]
theorem pan_eq' {r : List D} (h : ∀ e ∈ r, El e) (A : D) (M : Mem) : F_is_at_pan [A, .tup r] M = some (.ok (.bl (panD r)), M) := by
  refine runF_pure ?_ rfl
  by_cases hl : r.length = 1
  · match r, hl, h with
    | [p], _, h =>
      have wp := isWh_eq (na_np (h p (by simp)).na)
      have n3 : decide ((1 : Int) = 1) = true := rfl
      have ll' : ∀ ρ M, oLen [.tup [p]] ρ M = some (.ok (.int 1), M) := fun _ _ => rfl
      simp -implicitDefEqProofs only [den_is_at_pan, sSeq_ap, sAsg_ap, sPar_ap, sRet_ap, sIf_ap, sExpr_ap, sNext_ap, bnd_ap, ret_ap, bindR_ok, thenR_ok, dVar_ap, varR_ok, seqR_nx, seqR_rt, asgR_ok, gNm_ap, gCn_ap, gcnR_ok, gNl_ap, gTp_fr, gTp_ap, gLs_ap, dCons_ap, dNil_ap, asB_ap, dOr_ap, dAnd_ap, dNot_ap, dAndV_ap, dOrV_ap, dNotV_ap, dIf_ap, oAdd_int, oSub_int, oLt_int, oLe_int, oGt_int, oGe_int, oNeg_int, oEq_int, oNe_int, oEq_fr, oNe_fr, oEq_bl, oNe_bl, oTup_ap, oLst_ap, oCall_ap, oAbs_ap, oMax_ap, oMin_ap, oToInt_b, oToInt_i, oLen_lst, oLen_scr, oLen_tup, oIx_lst, oIx_scr, oAdd_lst, oIx_tup, oIx_fr0, oIx_fr1, ixR_ok, oItL_ap, oItT_ap, sFor_ap, startD, List.map_cons, List.map_nil, List.length_cons, List.length_nil, List.replicate_succ, List.replicate_zero, List.cons_append, List.nil_append, List.append_nil, List.getElem?_cons_zero, List.getElem?_cons_succ, List.set_cons_zero, List.set_cons_succ, Nat.reduceAdd, Nat.reduceSub, Nat.sub_self, Nat.reduceLeDiff, List.all_cons, List.all_nil, np_fr, np_int, np_bl, np_tup, np_lst, np_str, np_non, Bool.and_self, Bool.and_true, if_true_, if_false_, zero_add', if_tt, if_ff, decide_true, decide_false, Nat.le_refl, oItS_lst, oItS_tup, oTupOf_lst, oTupOf_tup, oLstOf_lst, oLstOf_tup, oRv_lst, oRv_tup, oAdd_tup, dChain_ap, asTru_bl, asTru_tup, asTru_lst, oIsN_ap, oNotN_ap, asI_ap, oSl_tup, oSl_lst, oZip_tup, oZip_lst, oAddI_ap, oEqS_ap, oNeS_ap, oNe_nil, ll', n3, a1_0, wp, panD]
  · have e : panD r = false := by
      match r, hl with
      | [], _ => rfl
      | [_], h => exact absurd rfl h
      | _ :: _ :: _, _ => rfl
    have n3 : decide ((r.length : Int) = 1) = false := decide_eq_false (by omega)
    simp -implicitDefEqProofs only [den_is_at_pan, sSeq_ap, sAsg_ap, sPar_ap, sRet_ap, sIf_ap, sExpr_ap, sNext_ap, bnd_ap, ret_ap, bindR_ok, thenR_ok, dVar_ap, varR_ok, seqR_nx, seqR_rt, asgR_ok, gNm_ap, gCn_ap, gcnR_ok, gNl_ap, gTp_fr, gTp_ap, gLs_ap, dCons_ap, dNil_ap, asB_ap, dOr_ap, dAnd_ap, dNot_ap, dAndV_ap, dOrV_ap, dNotV_ap, dIf_ap, oAdd_int, oSub_int, oLt_int, oLe_int, oGt_int, oGe_int, oNeg_int, oEq_int, oNe_int, oEq_fr, oNe_fr, oEq_bl, oNe_bl, oTup_ap, oLst_ap, oCall_ap, oAbs_ap, oMax_ap, oMin_ap, oToInt_b, oToInt_i, oLen_lst, oLen_scr, oLen_tup, oIx_lst, oIx_scr, oAdd_lst, oIx_tup, oIx_fr0, oIx_fr1, ixR_ok, oItL_ap, oItT_ap, sFor_ap, startD, List.map_cons, List.map_nil, List.length_cons, List.length_nil, List.replicate_succ, List.replicate_zero, List.cons_append, List.nil_append, List.append_nil, List.getElem?_cons_zero, List.getElem?_cons_succ, List.set_cons_zero, List.set_cons_succ, Nat.reduceAdd, Nat.reduceSub, Nat.sub_self, Nat.reduceLeDiff, List.all_cons, List.all_nil, np_fr, np_int, np_bl, np_tup, np_lst, np_str, np_non, Bool.and_self, Bool.and_true, if_true_, if_false_, zero_add', if_tt, if_ff, decide_true, decide_false, Nat.le_refl, oItS_lst, oItS_tup, oTupOf_lst, oTupOf_tup, oLstOf_lst, oLstOf_tup, oRv_lst, oRv_tup, oAdd_tup, dChain_ap, asTru_bl, asTru_tup, asTru_lst, oIsN_ap, oNotN_ap, asI_ap, oSl_tup, oSl_lst, oZip_tup, oZip_lst, oAddI_ap, oEqS_ap, oNeS_ap, oNe_nil, n3, e, Bool.false_eq_true]
theorem lead_eq {r : List D} (h : ∀ e ∈ r, El e) (A : D) (M : Mem) : F_is_leading [A, .tup r] M = some (.ok (.bl (leadD r)), M) := by
  refine runF_pure ?_ rfl
  by_cases hl : r.length = 5
  · match r, hl, h with
    | [a, b, w, k, y], _, h =>
      have wa := isWh_eq (na_np (h a (by simp)).na)
      have wb := isWh_eq (na_np (h b (by simp)).na)
      have we := ps_eq (h w (by simp)).na
      have wk := way_eq (h k (by simp)).na (h k (by simp)).st
      have wy := fun ρ M => oIsi_bool (na_np (h y (by simp)).na) (fun _ => none) ρ M
      have n3 : decide ((5 : Int) = 5) = true := rfl
      have ll' : ∀ ρ M, oLen [.tup [a, b, w, k, y]] ρ M = some (.ok (.int 5), M) := fun _ _ => rfl
      have sl : ∀ ρ M, oSl (.tup [a, b, w, k, y]) (some 2) none ρ M = some (.ok (.tup [w, k, y]), M) := fun _ _ => rfl
      cases ha : isWh a <;> rw [ha] at wa
      · simp -implicitDefEqProofs only [den_is_leading, sSeq_ap, sAsg_ap, sPar_ap, sRet_ap, sIf_ap, sExpr_ap, sNext_ap, bnd_ap, ret_ap, bindR_ok, thenR_ok, dVar_ap, varR_ok, seqR_nx, seqR_rt, asgR_ok, gNm_ap, gCn_ap, gcnR_ok, gNl_ap, gTp_fr, gTp_ap, gLs_ap, dCons_ap, dNil_ap, asB_ap, dOr_ap, dAnd_ap, dNot_ap, dAndV_ap, dOrV_ap, dNotV_ap, dIf_ap, oAdd_int, oSub_int, oLt_int, oLe_int, oGt_int, oGe_int, oNeg_int, oEq_int, oNe_int, oEq_fr, oNe_fr, oEq_bl, oNe_bl, oTup_ap, oLst_ap, oCall_ap, oAbs_ap, oMax_ap, oMin_ap, oToInt_b, oToInt_i, oLen_lst, oLen_scr, oLen_tup, oIx_lst, oIx_scr, oAdd_lst, oIx_tup, oIx_fr0, oIx_fr1, ixR_ok, oItL_ap, oItT_ap, sFor_ap, startD, List.map_cons, List.map_nil, List.length_cons, List.length_nil, List.replicate_succ, List.replicate_zero, List.cons_append, List.nil_append, List.append_nil, List.getElem?_cons_zero, List.getElem?_cons_succ, List.set_cons_zero, List.set_cons_succ, Nat.reduceAdd, Nat.reduceSub, Nat.sub_self, Nat.reduceLeDiff, List.all_cons, List.all_nil, np_fr, np_int, np_bl, np_tup, np_lst, np_str, np_non, Bool.and_self, Bool.and_true, if_true_, if_false_, zero_add', if_tt, if_ff, decide_true, decide_false, Nat.le_refl, oItS_lst, oItS_tup, oTupOf_lst, oTupOf_tup, oLstOf_lst, oLstOf_tup, oRv_lst, oRv_tup, oAdd_tup, dChain_ap, asTru_bl, asTru_tup, asTru_lst, oIsN_ap, oNotN_ap, asI_ap, oSl_tup, oSl_lst, oZip_tup, oZip_lst, oAddI_ap, oEqS_ap, oNeS_ap, oNe_nil, ll', n3, a5_0, wa, leadD, ha, Bool.false_and, Bool.not_true, Bool.not_false, Bool.false_eq_true]
      · cases hb : isWh b <;> rw [hb] at wb
        · simp -implicitDefEqProofs only [den_is_leading, sSeq_ap, sAsg_ap, sPar_ap, sRet_ap, sIf_ap, sExpr_ap, sNext_ap, bnd_ap, ret_ap, bindR_ok, thenR_ok, dVar_ap, varR_ok, seqR_nx, seqR_rt, asgR_ok, gNm_ap, gCn_ap, gcnR_ok, gNl_ap, gTp_fr, gTp_ap, gLs_ap, dCons_ap, dNil_ap, asB_ap, dOr_ap, dAnd_ap, dNot_ap, dAndV_ap, dOrV_ap, dNotV_ap, dIf_ap, oAdd_int, oSub_int, oLt_int, oLe_int, oGt_int, oGe_int, oNeg_int, oEq_int, oNe_int, oEq_fr, oNe_fr, oEq_bl, oNe_bl, oTup_ap, oLst_ap, oCall_ap, oAbs_ap, oMax_ap, oMin_ap, oToInt_b, oToInt_i, oLen_lst, oLen_scr, oLen_tup, oIx_lst, oIx_scr, oAdd_lst, oIx_tup, oIx_fr0, oIx_fr1, ixR_ok, oItL_ap, oItT_ap, sFor_ap, startD, List.map_cons, List.map_nil, List.length_cons, List.length_nil, List.replicate_succ, List.replicate_zero, List.cons_append, List.nil_append, List.append_nil, List.getElem?_cons_zero, List.getElem?_cons_succ, List.set_cons_zero, List.set_cons_succ, Nat.reduceAdd, Nat.reduceSub, Nat.sub_self, Nat.reduceLeDiff, List.all_cons, List.all_nil, np_fr, np_int, np_bl, np_tup, np_lst, np_str, np_non, Bool.and_self, Bool.and_true, if_true_, if_false_, zero_add', if_tt, if_ff, decide_true, decide_false, Nat.le_refl, oItS_lst, oItS_tup, oTupOf_lst, oTupOf_tup, oLstOf_lst, oLstOf_tup, oRv_lst, oRv_tup, oAdd_tup, dChain_ap, asTru_bl, asTru_tup, asTru_lst, oIsN_ap, oNotN_ap, asI_ap, oSl_tup, oSl_lst, oZip_tup, oZip_lst, oAddI_ap, oEqS_ap, oNeS_ap, oNe_nil, ll', n3, a5_0, a5_1, wa, wb, leadD, ha, hb, Bool.true_and, Bool.false_and, Bool.not_true, Bool.not_false, Bool.false_eq_true]
        · cases hw : isPs w <;> rw [hw] at we
          · simp -implicitDefEqProofs only [den_is_leading, sSeq_ap, sAsg_ap, sPar_ap, sRet_ap, sIf_ap, sExpr_ap, sNext_ap, bnd_ap, ret_ap, bindR_ok, thenR_ok, dVar_ap, varR_ok, seqR_nx, seqR_rt, asgR_ok, gNm_ap, gCn_ap, gcnR_ok, gNl_ap, gTp_fr, gTp_ap, gLs_ap, dCons_ap, dNil_ap, asB_ap, dOr_ap, dAnd_ap, dNot_ap, dAndV_ap, dOrV_ap, dNotV_ap, dIf_ap, oAdd_int, oSub_int, oLt_int, oLe_int, oGt_int, oGe_int, oNeg_int, oEq_int, oNe_int, oEq_fr, oNe_fr, oEq_bl, oNe_bl, oTup_ap, oLst_ap, oCall_ap, oAbs_ap, oMax_ap, oMin_ap, oToInt_b, oToInt_i, oLen_lst, oLen_scr, oLen_tup, oIx_lst, oIx_scr, oAdd_lst, oIx_tup, oIx_fr0, oIx_fr1, ixR_ok, oItL_ap, oItT_ap, sFor_ap, startD, List.map_cons, List.map_nil, List.length_cons, List.length_nil, List.replicate_succ, List.replicate_zero, List.cons_append, List.nil_append, List.append_nil, List.getElem?_cons_zero, List.getElem?_cons_succ, List.set_cons_zero, List.set_cons_succ, Nat.reduceAdd, Nat.reduceSub, Nat.sub_self, Nat.reduceLeDiff, List.all_cons, List.all_nil, np_fr, np_int, np_bl, np_tup, np_lst, np_str, np_non, Bool.and_self, Bool.and_true, if_true_, if_false_, zero_add', if_tt, if_ff, decide_true, decide_false, Nat.le_refl, oItS_lst, oItS_tup, oTupOf_lst, oTupOf_tup, oLstOf_lst, oLstOf_tup, oRv_lst, oRv_tup, oAdd_tup, dChain_ap, asTru_bl, asTru_tup, asTru_lst, oIsN_ap, oNotN_ap, asI_ap, oSl_tup, oSl_lst, oZip_tup, oZip_lst, oAddI_ap, oEqS_ap, oNeS_ap, oNe_nil, ll', n3, a5_0, a5_1, wa, wb, sl, we, leadD, ha, hb, hw, Bool.true_and, Bool.false_and, Bool.not_true, Bool.false_eq_true]
          · cases hk : wayD k <;> rw [hk] at wk <;> simp -implicitDefEqProofs only [den_is_leading, sSeq_ap, sAsg_ap, sPar_ap, sRet_ap, sIf_ap, sExpr_ap, sNext_ap, bnd_ap, ret_ap, bindR_ok, thenR_ok, dVar_ap, varR_ok, seqR_nx, seqR_rt, asgR_ok, gNm_ap, gCn_ap, gcnR_ok, gNl_ap, gTp_fr, gTp_ap, gLs_ap, dCons_ap, dNil_ap, asB_ap, dOr_ap, dAnd_ap, dNot_ap, dAndV_ap, dOrV_ap, dNotV_ap, dIf_ap, oAdd_int, oSub_int, oLt_int, oLe_int, oGt_int, oGe_int, oNeg_int, oEq_int, oNe_int, oEq_fr, oNe_fr, oEq_bl, oNe_bl, oTup_ap, oLst_ap, oCall_ap, oAbs_ap, oMax_ap, oMin_ap, oToInt_b, oToInt_i, oLen_lst, oLen_scr, oLen_tup, oIx_lst, oIx_scr, oAdd_lst, oIx_tup, oIx_fr0, oIx_fr1, ixR_ok, oItL_ap, oItT_ap, sFor_ap, startD, List.map_cons, List.map_nil, List.length_cons, List.length_nil, List.replicate_succ, List.replicate_zero, List.cons_append, List.nil_append, List.append_nil, List.getElem?_cons_zero, List.getElem?_cons_succ, List.set_cons_zero, List.set_cons_succ, Nat.reduceAdd, Nat.reduceSub, Nat.sub_self, Nat.reduceLeDiff, List.all_cons, List.all_nil, np_fr, np_int, np_bl, np_tup, np_lst, np_str, np_non, Bool.and_self, Bool.and_true, if_true_, if_false_, zero_add', if_tt, if_ff, decide_true, decide_false, Nat.le_refl, oItS_lst, oItS_tup, oTupOf_lst, oTupOf_tup, oLstOf_lst, oLstOf_tup, oRv_lst, oRv_tup, oAdd_tup, dChain_ap, asTru_bl, asTru_tup, asTru_lst, oIsN_ap, oNotN_ap, asI_ap, oSl_tup, oSl_lst, oZip_tup, oZip_lst, oAddI_ap, oEqS_ap, oNeS_ap, oNe_nil, ll', n3, a5_0, a5_1, wa, wb, sl, we, wk, wy, leadD, ha, hb, hw, hk, Bool.true_and, Bool.false_and, Bool.not_true, Bool.false_eq_true]
  · have e : leadD r = false := by
      match r, hl with
      | [], _ => rfl
      | [_], _ => rfl
      | [_, _], _ => rfl
      | [_, _, _], _ => rfl
      | [_, _, _, _], _ => rfl
      | [_, _, _, _, _], h => exact absurd rfl h
      | _ :: _ :: _ :: _ :: _ :: _ :: _, _ => rfl
    have n3 : decide ((r.length : Int) = 5) = false := decide_eq_false (by omega)
    simp -implicitDefEqProofs only [den_is_leading, sSeq_ap, sAsg_ap, sPar_ap, sRet_ap, sIf_ap, sExpr_ap, sNext_ap, bnd_ap, ret_ap, bindR_ok, thenR_ok, dVar_ap, varR_ok, seqR_nx, seqR_rt, asgR_ok, gNm_ap, gCn_ap, gcnR_ok, gNl_ap, gTp_fr, gTp_ap, gLs_ap, dCons_ap, dNil_ap, asB_ap, dOr_ap, dAnd_ap, dNot_ap, dAndV_ap, dOrV_ap, dNotV_ap, dIf_ap, oAdd_int, oSub_int, oLt_int, oLe_int, oGt_int, oGe_int, oNeg_int, oEq_int, oNe_int, oEq_fr, oNe_fr, oEq_bl, oNe_bl, oTup_ap, oLst_ap, oCall_ap, oAbs_ap, oMax_ap, oMin_ap, oToInt_b, oToInt_i, oLen_lst, oLen_scr, oLen_tup, oIx_lst, oIx_scr, oAdd_lst, oIx_tup, oIx_fr0, oIx_fr1, ixR_ok, oItL_ap, oItT_ap, sFor_ap, startD, List.map_cons, List.map_nil, List.length_cons, List.length_nil, List.replicate_succ, List.replicate_zero, List.cons_append, List.nil_append, List.append_nil, List.getElem?_cons_zero, List.getElem?_cons_succ, List.set_cons_zero, List.set_cons_succ, Nat.reduceAdd, Nat.reduceSub, Nat.sub_self, Nat.reduceLeDiff, List.all_cons, List.all_nil, np_fr, np_int, np_bl, np_tup, np_lst, np_str, np_non, Bool.and_self, Bool.and_true, if_true_, if_false_, zero_add', if_tt, if_ff, decide_true, decide_false, Nat.le_refl, oItS_lst, oItS_tup, oTupOf_lst, oTupOf_tup, oLstOf_lst, oLstOf_tup, oRv_lst, oRv_tup, oAdd_tup, dChain_ap, asTru_bl, asTru_tup, asTru_lst, oIsN_ap, oNotN_ap, asI_ap, oSl_tup, oSl_lst, oZip_tup, oZip_lst, oAddI_ap, oEqS_ap, oNeS_ap, oNe_nil, n3, e, Bool.not_false, Bool.false_eq_true]
end
/-! deeds judged by the program and by the law -/
theorem sForm_hit {i n : Nat} {kf : Ev D} {h : Ev (List D)} {tb : List (Str × Fd)} {ms : List Str} {ρ : Env} {M : Mem} {z : Str} {F : Fd} {ds : List D} {b : D} (e : kf ρ M = some (.ok (.str z), M)) (hi : i < ρ.length) (hm : ms.contains z = false) (ht : tb.lookup z = some F) (ha : h (ρ.set i none) M = some (.ok ds, M)) (hl : ds.length = n) (hF : F ds M = some (.ok b, M)) : sForm i n kf h tb ms ρ M = some (.rt b, M) := by
  unfold sForm
  rw [e]
  dsimp only
  rw [if_neg (by omega), if_neg (by rw [hm]; decide), ht]
  dsimp only
  rw [sRet_ap, bnd_ap, ha, bindR_ok, oCall_ap _ _ _ _ _ hl, hF, thenR_ok]
theorem sForm_miss {i n : Nat} {kf : Ev D} {h : Ev (List D)} {tb : List (Str × Fd)} {ms : List Str} {ρ : Env} {M : Mem} {z : Str} (e : kf ρ M = some (.ok (.str z), M)) (hi : i < ρ.length) (hm : ms.contains z = true) : sForm i n kf h tb ms ρ M = some (.rt (.bl false), M) := by
  unfold sForm
  rw [e]
  dsimp only
  rw [if_neg (by omega), if_pos hm]
abbrev wPour : Str := Str.ofString "pour"
abbrev wLead : Str := Str.ofString "lead"
abbrev wLet : Str := Str.ofString "let"
abbrev wRake : Str := Str.ofString "rake"
abbrev wStir : Str := Str.ofString "stir"
abbrev missL : List Str := ["Rake", "", "stirs", "0", "under", "over", "Over", "under "]
abbrev wordsL : List Str := [wPour, wLead, wLet, wRake, wStir] ++ missL
theorem lk_pour : missL.contains wPour = false ∧ tab_FORMS.lookup wPour = some F_is_pouring := ⟨by decide +kernel, rfl⟩
theorem lk_lead : missL.contains wLead = false ∧ tab_FORMS.lookup wLead = some F_is_leading := ⟨by decide +kernel, by
  unfold tab_FORMS
  rw [List.lookup_cons, show (wLead == ("pour" : Str)) = false from by decide +kernel]
  rfl⟩
theorem lk_let : missL.contains wLet = false ∧ tab_FORMS.lookup wLet = some F_is_letting := ⟨by decide +kernel, by
  unfold tab_FORMS
  rw [List.lookup_cons, show (wLet == ("pour" : Str)) = false from by decide +kernel]
  dsimp only
  rw [List.lookup_cons, show (wLet == ("lead" : Str)) = false from by decide +kernel]
  rfl⟩
theorem lk_rake : missL.contains wRake = false ∧ tab_FORMS.lookup wRake = some F_is_at_pan := ⟨by decide +kernel, by
  unfold tab_FORMS
  rw [List.lookup_cons, show (wRake == ("pour" : Str)) = false from by decide +kernel]
  dsimp only
  rw [List.lookup_cons, show (wRake == ("lead" : Str)) = false from by decide +kernel]
  dsimp only
  rw [List.lookup_cons, show (wRake == ("let" : Str)) = false from by decide +kernel]
  rfl⟩
theorem lk_stir : missL.contains wStir = false ∧ tab_FORMS.lookup wStir = some F_is_at_pan := ⟨by decide +kernel, by
  unfold tab_FORMS
  rw [List.lookup_cons, show (wStir == ("pour" : Str)) = false from by decide +kernel]
  dsimp only
  rw [List.lookup_cons, show (wStir == ("lead" : Str)) = false from by decide +kernel]
  dsimp only
  rw [List.lookup_cons, show (wStir == ("let" : Str)) = false from by decide +kernel]
  dsimp only
  rw [List.lookup_cons, show (wStir == ("rake" : Str)) = false from by decide +kernel]
  rfl⟩
noncomputable def dueS (f : Rat) (z : Str) (r : List D) : Bool := if z = wPour then pourD f r else if z = wLead then leadD r else if z = wLet then letD r else if z = wRake ∨ z = wStir then panD r else false
noncomputable def dueB (f : Rat) : D → Bool
  | .tup (.str z :: r) => dueS f z r
  | _ => false
theorem words_ne : wLead ≠ wPour ∧ wLet ≠ wPour ∧ wLet ≠ wLead ∧ wRake ≠ wPour ∧ wRake ≠ wLead ∧ wRake ≠ wLet ∧ wStir ≠ wPour ∧ wStir ≠ wLead ∧ wStir ≠ wLet ∧ wStir ≠ wRake := by
  refine ⟨?_, ?_, ?_, ?_, ?_, ?_, ?_, ?_, ?_, ?_⟩ <;> decide +kernel
theorem miss_ne : ∀ z ∈ missL, z ≠ wPour ∧ z ≠ wLead ∧ z ≠ wLet ∧ z ≠ wRake ∧ z ≠ wStir := by decide +kernel
/-- what is asked of a thing -/
structure TOk (d : D) : Prop where
  np : d.np = true
  el : ∀ ds, d = .tup ds → ds.length ≤ 12 ∧ ∀ e ∈ ds, El e ∧ ∀ z, e = .str z → z ∈ wordsL
  sal : ∀ p w s, d = .tup [.str wPour, p, w, s] → ∃ i j : Int, s = .int i ∨ s = .tup [.int i, .int j]
theorem sl_1 (x : D) (r : List D) (ρ : Env) (M : Mem) : oSl (.tup (x :: r)) (some 1) none ρ M = some (.ok (.tup r), M) := by
  have e : cutD (x :: r) (some ((1 : Nat) : Int)) none = r := by rw [cut_drop']; rfl
  rw [oSl_tup]
  exact congrArg (fun z => some (Res.ok (D.tup z), M)) e
section
variable {f : Rat}
theorem isdeed_eq {P W d : D} (f0 : 0 < f) (bf : Bd 110 f) (h : TOk d) (M : Mem) : F_is_deed [.tup [frQ f, P, W], d] M = some (.ok (.bl (dueB f d)), M) := by
  refine runF_pure ?_ rfl
  have np := h.np
  have it := fun ρ M => oIsi_tup np (fun _ => none) ρ M
  rw [show startD ["works", "thing", "form"] [D.tup [frQ f, P, W], d] = [some (.tup [frQ f, P, W]), some d, none] from rfl]
  by_cases ht : isT d = true
  · cases d with
    | tup ds =>
      cases ds with
      | nil =>
        have e : dueB f (.tup []) = false := rfl
        simp -implicitDefEqProofs only [den_is_deed, sSeq_ap, sAsg_ap, sPar_ap, sRet_ap, sIf_ap, sExpr_ap, sNext_ap, bnd_ap, ret_ap, bindR_ok, thenR_ok, dVar_ap, varR_ok, seqR_nx, seqR_rt, asgR_ok, gNm_ap, gCn_ap, gcnR_ok, gNl_ap, gTp_fr, gTp_ap, gLs_ap, dCons_ap, dNil_ap, asB_ap, dOr_ap, dAnd_ap, dNot_ap, dAndV_ap, dOrV_ap, dNotV_ap, dIf_ap, oAdd_int, oSub_int, oLt_int, oLe_int, oGt_int, oGe_int, oNeg_int, oEq_int, oNe_int, oEq_fr, oNe_fr, oEq_bl, oNe_bl, oTup_ap, oLst_ap, oCall_ap, oAbs_ap, oMax_ap, oMin_ap, oToInt_b, oToInt_i, oLen_lst, oLen_scr, oLen_tup, oIx_lst, oIx_scr, oAdd_lst, oIx_tup, oIx_fr0, oIx_fr1, ixR_ok, oItL_ap, oItT_ap, sFor_ap, startD, List.map_cons, List.map_nil, List.length_cons, List.length_nil, List.replicate_succ, List.replicate_zero, List.cons_append, List.nil_append, List.append_nil, List.getElem?_cons_zero, List.getElem?_cons_succ, List.set_cons_zero, List.set_cons_succ, Nat.reduceAdd, Nat.reduceSub, Nat.sub_self, Nat.reduceLeDiff, List.all_cons, List.all_nil, np_fr, np_int, np_bl, np_tup, np_lst, np_str, np_non, Bool.and_self, Bool.and_true, if_true_, if_false_, zero_add', if_tt, if_ff, decide_true, decide_false, Nat.le_refl, oItS_lst, oItS_tup, oTupOf_lst, oTupOf_tup, oLstOf_lst, oLstOf_tup, oRv_lst, oRv_tup, oAdd_tup, dChain_ap, asTru_bl, asTru_tup, asTru_lst, oIsN_ap, oNotN_ap, asI_ap, oSl_tup, oSl_lst, oZip_tup, oZip_lst, oAddI_ap, oEqS_ap, oNeS_ap, oNe_nil, it, isT, e, List.isEmpty_nil, Bool.not_true, Bool.not_false, Bool.false_eq_true]
      | cons x r =>
        obtain ⟨hl, hel⟩ := h.el _ rfl
        have hx := (hel x (by simp)).1
        have hr : ∀ e ∈ r, El e := fun e he => (hel e (by simp [he])).1
        have st := fun ρ M => oIsi_str (na_np hx.na) (fun _ => none) ρ M
        have i0 : ∀ ρ M, oIx (.tup (x :: r)) (.int 0) ρ M = some (.ok x, M) := fun ρ M => by rw [oIx_tup, atI_0]; rfl
        have w0 : ∀ ρ M, oIx (.tup [frQ f, P, W]) (.int 0) ρ M = some (.ok (frQ f), M) := fun _ _ => rfl
        have s1 := sl_1 x r
        by_cases hs : isS x = true
        · cases x with
          | str z =>
            have hz := (hel (.str z) (by simp)).2 z rfl
            have ifs : (sIf (dOr (dNot (bnd (bnd (dVar 1) (oIsi (fun a => kitB a "tuple") (fun _ => none))) asB)) (dOr (dNot (bnd (dVar 1) asTru)) (dNot (bnd (bnd (bnd (dVar 1) fun d => bnd (ret (.int 0)) fun e => oIx d e) (oIsi (fun a => kitB a "str") (fun _ => none))) asB)))) (sRet (ret (.bl false))) sNext) [some (.tup [frQ f, P, W]), some (.tup (.str z :: r)), none] M = some (.nx [some (.tup [frQ f, P, W]), some (.tup (.str z :: r)), none], M) := by
              simp -implicitDefEqProofs only [sSeq_ap, sAsg_ap, sPar_ap, sRet_ap, sIf_ap, sExpr_ap, sNext_ap, bnd_ap, ret_ap, bindR_ok, thenR_ok, dVar_ap, varR_ok, seqR_nx, seqR_rt, asgR_ok, gNm_ap, gCn_ap, gcnR_ok, gNl_ap, gTp_fr, gTp_ap, gLs_ap, dCons_ap, dNil_ap, asB_ap, dOr_ap, dAnd_ap, dNot_ap, dAndV_ap, dOrV_ap, dNotV_ap, dIf_ap, oAdd_int, oSub_int, oLt_int, oLe_int, oGt_int, oGe_int, oNeg_int, oEq_int, oNe_int, oEq_fr, oNe_fr, oEq_bl, oNe_bl, oTup_ap, oLst_ap, oCall_ap, oAbs_ap, oMax_ap, oMin_ap, oToInt_b, oToInt_i, oLen_lst, oLen_scr, oLen_tup, oIx_lst, oIx_scr, oAdd_lst, oIx_tup, oIx_fr0, oIx_fr1, ixR_ok, oItL_ap, oItT_ap, sFor_ap, startD, List.map_cons, List.map_nil, List.length_cons, List.length_nil, List.replicate_succ, List.replicate_zero, List.cons_append, List.nil_append, List.append_nil, List.getElem?_cons_zero, List.getElem?_cons_succ, List.set_cons_zero, List.set_cons_succ, Nat.reduceAdd, Nat.reduceSub, Nat.sub_self, Nat.reduceLeDiff, List.all_cons, List.all_nil, np_fr, np_int, np_bl, np_tup, np_lst, np_str, np_non, Bool.and_self, Bool.and_true, if_true_, if_false_, zero_add', if_tt, if_ff, decide_true, decide_false, Nat.le_refl, oItS_lst, oItS_tup, oTupOf_lst, oTupOf_tup, oLstOf_lst, oLstOf_tup, oRv_lst, oRv_tup, oAdd_tup, dChain_ap, asTru_bl, asTru_tup, asTru_lst, oIsN_ap, oNotN_ap, asI_ap, oSl_tup, oSl_lst, oZip_tup, oZip_lst, oAddI_ap, oEqS_ap, oNeS_ap, oNe_nil, it, isT, i0, st, isS, List.isEmpty_cons, Bool.not_true, Bool.not_false, Bool.false_eq_true]
            have ek : (bnd (dVar 1) fun d => bnd (ret (.int 0)) fun e => oIx d e) [some (.tup [frQ f, P, W]), some (.tup (.str z :: r)), none] M = some (.ok (.str z), M) := by simp -implicitDefEqProofs only [sSeq_ap, sAsg_ap, sPar_ap, sRet_ap, sIf_ap, sExpr_ap, sNext_ap, bnd_ap, ret_ap, bindR_ok, thenR_ok, dVar_ap, varR_ok, seqR_nx, seqR_rt, asgR_ok, gNm_ap, gCn_ap, gcnR_ok, gNl_ap, gTp_fr, gTp_ap, gLs_ap, dCons_ap, dNil_ap, asB_ap, dOr_ap, dAnd_ap, dNot_ap, dAndV_ap, dOrV_ap, dNotV_ap, dIf_ap, oAdd_int, oSub_int, oLt_int, oLe_int, oGt_int, oGe_int, oNeg_int, oEq_int, oNe_int, oEq_fr, oNe_fr, oEq_bl, oNe_bl, oTup_ap, oLst_ap, oCall_ap, oAbs_ap, oMax_ap, oMin_ap, oToInt_b, oToInt_i, oLen_lst, oLen_scr, oLen_tup, oIx_lst, oIx_scr, oAdd_lst, oIx_tup, oIx_fr0, oIx_fr1, ixR_ok, oItL_ap, oItT_ap, sFor_ap, startD, List.map_cons, List.map_nil, List.length_cons, List.length_nil, List.replicate_succ, List.replicate_zero, List.cons_append, List.nil_append, List.append_nil, List.getElem?_cons_zero, List.getElem?_cons_succ, List.set_cons_zero, List.set_cons_succ, Nat.reduceAdd, Nat.reduceSub, Nat.sub_self, Nat.reduceLeDiff, List.all_cons, List.all_nil, np_fr, np_int, np_bl, np_tup, np_lst, np_str, np_non, Bool.and_self, Bool.and_true, if_true_, if_false_, zero_add', if_tt, if_ff, decide_true, decide_false, Nat.le_refl, oItS_lst, oItS_tup, oTupOf_lst, oTupOf_tup, oLstOf_lst, oLstOf_tup, oRv_lst, oRv_tup, oAdd_tup, dChain_ap, asTru_bl, asTru_tup, asTru_lst, oIsN_ap, oNotN_ap, asI_ap, oSl_tup, oSl_lst, oZip_tup, oZip_lst, oAddI_ap, oEqS_ap, oNeS_ap, oNe_nil, i0]
            have ea : (dCons (bnd (dVar 0) fun d => bnd (ret (.int 0)) fun e => oIx d e) (dCons (bnd (dVar 1) fun d => bnd (bnd (ret (.int 1)) asI) fun l => bnd (ret none) fun u => oSl d l u) dNil)) ([some (.tup [frQ f, P, W]), some (.tup (.str z :: r)), none].set 2 none) M = some (.ok [frQ f, .tup r], M) := by
              simp -implicitDefEqProofs only [sSeq_ap, sAsg_ap, sPar_ap, sRet_ap, sIf_ap, sExpr_ap, sNext_ap, bnd_ap, ret_ap, bindR_ok, thenR_ok, dVar_ap, varR_ok, seqR_nx, seqR_rt, asgR_ok, gNm_ap, gCn_ap, gcnR_ok, gNl_ap, gTp_fr, gTp_ap, gLs_ap, dCons_ap, dNil_ap, asB_ap, dOr_ap, dAnd_ap, dNot_ap, dAndV_ap, dOrV_ap, dNotV_ap, dIf_ap, oAdd_int, oSub_int, oLt_int, oLe_int, oGt_int, oGe_int, oNeg_int, oEq_int, oNe_int, oEq_fr, oNe_fr, oEq_bl, oNe_bl, oTup_ap, oLst_ap, oCall_ap, oAbs_ap, oMax_ap, oMin_ap, oToInt_b, oToInt_i, oLen_lst, oLen_scr, oLen_tup, oIx_lst, oIx_scr, oAdd_lst, oIx_tup, oIx_fr0, oIx_fr1, ixR_ok, oItL_ap, oItT_ap, sFor_ap, startD, List.map_cons, List.map_nil, List.length_cons, List.length_nil, List.replicate_succ, List.replicate_zero, List.cons_append, List.nil_append, List.append_nil, List.getElem?_cons_zero, List.getElem?_cons_succ, List.set_cons_zero, List.set_cons_succ, Nat.reduceAdd, Nat.reduceSub, Nat.sub_self, Nat.reduceLeDiff, List.all_cons, List.all_nil, np_fr, np_int, np_bl, np_tup, np_lst, np_str, np_non, Bool.and_self, Bool.and_true, if_true_, if_false_, zero_add', if_tt, if_ff, decide_true, decide_false, Nat.le_refl, oItS_lst, oItS_tup, oTupOf_lst, oTupOf_tup, oLstOf_lst, oLstOf_tup, oRv_lst, oRv_tup, oAdd_tup, dChain_ap, asTru_bl, asTru_tup, asTru_lst, oIsN_ap, oNotN_ap, asI_ap, oSl_tup, oSl_lst, oZip_tup, oZip_lst, oAddI_ap, oEqS_ap, oNeS_ap, oNe_nil, w0, s1]
            have hit : ∀ (F : Fd) (b : Bool), missL.contains z = false → tab_FORMS.lookup z = some F → F [frQ f, .tup r] M = some (.ok (.bl b), M) → den_is_deed [some (.tup [frQ f, P, W]), some (.tup (.str z :: r)), none] M = some (.rt (.bl b), M) := fun F b m t e => by
              unfold den_is_deed
              rw [seq_step ifs]
              exact sForm_hit ek (by simp) m t ea rfl e
            have ne := words_ne
            rcases List.mem_append.mp hz with q | q
            · simp -implicitDefEqProofs only [List.mem_cons, List.not_mem_nil, or_false] at q
              rcases q with e | e | e | e | e <;> subst e
              · have d : dueS f wPour r = pourD f r := if_pos rfl
                rw [show dueB f (.tup (.str _ :: r)) = dueS f _ r from rfl, d]; exact hit _ _ lk_pour.1 lk_pour.2 (pour_eq f0 bf hr M)
              · have d : dueS f wLead r = leadD r := by unfold dueS; rw [if_neg ne.1, if_pos rfl]
                rw [show dueB f (.tup (.str _ :: r)) = dueS f _ r from rfl, d]; exact hit _ _ lk_lead.1 lk_lead.2 (lead_eq hr _ M)
              · have d : dueS f wLet r = letD r := by unfold dueS; rw [if_neg ne.2.1, if_neg ne.2.2.1, if_pos rfl]
                rw [show dueB f (.tup (.str _ :: r)) = dueS f _ r from rfl, d]; exact hit _ _ lk_let.1 lk_let.2 (let_eq hr _ M)
              · have d : dueS f wRake r = panD r := by unfold dueS; rw [if_neg ne.2.2.2.1, if_neg ne.2.2.2.2.1, if_neg ne.2.2.2.2.2.1, if_pos (.inl rfl)]
                rw [show dueB f (.tup (.str _ :: r)) = dueS f _ r from rfl, d]; exact hit _ _ lk_rake.1 lk_rake.2 (pan_eq' hr _ M)
              · have d : dueS f wStir r = panD r := by unfold dueS; rw [if_neg ne.2.2.2.2.2.2.1, if_neg ne.2.2.2.2.2.2.2.1, if_neg ne.2.2.2.2.2.2.2.2.1, if_pos (.inr rfl)]
                rw [show dueB f (.tup (.str _ :: r)) = dueS f _ r from rfl, d]; exact hit _ _ lk_stir.1 lk_stir.2 (pan_eq' hr _ M)
            · obtain ⟨n1, n2, n3, n4, n5⟩ := miss_ne z q
              have d : dueS f z r = false := by unfold dueS; rw [if_neg n1, if_neg n2, if_neg n3, if_neg (fun h => h.elim n4 n5)]
              rw [show dueB f (.tup (.str z :: r)) = dueS f z r from rfl, d]
              unfold den_is_deed
              rw [seq_step ifs]
              exact sForm_miss ek (by simp) (List.contains_iff_mem.mpr q)
          | _ => cases hs
        · have hs' : isS x = false := by simpa using hs
          have e : dueB f (.tup (x :: r)) = false := by
            cases x <;> first | rfl | exact absurd rfl hs
          simp -implicitDefEqProofs only [den_is_deed, sSeq_ap, sAsg_ap, sPar_ap, sRet_ap, sIf_ap, sExpr_ap, sNext_ap, bnd_ap, ret_ap, bindR_ok, thenR_ok, dVar_ap, varR_ok, seqR_nx, seqR_rt, asgR_ok, gNm_ap, gCn_ap, gcnR_ok, gNl_ap, gTp_fr, gTp_ap, gLs_ap, dCons_ap, dNil_ap, asB_ap, dOr_ap, dAnd_ap, dNot_ap, dAndV_ap, dOrV_ap, dNotV_ap, dIf_ap, oAdd_int, oSub_int, oLt_int, oLe_int, oGt_int, oGe_int, oNeg_int, oEq_int, oNe_int, oEq_fr, oNe_fr, oEq_bl, oNe_bl, oTup_ap, oLst_ap, oCall_ap, oAbs_ap, oMax_ap, oMin_ap, oToInt_b, oToInt_i, oLen_lst, oLen_scr, oLen_tup, oIx_lst, oIx_scr, oAdd_lst, oIx_tup, oIx_fr0, oIx_fr1, ixR_ok, oItL_ap, oItT_ap, sFor_ap, startD, List.map_cons, List.map_nil, List.length_cons, List.length_nil, List.replicate_succ, List.replicate_zero, List.cons_append, List.nil_append, List.append_nil, List.getElem?_cons_zero, List.getElem?_cons_succ, List.set_cons_zero, List.set_cons_succ, Nat.reduceAdd, Nat.reduceSub, Nat.sub_self, Nat.reduceLeDiff, List.all_cons, List.all_nil, np_fr, np_int, np_bl, np_tup, np_lst, np_str, np_non, Bool.and_self, Bool.and_true, if_true_, if_false_, zero_add', if_tt, if_ff, decide_true, decide_false, Nat.le_refl, oItS_lst, oItS_tup, oTupOf_lst, oTupOf_tup, oLstOf_lst, oLstOf_tup, oRv_lst, oRv_tup, oAdd_tup, dChain_ap, asTru_bl, asTru_tup, asTru_lst, oIsN_ap, oNotN_ap, asI_ap, oSl_tup, oSl_lst, oZip_tup, oZip_lst, oAddI_ap, oEqS_ap, oNeS_ap, oNe_nil, it, isT, i0, st, hs', e, List.isEmpty_cons, Bool.not_true, Bool.not_false, Bool.false_eq_true]
    | _ => cases ht
  · have ht' : isT d = false := by simpa using ht
    have e0 : dueB f d = false := by cases d <;> first | rfl | exact absurd rfl ht
    simp -implicitDefEqProofs only [den_is_deed, sSeq_ap, sAsg_ap, sPar_ap, sRet_ap, sIf_ap, sExpr_ap, sNext_ap, bnd_ap, ret_ap, bindR_ok, thenR_ok, dVar_ap, varR_ok, seqR_nx, seqR_rt, asgR_ok, gNm_ap, gCn_ap, gcnR_ok, gNl_ap, gTp_fr, gTp_ap, gLs_ap, dCons_ap, dNil_ap, asB_ap, dOr_ap, dAnd_ap, dNot_ap, dAndV_ap, dOrV_ap, dNotV_ap, dIf_ap, oAdd_int, oSub_int, oLt_int, oLe_int, oGt_int, oGe_int, oNeg_int, oEq_int, oNe_int, oEq_fr, oNe_fr, oEq_bl, oNe_bl, oTup_ap, oLst_ap, oCall_ap, oAbs_ap, oMax_ap, oMin_ap, oToInt_b, oToInt_i, oLen_lst, oLen_scr, oLen_tup, oIx_lst, oIx_scr, oAdd_lst, oIx_tup, oIx_fr0, oIx_fr1, ixR_ok, oItL_ap, oItT_ap, sFor_ap, startD, List.map_cons, List.map_nil, List.length_cons, List.length_nil, List.replicate_succ, List.replicate_zero, List.cons_append, List.nil_append, List.append_nil, List.getElem?_cons_zero, List.getElem?_cons_succ, List.set_cons_zero, List.set_cons_succ, Nat.reduceAdd, Nat.reduceSub, Nat.sub_self, Nat.reduceLeDiff, List.all_cons, List.all_nil, np_fr, np_int, np_bl, np_tup, np_lst, np_str, np_non, Bool.and_self, Bool.and_true, if_true_, if_false_, zero_add', if_tt, if_ff, decide_true, decide_false, Nat.le_refl, oItS_lst, oItS_tup, oTupOf_lst, oTupOf_tup, oLstOf_lst, oLstOf_tup, oRv_lst, oRv_tup, oAdd_tup, dChain_ap, asTru_bl, asTru_tup, asTru_lst, oIsN_ap, oNotN_ap, asI_ap, oSl_tup, oSl_lst, oZip_tup, oZip_lst, oAddI_ap, oEqS_ap, oNeS_ap, oNe_nil, it, ht', e0, Bool.not_false]
end
/-! the law's judges -/
theorem eq_low0 {i j : Int} (hj : 0 < j) (ρ : Env) (M : Mem) : oEq (frQ (Rat.divInt i j)) (.tup [.int i, .int j]) ρ M = some (.ok (.bl (decide (((Int.gcd i j : Nat) : Int) = 1))), M) := by
  unfold oEq
  rw [if_pos ⟨rfl, rfl, rfl, rfl⟩]
  show some (Res.ok (D.bl (PyData.eqv (toPy (frQ (Rat.divInt i j))) (toPy (.tup [.int i, .int j])))), M) = _
  simp -implicitDefEqProofs only [frQ, toPy, toPys, PyData.eqv, PyData.eqvAll, Bool.and_true]
  refine congrArg (fun b => some (Res.ok (D.bl b), M)) ?_
  rw [Bool.eq_iff_iff]
  simp -implicitDefEqProofs only [Bool.and_eq_true, beq_iff_eq, decide_eq_true_eq]
  constructor
  · rintro ⟨a, b⟩
    have r := (Rat.divInt i j).reduced
    have : Int.gcd (Rat.divInt i j).num ((Rat.divInt i j).den : Int) = 1 := by simpa [Int.gcd, Nat.Coprime] using r
    rw [a, b] at this
    exact_mod_cast this
  · intro g
    have g' : Int.gcd i j = 1 := by exact_mod_cast g
    have e := fr_of (q := Rat.divInt i j) (n := i) (d := j) (by omega) g' (by
      have e := Rat.num_divInt_den (Rat.divInt i j)
      rw [Rat.divInt_eq_divInt_iff (den_ne _) (by omega)] at e
      exact e.symm)
    unfold frQ at e
    injection e with e
    injection e with e1 e2
    injection e2 with e2 _
    injection e1 with e1
    injection e2 with e2
    exact ⟨e1.symm, e2.symm⟩
theorem eq_low {i j : Int} (hj : 0 < j) (ρ : Env) (M : Mem) : oEq (frQ (Rat.divInt i j)) (.tup [.int i, .int j]) ρ M = some (.ok (.bl (isF (.tup [.int i, .int j]))), M) := by
  rw [eq_low0 hj]
  have : isF (.tup [.int i, .int j]) = (decide (0 < j) && decide (((Int.gcd i j : Nat) : Int) = 1)) := rfl
  rw [this, decide_eq_true hj, Bool.true_and]
theorem lwater_two {x y : D} (nx : Na 101 12 x) (ny : Na 101 12 y) (M : Mem) : F__law_is_water [.tup [x, y]] M = some (.ok (.bl (isPs (.tup [x, y]))), M) := by
  refine runF_pure ?_ rfl
  have n2 : decide ((2 : Int) = 2) = true := rfl
  have l2 : ∀ ρ M, oLen [.tup [x, y]] ρ M = some (.ok (.int 2), M) := fun _ _ => rfl
  have it : ∀ ρ M, oIsi (fun a => kitB a "tuple") (fun _ => none) (.tup [x, y]) ρ M = some (.ok (.bl true), M) := fun ρ M => oIsi_tup (np_tup _) _ ρ M
  have wx := lwhole_eq (na_np nx)
  have wy := lwhole_eq (na_np ny)
  by_cases hx : isWh x = true
  · by_cases hy : isWh y = true
    · cases x <;> first | (cases hx; done) | skip
      cases y <;> first | (cases hy; done) | skip
      rename_i a b
      have pd : isPs (.tup [.int a, .int b]) = (decide (a > 0) && (decide (b > 0) && isF (.tup [.int a, .int b]))) := by
        unfold isPs posN isF
        dsimp only
        rw [Bool.eq_iff_iff]
        simp -implicitDefEqProofs only [Bool.and_eq_true, decide_eq_true_eq]
        constructor
        · rintro ⟨⟨h1, h2⟩, h3⟩; exact ⟨h3, h1, h1, h2⟩
        · rintro ⟨h3, _, h1, h2⟩; exact ⟨⟨h1, h2⟩, h3⟩
      rw [pd]
      by_cases ha : a > 0
      · by_cases hb : b > 0
        · have lo := low_eq (t := a) (b := b) (by omega) (nat_lt_pow 4000 (na_of_int ny) (by omega))
          simp -implicitDefEqProofs only [den__law_is_water, sSeq_ap, sAsg_ap, sPar_ap, sRet_ap, sIf_ap, sExpr_ap, sNext_ap, bnd_ap, ret_ap, bindR_ok, thenR_ok, dVar_ap, varR_ok, seqR_nx, seqR_rt, asgR_ok, gNm_ap, gCn_ap, gcnR_ok, gNl_ap, gTp_fr, gTp_ap, gLs_ap, dCons_ap, dNil_ap, asB_ap, dOr_ap, dAnd_ap, dNot_ap, dAndV_ap, dOrV_ap, dNotV_ap, dIf_ap, oAdd_int, oSub_int, oLt_int, oLe_int, oGt_int, oGe_int, oNeg_int, oEq_int, oNe_int, oEq_fr, oNe_fr, oEq_bl, oNe_bl, oTup_ap, oLst_ap, oCall_ap, oAbs_ap, oMax_ap, oMin_ap, oToInt_b, oToInt_i, oLen_lst, oLen_scr, oLen_tup, oIx_lst, oIx_scr, oAdd_lst, oIx_tup, oIx_fr0, oIx_fr1, ixR_ok, oItL_ap, oItT_ap, sFor_ap, startD, List.map_cons, List.map_nil, List.length_cons, List.length_nil, List.replicate_succ, List.replicate_zero, List.cons_append, List.nil_append, List.append_nil, List.getElem?_cons_zero, List.getElem?_cons_succ, List.set_cons_zero, List.set_cons_succ, Nat.reduceAdd, Nat.reduceSub, Nat.sub_self, Nat.reduceLeDiff, List.all_cons, List.all_nil, np_fr, np_int, np_bl, np_tup, np_lst, np_str, np_non, Bool.and_self, Bool.and_true, if_true_, if_false_, zero_add', if_tt, if_ff, decide_true, decide_false, Nat.le_refl, oItS_lst, oItS_tup, oTupOf_lst, oTupOf_tup, oLstOf_lst, oLstOf_tup, oRv_lst, oRv_tup, oAdd_tup, dChain_ap, asTru_bl, asTru_tup, asTru_lst, oIsN_ap, oNotN_ap, asI_ap, oSl_tup, oSl_lst, oZip_tup, oZip_lst, oAddI_ap, oEqS_ap, oNeS_ap, oNe_nil, it, l2, n2, i2_0, i2_1, wx, wy, isWh, ha, hb, lo, eq_low hb, Bool.not_true, Bool.false_eq_true, Bool.true_and]
        · simp -implicitDefEqProofs only [den__law_is_water, sSeq_ap, sAsg_ap, sPar_ap, sRet_ap, sIf_ap, sExpr_ap, sNext_ap, bnd_ap, ret_ap, bindR_ok, thenR_ok, dVar_ap, varR_ok, seqR_nx, seqR_rt, asgR_ok, gNm_ap, gCn_ap, gcnR_ok, gNl_ap, gTp_fr, gTp_ap, gLs_ap, dCons_ap, dNil_ap, asB_ap, dOr_ap, dAnd_ap, dNot_ap, dAndV_ap, dOrV_ap, dNotV_ap, dIf_ap, oAdd_int, oSub_int, oLt_int, oLe_int, oGt_int, oGe_int, oNeg_int, oEq_int, oNe_int, oEq_fr, oNe_fr, oEq_bl, oNe_bl, oTup_ap, oLst_ap, oCall_ap, oAbs_ap, oMax_ap, oMin_ap, oToInt_b, oToInt_i, oLen_lst, oLen_scr, oLen_tup, oIx_lst, oIx_scr, oAdd_lst, oIx_tup, oIx_fr0, oIx_fr1, ixR_ok, oItL_ap, oItT_ap, sFor_ap, startD, List.map_cons, List.map_nil, List.length_cons, List.length_nil, List.replicate_succ, List.replicate_zero, List.cons_append, List.nil_append, List.append_nil, List.getElem?_cons_zero, List.getElem?_cons_succ, List.set_cons_zero, List.set_cons_succ, Nat.reduceAdd, Nat.reduceSub, Nat.sub_self, Nat.reduceLeDiff, List.all_cons, List.all_nil, np_fr, np_int, np_bl, np_tup, np_lst, np_str, np_non, Bool.and_self, Bool.and_true, if_true_, if_false_, zero_add', if_tt, if_ff, decide_true, decide_false, Nat.le_refl, oItS_lst, oItS_tup, oTupOf_lst, oTupOf_tup, oLstOf_lst, oLstOf_tup, oRv_lst, oRv_tup, oAdd_tup, dChain_ap, asTru_bl, asTru_tup, asTru_lst, oIsN_ap, oNotN_ap, asI_ap, oSl_tup, oSl_lst, oZip_tup, oZip_lst, oAddI_ap, oEqS_ap, oNeS_ap, oNe_nil, it, l2, n2, i2_0, i2_1, wx, wy, isWh, ha, hb, Bool.not_true, Bool.false_eq_true, Bool.true_and, Bool.false_and]
      · simp -implicitDefEqProofs only [den__law_is_water, sSeq_ap, sAsg_ap, sPar_ap, sRet_ap, sIf_ap, sExpr_ap, sNext_ap, bnd_ap, ret_ap, bindR_ok, thenR_ok, dVar_ap, varR_ok, seqR_nx, seqR_rt, asgR_ok, gNm_ap, gCn_ap, gcnR_ok, gNl_ap, gTp_fr, gTp_ap, gLs_ap, dCons_ap, dNil_ap, asB_ap, dOr_ap, dAnd_ap, dNot_ap, dAndV_ap, dOrV_ap, dNotV_ap, dIf_ap, oAdd_int, oSub_int, oLt_int, oLe_int, oGt_int, oGe_int, oNeg_int, oEq_int, oNe_int, oEq_fr, oNe_fr, oEq_bl, oNe_bl, oTup_ap, oLst_ap, oCall_ap, oAbs_ap, oMax_ap, oMin_ap, oToInt_b, oToInt_i, oLen_lst, oLen_scr, oLen_tup, oIx_lst, oIx_scr, oAdd_lst, oIx_tup, oIx_fr0, oIx_fr1, ixR_ok, oItL_ap, oItT_ap, sFor_ap, startD, List.map_cons, List.map_nil, List.length_cons, List.length_nil, List.replicate_succ, List.replicate_zero, List.cons_append, List.nil_append, List.append_nil, List.getElem?_cons_zero, List.getElem?_cons_succ, List.set_cons_zero, List.set_cons_succ, Nat.reduceAdd, Nat.reduceSub, Nat.sub_self, Nat.reduceLeDiff, List.all_cons, List.all_nil, np_fr, np_int, np_bl, np_tup, np_lst, np_str, np_non, Bool.and_self, Bool.and_true, if_true_, if_false_, zero_add', if_tt, if_ff, decide_true, decide_false, Nat.le_refl, oItS_lst, oItS_tup, oTupOf_lst, oTupOf_tup, oLstOf_lst, oLstOf_tup, oRv_lst, oRv_tup, oAdd_tup, dChain_ap, asTru_bl, asTru_tup, asTru_lst, oIsN_ap, oNotN_ap, asI_ap, oSl_tup, oSl_lst, oZip_tup, oZip_lst, oAddI_ap, oEqS_ap, oNeS_ap, oNe_nil, it, l2, n2, i2_0, i2_1, wx, wy, isWh, ha, Bool.not_true, Bool.false_eq_true, Bool.false_and]
    · have hy' : isWh y = false := by simpa using hy
      have e0 : isPs (.tup [x, y]) = false := isPs_no (by
        cases x <;> first | (cases hx; done) | skip
        cases y <;> first | rfl | exact absurd rfl hy)
      simp -implicitDefEqProofs only [den__law_is_water, sSeq_ap, sAsg_ap, sPar_ap, sRet_ap, sIf_ap, sExpr_ap, sNext_ap, bnd_ap, ret_ap, bindR_ok, thenR_ok, dVar_ap, varR_ok, seqR_nx, seqR_rt, asgR_ok, gNm_ap, gCn_ap, gcnR_ok, gNl_ap, gTp_fr, gTp_ap, gLs_ap, dCons_ap, dNil_ap, asB_ap, dOr_ap, dAnd_ap, dNot_ap, dAndV_ap, dOrV_ap, dNotV_ap, dIf_ap, oAdd_int, oSub_int, oLt_int, oLe_int, oGt_int, oGe_int, oNeg_int, oEq_int, oNe_int, oEq_fr, oNe_fr, oEq_bl, oNe_bl, oTup_ap, oLst_ap, oCall_ap, oAbs_ap, oMax_ap, oMin_ap, oToInt_b, oToInt_i, oLen_lst, oLen_scr, oLen_tup, oIx_lst, oIx_scr, oAdd_lst, oIx_tup, oIx_fr0, oIx_fr1, ixR_ok, oItL_ap, oItT_ap, sFor_ap, startD, List.map_cons, List.map_nil, List.length_cons, List.length_nil, List.replicate_succ, List.replicate_zero, List.cons_append, List.nil_append, List.append_nil, List.getElem?_cons_zero, List.getElem?_cons_succ, List.set_cons_zero, List.set_cons_succ, Nat.reduceAdd, Nat.reduceSub, Nat.sub_self, Nat.reduceLeDiff, List.all_cons, List.all_nil, np_fr, np_int, np_bl, np_tup, np_lst, np_str, np_non, Bool.and_self, Bool.and_true, if_true_, if_false_, zero_add', if_tt, if_ff, decide_true, decide_false, Nat.le_refl, oItS_lst, oItS_tup, oTupOf_lst, oTupOf_tup, oLstOf_lst, oLstOf_tup, oRv_lst, oRv_tup, oAdd_tup, dChain_ap, asTru_bl, asTru_tup, asTru_lst, oIsN_ap, oNotN_ap, asI_ap, oSl_tup, oSl_lst, oZip_tup, oZip_lst, oAddI_ap, oEqS_ap, oNeS_ap, oNe_nil, it, l2, n2, i2_0, i2_1, wx, wy, hx, hy', e0, Bool.not_true, Bool.not_false, Bool.false_eq_true]
  · have hx' : isWh x = false := by simpa using hx
    have e0 : isPs (.tup [x, y]) = false := isPs_no (by
      cases x <;> first | rfl | exact absurd rfl hx)
    simp -implicitDefEqProofs only [den__law_is_water, sSeq_ap, sAsg_ap, sPar_ap, sRet_ap, sIf_ap, sExpr_ap, sNext_ap, bnd_ap, ret_ap, bindR_ok, thenR_ok, dVar_ap, varR_ok, seqR_nx, seqR_rt, asgR_ok, gNm_ap, gCn_ap, gcnR_ok, gNl_ap, gTp_fr, gTp_ap, gLs_ap, dCons_ap, dNil_ap, asB_ap, dOr_ap, dAnd_ap, dNot_ap, dAndV_ap, dOrV_ap, dNotV_ap, dIf_ap, oAdd_int, oSub_int, oLt_int, oLe_int, oGt_int, oGe_int, oNeg_int, oEq_int, oNe_int, oEq_fr, oNe_fr, oEq_bl, oNe_bl, oTup_ap, oLst_ap, oCall_ap, oAbs_ap, oMax_ap, oMin_ap, oToInt_b, oToInt_i, oLen_lst, oLen_scr, oLen_tup, oIx_lst, oIx_scr, oAdd_lst, oIx_tup, oIx_fr0, oIx_fr1, ixR_ok, oItL_ap, oItT_ap, sFor_ap, startD, List.map_cons, List.map_nil, List.length_cons, List.length_nil, List.replicate_succ, List.replicate_zero, List.cons_append, List.nil_append, List.append_nil, List.getElem?_cons_zero, List.getElem?_cons_succ, List.set_cons_zero, List.set_cons_succ, Nat.reduceAdd, Nat.reduceSub, Nat.sub_self, Nat.reduceLeDiff, List.all_cons, List.all_nil, np_fr, np_int, np_bl, np_tup, np_lst, np_str, np_non, Bool.and_self, Bool.and_true, if_true_, if_false_, zero_add', if_tt, if_ff, decide_true, decide_false, Nat.le_refl, oItS_lst, oItS_tup, oTupOf_lst, oTupOf_tup, oLstOf_lst, oLstOf_tup, oRv_lst, oRv_tup, oAdd_tup, dChain_ap, asTru_bl, asTru_tup, asTru_lst, oIsN_ap, oNotN_ap, asI_ap, oSl_tup, oSl_lst, oZip_tup, oZip_lst, oAddI_ap, oEqS_ap, oNeS_ap, oNe_nil, it, l2, n2, i2_0, wx, hx', e0, Bool.not_true, Bool.not_false, Bool.false_eq_true]
theorem lwater_eq {d : D} (h : Na 101 12 d) (M : Mem) : F__law_is_water [d] M = some (.ok (.bl (isPs d)), M) := by
  by_cases ht : isT d = true
  · cases d with
    | tup ds =>
      by_cases hl : ds.length = 2
      · match ds, hl, h with
        | [x, y], _, h => exact lwater_two ((na_of_tup h).2 x (by simp)) ((na_of_tup h).2 y (by simp)) M
      · refine runF_pure ?_ rfl
        have e : decide ((ds.length : Int) = 2) = false := decide_eq_false (by omega)
        have e0 := isPs_no (isF_len hl)
        simp -implicitDefEqProofs only [den__law_is_water, sSeq_ap, sAsg_ap, sPar_ap, sRet_ap, sIf_ap, sExpr_ap, sNext_ap, bnd_ap, ret_ap, bindR_ok, thenR_ok, dVar_ap, varR_ok, seqR_nx, seqR_rt, asgR_ok, gNm_ap, gCn_ap, gcnR_ok, gNl_ap, gTp_fr, gTp_ap, gLs_ap, dCons_ap, dNil_ap, asB_ap, dOr_ap, dAnd_ap, dNot_ap, dAndV_ap, dOrV_ap, dNotV_ap, dIf_ap, oAdd_int, oSub_int, oLt_int, oLe_int, oGt_int, oGe_int, oNeg_int, oEq_int, oNe_int, oEq_fr, oNe_fr, oEq_bl, oNe_bl, oTup_ap, oLst_ap, oCall_ap, oAbs_ap, oMax_ap, oMin_ap, oToInt_b, oToInt_i, oLen_lst, oLen_scr, oLen_tup, oIx_lst, oIx_scr, oAdd_lst, oIx_tup, oIx_fr0, oIx_fr1, ixR_ok, oItL_ap, oItT_ap, sFor_ap, startD, List.map_cons, List.map_nil, List.length_cons, List.length_nil, List.replicate_succ, List.replicate_zero, List.cons_append, List.nil_append, List.append_nil, List.getElem?_cons_zero, List.getElem?_cons_succ, List.set_cons_zero, List.set_cons_succ, Nat.reduceAdd, Nat.reduceSub, Nat.sub_self, Nat.reduceLeDiff, List.all_cons, List.all_nil, np_fr, np_int, np_bl, np_tup, np_lst, np_str, np_non, Bool.and_self, Bool.and_true, if_true_, if_false_, zero_add', if_tt, if_ff, decide_true, decide_false, Nat.le_refl, oItS_lst, oItS_tup, oTupOf_lst, oTupOf_tup, oLstOf_lst, oLstOf_tup, oRv_lst, oRv_tup, oAdd_tup, dChain_ap, asTru_bl, asTru_tup, asTru_lst, oIsN_ap, oNotN_ap, asI_ap, oSl_tup, oSl_lst, oZip_tup, oZip_lst, oAddI_ap, oEqS_ap, oNeS_ap, oNe_nil, oIsi_tup (np_tup ds), isT, e, e0, Bool.not_true, Bool.not_false, Bool.false_eq_true]
    | _ => cases ht
  · have ht' : isT d = false := by simpa using ht
    have e0 : isPs d = false := isPs_no (by cases d <;> first | rfl | exact absurd rfl ht)
    refine runF_pure ?_ rfl
    simp -implicitDefEqProofs only [den__law_is_water, sSeq_ap, sAsg_ap, sPar_ap, sRet_ap, sIf_ap, sExpr_ap, sNext_ap, bnd_ap, ret_ap, bindR_ok, thenR_ok, dVar_ap, varR_ok, seqR_nx, seqR_rt, asgR_ok, gNm_ap, gCn_ap, gcnR_ok, gNl_ap, gTp_fr, gTp_ap, gLs_ap, dCons_ap, dNil_ap, asB_ap, dOr_ap, dAnd_ap, dNot_ap, dAndV_ap, dOrV_ap, dNotV_ap, dIf_ap, oAdd_int, oSub_int, oLt_int, oLe_int, oGt_int, oGe_int, oNeg_int, oEq_int, oNe_int, oEq_fr, oNe_fr, oEq_bl, oNe_bl, oTup_ap, oLst_ap, oCall_ap, oAbs_ap, oMax_ap, oMin_ap, oToInt_b, oToInt_i, oLen_lst, oLen_scr, oLen_tup, oIx_lst, oIx_scr, oAdd_lst, oIx_tup, oIx_fr0, oIx_fr1, ixR_ok, oItL_ap, oItT_ap, sFor_ap, startD, List.map_cons, List.map_nil, List.length_cons, List.length_nil, List.replicate_succ, List.replicate_zero, List.cons_append, List.nil_append, List.append_nil, List.getElem?_cons_zero, List.getElem?_cons_succ, List.set_cons_zero, List.set_cons_succ, Nat.reduceAdd, Nat.reduceSub, Nat.sub_self, Nat.reduceLeDiff, List.all_cons, List.all_nil, np_fr, np_int, np_bl, np_tup, np_lst, np_str, np_non, Bool.and_self, Bool.and_true, if_true_, if_false_, zero_add', if_tt, if_ff, decide_true, decide_false, Nat.le_refl, oItS_lst, oItS_tup, oTupOf_lst, oTupOf_tup, oLstOf_lst, oLstOf_tup, oRv_lst, oRv_tup, oAdd_tup, dChain_ap, asTru_bl, asTru_tup, asTru_lst, oIsN_ap, oNotN_ap, asI_ap, oSl_tup, oSl_lst, oZip_tup, oZip_lst, oAddI_ap, oEqS_ap, oNeS_ap, oNe_nil, oIsi_tup (na_np h), ht', e0, Bool.not_false]
theorem ps_ex {d : D} (h : isPs d = true) : ∃ a, d = frQ a ∧ 0 < a := by
  unfold isPs at h
  rw [Bool.and_eq_true] at h
  obtain ⟨a, rfl⟩ := isF_ex h.1
  refine ⟨a, rfl, ?_⟩
  have : isPs (frQ a) = true := by unfold isPs; rw [h.1, h.2]; rfl
  rw [isPs_fr, decide_eq_true_eq] at this
  exact num_pos'.mp this
theorem shown01 : (toPy (.tup [.int 0, .int 1])).shown = Str.ofString "(0, 1)" := by decide +kernel
theorem repr01 (ρ : Env) (M : Mem) : oReprD [.tup [.int 0, .int 1]] ρ M = some (.ok (.str (Str.ofString "(0, 1)")), M) := by
  unfold oReprD
  dsimp only
  rw [if_pos ⟨rfl, rfl, rfl, by simp [toPy, toPys, PyData.depth, PyData.depthAll], by rw [shown01]; decide⟩, shown01]
  rfl
theorem eq01 (i j : Int) (ρ : Env) (M : Mem) : oEq (.tup [.int i, .int j]) (.tup [.int 0, .int 1]) ρ M = some (.ok (.bl (decide (i = 0 ∧ j = 1))), M) := by
  unfold oEq
  rw [if_pos ⟨rfl, rfl, rfl, rfl⟩]
  show some (Res.ok (D.bl (PyData.eqv (toPy (.tup [.int i, .int j])) (toPy (.tup [.int 0, .int 1])))), M) = _
  refine congrArg (fun b => some (Res.ok (D.bl b), M)) ?_
  rw [Bool.eq_iff_iff]
  simp -implicitDefEqProofs only [toPy, toPys, PyData.eqv, PyData.eqvAll, Bool.and_true, Bool.and_eq_true, beq_iff_eq, decide_eq_true_eq]
theorem eq01i (i : Int) (ρ : Env) (M : Mem) : oEq (.int i) (.tup [.int 0, .int 1]) ρ M = some (.ok (.bl false), M) := by
  unfold oEq
  rw [if_pos ⟨rfl, rfl, rfl, rfl⟩]
  simp -implicitDefEqProofs only [toPy, toPys, PyData.eqv]
  rfl
section
variable {f : Rat}
theorem lsalt_eq {a : Rat} {s : D} (f0 : 0 < f) (bf : Bd 110 f) (a0 : 0 < a) (ba : Bd 101 a) (ns : Na 101 12 s) (hs : ∃ i j : Int, s = .int i ∨ s = .tup [.int i, .int j]) (M : Mem) : F__law_is_salt [frQ f, frQ a, s] M = some (.ok (.bl (wetD f (frQ a) s)), M) := by
  have fa : 0 < f * a := Rat.mul_pos f0 a0
  have rest : ∀ b, (∀ ρ M, oEq s (.tup [.int 0, .int 1]) ρ M = some (.ok (.bl false), M)) → b = wetD f (frQ a) s → (isPs s = true → ∃ q, s = frQ q ∧ b = decide (q ≤ f * a)) → (isPs s = false → b = false) → F__law_is_salt [frQ f, frQ a, s] M = some (.ok (.bl b), M) := fun b e hb h1 h2 => by
    refine runF_pure ?_ rfl
    have lw := lwater_eq ns
    cases hp : isPs s with
    | true =>
      obtain ⟨q, rfl, hq⟩ := h1 hp
      rw [hp] at lw
      have t1 := ltimes_eq (x := f) (y := a) (bf.mono (by decide)) (ba.mono (by decide))
      have t2 := lunder_eq (x := f * a) (y := q) ((bf.mul ba).mono (by decide)) ((bd_of_na ns).mono (by decide))
      have hq' : b = !decide (f * a < q) := by
        rw [hq]
        by_cases h : f * a < q
        · have : ¬ q ≤ f * a := Rat.not_le.mpr h
          simp [h, this]
        · have : q ≤ f * a := Rat.not_lt.mp h
          simp [h, this]
      rw [hq']
      simp -implicitDefEqProofs only [den__law_is_salt, sSeq_ap, sAsg_ap, sPar_ap, sRet_ap, sIf_ap, sExpr_ap, sNext_ap, bnd_ap, ret_ap, bindR_ok, thenR_ok, dVar_ap, varR_ok, seqR_nx, seqR_rt, asgR_ok, gNm_ap, gCn_ap, gcnR_ok, gNl_ap, gTp_fr, gTp_ap, gLs_ap, dCons_ap, dNil_ap, asB_ap, dOr_ap, dAnd_ap, dNot_ap, dAndV_ap, dOrV_ap, dNotV_ap, dIf_ap, oAdd_int, oSub_int, oLt_int, oLe_int, oGt_int, oGe_int, oNeg_int, oEq_int, oNe_int, oEq_fr, oNe_fr, oEq_bl, oNe_bl, oTup_ap, oLst_ap, oCall_ap, oAbs_ap, oMax_ap, oMin_ap, oToInt_b, oToInt_i, oLen_lst, oLen_scr, oLen_tup, oIx_lst, oIx_scr, oAdd_lst, oIx_tup, oIx_fr0, oIx_fr1, ixR_ok, oItL_ap, oItT_ap, sFor_ap, startD, List.map_cons, List.map_nil, List.length_cons, List.length_nil, List.replicate_succ, List.replicate_zero, List.cons_append, List.nil_append, List.append_nil, List.getElem?_cons_zero, List.getElem?_cons_succ, List.set_cons_zero, List.set_cons_succ, Nat.reduceAdd, Nat.reduceSub, Nat.sub_self, Nat.reduceLeDiff, List.all_cons, List.all_nil, np_fr, np_int, np_bl, np_tup, np_lst, np_str, np_non, Bool.and_self, Bool.and_true, if_true_, if_false_, zero_add', if_tt, if_ff, decide_true, decide_false, Nat.le_refl, oItS_lst, oItS_tup, oTupOf_lst, oTupOf_tup, oLstOf_lst, oLstOf_tup, oRv_lst, oRv_tup, oAdd_tup, dChain_ap, asTru_bl, asTru_tup, asTru_lst, oIsN_ap, oNotN_ap, asI_ap, oSl_tup, oSl_lst, oZip_tup, oZip_lst, oAddI_ap, oEqS_ap, oNeS_ap, oNe_nil, e, lw, t1, t2, Bool.false_eq_true]
    | false =>
      rw [hp] at lw
      rw [h2 hp]
      simp -implicitDefEqProofs only [den__law_is_salt, sSeq_ap, sAsg_ap, sPar_ap, sRet_ap, sIf_ap, sExpr_ap, sNext_ap, bnd_ap, ret_ap, bindR_ok, thenR_ok, dVar_ap, varR_ok, seqR_nx, seqR_rt, asgR_ok, gNm_ap, gCn_ap, gcnR_ok, gNl_ap, gTp_fr, gTp_ap, gLs_ap, dCons_ap, dNil_ap, asB_ap, dOr_ap, dAnd_ap, dNot_ap, dAndV_ap, dOrV_ap, dNotV_ap, dIf_ap, oAdd_int, oSub_int, oLt_int, oLe_int, oGt_int, oGe_int, oNeg_int, oEq_int, oNe_int, oEq_fr, oNe_fr, oEq_bl, oNe_bl, oTup_ap, oLst_ap, oCall_ap, oAbs_ap, oMax_ap, oMin_ap, oToInt_b, oToInt_i, oLen_lst, oLen_scr, oLen_tup, oIx_lst, oIx_scr, oAdd_lst, oIx_tup, oIx_fr0, oIx_fr1, ixR_ok, oItL_ap, oItT_ap, sFor_ap, startD, List.map_cons, List.map_nil, List.length_cons, List.length_nil, List.replicate_succ, List.replicate_zero, List.cons_append, List.nil_append, List.append_nil, List.getElem?_cons_zero, List.getElem?_cons_succ, List.set_cons_zero, List.set_cons_succ, Nat.reduceAdd, Nat.reduceSub, Nat.sub_self, Nat.reduceLeDiff, List.all_cons, List.all_nil, np_fr, np_int, np_bl, np_tup, np_lst, np_str, np_non, Bool.and_self, Bool.and_true, if_true_, if_false_, zero_add', if_tt, if_ff, decide_true, decide_false, Nat.le_refl, oItS_lst, oItS_tup, oTupOf_lst, oTupOf_tup, oLstOf_lst, oLstOf_tup, oRv_lst, oRv_tup, oAdd_tup, dChain_ap, asTru_bl, asTru_tup, asTru_lst, oIsN_ap, oNotN_ap, asI_ap, oSl_tup, oSl_lst, oZip_tup, oZip_lst, oAddI_ap, oEqS_ap, oNeS_ap, oNe_nil, e, lw, Bool.false_eq_true]
  obtain ⟨i, j, h | h⟩ := hs
  · subst h
    rw [wet_no (.inr rfl)]
    exact rest false (fun ρ M => eq01i i ρ M) (wet_no (.inr rfl)).symm (fun h => by cases h) fun _ => rfl
  · subst h
    by_cases z : i = 0 ∧ j = 1
    · obtain ⟨h1, h2⟩ := z
      subst h1; subst h2
      have e : D.tup [.int 0, .int 1] = frQ 0 := rfl
      have w : wetD f (frQ a) (.tup [.int 0, .int 1]) = true := by
        rw [e, wet_fr, decide_eq_true_eq]
        exact ⟨a0, Rat.le_refl, Rat.le_of_lt fa⟩
      rw [w]
      refine runF_pure ?_ rfl
      have e1 : ∀ ρ M, oEq (.tup [.int 0, .int 1]) (.tup [.int 0, .int 1]) ρ M = some (.ok (.bl true), M) := fun ρ M => by rw [eq01]; rfl
      have es := fun ρ M => oEq_strs (a := Str.ofString "(0, 1)") (b := Str.ofString "(0, 1)") (by decide +kernel) (by decide +kernel) ρ M
      simp -implicitDefEqProofs only [den__law_is_salt, sSeq_ap, sAsg_ap, sPar_ap, sRet_ap, sIf_ap, sExpr_ap, sNext_ap, bnd_ap, ret_ap, bindR_ok, thenR_ok, dVar_ap, varR_ok, seqR_nx, seqR_rt, asgR_ok, gNm_ap, gCn_ap, gcnR_ok, gNl_ap, gTp_fr, gTp_ap, gLs_ap, dCons_ap, dNil_ap, asB_ap, dOr_ap, dAnd_ap, dNot_ap, dAndV_ap, dOrV_ap, dNotV_ap, dIf_ap, oAdd_int, oSub_int, oLt_int, oLe_int, oGt_int, oGe_int, oNeg_int, oEq_int, oNe_int, oEq_fr, oNe_fr, oEq_bl, oNe_bl, oTup_ap, oLst_ap, oCall_ap, oAbs_ap, oMax_ap, oMin_ap, oToInt_b, oToInt_i, oLen_lst, oLen_scr, oLen_tup, oIx_lst, oIx_scr, oAdd_lst, oIx_tup, oIx_fr0, oIx_fr1, ixR_ok, oItL_ap, oItT_ap, sFor_ap, startD, List.map_cons, List.map_nil, List.length_cons, List.length_nil, List.replicate_succ, List.replicate_zero, List.cons_append, List.nil_append, List.append_nil, List.getElem?_cons_zero, List.getElem?_cons_succ, List.set_cons_zero, List.set_cons_succ, Nat.reduceAdd, Nat.reduceSub, Nat.sub_self, Nat.reduceLeDiff, List.all_cons, List.all_nil, np_fr, np_int, np_bl, np_tup, np_lst, np_str, np_non, Bool.and_self, Bool.and_true, if_true_, if_false_, zero_add', if_tt, if_ff, decide_true, decide_false, Nat.le_refl, oItS_lst, oItS_tup, oTupOf_lst, oTupOf_tup, oLstOf_lst, oLstOf_tup, oRv_lst, oRv_tup, oAdd_tup, dChain_ap, asTru_bl, asTru_tup, asTru_lst, oIsN_ap, oNotN_ap, asI_ap, oSl_tup, oSl_lst, oZip_tup, oZip_lst, oAddI_ap, oEqS_ap, oNeS_ap, oNe_nil, e1, repr01, es]
    · have e1 := eq01 i j
      rw [decide_eq_false z] at e1
      cases hp : isPs (.tup [.int i, .int j]) with
      | true =>
        obtain ⟨q, hq, q0⟩ := ps_ex hp
        refine rest _ e1 rfl (fun _ => ⟨q, hq, ?_⟩) (fun h => by rw [hp] at h; cases h)
        rw [hq, wet_fr, decide_eq_decide]
        exact ⟨fun h => h.2.2, fun h => ⟨a0, Rat.le_of_lt q0, h⟩⟩
      | false =>
        have w : wetD f (frQ a) (.tup [.int i, .int j]) = false := by
          cases hF : isF (.tup [.int i, .int j]) with
          | false => exact wet_no (.inr hF)
          | true =>
            obtain ⟨q, hq⟩ := isF_ex hF
            rw [hq, wet_fr, decide_eq_false_iff_not]
            rintro ⟨_, q0, _⟩
            rw [hq, isPs_fr, decide_eq_false_iff_not] at hp
            have q1 : ¬ 0 < q := fun h => hp (num_pos'.mpr h)
            have q2 : q = 0 := by grind
            subst q2
            have : (D.tup [.int i, .int j]) = .tup [.int 0, .int 1] := hq
            injection this with this
            injection this with h1 h2
            injection h1 with h1
            injection h2 with h2 _
            injection h2 with h2
            exact z ⟨h1, h2⟩
        rw [w]
        exact rest false e1 w.symm (fun h => by rw [hp] at h; cases h) fun _ => rfl
end
/-! the law's judge of a deed -/
section
variable {f : Rat}
theorem pour_cons {y : D} {r : List D} (h : isWh y = true) : pourD f (y :: r) = (match r with | [w, s] => wetD f w s | _ => false) := by
  match r with
  | [] => rfl
  | [_] => rfl
  | [w, s] => show (isWh y && wetD f w s) = _; rw [h]; rfl
  | _ :: _ :: _ :: _ => rfl
theorem due_nw {z : Str} {r : List D} (h : r = [] ∨ ∃ y r', r = y :: r' ∧ isWh y = false) : dueS f z r = false := by
  have h1 : pourD f r = false ∧ leadD r = false ∧ letD r = false ∧ panD r = false := by
    rcases h with e | ⟨y, r', e, hy⟩
    · subst e; exact ⟨rfl, rfl, rfl, rfl⟩
    · subst e
      refine ⟨?_, ?_, ?_, ?_⟩
      · match r' with
        | [] => rfl
        | [_] => rfl
        | [w, s] => show (isWh y && _) = _; rw [hy]; rfl
        | _ :: _ :: _ :: _ => rfl
      · match r' with
        | [] => rfl
        | [_] => rfl
        | [_, _] => rfl
        | [_, _, _] => rfl
        | [b, w, k, x] => show (isWh y && isWh b && isPs w && wayD k && isBl x) = _; rw [hy]; rfl
        | _ :: _ :: _ :: _ :: _ :: _ => rfl
      · match r' with
        | [] => rfl
        | [w] => show (isWh y && isPs w) = _; rw [hy]; rfl
        | _ :: _ :: _ => rfl
      · match r' with
        | [] => exact hy
        | _ :: _ => rfl
  unfold dueS
  rw [h1.1, h1.2.1, h1.2.2.1, h1.2.2.2]
  split <;> first | rfl | (split <;> first | rfl | (split <;> first | rfl | (split <;> rfl)))
theorem wayE {d : D} (h : El d) (ρ : Env) (M : Mem) : oInE d (.lst [.str (Str.ofString "under"), .str (Str.ofString "over")]) ρ M = some (.ok (.bl (wayD d)), M) := by
  rcases h.sh with e | ⟨hp, hs⟩
  · subst e; rfl
  · have key : ∀ d : D, d.pl = true → SeqAt.shaped (toPy d) = true → (∀ z, d ≠ .str z) → (∀ w : Str, PyData.eqv (toPy (.str w)) (toPy d) = false) → oInD false d (.lst [.str (Str.ofString "under"), .str (Str.ofString "over")]) ρ M = some (.ok (.bl false), M) := fun d hp hs _ he => by
      unfold oInD
      rw [if_pos ⟨hp, rfl, hs, shaped_uo.2⟩]
      simp -implicitDefEqProofs only [any_uo, he]
      rfl
    cases d with
    | str z => exact (way_str (h.st z rfl) ρ M).2
    | emp => rfl
    | int i => exact key _ hp hs (fun _ => by simp) fun w => by simp [toPy, PyData.eqv]
    | bl b => exact key _ hp hs (fun _ => by simp) fun w => by simp [toPy, PyData.eqv]
    | non => exact key _ hp hs (fun _ => by simp) fun w => by simp [toPy, PyData.eqv]
    | tup ds => exact key _ hp hs (fun _ => by simp) fun w => by simp [toPy, PyData.eqv]
    | lst ds => exact key _ hp hs (fun _ => by simp) fun w => by simp [toPy, PyData.eqv]
    | scr ds => exact key _ hp hs (fun _ => by simp) fun w => by simp [toPy, PyData.eqv]
    | _ => cases hp
theorem ok_rake : PyData.strOk wRake = true := by decide +kernel
theorem ok_stir : PyData.strOk wStir = true := by decide +kernel
theorem ok_pour : PyData.strOk wPour = true := by decide +kernel
theorem ok_lead : PyData.strOk wLead = true := by decide +kernel
theorem ok_let : PyData.strOk wLet = true := by decide +kernel
theorem rsE {z : Str} (hz : PyData.strOk z = true) (ρ : Env) (M : Mem) : oInE (.str z) (.lst [.str wRake, .str wStir]) ρ M = some (.ok (.bl (decide (z = wRake ∨ z = wStir))), M) := by
  have sh : SeqAt.shaped (toPy (.lst [.str wRake, .str wStir])) = true := by
    simp [SeqAt.shaped, toPy, toPys, PyData.depth, PyData.depthAll, PyData.canLay0, PyData.canLayAll0, ok_rake, ok_stir]
  have e : ∀ w : Str, decide (w = z) = decide (z = w) := fun w => by rw [decide_eq_decide]; exact eq_comm
  show oInD false (.str z) (.lst [.str wRake, .str wStir]) ρ M = _
  unfold oInD
  rw [if_pos ⟨rfl, rfl, shaped_str hz, sh⟩]
  have : ((toPys [.str wRake, .str wStir]).any fun y => PyData.eqv y (toPy (.str z))) = decide (z = wRake ∨ z = wStir) := by
    have : ((toPys [.str wRake, .str wStir]).any fun y => PyData.eqv y (toPy (.str z))) = (PyData.eqv (toPy (.str wRake)) (toPy (.str z)) || PyData.eqv (toPy (.str wStir)) (toPy (.str z))) := by simp [toPys]
    rw [this, eqv_strs, eqv_strs, e, e, Bool.decide_or]
  dsimp only
  rw [this]
  rfl
theorem c2 (x y : D) (r : List D) : atI (x :: y :: r) 1 = some y := by rw [show (1 : Int) = ((1 : Nat) : Int) from rfl, atI_nat']; rfl
theorem c4_2 (x y w s : D) : atI [x, y, w, s] 2 = some w := rfl
theorem c4_3 (x y w s : D) : atI [x, y, w, s] 3 = some s := rfl
theorem c3_2 (x y w : D) : atI [x, y, w] 2 = some w := rfl
theorem c6_2 (x y a b c d : D) : atI [x, y, a, b, c, d] 2 = some a := rfl
theorem c6_3 (x y a b c d : D) : atI [x, y, a, b, c, d] 3 = some b := rfl
theorem c6_4 (x y a b c d : D) : atI [x, y, a, b, c, d] 4 = some c := rfl
theorem c6_5 (x y a b c d : D) : atI [x, y, a, b, c, d] 5 = some d := rfl
theorem ldue_eq {d : D} (f0 : 0 < f) (bf : Bd 110 f) (h : TOk d) (M : Mem) : F__law_due [frQ f, d] M = some (.ok (.bl (dueB f d)), M) := by
  refine runF_pure ?_ rfl
  have np := h.np
  have it := fun ρ M => oIsi_tup np (fun _ => none) ρ M
  rw [show startD ["full", "thing"] [frQ f, d] = [some (frQ f), some d] from rfl]
  by_cases ht : isT d = true
  · cases d with
    | tup ds =>
      match ds, h with
      | [], h =>
        have e : dueB f (.tup []) = false := rfl
        have ll : ∀ ρ M, oLen [.tup []] ρ M = some (.ok (.int 0), M) := fun _ _ => rfl
        have n : decide ((0 : Int) < 2) = true := rfl
        simp -implicitDefEqProofs only [den__law_due, sSeq_ap, sAsg_ap, sPar_ap, sRet_ap, sIf_ap, sExpr_ap, sNext_ap, bnd_ap, ret_ap, bindR_ok, thenR_ok, dVar_ap, varR_ok, seqR_nx, seqR_rt, asgR_ok, gNm_ap, gCn_ap, gcnR_ok, gNl_ap, gTp_fr, gTp_ap, gLs_ap, dCons_ap, dNil_ap, asB_ap, dOr_ap, dAnd_ap, dNot_ap, dAndV_ap, dOrV_ap, dNotV_ap, dIf_ap, oAdd_int, oSub_int, oLt_int, oLe_int, oGt_int, oGe_int, oNeg_int, oEq_int, oNe_int, oEq_fr, oNe_fr, oEq_bl, oNe_bl, oTup_ap, oLst_ap, oCall_ap, oAbs_ap, oMax_ap, oMin_ap, oToInt_b, oToInt_i, oLen_lst, oLen_scr, oLen_tup, oIx_lst, oIx_scr, oAdd_lst, oIx_tup, oIx_fr0, oIx_fr1, ixR_ok, oItL_ap, oItT_ap, sFor_ap, startD, List.map_cons, List.map_nil, List.length_cons, List.length_nil, List.replicate_succ, List.replicate_zero, List.cons_append, List.nil_append, List.append_nil, List.getElem?_cons_zero, List.getElem?_cons_succ, List.set_cons_zero, List.set_cons_succ, Nat.reduceAdd, Nat.reduceSub, Nat.sub_self, Nat.reduceLeDiff, List.all_cons, List.all_nil, np_fr, np_int, np_bl, np_tup, np_lst, np_str, np_non, Bool.and_self, Bool.and_true, if_true_, if_false_, zero_add', if_tt, if_ff, decide_true, decide_false, Nat.le_refl, oItS_lst, oItS_tup, oTupOf_lst, oTupOf_tup, oLstOf_lst, oLstOf_tup, oRv_lst, oRv_tup, oAdd_tup, dChain_ap, asTru_bl, asTru_tup, asTru_lst, oIsN_ap, oNotN_ap, asI_ap, oSl_tup, oSl_lst, oZip_tup, oZip_lst, oAddI_ap, oEqS_ap, oNeS_ap, oNe_nil, it, isT, ll, n, e, Bool.not_true, Bool.false_eq_true]
      | [x], h =>
        have e : dueB f (.tup [x]) = false := by
          cases x <;> first | rfl | exact due_nw (.inl rfl)
        have ll : ∀ ρ M, oLen [.tup [x]] ρ M = some (.ok (.int 1), M) := fun _ _ => rfl
        have n : decide ((1 : Int) < 2) = true := rfl
        simp -implicitDefEqProofs only [den__law_due, sSeq_ap, sAsg_ap, sPar_ap, sRet_ap, sIf_ap, sExpr_ap, sNext_ap, bnd_ap, ret_ap, bindR_ok, thenR_ok, dVar_ap, varR_ok, seqR_nx, seqR_rt, asgR_ok, gNm_ap, gCn_ap, gcnR_ok, gNl_ap, gTp_fr, gTp_ap, gLs_ap, dCons_ap, dNil_ap, asB_ap, dOr_ap, dAnd_ap, dNot_ap, dAndV_ap, dOrV_ap, dNotV_ap, dIf_ap, oAdd_int, oSub_int, oLt_int, oLe_int, oGt_int, oGe_int, oNeg_int, oEq_int, oNe_int, oEq_fr, oNe_fr, oEq_bl, oNe_bl, oTup_ap, oLst_ap, oCall_ap, oAbs_ap, oMax_ap, oMin_ap, oToInt_b, oToInt_i, oLen_lst, oLen_scr, oLen_tup, oIx_lst, oIx_scr, oAdd_lst, oIx_tup, oIx_fr0, oIx_fr1, ixR_ok, oItL_ap, oItT_ap, sFor_ap, startD, List.map_cons, List.map_nil, List.length_cons, List.length_nil, List.replicate_succ, List.replicate_zero, List.cons_append, List.nil_append, List.append_nil, List.getElem?_cons_zero, List.getElem?_cons_succ, List.set_cons_zero, List.set_cons_succ, Nat.reduceAdd, Nat.reduceSub, Nat.sub_self, Nat.reduceLeDiff, List.all_cons, List.all_nil, np_fr, np_int, np_bl, np_tup, np_lst, np_str, np_non, Bool.and_self, Bool.and_true, if_true_, if_false_, zero_add', if_tt, if_ff, decide_true, decide_false, Nat.le_refl, oItS_lst, oItS_tup, oTupOf_lst, oTupOf_tup, oLstOf_lst, oLstOf_tup, oRv_lst, oRv_tup, oAdd_tup, dChain_ap, asTru_bl, asTru_tup, asTru_lst, oIsN_ap, oNotN_ap, asI_ap, oSl_tup, oSl_lst, oZip_tup, oZip_lst, oAddI_ap, oEqS_ap, oNeS_ap, oNe_nil, it, isT, ll, n, e, Bool.not_true, Bool.false_eq_true]
      | x :: y :: r, h =>
        obtain ⟨hl, hel⟩ := h.el _ rfl
        have hx := (hel x (by simp)).1
        have hy := (hel y (by simp)).1
        have hr : ∀ e ∈ r, El e := fun e he => (hel e (by simp [he])).1
        have st := fun ρ M => oIsi_str (na_np hx.na) (fun _ => none) ρ M
        have wy := lwhole_eq (na_np hy.na)
        have ll : ∀ ρ M, oLen [.tup (x :: y :: r)] ρ M = some (.ok (.int (r.length + 1 + 1)), M) := fun _ _ => rfl
        have n : decide (((r.length : Int) + 1 + 1) < 2) = false := decide_eq_false (by omega)
        have i0 : ∀ ρ M, oIx (.tup (x :: y :: r)) (.int 0) ρ M = some (.ok x, M) := fun ρ M => by rw [oIx_tup, atI_0]; rfl
        have i1 : ∀ ρ M, oIx (.tup (x :: y :: r)) (.int 1) ρ M = some (.ok y, M) := fun ρ M => by rw [oIx_tup, c2]; rfl
        by_cases hs : isS x = true
        · cases x with
          | str z =>
            have hzw := (hel (.str z) (by simp)).2 z rfl
            have okz := hx.st z rfl
            by_cases hwy : isWh y = true
            · have ifs : (sIf (dOr (dNot (bnd (bnd (dVar 1) (oIsi (fun a => kitB a "tuple") (fun _ => none))) asB)) (dOr (bnd (bnd (bnd (dCons (dVar 1) dNil) oLen) fun d => bnd (ret (.int 2)) fun e => oLt d e) asB) (dOr (dNot (bnd (bnd (bnd (dVar 1) fun d => bnd (ret (.int 0)) fun e => oIx d e) (oIsi (fun a => kitB a "str") (fun _ => none))) asB)) (dNot (bnd (bnd (dCons (bnd (dVar 1) fun d => bnd (ret (.int 1)) fun e => oIx d e) dNil) (oCall 1 F__law_whole)) asB))))) (sRet (ret (.bl false))) sNext) [some (frQ f), some (.tup (.str z :: y :: r))] M = some (.nx [some (frQ f), some (.tup (.str z :: y :: r))], M) := by
                simp -implicitDefEqProofs only [sSeq_ap, sAsg_ap, sPar_ap, sRet_ap, sIf_ap, sExpr_ap, sNext_ap, bnd_ap, ret_ap, bindR_ok, thenR_ok, dVar_ap, varR_ok, seqR_nx, seqR_rt, asgR_ok, gNm_ap, gCn_ap, gcnR_ok, gNl_ap, gTp_fr, gTp_ap, gLs_ap, dCons_ap, dNil_ap, asB_ap, dOr_ap, dAnd_ap, dNot_ap, dAndV_ap, dOrV_ap, dNotV_ap, dIf_ap, oAdd_int, oSub_int, oLt_int, oLe_int, oGt_int, oGe_int, oNeg_int, oEq_int, oNe_int, oEq_fr, oNe_fr, oEq_bl, oNe_bl, oTup_ap, oLst_ap, oCall_ap, oAbs_ap, oMax_ap, oMin_ap, oToInt_b, oToInt_i, oLen_lst, oLen_scr, oLen_tup, oIx_lst, oIx_scr, oAdd_lst, oIx_tup, oIx_fr0, oIx_fr1, ixR_ok, oItL_ap, oItT_ap, sFor_ap, startD, List.map_cons, List.map_nil, List.length_cons, List.length_nil, List.replicate_succ, List.replicate_zero, List.cons_append, List.nil_append, List.append_nil, List.getElem?_cons_zero, List.getElem?_cons_succ, List.set_cons_zero, List.set_cons_succ, Nat.reduceAdd, Nat.reduceSub, Nat.sub_self, Nat.reduceLeDiff, List.all_cons, List.all_nil, np_fr, np_int, np_bl, np_tup, np_lst, np_str, np_non, Bool.and_self, Bool.and_true, if_true_, if_false_, zero_add', if_tt, if_ff, decide_true, decide_false, Nat.le_refl, oItS_lst, oItS_tup, oTupOf_lst, oTupOf_tup, oLstOf_lst, oLstOf_tup, oRv_lst, oRv_tup, oAdd_tup, dChain_ap, asTru_bl, asTru_tup, asTru_lst, oIsN_ap, oNotN_ap, asI_ap, oSl_tup, oSl_lst, oZip_tup, oZip_lst, oAddI_ap, oEqS_ap, oNeS_ap, oNe_nil, it, isT, ll, n, i0, i1, st, isS, wy, hwy, Bool.not_true, Bool.false_eq_true]
              have e1 := fun ρ M => oEq_strs okz ok_pour ρ M
              have e2 := fun ρ M => oEq_strs okz ok_let ρ M
              have e3 := fun ρ M => oEq_strs okz ok_lead ρ M
              have ne := words_ne
              have db : dueB f (.tup (.str z :: y :: r)) = dueS f z (y :: r) := rfl
              rw [db]
              unfold den__law_due
              rw [seq_step ifs]
              by_cases h1 : z = wPour
              · subst h1
                have d1 : dueS f wPour (y :: r) = pourD f (y :: r) := if_pos rfl
                rw [d1, pour_cons hwy]
                match r, hr, h, hl, hel, it, ll, n, i0, i1, ifs, d1, db with
                | [], _, _, _, _, it, ll, n, i0, i1, _, _, _ =>
                  have ll : ∀ ρ M, oLen [.tup [.str wPour, y]] ρ M = some (.ok (.int 2), M) := fun _ _ => rfl
                  have n4 : decide ((2 : Int) = 4) = false := rfl
                  simp -implicitDefEqProofs only [sSeq_ap, sAsg_ap, sPar_ap, sRet_ap, sIf_ap, sExpr_ap, sNext_ap, bnd_ap, ret_ap, bindR_ok, thenR_ok, dVar_ap, varR_ok, seqR_nx, seqR_rt, asgR_ok, gNm_ap, gCn_ap, gcnR_ok, gNl_ap, gTp_fr, gTp_ap, gLs_ap, dCons_ap, dNil_ap, asB_ap, dOr_ap, dAnd_ap, dNot_ap, dAndV_ap, dOrV_ap, dNotV_ap, dIf_ap, oAdd_int, oSub_int, oLt_int, oLe_int, oGt_int, oGe_int, oNeg_int, oEq_int, oNe_int, oEq_fr, oNe_fr, oEq_bl, oNe_bl, oTup_ap, oLst_ap, oCall_ap, oAbs_ap, oMax_ap, oMin_ap, oToInt_b, oToInt_i, oLen_lst, oLen_scr, oLen_tup, oIx_lst, oIx_scr, oAdd_lst, oIx_tup, oIx_fr0, oIx_fr1, ixR_ok, oItL_ap, oItT_ap, sFor_ap, startD, List.map_cons, List.map_nil, List.length_cons, List.length_nil, List.replicate_succ, List.replicate_zero, List.cons_append, List.nil_append, List.append_nil, List.getElem?_cons_zero, List.getElem?_cons_succ, List.set_cons_zero, List.set_cons_succ, Nat.reduceAdd, Nat.reduceSub, Nat.sub_self, Nat.reduceLeDiff, List.all_cons, List.all_nil, np_fr, np_int, np_bl, np_tup, np_lst, np_str, np_non, Bool.and_self, Bool.and_true, if_true_, if_false_, zero_add', if_tt, if_ff, decide_true, decide_false, Nat.le_refl, oItS_lst, oItS_tup, oTupOf_lst, oTupOf_tup, oLstOf_lst, oLstOf_tup, oRv_lst, oRv_tup, oAdd_tup, dChain_ap, asTru_bl, asTru_tup, asTru_lst, oIsN_ap, oNotN_ap, asI_ap, oSl_tup, oSl_lst, oZip_tup, oZip_lst, oAddI_ap, oEqS_ap, oNeS_ap, oNe_nil, i0, e1, ll, n4, Bool.false_eq_true]
                | [w], _, _, _, _, it, ll, n, i0, i1, _, _, _ =>
                  have ll : ∀ ρ M, oLen [.tup [.str wPour, y, w]] ρ M = some (.ok (.int 3), M) := fun _ _ => rfl
                  have n4 : decide ((3 : Int) = 4) = false := rfl
                  simp -implicitDefEqProofs only [sSeq_ap, sAsg_ap, sPar_ap, sRet_ap, sIf_ap, sExpr_ap, sNext_ap, bnd_ap, ret_ap, bindR_ok, thenR_ok, dVar_ap, varR_ok, seqR_nx, seqR_rt, asgR_ok, gNm_ap, gCn_ap, gcnR_ok, gNl_ap, gTp_fr, gTp_ap, gLs_ap, dCons_ap, dNil_ap, asB_ap, dOr_ap, dAnd_ap, dNot_ap, dAndV_ap, dOrV_ap, dNotV_ap, dIf_ap, oAdd_int, oSub_int, oLt_int, oLe_int, oGt_int, oGe_int, oNeg_int, oEq_int, oNe_int, oEq_fr, oNe_fr, oEq_bl, oNe_bl, oTup_ap, oLst_ap, oCall_ap, oAbs_ap, oMax_ap, oMin_ap, oToInt_b, oToInt_i, oLen_lst, oLen_scr, oLen_tup, oIx_lst, oIx_scr, oAdd_lst, oIx_tup, oIx_fr0, oIx_fr1, ixR_ok, oItL_ap, oItT_ap, sFor_ap, startD, List.map_cons, List.map_nil, List.length_cons, List.length_nil, List.replicate_succ, List.replicate_zero, List.cons_append, List.nil_append, List.append_nil, List.getElem?_cons_zero, List.getElem?_cons_succ, List.set_cons_zero, List.set_cons_succ, Nat.reduceAdd, Nat.reduceSub, Nat.sub_self, Nat.reduceLeDiff, List.all_cons, List.all_nil, np_fr, np_int, np_bl, np_tup, np_lst, np_str, np_non, Bool.and_self, Bool.and_true, if_true_, if_false_, zero_add', if_tt, if_ff, decide_true, decide_false, Nat.le_refl, oItS_lst, oItS_tup, oTupOf_lst, oTupOf_tup, oLstOf_lst, oLstOf_tup, oRv_lst, oRv_tup, oAdd_tup, dChain_ap, asTru_bl, asTru_tup, asTru_lst, oIsN_ap, oNotN_ap, asI_ap, oSl_tup, oSl_lst, oZip_tup, oZip_lst, oAddI_ap, oEqS_ap, oNeS_ap, oNe_nil, i0, e1, ll, n4, Bool.false_eq_true]
                | [w, s], hr, h, _, _, it, ll, n, i0, i1, _, _, _ =>
                  have ll : ∀ ρ M, oLen [.tup [.str wPour, y, w, s]] ρ M = some (.ok (.int 4), M) := fun _ _ => rfl
                  have n4 : decide ((4 : Int) = 4) = true := rfl
                  have lw := lwater_eq (hr w (by simp)).na
                  dsimp only
                  cases hp : isPs w with
                  | true =>
                    obtain ⟨a, rfl, a0⟩ := ps_ex hp
                    rw [hp] at lw
                    have ls := lsalt_eq f0 bf a0 (bd_of_na (hr _ (by simp)).na) (hr s (by simp)).na (h.sal y (frQ a) s rfl)
                    simp -implicitDefEqProofs only [sSeq_ap, sAsg_ap, sPar_ap, sRet_ap, sIf_ap, sExpr_ap, sNext_ap, bnd_ap, ret_ap, bindR_ok, thenR_ok, dVar_ap, varR_ok, seqR_nx, seqR_rt, asgR_ok, gNm_ap, gCn_ap, gcnR_ok, gNl_ap, gTp_fr, gTp_ap, gLs_ap, dCons_ap, dNil_ap, asB_ap, dOr_ap, dAnd_ap, dNot_ap, dAndV_ap, dOrV_ap, dNotV_ap, dIf_ap, oAdd_int, oSub_int, oLt_int, oLe_int, oGt_int, oGe_int, oNeg_int, oEq_int, oNe_int, oEq_fr, oNe_fr, oEq_bl, oNe_bl, oTup_ap, oLst_ap, oCall_ap, oAbs_ap, oMax_ap, oMin_ap, oToInt_b, oToInt_i, oLen_lst, oLen_scr, oLen_tup, oIx_lst, oIx_scr, oAdd_lst, oIx_tup, oIx_fr0, oIx_fr1, ixR_ok, oItL_ap, oItT_ap, sFor_ap, startD, List.map_cons, List.map_nil, List.length_cons, List.length_nil, List.replicate_succ, List.replicate_zero, List.cons_append, List.nil_append, List.append_nil, List.getElem?_cons_zero, List.getElem?_cons_succ, List.set_cons_zero, List.set_cons_succ, Nat.reduceAdd, Nat.reduceSub, Nat.sub_self, Nat.reduceLeDiff, List.all_cons, List.all_nil, np_fr, np_int, np_bl, np_tup, np_lst, np_str, np_non, Bool.and_self, Bool.and_true, if_true_, if_false_, zero_add', if_tt, if_ff, decide_true, decide_false, Nat.le_refl, oItS_lst, oItS_tup, oTupOf_lst, oTupOf_tup, oLstOf_lst, oLstOf_tup, oRv_lst, oRv_tup, oAdd_tup, dChain_ap, asTru_bl, asTru_tup, asTru_lst, oIsN_ap, oNotN_ap, asI_ap, oSl_tup, oSl_lst, oZip_tup, oZip_lst, oAddI_ap, oEqS_ap, oNeS_ap, oNe_nil, i0, e1, ll, n4, c4_2, c4_3, lw, ls]
                  | false =>
                    rw [hp] at lw
                    have w0 : wetD f w s = false := by
                      cases hF : isF w with
                      | false => exact wet_no (.inl hF)
                      | true =>
                        obtain ⟨a, rfl⟩ := isF_ex hF
                        cases hS : isF s with
                        | false => exact wet_no (.inr hS)
                        | true =>
                          obtain ⟨b, rfl⟩ := isF_ex hS
                          rw [wet_fr, decide_eq_false_iff_not]
                          rintro ⟨a0, _⟩
                          rw [isPs_fr, decide_eq_false_iff_not] at hp
                          exact hp (num_pos'.mpr a0)
                    rw [w0]
                    simp -implicitDefEqProofs only [sSeq_ap, sAsg_ap, sPar_ap, sRet_ap, sIf_ap, sExpr_ap, sNext_ap, bnd_ap, ret_ap, bindR_ok, thenR_ok, dVar_ap, varR_ok, seqR_nx, seqR_rt, asgR_ok, gNm_ap, gCn_ap, gcnR_ok, gNl_ap, gTp_fr, gTp_ap, gLs_ap, dCons_ap, dNil_ap, asB_ap, dOr_ap, dAnd_ap, dNot_ap, dAndV_ap, dOrV_ap, dNotV_ap, dIf_ap, oAdd_int, oSub_int, oLt_int, oLe_int, oGt_int, oGe_int, oNeg_int, oEq_int, oNe_int, oEq_fr, oNe_fr, oEq_bl, oNe_bl, oTup_ap, oLst_ap, oCall_ap, oAbs_ap, oMax_ap, oMin_ap, oToInt_b, oToInt_i, oLen_lst, oLen_scr, oLen_tup, oIx_lst, oIx_scr, oAdd_lst, oIx_tup, oIx_fr0, oIx_fr1, ixR_ok, oItL_ap, oItT_ap, sFor_ap, startD, List.map_cons, List.map_nil, List.length_cons, List.length_nil, List.replicate_succ, List.replicate_zero, List.cons_append, List.nil_append, List.append_nil, List.getElem?_cons_zero, List.getElem?_cons_succ, List.set_cons_zero, List.set_cons_succ, Nat.reduceAdd, Nat.reduceSub, Nat.sub_self, Nat.reduceLeDiff, List.all_cons, List.all_nil, np_fr, np_int, np_bl, np_tup, np_lst, np_str, np_non, Bool.and_self, Bool.and_true, if_true_, if_false_, zero_add', if_tt, if_ff, decide_true, decide_false, Nat.le_refl, oItS_lst, oItS_tup, oTupOf_lst, oTupOf_tup, oLstOf_lst, oLstOf_tup, oRv_lst, oRv_tup, oAdd_tup, dChain_ap, asTru_bl, asTru_tup, asTru_lst, oIsN_ap, oNotN_ap, asI_ap, oSl_tup, oSl_lst, oZip_tup, oZip_lst, oAddI_ap, oEqS_ap, oNeS_ap, oNe_nil, i0, e1, ll, n4, c4_2, lw, Bool.false_eq_true]
                | a :: b :: c :: r', _, _, _, _, it, ll, n, i0, i1, _, _, _ =>
                  have n4 : decide ((((a :: b :: c :: r').length : Int) + 1 + 1) = 4) = false := decide_eq_false (by simp -implicitDefEqProofs only [List.length_cons]; omega)
                  have ll' : ∀ ρ M, oLen [.tup (.str wPour :: y :: a :: b :: c :: r')] ρ M = some (.ok (.int (((a :: b :: c :: r').length : Int) + 1 + 1)), M) := fun _ _ => rfl
                  generalize ((a :: b :: c :: r').length : Int) + 1 + 1 = q at *
                  simp -implicitDefEqProofs only [sSeq_ap, sAsg_ap, sPar_ap, sRet_ap, sIf_ap, sExpr_ap, sNext_ap, bnd_ap, ret_ap, bindR_ok, thenR_ok, dVar_ap, varR_ok, seqR_nx, seqR_rt, asgR_ok, gNm_ap, gCn_ap, gcnR_ok, gNl_ap, gTp_fr, gTp_ap, gLs_ap, dCons_ap, dNil_ap, asB_ap, dOr_ap, dAnd_ap, dNot_ap, dAndV_ap, dOrV_ap, dNotV_ap, dIf_ap, oAdd_int, oSub_int, oLt_int, oLe_int, oGt_int, oGe_int, oNeg_int, oEq_int, oNe_int, oEq_fr, oNe_fr, oEq_bl, oNe_bl, oTup_ap, oLst_ap, oCall_ap, oAbs_ap, oMax_ap, oMin_ap, oToInt_b, oToInt_i, oLen_lst, oLen_scr, oLen_tup, oIx_lst, oIx_scr, oAdd_lst, oIx_tup, oIx_fr0, oIx_fr1, ixR_ok, oItL_ap, oItT_ap, sFor_ap, startD, List.map_cons, List.map_nil, List.length_cons, List.length_nil, List.replicate_succ, List.replicate_zero, List.cons_append, List.nil_append, List.append_nil, List.getElem?_cons_zero, List.getElem?_cons_succ, List.set_cons_zero, List.set_cons_succ, Nat.reduceAdd, Nat.reduceSub, Nat.sub_self, Nat.reduceLeDiff, List.all_cons, List.all_nil, np_fr, np_int, np_bl, np_tup, np_lst, np_str, np_non, Bool.and_self, Bool.and_true, if_true_, if_false_, zero_add', if_tt, if_ff, decide_true, decide_false, Nat.le_refl, oItS_lst, oItS_tup, oTupOf_lst, oTupOf_tup, oLstOf_lst, oLstOf_tup, oRv_lst, oRv_tup, oAdd_tup, dChain_ap, asTru_bl, asTru_tup, asTru_lst, oIsN_ap, oNotN_ap, asI_ap, oSl_tup, oSl_lst, oZip_tup, oZip_lst, oAddI_ap, oEqS_ap, oNeS_ap, oNe_nil, i0, e1, ll', n4, Bool.false_eq_true]
              · by_cases h2 : z = wLet
                · subst h2
                  have d1 : dueS f wLet (y :: r) = letD (y :: r) := by unfold dueS; rw [if_neg ne.2.1, if_neg ne.2.2.1, if_pos rfl]
                  rw [d1]
                  have h1' := decide_eq_false h1
                  by_cases hl3 : r.length = 1
                  · match r, hl3, hr, i0 with
                    | [w], _, hr, i0 =>
                      have ll : ∀ ρ M, oLen [.tup [.str wLet, y, w]] ρ M = some (.ok (.int 3), M) := fun _ _ => rfl
                      have n4 : decide ((3 : Int) = 3) = true := rfl
                      have lw := lwater_eq (hr w (by simp)).na
                      have ld : letD [y, w] = isPs w := by show (isWh y && isPs w) = _; rw [hwy]; rfl
                      simp -implicitDefEqProofs only [sSeq_ap, sAsg_ap, sPar_ap, sRet_ap, sIf_ap, sExpr_ap, sNext_ap, bnd_ap, ret_ap, bindR_ok, thenR_ok, dVar_ap, varR_ok, seqR_nx, seqR_rt, asgR_ok, gNm_ap, gCn_ap, gcnR_ok, gNl_ap, gTp_fr, gTp_ap, gLs_ap, dCons_ap, dNil_ap, asB_ap, dOr_ap, dAnd_ap, dNot_ap, dAndV_ap, dOrV_ap, dNotV_ap, dIf_ap, oAdd_int, oSub_int, oLt_int, oLe_int, oGt_int, oGe_int, oNeg_int, oEq_int, oNe_int, oEq_fr, oNe_fr, oEq_bl, oNe_bl, oTup_ap, oLst_ap, oCall_ap, oAbs_ap, oMax_ap, oMin_ap, oToInt_b, oToInt_i, oLen_lst, oLen_scr, oLen_tup, oIx_lst, oIx_scr, oAdd_lst, oIx_tup, oIx_fr0, oIx_fr1, ixR_ok, oItL_ap, oItT_ap, sFor_ap, startD, List.map_cons, List.map_nil, List.length_cons, List.length_nil, List.replicate_succ, List.replicate_zero, List.cons_append, List.nil_append, List.append_nil, List.getElem?_cons_zero, List.getElem?_cons_succ, List.set_cons_zero, List.set_cons_succ, Nat.reduceAdd, Nat.reduceSub, Nat.sub_self, Nat.reduceLeDiff, List.all_cons, List.all_nil, np_fr, np_int, np_bl, np_tup, np_lst, np_str, np_non, Bool.and_self, Bool.and_true, if_true_, if_false_, zero_add', if_tt, if_ff, decide_true, decide_false, Nat.le_refl, oItS_lst, oItS_tup, oTupOf_lst, oTupOf_tup, oLstOf_lst, oLstOf_tup, oRv_lst, oRv_tup, oAdd_tup, dChain_ap, asTru_bl, asTru_tup, asTru_lst, oIsN_ap, oNotN_ap, asI_ap, oSl_tup, oSl_lst, oZip_tup, oZip_lst, oAddI_ap, oEqS_ap, oNeS_ap, oNe_nil, i0, e1, h1', e2, ll, n4, c3_2, lw, ld, Bool.false_eq_true]
                  · have ld : letD (y :: r) = false := by
                      match r, hl3 with
                      | [], _ => rfl
                      | [_], h => exact absurd rfl h
                      | _ :: _ :: _, _ => rfl
                    have n4 : decide (((r.length : Int) + 1 + 1) = 3) = false := decide_eq_false (by omega)
                    simp -implicitDefEqProofs only [sSeq_ap, sAsg_ap, sPar_ap, sRet_ap, sIf_ap, sExpr_ap, sNext_ap, bnd_ap, ret_ap, bindR_ok, thenR_ok, dVar_ap, varR_ok, seqR_nx, seqR_rt, asgR_ok, gNm_ap, gCn_ap, gcnR_ok, gNl_ap, gTp_fr, gTp_ap, gLs_ap, dCons_ap, dNil_ap, asB_ap, dOr_ap, dAnd_ap, dNot_ap, dAndV_ap, dOrV_ap, dNotV_ap, dIf_ap, oAdd_int, oSub_int, oLt_int, oLe_int, oGt_int, oGe_int, oNeg_int, oEq_int, oNe_int, oEq_fr, oNe_fr, oEq_bl, oNe_bl, oTup_ap, oLst_ap, oCall_ap, oAbs_ap, oMax_ap, oMin_ap, oToInt_b, oToInt_i, oLen_lst, oLen_scr, oLen_tup, oIx_lst, oIx_scr, oAdd_lst, oIx_tup, oIx_fr0, oIx_fr1, ixR_ok, oItL_ap, oItT_ap, sFor_ap, startD, List.map_cons, List.map_nil, List.length_cons, List.length_nil, List.replicate_succ, List.replicate_zero, List.cons_append, List.nil_append, List.append_nil, List.getElem?_cons_zero, List.getElem?_cons_succ, List.set_cons_zero, List.set_cons_succ, Nat.reduceAdd, Nat.reduceSub, Nat.sub_self, Nat.reduceLeDiff, List.all_cons, List.all_nil, np_fr, np_int, np_bl, np_tup, np_lst, np_str, np_non, Bool.and_self, Bool.and_true, if_true_, if_false_, zero_add', if_tt, if_ff, decide_true, decide_false, Nat.le_refl, oItS_lst, oItS_tup, oTupOf_lst, oTupOf_tup, oLstOf_lst, oLstOf_tup, oRv_lst, oRv_tup, oAdd_tup, dChain_ap, asTru_bl, asTru_tup, asTru_lst, oIsN_ap, oNotN_ap, asI_ap, oSl_tup, oSl_lst, oZip_tup, oZip_lst, oAddI_ap, oEqS_ap, oNeS_ap, oNe_nil, i0, e1, h1', e2, ll, n4, ld, Bool.false_eq_true]
                · by_cases h3 : z = wLead
                  · subst h3
                    have d1 : dueS f wLead (y :: r) = leadD (y :: r) := by unfold dueS; rw [if_neg ne.1, if_pos rfl]
                    rw [d1]
                    have h1' := decide_eq_false h1
                    have h2' := decide_eq_false h2
                    by_cases hl3 : r.length = 4
                    · match r, hl3, hr, i0 with
                      | [b, w, k, x], _, hr, i0 =>
                        have ll : ∀ ρ M, oLen [.tup [.str wLead, y, b, w, k, x]] ρ M = some (.ok (.int 6), M) := fun _ _ => rfl
                        have n4 : decide ((6 : Int) = 6) = true := rfl
                        have wb := lwhole_eq (na_np (hr b (by simp)).na)
                        have lw := lwater_eq (hr w (by simp)).na
                        have lk := wayE (hr k (by simp))
                        have lx := fun ρ M => oIsi_bool (na_np (hr x (by simp)).na) (fun _ => none) ρ M
                        have ld : leadD [y, b, w, k, x] = (isWh b && isPs w && wayD k && isBl x) := by show (isWh y && isWh b && isPs w && wayD k && isBl x) = _; rw [hwy, Bool.true_and]
                        rw [ld]
                        cases hb : isWh b <;> rw [hb] at wb
                        · simp -implicitDefEqProofs only [sSeq_ap, sAsg_ap, sPar_ap, sRet_ap, sIf_ap, sExpr_ap, sNext_ap, bnd_ap, ret_ap, bindR_ok, thenR_ok, dVar_ap, varR_ok, seqR_nx, seqR_rt, asgR_ok, gNm_ap, gCn_ap, gcnR_ok, gNl_ap, gTp_fr, gTp_ap, gLs_ap, dCons_ap, dNil_ap, asB_ap, dOr_ap, dAnd_ap, dNot_ap, dAndV_ap, dOrV_ap, dNotV_ap, dIf_ap, oAdd_int, oSub_int, oLt_int, oLe_int, oGt_int, oGe_int, oNeg_int, oEq_int, oNe_int, oEq_fr, oNe_fr, oEq_bl, oNe_bl, oTup_ap, oLst_ap, oCall_ap, oAbs_ap, oMax_ap, oMin_ap, oToInt_b, oToInt_i, oLen_lst, oLen_scr, oLen_tup, oIx_lst, oIx_scr, oAdd_lst, oIx_tup, oIx_fr0, oIx_fr1, ixR_ok, oItL_ap, oItT_ap, sFor_ap, startD, List.map_cons, List.map_nil, List.length_cons, List.length_nil, List.replicate_succ, List.replicate_zero, List.cons_append, List.nil_append, List.append_nil, List.getElem?_cons_zero, List.getElem?_cons_succ, List.set_cons_zero, List.set_cons_succ, Nat.reduceAdd, Nat.reduceSub, Nat.sub_self, Nat.reduceLeDiff, List.all_cons, List.all_nil, np_fr, np_int, np_bl, np_tup, np_lst, np_str, np_non, Bool.and_self, Bool.and_true, if_true_, if_false_, zero_add', if_tt, if_ff, decide_true, decide_false, Nat.le_refl, oItS_lst, oItS_tup, oTupOf_lst, oTupOf_tup, oLstOf_lst, oLstOf_tup, oRv_lst, oRv_tup, oAdd_tup, dChain_ap, asTru_bl, asTru_tup, asTru_lst, oIsN_ap, oNotN_ap, asI_ap, oSl_tup, oSl_lst, oZip_tup, oZip_lst, oAddI_ap, oEqS_ap, oNeS_ap, oNe_nil, i0, e1, h1', e2, h2', e3, ll, n4, c6_2, wb, Bool.not_true, Bool.not_false, Bool.false_and, Bool.false_eq_true]
                        · cases hw : isPs w <;> rw [hw] at lw
                          · simp -implicitDefEqProofs only [sSeq_ap, sAsg_ap, sPar_ap, sRet_ap, sIf_ap, sExpr_ap, sNext_ap, bnd_ap, ret_ap, bindR_ok, thenR_ok, dVar_ap, varR_ok, seqR_nx, seqR_rt, asgR_ok, gNm_ap, gCn_ap, gcnR_ok, gNl_ap, gTp_fr, gTp_ap, gLs_ap, dCons_ap, dNil_ap, asB_ap, dOr_ap, dAnd_ap, dNot_ap, dAndV_ap, dOrV_ap, dNotV_ap, dIf_ap, oAdd_int, oSub_int, oLt_int, oLe_int, oGt_int, oGe_int, oNeg_int, oEq_int, oNe_int, oEq_fr, oNe_fr, oEq_bl, oNe_bl, oTup_ap, oLst_ap, oCall_ap, oAbs_ap, oMax_ap, oMin_ap, oToInt_b, oToInt_i, oLen_lst, oLen_scr, oLen_tup, oIx_lst, oIx_scr, oAdd_lst, oIx_tup, oIx_fr0, oIx_fr1, ixR_ok, oItL_ap, oItT_ap, sFor_ap, startD, List.map_cons, List.map_nil, List.length_cons, List.length_nil, List.replicate_succ, List.replicate_zero, List.cons_append, List.nil_append, List.append_nil, List.getElem?_cons_zero, List.getElem?_cons_succ, List.set_cons_zero, List.set_cons_succ, Nat.reduceAdd, Nat.reduceSub, Nat.sub_self, Nat.reduceLeDiff, List.all_cons, List.all_nil, np_fr, np_int, np_bl, np_tup, np_lst, np_str, np_non, Bool.and_self, Bool.and_true, if_true_, if_false_, zero_add', if_tt, if_ff, decide_true, decide_false, Nat.le_refl, oItS_lst, oItS_tup, oTupOf_lst, oTupOf_tup, oLstOf_lst, oLstOf_tup, oRv_lst, oRv_tup, oAdd_tup, dChain_ap, asTru_bl, asTru_tup, asTru_lst, oIsN_ap, oNotN_ap, asI_ap, oSl_tup, oSl_lst, oZip_tup, oZip_lst, oAddI_ap, oEqS_ap, oNeS_ap, oNe_nil, i0, e1, h1', e2, h2', e3, ll, n4, c6_2, c6_3, wb, lw, Bool.not_true, Bool.not_false, Bool.false_and, Bool.and_false, Bool.false_eq_true]
                          · cases hk : wayD k <;> rw [hk] at lk <;> simp -implicitDefEqProofs only [sSeq_ap, sAsg_ap, sPar_ap, sRet_ap, sIf_ap, sExpr_ap, sNext_ap, bnd_ap, ret_ap, bindR_ok, thenR_ok, dVar_ap, varR_ok, seqR_nx, seqR_rt, asgR_ok, gNm_ap, gCn_ap, gcnR_ok, gNl_ap, gTp_fr, gTp_ap, gLs_ap, dCons_ap, dNil_ap, asB_ap, dOr_ap, dAnd_ap, dNot_ap, dAndV_ap, dOrV_ap, dNotV_ap, dIf_ap, oAdd_int, oSub_int, oLt_int, oLe_int, oGt_int, oGe_int, oNeg_int, oEq_int, oNe_int, oEq_fr, oNe_fr, oEq_bl, oNe_bl, oTup_ap, oLst_ap, oCall_ap, oAbs_ap, oMax_ap, oMin_ap, oToInt_b, oToInt_i, oLen_lst, oLen_scr, oLen_tup, oIx_lst, oIx_scr, oAdd_lst, oIx_tup, oIx_fr0, oIx_fr1, ixR_ok, oItL_ap, oItT_ap, sFor_ap, startD, List.map_cons, List.map_nil, List.length_cons, List.length_nil, List.replicate_succ, List.replicate_zero, List.cons_append, List.nil_append, List.append_nil, List.getElem?_cons_zero, List.getElem?_cons_succ, List.set_cons_zero, List.set_cons_succ, Nat.reduceAdd, Nat.reduceSub, Nat.sub_self, Nat.reduceLeDiff, List.all_cons, List.all_nil, np_fr, np_int, np_bl, np_tup, np_lst, np_str, np_non, Bool.and_self, Bool.and_true, if_true_, if_false_, zero_add', if_tt, if_ff, decide_true, decide_false, Nat.le_refl, oItS_lst, oItS_tup, oTupOf_lst, oTupOf_tup, oLstOf_lst, oLstOf_tup, oRv_lst, oRv_tup, oAdd_tup, dChain_ap, asTru_bl, asTru_tup, asTru_lst, oIsN_ap, oNotN_ap, asI_ap, oSl_tup, oSl_lst, oZip_tup, oZip_lst, oAddI_ap, oEqS_ap, oNeS_ap, oNe_nil, i0, e1, h1', e2, h2', e3, ll, n4, c6_2, c6_3, c6_4, c6_5, wb, lw, lk, lx, Bool.not_true, Bool.true_and, Bool.and_true, Bool.false_and, Bool.and_false, Bool.false_eq_true]
                    · have ld : leadD (y :: r) = false := by
                        match r, hl3 with
                        | [], _ => rfl
                        | [_], _ => rfl
                        | [_, _], _ => rfl
                        | [_, _, _], _ => rfl
                        | [_, _, _, _], h => exact absurd rfl h
                        | _ :: _ :: _ :: _ :: _ :: _, _ => rfl
                      have n4 : decide (((r.length : Int) + 1 + 1) = 6) = false := decide_eq_false (by omega)
                      simp -implicitDefEqProofs only [sSeq_ap, sAsg_ap, sPar_ap, sRet_ap, sIf_ap, sExpr_ap, sNext_ap, bnd_ap, ret_ap, bindR_ok, thenR_ok, dVar_ap, varR_ok, seqR_nx, seqR_rt, asgR_ok, gNm_ap, gCn_ap, gcnR_ok, gNl_ap, gTp_fr, gTp_ap, gLs_ap, dCons_ap, dNil_ap, asB_ap, dOr_ap, dAnd_ap, dNot_ap, dAndV_ap, dOrV_ap, dNotV_ap, dIf_ap, oAdd_int, oSub_int, oLt_int, oLe_int, oGt_int, oGe_int, oNeg_int, oEq_int, oNe_int, oEq_fr, oNe_fr, oEq_bl, oNe_bl, oTup_ap, oLst_ap, oCall_ap, oAbs_ap, oMax_ap, oMin_ap, oToInt_b, oToInt_i, oLen_lst, oLen_scr, oLen_tup, oIx_lst, oIx_scr, oAdd_lst, oIx_tup, oIx_fr0, oIx_fr1, ixR_ok, oItL_ap, oItT_ap, sFor_ap, startD, List.map_cons, List.map_nil, List.length_cons, List.length_nil, List.replicate_succ, List.replicate_zero, List.cons_append, List.nil_append, List.append_nil, List.getElem?_cons_zero, List.getElem?_cons_succ, List.set_cons_zero, List.set_cons_succ, Nat.reduceAdd, Nat.reduceSub, Nat.sub_self, Nat.reduceLeDiff, List.all_cons, List.all_nil, np_fr, np_int, np_bl, np_tup, np_lst, np_str, np_non, Bool.and_self, Bool.and_true, if_true_, if_false_, zero_add', if_tt, if_ff, decide_true, decide_false, Nat.le_refl, oItS_lst, oItS_tup, oTupOf_lst, oTupOf_tup, oLstOf_lst, oLstOf_tup, oRv_lst, oRv_tup, oAdd_tup, dChain_ap, asTru_bl, asTru_tup, asTru_lst, oIsN_ap, oNotN_ap, asI_ap, oSl_tup, oSl_lst, oZip_tup, oZip_lst, oAddI_ap, oEqS_ap, oNeS_ap, oNe_nil, i0, e1, h1', e2, h2', e3, ll, n4, ld, Bool.not_false, Bool.false_eq_true]
                  · have h1' := decide_eq_false h1
                    have h2' := decide_eq_false h2
                    have h3' := decide_eq_false h3
                    have d1 : dueS f z (y :: r) = if z = wRake ∨ z = wStir then panD (y :: r) else false := by unfold dueS; rw [if_neg h1, if_neg h3, if_neg h2]
                    rw [d1]
                    have rs := rsE okz
                    by_cases hl3 : r.length = 0
                    · match r, hl3, i0 with
                      | [], _, i0 =>
                        have ll : ∀ ρ M, oLen [.tup [.str z, y]] ρ M = some (.ok (.int 2), M) := fun _ _ => rfl
                        have n4 : decide ((2 : Int) = 2) = true := rfl
                        have ld : (if z = wRake ∨ z = wStir then panD [y] else false) = decide (z = wRake ∨ z = wStir) := by
                          have : panD [y] = true := hwy
                          rw [this]
                          split
                          · rename_i q; rw [decide_eq_true q]
                          · rename_i q; rw [decide_eq_false q]
                        rw [ld]
                        simp -implicitDefEqProofs only [sSeq_ap, sAsg_ap, sPar_ap, sRet_ap, sIf_ap, sExpr_ap, sNext_ap, bnd_ap, ret_ap, bindR_ok, thenR_ok, dVar_ap, varR_ok, seqR_nx, seqR_rt, asgR_ok, gNm_ap, gCn_ap, gcnR_ok, gNl_ap, gTp_fr, gTp_ap, gLs_ap, dCons_ap, dNil_ap, asB_ap, dOr_ap, dAnd_ap, dNot_ap, dAndV_ap, dOrV_ap, dNotV_ap, dIf_ap, oAdd_int, oSub_int, oLt_int, oLe_int, oGt_int, oGe_int, oNeg_int, oEq_int, oNe_int, oEq_fr, oNe_fr, oEq_bl, oNe_bl, oTup_ap, oLst_ap, oCall_ap, oAbs_ap, oMax_ap, oMin_ap, oToInt_b, oToInt_i, oLen_lst, oLen_scr, oLen_tup, oIx_lst, oIx_scr, oAdd_lst, oIx_tup, oIx_fr0, oIx_fr1, ixR_ok, oItL_ap, oItT_ap, sFor_ap, startD, List.map_cons, List.map_nil, List.length_cons, List.length_nil, List.replicate_succ, List.replicate_zero, List.cons_append, List.nil_append, List.append_nil, List.getElem?_cons_zero, List.getElem?_cons_succ, List.set_cons_zero, List.set_cons_succ, Nat.reduceAdd, Nat.reduceSub, Nat.sub_self, Nat.reduceLeDiff, List.all_cons, List.all_nil, np_fr, np_int, np_bl, np_tup, np_lst, np_str, np_non, Bool.and_self, Bool.and_true, if_true_, if_false_, zero_add', if_tt, if_ff, decide_true, decide_false, Nat.le_refl, oItS_lst, oItS_tup, oTupOf_lst, oTupOf_tup, oLstOf_lst, oLstOf_tup, oRv_lst, oRv_tup, oAdd_tup, dChain_ap, asTru_bl, asTru_tup, asTru_lst, oIsN_ap, oNotN_ap, asI_ap, oSl_tup, oSl_lst, oZip_tup, oZip_lst, oAddI_ap, oEqS_ap, oNeS_ap, oNe_nil, i0, e1, h1', e2, h2', e3, h3', ll, n4, rs, Bool.false_eq_true]
                    · have ld : (if z = wRake ∨ z = wStir then panD (y :: r) else false) = false := by
                        have : panD (y :: r) = false := by
                          match r, hl3 with
                          | [], h => exact absurd rfl h
                          | _ :: _, _ => rfl
                        rw [this]
                        split <;> rfl
                      have n4 : decide (((r.length : Int) + 1 + 1) = 2) = false := decide_eq_false (by omega)
                      simp -implicitDefEqProofs only [sSeq_ap, sAsg_ap, sPar_ap, sRet_ap, sIf_ap, sExpr_ap, sNext_ap, bnd_ap, ret_ap, bindR_ok, thenR_ok, dVar_ap, varR_ok, seqR_nx, seqR_rt, asgR_ok, gNm_ap, gCn_ap, gcnR_ok, gNl_ap, gTp_fr, gTp_ap, gLs_ap, dCons_ap, dNil_ap, asB_ap, dOr_ap, dAnd_ap, dNot_ap, dAndV_ap, dOrV_ap, dNotV_ap, dIf_ap, oAdd_int, oSub_int, oLt_int, oLe_int, oGt_int, oGe_int, oNeg_int, oEq_int, oNe_int, oEq_fr, oNe_fr, oEq_bl, oNe_bl, oTup_ap, oLst_ap, oCall_ap, oAbs_ap, oMax_ap, oMin_ap, oToInt_b, oToInt_i, oLen_lst, oLen_scr, oLen_tup, oIx_lst, oIx_scr, oAdd_lst, oIx_tup, oIx_fr0, oIx_fr1, ixR_ok, oItL_ap, oItT_ap, sFor_ap, startD, List.map_cons, List.map_nil, List.length_cons, List.length_nil, List.replicate_succ, List.replicate_zero, List.cons_append, List.nil_append, List.append_nil, List.getElem?_cons_zero, List.getElem?_cons_succ, List.set_cons_zero, List.set_cons_succ, Nat.reduceAdd, Nat.reduceSub, Nat.sub_self, Nat.reduceLeDiff, List.all_cons, List.all_nil, np_fr, np_int, np_bl, np_tup, np_lst, np_str, np_non, Bool.and_self, Bool.and_true, if_true_, if_false_, zero_add', if_tt, if_ff, decide_true, decide_false, Nat.le_refl, oItS_lst, oItS_tup, oTupOf_lst, oTupOf_tup, oLstOf_lst, oLstOf_tup, oRv_lst, oRv_tup, oAdd_tup, dChain_ap, asTru_bl, asTru_tup, asTru_lst, oIsN_ap, oNotN_ap, asI_ap, oSl_tup, oSl_lst, oZip_tup, oZip_lst, oAddI_ap, oEqS_ap, oNeS_ap, oNe_nil, i0, e1, h1', e2, h2', e3, h3', ll, n4, ld, Bool.false_eq_true]
            · have hwy' : isWh y = false := by simpa using hwy
              have e : dueB f (.tup (.str z :: y :: r)) = false := due_nw (.inr ⟨y, r, rfl, hwy'⟩)
              simp -implicitDefEqProofs only [den__law_due, sSeq_ap, sAsg_ap, sPar_ap, sRet_ap, sIf_ap, sExpr_ap, sNext_ap, bnd_ap, ret_ap, bindR_ok, thenR_ok, dVar_ap, varR_ok, seqR_nx, seqR_rt, asgR_ok, gNm_ap, gCn_ap, gcnR_ok, gNl_ap, gTp_fr, gTp_ap, gLs_ap, dCons_ap, dNil_ap, asB_ap, dOr_ap, dAnd_ap, dNot_ap, dAndV_ap, dOrV_ap, dNotV_ap, dIf_ap, oAdd_int, oSub_int, oLt_int, oLe_int, oGt_int, oGe_int, oNeg_int, oEq_int, oNe_int, oEq_fr, oNe_fr, oEq_bl, oNe_bl, oTup_ap, oLst_ap, oCall_ap, oAbs_ap, oMax_ap, oMin_ap, oToInt_b, oToInt_i, oLen_lst, oLen_scr, oLen_tup, oIx_lst, oIx_scr, oAdd_lst, oIx_tup, oIx_fr0, oIx_fr1, ixR_ok, oItL_ap, oItT_ap, sFor_ap, startD, List.map_cons, List.map_nil, List.length_cons, List.length_nil, List.replicate_succ, List.replicate_zero, List.cons_append, List.nil_append, List.append_nil, List.getElem?_cons_zero, List.getElem?_cons_succ, List.set_cons_zero, List.set_cons_succ, Nat.reduceAdd, Nat.reduceSub, Nat.sub_self, Nat.reduceLeDiff, List.all_cons, List.all_nil, np_fr, np_int, np_bl, np_tup, np_lst, np_str, np_non, Bool.and_self, Bool.and_true, if_true_, if_false_, zero_add', if_tt, if_ff, decide_true, decide_false, Nat.le_refl, oItS_lst, oItS_tup, oTupOf_lst, oTupOf_tup, oLstOf_lst, oLstOf_tup, oRv_lst, oRv_tup, oAdd_tup, dChain_ap, asTru_bl, asTru_tup, asTru_lst, oIsN_ap, oNotN_ap, asI_ap, oSl_tup, oSl_lst, oZip_tup, oZip_lst, oAddI_ap, oEqS_ap, oNeS_ap, oNe_nil, it, isT, ll, n, i0, i1, st, isS, wy, hwy', e, Bool.not_true, Bool.not_false, Bool.false_eq_true]
          | _ => cases hs
        · have hs' : isS x = false := by simpa using hs
          have e : dueB f (.tup (x :: y :: r)) = false := by
            cases x <;> first | rfl | exact absurd rfl hs
          simp -implicitDefEqProofs only [den__law_due, sSeq_ap, sAsg_ap, sPar_ap, sRet_ap, sIf_ap, sExpr_ap, sNext_ap, bnd_ap, ret_ap, bindR_ok, thenR_ok, dVar_ap, varR_ok, seqR_nx, seqR_rt, asgR_ok, gNm_ap, gCn_ap, gcnR_ok, gNl_ap, gTp_fr, gTp_ap, gLs_ap, dCons_ap, dNil_ap, asB_ap, dOr_ap, dAnd_ap, dNot_ap, dAndV_ap, dOrV_ap, dNotV_ap, dIf_ap, oAdd_int, oSub_int, oLt_int, oLe_int, oGt_int, oGe_int, oNeg_int, oEq_int, oNe_int, oEq_fr, oNe_fr, oEq_bl, oNe_bl, oTup_ap, oLst_ap, oCall_ap, oAbs_ap, oMax_ap, oMin_ap, oToInt_b, oToInt_i, oLen_lst, oLen_scr, oLen_tup, oIx_lst, oIx_scr, oAdd_lst, oIx_tup, oIx_fr0, oIx_fr1, ixR_ok, oItL_ap, oItT_ap, sFor_ap, startD, List.map_cons, List.map_nil, List.length_cons, List.length_nil, List.replicate_succ, List.replicate_zero, List.cons_append, List.nil_append, List.append_nil, List.getElem?_cons_zero, List.getElem?_cons_succ, List.set_cons_zero, List.set_cons_succ, Nat.reduceAdd, Nat.reduceSub, Nat.sub_self, Nat.reduceLeDiff, List.all_cons, List.all_nil, np_fr, np_int, np_bl, np_tup, np_lst, np_str, np_non, Bool.and_self, Bool.and_true, if_true_, if_false_, zero_add', if_tt, if_ff, decide_true, decide_false, Nat.le_refl, oItS_lst, oItS_tup, oTupOf_lst, oTupOf_tup, oLstOf_lst, oLstOf_tup, oRv_lst, oRv_tup, oAdd_tup, dChain_ap, asTru_bl, asTru_tup, asTru_lst, oIsN_ap, oNotN_ap, asI_ap, oSl_tup, oSl_lst, oZip_tup, oZip_lst, oAddI_ap, oEqS_ap, oNeS_ap, oNe_nil, it, isT, ll, n, i0, st, hs', e, Bool.not_true, Bool.not_false, Bool.false_eq_true]
    | _ => cases ht
  · have ht' : isT d = false := by simpa using ht
    have e0 : dueB f d = false := by cases d <;> first | rfl | exact absurd rfl ht
    simp -implicitDefEqProofs only [den__law_due, sSeq_ap, sAsg_ap, sPar_ap, sRet_ap, sIf_ap, sExpr_ap, sNext_ap, bnd_ap, ret_ap, bindR_ok, thenR_ok, dVar_ap, varR_ok, seqR_nx, seqR_rt, asgR_ok, gNm_ap, gCn_ap, gcnR_ok, gNl_ap, gTp_fr, gTp_ap, gLs_ap, dCons_ap, dNil_ap, asB_ap, dOr_ap, dAnd_ap, dNot_ap, dAndV_ap, dOrV_ap, dNotV_ap, dIf_ap, oAdd_int, oSub_int, oLt_int, oLe_int, oGt_int, oGe_int, oNeg_int, oEq_int, oNe_int, oEq_fr, oNe_fr, oEq_bl, oNe_bl, oTup_ap, oLst_ap, oCall_ap, oAbs_ap, oMax_ap, oMin_ap, oToInt_b, oToInt_i, oLen_lst, oLen_scr, oLen_tup, oIx_lst, oIx_scr, oAdd_lst, oIx_tup, oIx_fr0, oIx_fr1, ixR_ok, oItL_ap, oItT_ap, sFor_ap, startD, List.map_cons, List.map_nil, List.length_cons, List.length_nil, List.replicate_succ, List.replicate_zero, List.cons_append, List.nil_append, List.append_nil, List.getElem?_cons_zero, List.getElem?_cons_succ, List.set_cons_zero, List.set_cons_succ, Nat.reduceAdd, Nat.reduceSub, Nat.sub_self, Nat.reduceLeDiff, List.all_cons, List.all_nil, np_fr, np_int, np_bl, np_tup, np_lst, np_str, np_non, Bool.and_self, Bool.and_true, if_true_, if_false_, zero_add', if_tt, if_ff, decide_true, decide_false, Nat.le_refl, oItS_lst, oItS_tup, oTupOf_lst, oTupOf_tup, oLstOf_lst, oLstOf_tup, oRv_lst, oRv_tup, oAdd_tup, dChain_ap, asTru_bl, asTru_tup, asTru_lst, oIsN_ap, oNotN_ap, asI_ap, oSl_tup, oSl_lst, oZip_tup, oZip_lst, oAddI_ap, oEqS_ap, oNeS_ap, oNe_nil, it, ht', e0, Bool.not_false]
end
/-! what is drawn -/
abbrev Elw (d : D) : Prop := El d ∧ ∀ z, d = .str z → z ∈ wordsL
theorem el_int {i : Int} (h : i.natAbs < 2 ^ 101) : Elw (.int i) := ⟨⟨.int i h, fun z e => by simp at e, .inr ⟨rfl, rfl⟩⟩, fun z e => by simp at e⟩
theorem el_bl (b : Bool) : Elw (.bl b) := ⟨⟨.bl b, fun z e => by simp at e, .inr ⟨rfl, rfl⟩⟩, fun z e => by simp at e⟩
theorem el_non : Elw .non := ⟨⟨.non, fun z e => by simp at e, .inr ⟨rfl, rfl⟩⟩, fun z e => by simp at e⟩
theorem el_emp : Elw .emp := ⟨⟨.emp, fun z e => by simp at e, .inl rfl⟩, fun z e => by simp at e⟩
theorem ok_words : ∀ z ∈ wordsL, PyData.strOk z = true := by decide +kernel
theorem el_str {z : Str} (h : z ∈ wordsL) : Elw (.str z) := ⟨⟨.str z, fun w e => by simp at e; rw [← e]; exact ok_words z h, .inr ⟨rfl, shaped_str (ok_words z h)⟩⟩, fun w e => by simp at e; rw [← e]; exact h⟩
theorem el_two {i j : Int} (h1 : i.natAbs < 2 ^ 101) (h2 : j.natAbs < 2 ^ 101) : Elw (.tup [.int i, .int j]) := ⟨⟨na_two (by decide) (.int i h1) (.int j h2), fun z e => by simp at e, .inr ⟨rfl, rfl⟩⟩, fun z e => by simp at e⟩
theorem el_l0 : Elw (.lst []) := ⟨⟨.lst _ (by simp) (by simp), fun z e => by simp at e, .inr ⟨rfl, rfl⟩⟩, fun z e => by simp at e⟩
theorem el_t1 {i : Int} (h : i.natAbs < 2 ^ 101) : Elw (.tup [.int i]) := ⟨⟨.tup _ (by simp) (by simp; exact .int i h), fun z e => by simp at e, .inr ⟨rfl, rfl⟩⟩, fun z e => by simp at e⟩
theorem el_l1 {i : Int} (h : i.natAbs < 2 ^ 101) : Elw (.lst [.int i]) := ⟨⟨.lst _ (by simp) (by simp; exact .int i h), fun z e => by simp at e, .inr ⟨rfl, rfl⟩⟩, fun z e => by simp at e⟩
theorem el_ts {z : Str} (h : z ∈ wordsL) : Elw (.tup [.str z]) := ⟨⟨.tup _ (by simp) (by simp; exact .str z), fun w e => by simp at e, .inr ⟨rfl, by simp [SeqAt.shaped, toPy, toPys, PyData.depth, PyData.depthAll, PyData.canLay0, PyData.canLayAll0, ok_words z h]⟩⟩, fun w e => by simp at e⟩
theorem w_in : wPour ∈ wordsL ∧ wLead ∈ wordsL ∧ wLet ∈ wordsL ∧ wRake ∈ wordsL ∧ wStir ∈ wordsL ∧ Str.ofString "Rake" ∈ wordsL ∧ Str.ofString "" ∈ wordsL ∧ Str.ofString "stirs" ∈ wordsL ∧ Str.ofString "0" ∈ wordsL ∧ Str.ofString "under" ∈ wordsL ∧ Str.ofString "over" ∈ wordsL ∧ Str.ofString "Over" ∈ wordsL ∧ Str.ofString "under " ∈ wordsL := by
  refine ⟨?_, ?_, ?_, ?_, ?_, ?_, ?_, ?_, ?_, ?_, ?_, ?_, ?_⟩ <;> decide +kernel
/-- an amount, or what stands for one -/
def Wt (k : Nat) (d : D) : Prop := ∃ i j : Int, i.natAbs < 2 ^ k ∧ j.natAbs < 2 ^ k ∧ (d = .int i ∨ d = .tup [.int i, .int j])
theorem Wt.el {k : Nat} {d : D} (h : Wt k d) (hk : k ≤ 101) : Elw d := by
  obtain ⟨i, j, h1, h2, e | e⟩ := h <;> subst e
  · exact el_int (nat_lt_pow 101 h1 hk)
  · exact el_two (nat_lt_pow 101 h1 hk) (nat_lt_pow 101 h2 hk)
theorem Wt.mono {k m : Nat} {d : D} (h : Wt k d) (hk : k ≤ m) : Wt m d := by
  obtain ⟨i, j, h1, h2, e⟩ := h
  exact ⟨i, j, nat_lt_pow m h1 hk, nat_lt_pow m h2 hk, e⟩
theorem Wt.pr {k : Nat} {i j : Int} (h1 : i.natAbs < 2 ^ k) (h2 : j.natAbs < 2 ^ k) : Wt k (.tup [.int i, .int j]) := ⟨i, j, h1, h2, .inr rfl⟩
theorem Wt.one {k : Nat} {i : Int} (h1 : i.natAbs < 2 ^ k) : Wt k (.int i) := ⟨i, 0, h1, by rw [Int.natAbs_zero]; exact Nat.two_pow_pos k, .inl rfl⟩
theorem Wt.fr {k : Nat} {q : Rat} (h : Bd k q) : Wt k (frQ q) := ⟨q.num, (q.den : Int), h.1, by rw [Int.natAbs_natCast]; exact h.2, .inr rfl⟩
theorem Wt.np {k : Nat} {d : D} (h : Wt k d) : d.np = true := by
  obtain ⟨i, j, h1, h2, e | e⟩ := h <;> subst e <;> rfl
section
variable {c n : Nat} {M : Mem}
theorem lfull_eq (hr : HasReel c n M) (hc : c + 5 < 2 ^ 30) : ∃ f M', F__law_full [.ptr n] M = some (.ok (frQ f), M') ∧ 0 < f ∧ Bd 10 f ∧ Turned (c + 1) n M M' := by
  obtain ⟨v, M1, e1, v0, v1, t1⟩ := take_eq (m := 6) hr (by omega) (by decide) (small_lt _ (by decide) (by decide))
  obtain ⟨o, eo, mo⟩ := atI_mem (l := ([.tup [.int 1, .int 1], .tup [.int 101, .int 89], .tup [.int 9, .int 2], .tup [.int 7, .int 3], .tup [.int 1, .int 1000], .tup [.int 997, .int 991]] : List D)) v0 (by simpa using v1)
  have key : ∃ f : Rat, o = frQ f ∧ 0 < f ∧ Bd 10 f := by
    simp -implicitDefEqProofs only [List.mem_cons, List.not_mem_nil, or_false] at mo
    rcases mo with h | h | h | h | h | h <;> subst h
    · exact ⟨Rat.divInt 1 1, fr_of (by decide) (by decide) (divInt_cross _ _ (by decide)).symm, by decide +kernel, by decide +kernel, by decide +kernel⟩
    · exact ⟨Rat.divInt 101 89, fr_of (by decide) (by decide) (divInt_cross _ _ (by decide)).symm, by decide +kernel, by decide +kernel, by decide +kernel⟩
    · exact ⟨Rat.divInt 9 2, fr_of (by decide) (by decide) (divInt_cross _ _ (by decide)).symm, by decide +kernel, by decide +kernel, by decide +kernel⟩
    · exact ⟨Rat.divInt 7 3, fr_of (by decide) (by decide) (divInt_cross _ _ (by decide)).symm, by decide +kernel, by decide +kernel, by decide +kernel⟩
    · exact ⟨Rat.divInt 1 1000, fr_of (by decide) (by decide) (divInt_cross _ _ (by decide)).symm, by decide +kernel, by decide +kernel, by decide +kernel⟩
    · exact ⟨Rat.divInt 997 991, fr_of (by decide) (by decide) (divInt_cross _ _ (by decide)).symm, by decide +kernel, by decide +kernel, by decide +kernel⟩
  obtain ⟨f, rfl, f0, fb⟩ := key
  refine ⟨f, M1, run_t ?_ t1 rfl, f0, fb, t1⟩
  simp -implicitDefEqProofs only [den__law_full, sSeq_ap, sAsg_ap, sPar_ap, sRet_ap, sIf_ap, sExpr_ap, sNext_ap, bnd_ap, ret_ap, bindR_ok, thenR_ok, dVar_ap, varR_ok, seqR_nx, seqR_rt, asgR_ok, gNm_ap, gCn_ap, gcnR_ok, gNl_ap, gTp_fr, gTp_ap, gLs_ap, dCons_ap, dNil_ap, asB_ap, dOr_ap, dAnd_ap, dNot_ap, dAndV_ap, dOrV_ap, dNotV_ap, dIf_ap, oAdd_int, oSub_int, oLt_int, oLe_int, oGt_int, oGe_int, oNeg_int, oEq_int, oNe_int, oEq_fr, oNe_fr, oEq_bl, oNe_bl, oTup_ap, oLst_ap, oCall_ap, oAbs_ap, oMax_ap, oMin_ap, oToInt_b, oToInt_i, oLen_lst, oLen_scr, oLen_tup, oIx_lst, oIx_scr, oAdd_lst, oIx_tup, oIx_fr0, oIx_fr1, ixR_ok, oItL_ap, oItT_ap, sFor_ap, startD, List.map_cons, List.map_nil, List.length_cons, List.length_nil, List.replicate_succ, List.replicate_zero, List.cons_append, List.nil_append, List.append_nil, List.getElem?_cons_zero, List.getElem?_cons_succ, List.set_cons_zero, List.set_cons_succ, Nat.reduceAdd, Nat.reduceSub, Nat.sub_self, Nat.reduceLeDiff, List.all_cons, List.all_nil, np_fr, np_int, np_bl, np_tup, np_lst, np_str, np_non, Bool.and_self, Bool.and_true, if_true_, if_false_, zero_add', if_tt, if_ff, decide_true, decide_false, Nat.le_refl, oItS_lst, oItS_tup, oTupOf_lst, oTupOf_tup, oLstOf_lst, oLstOf_tup, oRv_lst, oRv_tup, oAdd_tup, dChain_ap, asTru_bl, asTru_tup, asTru_lst, oIsN_ap, oNotN_ap, asI_ap, oSl_tup, oSl_lst, oZip_tup, oZip_lst, oAddI_ap, oEqS_ap, oNeS_ap, oNe_nil, e1, eo]
theorem awater_eq (hr : HasReel c n M) (hc : c + 5 < 2 ^ 30) : ∃ d M', F__law_any_water [.ptr n] M = some (.ok d, M') ∧ Wt 20 d ∧ Turned (c + 3) n M M' := by
  obtain ⟨v, M1, e1, v0, v1, t1⟩ := take_eq (m := 10) hr (by omega) (by decide) (small_lt _ (by decide) (by decide))
  obtain ⟨x, M2, e2, x0, x1, t2⟩ := take_eq (m := 60) t1.has (by omega) (by decide) (small_lt _ (by decide) (by decide))
  obtain ⟨y, M3, e3, y0, y1, t3⟩ := take_eq (m := 12) t2.has (by omega) (by decide) (small_lt _ (by decide) (by decide))
  have lo := low_eq (t := 1 + x) (b := 1 + y) (by omega) (small_lt (1 + y) (by omega) (by omega)) M3
  have bq : Bd 20 (Rat.divInt (1 + x) (1 + y)) := bd_divInt (by omega) (by omega) (by omega)
  generalize Rat.divInt (1 + x) (1 + y) = q at lo bq
  obtain ⟨o, eo, mo⟩ := atI_mem (l := ([.tup [.int 0, .int 1], .tup [.int (-3), .int 2], .tup [.int 2, .int 4], .tup [.int 1, .int 0], .int 1, .tup [.int 1, .int (-2)], frQ q, frQ q, frQ q, frQ q] : List D)) v0 (by simpa using v1)
  have wo : Wt 20 o := by
    simp -implicitDefEqProofs only [List.mem_cons, List.not_mem_nil, or_false] at mo
    rcases mo with h | h | h | h | h | h | h | h | h | h <;> subst h <;> first | exact Wt.fr bq | exact Wt.pr (by decide) (by decide) | exact Wt.one (by decide)
  have npo := wo.np
  have t := (t1.trans (t2.trans t3)).mono (c' := c + 3) (by omega)
  refine ⟨o, M3, run_t ?_ t npo, wo, t⟩
  have n3 : ∀ ρ M, oNeg (.int 3) ρ M = some (.ok (.int (-3)), M) := fun _ _ => rfl
  have n2 : ∀ ρ M, oNeg (.int 2) ρ M = some (.ok (.int (-2)), M) := fun _ _ => rfl
  simp -implicitDefEqProofs only [den__law_any_water, sSeq_ap, sAsg_ap, sPar_ap, sRet_ap, sIf_ap, sExpr_ap, sNext_ap, bnd_ap, ret_ap, bindR_ok, thenR_ok, dVar_ap, varR_ok, seqR_nx, seqR_rt, asgR_ok, gNm_ap, gCn_ap, gcnR_ok, gNl_ap, gTp_fr, gTp_ap, gLs_ap, dCons_ap, dNil_ap, asB_ap, dOr_ap, dAnd_ap, dNot_ap, dAndV_ap, dOrV_ap, dNotV_ap, dIf_ap, oAdd_int, oSub_int, oLt_int, oLe_int, oGt_int, oGe_int, oNeg_int, oEq_int, oNe_int, oEq_fr, oNe_fr, oEq_bl, oNe_bl, oTup_ap, oLst_ap, oCall_ap, oAbs_ap, oMax_ap, oMin_ap, oToInt_b, oToInt_i, oLen_lst, oLen_scr, oLen_tup, oIx_lst, oIx_scr, oAdd_lst, oIx_tup, oIx_fr0, oIx_fr1, ixR_ok, oItL_ap, oItT_ap, sFor_ap, startD, List.map_cons, List.map_nil, List.length_cons, List.length_nil, List.replicate_succ, List.replicate_zero, List.cons_append, List.nil_append, List.append_nil, List.getElem?_cons_zero, List.getElem?_cons_succ, List.set_cons_zero, List.set_cons_succ, Nat.reduceAdd, Nat.reduceSub, Nat.sub_self, Nat.reduceLeDiff, List.all_cons, List.all_nil, np_fr, np_int, np_bl, np_tup, np_lst, np_str, np_non, Bool.and_self, Bool.and_true, if_true_, if_false_, zero_add', if_tt, if_ff, decide_true, decide_false, Nat.le_refl, oItS_lst, oItS_tup, oTupOf_lst, oTupOf_tup, oLstOf_lst, oLstOf_tup, oRv_lst, oRv_tup, oAdd_tup, dChain_ap, asTru_bl, asTru_tup, asTru_lst, oIsN_ap, oNotN_ap, asI_ap, oSl_tup, oSl_lst, oZip_tup, oZip_lst, oAddI_ap, oEqS_ap, oNeS_ap, oNe_nil, e1, e2, e3, lo, n3, n2, eo]
abbrev panL : List D := [.int 0, .int 1, .int 4, .int 5, .int (-1), .int (10 ^ 30), .bl true, .bl false, .non, .str (Str.ofString "0"), .tup [.int 0], .int 2]
theorem apan_eq (hr : HasReel c n M) (hc : c + 5 < 2 ^ 30) : ∃ d M', F__law_any_pan [.ptr n] M = some (.ok d, M') ∧ Elw d ∧ Turned (c + 1) n M M' := by
  obtain ⟨v, M1, e1, v0, v1, t1⟩ := take_eq (m := 12) hr (by omega) (by decide) (small_lt _ (by decide) (by decide))
  obtain ⟨o, eo, mo⟩ := atI_mem (l := panL) v0 (by simpa using v1)
  have eo' : Elw o := by
    have w := w_in
    simp -implicitDefEqProofs only [List.mem_cons, List.not_mem_nil, or_false] at mo
    rcases mo with h | h | h | h | h | h | h | h | h | h | h | h <;> subst h <;> first | exact el_int (by decide) | exact el_bl _ | exact el_non | exact el_str w.2.2.2.2.2.2.2.2.1 | exact el_t1 (by decide)
  have npo := na_np eo'.1.na
  refine ⟨o, M1, run_t ?_ t1 npo, eo', t1⟩
  have n1 : ∀ ρ M, oNeg (.int 1) ρ M = some (.ok (.int (-1)), M) := fun _ _ => rfl
  simp -implicitDefEqProofs only [den__law_any_pan, sSeq_ap, sAsg_ap, sPar_ap, sRet_ap, sIf_ap, sExpr_ap, sNext_ap, bnd_ap, ret_ap, bindR_ok, thenR_ok, dVar_ap, varR_ok, seqR_nx, seqR_rt, asgR_ok, gNm_ap, gCn_ap, gcnR_ok, gNl_ap, gTp_fr, gTp_ap, gLs_ap, dCons_ap, dNil_ap, asB_ap, dOr_ap, dAnd_ap, dNot_ap, dAndV_ap, dOrV_ap, dNotV_ap, dIf_ap, oAdd_int, oSub_int, oLt_int, oLe_int, oGt_int, oGe_int, oNeg_int, oEq_int, oNe_int, oEq_fr, oNe_fr, oEq_bl, oNe_bl, oTup_ap, oLst_ap, oCall_ap, oAbs_ap, oMax_ap, oMin_ap, oToInt_b, oToInt_i, oLen_lst, oLen_scr, oLen_tup, oIx_lst, oIx_scr, oAdd_lst, oIx_tup, oIx_fr0, oIx_fr1, ixR_ok, oItL_ap, oItT_ap, sFor_ap, startD, List.map_cons, List.map_nil, List.length_cons, List.length_nil, List.replicate_succ, List.replicate_zero, List.cons_append, List.nil_append, List.append_nil, List.getElem?_cons_zero, List.getElem?_cons_succ, List.set_cons_zero, List.set_cons_succ, Nat.reduceAdd, Nat.reduceSub, Nat.sub_self, Nat.reduceLeDiff, List.all_cons, List.all_nil, np_fr, np_int, np_bl, np_tup, np_lst, np_str, np_non, Bool.and_self, Bool.and_true, if_true_, if_false_, zero_add', if_tt, if_ff, decide_true, decide_false, Nat.le_refl, oItS_lst, oItS_tup, oTupOf_lst, oTupOf_tup, oLstOf_lst, oLstOf_tup, oRv_lst, oRv_tup, oAdd_tup, dChain_ap, asTru_bl, asTru_tup, asTru_lst, oIsN_ap, oNotN_ap, asI_ap, oSl_tup, oSl_lst, oZip_tup, oZip_lst, oAddI_ap, oEqS_ap, oNeS_ap, oNe_nil, e1, n1, pow10_30, eo]
end
/-- a drawn deed's parts -/
structure Dk (ds : List D) : Prop where
  len : ds.length = 2 ∨ ds.length = 3 ∨ ds.length = 4 ∨ ds.length = 6
  el : ∀ e ∈ ds, Elw e
  s4 : ∀ a p w s, ds = [a, p, w, s] → Wt 60 s
  s3 : ∀ a b e, ds = [a, b, e] → a = .str wLet
section
variable {c n : Nat} {M : Mem} {f : Rat}
theorem lpour_eq (bf : Bd 10 f) (hr : HasReel c n M) (hc : c + 20 < 2 ^ 30) : ∃ (ds : List D) (M' : Mem), F__law_pour [.ptr n, frQ f] M = some (.ok (.tup ds), M') ∧ Dk ds ∧ Turned (c + 8) n M M' := by
  obtain ⟨w, M1, e1, hw, t1⟩ := awater_eq hr (by omega)
  obtain ⟨v, M2, e2, v0, v1, t2⟩ := take_eq (m := 6) t1.has (by omega) (by decide) (small_lt _ (by decide) (by decide))
  obtain ⟨s0, M3, e3, hs0, t3⟩ := awater_eq t2.has (by omega)
  have npw := hw.np
  have it := fun ρ M => oIsi_tup npw (fun _ => none) ρ M
  have w0 := w_in
  obtain ⟨s, sI, hs⟩ : ∃ s : D, (sIf (dAnd (bnd (bnd (dVar 3) fun d => bnd (ret (.int 4)) fun e => oLt d e) asB) (dAnd (bnd (bnd (dVar 2) (oIsi (fun a => kitB a "tuple") (fun _ => none))) asB) (bnd (bnd (bnd (dVar 2) fun d => bnd (ret (.int 1)) fun e => oIx d e) fun d => bnd (ret (.int 0)) fun e => oGt d e) asB))) (sAsg (bnd (dCons (bnd (bnd (bnd (dVar 1) fun d => bnd (ret (.int 0)) fun e => oIx d e) fun d => bnd (bnd (dVar 2) fun d => bnd (ret (.int 0)) fun e => oIx d e) fun e => oMul d e) fun d => bnd (bnd (bnd (dCons (ret (.int 0)) (dCons (ret (.int 1)) (dCons (ret (.int 2)) (dCons (ret (.int 3)) dNil)))) oLst) fun d => bnd (dVar 3) fun e => oIx d e) fun e => oMul d e) (dCons (bnd (bnd (bnd (dVar 1) fun d => bnd (ret (.int 1)) fun e => oIx d e) fun d => bnd (bnd (dVar 2) fun d => bnd (ret (.int 1)) fun e => oIx d e) fun e => oMul d e) fun d => bnd (ret (.int 2)) fun e => oMul d e) dNil)) (oCall 2 F__law_low)) (gNm 4)) sNext) [some (.ptr n), some (frQ f), some w, some (.int v), some s0] M3 = some (.nx [some (.ptr n), some (frQ f), some w, some (.int v), some s], M3) ∧ Wt 60 s := by
    by_cases hv : v < 4
    · obtain ⟨i, j, hi, hj, e | e⟩ := hw
      · subst e
        refine ⟨s0, ?_, hs0.mono (by decide)⟩
        simp -implicitDefEqProofs only [sSeq_ap, sAsg_ap, sPar_ap, sRet_ap, sIf_ap, sExpr_ap, sNext_ap, bnd_ap, ret_ap, bindR_ok, thenR_ok, dVar_ap, varR_ok, seqR_nx, seqR_rt, asgR_ok, gNm_ap, gCn_ap, gcnR_ok, gNl_ap, gTp_fr, gTp_ap, gLs_ap, dCons_ap, dNil_ap, asB_ap, dOr_ap, dAnd_ap, dNot_ap, dAndV_ap, dOrV_ap, dNotV_ap, dIf_ap, oAdd_int, oSub_int, oLt_int, oLe_int, oGt_int, oGe_int, oNeg_int, oEq_int, oNe_int, oEq_fr, oNe_fr, oEq_bl, oNe_bl, oTup_ap, oLst_ap, oCall_ap, oAbs_ap, oMax_ap, oMin_ap, oToInt_b, oToInt_i, oLen_lst, oLen_scr, oLen_tup, oIx_lst, oIx_scr, oAdd_lst, oIx_tup, oIx_fr0, oIx_fr1, ixR_ok, oItL_ap, oItT_ap, sFor_ap, startD, List.map_cons, List.map_nil, List.length_cons, List.length_nil, List.replicate_succ, List.replicate_zero, List.cons_append, List.nil_append, List.append_nil, List.getElem?_cons_zero, List.getElem?_cons_succ, List.set_cons_zero, List.set_cons_succ, Nat.reduceAdd, Nat.reduceSub, Nat.sub_self, Nat.reduceLeDiff, List.all_cons, List.all_nil, np_fr, np_int, np_bl, np_tup, np_lst, np_str, np_non, Bool.and_self, Bool.and_true, if_true_, if_false_, zero_add', if_tt, if_ff, decide_true, decide_false, Nat.le_refl, oItS_lst, oItS_tup, oTupOf_lst, oTupOf_tup, oLstOf_lst, oLstOf_tup, oRv_lst, oRv_tup, oAdd_tup, dChain_ap, asTru_bl, asTru_tup, asTru_lst, oIsN_ap, oNotN_ap, asI_ap, oSl_tup, oSl_lst, oZip_tup, oZip_lst, oAddI_ap, oEqS_ap, oNeS_ap, oNe_nil, hv, it, isT, Bool.false_eq_true]
      · subst e
        by_cases j0 : j > 0
        · obtain ⟨k, ek, k0, k3⟩ := atI_lit (l := [.int 0, .int 1, .int 2, .int 3]) (P := fun v => 0 ≤ v ∧ v ≤ 3) v0 (by simpa using hv) fun d hd => by
            simp -implicitDefEqProofs only [List.mem_cons, List.not_mem_nil, or_false] at hd
            rcases hd with h | h | h | h <;> subst h <;> exact ⟨_, rfl, by omega, by omega⟩
          have bn := bf.1
          have bd := bf.2
          have dp := f.den_pos
          have m1 : MulOk f.num i := MulOk.of (a := 10) (b := 20) bn hi
          have p1 : (f.num * i).natAbs < 2 ^ 30 := by rw [Int.natAbs_mul]; exact mul_lt_pow (m := 10) (n := 20) bn hi
          have m2 : MulOk (f.num * i) k := MulOk.of (a := 30) (b := 10) p1 (by omega)
          have p2 : (f.num * i * k).natAbs < 2 ^ 40 := by rw [Int.natAbs_mul]; exact mul_lt_pow (m := 30) (n := 10) p1 (by omega)
          have m3 : MulOk (f.den : Int) j := MulOk.of (a := 10) (b := 20) (by rw [Int.natAbs_natCast]; exact bd) hj
          have p3 : ((f.den : Int) * j).natAbs < 2 ^ 30 := by rw [Int.natAbs_mul]; exact mul_lt_pow (m := 10) (n := 20) (by rw [Int.natAbs_natCast]; exact bd) hj
          have m4 : MulOk ((f.den : Int) * j) 2 := MulOk.of (a := 30) (b := 10) p3 (by decide)
          have q0 : 0 < (f.den : Int) * j * 2 := Int.mul_pos (Int.mul_pos (by omega) (by omega)) (by decide)
          have lo := low_eq (t := f.num * i * k) (b := (f.den : Int) * j * 2) (by omega) (nat_lt_pow 4000 (show ((f.den : Int) * j * 2).natAbs < 2 ^ 40 by rw [Int.natAbs_mul]; exact mul_lt_pow (m := 30) (n := 10) p3 (by decide)) (by decide)) M3
          have i0 : ∀ ρ M, oIx (.tup [.int i, .int j]) (.int 0) ρ M = some (.ok (.int i), M) := fun _ _ => rfl
          have i1 : ∀ ρ M, oIx (.tup [.int i, .int j]) (.int 1) ρ M = some (.ok (.int j), M) := fun _ _ => rfl
          refine ⟨frQ (Rat.divInt (f.num * i * k) ((f.den : Int) * j * 2)), ?_, ?_⟩
          · simp -implicitDefEqProofs only [sSeq_ap, sAsg_ap, sPar_ap, sRet_ap, sIf_ap, sExpr_ap, sNext_ap, bnd_ap, ret_ap, bindR_ok, thenR_ok, dVar_ap, varR_ok, seqR_nx, seqR_rt, asgR_ok, gNm_ap, gCn_ap, gcnR_ok, gNl_ap, gTp_fr, gTp_ap, gLs_ap, dCons_ap, dNil_ap, asB_ap, dOr_ap, dAnd_ap, dNot_ap, dAndV_ap, dOrV_ap, dNotV_ap, dIf_ap, oAdd_int, oSub_int, oLt_int, oLe_int, oGt_int, oGe_int, oNeg_int, oEq_int, oNe_int, oEq_fr, oNe_fr, oEq_bl, oNe_bl, oTup_ap, oLst_ap, oCall_ap, oAbs_ap, oMax_ap, oMin_ap, oToInt_b, oToInt_i, oLen_lst, oLen_scr, oLen_tup, oIx_lst, oIx_scr, oAdd_lst, oIx_tup, oIx_fr0, oIx_fr1, ixR_ok, oItL_ap, oItT_ap, sFor_ap, startD, List.map_cons, List.map_nil, List.length_cons, List.length_nil, List.replicate_succ, List.replicate_zero, List.cons_append, List.nil_append, List.append_nil, List.getElem?_cons_zero, List.getElem?_cons_succ, List.set_cons_zero, List.set_cons_succ, Nat.reduceAdd, Nat.reduceSub, Nat.sub_self, Nat.reduceLeDiff, List.all_cons, List.all_nil, np_fr, np_int, np_bl, np_tup, np_lst, np_str, np_non, Bool.and_self, Bool.and_true, if_true_, if_false_, zero_add', if_tt, if_ff, decide_true, decide_false, Nat.le_refl, oItS_lst, oItS_tup, oTupOf_lst, oTupOf_tup, oLstOf_lst, oLstOf_tup, oRv_lst, oRv_tup, oAdd_tup, dChain_ap, asTru_bl, asTru_tup, asTru_lst, oIsN_ap, oNotN_ap, asI_ap, oSl_tup, oSl_lst, oZip_tup, oZip_lst, oAddI_ap, oEqS_ap, oNeS_ap, oNe_nil, hv, it, isT, i0, i1, j0, oMul_int m1, oMul_int m2, oMul_int m3, oMul_int m4, ek, lo]
          · exact Wt.fr (bd_divInt (by omega) (nat_lt_pow 60 p2 (by decide)) (nat_lt_pow 60 (show ((f.den : Int) * j * 2).natAbs < 2 ^ 40 by rw [Int.natAbs_mul]; exact mul_lt_pow (m := 30) (n := 10) p3 (by decide)) (by decide)))
        · refine ⟨s0, ?_, hs0.mono (by decide)⟩
          have i1 : ∀ ρ M, oIx (.tup [.int i, .int j]) (.int 1) ρ M = some (.ok (.int j), M) := fun _ _ => rfl
          simp -implicitDefEqProofs only [sSeq_ap, sAsg_ap, sPar_ap, sRet_ap, sIf_ap, sExpr_ap, sNext_ap, bnd_ap, ret_ap, bindR_ok, thenR_ok, dVar_ap, varR_ok, seqR_nx, seqR_rt, asgR_ok, gNm_ap, gCn_ap, gcnR_ok, gNl_ap, gTp_fr, gTp_ap, gLs_ap, dCons_ap, dNil_ap, asB_ap, dOr_ap, dAnd_ap, dNot_ap, dAndV_ap, dOrV_ap, dNotV_ap, dIf_ap, oAdd_int, oSub_int, oLt_int, oLe_int, oGt_int, oGe_int, oNeg_int, oEq_int, oNe_int, oEq_fr, oNe_fr, oEq_bl, oNe_bl, oTup_ap, oLst_ap, oCall_ap, oAbs_ap, oMax_ap, oMin_ap, oToInt_b, oToInt_i, oLen_lst, oLen_scr, oLen_tup, oIx_lst, oIx_scr, oAdd_lst, oIx_tup, oIx_fr0, oIx_fr1, ixR_ok, oItL_ap, oItT_ap, sFor_ap, startD, List.map_cons, List.map_nil, List.length_cons, List.length_nil, List.replicate_succ, List.replicate_zero, List.cons_append, List.nil_append, List.append_nil, List.getElem?_cons_zero, List.getElem?_cons_succ, List.set_cons_zero, List.set_cons_succ, Nat.reduceAdd, Nat.reduceSub, Nat.sub_self, Nat.reduceLeDiff, List.all_cons, List.all_nil, np_fr, np_int, np_bl, np_tup, np_lst, np_str, np_non, Bool.and_self, Bool.and_true, if_true_, if_false_, zero_add', if_tt, if_ff, decide_true, decide_false, Nat.le_refl, oItS_lst, oItS_tup, oTupOf_lst, oTupOf_tup, oLstOf_lst, oLstOf_tup, oRv_lst, oRv_tup, oAdd_tup, dChain_ap, asTru_bl, asTru_tup, asTru_lst, oIsN_ap, oNotN_ap, asI_ap, oSl_tup, oSl_lst, oZip_tup, oZip_lst, oAddI_ap, oEqS_ap, oNeS_ap, oNe_nil, hv, it, isT, i1, j0, decide_false, Bool.false_eq_true]
    · refine ⟨s0, ?_, hs0.mono (by decide)⟩
      simp -implicitDefEqProofs only [sSeq_ap, sAsg_ap, sPar_ap, sRet_ap, sIf_ap, sExpr_ap, sNext_ap, bnd_ap, ret_ap, bindR_ok, thenR_ok, dVar_ap, varR_ok, seqR_nx, seqR_rt, asgR_ok, gNm_ap, gCn_ap, gcnR_ok, gNl_ap, gTp_fr, gTp_ap, gLs_ap, dCons_ap, dNil_ap, asB_ap, dOr_ap, dAnd_ap, dNot_ap, dAndV_ap, dOrV_ap, dNotV_ap, dIf_ap, oAdd_int, oSub_int, oLt_int, oLe_int, oGt_int, oGe_int, oNeg_int, oEq_int, oNe_int, oEq_fr, oNe_fr, oEq_bl, oNe_bl, oTup_ap, oLst_ap, oCall_ap, oAbs_ap, oMax_ap, oMin_ap, oToInt_b, oToInt_i, oLen_lst, oLen_scr, oLen_tup, oIx_lst, oIx_scr, oAdd_lst, oIx_tup, oIx_fr0, oIx_fr1, ixR_ok, oItL_ap, oItT_ap, sFor_ap, startD, List.map_cons, List.map_nil, List.length_cons, List.length_nil, List.replicate_succ, List.replicate_zero, List.cons_append, List.nil_append, List.append_nil, List.getElem?_cons_zero, List.getElem?_cons_succ, List.set_cons_zero, List.set_cons_succ, Nat.reduceAdd, Nat.reduceSub, Nat.sub_self, Nat.reduceLeDiff, List.all_cons, List.all_nil, np_fr, np_int, np_bl, np_tup, np_lst, np_str, np_non, Bool.and_self, Bool.and_true, if_true_, if_false_, zero_add', if_tt, if_ff, decide_true, decide_false, Nat.le_refl, oItS_lst, oItS_tup, oTupOf_lst, oTupOf_tup, oLstOf_lst, oLstOf_tup, oRv_lst, oRv_tup, oAdd_tup, dChain_ap, asTru_bl, asTru_tup, asTru_lst, oIsN_ap, oNotN_ap, asI_ap, oSl_tup, oSl_lst, oZip_tup, oZip_lst, oAddI_ap, oEqS_ap, oNeS_ap, oNe_nil, hv, decide_false, Bool.false_eq_true]
  obtain ⟨p, M4, e4, hp, t4⟩ := apan_eq t3.has (by omega)
  have t := (t1.trans (t2.trans (t3.trans t4))).mono (c' := c + 8) (by omega)
  have nps := hs.np
  have npp := na_np hp.1.na
  refine ⟨[.str wPour, p, w, s], M4, run_t ?_ t rfl, ⟨by simp, ?_, ?_, ?_⟩, t⟩
  · rw [show startD ["pot", "full", "water", "way", "salt"] [D.ptr n, frQ f] = [some (.ptr n), some (frQ f), none, none, none] from rfl]
    unfold den__law_pour
    rw [seq_step (ρ1 := [some (.ptr n), some (frQ f), some w, none, none]) (M1 := M1) (by simp -implicitDefEqProofs only [sSeq_ap, sAsg_ap, sPar_ap, sRet_ap, sIf_ap, sExpr_ap, sNext_ap, bnd_ap, ret_ap, bindR_ok, thenR_ok, dVar_ap, varR_ok, seqR_nx, seqR_rt, asgR_ok, gNm_ap, gCn_ap, gcnR_ok, gNl_ap, gTp_fr, gTp_ap, gLs_ap, dCons_ap, dNil_ap, asB_ap, dOr_ap, dAnd_ap, dNot_ap, dAndV_ap, dOrV_ap, dNotV_ap, dIf_ap, oAdd_int, oSub_int, oLt_int, oLe_int, oGt_int, oGe_int, oNeg_int, oEq_int, oNe_int, oEq_fr, oNe_fr, oEq_bl, oNe_bl, oTup_ap, oLst_ap, oCall_ap, oAbs_ap, oMax_ap, oMin_ap, oToInt_b, oToInt_i, oLen_lst, oLen_scr, oLen_tup, oIx_lst, oIx_scr, oAdd_lst, oIx_tup, oIx_fr0, oIx_fr1, ixR_ok, oItL_ap, oItT_ap, sFor_ap, startD, List.map_cons, List.map_nil, List.length_cons, List.length_nil, List.replicate_succ, List.replicate_zero, List.cons_append, List.nil_append, List.append_nil, List.getElem?_cons_zero, List.getElem?_cons_succ, List.set_cons_zero, List.set_cons_succ, Nat.reduceAdd, Nat.reduceSub, Nat.sub_self, Nat.reduceLeDiff, List.all_cons, List.all_nil, np_fr, np_int, np_bl, np_tup, np_lst, np_str, np_non, Bool.and_self, Bool.and_true, if_true_, if_false_, zero_add', if_tt, if_ff, decide_true, decide_false, Nat.le_refl, oItS_lst, oItS_tup, oTupOf_lst, oTupOf_tup, oLstOf_lst, oLstOf_tup, oRv_lst, oRv_tup, oAdd_tup, dChain_ap, asTru_bl, asTru_tup, asTru_lst, oIsN_ap, oNotN_ap, asI_ap, oSl_tup, oSl_lst, oZip_tup, oZip_lst, oAddI_ap, oEqS_ap, oNeS_ap, oNe_nil, e1])]
    rw [seq_step (ρ1 := [some (.ptr n), some (frQ f), some w, some (.int v), none]) (M1 := M2) (by simp -implicitDefEqProofs only [sSeq_ap, sAsg_ap, sPar_ap, sRet_ap, sIf_ap, sExpr_ap, sNext_ap, bnd_ap, ret_ap, bindR_ok, thenR_ok, dVar_ap, varR_ok, seqR_nx, seqR_rt, asgR_ok, gNm_ap, gCn_ap, gcnR_ok, gNl_ap, gTp_fr, gTp_ap, gLs_ap, dCons_ap, dNil_ap, asB_ap, dOr_ap, dAnd_ap, dNot_ap, dAndV_ap, dOrV_ap, dNotV_ap, dIf_ap, oAdd_int, oSub_int, oLt_int, oLe_int, oGt_int, oGe_int, oNeg_int, oEq_int, oNe_int, oEq_fr, oNe_fr, oEq_bl, oNe_bl, oTup_ap, oLst_ap, oCall_ap, oAbs_ap, oMax_ap, oMin_ap, oToInt_b, oToInt_i, oLen_lst, oLen_scr, oLen_tup, oIx_lst, oIx_scr, oAdd_lst, oIx_tup, oIx_fr0, oIx_fr1, ixR_ok, oItL_ap, oItT_ap, sFor_ap, startD, List.map_cons, List.map_nil, List.length_cons, List.length_nil, List.replicate_succ, List.replicate_zero, List.cons_append, List.nil_append, List.append_nil, List.getElem?_cons_zero, List.getElem?_cons_succ, List.set_cons_zero, List.set_cons_succ, Nat.reduceAdd, Nat.reduceSub, Nat.sub_self, Nat.reduceLeDiff, List.all_cons, List.all_nil, np_fr, np_int, np_bl, np_tup, np_lst, np_str, np_non, Bool.and_self, Bool.and_true, if_true_, if_false_, zero_add', if_tt, if_ff, decide_true, decide_false, Nat.le_refl, oItS_lst, oItS_tup, oTupOf_lst, oTupOf_tup, oLstOf_lst, oLstOf_tup, oRv_lst, oRv_tup, oAdd_tup, dChain_ap, asTru_bl, asTru_tup, asTru_lst, oIsN_ap, oNotN_ap, asI_ap, oSl_tup, oSl_lst, oZip_tup, oZip_lst, oAddI_ap, oEqS_ap, oNeS_ap, oNe_nil, e2])]
    rw [seq_step (ρ1 := [some (.ptr n), some (frQ f), some w, some (.int v), some s0]) (M1 := M3) (by simp -implicitDefEqProofs only [sSeq_ap, sAsg_ap, sPar_ap, sRet_ap, sIf_ap, sExpr_ap, sNext_ap, bnd_ap, ret_ap, bindR_ok, thenR_ok, dVar_ap, varR_ok, seqR_nx, seqR_rt, asgR_ok, gNm_ap, gCn_ap, gcnR_ok, gNl_ap, gTp_fr, gTp_ap, gLs_ap, dCons_ap, dNil_ap, asB_ap, dOr_ap, dAnd_ap, dNot_ap, dAndV_ap, dOrV_ap, dNotV_ap, dIf_ap, oAdd_int, oSub_int, oLt_int, oLe_int, oGt_int, oGe_int, oNeg_int, oEq_int, oNe_int, oEq_fr, oNe_fr, oEq_bl, oNe_bl, oTup_ap, oLst_ap, oCall_ap, oAbs_ap, oMax_ap, oMin_ap, oToInt_b, oToInt_i, oLen_lst, oLen_scr, oLen_tup, oIx_lst, oIx_scr, oAdd_lst, oIx_tup, oIx_fr0, oIx_fr1, ixR_ok, oItL_ap, oItT_ap, sFor_ap, startD, List.map_cons, List.map_nil, List.length_cons, List.length_nil, List.replicate_succ, List.replicate_zero, List.cons_append, List.nil_append, List.append_nil, List.getElem?_cons_zero, List.getElem?_cons_succ, List.set_cons_zero, List.set_cons_succ, Nat.reduceAdd, Nat.reduceSub, Nat.sub_self, Nat.reduceLeDiff, List.all_cons, List.all_nil, np_fr, np_int, np_bl, np_tup, np_lst, np_str, np_non, Bool.and_self, Bool.and_true, if_true_, if_false_, zero_add', if_tt, if_ff, decide_true, decide_false, Nat.le_refl, oItS_lst, oItS_tup, oTupOf_lst, oTupOf_tup, oLstOf_lst, oLstOf_tup, oRv_lst, oRv_tup, oAdd_tup, dChain_ap, asTru_bl, asTru_tup, asTru_lst, oIsN_ap, oNotN_ap, asI_ap, oSl_tup, oSl_lst, oZip_tup, oZip_lst, oAddI_ap, oEqS_ap, oNeS_ap, oNe_nil, e3])]
    rw [seq_step sI]
    simp -implicitDefEqProofs only [sSeq_ap, sAsg_ap, sPar_ap, sRet_ap, sIf_ap, sExpr_ap, sNext_ap, bnd_ap, ret_ap, bindR_ok, thenR_ok, dVar_ap, varR_ok, seqR_nx, seqR_rt, asgR_ok, gNm_ap, gCn_ap, gcnR_ok, gNl_ap, gTp_fr, gTp_ap, gLs_ap, dCons_ap, dNil_ap, asB_ap, dOr_ap, dAnd_ap, dNot_ap, dAndV_ap, dOrV_ap, dNotV_ap, dIf_ap, oAdd_int, oSub_int, oLt_int, oLe_int, oGt_int, oGe_int, oNeg_int, oEq_int, oNe_int, oEq_fr, oNe_fr, oEq_bl, oNe_bl, oTup_ap, oLst_ap, oCall_ap, oAbs_ap, oMax_ap, oMin_ap, oToInt_b, oToInt_i, oLen_lst, oLen_scr, oLen_tup, oIx_lst, oIx_scr, oAdd_lst, oIx_tup, oIx_fr0, oIx_fr1, ixR_ok, oItL_ap, oItT_ap, sFor_ap, startD, List.map_cons, List.map_nil, List.length_cons, List.length_nil, List.replicate_succ, List.replicate_zero, List.cons_append, List.nil_append, List.append_nil, List.getElem?_cons_zero, List.getElem?_cons_succ, List.set_cons_zero, List.set_cons_succ, Nat.reduceAdd, Nat.reduceSub, Nat.sub_self, Nat.reduceLeDiff, List.all_cons, List.all_nil, np_fr, np_int, np_bl, np_tup, np_lst, np_str, np_non, Bool.and_self, Bool.and_true, if_true_, if_false_, zero_add', if_tt, if_ff, decide_true, decide_false, Nat.le_refl, oItS_lst, oItS_tup, oTupOf_lst, oTupOf_tup, oLstOf_lst, oLstOf_tup, oRv_lst, oRv_tup, oAdd_tup, dChain_ap, asTru_bl, asTru_tup, asTru_lst, oIsN_ap, oNotN_ap, asI_ap, oSl_tup, oSl_lst, oZip_tup, oZip_lst, oAddI_ap, oEqS_ap, oNeS_ap, oNe_nil, e4, npw, nps, npp]
  · intro e he
    simp -implicitDefEqProofs only [List.mem_cons, List.not_mem_nil, or_false] at he
    rcases he with h | h | h | h <;> subst h
    · exact el_str w0.1
    · exact hp
    · exact hw.el (by decide)
    · exact hs.el (by decide)
  · intro a p' w' s' h
    simp -implicitDefEqProofs only [List.cons.injEq, and_true] at h
    rw [← h.2.2.2]; exact hs
  · intro a b e h
    simp at h
end
/-! deeds, and things spoilt -/
abbrev howL : List D := [.str (Str.ofString "under"), .str (Str.ofString "over"), .str (Str.ofString "over"), .str (Str.ofString "Over"), .str (Str.ofString ""), .non, .int 0, .str (Str.ofString "under "), .lst [], .emp]
abbrev anyL : List D := [.bl true, .bl false, .int 0, .int 1, .non, .bl false]
theorem el_how : ∀ d ∈ howL, Elw d := by
  have w := w_in
  simp -implicitDefEqProofs only [List.mem_cons, List.not_mem_nil, or_false]
  rintro d (h | h | h | h | h | h | h | h | h | h) <;> subst h
  · exact el_str w.2.2.2.2.2.2.2.2.2.1
  · exact el_str w.2.2.2.2.2.2.2.2.2.2.1
  · exact el_str w.2.2.2.2.2.2.2.2.2.2.1
  · exact el_str w.2.2.2.2.2.2.2.2.2.2.2.1
  · exact el_str w.2.2.2.2.2.2.1
  · exact el_non
  · exact el_int (by decide)
  · exact el_str w.2.2.2.2.2.2.2.2.2.2.2.2
  · exact el_l0
  · exact el_emp
theorem el_any : ∀ d ∈ anyL, Elw d := by
  simp -implicitDefEqProofs only [List.mem_cons, List.not_mem_nil, or_false]
  rintro d (h | h | h | h | h | h) <;> subst h <;> first | exact el_bl _ | exact el_int (by decide) | exact el_non
theorem dk_lead {p b w k y : D} (hp : Elw p) (hb : Elw b) (hw : Elw w) (hk : Elw k) (hy : Elw y) : Dk [.str wLead, p, b, w, k, y] := by
  refine ⟨by simp, fun e he => ?_, fun a p w s h => by simp at h, fun a b e h => by simp at h⟩
  simp -implicitDefEqProofs only [List.mem_cons, List.not_mem_nil, or_false] at he
  rcases he with h | h | h | h | h | h <;> subst h
  · exact el_str w_in.2.1
  · exact hp
  · exact hb
  · exact hw
  · exact hk
  · exact hy
theorem dk_let {p w : D} (hp : Elw p) (hw : Elw w) : Dk [.str wLet, p, w] := by
  refine ⟨by simp, fun e he => ?_, fun a p w s h => by simp at h, fun a b e h => by simp at h; exact h.1.symm⟩
  simp -implicitDefEqProofs only [List.mem_cons, List.not_mem_nil, or_false] at he
  rcases he with h | h | h <;> subst h
  · exact el_str w_in.2.2.1
  · exact hp
  · exact hw
theorem dk_pan {z : Str} {p : D} (hz : z ∈ wordsL) (hp : Elw p) : Dk [.str z, p] := by
  refine ⟨by simp, fun e he => ?_, fun a p w s h => by simp at h, fun a b e h => by simp at h⟩
  simp -implicitDefEqProofs only [List.mem_cons, List.not_mem_nil, or_false] at he
  rcases he with h | h <;> subst h
  · exact el_str hz
  · exact hp
section
variable {c n : Nat} {M : Mem} {f : Rat}
theorem ldeed_eq (bf : Bd 10 f) (hr : HasReel c n M) (hc : c + 40 < 2 ^ 30) : ∃ (ds : List D) (M' : Mem), F__law_deed [.ptr n, frQ f] M = some (.ok (.tup ds), M') ∧ Dk ds ∧ Turned (c + 20) n M M' := by
  obtain ⟨v, M1, e1, v0, v1, t1⟩ := take_eq (m := 7) hr (by omega) (by decide) (small_lt _ (by decide) (by decide))
  by_cases c2 : v < 2
  · obtain ⟨ds, M2, e2, hd, t2⟩ := lpour_eq bf t1.has (by omega)
    have t := (t1.trans t2).mono (c' := c + 20) (by omega)
    refine ⟨ds, M2, run_t ?_ t rfl, hd, t⟩
    simp -implicitDefEqProofs only [den__law_deed, sSeq_ap, sAsg_ap, sPar_ap, sRet_ap, sIf_ap, sExpr_ap, sNext_ap, bnd_ap, ret_ap, bindR_ok, thenR_ok, dVar_ap, varR_ok, seqR_nx, seqR_rt, asgR_ok, gNm_ap, gCn_ap, gcnR_ok, gNl_ap, gTp_fr, gTp_ap, gLs_ap, dCons_ap, dNil_ap, asB_ap, dOr_ap, dAnd_ap, dNot_ap, dAndV_ap, dOrV_ap, dNotV_ap, dIf_ap, oAdd_int, oSub_int, oLt_int, oLe_int, oGt_int, oGe_int, oNeg_int, oEq_int, oNe_int, oEq_fr, oNe_fr, oEq_bl, oNe_bl, oTup_ap, oLst_ap, oCall_ap, oAbs_ap, oMax_ap, oMin_ap, oToInt_b, oToInt_i, oLen_lst, oLen_scr, oLen_tup, oIx_lst, oIx_scr, oAdd_lst, oIx_tup, oIx_fr0, oIx_fr1, ixR_ok, oItL_ap, oItT_ap, sFor_ap, startD, List.map_cons, List.map_nil, List.length_cons, List.length_nil, List.replicate_succ, List.replicate_zero, List.cons_append, List.nil_append, List.append_nil, List.getElem?_cons_zero, List.getElem?_cons_succ, List.set_cons_zero, List.set_cons_succ, Nat.reduceAdd, Nat.reduceSub, Nat.sub_self, Nat.reduceLeDiff, List.all_cons, List.all_nil, np_fr, np_int, np_bl, np_tup, np_lst, np_str, np_non, Bool.and_self, Bool.and_true, if_true_, if_false_, zero_add', if_tt, if_ff, decide_true, decide_false, Nat.le_refl, oItS_lst, oItS_tup, oTupOf_lst, oTupOf_tup, oLstOf_lst, oLstOf_tup, oRv_lst, oRv_tup, oAdd_tup, dChain_ap, asTru_bl, asTru_tup, asTru_lst, oIsN_ap, oNotN_ap, asI_ap, oSl_tup, oSl_lst, oZip_tup, oZip_lst, oAddI_ap, oEqS_ap, oNeS_ap, oNe_nil, e1, c2, e2]
  · obtain ⟨p, M2, e2, hp, t2⟩ := apan_eq t1.has (by omega)
    have npp := na_np hp.1.na
    by_cases c4 : v < 4
    · obtain ⟨x, M3, e3, x0, x1, t3⟩ := take_eq (m := 10) t2.has (by omega) (by decide) (small_lt _ (by decide) (by decide))
      obtain ⟨k, ek, mk⟩ := atI_mem (l := howL) x0 (by simpa using x1)
      obtain ⟨y, M4, e4, y0, y1, t4⟩ := take_eq (m := 6) t3.has (by omega) (by decide) (small_lt _ (by decide) (by decide))
      obtain ⟨a, ea, ma⟩ := atI_mem (l := anyL) y0 (by simpa using y1)
      obtain ⟨b, M5, e5, hb, t5⟩ := apan_eq t4.has (by omega)
      obtain ⟨w, M6, e6, hw, t6⟩ := awater_eq t5.has (by omega)
      have hk := el_how k mk
      have ha := el_any a ma
      have npk := na_np hk.1.na
      have npa := na_np ha.1.na
      have npb := na_np hb.1.na
      have npw := hw.np
      have t := (t1.trans (t2.trans (t3.trans (t4.trans (t5.trans t6))))).mono (c' := c + 20) (by omega)
      refine ⟨[.str wLead, p, b, w, k, a], M6, run_t ?_ t rfl, dk_lead hp hb (hw.el (by decide)) hk ha, t⟩
      have nl : (D.lst []).np = true := rfl
      simp -implicitDefEqProofs only [den__law_deed, sSeq_ap, sAsg_ap, sPar_ap, sRet_ap, sIf_ap, sExpr_ap, sNext_ap, bnd_ap, ret_ap, bindR_ok, thenR_ok, dVar_ap, varR_ok, seqR_nx, seqR_rt, asgR_ok, gNm_ap, gCn_ap, gcnR_ok, gNl_ap, gTp_fr, gTp_ap, gLs_ap, dCons_ap, dNil_ap, asB_ap, dOr_ap, dAnd_ap, dNot_ap, dAndV_ap, dOrV_ap, dNotV_ap, dIf_ap, oAdd_int, oSub_int, oLt_int, oLe_int, oGt_int, oGe_int, oNeg_int, oEq_int, oNe_int, oEq_fr, oNe_fr, oEq_bl, oNe_bl, oTup_ap, oLst_ap, oCall_ap, oAbs_ap, oMax_ap, oMin_ap, oToInt_b, oToInt_i, oLen_lst, oLen_scr, oLen_tup, oIx_lst, oIx_scr, oAdd_lst, oIx_tup, oIx_fr0, oIx_fr1, ixR_ok, oItL_ap, oItT_ap, sFor_ap, startD, List.map_cons, List.map_nil, List.length_cons, List.length_nil, List.replicate_succ, List.replicate_zero, List.cons_append, List.nil_append, List.append_nil, List.getElem?_cons_zero, List.getElem?_cons_succ, List.set_cons_zero, List.set_cons_succ, Nat.reduceAdd, Nat.reduceSub, Nat.sub_self, Nat.reduceLeDiff, List.all_cons, List.all_nil, np_fr, np_int, np_bl, np_tup, np_lst, np_str, np_non, Bool.and_self, Bool.and_true, if_true_, if_false_, zero_add', if_tt, if_ff, decide_true, decide_false, Nat.le_refl, oItS_lst, oItS_tup, oTupOf_lst, oTupOf_tup, oLstOf_lst, oLstOf_tup, oRv_lst, oRv_tup, oAdd_tup, dChain_ap, asTru_bl, asTru_tup, asTru_lst, oIsN_ap, oNotN_ap, asI_ap, oSl_tup, oSl_lst, oZip_tup, oZip_lst, oAddI_ap, oEqS_ap, oNeS_ap, oNe_nil, e1, c2, e2, c4, np_emp, nl, e3, ek, e4, ea, e5, e6, npp, npb, npw, npk, npa, decide_false, Bool.false_eq_true]
    · by_cases c5 : v = 4
      · obtain ⟨w, M6, e6, hw, t6⟩ := awater_eq t2.has (by omega)
        have npw := hw.np
        have t := (t1.trans (t2.trans t6)).mono (c' := c + 20) (by omega)
        refine ⟨[.str wLet, p, w], M6, run_t ?_ t rfl, dk_let hp (hw.el (by decide)), t⟩
        have c2' : decide (v < 2) = false := decide_eq_false c2
        have c4' : decide (v < 4) = false := decide_eq_false c4
        have c5' : decide (v = 4) = true := decide_eq_true c5
        simp -implicitDefEqProofs only [den__law_deed, sSeq_ap, sAsg_ap, sPar_ap, sRet_ap, sIf_ap, sExpr_ap, sNext_ap, bnd_ap, ret_ap, bindR_ok, thenR_ok, dVar_ap, varR_ok, seqR_nx, seqR_rt, asgR_ok, gNm_ap, gCn_ap, gcnR_ok, gNl_ap, gTp_fr, gTp_ap, gLs_ap, dCons_ap, dNil_ap, asB_ap, dOr_ap, dAnd_ap, dNot_ap, dAndV_ap, dOrV_ap, dNotV_ap, dIf_ap, oAdd_int, oSub_int, oLt_int, oLe_int, oGt_int, oGe_int, oNeg_int, oEq_int, oNe_int, oEq_fr, oNe_fr, oEq_bl, oNe_bl, oTup_ap, oLst_ap, oCall_ap, oAbs_ap, oMax_ap, oMin_ap, oToInt_b, oToInt_i, oLen_lst, oLen_scr, oLen_tup, oIx_lst, oIx_scr, oAdd_lst, oIx_tup, oIx_fr0, oIx_fr1, ixR_ok, oItL_ap, oItT_ap, sFor_ap, startD, List.map_cons, List.map_nil, List.length_cons, List.length_nil, List.replicate_succ, List.replicate_zero, List.cons_append, List.nil_append, List.append_nil, List.getElem?_cons_zero, List.getElem?_cons_succ, List.set_cons_zero, List.set_cons_succ, Nat.reduceAdd, Nat.reduceSub, Nat.sub_self, Nat.reduceLeDiff, List.all_cons, List.all_nil, np_fr, np_int, np_bl, np_tup, np_lst, np_str, np_non, Bool.and_self, Bool.and_true, if_true_, if_false_, zero_add', if_tt, if_ff, decide_true, decide_false, Nat.le_refl, oItS_lst, oItS_tup, oTupOf_lst, oTupOf_tup, oLstOf_lst, oLstOf_tup, oRv_lst, oRv_tup, oAdd_tup, dChain_ap, asTru_bl, asTru_tup, asTru_lst, oIsN_ap, oNotN_ap, asI_ap, oSl_tup, oSl_lst, oZip_tup, oZip_lst, oAddI_ap, oEqS_ap, oNeS_ap, oNe_nil, e1, c2', e2, c4', c5', e6, npp, npw, Bool.false_eq_true]
      · obtain ⟨z, ez, hz⟩ : ∃ z : Str, atI [D.str wRake, .str wStir] (v - 5) = some (.str z) ∧ z ∈ wordsL := by
          have : v = 5 ∨ v = 6 := by omega
          rcases this with h | h <;> subst h
          · exact ⟨wRake, rfl, w_in.2.2.2.1⟩
          · exact ⟨wStir, rfl, w_in.2.2.2.2.1⟩
        have t := (t1.trans t2).mono (c' := c + 20) (by omega)
        refine ⟨[.str z, p], M2, run_t ?_ t rfl, dk_pan hz hp, t⟩
        simp -implicitDefEqProofs only [den__law_deed, sSeq_ap, sAsg_ap, sPar_ap, sRet_ap, sIf_ap, sExpr_ap, sNext_ap, bnd_ap, ret_ap, bindR_ok, thenR_ok, dVar_ap, varR_ok, seqR_nx, seqR_rt, asgR_ok, gNm_ap, gCn_ap, gcnR_ok, gNl_ap, gTp_fr, gTp_ap, gLs_ap, dCons_ap, dNil_ap, asB_ap, dOr_ap, dAnd_ap, dNot_ap, dAndV_ap, dOrV_ap, dNotV_ap, dIf_ap, oAdd_int, oSub_int, oLt_int, oLe_int, oGt_int, oGe_int, oNeg_int, oEq_int, oNe_int, oEq_fr, oNe_fr, oEq_bl, oNe_bl, oTup_ap, oLst_ap, oCall_ap, oAbs_ap, oMax_ap, oMin_ap, oToInt_b, oToInt_i, oLen_lst, oLen_scr, oLen_tup, oIx_lst, oIx_scr, oAdd_lst, oIx_tup, oIx_fr0, oIx_fr1, ixR_ok, oItL_ap, oItT_ap, sFor_ap, startD, List.map_cons, List.map_nil, List.length_cons, List.length_nil, List.replicate_succ, List.replicate_zero, List.cons_append, List.nil_append, List.append_nil, List.getElem?_cons_zero, List.getElem?_cons_succ, List.set_cons_zero, List.set_cons_succ, Nat.reduceAdd, Nat.reduceSub, Nat.sub_self, Nat.reduceLeDiff, List.all_cons, List.all_nil, np_fr, np_int, np_bl, np_tup, np_lst, np_str, np_non, Bool.and_self, Bool.and_true, if_true_, if_false_, zero_add', if_tt, if_ff, decide_true, decide_false, Nat.le_refl, oItS_lst, oItS_tup, oTupOf_lst, oTupOf_tup, oLstOf_lst, oLstOf_tup, oRv_lst, oRv_tup, oAdd_tup, dChain_ap, asTru_bl, asTru_tup, asTru_lst, oIsN_ap, oNotN_ap, asI_ap, oSl_tup, oSl_lst, oZip_tup, oZip_lst, oAddI_ap, oEqS_ap, oNeS_ap, oNe_nil, e1, c2, e2, c4, c5, ez, npp, decide_false, Bool.false_eq_true]
theorem tok_row {ds : List D} (hl : ds.length ≤ 12) (hel : ∀ e ∈ ds, Elw e) (h4 : ∀ p w s, ds = [.str wPour, p, w, s] → Wt 60 s) : TOk (.tup ds) :=
  ⟨rfl, fun ds' e => by injection e with e; subst e; exact ⟨hl, hel⟩, fun p w s e => by
    injection e with e
    obtain ⟨i, j, _, _, h⟩ := h4 p w s e
    exact ⟨i, j, h⟩⟩
theorem tok_other {d : D} (h : d.np = true) (ht : isT d = false) : TOk d := ⟨h, fun ds e => (by subst e; cases ht), fun p w s e => (by subst e; cases ht)⟩
abbrev someL : List D := [.str wPour, .str wLead, .str wLet, .str wRake, .str wStir, .str (Str.ofString "Rake"), .str (Str.ofString ""), .str (Str.ofString "stirs"), .non, .int 1, .bl true, .tup [.str wLet], .lst [], .emp, .lst [.int 1]]
theorem el_some : ∀ d ∈ someL, Elw d := by
  have w := w_in
  simp -implicitDefEqProofs only [List.mem_cons, List.not_mem_nil, or_false]
  rintro d (h | h | h | h | h | h | h | h | h | h | h | h | h | h | h) <;> subst h
  · exact el_str w.1
  · exact el_str w.2.1
  · exact el_str w.2.2.1
  · exact el_str w.2.2.2.1
  · exact el_str w.2.2.2.2.1
  · exact el_str w.2.2.2.2.2.1
  · exact el_str w.2.2.2.2.2.2.1
  · exact el_str w.2.2.2.2.2.2.2.1
  · exact el_non
  · exact el_int (by decide)
  · exact el_bl _
  · exact el_ts w.2.2.1
  · exact el_l0
  · exact el_emp
  · exact el_l1 (by decide)
abbrev oddD : List D := [.non, .tup [], .str wRake, .int 0, .emp, .bl true, .lst [], .tup [.str wRake]]
theorem tok_odd : ∀ d ∈ oddD, TOk d := by
  have w := w_in
  simp -implicitDefEqProofs only [List.mem_cons, List.not_mem_nil, or_false]
  rintro d (h | h | h | h | h | h | h | h) <;> subst h
  · exact tok_other rfl rfl
  · exact tok_row (by simp) (by simp) (by simp)
  · exact tok_other rfl rfl
  · exact tok_other rfl rfl
  · exact tok_other rfl rfl
  · exact tok_other rfl rfl
  · exact tok_other rfl rfl
  · exact tok_row (by simp) (fun e he => by
      simp -implicitDefEqProofs only [List.mem_cons, List.not_mem_nil, or_false] at he
      subst he; exact el_str w.2.2.2.1) (by simp)
theorem wLet_ne : (D.str wLet) ≠ .str wPour := fun h => by
  injection h with h
  exact words_ne.2.1 h
theorem dup_ne {ds : List D} (h : Dk ds) (k : Nat) (hk : k < ds.length) (p w s : D) : ds.take (k + 1) ++ ds.drop k ≠ [.str wPour, p, w, s] := fun e => by
  have hl := congrArg List.length e
  rw [List.length_append, List.length_take, List.length_drop] at hl
  simp -implicitDefEqProofs only [List.length_cons, List.length_nil] at hl
  have h3 : ds.length = 3 := by have := h.len; omega
  match ds, h3, h, e with
  | [a, b, c], _, h, e =>
    have ha := h.s3 a b c rfl
    subst ha
    rw [List.take_succ_cons, List.cons_append] at e
    injection e with e1 _
    exact wLet_ne e1
theorem drop_ne {ds : List D} (h : Dk ds) (k : Nat) (hk : k < ds.length) (p w s : D) : ds.take k ++ ds.drop (k + 1) ≠ [.str wPour, p, w, s] := fun e => by
  have hl := congrArg List.length e
  rw [List.length_append, List.length_take, List.length_drop] at hl
  simp -implicitDefEqProofs only [List.length_cons, List.length_nil] at hl
  have := h.len
  omega
theorem lspoilt_eq {ds : List D} (hd : Dk ds) (hr : HasReel c n M) (hc : c + 40 < 2 ^ 30) : ∃ (d : D) (M' : Mem), F__law_spoilt [.ptr n, .tup ds] M = some (.ok d, M') ∧ TOk d ∧ Turned (c + 5) n M M' := by
  have hl := hd.len
  obtain ⟨v, M1, e1, v0, v1, t1⟩ := take_eq (m := 12) hr (by omega) (by decide) (small_lt _ (by decide) (by decide))
  obtain ⟨a, M2, e2, a0, a1, t2⟩ := take_eq (m := (ds.length : Int)) t1.has (by omega) (by omega) (small_lt _ (by omega) (by omega))
  obtain ⟨x, M3, e3, x0, x1, t3⟩ := take_eq (m := 15) t2.has (by omega) (by decide) (small_lt _ (by decide) (by decide))
  obtain ⟨w, ew, mw⟩ := atI_mem (l := someL) x0 (by simpa using x1)
  have hw := el_some w mw
  have npw := na_np hw.1.na
  obtain ⟨k, rfl⟩ : ∃ k : Nat, a = (k : Int) := ⟨a.toNat, by omega⟩
  have k1 : ((k : Int) + 1) = ((k + 1 : Nat) : Int) := by omega
  have hk : k < ds.length := by omega
  have cA : cutD ds none (some (k : Int)) = ds.take k := cut_take' ds k
  have cB : cutD ds (some (k : Int)) none = ds.drop k := cut_drop' ds k
  have cC : cutD ds none (some ((k : Int) + 1)) = ds.take (k + 1) := by rw [k1]; exact cut_take' ds (k + 1)
  have cE : cutD ds (some ((k : Int) + 1)) none = ds.drop (k + 1) := by rw [k1]; exact cut_drop' ds (k + 1)
  have cF : cutD ds (some 1) none = ds.drop 1 := cut_drop' ds 1
  have npx : ∀ e ∈ ds, e.np = true := fun e he => na_np (hd.el e he).1.na
  have t13 := (t1.trans (t2.trans t3)).mono (c' := c + 5) (by omega)
  have nl : (D.lst []).np = true := rfl
  have nl1 : (D.lst [.int 1]).np = true := rfl
  have lD : ds.length < 100 := by omega
  have ll : ∀ ρ M, oLen [.tup ds] ρ M = some (.ok (.int ds.length), M) := fun _ _ => rfl
  have s1 : (sAsg (bnd (dCons (dVar 0) (dCons (ret (.int 12)) dNil)) (oCall 2 F__law_take)) (gNm 2)) [some (.ptr n), some (.tup ds), none, none, none, none] M = some (.nx [some (.ptr n), some (.tup ds), some (.int v), none, none, none], M1) := by simp -implicitDefEqProofs only [sSeq_ap, sAsg_ap, sPar_ap, sRet_ap, sIf_ap, sExpr_ap, sNext_ap, bnd_ap, ret_ap, bindR_ok, thenR_ok, dVar_ap, varR_ok, seqR_nx, seqR_rt, asgR_ok, gNm_ap, gCn_ap, gcnR_ok, gNl_ap, gTp_fr, gTp_ap, gLs_ap, dCons_ap, dNil_ap, asB_ap, dOr_ap, dAnd_ap, dNot_ap, dAndV_ap, dOrV_ap, dNotV_ap, dIf_ap, oAdd_int, oSub_int, oLt_int, oLe_int, oGt_int, oGe_int, oNeg_int, oEq_int, oNe_int, oEq_fr, oNe_fr, oEq_bl, oNe_bl, oTup_ap, oLst_ap, oCall_ap, oAbs_ap, oMax_ap, oMin_ap, oToInt_b, oToInt_i, oLen_lst, oLen_scr, oLen_tup, oIx_lst, oIx_scr, oAdd_lst, oIx_tup, oIx_fr0, oIx_fr1, ixR_ok, oItL_ap, oItT_ap, sFor_ap, startD, List.map_cons, List.map_nil, List.length_cons, List.length_nil, List.replicate_succ, List.replicate_zero, List.cons_append, List.nil_append, List.append_nil, List.getElem?_cons_zero, List.getElem?_cons_succ, List.set_cons_zero, List.set_cons_succ, Nat.reduceAdd, Nat.reduceSub, Nat.sub_self, Nat.reduceLeDiff, List.all_cons, List.all_nil, np_fr, np_int, np_bl, np_tup, np_lst, np_str, np_non, Bool.and_self, Bool.and_true, if_true_, if_false_, zero_add', if_tt, if_ff, decide_true, decide_false, Nat.le_refl, oItS_lst, oItS_tup, oTupOf_lst, oTupOf_tup, oLstOf_lst, oLstOf_tup, oRv_lst, oRv_tup, oAdd_tup, dChain_ap, asTru_bl, asTru_tup, asTru_lst, oIsN_ap, oNotN_ap, asI_ap, oSl_tup, oSl_lst, oZip_tup, oZip_lst, oAddI_ap, oEqS_ap, oNeS_ap, oNe_nil, e1]
  have s2 : (sAsg (bnd (dCons (dVar 0) (dCons (bnd (dCons (dVar 1) dNil) oLen) dNil)) (oCall 2 F__law_take)) (gNm 3)) [some (.ptr n), some (.tup ds), some (.int v), none, none, none] M1 = some (.nx [some (.ptr n), some (.tup ds), some (.int v), some (.int (k : Int)), none, none], M2) := by simp -implicitDefEqProofs only [sSeq_ap, sAsg_ap, sPar_ap, sRet_ap, sIf_ap, sExpr_ap, sNext_ap, bnd_ap, ret_ap, bindR_ok, thenR_ok, dVar_ap, varR_ok, seqR_nx, seqR_rt, asgR_ok, gNm_ap, gCn_ap, gcnR_ok, gNl_ap, gTp_fr, gTp_ap, gLs_ap, dCons_ap, dNil_ap, asB_ap, dOr_ap, dAnd_ap, dNot_ap, dAndV_ap, dOrV_ap, dNotV_ap, dIf_ap, oAdd_int, oSub_int, oLt_int, oLe_int, oGt_int, oGe_int, oNeg_int, oEq_int, oNe_int, oEq_fr, oNe_fr, oEq_bl, oNe_bl, oTup_ap, oLst_ap, oCall_ap, oAbs_ap, oMax_ap, oMin_ap, oToInt_b, oToInt_i, oLen_lst, oLen_scr, oLen_tup, oIx_lst, oIx_scr, oAdd_lst, oIx_tup, oIx_fr0, oIx_fr1, ixR_ok, oItL_ap, oItT_ap, sFor_ap, startD, List.map_cons, List.map_nil, List.length_cons, List.length_nil, List.replicate_succ, List.replicate_zero, List.cons_append, List.nil_append, List.append_nil, List.getElem?_cons_zero, List.getElem?_cons_succ, List.set_cons_zero, List.set_cons_succ, Nat.reduceAdd, Nat.reduceSub, Nat.sub_self, Nat.reduceLeDiff, List.all_cons, List.all_nil, np_fr, np_int, np_bl, np_tup, np_lst, np_str, np_non, Bool.and_self, Bool.and_true, if_true_, if_false_, zero_add', if_tt, if_ff, decide_true, decide_false, Nat.le_refl, oItS_lst, oItS_tup, oTupOf_lst, oTupOf_tup, oLstOf_lst, oLstOf_tup, oRv_lst, oRv_tup, oAdd_tup, dChain_ap, asTru_bl, asTru_tup, asTru_lst, oIsN_ap, oNotN_ap, asI_ap, oSl_tup, oSl_lst, oZip_tup, oZip_lst, oAddI_ap, oEqS_ap, oNeS_ap, oNe_nil, ll, e2]
  have go : ∀ (d : D) (M' : Mem), (∀ ρ : Env, den__law_spoilt [some (.ptr n), some (.tup ds), none, none, none, none] M = some (.rt d, M')) → Turned (c + 5) n M M' → d.np = true → F__law_spoilt [.ptr n, .tup ds] M = some (.ok d, M') := fun d M' e t hp => by
    refine run_t ?_ t hp
    exact e []
  have pre : ∀ g : Sv, (sSeq (sAsg (bnd (dCons (ret (.str (Str.ofString "pour"))) (dCons (ret (.str (Str.ofString "lead"))) (dCons (ret (.str (Str.ofString "let"))) (dCons (ret (.str (Str.ofString "rake"))) (dCons (ret (.str (Str.ofString "stir"))) (dCons (ret (.str (Str.ofString "Rake"))) (dCons (ret (.str (Str.ofString ""))) (dCons (ret (.str (Str.ofString "stirs"))) (dCons (ret .non) (dCons (ret (.int 1)) (dCons (ret (.bl true)) (dCons (bnd (dCons (ret (.str (Str.ofString "let"))) dNil) oTup) (dCons (bnd dNil oLst) (dCons (ret .emp) (dCons (bnd (dCons (ret (.int 1)) dNil) oLst) dNil))))))))))))))) oLst) (gNm 4)) (sSeq (sAsg (bnd (dVar 4) fun d => bnd (bnd (dCons (dVar 0) (dCons (ret (.int 15)) dNil)) (oCall 2 F__law_take)) fun e => oIx d e) (gNm 5)) g)) [some (.ptr n), some (.tup ds), some (.int v), some (.int (k : Int)), none, none] M2 = g [some (.ptr n), some (.tup ds), some (.int v), some (.int (k : Int)), some (.lst someL), some w] M3 := fun g => by
    rw [seq_step (ρ1 := [some (.ptr n), some (.tup ds), some (.int v), some (.int (k : Int)), some (.lst someL), none]) (M1 := M2) (by simp -implicitDefEqProofs only [sSeq_ap, sAsg_ap, sPar_ap, sRet_ap, sIf_ap, sExpr_ap, sNext_ap, bnd_ap, ret_ap, bindR_ok, thenR_ok, dVar_ap, varR_ok, seqR_nx, seqR_rt, asgR_ok, gNm_ap, gCn_ap, gcnR_ok, gNl_ap, gTp_fr, gTp_ap, gLs_ap, dCons_ap, dNil_ap, asB_ap, dOr_ap, dAnd_ap, dNot_ap, dAndV_ap, dOrV_ap, dNotV_ap, dIf_ap, oAdd_int, oSub_int, oLt_int, oLe_int, oGt_int, oGe_int, oNeg_int, oEq_int, oNe_int, oEq_fr, oNe_fr, oEq_bl, oNe_bl, oTup_ap, oLst_ap, oCall_ap, oAbs_ap, oMax_ap, oMin_ap, oToInt_b, oToInt_i, oLen_lst, oLen_scr, oLen_tup, oIx_lst, oIx_scr, oAdd_lst, oIx_tup, oIx_fr0, oIx_fr1, ixR_ok, oItL_ap, oItT_ap, sFor_ap, startD, List.map_cons, List.map_nil, List.length_cons, List.length_nil, List.replicate_succ, List.replicate_zero, List.cons_append, List.nil_append, List.append_nil, List.getElem?_cons_zero, List.getElem?_cons_succ, List.set_cons_zero, List.set_cons_succ, Nat.reduceAdd, Nat.reduceSub, Nat.sub_self, Nat.reduceLeDiff, List.all_cons, List.all_nil, np_fr, np_int, np_bl, np_tup, np_lst, np_str, np_non, Bool.and_self, Bool.and_true, if_true_, if_false_, zero_add', if_tt, if_ff, decide_true, decide_false, Nat.le_refl, oItS_lst, oItS_tup, oTupOf_lst, oTupOf_tup, oLstOf_lst, oLstOf_tup, oRv_lst, oRv_tup, oAdd_tup, dChain_ap, asTru_bl, asTru_tup, asTru_lst, oIsN_ap, oNotN_ap, asI_ap, oSl_tup, oSl_lst, oZip_tup, oZip_lst, oAddI_ap, oEqS_ap, oNeS_ap, oNe_nil, np_emp, nl, nl1])]
    rw [seq_step (ρ1 := [some (.ptr n), some (.tup ds), some (.int v), some (.int (k : Int)), some (.lst someL), some w]) (M1 := M3) (by simp -implicitDefEqProofs only [sSeq_ap, sAsg_ap, sPar_ap, sRet_ap, sIf_ap, sExpr_ap, sNext_ap, bnd_ap, ret_ap, bindR_ok, thenR_ok, dVar_ap, varR_ok, seqR_nx, seqR_rt, asgR_ok, gNm_ap, gCn_ap, gcnR_ok, gNl_ap, gTp_fr, gTp_ap, gLs_ap, dCons_ap, dNil_ap, asB_ap, dOr_ap, dAnd_ap, dNot_ap, dAndV_ap, dOrV_ap, dNotV_ap, dIf_ap, oAdd_int, oSub_int, oLt_int, oLe_int, oGt_int, oGe_int, oNeg_int, oEq_int, oNe_int, oEq_fr, oNe_fr, oEq_bl, oNe_bl, oTup_ap, oLst_ap, oCall_ap, oAbs_ap, oMax_ap, oMin_ap, oToInt_b, oToInt_i, oLen_lst, oLen_scr, oLen_tup, oIx_lst, oIx_scr, oAdd_lst, oIx_tup, oIx_fr0, oIx_fr1, ixR_ok, oItL_ap, oItT_ap, sFor_ap, startD, List.map_cons, List.map_nil, List.length_cons, List.length_nil, List.replicate_succ, List.replicate_zero, List.cons_append, List.nil_append, List.append_nil, List.getElem?_cons_zero, List.getElem?_cons_succ, List.set_cons_zero, List.set_cons_succ, Nat.reduceAdd, Nat.reduceSub, Nat.sub_self, Nat.reduceLeDiff, List.all_cons, List.all_nil, np_fr, np_int, np_bl, np_tup, np_lst, np_str, np_non, Bool.and_self, Bool.and_true, if_true_, if_false_, zero_add', if_tt, if_ff, decide_true, decide_false, Nat.le_refl, oItS_lst, oItS_tup, oTupOf_lst, oTupOf_tup, oLstOf_lst, oLstOf_tup, oRv_lst, oRv_tup, oAdd_tup, dChain_ap, asTru_bl, asTru_tup, asTru_lst, oIsN_ap, oNotN_ap, asI_ap, oSl_tup, oSl_lst, oZip_tup, oZip_lst, oAddI_ap, oEqS_ap, oNeS_ap, oNe_nil, e3, ew])]
  have ad : ∀ a b : List D, a.length + b.length ≤ 1000 → ∀ ρ M, oAdd (.tup a) (.tup b) ρ M = some (.ok (.tup (a ++ b)), M) := fun a b h ρ M => oAdd_tup a b ρ M (by omega)
  have adA := ad (ds.take k) (ds.drop (k + 1)) (by rw [List.length_take, List.length_drop]; omega)
  have adB := ad (ds.take (k + 1)) (ds.drop k) (by rw [List.length_take, List.length_drop]; omega)
  have adC : ∀ ρ M, oAdd (.tup [w]) (.tup (ds.drop 1)) ρ M = some (.ok (.tup (w :: ds.drop 1)), M) := ad [w] (ds.drop 1) (by rw [List.length_drop]; simp; omega)
  generalize someL = SL at pre
  by_cases c0 : v = 0
  · refine ⟨.tup (ds.take k ++ ds.drop (k + 1)), M3, go _ _ (fun _ => ?_) t13 rfl, tok_row (by simp; omega) (fun e he => ?_) (fun p w s e => absurd e (drop_ne hd k hk p w s)), t13⟩
    · unfold den__law_spoilt
      rw [seq_step s1, seq_step s2, pre]
      simp -implicitDefEqProofs only [sSeq_ap, sAsg_ap, sPar_ap, sRet_ap, sIf_ap, sExpr_ap, sNext_ap, bnd_ap, ret_ap, bindR_ok, thenR_ok, dVar_ap, varR_ok, seqR_nx, seqR_rt, asgR_ok, gNm_ap, gCn_ap, gcnR_ok, gNl_ap, gTp_fr, gTp_ap, gLs_ap, dCons_ap, dNil_ap, asB_ap, dOr_ap, dAnd_ap, dNot_ap, dAndV_ap, dOrV_ap, dNotV_ap, dIf_ap, oAdd_int, oSub_int, oLt_int, oLe_int, oGt_int, oGe_int, oNeg_int, oEq_int, oNe_int, oEq_fr, oNe_fr, oEq_bl, oNe_bl, oTup_ap, oLst_ap, oCall_ap, oAbs_ap, oMax_ap, oMin_ap, oToInt_b, oToInt_i, oLen_lst, oLen_scr, oLen_tup, oIx_lst, oIx_scr, oAdd_lst, oIx_tup, oIx_fr0, oIx_fr1, ixR_ok, oItL_ap, oItT_ap, sFor_ap, startD, List.map_cons, List.map_nil, List.length_cons, List.length_nil, List.replicate_succ, List.replicate_zero, List.cons_append, List.nil_append, List.append_nil, List.getElem?_cons_zero, List.getElem?_cons_succ, List.set_cons_zero, List.set_cons_succ, Nat.reduceAdd, Nat.reduceSub, Nat.sub_self, Nat.reduceLeDiff, List.all_cons, List.all_nil, np_fr, np_int, np_bl, np_tup, np_lst, np_str, np_non, Bool.and_self, Bool.and_true, if_true_, if_false_, zero_add', if_tt, if_ff, decide_true, decide_false, Nat.le_refl, oItS_lst, oItS_tup, oTupOf_lst, oTupOf_tup, oLstOf_lst, oLstOf_tup, oRv_lst, oRv_tup, oAdd_tup, dChain_ap, asTru_bl, asTru_tup, asTru_lst, oIsN_ap, oNotN_ap, asI_ap, oSl_tup, oSl_lst, oZip_tup, oZip_lst, oAddI_ap, oEqS_ap, oNeS_ap, oNe_nil, c0, cA, cE, adA]
    · rcases List.mem_append.mp he with q | q
      · exact hd.el e (List.mem_of_mem_take q)
      · exact hd.el e (List.mem_of_mem_drop q)
  · by_cases c1 : v = 1
    · refine ⟨.tup (ds.take (k + 1) ++ ds.drop k), M3, go _ _ (fun _ => ?_) t13 rfl, tok_row (by simp; omega) (fun e he => ?_) (fun p w s e => absurd e (dup_ne hd k hk p w s)), t13⟩
      · unfold den__law_spoilt
        rw [seq_step s1, seq_step s2, pre]
        have c0' := decide_eq_false c0
        simp -implicitDefEqProofs only [sSeq_ap, sAsg_ap, sPar_ap, sRet_ap, sIf_ap, sExpr_ap, sNext_ap, bnd_ap, ret_ap, bindR_ok, thenR_ok, dVar_ap, varR_ok, seqR_nx, seqR_rt, asgR_ok, gNm_ap, gCn_ap, gcnR_ok, gNl_ap, gTp_fr, gTp_ap, gLs_ap, dCons_ap, dNil_ap, asB_ap, dOr_ap, dAnd_ap, dNot_ap, dAndV_ap, dOrV_ap, dNotV_ap, dIf_ap, oAdd_int, oSub_int, oLt_int, oLe_int, oGt_int, oGe_int, oNeg_int, oEq_int, oNe_int, oEq_fr, oNe_fr, oEq_bl, oNe_bl, oTup_ap, oLst_ap, oCall_ap, oAbs_ap, oMax_ap, oMin_ap, oToInt_b, oToInt_i, oLen_lst, oLen_scr, oLen_tup, oIx_lst, oIx_scr, oAdd_lst, oIx_tup, oIx_fr0, oIx_fr1, ixR_ok, oItL_ap, oItT_ap, sFor_ap, startD, List.map_cons, List.map_nil, List.length_cons, List.length_nil, List.replicate_succ, List.replicate_zero, List.cons_append, List.nil_append, List.append_nil, List.getElem?_cons_zero, List.getElem?_cons_succ, List.set_cons_zero, List.set_cons_succ, Nat.reduceAdd, Nat.reduceSub, Nat.sub_self, Nat.reduceLeDiff, List.all_cons, List.all_nil, np_fr, np_int, np_bl, np_tup, np_lst, np_str, np_non, Bool.and_self, Bool.and_true, if_true_, if_false_, zero_add', if_tt, if_ff, decide_true, decide_false, Nat.le_refl, oItS_lst, oItS_tup, oTupOf_lst, oTupOf_tup, oLstOf_lst, oLstOf_tup, oRv_lst, oRv_tup, oAdd_tup, dChain_ap, asTru_bl, asTru_tup, asTru_lst, oIsN_ap, oNotN_ap, asI_ap, oSl_tup, oSl_lst, oZip_tup, oZip_lst, oAddI_ap, oEqS_ap, oNeS_ap, oNe_nil, c0', decide_eq_true c1, cC, cB, adB, Bool.false_eq_true]
      · rcases List.mem_append.mp he with q | q
        · exact hd.el e (List.mem_of_mem_take q)
        · exact hd.el e (List.mem_of_mem_drop q)
    · by_cases c2 : v = 2
      · refine ⟨.lst ds, M3, go _ _ (fun _ => ?_) t13 rfl, tok_other rfl rfl, t13⟩
        unfold den__law_spoilt
        rw [seq_step s1, seq_step s2, pre]
        simp -implicitDefEqProofs only [sSeq_ap, sAsg_ap, sPar_ap, sRet_ap, sIf_ap, sExpr_ap, sNext_ap, bnd_ap, ret_ap, bindR_ok, thenR_ok, dVar_ap, varR_ok, seqR_nx, seqR_rt, asgR_ok, gNm_ap, gCn_ap, gcnR_ok, gNl_ap, gTp_fr, gTp_ap, gLs_ap, dCons_ap, dNil_ap, asB_ap, dOr_ap, dAnd_ap, dNot_ap, dAndV_ap, dOrV_ap, dNotV_ap, dIf_ap, oAdd_int, oSub_int, oLt_int, oLe_int, oGt_int, oGe_int, oNeg_int, oEq_int, oNe_int, oEq_fr, oNe_fr, oEq_bl, oNe_bl, oTup_ap, oLst_ap, oCall_ap, oAbs_ap, oMax_ap, oMin_ap, oToInt_b, oToInt_i, oLen_lst, oLen_scr, oLen_tup, oIx_lst, oIx_scr, oAdd_lst, oIx_tup, oIx_fr0, oIx_fr1, ixR_ok, oItL_ap, oItT_ap, sFor_ap, startD, List.map_cons, List.map_nil, List.length_cons, List.length_nil, List.replicate_succ, List.replicate_zero, List.cons_append, List.nil_append, List.append_nil, List.getElem?_cons_zero, List.getElem?_cons_succ, List.set_cons_zero, List.set_cons_succ, Nat.reduceAdd, Nat.reduceSub, Nat.sub_self, Nat.reduceLeDiff, List.all_cons, List.all_nil, np_fr, np_int, np_bl, np_tup, np_lst, np_str, np_non, Bool.and_self, Bool.and_true, if_true_, if_false_, zero_add', if_tt, if_ff, decide_true, decide_false, Nat.le_refl, oItS_lst, oItS_tup, oTupOf_lst, oTupOf_tup, oLstOf_lst, oLstOf_tup, oRv_lst, oRv_tup, oAdd_tup, dChain_ap, asTru_bl, asTru_tup, asTru_lst, oIsN_ap, oNotN_ap, asI_ap, oSl_tup, oSl_lst, oZip_tup, oZip_lst, oAddI_ap, oEqS_ap, oNeS_ap, oNe_nil, decide_eq_false c0, decide_eq_false c1, decide_eq_true c2, Bool.false_eq_true]
      · by_cases c3 : v = 3
        · refine ⟨.tup (w :: ds.drop 1), M3, go _ _ (fun _ => ?_) t13 rfl, tok_row (by simp; omega) (fun e he => ?_) (fun p u s e => ?_), t13⟩
          · unfold den__law_spoilt
            rw [seq_step s1, seq_step s2, pre]
            simp -implicitDefEqProofs only [sSeq_ap, sAsg_ap, sPar_ap, sRet_ap, sIf_ap, sExpr_ap, sNext_ap, bnd_ap, ret_ap, bindR_ok, thenR_ok, dVar_ap, varR_ok, seqR_nx, seqR_rt, asgR_ok, gNm_ap, gCn_ap, gcnR_ok, gNl_ap, gTp_fr, gTp_ap, gLs_ap, dCons_ap, dNil_ap, asB_ap, dOr_ap, dAnd_ap, dNot_ap, dAndV_ap, dOrV_ap, dNotV_ap, dIf_ap, oAdd_int, oSub_int, oLt_int, oLe_int, oGt_int, oGe_int, oNeg_int, oEq_int, oNe_int, oEq_fr, oNe_fr, oEq_bl, oNe_bl, oTup_ap, oLst_ap, oCall_ap, oAbs_ap, oMax_ap, oMin_ap, oToInt_b, oToInt_i, oLen_lst, oLen_scr, oLen_tup, oIx_lst, oIx_scr, oAdd_lst, oIx_tup, oIx_fr0, oIx_fr1, ixR_ok, oItL_ap, oItT_ap, sFor_ap, startD, List.map_cons, List.map_nil, List.length_cons, List.length_nil, List.replicate_succ, List.replicate_zero, List.cons_append, List.nil_append, List.append_nil, List.getElem?_cons_zero, List.getElem?_cons_succ, List.set_cons_zero, List.set_cons_succ, Nat.reduceAdd, Nat.reduceSub, Nat.sub_self, Nat.reduceLeDiff, List.all_cons, List.all_nil, np_fr, np_int, np_bl, np_tup, np_lst, np_str, np_non, Bool.and_self, Bool.and_true, if_true_, if_false_, zero_add', if_tt, if_ff, decide_true, decide_false, Nat.le_refl, oItS_lst, oItS_tup, oTupOf_lst, oTupOf_tup, oLstOf_lst, oLstOf_tup, oRv_lst, oRv_tup, oAdd_tup, dChain_ap, asTru_bl, asTru_tup, asTru_lst, oIsN_ap, oNotN_ap, asI_ap, oSl_tup, oSl_lst, oZip_tup, oZip_lst, oAddI_ap, oEqS_ap, oNeS_ap, oNe_nil, decide_eq_false c0, decide_eq_false c1, decide_eq_false c2, decide_eq_true c3, cF, npw, adC, Bool.false_eq_true]
          · rcases List.mem_cons.mp he with q | q
            · rw [q]; exact hw
            · exact hd.el e (List.mem_of_mem_drop q)
          · injection e with _ e
            match ds, hd, e with
            | y :: r, hd, e =>
              have e' : r = [p, u, s] := e
              subst e'
              exact hd.s4 y p u s rfl
        · by_cases c4 : v = 4
          · obtain ⟨y, M4, e4, y0, y1, t4⟩ := take_eq (m := 8) t3.has (by omega) (by decide) (small_lt _ (by decide) (by decide))
            obtain ⟨o, eo, mo⟩ := atI_mem (l := oddD) y0 (by simpa using y1)
            have to := tok_odd o mo
            have npo := to.np
            have t14 := (t1.trans (t2.trans (t3.trans t4))).mono (c' := c + 5) (by omega)
            refine ⟨o, M4, go _ _ (fun _ => ?_) t14 npo, to, t14⟩
            unfold den__law_spoilt
            rw [seq_step s1, seq_step s2, pre]
            have nt : (D.tup []).np = true := rfl
            simp -implicitDefEqProofs only [sSeq_ap, sAsg_ap, sPar_ap, sRet_ap, sIf_ap, sExpr_ap, sNext_ap, bnd_ap, ret_ap, bindR_ok, thenR_ok, dVar_ap, varR_ok, seqR_nx, seqR_rt, asgR_ok, gNm_ap, gCn_ap, gcnR_ok, gNl_ap, gTp_fr, gTp_ap, gLs_ap, dCons_ap, dNil_ap, asB_ap, dOr_ap, dAnd_ap, dNot_ap, dAndV_ap, dOrV_ap, dNotV_ap, dIf_ap, oAdd_int, oSub_int, oLt_int, oLe_int, oGt_int, oGe_int, oNeg_int, oEq_int, oNe_int, oEq_fr, oNe_fr, oEq_bl, oNe_bl, oTup_ap, oLst_ap, oCall_ap, oAbs_ap, oMax_ap, oMin_ap, oToInt_b, oToInt_i, oLen_lst, oLen_scr, oLen_tup, oIx_lst, oIx_scr, oAdd_lst, oIx_tup, oIx_fr0, oIx_fr1, ixR_ok, oItL_ap, oItT_ap, sFor_ap, startD, List.map_cons, List.map_nil, List.length_cons, List.length_nil, List.replicate_succ, List.replicate_zero, List.cons_append, List.nil_append, List.append_nil, List.getElem?_cons_zero, List.getElem?_cons_succ, List.set_cons_zero, List.set_cons_succ, Nat.reduceAdd, Nat.reduceSub, Nat.sub_self, Nat.reduceLeDiff, List.all_cons, List.all_nil, np_fr, np_int, np_bl, np_tup, np_lst, np_str, np_non, Bool.and_self, Bool.and_true, if_true_, if_false_, zero_add', if_tt, if_ff, decide_true, decide_false, Nat.le_refl, oItS_lst, oItS_tup, oTupOf_lst, oTupOf_tup, oLstOf_lst, oLstOf_tup, oRv_lst, oRv_tup, oAdd_tup, dChain_ap, asTru_bl, asTru_tup, asTru_lst, oIsN_ap, oNotN_ap, asI_ap, oSl_tup, oSl_lst, oZip_tup, oZip_lst, oAddI_ap, oEqS_ap, oNeS_ap, oNe_nil, decide_eq_false c0, decide_eq_false c1, decide_eq_false c2, decide_eq_false c3, decide_eq_true c4, np_emp, nl, nt, e4, eo, Bool.false_eq_true]
          · refine ⟨.tup ds, M3, go _ _ (fun _ => ?_) t13 rfl, tok_row (by omega) hd.el (fun p u s e => hd.s4 _ p u s e), t13⟩
            unfold den__law_spoilt
            rw [seq_step s1, seq_step s2, pre]
            simp -implicitDefEqProofs only [sSeq_ap, sAsg_ap, sPar_ap, sRet_ap, sIf_ap, sExpr_ap, sNext_ap, bnd_ap, ret_ap, bindR_ok, thenR_ok, dVar_ap, varR_ok, seqR_nx, seqR_rt, asgR_ok, gNm_ap, gCn_ap, gcnR_ok, gNl_ap, gTp_fr, gTp_ap, gLs_ap, dCons_ap, dNil_ap, asB_ap, dOr_ap, dAnd_ap, dNot_ap, dAndV_ap, dOrV_ap, dNotV_ap, dIf_ap, oAdd_int, oSub_int, oLt_int, oLe_int, oGt_int, oGe_int, oNeg_int, oEq_int, oNe_int, oEq_fr, oNe_fr, oEq_bl, oNe_bl, oTup_ap, oLst_ap, oCall_ap, oAbs_ap, oMax_ap, oMin_ap, oToInt_b, oToInt_i, oLen_lst, oLen_scr, oLen_tup, oIx_lst, oIx_scr, oAdd_lst, oIx_tup, oIx_fr0, oIx_fr1, ixR_ok, oItL_ap, oItT_ap, sFor_ap, startD, List.map_cons, List.map_nil, List.length_cons, List.length_nil, List.replicate_succ, List.replicate_zero, List.cons_append, List.nil_append, List.append_nil, List.getElem?_cons_zero, List.getElem?_cons_succ, List.set_cons_zero, List.set_cons_succ, Nat.reduceAdd, Nat.reduceSub, Nat.sub_self, Nat.reduceLeDiff, List.all_cons, List.all_nil, np_fr, np_int, np_bl, np_tup, np_lst, np_str, np_non, Bool.and_self, Bool.and_true, if_true_, if_false_, zero_add', if_tt, if_ff, decide_true, decide_false, Nat.le_refl, oItS_lst, oItS_tup, oTupOf_lst, oTupOf_tup, oLstOf_lst, oLstOf_tup, oRv_lst, oRv_tup, oAdd_tup, dChain_ap, asTru_bl, asTru_tup, asTru_lst, oIsN_ap, oNotN_ap, asI_ap, oSl_tup, oSl_lst, oZip_tup, oZip_lst, oAddI_ap, oEqS_ap, oNeS_ap, oNe_nil, decide_eq_false c0, decide_eq_false c1, decide_eq_false c2, decide_eq_false c3, decide_eq_false c4, Bool.false_eq_true]
end
/-! the law -/
theorem el_fr {q : Rat} (h : Bd 101 q) : Elw (frQ q) := el_two h.1 (by rw [Int.natAbs_natCast]; exact h.2)
section
variable {c n : Nat} {M : Mem} {f : Rat} {S o3 o4 : Option D}
theorem turn49 {P W : D} (f0 : 0 < f) (bf : Bd 10 f) (hr : HasReel c n M) (hc : c + 60 < 2 ^ 30) (o2 o7 o8 : Option D) : ∃ (d : D) (M' : Mem), den_law_L1 [S, some (.tup [frQ f, P, W]), o2, o3, o4, some (.ptr n), some (frQ f), o7, o8] M = some (.nx [S, some (.tup [frQ f, P, W]), o2, o3, o4, some (.ptr n), some (frQ f), o7, some d], M') ∧ Turned (c + 25) n M M' := by
  obtain ⟨ds, M1, e1, hd, t1⟩ := ldeed_eq bf hr (by omega)
  obtain ⟨d, M2, e2, td, t2⟩ := lspoilt_eq hd t1.has (by omega)
  have a := isdeed_eq (P := P) (W := W) f0 (bf.mono (by decide)) td
  have b := ldue_eq f0 (bf.mono (by decide)) td
  obtain ⟨z, rz⟩ := repr_bl (dueB f d)
  have ns := neS_self z
  generalize dueB f d = bb at *
  refine ⟨d, M2, ?_, (t1.trans t2).mono (by omega)⟩
  unfold den_law_L1
  rw [seq_step (ρ1 := [S, some (.tup [frQ f, P, W]), o2, o3, o4, some (.ptr n), some (frQ f), o7, some d]) (M1 := M2) (by simp -implicitDefEqProofs only [sSeq_ap, sAsg_ap, sPar_ap, sRet_ap, sIf_ap, sExpr_ap, sNext_ap, bnd_ap, ret_ap, bindR_ok, thenR_ok, dVar_ap, varR_ok, seqR_nx, seqR_rt, asgR_ok, gNm_ap, gCn_ap, gcnR_ok, gNl_ap, gTp_fr, gTp_ap, gLs_ap, dCons_ap, dNil_ap, asB_ap, dOr_ap, dAnd_ap, dNot_ap, dAndV_ap, dOrV_ap, dNotV_ap, dIf_ap, oAdd_int, oSub_int, oLt_int, oLe_int, oGt_int, oGe_int, oNeg_int, oEq_int, oNe_int, oEq_fr, oNe_fr, oEq_bl, oNe_bl, oTup_ap, oLst_ap, oCall_ap, oAbs_ap, oMax_ap, oMin_ap, oToInt_b, oToInt_i, oLen_lst, oLen_scr, oLen_tup, oIx_lst, oIx_scr, oAdd_lst, oIx_tup, oIx_fr0, oIx_fr1, ixR_ok, oItL_ap, oItT_ap, sFor_ap, startD, List.map_cons, List.map_nil, List.length_cons, List.length_nil, List.replicate_succ, List.replicate_zero, List.cons_append, List.nil_append, List.append_nil, List.getElem?_cons_zero, List.getElem?_cons_succ, List.set_cons_zero, List.set_cons_succ, Nat.reduceAdd, Nat.reduceSub, Nat.sub_self, Nat.reduceLeDiff, List.all_cons, List.all_nil, np_fr, np_int, np_bl, np_tup, np_lst, np_str, np_non, Bool.and_self, Bool.and_true, if_true_, if_false_, zero_add', if_tt, if_ff, decide_true, decide_false, Nat.le_refl, oItS_lst, oItS_tup, oTupOf_lst, oTupOf_tup, oLstOf_lst, oLstOf_tup, oRv_lst, oRv_tup, oAdd_tup, dChain_ap, asTru_bl, asTru_tup, asTru_lst, oIsN_ap, oNotN_ap, asI_ap, oSl_tup, oSl_lst, oZip_tup, oZip_lst, oAddI_ap, oEqS_ap, oNeS_ap, oNe_nil, e1, e2])]
  simp -implicitDefEqProofs only [sSeq_ap, sAsg_ap, sPar_ap, sRet_ap, sIf_ap, sExpr_ap, sNext_ap, bnd_ap, ret_ap, bindR_ok, thenR_ok, dVar_ap, varR_ok, seqR_nx, seqR_rt, asgR_ok, gNm_ap, gCn_ap, gcnR_ok, gNl_ap, gTp_fr, gTp_ap, gLs_ap, dCons_ap, dNil_ap, asB_ap, dOr_ap, dAnd_ap, dNot_ap, dAndV_ap, dOrV_ap, dNotV_ap, dIf_ap, oAdd_int, oSub_int, oLt_int, oLe_int, oGt_int, oGe_int, oNeg_int, oEq_int, oNe_int, oEq_fr, oNe_fr, oEq_bl, oNe_bl, oTup_ap, oLst_ap, oCall_ap, oAbs_ap, oMax_ap, oMin_ap, oToInt_b, oToInt_i, oLen_lst, oLen_scr, oLen_tup, oIx_lst, oIx_scr, oAdd_lst, oIx_tup, oIx_fr0, oIx_fr1, ixR_ok, oItL_ap, oItT_ap, sFor_ap, startD, List.map_cons, List.map_nil, List.length_cons, List.length_nil, List.replicate_succ, List.replicate_zero, List.cons_append, List.nil_append, List.append_nil, List.getElem?_cons_zero, List.getElem?_cons_succ, List.set_cons_zero, List.set_cons_succ, Nat.reduceAdd, Nat.reduceSub, Nat.sub_self, Nat.reduceLeDiff, List.all_cons, List.all_nil, np_fr, np_int, np_bl, np_tup, np_lst, np_str, np_non, Bool.and_self, Bool.and_true, if_true_, if_false_, zero_add', if_tt, if_ff, decide_true, decide_false, Nat.le_refl, oItS_lst, oItS_tup, oTupOf_lst, oTupOf_tup, oLstOf_lst, oLstOf_tup, oRv_lst, oRv_tup, oAdd_tup, dChain_ap, asTru_bl, asTru_tup, asTru_lst, oIsN_ap, oNotN_ap, asI_ap, oSl_tup, oSl_lst, oZip_tup, oZip_lst, oAddI_ap, oEqS_ap, oNeS_ap, oNe_nil, a, b, rz, ns, Bool.false_eq_true]
theorem turns49 {P W : D} (f0 : 0 < f) (bf : Bd 10 f) : ∀ (ks : List D) (c : Nat) (M : Mem) (o2 o7 o8 : Option D), HasReel c n M → c + 25 * ks.length + 60 < 2 ^ 30 → ∃ (p7 p8 : Option D) (M' : Mem), forF (gNm 7) den_law_L1 ks [S, some (.tup [frQ f, P, W]), o2, o3, o4, some (.ptr n), some (frQ f), o7, o8] M = some (.nx [S, some (.tup [frQ f, P, W]), o2, o3, o4, some (.ptr n), some (frQ f), p7, p8], M') ∧ M'.length = M.length
  | [], c, M, o2, o7, o8, hr, hc => ⟨o7, o8, M, rfl, rfl⟩
  | k :: ks, c, M, o2, o7, o8, hr, hc => by
    rw [List.length_cons] at hc
    obtain ⟨d, M1, e, t⟩ := turn49 (S := S) (o3 := o3) (o4 := o4) (P := P) (W := W) f0 bf hr (by omega) o2 (some k) o8
    obtain ⟨p7, p8, M2, e2, l2⟩ := turns49 (P := P) (W := W) f0 bf ks (c + 25) M1 o2 (some k) (some d) t.has (by omega)
    refine ⟨p7, p8, M2, ?_, by rw [l2, t.len]⟩
    rw [forF_cons]
    simp -implicitDefEqProofs only [sSeq_ap, sAsg_ap, sPar_ap, sRet_ap, sIf_ap, sExpr_ap, sNext_ap, bnd_ap, ret_ap, bindR_ok, thenR_ok, dVar_ap, varR_ok, seqR_nx, seqR_rt, asgR_ok, gNm_ap, gCn_ap, gcnR_ok, gNl_ap, gTp_fr, gTp_ap, gLs_ap, dCons_ap, dNil_ap, asB_ap, dOr_ap, dAnd_ap, dNot_ap, dAndV_ap, dOrV_ap, dNotV_ap, dIf_ap, oAdd_int, oSub_int, oLt_int, oLe_int, oGt_int, oGe_int, oNeg_int, oEq_int, oNe_int, oEq_fr, oNe_fr, oEq_bl, oNe_bl, oTup_ap, oLst_ap, oCall_ap, oAbs_ap, oMax_ap, oMin_ap, oToInt_b, oToInt_i, oLen_lst, oLen_scr, oLen_tup, oIx_lst, oIx_scr, oAdd_lst, oIx_tup, oIx_fr0, oIx_fr1, ixR_ok, oItL_ap, oItT_ap, sFor_ap, startD, List.map_cons, List.map_nil, List.length_cons, List.length_nil, List.replicate_succ, List.replicate_zero, List.cons_append, List.nil_append, List.append_nil, List.getElem?_cons_zero, List.getElem?_cons_succ, List.set_cons_zero, List.set_cons_succ, Nat.reduceAdd, Nat.reduceSub, Nat.sub_self, Nat.reduceLeDiff, List.all_cons, List.all_nil, np_fr, np_int, np_bl, np_tup, np_lst, np_str, np_non, Bool.and_self, Bool.and_true, if_true_, if_false_, zero_add', if_tt, if_ff, decide_true, decide_false, Nat.le_refl, oItS_lst, oItS_tup, oTupOf_lst, oTupOf_tup, oLstOf_lst, oLstOf_tup, oRv_lst, oRv_tup, oAdd_tup, dChain_ap, asTru_bl, asTru_tup, asTru_lst, oIsN_ap, oNotN_ap, asI_ap, oSl_tup, oSl_lst, oZip_tup, oZip_lst, oAddI_ap, oEqS_ap, oNeS_ap, oNe_nil, forB_ok, e, ofR_nx]
    exact e2
theorem cell49 (i : Nat) (hi : i < 64) (cell : Int) (M : Mem) (o1 o2 o5 o6 o7 o8 : Option D) : ∃ (p1 p5 p6 p7 p8 : Option D) (M' : Mem), den_law_L2 [S, o1, o2, some (.int (i : Int)), some (.int cell), o5, o6, o7, o8] M = some (.nx [S, p1, o2, some (.int (i : Int)), some (.int cell), p5, p6, p7, p8], M') ∧ M.length ≤ M'.length := by
  obtain ⟨M0, e0, l0, _, hr0⟩ := pot_eq cell i hi M
  generalize hn : M.length = n at e0 hr0
  obtain ⟨f, M1, e1, f0, bf, t1⟩ := lfull_eq hr0 (by decide)
  obtain ⟨v, M2, e2, v0, v1, t2⟩ := take_eq (m := 5) t1.has (by decide) (by decide) (small_lt _ (by decide) (by decide))
  have ru : ∀ ρ M, oRepU (.tup [.tup [.tup [.int 1, .int 1], .tup [.int 5, .int 1]]]) (.int (1 + v)) ρ M = some (.ok (.tup (List.replicate (1 + v).toNat [D.tup [.tup [.int 1, .int 1], .tup [.int 5, .int 1]]]).flatten), M) := fun ρ M => oRepU_ap _ _ ρ M (by simp) (by omega) (by omega) (by simp)
  generalize (List.replicate (1 + v).toNat [D.tup [.tup [.int 1, .int 1], .tup [.int 5, .int 1]]]).flatten = PD at ru
  have rg : ∀ ρ M, oRng1 [.int 8] ρ M = some (.ok ((List.range 8).map fun (i : Nat) => D.int (i : Int)), M) := fun ρ M => by
    rw [oRng1_ap _ _ _ (by decide) (by decide)]; rfl
  obtain ⟨p7, p8, M3, e3, l3⟩ := turns49 (n := n) (S := S) (o3 := some (.int (i : Int))) (o4 := some (.int cell)) (P := .tup PD) (W := .tup [.tup [.tup [.int 1, .int 1], .tup [.int 1, .int 1]]]) f0 bf ((List.range 8).map fun (i : Nat) => D.int (i : Int)) (0 + 1 + 1) M2 o2 o7 o8 t2.has (by simp)
  generalize (List.range 8).map (fun (i : Nat) => D.int (i : Int)) = RD at rg e3
  have np1 : (D.tup PD).np = true := rfl
  refine ⟨some (.tup [frQ f, .tup PD, .tup [.tup [.tup [.int 1, .int 1], .tup [.int 1, .int 1]]]]), some (.ptr n), some (frQ f), p7, p8, M3, ?_, by rw [l3, t2.len, t1.len, l0]; omega⟩
  unfold den_law_L2
  rw [seq_step (ρ1 := [S, o1, o2, some (.int (i : Int)), some (.int cell), some (.ptr n), o6, o7, o8]) (M1 := M0) (by simp -implicitDefEqProofs only [sSeq_ap, sAsg_ap, sPar_ap, sRet_ap, sIf_ap, sExpr_ap, sNext_ap, bnd_ap, ret_ap, bindR_ok, thenR_ok, dVar_ap, varR_ok, seqR_nx, seqR_rt, asgR_ok, gNm_ap, gCn_ap, gcnR_ok, gNl_ap, gTp_fr, gTp_ap, gLs_ap, dCons_ap, dNil_ap, asB_ap, dOr_ap, dAnd_ap, dNot_ap, dAndV_ap, dOrV_ap, dNotV_ap, dIf_ap, oAdd_int, oSub_int, oLt_int, oLe_int, oGt_int, oGe_int, oNeg_int, oEq_int, oNe_int, oEq_fr, oNe_fr, oEq_bl, oNe_bl, oTup_ap, oLst_ap, oCall_ap, oAbs_ap, oMax_ap, oMin_ap, oToInt_b, oToInt_i, oLen_lst, oLen_scr, oLen_tup, oIx_lst, oIx_scr, oAdd_lst, oIx_tup, oIx_fr0, oIx_fr1, ixR_ok, oItL_ap, oItT_ap, sFor_ap, startD, List.map_cons, List.map_nil, List.length_cons, List.length_nil, List.replicate_succ, List.replicate_zero, List.cons_append, List.nil_append, List.append_nil, List.getElem?_cons_zero, List.getElem?_cons_succ, List.set_cons_zero, List.set_cons_succ, Nat.reduceAdd, Nat.reduceSub, Nat.sub_self, Nat.reduceLeDiff, List.all_cons, List.all_nil, np_fr, np_int, np_bl, np_tup, np_lst, np_str, np_non, Bool.and_self, Bool.and_true, if_true_, if_false_, zero_add', if_tt, if_ff, decide_true, decide_false, Nat.le_refl, oItS_lst, oItS_tup, oTupOf_lst, oTupOf_tup, oLstOf_lst, oLstOf_tup, oRv_lst, oRv_tup, oAdd_tup, dChain_ap, asTru_bl, asTru_tup, asTru_lst, oIsN_ap, oNotN_ap, asI_ap, oSl_tup, oSl_lst, oZip_tup, oZip_lst, oAddI_ap, oEqS_ap, oNeS_ap, oNe_nil, e0])]
  rw [seq_step (ρ1 := [S, o1, o2, some (.int (i : Int)), some (.int cell), some (.ptr n), some (frQ f), o7, o8]) (M1 := M1) (by simp -implicitDefEqProofs only [sSeq_ap, sAsg_ap, sPar_ap, sRet_ap, sIf_ap, sExpr_ap, sNext_ap, bnd_ap, ret_ap, bindR_ok, thenR_ok, dVar_ap, varR_ok, seqR_nx, seqR_rt, asgR_ok, gNm_ap, gCn_ap, gcnR_ok, gNl_ap, gTp_fr, gTp_ap, gLs_ap, dCons_ap, dNil_ap, asB_ap, dOr_ap, dAnd_ap, dNot_ap, dAndV_ap, dOrV_ap, dNotV_ap, dIf_ap, oAdd_int, oSub_int, oLt_int, oLe_int, oGt_int, oGe_int, oNeg_int, oEq_int, oNe_int, oEq_fr, oNe_fr, oEq_bl, oNe_bl, oTup_ap, oLst_ap, oCall_ap, oAbs_ap, oMax_ap, oMin_ap, oToInt_b, oToInt_i, oLen_lst, oLen_scr, oLen_tup, oIx_lst, oIx_scr, oAdd_lst, oIx_tup, oIx_fr0, oIx_fr1, ixR_ok, oItL_ap, oItT_ap, sFor_ap, startD, List.map_cons, List.map_nil, List.length_cons, List.length_nil, List.replicate_succ, List.replicate_zero, List.cons_append, List.nil_append, List.append_nil, List.getElem?_cons_zero, List.getElem?_cons_succ, List.set_cons_zero, List.set_cons_succ, Nat.reduceAdd, Nat.reduceSub, Nat.sub_self, Nat.reduceLeDiff, List.all_cons, List.all_nil, np_fr, np_int, np_bl, np_tup, np_lst, np_str, np_non, Bool.and_self, Bool.and_true, if_true_, if_false_, zero_add', if_tt, if_ff, decide_true, decide_false, Nat.le_refl, oItS_lst, oItS_tup, oTupOf_lst, oTupOf_tup, oLstOf_lst, oLstOf_tup, oRv_lst, oRv_tup, oAdd_tup, dChain_ap, asTru_bl, asTru_tup, asTru_lst, oIsN_ap, oNotN_ap, asI_ap, oSl_tup, oSl_lst, oZip_tup, oZip_lst, oAddI_ap, oEqS_ap, oNeS_ap, oNe_nil, e1])]
  rw [seq_step (ρ1 := [S, some (.tup [frQ f, .tup PD, .tup [.tup [.tup [.int 1, .int 1], .tup [.int 1, .int 1]]]]), o2, some (.int (i : Int)), some (.int cell), some (.ptr n), some (frQ f), o7, o8]) (M1 := M2) (by simp -implicitDefEqProofs only [sSeq_ap, sAsg_ap, sPar_ap, sRet_ap, sIf_ap, sExpr_ap, sNext_ap, bnd_ap, ret_ap, bindR_ok, thenR_ok, dVar_ap, varR_ok, seqR_nx, seqR_rt, asgR_ok, gNm_ap, gCn_ap, gcnR_ok, gNl_ap, gTp_fr, gTp_ap, gLs_ap, dCons_ap, dNil_ap, asB_ap, dOr_ap, dAnd_ap, dNot_ap, dAndV_ap, dOrV_ap, dNotV_ap, dIf_ap, oAdd_int, oSub_int, oLt_int, oLe_int, oGt_int, oGe_int, oNeg_int, oEq_int, oNe_int, oEq_fr, oNe_fr, oEq_bl, oNe_bl, oTup_ap, oLst_ap, oCall_ap, oAbs_ap, oMax_ap, oMin_ap, oToInt_b, oToInt_i, oLen_lst, oLen_scr, oLen_tup, oIx_lst, oIx_scr, oAdd_lst, oIx_tup, oIx_fr0, oIx_fr1, ixR_ok, oItL_ap, oItT_ap, sFor_ap, startD, List.map_cons, List.map_nil, List.length_cons, List.length_nil, List.replicate_succ, List.replicate_zero, List.cons_append, List.nil_append, List.append_nil, List.getElem?_cons_zero, List.getElem?_cons_succ, List.set_cons_zero, List.set_cons_succ, Nat.reduceAdd, Nat.reduceSub, Nat.sub_self, Nat.reduceLeDiff, List.all_cons, List.all_nil, np_fr, np_int, np_bl, np_tup, np_lst, np_str, np_non, Bool.and_self, Bool.and_true, if_true_, if_false_, zero_add', if_tt, if_ff, decide_true, decide_false, Nat.le_refl, oItS_lst, oItS_tup, oTupOf_lst, oTupOf_tup, oLstOf_lst, oLstOf_tup, oRv_lst, oRv_tup, oAdd_tup, dChain_ap, asTru_bl, asTru_tup, asTru_lst, oIsN_ap, oNotN_ap, asI_ap, oSl_tup, oSl_lst, oZip_tup, oZip_lst, oAddI_ap, oEqS_ap, oNeS_ap, oNe_nil, e2, ru, np1])]
  rw [sFor_ap]
  simp -implicitDefEqProofs only [sSeq_ap, sAsg_ap, sPar_ap, sRet_ap, sIf_ap, sExpr_ap, sNext_ap, bnd_ap, ret_ap, bindR_ok, thenR_ok, dVar_ap, varR_ok, seqR_nx, seqR_rt, asgR_ok, gNm_ap, gCn_ap, gcnR_ok, gNl_ap, gTp_fr, gTp_ap, gLs_ap, dCons_ap, dNil_ap, asB_ap, dOr_ap, dAnd_ap, dNot_ap, dAndV_ap, dOrV_ap, dNotV_ap, dIf_ap, oAdd_int, oSub_int, oLt_int, oLe_int, oGt_int, oGe_int, oNeg_int, oEq_int, oNe_int, oEq_fr, oNe_fr, oEq_bl, oNe_bl, oTup_ap, oLst_ap, oCall_ap, oAbs_ap, oMax_ap, oMin_ap, oToInt_b, oToInt_i, oLen_lst, oLen_scr, oLen_tup, oIx_lst, oIx_scr, oAdd_lst, oIx_tup, oIx_fr0, oIx_fr1, ixR_ok, oItL_ap, oItT_ap, sFor_ap, startD, List.map_cons, List.map_nil, List.length_cons, List.length_nil, List.replicate_succ, List.replicate_zero, List.cons_append, List.nil_append, List.append_nil, List.getElem?_cons_zero, List.getElem?_cons_succ, List.set_cons_zero, List.set_cons_succ, Nat.reduceAdd, Nat.reduceSub, Nat.sub_self, Nat.reduceLeDiff, List.all_cons, List.all_nil, np_fr, np_int, np_bl, np_tup, np_lst, np_str, np_non, Bool.and_self, Bool.and_true, if_true_, if_false_, zero_add', if_tt, if_ff, decide_true, decide_false, Nat.le_refl, oItS_lst, oItS_tup, oTupOf_lst, oTupOf_tup, oLstOf_lst, oLstOf_tup, oRv_lst, oRv_tup, oAdd_tup, dChain_ap, asTru_bl, asTru_tup, asTru_lst, oIsN_ap, oNotN_ap, asI_ap, oSl_tup, oSl_lst, oZip_tup, oZip_lst, oAddI_ap, oEqS_ap, oNeS_ap, oNe_nil, rg]
  exact e3
theorem cells49 : ∀ (cs : List Int) (i : Nat) (M : Mem) (o1 o2 o3 o4 o5 o6 o7 o8 : Option D), i + cs.length ≤ 60 → ∃ (p1 p3 p4 p5 p6 p7 p8 : Option D) (M' : Mem), forF (gTp 2 (gCn (gNm 3) (gCn (gNm 4) gNl))) den_law_L2 (enumFrom i (cs.map D.int)) [S, o1, o2, o3, o4, o5, o6, o7, o8] M = some (.nx [S, p1, o2, p3, p4, p5, p6, p7, p8], M') ∧ M.length ≤ M'.length
  | [], i, M, o1, o2, o3, o4, o5, o6, o7, o8, _ => ⟨o1, o3, o4, o5, o6, o7, o8, M, rfl, Nat.le_refl _⟩
  | c :: cs, i, M, o1, o2, o3, o4, o5, o6, o7, o8, h => by
    rw [List.length_cons] at h
    obtain ⟨p1, p5, p6, p7, p8, M1, e, l1⟩ := cell49 (S := S) i (by omega) c M o1 o2 o5 o6 o7 o8
    obtain ⟨q1, q3, q4, q5, q6, q7, q8, M2, e2, l2⟩ := cells49 cs (i + 1) M1 p1 o2 (some (.int (i : Int))) (some (.int c)) p5 p6 p7 p8 (by omega)
    refine ⟨q1, q3, q4, q5, q6, q7, q8, M2, ?_, by omega⟩
    rw [List.map_cons, enumFrom, forF_cons]
    simp -implicitDefEqProofs only [sSeq_ap, sAsg_ap, sPar_ap, sRet_ap, sIf_ap, sExpr_ap, sNext_ap, bnd_ap, ret_ap, bindR_ok, thenR_ok, dVar_ap, varR_ok, seqR_nx, seqR_rt, asgR_ok, gNm_ap, gCn_ap, gcnR_ok, gNl_ap, gTp_fr, gTp_ap, gLs_ap, dCons_ap, dNil_ap, asB_ap, dOr_ap, dAnd_ap, dNot_ap, dAndV_ap, dOrV_ap, dNotV_ap, dIf_ap, oAdd_int, oSub_int, oLt_int, oLe_int, oGt_int, oGe_int, oNeg_int, oEq_int, oNe_int, oEq_fr, oNe_fr, oEq_bl, oNe_bl, oTup_ap, oLst_ap, oCall_ap, oAbs_ap, oMax_ap, oMin_ap, oToInt_b, oToInt_i, oLen_lst, oLen_scr, oLen_tup, oIx_lst, oIx_scr, oAdd_lst, oIx_tup, oIx_fr0, oIx_fr1, ixR_ok, oItL_ap, oItT_ap, sFor_ap, startD, List.map_cons, List.map_nil, List.length_cons, List.length_nil, List.replicate_succ, List.replicate_zero, List.cons_append, List.nil_append, List.append_nil, List.getElem?_cons_zero, List.getElem?_cons_succ, List.set_cons_zero, List.set_cons_succ, Nat.reduceAdd, Nat.reduceSub, Nat.sub_self, Nat.reduceLeDiff, List.all_cons, List.all_nil, np_fr, np_int, np_bl, np_tup, np_lst, np_str, np_non, Bool.and_self, Bool.and_true, if_true_, if_false_, zero_add', if_tt, if_ff, decide_true, decide_false, Nat.le_refl, oItS_lst, oItS_tup, oTupOf_lst, oTupOf_tup, oLstOf_lst, oLstOf_tup, oRv_lst, oRv_tup, oAdd_tup, dChain_ap, asTru_bl, asTru_tup, asTru_lst, oIsN_ap, oNotN_ap, asI_ap, oSl_tup, oSl_lst, oZip_tup, oZip_lst, oAddI_ap, oEqS_ap, oNeS_ap, oNe_nil, forB_ok, e, ofR_nx]
    exact e2
end
/-! what is asked last -/
theorem q3_eq : D.tup [.int (10 ^ 30 + 1), .int 7] = frQ great := by
  unfold frQ
  rw [show great.num = 10 ^ 30 + 1 from by decide +kernel, show great.den = 7 from by decide +kernel]
  rfl
def mil : Rat := Rat.divInt 1 (10 ^ 6)
theorem q4_eq : D.tup [.int 1, .int (10 ^ 6)] = frQ mil := by
  unfold frQ
  rw [show mil.num = 1 from by decide +kernel, show mil.den = 10 ^ 6 from by decide +kernel]
  rfl
def hlf : Rat := Rat.divInt 1 2
theorem q5_eq : D.tup [.int 1, .int 2] = frQ hlf := by
  unfold frQ
  rw [show hlf.num = 1 from by decide +kernel, show hlf.den = 2 from by decide +kernel]
  rfl
theorem bd_all : Bd 101 great ∧ Bd 101 tiny ∧ Bd 101 mill ∧ Bd 101 mil ∧ Bd 101 hlf := ⟨⟨by decide +kernel, by decide +kernel⟩, ⟨by decide +kernel, by decide +kernel⟩, ⟨by decide +kernel, by decide +kernel⟩, ⟨by decide +kernel, by decide +kernel⟩, ⟨by decide +kernel, by decide +kernel⟩⟩
theorem great0 : 0 < great := by decide +kernel
theorem tok1 : TOk (.tup [.str wPour, .int 1, frQ tiny, frQ mill]) := tok_row (by simp) (fun e he => by
  have b := bd_all
  simp -implicitDefEqProofs only [List.mem_cons, List.not_mem_nil, or_false] at he
  rcases he with h | h | h | h <;> subst h
  · exact el_str w_in.1
  · exact el_int (by decide)
  · exact el_fr b.2.1
  · exact el_fr b.2.2.1) (fun p w s e => by
  injection e with _ e
  injection e with _ e
  injection e with _ e
  injection e with e _
  rw [← e]
  exact Wt.fr ⟨by decide +kernel, by decide +kernel⟩)
theorem tok2 : TOk (.tup [.str wLet, .int 0, frQ great]) := tok_row (by simp) (fun e he => by
  have b := bd_all
  simp -implicitDefEqProofs only [List.mem_cons, List.not_mem_nil, or_false] at he
  rcases he with h | h | h <;> subst h
  · exact el_str w_in.2.2.1
  · exact el_int (by decide)
  · exact el_fr b.1) (by simp)
theorem tok3 : TOk (.tup [.str wLead, .int 0, .int 1, frQ mil, .str (Str.ofString "under"), .bl true]) := tok_row (by simp) (fun e he => by
  have b := bd_all
  simp -implicitDefEqProofs only [List.mem_cons, List.not_mem_nil, or_false] at he
  rcases he with h | h | h | h | h | h <;> subst h
  · exact el_str w_in.2.1
  · exact el_int (by decide)
  · exact el_int (by decide)
  · exact el_fr b.2.2.2.1
  · exact el_str w_in.2.2.2.2.2.2.2.2.2.1
  · exact el_bl _) (by simp)
theorem tok4 : TOk (.tup [.str wLead, .int 7, .int (-7), frQ hlf, .str (Str.ofString "over"), .bl false]) := tok_row (by simp) (fun e he => by
  have b := bd_all
  simp -implicitDefEqProofs only [List.mem_cons, List.not_mem_nil, or_false] at he
  rcases he with h | h | h | h | h | h <;> subst h
  · exact el_str w_in.2.1
  · exact el_int (by decide)
  · exact el_int (by decide)
  · exact el_fr b.2.2.2.2
  · exact el_str w_in.2.2.2.2.2.2.2.2.2.2.1
  · exact el_bl _) (by simp)
theorem tok5 : TOk (.tup [.str wRake, .int 3]) := tok_row (by simp) (fun e he => by
  simp -implicitDefEqProofs only [List.mem_cons, List.not_mem_nil, or_false] at he
  rcases he with h | h <;> subst h
  · exact el_str w_in.2.2.2.1
  · exact el_int (by decide)) (by simp)
theorem due1 : dueB great (.tup [.str wPour, .int 1, frQ tiny, frQ mill]) = true := by
  show dueS great wPour [.int 1, frQ tiny, frQ mill] = true
  unfold dueS
  rw [if_pos rfl]
  show (true && wetD great (frQ tiny) (frQ mill)) = true
  rw [wet_fr, Bool.true_and, decide_eq_true_eq]
  exact ⟨by decide +kernel, by decide +kernel, by decide +kernel⟩
theorem due2 : dueB great (.tup [.str wLet, .int 0, frQ great]) = true := by
  have ne := words_ne
  show dueS great wLet [.int 0, frQ great] = true
  unfold dueS
  rw [if_neg ne.2.1, if_neg ne.2.2.1, if_pos rfl]
  show (true && isPs (frQ great)) = true
  rw [isPs_fr]
  decide +kernel
theorem due_lead {f : Rat} {a b : Int} {q : Rat} {z : Str} {k : Bool} (hq : 0 < q.num) (hz : wayD (.str z) = true) : dueB f (.tup [.str wLead, .int a, .int b, frQ q, .str z, .bl k]) = true := by
  have ne := words_ne
  show dueS f wLead [.int a, .int b, frQ q, .str z, .bl k] = true
  unfold dueS
  rw [if_neg ne.1, if_pos rfl]
  show (true && true && isPs (frQ q) && wayD (.str z) && true) = true
  rw [isPs_fr, hz, decide_eq_true hq]
  rfl
theorem due5 {f : Rat} : dueB f (.tup [.str wRake, .int 3]) = true := by
  have ne := words_ne
  show dueS f wRake [.int 3] = true
  unfold dueS
  rw [if_neg ne.2.2.2.1, if_neg ne.2.2.2.2.1, if_neg ne.2.2.2.2.2.1, if_pos (.inl rfl)]
  rfl
theorem law_true (ns : List Int) (_h : ns.length ≤ 63) : ∃ M', F_law [.scr (ns.map D.int)] [] = some (.ok (.bl true), M') := by
  obtain ⟨es, e0, le⟩ := folded_eq ns (m := 20) (by decide) []
  have e0' : F__law_folded [.scr (ns.map D.int), .int 20] [] = some (.ok (.ptr 0), [] ++ [some (es.map D.int)]) := e0
  obtain ⟨q1, q3, q4, q5, q6, q7, q8, M2, e2, l2⟩ := cells49 (S := some (.scr (ns.map D.int))) (0 :: es) 0 ([] ++ [some (es.map D.int)]) none none none none none none none none (by rw [List.length_cons]; omega)
  have ad := fun ρ => oAddL_ptr (n := 0) (a := es.map D.int) (d := .int 0) (M := [] ++ [some (es.map D.int)]) rfl (by rw [List.length_map]; omega) ρ
  have en : ∀ ρ M, oEnum [.lst (.int 0 :: es.map D.int)] ρ M = some (.ok (enumFrom 0 ((0 :: es).map D.int)), M) := fun _ _ => rfl
  have f1 : ∀ M, F_fraction [.int (10 ^ 30 + 1), .int 7] M = some (.ok (frQ great), M) := fun M => fraction_eq (by decide) (small_lt _ (by decide) (by decide)) M
  have b := bd_all
  have j := fun (d : D) (td : TOk d) M => isdeed_eq (P := .tup [.tup [.tup [.int 1, .int 1], .tup [.int 5, .int 1]]]) (W := .tup [.tup [.tup [.int 1, .int 1], .tup [.int 1, .int 1]]]) great0 (b.1.mono (by decide)) td M
  have j1 := j _ tok1
  have j2 := j _ tok2
  have j3 := j _ tok3
  rw [due1] at j1
  rw [due2] at j2
  rw [due_lead (by decide +kernel) (by decide +kernel)] at j3
  have one : D.tup [.int 1, .int 1] = frQ 1 := rfl
  have k := fun (d : D) (td : TOk d) M => isdeed_eq (f := 1) (P := .tup [.tup [frQ 1, .tup [.int 5, .int 1]]]) (W := .tup [.tup [frQ 1, frQ 1]]) (by decide) (⟨by decide, by decide⟩) td M
  have k4 := k _ tok4
  have k5 := k _ tok5
  rw [due_lead (by decide +kernel) (by decide +kernel)] at k4
  rw [due5] at k5
  have z1 := fun ρ M => oEq_strs ok_pour ok_lead ρ M
  have z2 := fun ρ M => oEq_strs ok_let ok_lead ρ M
  have z3 := fun ρ M => oEq_strs ok_lead ok_lead ρ M
  have n1 : decide (wPour = wLead) = false := decide_eq_false (fun h => words_ne.1 h.symm)
  have n2 : decide (wLet = wLead) = false := decide_eq_false words_ne.2.2.1
  have n3 : decide (wLead = wLead) = true := decide_eq_true rfl
  rw [n1] at z1
  rw [n2] at z2
  rw [n3] at z3
  have sl0 : ∀ ρ M, oSl (.tup [.str (Str.ofString "under"), .bl true]) none (some (2 * 0)) ρ M = some (.ok (.tup []), M) := fun _ _ => rfl
  have sl2 : ∀ ρ M, oSl (.tup [.str (Str.ofString "under"), .bl true]) none (some (2 * 1)) ρ M = some (.ok (.tup [.str (Str.ofString "under"), .bl true]), M) := fun _ _ => rfl
  have mu : ∀ i : Int, i.natAbs < 2 ^ 10 → ∀ ρ M, oMul (.int 2) (.int i) ρ M = some (.ok (.int (2 * i)), M) := fun i h ρ M => oMul_int (MulOk.of (a := 10) (b := 10) (by decide) h) ρ M
  have m0 := mu 0 (by decide)
  have m1 := mu 1 (by decide)
  have nb : ∀ ρ M, oIsnB (.bl true) (.bl true) ρ M = some (.ok (.bl false), M) := fun _ _ => rfl
  have ib : ∀ ρ M, oIsB (.bl true) (.bl true) ρ M = some (.ok (.bl true), M) := fun _ _ => rfl
  have ad1 : ∀ a : List D, a.length ≤ 100 → ∀ ρ M, oAdd (.tup a) (.tup []) ρ M = some (.ok (.tup a), M) := fun a h ρ M => by
    rw [oAdd_tup a [] ρ M (by simp; omega), List.append_nil]
  have a1 := ad1 [.str wPour, .int 1, frQ tiny, frQ mill] (by simp)
  have a2 := ad1 [.str wLet, .int 0, frQ great] (by simp)
  have a3 : ∀ ρ M, oAdd (.tup [.str wLead, .int 0, .int 1, frQ mil]) (.tup [.str (Str.ofString "under"), .bl true]) ρ M = some (.ok (.tup [.str wLead, .int 0, .int 1, frQ mil, .str (Str.ofString "under"), .bl true]), M) := fun ρ M => by
    rw [oAdd_tup _ _ ρ M (by simp)]; rfl
  have i1 : ∀ ρ M, oIx (.tup [.str wPour, .int 1, frQ tiny, frQ mill]) (.int 0) ρ M = some (.ok (.str wPour), M) := fun _ _ => rfl
  have i2 : ∀ ρ M, oIx (.tup [.str wLet, .int 0, frQ great]) (.int 0) ρ M = some (.ok (.str wLet), M) := fun _ _ => rfl
  have i3 : ∀ ρ M, oIx (.tup [.str wLead, .int 0, .int 1, frQ mil]) (.int 0) ρ M = some (.ok (.str wLead), M) := fun _ _ => rfl
  have tb0 : (if false = true then (1 : Int) else 0) = 0 := rfl
  have tb1 : (if true = true then (1 : Int) else 0) = 1 := rfl
  have neg7 : ∀ ρ M, oNeg (.int 7) ρ M = some (.ok (.int (-7)), M) := fun _ _ => rfl
  have S3 : ∀ (d : D) (M : Mem), d = .tup [.str wPour, .int 1, frQ tiny, frQ mill] ∨ d = .tup [.str wLet, .int 0, frQ great] ∨ d = .tup [.str wLead, .int 0, .int 1, frQ mil] → den_law_L3 [some (.scr (ns.map D.int)), some (.tup [frQ great, .tup [.tup [.tup [.int 1, .int 1], .tup [.int 5, .int 1]]], .tup [.tup [.tup [.int 1, .int 1], .tup [.int 1, .int 1]]]]), some d, q3, q4, q5, q6, q7, q8] M = some (.nx [some (.scr (ns.map D.int)), some (.tup [frQ great, .tup [.tup [.tup [.int 1, .int 1], .tup [.int 5, .int 1]]], .tup [.tup [.tup [.int 1, .int 1], .tup [.int 1, .int 1]]]]), some d, q3, q4, q5, q6, q7, q8], M) := fun d M h => by
    generalize ns.map D.int = N at *
    rcases h with h | h | h <;> subst h
    · simp -implicitDefEqProofs only [den_law_L3, sSeq_ap, sAsg_ap, sPar_ap, sRet_ap, sIf_ap, sExpr_ap, sNext_ap, bnd_ap, ret_ap, bindR_ok, thenR_ok, dVar_ap, varR_ok, seqR_nx, seqR_rt, asgR_ok, gNm_ap, gCn_ap, gcnR_ok, gNl_ap, gTp_fr, gTp_ap, gLs_ap, dCons_ap, dNil_ap, asB_ap, dOr_ap, dAnd_ap, dNot_ap, dAndV_ap, dOrV_ap, dNotV_ap, dIf_ap, oAdd_int, oSub_int, oLt_int, oLe_int, oGt_int, oGe_int, oNeg_int, oEq_int, oNe_int, oEq_fr, oNe_fr, oEq_bl, oNe_bl, oTup_ap, oLst_ap, oCall_ap, oAbs_ap, oMax_ap, oMin_ap, oToInt_b, oToInt_i, oLen_lst, oLen_scr, oLen_tup, oIx_lst, oIx_scr, oAdd_lst, oIx_tup, oIx_fr0, oIx_fr1, ixR_ok, oItL_ap, oItT_ap, sFor_ap, startD, List.map_cons, List.map_nil, List.length_cons, List.length_nil, List.replicate_succ, List.replicate_zero, List.cons_append, List.nil_append, List.append_nil, List.getElem?_cons_zero, List.getElem?_cons_succ, List.set_cons_zero, List.set_cons_succ, Nat.reduceAdd, Nat.reduceSub, Nat.sub_self, Nat.reduceLeDiff, List.all_cons, List.all_nil, np_fr, np_int, np_bl, np_tup, np_lst, np_str, np_non, Bool.and_self, Bool.and_true, if_true_, if_false_, zero_add', if_tt, if_ff, decide_true, decide_false, Nat.le_refl, oItS_lst, oItS_tup, oTupOf_lst, oTupOf_tup, oLstOf_lst, oLstOf_tup, oRv_lst, oRv_tup, oAdd_tup, dChain_ap, asTru_bl, asTru_tup, asTru_lst, oIsN_ap, oNotN_ap, asI_ap, oSl_tup, oSl_lst, oZip_tup, oZip_lst, oAddI_ap, oEqS_ap, oNeS_ap, oNe_nil, i1, z1, tb0, m0, sl0, a1, j1, nb, Bool.false_eq_true]
    · simp -implicitDefEqProofs only [den_law_L3, sSeq_ap, sAsg_ap, sPar_ap, sRet_ap, sIf_ap, sExpr_ap, sNext_ap, bnd_ap, ret_ap, bindR_ok, thenR_ok, dVar_ap, varR_ok, seqR_nx, seqR_rt, asgR_ok, gNm_ap, gCn_ap, gcnR_ok, gNl_ap, gTp_fr, gTp_ap, gLs_ap, dCons_ap, dNil_ap, asB_ap, dOr_ap, dAnd_ap, dNot_ap, dAndV_ap, dOrV_ap, dNotV_ap, dIf_ap, oAdd_int, oSub_int, oLt_int, oLe_int, oGt_int, oGe_int, oNeg_int, oEq_int, oNe_int, oEq_fr, oNe_fr, oEq_bl, oNe_bl, oTup_ap, oLst_ap, oCall_ap, oAbs_ap, oMax_ap, oMin_ap, oToInt_b, oToInt_i, oLen_lst, oLen_scr, oLen_tup, oIx_lst, oIx_scr, oAdd_lst, oIx_tup, oIx_fr0, oIx_fr1, ixR_ok, oItL_ap, oItT_ap, sFor_ap, startD, List.map_cons, List.map_nil, List.length_cons, List.length_nil, List.replicate_succ, List.replicate_zero, List.cons_append, List.nil_append, List.append_nil, List.getElem?_cons_zero, List.getElem?_cons_succ, List.set_cons_zero, List.set_cons_succ, Nat.reduceAdd, Nat.reduceSub, Nat.sub_self, Nat.reduceLeDiff, List.all_cons, List.all_nil, np_fr, np_int, np_bl, np_tup, np_lst, np_str, np_non, Bool.and_self, Bool.and_true, if_true_, if_false_, zero_add', if_tt, if_ff, decide_true, decide_false, Nat.le_refl, oItS_lst, oItS_tup, oTupOf_lst, oTupOf_tup, oLstOf_lst, oLstOf_tup, oRv_lst, oRv_tup, oAdd_tup, dChain_ap, asTru_bl, asTru_tup, asTru_lst, oIsN_ap, oNotN_ap, asI_ap, oSl_tup, oSl_lst, oZip_tup, oZip_lst, oAddI_ap, oEqS_ap, oNeS_ap, oNe_nil, i2, z2, tb0, m0, sl0, a2, j2, nb, Bool.false_eq_true]
    · simp -implicitDefEqProofs only [den_law_L3, sSeq_ap, sAsg_ap, sPar_ap, sRet_ap, sIf_ap, sExpr_ap, sNext_ap, bnd_ap, ret_ap, bindR_ok, thenR_ok, dVar_ap, varR_ok, seqR_nx, seqR_rt, asgR_ok, gNm_ap, gCn_ap, gcnR_ok, gNl_ap, gTp_fr, gTp_ap, gLs_ap, dCons_ap, dNil_ap, asB_ap, dOr_ap, dAnd_ap, dNot_ap, dAndV_ap, dOrV_ap, dNotV_ap, dIf_ap, oAdd_int, oSub_int, oLt_int, oLe_int, oGt_int, oGe_int, oNeg_int, oEq_int, oNe_int, oEq_fr, oNe_fr, oEq_bl, oNe_bl, oTup_ap, oLst_ap, oCall_ap, oAbs_ap, oMax_ap, oMin_ap, oToInt_b, oToInt_i, oLen_lst, oLen_scr, oLen_tup, oIx_lst, oIx_scr, oAdd_lst, oIx_tup, oIx_fr0, oIx_fr1, ixR_ok, oItL_ap, oItT_ap, sFor_ap, startD, List.map_cons, List.map_nil, List.length_cons, List.length_nil, List.replicate_succ, List.replicate_zero, List.cons_append, List.nil_append, List.append_nil, List.getElem?_cons_zero, List.getElem?_cons_succ, List.set_cons_zero, List.set_cons_succ, Nat.reduceAdd, Nat.reduceSub, Nat.sub_self, Nat.reduceLeDiff, List.all_cons, List.all_nil, np_fr, np_int, np_bl, np_tup, np_lst, np_str, np_non, Bool.and_self, Bool.and_true, if_true_, if_false_, zero_add', if_tt, if_ff, decide_true, decide_false, Nat.le_refl, oItS_lst, oItS_tup, oTupOf_lst, oTupOf_tup, oLstOf_lst, oLstOf_tup, oRv_lst, oRv_tup, oAdd_tup, dChain_ap, asTru_bl, asTru_tup, asTru_lst, oIsN_ap, oNotN_ap, asI_ap, oSl_tup, oSl_lst, oZip_tup, oZip_lst, oAddI_ap, oEqS_ap, oNeS_ap, oNe_nil, i3, z3, tb1, m1, sl2, a3, j3, nb, Bool.false_eq_true]
  have c1 := S3 _ M2 (.inl rfl)
  have c2 := S3 _ M2 (.inr (.inl rfl))
  have c3 := S3 _ M2 (.inr (.inr rfl))
  have L3 : forF (gNm 2) den_law_L3 [.tup [.str wPour, .int 1, frQ tiny, frQ mill], .tup [.str wLet, .int 0, frQ great], .tup [.str wLead, .int 0, .int 1, frQ mil]] [some (.scr (ns.map D.int)), some (.tup [frQ great, .tup [.tup [.tup [.int 1, .int 1], .tup [.int 5, .int 1]]], .tup [.tup [.tup [.int 1, .int 1], .tup [.int 1, .int 1]]]]), none, q3, q4, q5, q6, q7, q8] M2 = some (.nx [some (.scr (ns.map D.int)), some (.tup [frQ great, .tup [.tup [.tup [.int 1, .int 1], .tup [.int 5, .int 1]]], .tup [.tup [.tup [.int 1, .int 1], .tup [.int 1, .int 1]]]]), some (.tup [.str wLead, .int 0, .int 1, frQ mil]), q3, q4, q5, q6, q7, q8], M2) := by
    generalize ns.map D.int = N at *
    simp -implicitDefEqProofs only [forF_cons, forF_nil, gNm_ap, List.set_cons_zero, List.set_cons_succ, forB_ok, c1, c2, c3, ofR_nx]
  refine ⟨_, runF_rt (M2 := M2) ?_ (by simp) rfl⟩
  rw [show startD ["script", "works", "deed", "place", "cell", "pot", "full", "turn", "thing"] [D.scr (ns.map D.int)] = [some (.scr (ns.map D.int)), none, none, none, none, none, none, none, none] from rfl]
  generalize hV : enumFrom 0 ((0 :: es).map D.int) = V at *
  simp -implicitDefEqProofs only [List.nil_append] at e0' ad e2
  generalize ns.map D.int = N at *
  unfold den_law
  rw [seq_step (ρ1 := [some (.scr N), q1, none, q3, q4, q5, q6, q7, q8]) (M1 := M2) (by simp -implicitDefEqProofs only [sSeq_ap, sAsg_ap, sPar_ap, sRet_ap, sIf_ap, sExpr_ap, sNext_ap, bnd_ap, ret_ap, bindR_ok, thenR_ok, dVar_ap, varR_ok, seqR_nx, seqR_rt, asgR_ok, gNm_ap, gCn_ap, gcnR_ok, gNl_ap, gTp_fr, gTp_ap, gLs_ap, dCons_ap, dNil_ap, asB_ap, dOr_ap, dAnd_ap, dNot_ap, dAndV_ap, dOrV_ap, dNotV_ap, dIf_ap, oAdd_int, oSub_int, oLt_int, oLe_int, oGt_int, oGe_int, oNeg_int, oEq_int, oNe_int, oEq_fr, oNe_fr, oEq_bl, oNe_bl, oTup_ap, oLst_ap, oCall_ap, oAbs_ap, oMax_ap, oMin_ap, oToInt_b, oToInt_i, oLen_lst, oLen_scr, oLen_tup, oIx_lst, oIx_scr, oAdd_lst, oIx_tup, oIx_fr0, oIx_fr1, ixR_ok, oItL_ap, oItT_ap, sFor_ap, startD, List.map_cons, List.map_nil, List.length_cons, List.length_nil, List.replicate_succ, List.replicate_zero, List.cons_append, List.nil_append, List.append_nil, List.getElem?_cons_zero, List.getElem?_cons_succ, List.set_cons_zero, List.set_cons_succ, Nat.reduceAdd, Nat.reduceSub, Nat.sub_self, Nat.reduceLeDiff, List.all_cons, List.all_nil, np_fr, np_int, np_bl, np_tup, np_lst, np_str, np_non, Bool.and_self, Bool.and_true, if_true_, if_false_, zero_add', if_tt, if_ff, decide_true, decide_false, Nat.le_refl, oItS_lst, oItS_tup, oTupOf_lst, oTupOf_tup, oLstOf_lst, oLstOf_tup, oRv_lst, oRv_tup, oAdd_tup, dChain_ap, asTru_bl, asTru_tup, asTru_lst, oIsN_ap, oNotN_ap, asI_ap, oSl_tup, oSl_lst, oZip_tup, oZip_lst, oAddI_ap, oEqS_ap, oNeS_ap, oNe_nil, e0', ad, en, e2])]
  rw [seq_step (ρ1 := [some (.scr N), some (.tup [frQ great, .tup [.tup [.tup [.int 1, .int 1], .tup [.int 5, .int 1]]], .tup [.tup [.tup [.int 1, .int 1], .tup [.int 1, .int 1]]]]), none, q3, q4, q5, q6, q7, q8]) (M1 := M2) (by simp -implicitDefEqProofs only [sSeq_ap, sAsg_ap, sPar_ap, sRet_ap, sIf_ap, sExpr_ap, sNext_ap, bnd_ap, ret_ap, bindR_ok, thenR_ok, dVar_ap, varR_ok, seqR_nx, seqR_rt, asgR_ok, gNm_ap, gCn_ap, gcnR_ok, gNl_ap, gTp_fr, gTp_ap, gLs_ap, dCons_ap, dNil_ap, asB_ap, dOr_ap, dAnd_ap, dNot_ap, dAndV_ap, dOrV_ap, dNotV_ap, dIf_ap, oAdd_int, oSub_int, oLt_int, oLe_int, oGt_int, oGe_int, oNeg_int, oEq_int, oNe_int, oEq_fr, oNe_fr, oEq_bl, oNe_bl, oTup_ap, oLst_ap, oCall_ap, oAbs_ap, oMax_ap, oMin_ap, oToInt_b, oToInt_i, oLen_lst, oLen_scr, oLen_tup, oIx_lst, oIx_scr, oAdd_lst, oIx_tup, oIx_fr0, oIx_fr1, ixR_ok, oItL_ap, oItT_ap, sFor_ap, startD, List.map_cons, List.map_nil, List.length_cons, List.length_nil, List.replicate_succ, List.replicate_zero, List.cons_append, List.nil_append, List.append_nil, List.getElem?_cons_zero, List.getElem?_cons_succ, List.set_cons_zero, List.set_cons_succ, Nat.reduceAdd, Nat.reduceSub, Nat.sub_self, Nat.reduceLeDiff, List.all_cons, List.all_nil, np_fr, np_int, np_bl, np_tup, np_lst, np_str, np_non, Bool.and_self, Bool.and_true, if_true_, if_false_, zero_add', if_tt, if_ff, decide_true, decide_false, Nat.le_refl, oItS_lst, oItS_tup, oTupOf_lst, oTupOf_tup, oLstOf_lst, oLstOf_tup, oRv_lst, oRv_tup, oAdd_tup, dChain_ap, asTru_bl, asTru_tup, asTru_lst, oIsN_ap, oNotN_ap, asI_ap, oSl_tup, oSl_lst, oZip_tup, oZip_lst, oAddI_ap, oEqS_ap, oNeS_ap, oNe_nil, pow10_30, f1])]
  rw [seq_step (ρ1 := [some (.scr N), some (.tup [frQ great, .tup [.tup [.tup [.int 1, .int 1], .tup [.int 5, .int 1]]], .tup [.tup [.tup [.int 1, .int 1], .tup [.int 1, .int 1]]]]), some (.tup [.str wLead, .int 0, .int 1, frQ mil]), q3, q4, q5, q6, q7, q8]) (M1 := M2) (by
    rw [sFor_ap]
    simp -implicitDefEqProofs only [sSeq_ap, sAsg_ap, sPar_ap, sRet_ap, sIf_ap, sExpr_ap, sNext_ap, bnd_ap, ret_ap, bindR_ok, thenR_ok, dVar_ap, varR_ok, seqR_nx, seqR_rt, asgR_ok, gNm_ap, gCn_ap, gcnR_ok, gNl_ap, gTp_fr, gTp_ap, gLs_ap, dCons_ap, dNil_ap, asB_ap, dOr_ap, dAnd_ap, dNot_ap, dAndV_ap, dOrV_ap, dNotV_ap, dIf_ap, oAdd_int, oSub_int, oLt_int, oLe_int, oGt_int, oGe_int, oNeg_int, oEq_int, oNe_int, oEq_fr, oNe_fr, oEq_bl, oNe_bl, oTup_ap, oLst_ap, oCall_ap, oAbs_ap, oMax_ap, oMin_ap, oToInt_b, oToInt_i, oLen_lst, oLen_scr, oLen_tup, oIx_lst, oIx_scr, oAdd_lst, oIx_tup, oIx_fr0, oIx_fr1, ixR_ok, oItL_ap, oItT_ap, sFor_ap, startD, List.map_cons, List.map_nil, List.length_cons, List.length_nil, List.replicate_succ, List.replicate_zero, List.cons_append, List.nil_append, List.append_nil, List.getElem?_cons_zero, List.getElem?_cons_succ, List.set_cons_zero, List.set_cons_succ, Nat.reduceAdd, Nat.reduceSub, Nat.sub_self, Nat.reduceLeDiff, List.all_cons, List.all_nil, np_fr, np_int, np_bl, np_tup, np_lst, np_str, np_non, Bool.and_self, Bool.and_true, if_true_, if_false_, zero_add', if_tt, if_ff, decide_true, decide_false, Nat.le_refl, oItS_lst, oItS_tup, oTupOf_lst, oTupOf_tup, oLstOf_lst, oLstOf_tup, oRv_lst, oRv_tup, oAdd_tup, dChain_ap, asTru_bl, asTru_tup, asTru_lst, oIsN_ap, oNotN_ap, asI_ap, oSl_tup, oSl_lst, oZip_tup, oZip_lst, oAddI_ap, oEqS_ap, oNeS_ap, oNe_nil, pow10_30, pow10_6, q1_eq, q2_eq, q3_eq, q4_eq]
    exact L3)]
  rw [seq_step (ρ1 := [some (.scr N), some (.tup [frQ 1, .tup [.tup [frQ 1, .tup [.int 5, .int 1]]], .tup [.tup [frQ 1, frQ 1]]]), some (.tup [.str wLead, .int 0, .int 1, frQ mil]), q3, q4, q5, q6, q7, q8]) (M1 := M2) (by simp -implicitDefEqProofs only [sSeq_ap, sAsg_ap, sPar_ap, sRet_ap, sIf_ap, sExpr_ap, sNext_ap, bnd_ap, ret_ap, bindR_ok, thenR_ok, dVar_ap, varR_ok, seqR_nx, seqR_rt, asgR_ok, gNm_ap, gCn_ap, gcnR_ok, gNl_ap, gTp_fr, gTp_ap, gLs_ap, dCons_ap, dNil_ap, asB_ap, dOr_ap, dAnd_ap, dNot_ap, dAndV_ap, dOrV_ap, dNotV_ap, dIf_ap, oAdd_int, oSub_int, oLt_int, oLe_int, oGt_int, oGe_int, oNeg_int, oEq_int, oNe_int, oEq_fr, oNe_fr, oEq_bl, oNe_bl, oTup_ap, oLst_ap, oCall_ap, oAbs_ap, oMax_ap, oMin_ap, oToInt_b, oToInt_i, oLen_lst, oLen_scr, oLen_tup, oIx_lst, oIx_scr, oAdd_lst, oIx_tup, oIx_fr0, oIx_fr1, ixR_ok, oItL_ap, oItT_ap, sFor_ap, startD, List.map_cons, List.map_nil, List.length_cons, List.length_nil, List.replicate_succ, List.replicate_zero, List.cons_append, List.nil_append, List.append_nil, List.getElem?_cons_zero, List.getElem?_cons_succ, List.set_cons_zero, List.set_cons_succ, Nat.reduceAdd, Nat.reduceSub, Nat.sub_self, Nat.reduceLeDiff, List.all_cons, List.all_nil, np_fr, np_int, np_bl, np_tup, np_lst, np_str, np_non, Bool.and_self, Bool.and_true, if_true_, if_false_, zero_add', if_tt, if_ff, decide_true, decide_false, Nat.le_refl, oItS_lst, oItS_tup, oTupOf_lst, oTupOf_tup, oLstOf_lst, oLstOf_tup, oRv_lst, oRv_tup, oAdd_tup, dChain_ap, asTru_bl, asTru_tup, asTru_lst, oIsN_ap, oNotN_ap, asI_ap, oSl_tup, oSl_lst, oZip_tup, oZip_lst, oAddI_ap, oEqS_ap, oNeS_ap, oNe_nil, one])]
  simp -implicitDefEqProofs only [sSeq_ap, sAsg_ap, sPar_ap, sRet_ap, sIf_ap, sExpr_ap, sNext_ap, bnd_ap, ret_ap, bindR_ok, thenR_ok, dVar_ap, varR_ok, seqR_nx, seqR_rt, asgR_ok, gNm_ap, gCn_ap, gcnR_ok, gNl_ap, gTp_fr, gTp_ap, gLs_ap, dCons_ap, dNil_ap, asB_ap, dOr_ap, dAnd_ap, dNot_ap, dAndV_ap, dOrV_ap, dNotV_ap, dIf_ap, oAdd_int, oSub_int, oLt_int, oLe_int, oGt_int, oGe_int, oNeg_int, oEq_int, oNe_int, oEq_fr, oNe_fr, oEq_bl, oNe_bl, oTup_ap, oLst_ap, oCall_ap, oAbs_ap, oMax_ap, oMin_ap, oToInt_b, oToInt_i, oLen_lst, oLen_scr, oLen_tup, oIx_lst, oIx_scr, oAdd_lst, oIx_tup, oIx_fr0, oIx_fr1, ixR_ok, oItL_ap, oItT_ap, sFor_ap, startD, List.map_cons, List.map_nil, List.length_cons, List.length_nil, List.replicate_succ, List.replicate_zero, List.cons_append, List.nil_append, List.append_nil, List.getElem?_cons_zero, List.getElem?_cons_succ, List.set_cons_zero, List.set_cons_succ, Nat.reduceAdd, Nat.reduceSub, Nat.sub_self, Nat.reduceLeDiff, List.all_cons, List.all_nil, np_fr, np_int, np_bl, np_tup, np_lst, np_str, np_non, Bool.and_self, Bool.and_true, if_true_, if_false_, zero_add', if_tt, if_ff, decide_true, decide_false, Nat.le_refl, oItS_lst, oItS_tup, oTupOf_lst, oTupOf_tup, oLstOf_lst, oLstOf_tup, oRv_lst, oRv_tup, oAdd_tup, dChain_ap, asTru_bl, asTru_tup, asTru_lst, oIsN_ap, oNotN_ap, asI_ap, oSl_tup, oSl_lst, oZip_tup, oZip_lst, oAddI_ap, oEqS_ap, oNeS_ap, oNe_nil, neg7, q5_eq, k4, k5, ib]
end Bw
open PySem PySem.W PyProof.Rows
set_option maxRecDepth 100000 in
set_option maxHeartbeats 0 in
theorem PySem.Challenge.cw_brineways_k49_deeds_judged_holds : PySem.Challenge.rw_brineways_k49_deeds_judged.Holds := by
  w_on; o_law; k_head; (case hw => w_witness2)
  k_fill
  refine Bw.walkG (l := PySem.Challenge.rw_brineways_k49_deeds_judged) (n := 63) (k := 7) (x := "script") (sp := fun w => Bw.spL _ 1 Bw.F_law) rfl (by decide) rfl ⟨rfl, by decide, by decide⟩ (fun w h Y => by first | exact PySem.W.kIn_of Y | exact PySem.W.km_in_of Y) ?F (fun _ _ a ns hl hS => Bw.law_start hl hS Bw.law_true)
  case F =>
    intro w mg fa h KX G hmg
    refine' Bw.law_end KX G hmg ?a0 ?l0 ?c0 ?k0 ?a1 ?l1 ?c1 ?k1 ?a2 ?l2 ?c2 ?k2 ?a3 ?l3 ?c3 ?k3 ?a4 ?l4 ?c4 ?k4 ?a5 ?l5 ?c5 ?k5 ?a6 ?l6 ?c6 ?k6 ?a7 ?l7 ?c7 ?k7 ?a8 ?l8 ?c8 ?k8 ?a9 ?l9 ?c9 ?k9 ?a10 ?l10 ?c10 ?k10 ?a11 ?l11 ?c11 ?k11 ?a12 ?l12 ?c12 ?k12 ?a13 ?l13 ?c13 ?k13 ?a14 ?l14 ?c14 ?k14 ?a15 ?l15 ?c15 ?k15 ?a16 ?l16 ?c16 ?k16 ?a17 ?l17 ?c17 ?k17 ?a18 ?l18 ?c18 ?k18 ?a19 ?l19 ?c19 ?k19 ?a20 ?l20 ?c20 ?k20 ?a21 ?l21 ?c21 ?k21 ?a22 ?l22 ?c22 ?k22 ?a23 ?l23 ?c23 ?k23 ?a24 ?l24 ?c24 ?k24 ?a25 ?l25 ?c25 ?k25 ?a26 ?l26 ?c26 ?k26 ?a27 ?l27 ?c27 ?k27 ?a28 ?l28 ?c28 ?k28 ?a29 ?l29 ?c29 ?k29 ?a30 ?l30 ?c30 ?k30 ?a31 ?l31 ?c31 ?k31 ?z_abs ?z_bool ?z_enumerate ?z_int ?z_isinstance ?z_len ?z_list ?z_max ?z_range ?z_repr ?z_str ?z_tuple ?m_NOUGHT ?l_NOUGHT ?m_FORMS ?dw_FORMS ?hv_FORMS_pour ?hv_FORMS_lead ?hv_FORMS_let ?hv_FORMS_rake ?hv_FORMS_stir ?ms_FORMS_0 ?ms_FORMS_1 ?ms_FORMS_2 ?ms_FORMS_3 ?ms_FORMS_4 ?ms_FORMS_5 ?ms_FORMS_6 ?ms_FORMS_7 ?n_NoFraction ?hg_NoFraction ?hk_NoFraction ?hd_NoFraction ?ha_NoFraction ?hm_NoFraction ?hn_ ?ht_ ?b_NoFraction ?t_NoFraction ?q_NoFraction ?k_NoFraction
    (case a0 => k_is)
    (case l0 => k_is)
    (case c0 => k_is)
    (case k0 => k_is)
    (case a1 => k_is)
    (case l1 => k_is)
    (case c1 => k_is)
    (case k1 => k_is)
    (case a2 => k_is)
    (case l2 => k_is)
    (case c2 => k_is)
    (case k2 => k_is)
    (case a3 => k_is)
    (case l3 => k_is)
    (case c3 => k_is)
    (case k3 => k_is)
    (case a4 => k_is)
    (case l4 => k_is)
    (case c4 => k_is)
    (case k4 => k_is)
    (case a5 => k_is)
    (case l5 => k_is)
    (case c5 => k_is)
    (case k5 => k_is)
    (case a6 => k_is)
    (case l6 => k_is)
    (case c6 => k_is)
    (case k6 => k_is)
    (case a7 => k_is)
    (case l7 => k_is)
    (case c7 => k_is)
    (case k7 => k_is)
    (case a8 => k_is)
    (case l8 => k_is)
    (case c8 => k_is)
    (case k8 => k_is)
    (case a9 => k_is)
    (case l9 => k_is)
    (case c9 => k_is)
    (case k9 => k_is)
    (case a10 => k_is)
    (case l10 => k_is)
    (case c10 => k_is)
    (case k10 => k_is)
    (case a11 => k_is)
    (case l11 => k_is)
    (case c11 => k_is)
    (case k11 => k_is)
    (case a12 => k_is)
    (case l12 => k_is)
    (case c12 => k_is)
    (case k12 => k_is)
    (case a13 => k_is)
    (case l13 => k_is)
    (case c13 => k_is)
    (case k13 => k_is)
    (case a14 => k_is)
    (case l14 => k_is)
    (case c14 => k_is)
    (case k14 => k_is)
    (case a15 => k_is)
    (case l15 => k_is)
    (case c15 => k_is)
    (case k15 => k_is)
    (case a16 => k_is)
    (case l16 => k_is)
    (case c16 => k_is)
    (case k16 => k_is)
    (case a17 => k_is)
    (case l17 => k_is)
    (case c17 => k_is)
    (case k17 => k_is)
    (case a18 => k_is)
    (case l18 => k_is)
    (case c18 => k_is)
    (case k18 => k_is)
    (case a19 => k_is)
    (case l19 => k_is)
    (case c19 => k_is)
    (case k19 => k_is)
    (case a20 => k_is)
    (case l20 => k_is)
    (case c20 => k_is)
    (case k20 => k_is)
    (case a21 => k_is)
    (case l21 => k_is)
    (case c21 => k_is)
    (case k21 => k_is)
    (case a22 => k_is)
    (case l22 => k_is)
    (case c22 => k_is)
    (case k22 => k_is)
    (case a23 => k_is)
    (case l23 => k_is)
    (case c23 => k_is)
    (case k23 => k_is)
    (case a24 => k_is)
    (case l24 => k_is)
    (case c24 => k_is)
    (case k24 => k_is)
    (case a25 => k_is)
    (case l25 => k_is)
    (case c25 => k_is)
    (case k25 => k_is)
    (case a26 => k_is)
    (case l26 => k_is)
    (case c26 => k_is)
    (case k26 => k_is)
    (case a27 => k_is)
    (case l27 => k_is)
    (case c27 => k_is)
    (case k27 => k_is)
    (case a28 => k_is)
    (case l28 => k_is)
    (case c28 => k_is)
    (case k28 => k_is)
    (case a29 => k_is)
    (case l29 => k_is)
    (case c29 => k_is)
    (case k29 => k_is)
    (case a30 => k_is)
    (case l30 => k_is)
    (case c30 => k_is)
    (case k30 => k_is)
    (case a31 => k_is)
    (case l31 => k_is)
    (case c31 => k_is)
    (case k31 => k_is)
    (case z_abs => k_is)
    (case z_bool => k_is)
    (case z_enumerate => k_is)
    (case z_int => k_is)
    (case z_isinstance => k_is)
    (case z_len => k_is)
    (case z_list => k_is)
    (case z_max => k_is)
    (case z_range => k_is)
    (case z_repr => k_is)
    (case z_str => k_is)
    (case z_tuple => k_is)
    (case m_NOUGHT => k_is)
    (case l_NOUGHT => k_is)
    (case m_FORMS => k_is)
    (case dw_FORMS => (first | rfl | kernel_rfl))
    (case hv_FORMS_pour => k_is)
    (case hv_FORMS_lead => k_is)
    (case hv_FORMS_let => k_is)
    (case hv_FORMS_rake => k_is)
    (case hv_FORMS_stir => k_is)
    (case ms_FORMS_0 => k_is)
    (case ms_FORMS_1 => k_is)
    (case ms_FORMS_2 => k_is)
    (case ms_FORMS_3 => k_is)
    (case ms_FORMS_4 => k_is)
    (case ms_FORMS_5 => k_is)
    (case ms_FORMS_6 => k_is)
    (case ms_FORMS_7 => k_is)
    (case n_NoFraction => k_is)
    (case hg_NoFraction => k_is)
    (case hk_NoFraction => k_is)
    (case hd_NoFraction => k_is)
    (case ha_NoFraction => k_is)
    (case hm_NoFraction => k_is)
    (case hn_ => k_is)
    (case ht_ => k_is)
    (case b_NoFraction => k_is)
    (case t_NoFraction => k_is)
    (case q_NoFraction => k_exc)
    (case k_NoFraction => k_is)
