import PyProof.Rows.All
import Wide.All
import OpenK.AllK
import Wide.FinOn
import HandS.Iter
import KE.KeyNested
import PyProof.DictRoadsH
import HandS.ForMost
import HandS.ForExc
import HandS.Wide
import HandS.TupAny
import HandS.SetFor
import HandS.ExcIs
import HandS.IsInst
import HandS.RaiseMore
import HandS.Style
import HandS.Zip
import HandS.Deep
import PyProof.Rows.ReprR
import KE.GoesNew
import KE.GoesEnum
import HandS.TupMul
import HandS.More
import KE.KRevSl
import HandS.Conv
import HandS.Strs
import HandS.TupSets
import HandS.Remove
import HandS.CallLocal
import HandS.WrittenGet
import HandS.HeadHook3
import HandS.List
import PyProof.ListNew
import KE.GoesZip
import KE.GoesMore
import HandS.Flt
import HandS.FStr
import HandS.StrMore
import HandS.Text
import HandS.WideBits
import HandS.SortRule
import PySem.Challenge.RW_brineways_k83_brines_written
set_option Elab.async false
set_option linter.all false
set_option maxRecDepth 100000
/-! dicts whose keys are None, ints and tuples of ints, together -/
namespace Bw
open PySem PySem.Spec PyProof.Rows L2
abbrev NK := PySem.NestedKey
/-- the keys that are served -/
inductive KyIs (h : Heap) : NK → Value → Prop
  | non : KyIs h .none .none
  | int (i : Int) (t : Tok) : KyIs h (.num i) (.int i t)
  | tup {is : List Int} {a : Addr} (n : NestedIs h (.tup (is.map .num)) (.ref a)) : KyIs h (.tup (is.map .num)) (.ref a)
/-- the hash, without the world -/
def hN : NK → Int
  | .none => reduceHash 0xFCA86420
  | .num i => hashInt i
  | .text _ => 0
  | .tup ks => reduceHash (Builtin.Tuple.tupleHashOf (ks.map fun k => match k with | .num i => hashInt i | _ => 0))
theorem hashes_nums (w : World) : ∀ is : List Int, NestedKey.hashes w (is.map .num) = (is.map NestedKey.num).map (fun k => match k with | .num i => hashInt i | _ => 0)
  | [] => rfl
  | i :: is => by
    rw [List.map_cons, NestedKey.hashes, NestedKey.hash, hashes_nums w is]
    rfl
theorem depth_nums : ∀ is : List Int, NestedKey.depthAll (is.map .num) = 0
  | [] => rfl
  | i :: is => by rw [List.map_cons, NestedKey.depthAll, depth_nums is]; rfl
section
variable {h h' : Heap} {k k2 : NK} {v : Value}
theorem KyIs.nest (x : KyIs h k v) : NestedIs h k v := by
  cases x with
  | non => exact .none
  | int i t => exact .int i t
  | tup n => exact n
theorem KyIs.deep (x : KyIs h k v) : k.depth ≤ 1 := by
  cases x with
  | non => exact Nat.zero_le _
  | int i t => exact Nat.zero_le _
  | tup n => rw [NestedKey.depth, depth_nums]; exact Nat.le_refl _
theorem KyIs.hash (x : KyIs h k v) (w : World) : k.hash w = hN k := by
  cases x with
  | non => rw [NestedKey.hash]; rfl
  | int i t => rw [NestedKey.hash]; rfl
  | tup n => rw [NestedKey.hash, hashes_nums]; rfl
theorem KyIs.inj (x : KyIs h k v) (y : KyIs h k2 v) : k = k2 := NestedIs.inj _ _ _ x.nest y.nest
theorem KyIs.stay (x : KyIs h k v) (q : ∀ b o vs n, h.get? b = some o → o.data = .seq vs n → h'.get? b = some o) : KyIs h' k v := by
  cases x with
  | non => exact .non
  | int i t => exact .int i t
  | tup n => exact .tup (NestedIs.at q _ _ n)
end
abbrev R3 := List (NK × Value × Value)
def ent3 (x : NK × Value × Value) : DictEntry := ⟨hN x.1, x.2.1, x.2.2⟩
def look3 (xs : R3) (k : NK) : Option (Value × Value) := (xs.find? fun x => decide (x.1 = k)).map (·.2)
def put3 (xs : R3) (k : NK) (kv v : Value) : R3 := if (look3 xs k).isSome = true then xs.map (fun x => if x.1 = k then (x.1, x.2.1, v) else x) else xs ++ [(k, kv, v)]
/-- the dict at d -/
def Dic3 (h : Heap) (d : Addr) (xs : R3) : Prop := ∃ o es ep, h.get? d = some o ∧ o.ExactDict ∧ o.data = .dict es ep ∧ es.toList = xs.map ent3 ∧ (xs.map (·.1)).Nodup
theorem ent3_at {es : Array DictEntry} {xs : R3} (q : es.toList = xs.map ent3) (j : Nat) : es[j]? = (xs[j]?).map ent3 := by rw [← Array.getElem?_toList, q, List.getElem?_map]
theorem ent3_size {es : Array DictEntry} {xs : R3} (q : es.toList = xs.map ent3) : es.size = xs.length := by rw [← Array.length_toList, q, List.length_map]
theorem Dic3.ty {s : Shared} {d : Addr} {xs : R3} (m : Dic3 s.heap d xs) : s.TypeIs (.ref d) "dict" := by
  obtain ⟨o, _, _, g, c, _⟩ := m
  exact ⟨o, g, c.1⟩
section
variable {P : Program} {w : World} {A : Around} {E : Value → Shared → Prop} {s : Shared}
end
end Bw
namespace Bw
open PySem PySem.Spec PyProof.Rows L2
/-- which places have the hash -/
def hp3 (es : Array DictEntry) (k : NK) (i : Nat) : Bool := (es[i]?.map (·.hash)) == some (hN k)
/-- none of the first i is the key -/
def No3 (xs : R3) (k : NK) (i : Nat) : Prop := ∀ j p, j < i → xs[j]? ≠ some (k, p)
section
variable {P : Program} {w : World} {A : Around} {E : Value → Shared → Prop} {s : Shared} {es : Array DictEntry} {xs : R3} {k : NK}
theorem hp3_of (q : es.toList = xs.map ent3) {j : Nat} {p : Value × Value} (e : xs[j]? = some (k, p)) : hp3 es k j = true := by
  unfold hp3
  rw [ent3_at q j, e]
  simp [ent3]
theorem No3.skip (q : es.toList = xs.map ent3) {i x : Nat} (a : No3 xs k i) (sk : ∀ j, i ≤ j → j < x → hp3 es k j = false) : No3 xs k x := fun j p hj e => by
  rcases Nat.lt_or_ge j i with z | z
  · exact a j p z e
  · have := sk j z hj
    rw [hp3_of q e] at this
    cases this
theorem No3.next {x : Nat} {k2 : NK} {p2 : Value × Value} (a : No3 xs k x) (e2 : xs[x]? = some (k2, p2)) (ne : ¬ k2 = k) : No3 xs k (x + 1) := fun j p hj e => by
  rcases Nat.lt_or_ge j x with z | z
  · exact a j p z e
  · have : j = x := by omega
    subst this
    rw [e2] at e
    injection e with e
    injection e with e
    exact ne e
theorem No3.all (q : es.toList = xs.map ent3) {i : Nat} (a : No3 xs k i) (hr : [] = (List.range' i (es.size - i)).filter (hp3 es k)) (j : Nat) (p : Value × Value) : xs[j]? ≠ some (k, p) := fun e => by
  have hj : j < es.size := by
    rw [ent3_size q]
    rcases Nat.lt_or_ge j xs.length with z | z
    · exact z
    · rw [List.getElem?_eq_none z] at e; cases e
  rcases Nat.lt_or_ge j i with z | z
  · exact a j p z e
  · have := List.filter_eq_nil_iff.mp hr.symm j (List.mem_range'_1.mpr ⟨z, by omega⟩)
    rw [hp3_of q e] at this
    exact this rfl
end
end Bw
namespace Bw
open PySem PySem.Spec PyProof.Rows L2
section
variable {P : Program} {w : World} {A : Around} {E : Value → Shared → Prop} {s : Shared} {xs : R3} {k : NK} {d : Addr} {key : Value}
end
end Bw
/-! data-level readings -/
namespace Bw
open PySem PySem.Spec PyProof.Rows L2
inductive D where
  | non | bl (b : Bool) | int (i : Int) | str (z : Str) | tup (ds : List D) | lst (ds : List D) | ptr (n : Nat) | exv (x : Str) | scr (ds : List D) | emp | dpt (n : Nat) | npt (n : Nat)
/-- what stands at a numbered address: a list, a dict -/
inductive Kd where
  | lst | dic | nst
abbrev Th := Addr × Kd
abbrev Mem := List (Option (List D))
abbrev Env := List (Option D)
inductive Rp (K : PySem.W.Frag) (G : Hp) : V → D → Prop
  | non : Rp K G .non .non
  | bl (b : Bool) : Rp K G (.bl b) (.bl b)
  | int (i : Int) : Rp K G (.int i) (.int i)
  | str (z : Str) : Rp K G (.str z) (.str z)
  | tup {a : Addr} {xs : List V} {ds : List D} (h : SqT K G a xs) (l : xs.length = ds.length) (e : ∀ (i : Nat) (v : V) (d : D), xs[i]? = some v → ds[i]? = some d → Rp K G v d) : Rp K G (.ref a) (.tup ds)
  | emp {a : Addr} (h : G a = some (.dK [])) : Rp K G (.ref a) .emp
  | scr {a : Addr} {xs : List V} {ds : List D} (h : SqL K G a xs) (l : xs.length = ds.length) (e : ∀ (i : Nat) (v : V) (d : D), xs[i]? = some v → ds[i]? = some d → Rp K G v d) : Rp K G (.ref a) (.scr ds)
  | lst {a : Addr} {xs : List V} {ds : List D} (h : G a = some (.lst xs)) (l : xs.length = ds.length) (e : ∀ (i : Nat) (v : V) (d : D), xs[i]? = some v → ds[i]? = some d → Rp K G v d) : Rp K G (.ref a) (.lst ds)
theorem seqT {K : PySem.W.Frag} {H H' : Hp} {a : Addr} {xs : List V} (e : Same H H') (h : SqT K H a xs) : SqT K H' a xs := by
  rcases h with (h | ⟨o, h⟩) | h
  · exact .inl (.inl (e _ _ h))
  · exact .inl (.inr ⟨o, e _ _ h⟩)
  · exact .inr h
theorem Rp.mono {K : PySem.W.Frag} {G G' : Hp} (s : Same G G') {v : V} {d : D} (h : Rp K G v d) : Rp K G' v d := by
  induction h with
  | non => exact .non
  | bl b => exact .bl b
  | int i => exact .int i
  | str z => exact .str z
  | tup h l e ih => exact .tup (seqT s h) l ih
  | lst h l e ih => exact .lst (s _ _ h) l ih
  | scr h l e ih => exact .scr (s.seq h) l ih
  | emp h => exact .emp (s _ _ h)
/-- lists of values and data -/
structure RpL (K : PySem.W.Frag) (G : Hp) (xs : List V) (ds : List D) : Prop where
  len : xs.length = ds.length
  get : ∀ (i : Nat) (v : V) (d : D), xs[i]? = some v → ds[i]? = some d → Rp K G v d
theorem RpL.mono {K : PySem.W.Frag} {G G' : Hp} (s : Same G G') {xs : List V} {ds : List D} (h : RpL K G xs ds) : RpL K G' xs ds := ⟨h.len, fun i v d a b => (h.get i v d a b).mono s⟩
theorem RpL.nil {K : PySem.W.Frag} {G : Hp} : RpL K G [] [] := ⟨rfl, fun i v d h => by simp at h⟩
theorem RpL.cons {K : PySem.W.Frag} {G : Hp} {v : V} {d : D} {xs : List V} {ds : List D} (h : Rp K G v d) (r : RpL K G xs ds) : RpL K G (v :: xs) (d :: ds) := by
  refine ⟨by simp [r.len], fun i w e h1 h2 => ?_⟩
  cases i with
  | zero => simp at h1 h2; subst h1; subst h2; exact h
  | succ i => exact r.get i w e (by simpa using h1) (by simpa using h2)
theorem RpL.uncons {K : PySem.W.Frag} {G : Hp} {xs : List V} {d : D} {ds : List D} (r : RpL K G xs (d :: ds)) : ∃ v ys, xs = v :: ys ∧ Rp K G v d ∧ RpL K G ys ds := by
  cases xs with
  | nil => exact absurd r.len (by simp)
  | cons v ys => exact ⟨v, ys, rfl, r.get 0 v d rfl rfl, by have := r.len; simpa using this, fun i w e h1 h2 => r.get (i + 1) w e (by simpa using h1) (by simpa using h2)⟩
theorem RpL.nil_of {K : PySem.W.Frag} {G : Hp} {xs : List V} (r : RpL K G xs []) : xs = [] := by
  cases xs with
  | nil => rfl
  | cons v ys => exact absurd r.len (by simp)
theorem RpL.append {K : PySem.W.Frag} {G : Hp} {xs ys : List V} {ds es : List D} (h : RpL K G xs ds) (r : RpL K G ys es) : RpL K G (xs ++ ys) (ds ++ es) := by
  refine ⟨by simp [h.len, r.len], fun i w e h1 h2 => ?_⟩
  by_cases hi : i < xs.length
  · rw [List.getElem?_append_left hi] at h1
    rw [List.getElem?_append_left (by rw [← h.len]; exact hi)] at h2
    exact h.get i w e h1 h2
  · rw [List.getElem?_append_right (by omega)] at h1
    rw [List.getElem?_append_right (by rw [← h.len]; omega), ← h.len] at h2
    exact r.get _ w e h1 h2
theorem RpL.at {K : PySem.W.Frag} {G : Hp} {xs : List V} {ds : List D} (r : RpL K G xs ds) {i : Nat} {d : D} (h : ds[i]? = some d) : ∃ v, xs[i]? = some v ∧ Rp K G v d := by
  have hi : i < ds.length := by
    rcases Nat.lt_or_ge i ds.length with q | q
    · exact q
    · rw [List.getElem?_eq_none q] at h; cases h
  have hx : i < xs.length := by rw [r.len]; exact hi
  exact ⟨xs[i], List.getElem?_eq_getElem hx, r.get i _ d (List.getElem?_eq_getElem hx) h⟩
theorem RpL.set {K : PySem.W.Frag} {G : Hp} {xs : List V} {ds : List D} (r : RpL K G xs ds) {j : Nat} {v : V} {d : D} (h : Rp K G v d) : RpL K G (xs.set j v) (ds.set j d) := by
  refine ⟨by simp [r.len], fun i w e h1 h2 => ?_⟩
  by_cases hj : j = i
  · subst hj
    rw [List.getElem?_set_self'] at h1 h2
    cases e1 : xs[j]? with
    | none => rw [e1] at h1; cases h1
    | some a =>
      cases e2 : ds[j]? with
      | none => rw [e2] at h2; cases h2
      | some b =>
        rw [e1] at h1; rw [e2] at h2
        simp at h1 h2; subst h1; subst h2; exact h
  · rw [List.getElem?_set_ne hj] at h1 h2
    exact r.get i w e h1 h2
/-- at a an error of the class cls, without a dict of its own -/
def ExQ (cls : Value) (a : Addr) : HO := .ext fun h => ∃ (oe : Obj) (vs : Array Value), h.get? a = some oe ∧ Zc cls none oe ∧ oe.data = .fields vs
/-- a value: data, or a mutable list by its number, or an error by its class's name -/
inductive Rv (K : PySem.W.Frag) (θ : List Th) (G : Hp) : V → D → Prop
  | dat {v : V} {d : D} (h : Rp K G v d) : Rv K θ G v d
  | ptr {n : Nat} {a : Addr} (h : θ[n]? = some (a, .lst)) : Rv K θ G (.ref a) (.ptr n)
  | dpt {n : Nat} {a : Addr} (h : θ[n]? = some (a, .dic)) : Rv K θ G (.ref a) (.dpt n)
  | npt {n : Nat} {a : Addr} (h : θ[n]? = some (a, .nst)) : Rv K θ G (.ref a) (.npt n)
  | exv {x : Str} {a C : Addr} (hn : PySem.W.nsIn K mainGlobals x = some (some (.ref C))) (h : G a = some (ExQ (.ref C) a)) : Rv K θ G (.ref a) (.exv x)
theorem pre_get {θ θ' : List Th} (p : θ <+: θ') {n : Nat} {a : Th} (h : θ[n]? = some a) : θ'[n]? = some a := by
  obtain ⟨r, rfl⟩ := p
  have hn : n < θ.length := by
    rcases Nat.lt_or_ge n θ.length with q | q
    · exact q
    · rw [List.getElem?_eq_none q] at h; cases h
  rw [List.getElem?_append_left hn]; exact h
theorem Rv.mono {K : PySem.W.Frag} {θ θ' : List Th} {G G' : Hp} (p : θ <+: θ') (s : Same G G') {v : V} {d : D} (h : Rv K θ G v d) : Rv K θ' G' v d := by
  cases h with
  | dat h => exact .dat (h.mono s)
  | ptr h => exact .ptr (pre_get p h)
  | dpt h => exact .dpt (pre_get p h)
  | npt h => exact .npt (pre_get p h)
  | exv hn h => exact .exv hn (s _ _ h)
structure RvL (K : PySem.W.Frag) (θ : List Th) (G : Hp) (xs : List V) (ds : List D) : Prop where
  len : xs.length = ds.length
  get : ∀ (i : Nat) (v : V) (d : D), xs[i]? = some v → ds[i]? = some d → Rv K θ G v d
theorem RvL.mono {K : PySem.W.Frag} {θ θ' : List Th} {G G' : Hp} (p : θ <+: θ') (s : Same G G') {xs : List V} {ds : List D} (h : RvL K θ G xs ds) : RvL K θ' G' xs ds := ⟨h.len, fun i v d a b => (h.get i v d a b).mono p s⟩
theorem RvL.same {K : PySem.W.Frag} {θ : List Th} {G G' : Hp} (s : Same G G') {xs : List V} {ds : List D} (h : RvL K θ G xs ds) : RvL K θ G' xs ds := h.mono (List.prefix_refl _) s
/-- keys of dicts, as data -/
def intsD : List D → Option (List Int)
  | [] => some []
  | .int i :: r => (intsD r).map (i :: ·)
  | _ :: _ => none
def keyN : D → Option NK
  | .non => some .none
  | .int i => some (.num i)
  | .tup ds => (intsD ds).map fun is => .tup (is.map .num)
  | _ => none
abbrev VE := List (NK × V × V)
abbrev DEs := List (D × D)
/-- a dict of these keys and values stands at a -/
def DH (a : Addr) (es : VE) : HO := .ext fun h => (a == sysModules) = false ∧ es.length ≤ sizeLine ∧ ∃ rows : R3, Paired (fun (p : NK × V × V) (q : NK × Value × Value) => p.1 = q.1 ∧ RelV p.2.1 q.2.1 ∧ RelV p.2.2 q.2.2) es rows ∧ Dic3 h a rows
def RpE (K : PySem.W.Frag) (G : Hp) : VE → DEs → Prop := Paired fun (p : NK × V × V) (q : D × D) => keyN q.1 = some p.1 ∧ Rp K G p.2.1 q.1 ∧ Rp K G p.2.2 q.2
theorem RpE.mono {K : PySem.W.Frag} {G G' : Hp} (s : Same G G') {xs : VE} {es : DEs} (h : RpE K G xs es) : RpE K G' xs es := Paired.mapP h fun p q z => ⟨z.1, z.2.1.mono s, z.2.2.mono s⟩
/-- a dict's cell: whether it is locked, its pairs -/
def enc (b : Bool) (es : DEs) : List D := .bl b :: es.map fun q => .tup [q.1, q.2]
/-- a locked dict is known for good, another one stands in the heap alone -/
def DicAt (G H : Hp) (a : Addr) (b : Bool) (xs : VE) : Prop := if b = true then ∃ o, G a = some (.frz o (DH a xs)) else G a = none ∧ H a = some (DH a xs)
theorem DicAt.keep {G G' H H' : Hp} {a : Addr} {b : Bool} {xs : VE} (h : DicAt G H a b xs) (s : Same G G') (g : G a = none → G' a = none) (e : H' a = H a) : DicAt G' H' a b xs := by
  unfold DicAt at h ⊢
  cases b with
  | true => obtain ⟨o, h⟩ := h; exact ⟨o, s _ _ h⟩
  | false => exact ⟨g h.1, e.trans h.2⟩
/-- the heap -/
structure Rs (K : PySem.W.Frag) (θ : List Th) (G H : Hp) (M : Mem) : Prop where
  sub : Same G H
  len : θ.length = M.length
  nd : (θ.map (·.1)).Nodup
  live : ∀ (n : Nat) (t : Th), θ[n]? = some t → H t.1 ≠ none
  mem : ∀ (n : Nat) (a : Addr) (ds : List D), θ[n]? = some (a, .lst) → M[n]? = some (some ds) → G a = none ∧ ∃ xs, H a = some (.lst xs) ∧ RpL K G xs ds
  dic : ∀ (n : Nat) (a : Addr) (b : Bool) (es : DEs), θ[n]? = some (a, .dic) → M[n]? = some (some (enc b es)) → ∃ xs, DicAt G H a b xs ∧ RpE K G xs es
  nst : ∀ (n : Nat) (a : Addr) (ds : List D), θ[n]? = some (a, .nst) → M[n]? = some (some ds) → G a = none ∧ ∃ xs, H a = some (.lst xs) ∧ RvL K (θ.take n) G xs ds
theorem Rs.inj {K : PySem.W.Frag} {θ : List Th} {G H : Hp} {M : Mem} (r : Rs K θ G H M) {n m : Nat} {t u : Th} (h1 : θ[n]? = some t) (h2 : θ[m]? = some u) (e : t.1 = u.1) : n = m := by
  have a1 : (θ.map (·.1))[n]? = some t.1 := by rw [List.getElem?_map, h1]; rfl
  have a2 : (θ.map (·.1))[m]? = some u.1 := by rw [List.getElem?_map, h2]; rfl
  exact (List.getElem?_inj (List.getElem?_eq_some_iff.mp a1).1 r.nd).mp (a1.trans (e ▸ a2.symm))
/-- the slots -/
structure Rσ (K : PySem.W.Frag) (θ : List Th) (G : Hp) (σ : L2.St) (ρ : Env) : Prop where
  len : σ.length = ρ.length
  get : ∀ (i : Nat) (d : D), ρ[i]? = some (some d) → ∃ v, σ[i]? = some (some v) ∧ Rv K θ G v d
theorem Rσ.mono {K : PySem.W.Frag} {θ θ' : List Th} {G G' : Hp} (p : θ <+: θ') (s : Same G G') {σ : L2.St} {ρ : Env} (h : Rσ K θ G σ ρ) : Rσ K θ' G' σ ρ :=
  ⟨h.len, fun i d e => by obtain ⟨v, a, b⟩ := h.get i d e; exact ⟨v, a, b.mono p s⟩⟩
theorem Rσ.set {K : PySem.W.Frag} {θ : List Th} {G : Hp} {σ : L2.St} {ρ : Env} (h : Rσ K θ G σ ρ) {i : Nat} {v : V} {d : D} (r : Rv K θ G v d) : Rσ K θ G (σ.set i (some v)) (ρ.set i (some d)) := by
  refine ⟨by simp [h.len], fun j e hj => ?_⟩
  by_cases hij : i = j
  · subst hij
    rw [List.getElem?_set_self'] at hj ⊢
    cases e1 : ρ[i]? with
    | none => rw [e1] at hj; cases hj
    | some a =>
      rw [e1] at hj
      simp at hj; subst hj
      have hi : i < σ.length := by
        rw [h.len]
        rcases Nat.lt_or_ge i ρ.length with q | q
        · exact q
        · rw [List.getElem?_eq_none q] at e1; cases e1
      rw [List.getElem?_eq_getElem hi]
      exact ⟨v, rfl, r⟩
  · rw [List.getElem?_set_ne hij] at hj ⊢
    exact h.get j e hj
theorem Rσ.start {K : PySem.W.Frag} {θ : List Th} {G : Hp} {N : List Str} {vs : List V} {ds : List D} (l : vs.length = ds.length) (h : ∀ (i : Nat) (v : V) (d : D), vs[i]? = some v → ds[i]? = some d → Rv K θ G v d) (k : Nat) (hk : k = N.length - ds.length) :
    Rσ K θ G (L2.start N vs) (ds.map some ++ List.replicate k none) := by
  unfold L2.start
  refine ⟨by simp [l, hk], fun i d hi => ?_⟩
  by_cases q : i < ds.length
  · rw [List.getElem?_append_left (by simpa using q)] at hi
    rw [List.getElem?_append_left (by simpa [l] using q)]
    rw [List.getElem?_map, List.getElem?_eq_getElem q] at hi
    rw [List.getElem?_map, List.getElem?_eq_getElem (by rw [l]; exact q)]
    simp at hi; subst hi
    exact ⟨_, rfl, h i _ _ (List.getElem?_eq_getElem (by rw [l]; exact q)) (List.getElem?_eq_getElem q)⟩
  · rw [List.getElem?_append_right (by simpa using q), List.getElem?_replicate] at hi
    split at hi <;> cases hi
/-! ### a new object, a store -/
theorem Rs.fresh {K : PySem.W.Frag} {θ : List Th} {G H : Hp} {M : Mem} (r : Rs K θ G H M) {p : Addr} (hp : H p = none) : G p = none := by
  cases e : G p with
  | none => rfl
  | some o => rw [r.sub _ _ e] at hp; cases hp
theorem same_upd {H : Hp} {p : Addr} {o : HO} (h : H p = none) : Same H (upd H p o) := fun b x e => by
  rw [upd_ne (ne_of_none e h)]
  exact e
theorem live_upd {H : Hp} {a p : Addr} {o : HO} (h : H a ≠ none) : (upd H p o) a ≠ none := by
  by_cases q : a = p
  · subst q; rw [upd_same]; exact fun z => by cases z
  · rw [upd_ne q]; exact h
/-- an immutable thing laid -/
theorem Rs.laid {K : PySem.W.Frag} {θ : List Th} {G H : Hp} {M : Mem} (r : Rs K θ G H M) {p : Addr} (hp : H p = none) (o : HO) : Rs K θ (upd G p o) (upd H p o) M := by
  have ne : ∀ (n : Nat) (t : Th), θ[n]? = some t → t.1 ≠ p := fun n t h z => r.live n t h (by rw [z]; exact hp)
  refine ⟨fun b x e => ?_, r.len, r.nd, fun n a h => live_upd (r.live n a h), fun n a ds h1 h2 => ?_, fun n a b es h1 h2 => ?_, fun n a ds h1 h2 => ?_⟩
  · by_cases hb : b = p
    · subst hb; rw [upd_same] at e ⊢; exact e
    · rw [upd_ne hb] at e ⊢; exact r.sub _ _ e
  · obtain ⟨g, xs, hx, rl⟩ := r.mem n a ds h1 h2
    have ha : a ≠ p := ne n _ h1
    refine ⟨by rw [upd_ne ha]; exact g, xs, by rw [upd_ne ha]; exact hx, rl.mono (same_upd (r.fresh hp))⟩
  · obtain ⟨xs, hx, rl⟩ := r.dic n a b es h1 h2
    have ha : a ≠ p := ne n _ h1
    exact ⟨xs, hx.keep (same_upd (r.fresh hp)) (fun g => by rw [upd_ne ha]; exact g) (upd_ne ha), rl.mono (same_upd (r.fresh hp))⟩
  · obtain ⟨g, xs, hx, rl⟩ := r.nst n a ds h1 h2
    have ha : a ≠ p := ne n _ h1
    exact ⟨by rw [upd_ne ha]; exact g, xs, by rw [upd_ne ha]; exact hx, rl.same (same_upd (r.fresh hp))⟩
/-- a numbered thing laid -/
theorem Rs.laidT {K : PySem.W.Frag} {θ : List Th} {G H : Hp} {M : Mem} (r : Rs K θ G H M) {p : Addr} (hp : H p = none) {k : Kd} {o : HO} {c : Option (List D)}
    (hm : ∀ ds, k = .lst → c = some ds → ∃ xs, o = .lst xs ∧ RpL K G xs ds) (hd : ∀ b es, k = .dic → c = some (enc b es) → b = false ∧ ∃ xs, o = DH p xs ∧ RpE K G xs es) (hn : ∀ ds, k = .nst → c = some ds → ∃ xs, o = .lst xs ∧ RvL K θ G xs ds) :
    Rs K (θ ++ [(p, k)]) G (upd H p o) (M ++ [c]) := by
  have ne : ∀ (n : Nat) (t : Th), θ[n]? = some t → t.1 ≠ p := fun n t h z => r.live n t h (by rw [z]; exact hp)
  have at_ : ∀ (n : Nat) (t : Th), (θ ++ [(p, k)])[n]? = some t → θ[n]? = some t ∨ (n = θ.length ∧ t = (p, k)) := fun n t h => by
    by_cases hn : n < θ.length
    · rw [List.getElem?_append_left hn] at h; exact .inl h
    · rw [List.getElem?_append_right (by omega)] at h
      have : n - θ.length = 0 := by
        rcases Nat.eq_zero_or_pos (n - θ.length) with q | q
        · exact q
        · rw [List.getElem?_eq_none (by simp; omega)] at h; cases h
      rw [this] at h
      simp at h
      exact .inr ⟨by omega, h.symm⟩
  have inM : ∀ (n : Nat) (t : Th), θ[n]? = some t → (M ++ [c])[n]? = M[n]? := fun n t h => List.getElem?_append_left (by rw [← r.len]; exact (List.getElem?_eq_some_iff.mp h).1)
  have lastM : (M ++ [c])[θ.length]? = some c := by rw [r.len, List.getElem?_append_right (Nat.le_refl _), Nat.sub_self]; rfl
  refine ⟨fun b x e => same_upd hp _ _ (r.sub _ _ e), by simp [r.len], ?_, fun n t h => ?_, fun n a es h1 h2 => ?_, fun n a b es h1 h2 => ?_, fun n a es h1 h2 => ?_⟩
  · rw [List.map_append, List.nodup_append]
    refine ⟨r.nd, by simp, fun a ha b hb => ?_⟩
    simp at hb; subst hb
    rintro rfl
    obtain ⟨t, ht, e⟩ := List.mem_map.mp ha
    obtain ⟨n, hn⟩ := List.mem_iff_getElem?.mp ht
    exact ne n t hn e
  · rcases at_ n t h with h | ⟨_, h⟩
    · exact live_upd (r.live n t h)
    · subst h
      show upd H p o p ≠ none
      rw [upd_same]; exact fun z => by cases z
  · rcases at_ n _ h1 with h | ⟨hn, h⟩
    · rw [inM n _ h] at h2
      obtain ⟨g, ys, hy, rl⟩ := r.mem n a es h h2
      exact ⟨g, ys, by rw [upd_ne (ne n _ h)]; exact hy, rl⟩
    · injection h with e1 e2
      subst e1; subst hn
      rw [lastM] at h2
      obtain ⟨xs, e3, rl⟩ := hm es e2.symm (Option.some.inj h2)
      exact ⟨r.fresh hp, xs, by rw [upd_same, e3], rl⟩
  · rcases at_ n _ h1 with h | ⟨hn, h⟩
    · rw [inM n _ h] at h2
      obtain ⟨ys, hy, rl⟩ := r.dic n a b es h h2
      exact ⟨ys, hy.keep (Same.refl _) (fun g => g) (upd_ne (ne n _ h)), rl⟩
    · injection h with e1 e2
      subst e1; subst hn
      rw [lastM] at h2
      obtain ⟨e4, xs, e3, rl⟩ := hd b es e2.symm (Option.some.inj h2)
      subst e4
      exact ⟨xs, ⟨r.fresh hp, by rw [upd_same, e3]⟩, rl⟩
  · have tk : ∀ n, n ≤ θ.length → (θ ++ [(p, k)]).take n = θ.take n := fun n h => List.take_append_of_le_length h
    rcases at_ n _ h1 with h | ⟨hn', h⟩
    · rw [inM n _ h] at h2
      obtain ⟨g, ys, hy, rl⟩ := r.nst n a es h h2
      refine ⟨g, ys, by rw [upd_ne (ne n _ h)]; exact hy, ?_⟩
      rw [tk n (Nat.le_of_lt (List.getElem?_eq_some_iff.mp h).1)]; exact rl
    · injection h with e1 e2
      subst e1; subst hn'
      rw [lastM] at h2
      obtain ⟨xs, e3, rl⟩ := hn es e2.symm (Option.some.inj h2)
      refine ⟨r.fresh hp, xs, by rw [upd_same, e3], ?_⟩
      rw [tk _ (Nat.le_refl _), List.take_length]; exact rl
/-- a mutable list laid -/
theorem Rs.laidM {K : PySem.W.Frag} {θ : List Th} {G H : Hp} {M : Mem} (r : Rs K θ G H M) {p : Addr} (hp : H p = none) {xs : List V} {ds : List D} (h : RpL K G xs ds) :
    Rs K (θ ++ [(p, .lst)]) G (upd H p (.lst xs)) (M ++ [some ds]) := r.laidT hp (fun es _ e => ⟨xs, rfl, by cases e; exact h⟩) (fun b es e _ => by cases e) fun ds e _ => by cases e
end Bw
namespace Bw
open PySem PySem.Spec PyProof.Rows L2
/-- a wish of an error, by its class's name -/
abbrev WN := Str → L2.St → Hp → Prop
inductive Res (α : Type) where
  | ok (a : α) | exc (C : Str)
abbrev Ev (α : Type) := Env → Mem → Option (Res α × Mem)
def ret {α : Type} (a : α) : Ev α := fun _ M => some (.ok a, M)
def stk {α : Type} : Ev α := fun _ _ => none
def bnd {α β : Type} (f : Ev α) (g : α → Ev β) : Ev β := fun ρ M =>
  match f ρ M with
  | some (.ok a, M1) => g a ρ M1
  | some (.exc C, M1) => some (.exc C, M1)
  | none => none
abbrev Rd' (A B : Type) := List Th → Hp → A → B → Prop
/-- a reading t and what it gives, f, from θ0, G0 on -/
def Snd (K : PySem.W.Frag) (W : WN) {A α : Type} (R : List Th → Hp → A → α → Prop) (θ0 : List Th) (G0 : Hp) (t : L2.St → Hp → (A → Hp → Prop) → Prop) (f : Ev α) : Prop :=
  ∀ (ρ : Env) (M : Mem) (r : Res α) (M' : Mem) (θ : List Th) (G : Hp) (σ : L2.St) (H : Hp) (Q : A → Hp → Prop), θ0 <+: θ → Same G0 G → f ρ M = some (r, M') → Rs K θ G H M → Rσ K θ G σ ρ →
    (∀ (θ' : List Th) (G' H' : Hp), θ <+: θ' → Same G G' → Rs K θ' G' H' M' → (∀ C, r = .exc C → W C σ H') ∧ (∀ d v, r = .ok d → R θ' G' v d → Q v H')) → t σ H Q
section
variable {K : PySem.W.Frag} {W : WN} {A B α β : Type} {R : List Th → Hp → A → α → Prop} {R2 : List Th → Hp → B → β → Prop} {θ0 θ1 : List Th} {G0 G1 : Hp}
theorem Snd.mono {t : L2.St → Hp → (A → Hp → Prop) → Prop} {f : Ev α} (h : Snd K W R θ0 G0 t f) (p : θ0 <+: θ1) (s : Same G0 G1) : Snd K W R θ1 G1 t f :=
  fun ρ M r M' θ G σ H Q p' s' e rs rv k => h ρ M r M' θ G σ H Q (p.trans p') (s.trans s') e rs rv k
theorem Snd.bind {t : L2.St → Hp → (A → Hp → Prop) → Prop} {f : Ev α} {k : A → L2.St → Hp → (B → Hp → Prop) → Prop} {g : α → Ev β} (h : Snd K W R θ0 G0 t f)
    (h2 : ∀ θ G v d, θ0 <+: θ → Same G0 G → R θ G v d → Snd K W R2 θ G (k v) (g d)) : Snd K W R2 θ0 G0 (fun σ H Q => t σ H fun v H1 => k v σ H1 Q) (bnd f g) := by
  intro ρ M r M' θ G σ H Q p s e rs rv kk
  unfold bnd at e
  cases q : f ρ M with
  | none => rw [q] at e; cases e
  | some z =>
    obtain ⟨r1, M1⟩ := z
    rw [q] at e
    refine h ρ M r1 M1 θ G σ H _ p s q rs rv fun θ' G' H' p' s' rs' => ?_
    cases r1 with
    | exc C =>
      simp at e
      obtain ⟨e1, e2⟩ := e
      subst e1; subst e2
      exact ⟨fun C' h => (kk θ' G' H' p' s' rs').1 C' (by cases h; rfl), fun d v h => by cases h⟩
    | ok a =>
      refine ⟨fun C' h => (by cases h), fun d v h rel => ?_⟩
      cases h
      exact h2 θ' G' v a (p.trans p') (s.trans s') rel ρ M1 r M' θ' G' σ H' Q (List.prefix_refl _) (Same.refl _) e rs' (rv.mono p' s')
        fun θ2 G2 H2 p2 s2 rs2 => kk θ2 G2 H2 (p'.trans p2) (s'.trans s2) rs2
theorem Snd.ret {v : A} {d : α} (h : ∀ θ G, θ0 <+: θ → Same G0 G → R θ G v d) : Snd K W R θ0 G0 (fun _ H Q => Q v H) (ret d) := by
  intro ρ M r M' θ G σ H Q p s e rs rv kk
  unfold Bw.ret at e
  simp at e
  obtain ⟨e1, e2⟩ := e
  subst e1; subst e2
  exact (kk θ G H (List.prefix_refl _) (Same.refl _) rs).2 d v rfl (h θ G p s)
theorem Snd.stk {t : L2.St → Hp → (A → Hp → Prop) → Prop} : Snd K W R θ0 G0 t (stk (α := α)) := by
  intro ρ M r M' θ G σ H Q p s e
  cases e
theorem Snd.of_eq {t t' : L2.St → Hp → (A → Hp → Prop) → Prop} {f : Ev α} (h : Snd K W R θ0 G0 t f) (e : t = t') : Snd K W R θ0 G0 t' f := e ▸ h
end
/-! ### the relations -/
abbrev RV (K : PySem.W.Frag) : List Th → Hp → V → D → Prop := fun θ G v d => Rv K θ G v d
abbrev RB : List Th → Hp → Bool → Bool → Prop := fun _ _ b c => b = c
abbrev RL (K : PySem.W.Frag) : List Th → Hp → List V → List D → Prop := fun θ G v d => RvL K θ G v d
theorem RvL.nil {K : PySem.W.Frag} {θ : List Th} {G : Hp} : RvL K θ G [] [] := ⟨rfl, fun i v d h => by simp at h⟩
theorem RvL.cons {K : PySem.W.Frag} {θ : List Th} {G : Hp} {v : V} {d : D} {xs : List V} {ds : List D} (h : Rv K θ G v d) (r : RvL K θ G xs ds) : RvL K θ G (v :: xs) (d :: ds) := by
  refine ⟨by simp [r.len], fun i w e h1 h2 => ?_⟩
  cases i with
  | zero => simp at h1 h2; subst h1; subst h2; exact h
  | succ i => exact r.get i w e (by simpa using h1) (by simpa using h2)
theorem RvL.uncons {K : PySem.W.Frag} {θ : List Th} {G : Hp} {xs : List V} {d : D} {ds : List D} (r : RvL K θ G xs (d :: ds)) : ∃ v ys, xs = v :: ys ∧ Rv K θ G v d ∧ RvL K θ G ys ds := by
  cases xs with
  | nil => exact absurd r.len (by simp)
  | cons v ys => exact ⟨v, ys, rfl, r.get 0 v d rfl rfl, by have := r.len; simpa using this, fun i w e h1 h2 => r.get (i + 1) w e (by simpa using h1) (by simpa using h2)⟩
theorem RvL.nil_of {K : PySem.W.Frag} {θ : List Th} {G : Hp} {xs : List V} (r : RvL K θ G xs []) : xs = [] := by
  cases xs with
  | nil => rfl
  | cons v ys => exact absurd r.len (by simp)
/-- no pointers -/
def D.np : D → Bool
  | .ptr _ => false
  | .exv _ => false
  | .dpt _ => false
  | .npt _ => false
  | _ => true
theorem Rv.rp {K : PySem.W.Frag} {θ : List Th} {G : Hp} {v : V} {d : D} (h : Rv K θ G v d) (n : d.np = true) : Rp K G v d := by
  cases h with
  | dat h => exact h
  | ptr h => cases n
  | exv _ h => cases n
  | dpt h => cases n
  | npt h => cases n
theorem RvL.rp {K : PySem.W.Frag} {θ : List Th} {G : Hp} {xs : List V} {ds : List D} (h : RvL K θ G xs ds) (n : ds.all D.np = true) : RpL K G xs ds :=
  ⟨h.len, fun i v d a b => (h.get i v d a b).rp (by rw [List.all_eq_true] at n; exact n d (List.mem_of_getElem? b))⟩
/-! ### expressions -/
def DE (X : Cx) (W : WN) (e : Expr) (f : Ev D) : Prop := ∃ t, PE X e t ∧ ∀ θ G, Snd X.K W (RV X.K) θ G t f
def DT (X : Cx) (W : WN) (e : Expr) (f : Ev Bool) : Prop := ∃ t, PT X e t ∧ ∀ θ G, Snd X.K W RB θ G t f
def DW (X : Cx) (W : WN) (e : Expr) (f : Ev Bool) : Prop := ∃ t, PW X e t ∧ ∀ θ G, Snd X.K W RB θ G t f
def DA (X : Cx) (W : WN) (es : List Expr) (f : Ev (List D)) : Prop := ∃ t, PA X es t ∧ ∀ θ G, Snd X.K W (RL X.K) θ G t f
section
variable {X : Cx} {W : WN} {pos : Pos}
def dVar (i : Nat) : Ev D := fun ρ M => match ρ[i]? with
  | some (some d) => some (.ok d, M)
  | _ => none
theorem de_var (i : Nat) {x : Str} (hN : X.N[i]? = some x := by rfl) (hv : Vis X.env.scope x := by first | exact Or.inl rfl | exact Or.inr (Or.inl rfl) | exact Or.inr (Or.inr rfl)) (hd : (x == ("__debug__" : Str)) = false := by decide)
    (hcd : (x == ("__classdict__" : Str)) = false := by decide) : DE X W (.Name x pos) (dVar i) := by
  refine ⟨tVar i, pe_var hN hv hd hcd, fun θ0 G0 ρ M r M' θ G σ H Q p s e rs rv kk => ?_⟩
  unfold dVar at e
  cases q : ρ[i]? with
  | none => rw [q] at e; cases e
  | some z =>
    cases z with
    | none => rw [q] at e; cases e
    | some d =>
      rw [q] at e
      simp at e
      obtain ⟨e1, e2⟩ := e
      subst e1; subst e2
      obtain ⟨v, hv, r⟩ := rv.get i d q
      exact ⟨v, hv, (kk θ G H (List.prefix_refl _) (Same.refl _) rs).2 d v rfl r⟩
theorem snd_c {K : PySem.W.Frag} {θ : List Th} {G : Hp} {v : V} {d : D} (h : ∀ G, Rp K G v d) : Snd K W (RV K) θ G (tC v) (ret d) := Snd.ret fun _ G _ _ => .dat (h G)
theorem de_int {i : Int} {j : Nat} : DE X W (.Constant (.int i) j pos) (ret (.int i)) := ⟨_, pe_int, fun _ _ => snd_c fun _ => .int i⟩
theorem de_bl {b : Bool} {j : Nat} : DE X W (.Constant (.bool b) j pos) (ret (.bl b)) := ⟨_, pe_bl, fun _ _ => snd_c fun _ => .bl b⟩
theorem de_non {j : Nat} : DE X W (.Constant .none j pos) (ret .non) := ⟨_, pe_non, fun _ _ => snd_c fun _ => .non⟩
theorem de_str {z : Str} {j : Nat} : DE X W (.Constant (.str z) j pos) (ret (.str z)) := ⟨_, pe_str, fun _ _ => snd_c fun _ => .str z⟩
/-- by two values -/
def SndO (K : PySem.W.Frag) (W : WN) (r : R2) (o : D → D → Ev D) : Prop := ∀ θ G x y d e, Rv K θ G x d → Rv K θ G y e → Snd K W (RV K) θ G (fun _ H Q => r x y H Q) (o d e)
theorem snd_op {K : PySem.W.Frag} {r : R2} {o : D → D → Ev D} {ta tb : TE} {f g : Ev D} (h : SndO K W r o) {θ : List Th} {G : Hp} (ha : ∀ θ G, Snd K W (RV K) θ G ta f) (hb : ∀ θ G, Snd K W (RV K) θ G tb g) :
    Snd K W (RV K) θ G (tOp r ta tb) (bnd f fun d => bnd g fun e => o d e) :=
  (ha θ G).bind (k := fun x σ H1 Q => tb σ H1 fun y H2 => r x y H2 Q) fun θ1 G1 v d _ _ hv => (hb θ1 G1).bind (k := fun y σ H2 Q => r v y H2 Q) fun θ2 G2 u e p s hu => h θ2 G2 v u d e (hv.mono p s) hu
theorem de_op {op : Operator} {r : R2} {o : D → D → Ev D} {a b : Expr} {f g : Ev D} (ho : OpR X (binaryOp op) r) (so : SndO X.K W r o) (ha : DE X W a f) (hb : DE X W b g) : DE X W (.BinOp a op b pos) (bnd f fun d => bnd g fun e => o d e) := by
  obtain ⟨ta, pa, sa⟩ := ha
  obtain ⟨tb, pb, sb⟩ := hb
  exact ⟨_, pe_op ho pa pb, fun θ G => snd_op so sa sb⟩
theorem de_cmp {op : CmpOp} {r : R2} {o : D → D → Ev D} {a b : Expr} {f g : Ev D} (ho : OpR X (compareOp op) r) (so : SndO X.K W r o) (ha : DE X W a f) (hb : DE X W b g) (hm : behindInMarks op b = false) : DE X W (.Compare a [op] [b] pos) (bnd f fun d => bnd g fun e => o d e) := by
  obtain ⟨ta, pa, sa⟩ := ha
  obtain ⟨tb, pb, sb⟩ := hb
  exact ⟨_, pe_cmpR ho pa pb hm, fun θ G => snd_op so sa sb⟩
/-- a bool as a test -/
def asB (d : D) : Ev Bool := match d with
  | .bl b => ret b
  | _ => stk
theorem snd_tB {K : PySem.W.Frag} {t : TE} {f : Ev D} (h : ∀ θ G, Snd K W (RV K) θ G t f) (θ : List Th) (G : Hp) : Snd K W RB θ G (tB t) (bnd f asB) := by
  refine (h θ G).bind (k := fun x _ H1 Q => ∃ c, x = .bl c ∧ Q c H1) fun θ1 G1 v d _ _ hv => ?_
  cases d with
  | bl b =>
    cases hv with
    | dat hv =>
      cases hv
      intro ρ M r M' θ G σ H Q p s e rs rv kk
      exact ⟨b, rfl, Snd.ret (K := K) (W := W) (R := RB) (θ0 := θ1) (G0 := G1) (v := b) (d := b) (fun _ _ _ _ => rfl) ρ M r M' θ G σ H Q p s e rs rv kk⟩
  | _ => exact Snd.stk
theorem dt_val {e : Expr} {f : Ev D} (h : DE X W e f) (he : ∀ whole, isTrue e X.env whole = (do let v ← whole; standAt e.pos; holding [v] (truthy v)) := by intro _; rfl) : DT X W e (bnd f asB) := by
  obtain ⟨t, p, s⟩ := h
  exact ⟨_, pt_val p he, snd_tB s⟩
theorem dt_cmp {op : CmpOp} {r : R2} {o : D → D → Ev D} {a b : Expr} {f g : Ev D} (ho : OpR X (compareOp op) r) (so : SndO X.K W r o) (ha : DE X W a f) (hb : DE X W b g) (hm : behindInMarks op b = false) : DT X W (.Compare a [op] [b] pos) (bnd (bnd f fun d => bnd g fun e => o d e) asB) := by
  obtain ⟨ta, pa, sa⟩ := ha
  obtain ⟨tb, pb, sb⟩ := hb
  exact ⟨_, pt_cmpR ho pa pb hm, snd_tB fun θ G => snd_op so sa sb⟩
/-! tests -/
def dAnd (f g : Ev Bool) : Ev Bool := bnd f fun c => if c = true then g else ret false
def dOr (f g : Ev Bool) : Ev Bool := bnd f fun c => if c = true then ret true else g
def dNot (f : Ev Bool) : Ev Bool := bnd f fun c => ret (!c)
theorem snd_b {K : PySem.W.Frag} {θ : List Th} {G : Hp} {b : Bool} : Snd K W RB θ G (fun _ H Q => Q b H) (ret b) := Snd.ret fun _ _ _ _ => rfl
theorem dw_and1 {a : Expr} {f : Ev Bool} (h : DT X W a f) : DW X W (.BoolOp .And [a] pos) f := by obtain ⟨t, p, s⟩ := h; exact ⟨_, pw_and1 p, s⟩
theorem dw_or1 {a : Expr} {f : Ev Bool} (h : DT X W a f) : DW X W (.BoolOp .Or [a] pos) f := by obtain ⟨t, p, s⟩ := h; exact ⟨_, pw_or1 p, s⟩
theorem dw_and {a b : Expr} {rest : List Expr} {f g : Ev Bool} (h : DT X W a f) (h2 : DW X W (.BoolOp .And (b :: rest) pos) g) : DW X W (.BoolOp .And (a :: b :: rest) pos) (dAnd f g) := by
  obtain ⟨t, p, s⟩ := h
  obtain ⟨u, p2, s2⟩ := h2
  refine ⟨_, pw_and p p2, fun θ G => (s θ G).bind (k := fun c σ H1 Q => if c = true then u σ H1 Q else Q false H1) fun θ1 G1 v d _ _ hv => ?_⟩
  cases hv
  cases v with
  | true => simpa using s2 θ1 G1
  | false => simpa using snd_b (K := X.K) (W := W) (θ := θ1) (G := G1) (b := false)
theorem dw_or {a b : Expr} {rest : List Expr} {f g : Ev Bool} (h : DT X W a f) (h2 : DW X W (.BoolOp .Or (b :: rest) pos) g) : DW X W (.BoolOp .Or (a :: b :: rest) pos) (dOr f g) := by
  obtain ⟨t, p, s⟩ := h
  obtain ⟨u, p2, s2⟩ := h2
  refine ⟨_, pw_or p p2, fun θ G => (s θ G).bind (k := fun c σ H1 Q => if c = true then Q true H1 else u σ H1 Q) fun θ1 G1 v d _ _ hv => ?_⟩
  cases hv
  cases v with
  | false => simpa using s2 θ1 G1
  | true => simpa using snd_b (K := X.K) (W := W) (θ := θ1) (G := G1) (b := true)
theorem DW.dt {e : Expr} {f : Ev Bool} (h : DW X W e f) : DT X W e f := by obtain ⟨t, p, s⟩ := h; exact ⟨t, p.pt, s⟩
theorem dt_not {a : Expr} {f : Ev Bool} (h : DT X W a f) : DT X W (.UnaryOp .Not a pos) (dNot f) := by
  obtain ⟨t, p, s⟩ := h
  refine ⟨_, pt_not p, fun θ G => (s θ G).bind (k := fun c σ H1 Q => Q (!c) H1) fun θ1 G1 v d _ _ hv => ?_⟩
  cases hv
  exact snd_b
/-! as values -/
def dAndV (f g : Ev D) : Ev D := bnd f fun d => bnd (asB d) fun c => if c = true then g else ret (.bl false)
def dOrV (f g : Ev D) : Ev D := bnd f fun d => bnd (asB d) fun c => if c = true then ret (.bl true) else g
def dNotV (f : Ev D) : Ev D := bnd f fun d => bnd (asB d) fun c => ret (.bl (!c))
theorem rv_bl {K : PySem.W.Frag} {θ : List Th} {G : Hp} {b : Bool} : Rv K θ G (.bl b) (.bl b) := .dat (.bl b)
theorem snd_asB {K : PySem.W.Frag} {A α : Type} {R : List Th → Hp → A → α → Prop} {θ : List Th} {G : Hp} {v : V} {d : D} {k : Bool → L2.St → Hp → (A → Hp → Prop) → Prop} {g : Bool → Ev α} (hv : Rv K θ G v d) (h : ∀ c, Snd K W R θ G (k c) (g c)) :
    Snd K W R θ G (fun σ H1 Q => ∃ c, v = .bl c ∧ k c σ H1 Q) (bnd (asB d) g) := by
  cases d with
  | bl b =>
    cases hv with
    | dat hv =>
      cases hv
      intro ρ M r M' θ G σ H Q p s e rs rv kk
      exact ⟨b, rfl, h b ρ M r M' θ G σ H Q p s e rs rv kk⟩
  | _ => exact Snd.stk
theorem de_one {op : BoolOp} {a : Expr} {f : Ev D} (h : DE X W a f) : DE X W (.BoolOp op [a] pos) f := by obtain ⟨t, p, s⟩ := h; exact ⟨_, pe_one p, s⟩
theorem de_and {a b : Expr} {rest : List Expr} {f g : Ev D} (h : DE X W a f) (h2 : DE X W (.BoolOp .And (b :: rest) pos) g) : DE X W (.BoolOp .And (a :: b :: rest) pos) (dAndV f g) := by
  obtain ⟨t, p, s⟩ := h
  obtain ⟨u, p2, s2⟩ := h2
  refine ⟨_, pe_and p p2, fun θ G => (s θ G).bind (k := fun x σ H1 Q => ∃ c, x = .bl c ∧ if c = true then u σ H1 Q else Q (.bl false) H1) fun θ1 G1 v d _ _ hv => snd_asB hv fun c => ?_⟩
  cases c with
  | true => simpa using s2 θ1 G1
  | false => simpa using Snd.ret (K := X.K) (W := W) (R := RV X.K) (θ0 := θ1) (G0 := G1) (v := .bl false) (d := .bl false) fun _ _ _ _ => rv_bl
theorem de_not {a : Expr} {f : Ev D} (h : DE X W a f) : DE X W (.UnaryOp .Not a pos) (dNotV f) := by
  obtain ⟨t, p, s⟩ := h
  refine ⟨_, pe_not p, fun θ G => (s θ G).bind (R2 := RV X.K) (k := fun (x : V) (σ : L2.St) (H1 : Hp) (Q : V → Hp → Prop) => ∃ c, x = .bl c ∧ Q (.bl (!c)) H1) fun θ1 G1 v d _ _ hv => snd_asB (k := fun (c : Bool) (_ : L2.St) (H1 : Hp) (Q : V → Hp → Prop) => Q (V.bl (!c)) H1) hv fun c => Snd.ret fun _ _ _ _ => rv_bl⟩
def dIf (c : Ev Bool) (f g : Ev D) : Ev D := bnd c fun b => if b = true then f else g
theorem de_if {c a b : Expr} {h : Ev Bool} {f g : Ev D} (hc : DT X W c h) (ha : DE X W a f) (hb : DE X W b g) : DE X W (.IfExp c a b pos) (dIf h f g) := by
  obtain ⟨t, p, s⟩ := hc
  obtain ⟨u, p2, s2⟩ := ha
  obtain ⟨z, p3, s3⟩ := hb
  refine ⟨_, pe_ifExp p p2 p3, fun θ G => (s θ G).bind (k := fun c σ H1 Q => if c = true then u σ H1 Q else z σ H1 Q) fun θ1 G1 v d _ _ hv => ?_⟩
  cases hv
  cases v with
  | true => simpa using s2 θ1 G1
  | false => simpa using s3 θ1 G1
/-! arguments -/
def dNil : Ev (List D) := ret []
def dCons (f : Ev D) (g : Ev (List D)) : Ev (List D) := bnd f fun d => bnd g fun ds => ret (d :: ds)
theorem da_nil : DA X W [] dNil := ⟨_, pa_nil, fun _ _ => Snd.ret fun _ _ _ _ => RvL.nil⟩
theorem da_cons {e : Expr} {es : List Expr} {f : Ev D} {g : Ev (List D)} (ha : DE X W e f) (hr : DA X W es g) (hs : starEach (e :: es) X.env = (false, eval e X.env) :: starEach es X.env := by rfl) : DA X W (e :: es) (dCons f g) := by
  obtain ⟨t, p, s⟩ := ha
  obtain ⟨u, p2, s2⟩ := hr
  exact ⟨_, pa_cons p p2 hs, fun θ G => (s θ G).bind (k := fun x σ H1 Q => u σ H1 fun xs H2 => Q (x :: xs) H2) fun θ1 G1 v d _ _ hv => (s2 θ1 G1).bind (k := fun xs σ H2 Q => Q (v :: xs) H2) fun θ2 G2 vs ds p s hvs => Snd.ret fun θ3 G3 p3 s3 => RvL.cons (hv.mono (p.trans p3) (s.trans s3)) (hvs.mono p3 s3)⟩
/-- by a list of values -/
def SndC (K : PySem.W.Frag) (W : WN) (r : List V → Hp → VK → Prop) (o : List D → Ev D) : Prop := ∀ θ G xs ds, RvL K θ G xs ds → Snd K W (RV K) θ G (fun _ H Q => r xs H Q) (o ds)
theorem snd_args {K : PySem.W.Frag} {r : List V → Hp → VK → Prop} {o : List D → Ev D} (h : SndC K W r o) {t : TA} {f : Ev (List D)} (s : ∀ θ G, Snd K W (RL K) θ G t f) (θ : List Th) (G : Hp) : Snd K W (RV K) θ G (fun σ H Q => t σ H fun vs H1 => r vs H1 Q) (bnd f o) :=
  (s θ G).bind (k := fun vs _ H1 Q => r vs H1 Q) fun θ1 G1 v d _ _ hv => h θ1 G1 v d hv
/-- a tuple, a list that stays as it is -/
def oTup (ds : List D) : Ev D := if ds.all D.np = true ∧ ds.length ≤ 16777216 then ret (.tup ds) else stk
def oLst (ds : List D) : Ev D := if ds.all D.np = true ∧ ds.length ≤ 16777216 then ret (.lst ds) else stk
theorem rp_tup {K : PySem.W.Frag} {G : Hp} {p : Addr} {xs : List V} {ds : List D} (h : G p = some (.tup xs)) (r : RpL K G xs ds) : Rp K G (.ref p) (.tup ds) := .tup (.inl (.inl h)) r.len r.get
theorem rp_lst {K : PySem.W.Frag} {G : Hp} {p : Addr} {xs : List V} {ds : List D} (h : G p = some (.lst xs)) (r : RpL K G xs ds) : Rp K G (.ref p) (.lst ds) := .lst h r.len r.get
theorem snd_tup {K : PySem.W.Frag} : SndC K W (fun xs H1 Q => xs.length ≤ sizeLine ∧ ∀ p, H1 p = none → Q (.ref p) (upd H1 p (.tup xs))) oTup := by
  intro θ0 G0 xs ds hx
  unfold oTup
  split
  · rename_i hc
    have hp := hx.rp hc.1
    intro ρ M r M' θ G σ H Q p s e rs rv kk
    unfold ret at e
    simp at e
    obtain ⟨e1, e2⟩ := e
    subst e1; subst e2
    refine ⟨by rw [hp.len, sizeLine_eq]; exact hc.2, fun a ha => ?_⟩
    have g := rs.fresh ha
    exact (kk θ (upd G a (.tup xs)) _ (List.prefix_refl _) (same_upd g) (rs.laid ha _)).2 _ _ rfl (.dat (rp_tup upd_same (hp.mono (s.trans (same_upd g)))))
  · exact Snd.stk
theorem snd_lst {K : PySem.W.Frag} : SndC K W (fun xs H1 Q => xs.length ≤ sizeLine ∧ ∀ p, H1 p = none → Q (.ref p) (upd H1 p (.lst xs))) oLst := by
  intro θ0 G0 xs ds hx
  unfold oLst
  split
  · rename_i hc
    have hp := hx.rp hc.1
    intro ρ M r M' θ G σ H Q p s e rs rv kk
    unfold ret at e
    simp at e
    obtain ⟨e1, e2⟩ := e
    subst e1; subst e2
    refine ⟨by rw [hp.len, sizeLine_eq]; exact hc.2, fun a ha => ?_⟩
    have g := rs.fresh ha
    exact (kk θ (upd G a (.lst xs)) _ (List.prefix_refl _) (same_upd g) (rs.laid ha _)).2 _ _ rfl (.dat (rp_lst upd_same (hp.mono (s.trans (same_upd g)))))
  · exact Snd.stk
/-- a list that will change -/
def oNew (ds : List D) : Ev D := fun _ M => if ds.all D.np = true ∧ ds.length ≤ 16777216 then some (.ok (.ptr M.length), M ++ [some ds]) else none
theorem snd_lstM {K : PySem.W.Frag} : SndC K W (fun xs H1 Q => xs.length ≤ sizeLine ∧ ∀ p, H1 p = none → Q (.ref p) (upd H1 p (.lst xs))) oNew := by
  intro θ0 G0 xs ds hx ρ M r M' θ G σ H Q p s e rs rv kk
  unfold oNew at e
  split at e
  · rename_i hc
    have hp := hx.rp hc.1
    simp at e
    obtain ⟨e1, e2⟩ := e
    subst e1; subst e2
    refine ⟨by rw [hp.len, sizeLine_eq]; exact hc.2, fun a ha => ?_⟩
    refine (kk (θ ++ [(a, .lst)]) G _ (List.prefix_append _ _) (Same.refl _) (rs.laidM ha (hp.mono s))).2 _ _ rfl (.ptr ?_)
    rw [← rs.len, List.getElem?_append_right (Nat.le_refl _), Nat.sub_self]
    rfl
  · cases e
theorem de_tup {es : List Expr} {f : Ev (List D)} {x1 : Nat} (h : DA X W es f) : DE X W (.Tuple es x1 pos) (bnd f oTup) := by
  obtain ⟨t, p, s⟩ := h
  exact ⟨_, pe_tup p, snd_args snd_tup s⟩
theorem de_lst {es : List Expr} {f : Ev (List D)} (h : DA X W es f) : DE X W (.List es pos) (bnd f oLst) := by
  obtain ⟨t, p, s⟩ := h
  exact ⟨_, pe_lst p, snd_args snd_lst s⟩
theorem de_lstM {es : List Expr} {f : Ev (List D)} (h : DA X W es f) : DE X W (.List es pos) (bnd f oNew) := by
  obtain ⟨t, p, s⟩ := h
  exact ⟨_, pe_lst p, snd_args snd_lstM s⟩
end
end Bw
namespace Bw
open PySem PySem.Spec PyProof.Rows L2
section
variable {X : Cx} {W : WN} {pos : Pos}
/-! ### numbers -/
def oI (C : Int → Int → Bool) (g : Int → Int → D) (d e : D) : Ev D := match d, e with
  | .int i, .int j => if C i j = true then ret (g i j) else stk
  | _, _ => stk
theorem snd_rI {K : PySem.W.Frag} {C : Int → Int → Prop} {C' : Int → Int → Bool} {g : Int → Int → V} {g' : Int → Int → D} (hC : ∀ i j, C' i j = true → C i j) (hg : ∀ i j G, Rp K G (g i j) (g' i j)) : SndO K W (rI C g) (oI C' g') := by
  intro θ G x y d e hx hy
  unfold oI
  split
  · rename_i i j
    split
    · rename_i c
      cases hx with
      | dat hx =>
        cases hy with
        | dat hy =>
          cases hx; cases hy
          intro ρ M r M' θ1 G1 σ H Q p s e rs rv kk
          exact ⟨i, j, rfl, rfl, hC i j c, Snd.ret (K := K) (W := W) (R := RV K) (θ0 := θ) (G0 := G) (v := g i j) (d := g' i j) (fun _ G _ _ => .dat (hg i j G)) ρ M r M' θ1 G1 σ H Q p s e rs rv kk⟩
    · exact Snd.stk
  · exact Snd.stk
theorem snd_rI0 {K : PySem.W.Frag} {g : Int → Int → V} {g' : Int → Int → D} (hg : ∀ i j G, Rp K G (g i j) (g' i j)) : SndO K W (rI0 g) (oI (fun _ _ => true) g') := by
  intro θ G x y d e hx hy
  have h := snd_rI (K := K) (W := W) (C := fun _ _ => True) (C' := fun _ _ => true) (g := g) (g' := g') (fun _ _ _ => trivial) hg θ G x y d e hx hy
  intro ρ M r M' θ1 G1 σ H Q p s e rs rv kk
  obtain ⟨i, j, a, b, _, q⟩ := h ρ M r M' θ1 G1 σ H Q p s e rs rv kk
  exact ⟨i, j, a, b, q⟩
def oAdd (d e : D) : Ev D := match d, e with
  | .int i, .int j => ret (.int (i + j))
  | .lst a, .lst b => if a.length + b.length ≤ 16777216 then ret (.lst (a ++ b)) else stk
  | .tup a, .tup b => if a.length + b.length ≤ 16777216 then ret (.tup (a ++ b)) else stk
  | _, _ => stk
def rAdd2 (K : PySem.W.Frag) : R2 := fun x y H Q => rI0 (fun i j => .int (i + j)) x y H Q ∨ rCat x y H Q ∨ rCatA K x y H Q
theorem op_add2 : OpR X (binaryOp .Add) (rAdd2 X.K) := by
  intro pins s σ H x y v u Q I rx ry h
  rcases h with h | h | h
  · exact op_add pins s σ H x y v u Q I rx ry h
  · exact op_cat pins s σ H x y v u Q I rx ry h
  · exact op_catA pins s σ H x y v u Q I rx ry h
theorem RpL.nil_iff {K : PySem.W.Frag} {G : Hp} {xs : List V} {ds : List D} (r : RpL K G xs ds) : xs = [] ↔ ds = [] := by
  constructor
  · intro e; subst e; exact List.eq_nil_of_length_eq_zero r.len.symm
  · intro e; subst e; exact r.nil_of
theorem snd_add {K : PySem.W.Frag} : SndO K W (rAdd2 K) oAdd := by
  intro θ G x y d e hx hy
  unfold oAdd
  split
  · rename_i i j
    intro ρ M r M' θ1 G1 σ H Q p s e rs rv kk
    exact .inl (snd_rI0 (K := K) (W := W) (g := fun i j => .int (i + j)) (g' := fun i j => .int (i + j)) (fun i j _ => .int _) θ G x y (.int i) (.int j) hx hy ρ M r M' θ1 G1 σ H Q p s e rs rv kk)
  · rename_i a b
    split
    · rename_i hl
      cases hx with
      | dat hx =>
        cases hy with
        | dat hy =>
          cases hx with
          | lst h1 l1 g1 =>
            cases hy with
            | lst h2 l2 g2 =>
              rename_i pa xs pb ys
              intro ρ M r M' θ1 G1 σ H Q p s e rs rv kk
              unfold ret at e
              cases e
              refine .inr (.inl ⟨pa, pb, xs, ys, rfl, rfl, rs.sub _ _ (s _ _ h1), rs.sub _ _ (s _ _ h2), by rw [l1, l2, sizeLine_eq]; exact hl, fun q hq => ?_⟩)
              have g := rs.fresh hq
              have r12 : RpL K G (xs ++ ys) (a ++ b) := RpL.append ⟨l1, g1⟩ ⟨l2, g2⟩
              exact (kk θ1 (upd G1 q (.lst (xs ++ ys))) _ (List.prefix_refl _) (same_upd g) (rs.laid hq _)).2 _ _ rfl (.dat (rp_lst upd_same (r12.mono (s.trans (same_upd g)))))
    · exact Snd.stk
  · rename_i a b
    split
    · rename_i hl
      cases hx with
      | dat hx =>
        cases hy with
        | dat hy =>
          cases hx with
          | tup h1 l1 g1 =>
            cases hy with
            | tup h2 l2 g2 =>
              rename_i pa xs pb ys
              intro ρ M r M' θ1 G1 σ H Q p s e rs rv kk
              unfold ret at e
              cases e
              have r1 : RpL K G xs a := ⟨l1, g1⟩
              have r2 : RpL K G ys b := ⟨l2, g2⟩
              refine .inr (.inr ⟨pa, pb, xs, ys, rfl, rfl, seqT rs.sub (seqT s h1), seqT rs.sub (seqT s h2), by rw [l1, l2, sizeLine_eq]; exact hl, fun z => ?_, fun _ z => ?_, fun _ _ q hq => ?_⟩)
              · rw [r1.nil_iff.mp z, List.nil_append] at kk
                exact (kk θ1 G1 H (List.prefix_refl _) (Same.refl _) rs).2 _ _ rfl (.dat ((Rp.tup h2 l2 g2).mono s))
              · rw [r2.nil_iff.mp z, List.append_nil] at kk
                exact (kk θ1 G1 H (List.prefix_refl _) (Same.refl _) rs).2 _ _ rfl (.dat ((Rp.tup h1 l1 g1).mono s))
              · have g := rs.fresh hq
                exact (kk θ1 (upd G1 q (.tup (xs ++ ys))) _ (List.prefix_refl _) (same_upd g) (rs.laid hq _)).2 _ _ rfl (.dat (rp_tup upd_same ((r1.append r2).mono (s.trans (same_upd g)))))
    · exact Snd.stk
  · exact Snd.stk
def oSub : D → D → Ev D := oI (fun _ _ => true) fun i j => .int (i - j)
def oMul : D → D → Ev D := oI (fun i j => decide (i.natAbs.log2 + j.natAbs.log2 < 1000000)) fun i j => .int (i * j)
def oDiv : D → D → Ev D := oI (fun i j => decide (j ≠ 0 ∧ j.natAbs.log2 < 9000)) fun i j => .int (i.fdiv j)
def oMod : D → D → Ev D := oI (fun i j => decide (j ≠ 0)) fun i j => .int (i.fmod j)
def oPow : D → D → Ev D := oI (fun i j => decide (0 ≤ j ∧ j ≤ 1000000 ∧ i.natAbs < 2 ^ 64)) fun i j => .int (i ^ j.toNat)
def CDivZ (_ j : Int) : Prop := j ≠ 0 ∧ j.natAbs.log2 < 9000
theorem op_fdivZ : OpR X (binaryOp .FloorDiv) (rI CDivZ fun i j => .int (i.fdiv j)) := opI fun i j _ _ _ _ _ hc q => floordiv_int hc.1 q (.inl (PyProof.noPylong_of_log2 hc.2))
variable {a b : Expr} {f g : Ev D}
theorem de_add (ha : DE X W a f) (hb : DE X W b g) : DE X W (.BinOp a .Add b pos) (bnd f fun d => bnd g fun e => oAdd d e) := de_op op_add2 snd_add ha hb
theorem de_sub (ha : DE X W a f) (hb : DE X W b g) : DE X W (.BinOp a .Sub b pos) (bnd f fun d => bnd g fun e => oSub d e) := de_op op_sub (snd_rI0 fun i j _ => .int _) ha hb
theorem de_mul (ha : DE X W a f) (hb : DE X W b g) : DE X W (.BinOp a .Mult b pos) (bnd f fun d => bnd g fun e => oMul d e) := de_op op_mulW (snd_rI (fun i j h => by unfold CMulW; exact of_decide_eq_true h) fun i j _ => .int _) ha hb
theorem de_div (ha : DE X W a f) (hb : DE X W b g) : DE X W (.BinOp a .FloorDiv b pos) (bnd f fun d => bnd g fun e => oDiv d e) := de_op op_fdivZ (snd_rI (fun i j h => by unfold CDivZ; exact of_decide_eq_true h) fun i j _ => .int _) ha hb
theorem de_mod (ha : DE X W a f) (hb : DE X W b g) : DE X W (.BinOp a .Mod b pos) (bnd f fun d => bnd g fun e => oMod d e) := de_op op_modN (snd_rI (fun i j h => of_decide_eq_true h) fun i j _ => .int _) ha hb
theorem de_pow (ha : DE X W a f) (hb : DE X W b g) : DE X W (.BinOp a .Pow b pos) (bnd f fun d => bnd g fun e => oPow d e) := de_op op_pow (snd_rI (fun i j h => by unfold CPow; exact of_decide_eq_true h) fun i j _ => .int _) ha hb
def oLt : D → D → Ev D := oI (fun _ _ => true) fun i j => .bl (decide (i < j))
def oLe : D → D → Ev D := oI (fun _ _ => true) fun i j => .bl (decide (i ≤ j))
def oGt : D → D → Ev D := oI (fun _ _ => true) fun i j => .bl (decide (j < i))
def oGe : D → D → Ev D := oI (fun _ _ => true) fun i j => .bl (decide (j ≤ i))
theorem de_lt (ha : DE X W a f) (hb : DE X W b g) : DE X W (.Compare a [.Lt] [b] pos) (bnd f fun d => bnd g fun e => oLt d e) := de_cmp op_lt (snd_rI0 fun i j _ => .bl _) ha hb (nomark _)
theorem de_gt (ha : DE X W a f) (hb : DE X W b g) : DE X W (.Compare a [.Gt] [b] pos) (bnd f fun d => bnd g fun e => oGt d e) := de_cmp op_gt (snd_rI0 fun i j _ => .bl _) ha hb (nomark _)
theorem dt_lt (ha : DE X W a f) (hb : DE X W b g) : DT X W (.Compare a [.Lt] [b] pos) (bnd (bnd f fun d => bnd g fun e => oLt d e) asB) := dt_cmp op_lt (snd_rI0 fun i j _ => .bl _) ha hb (nomark _)
theorem dt_gt (ha : DE X W a f) (hb : DE X W b g) : DT X W (.Compare a [.Gt] [b] pos) (bnd (bnd f fun d => bnd g fun e => oGt d e) asB) := dt_cmp op_gt (snd_rI0 fun i j _ => .bl _) ha hb (nomark _)
theorem dt_ge (ha : DE X W a f) (hb : DE X W b g) : DT X W (.Compare a [.GtE] [b] pos) (bnd (bnd f fun d => bnd g fun e => oGe d e) asB) := dt_cmp op_ge (snd_rI0 fun i j _ => .bl _) ha hb (nomark _)
/-! ### equality of data -/
mutual
def toPy : D → PyData
  | .non => .none
  | .bl b => .bool b
  | .int i => .int i
  | .str z => .str z
  | .tup ds => .tuple (toPys ds)
  | .lst ds => .list (toPys ds)
  | .ptr _ => .none
  | .exv _ => .none
  | .dpt _ => .none
  | .npt _ => .none
  | .emp => .none
  | .scr ds => .list (toPys ds)
def toPys : List D → List PyData
  | [] => []
  | d :: ds => toPy d :: toPys ds
end
theorem dpAll_of {K : PySem.W.Frag} {H : Hp} : ∀ {xs : List V} {ds : List D}, xs.length = ds.length → (∀ (i : Nat) (v : V) (d : D), xs[i]? = some v → ds[i]? = some d → Dp K H v (toPy d)) → DpAll K H xs (toPys ds)
  | [], [], _, _ => .nil
  | v :: xs, d :: ds, l, h => .cons (h 0 v d rfl rfl) (dpAll_of (by simpa using l) fun i v d a b => h (i + 1) v d (by simpa using a) (by simpa using b))
  | [], _ :: _, l, _ => absurd l (by simp)
  | _ :: _, [], l, _ => absurd l (by simp)
mutual
/-- data that may be compared -/
def D.pl : D → Bool
  | .ptr _ => false
  | .dpt _ => false
  | .npt _ => false
  | .exv _ => false
  | .emp => false
  | .tup ds => plL ds
  | .lst ds => plL ds
  | .scr ds => plL ds
  | _ => true
def plL : List D → Bool
  | [] => true
  | d :: ds => D.pl d && plL ds
end
theorem plL_get : ∀ (ds : List D) (i : Nat) (d : D), plL ds = true → ds[i]? = some d → d.pl = true
  | [], i, d, _, h => by simp at h
  | e :: ds, 0, d, h, h2 => by
    simp at h2; subst h2
    unfold plL at h
    exact (Bool.and_eq_true_iff.mp h).1
  | e :: ds, i + 1, d, h, h2 => by
    unfold plL at h
    exact plL_get ds i d (Bool.and_eq_true_iff.mp h).2 (by simpa using h2)
theorem pl_np {d : D} (h : d.pl = true) : d.np = true := by
  cases d <;> first | rfl | (unfold D.pl at h; cases h)
theorem Rp.dp {K : PySem.W.Frag} {G : Hp} {v : V} {d : D} (h : Rp K G v d) (pl : d.pl = true) : Dp K G v (toPy d) := by
  induction h with
  | non => exact .non
  | bl b => exact .bl b
  | int i => exact .int i
  | str z => exact .str z
  | emp h => unfold D.pl at pl; cases pl
  | tup h l e ih => exact .tup h (dpAll_of l fun i v d a b => ih i v d a b (plL_get _ i d (by unfold D.pl at pl; exact pl) b))
  | lst h l e ih => exact .lst (.inl (.inl h)) (dpAll_of l fun i v d a b => ih i v d a b (plL_get _ i d (by unfold D.pl at pl; exact pl) b))
  | scr h l e ih => exact .lst h (dpAll_of l fun i v d a b => ih i v d a b (plL_get _ i d (by unfold D.pl at pl; exact pl) b))
def oEq (d e : D) : Ev D := if d.pl = true ∧ e.pl = true ∧ SeqAt.shaped (toPy d) = true ∧ SeqAt.shaped (toPy e) = true then ret (.bl (PyData.eqv (toPy d) (toPy e))) else stk
def oNe (d e : D) : Ev D := if d.pl = true ∧ e.pl = true ∧ SeqAt.shaped (toPy d) = true ∧ SeqAt.shaped (toPy e) = true then ret (.bl (!PyData.eqv (toPy d) (toPy e))) else stk
theorem snd_eqD {K : PySem.W.Frag} : SndO K W (rEqD K) oEq := by
  intro θ G x y d e hx hy
  unfold oEq
  split
  · rename_i c
    intro ρ M r M' θ1 G1 σ H Q p s e1 rs rv kk
    exact ⟨_, _, (((hx.rp (pl_np c.1)).mono s).mono rs.sub).dp c.1, (((hy.rp (pl_np c.2.1)).mono s).mono rs.sub).dp c.2.1, c.2.2.1, c.2.2.2, Snd.ret (K := K) (W := W) (R := RV K) (θ0 := θ) (G0 := G) (fun _ _ _ _ => rv_bl) ρ M r M' θ1 G1 σ H Q p s e1 rs rv kk⟩
  · exact Snd.stk
theorem snd_neD {K : PySem.W.Frag} : SndO K W (rNeD K) oNe := by
  intro θ G x y d e hx hy
  unfold oNe
  split
  · rename_i c
    intro ρ M r M' θ1 G1 σ H Q p s e1 rs rv kk
    exact ⟨_, _, (((hx.rp (pl_np c.1)).mono s).mono rs.sub).dp c.1, (((hy.rp (pl_np c.2.1)).mono s).mono rs.sub).dp c.2.1, c.2.2.1, c.2.2.2, Snd.ret (K := K) (W := W) (R := RV K) (θ0 := θ) (G0 := G) (fun _ _ _ _ => rv_bl) ρ M r M' θ1 G1 σ H Q p s e1 rs rv kk⟩
  · exact Snd.stk
theorem de_eq (hu : X.A.units + 64 < cLine) (ha : DE X W a f) (hb : DE X W b g) : DE X W (.Compare a [.Eq] [b] pos) (bnd f fun d => bnd g fun e => oEq d e) := de_cmp (op_eqD hu) snd_eqD ha hb (nomark _)
theorem de_ne (hu : X.A.units + 64 < cLine) (ha : DE X W a f) (hb : DE X W b g) : DE X W (.Compare a [.NotEq] [b] pos) (bnd f fun d => bnd g fun e => oNe d e) := de_cmp (op_neD hu) snd_neD ha hb (nomark _)
theorem dt_eq (hu : X.A.units + 64 < cLine) (ha : DE X W a f) (hb : DE X W b g) : DT X W (.Compare a [.Eq] [b] pos) (bnd (bnd f fun d => bnd g fun e => oEq d e) asB) := dt_cmp (op_eqD hu) snd_eqD ha hb (nomark _)
theorem dt_ne (hu : X.A.units + 64 < cLine) (ha : DE X W a f) (hb : DE X W b g) : DT X W (.Compare a [.NotEq] [b] pos) (bnd (bnd f fun d => bnd g fun e => oNe d e) asB) := dt_cmp (op_neD hu) snd_neD ha hb (nomark _)
/-! ### -x, abs, max, min, int, len -/
def oNeg (d : D) : Ev D := match d with
  | .int i => ret (.int (-i))
  | _ => stk
theorem de_neg (ha : DE X W a f) : DE X W (.UnaryOp .USub a pos) (bnd f oNeg) := by
  obtain ⟨t, p, s⟩ := ha
  refine ⟨_, pe_un un_neg p, fun θ G => (s θ G).bind (R2 := RV X.K) (k := fun (x : V) (_ : L2.St) (H : Hp) (Q : V → Hp → Prop) => rU (fun i => .int (-i)) x H Q) fun θ1 G1 v d _ _ hv => ?_⟩
  unfold oNeg
  split
  · rename_i i
    cases hv with
    | dat hv =>
      cases hv
      intro ρ M r M' θ2 G2 σ H Q p s e rs rv kk
      exact ⟨i, rfl, Snd.ret (K := X.K) (W := W) (R := RV X.K) (θ0 := θ1) (G0 := G1) (d := .int (-i)) (fun _ G _ _ => .dat (.int _)) ρ M r M' θ2 G2 σ H Q p s e rs rv kk⟩
  · exact Snd.stk
theorem de_callB {id : String} {r : List V → Hp → VK → Prop} {o : List D → Ev D} {x : Str} {p : Pos} {e : Expr} {es : List Expr} {h : Ev (List D)} (hc : CallR X (.builtin id) r) (so : SndC X.K W r o) (hm : X.mg x = none) (hv : bootBuiltins x = some (.builtin id)) (ha : DA X W (e :: es) h) (hg : Gl X x := by rfl) (hn : x ≠ "__name__" := by decide) (hdb : (x == ("__debug__" : Str)) = false := by decide)
    (he : starEach (e :: es) X.env = (false, eval e X.env) :: starEach es X.env := by rfl) (hpl : (backTo pos (starEach es X.env)).any (·.1) = false := by rfl) : DE X W (.Call (.Name x p) (e :: es) [] pos) (bnd h o) := by
  obtain ⟨t, q, s⟩ := ha
  exact ⟨_, pe_callB hc hg hm hv q hn hdb he hpl, snd_args so s⟩
theorem de_callTy {T : String} {r : List V → Hp → VK → Prop} {o : List D → Ev D} {x : Str} {p : Pos} {e : Expr} {es : List Expr} {h : Ev (List D)} (hc : CallR X (.type T) r) (so : SndC X.K W r o) (hm : X.mg x = none) (hv : bootBuiltins x = some (.type T)) (ha : DA X W (e :: es) h) (hg : Gl X x := by rfl) (hn : x ≠ "__name__" := by decide) (hdb : (x == ("__debug__" : Str)) = false := by decide)
    (he : starEach (e :: es) X.env = (false, eval e X.env) :: starEach es X.env := by rfl) (hpl : (backTo pos (starEach es X.env)).any (·.1) = false := by rfl) : DE X W (.Call (.Name x p) (e :: es) [] pos) (bnd h o) := by
  obtain ⟨t, q, s⟩ := ha
  exact ⟨_, pe_callTy hc hg hm hv q hn hdb he hpl, snd_args so s⟩
def o1I (h : Int → D) (ds : List D) : Ev D := match ds with
  | [.int i] => ret (h i)
  | _ => stk
def o2I (h : Int → Int → D) (ds : List D) : Ev D := match ds with
  | [.int i, .int j] => ret (h i j)
  | _ => stk
theorem vals1 {K : PySem.W.Frag} {θ : List Th} {G : Hp} {xs : List V} {d : D} (h : RvL K θ G xs [d]) : ∃ v, xs = [v] ∧ Rv K θ G v d := by
  obtain ⟨v, ys, rfl, hv, r⟩ := h.uncons
  rw [r.nil_of]
  exact ⟨v, rfl, hv⟩
theorem vals2 {K : PySem.W.Frag} {θ : List Th} {G : Hp} {xs : List V} {d e : D} (h : RvL K θ G xs [d, e]) : ∃ v u, xs = [v, u] ∧ Rv K θ G v d ∧ Rv K θ G u e := by
  obtain ⟨v, ys, rfl, hv, r⟩ := h.uncons
  obtain ⟨u, rfl, hu⟩ := vals1 r
  exact ⟨v, u, rfl, hv, hu⟩
theorem Rv.int_of {K : PySem.W.Frag} {θ : List Th} {G : Hp} {v : V} {i : Int} (h : Rv K θ G v (.int i)) : v = .int i := by
  cases h with
  | dat h => cases h; rfl
theorem Rv.bl_of {K : PySem.W.Frag} {θ : List Th} {G : Hp} {v : V} {i : Bool} (h : Rv K θ G v (.bl i)) : v = .bl i := by
  cases h with
  | dat h => cases h; rfl
theorem snd_1I {K : PySem.W.Frag} {r : List V → Hp → VK → Prop} {h : Int → D} {h' : Int → V} (hr : ∀ i H Q, Q (h' i) H → r [.int i] H Q) (hh : ∀ i G, Rp K G (h' i) (h i)) : SndC K W r (o1I h) := by
  intro θ0 G0 xs ds hx
  unfold o1I
  split
  · rename_i i
    obtain ⟨v, rfl, hv⟩ := vals1 hx
    rw [hv.int_of]
    intro ρ M r M' θ G σ H Q p s e rs rv kk
    exact hr i H Q (Snd.ret (K := K) (W := W) (R := RV K) (θ0 := θ0) (G0 := G0) (d := h i) (fun _ G _ _ => .dat (hh i G)) ρ M r M' θ G σ H Q p s e rs rv kk)
  · exact Snd.stk
theorem snd_2I {K : PySem.W.Frag} {r : List V → Hp → VK → Prop} {h : Int → Int → D} {h' : Int → Int → V} (hr : ∀ i j H Q, Q (h' i j) H → r [.int i, .int j] H Q) (hh : ∀ i j G, Rp K G (h' i j) (h i j)) : SndC K W r (o2I h) := by
  intro θ0 G0 xs ds hx
  unfold o2I
  split
  · rename_i i j
    obtain ⟨v, u, rfl, hv, hu⟩ := vals2 hx
    rw [hv.int_of, hu.int_of]
    intro ρ M r M' θ G σ H Q p s e rs rv kk
    exact hr i j H Q (Snd.ret (K := K) (W := W) (R := RV K) (θ0 := θ0) (G0 := G0) (d := h i j) (fun _ G _ _ => .dat (hh i j G)) ρ M r M' θ G σ H Q p s e rs rv kk)
  · exact Snd.stk
def oAbs : List D → Ev D := o1I fun i => .int (if i < 0 then -i else i)
def oMax : List D → Ev D := o2I fun i j => .int (if j > i then j else i)
def oMin : List D → Ev D := o2I fun i j => .int (if j < i then j else i)
def oToInt (ds : List D) : Ev D := match ds with
  | [.int i] => ret (.int i)
  | [.bl b] => ret (.int (if b then 1 else 0))
  | _ => stk
variable {p : Pos} {e : Expr} {es : List Expr} {h : Ev (List D)}
theorem de_abs (hm : X.mg "abs" = none) (ha : DA X W (e :: es) h) (hg : Gl X "abs" := by rfl) (he : starEach (e :: es) X.env = (false, eval e X.env) :: starEach es X.env := by rfl) (hpl : (backTo pos (starEach es X.env)).any (·.1) = false := by rfl) : DE X W (.Call (.Name "abs" p) (e :: es) [] pos) (bnd h oAbs) :=
  de_callB call_abs (snd_1I (h' := fun i => .int (if i < 0 then -i else i)) (fun i H Q q => ⟨i, rfl, q⟩) fun i G => .int _) hm (by decide +kernel) ha hg (by decide) (by decide) he hpl
theorem de_max (hc : X.calm = true) (hm : X.mg "max" = none) (ha : DA X W (e :: es) h) (hg : Gl X "max" := by rfl) (he : starEach (e :: es) X.env = (false, eval e X.env) :: starEach es X.env := by rfl) (hpl : (backTo pos (starEach es X.env)).any (·.1) = false := by rfl) : DE X W (.Call (.Name "max" p) (e :: es) [] pos) (bnd h oMax) :=
  de_callB (call_max2 hc) (snd_2I (h' := fun i j => .int (if j > i then j else i)) (fun i j H Q q => ⟨i, j, rfl, q⟩) fun i j G => .int _) hm (by decide +kernel) ha hg (by decide) (by decide) he hpl
theorem snd_toInt {K : PySem.W.Frag} : SndC K W (fun xs H Q => (∃ i, xs = [.int i] ∧ Q (.int i) H) ∨ ∃ k, xs = [.bl k] ∧ Q (.int (if k then 1 else 0)) H) oToInt := by
  intro θ0 G0 xs ds hx
  unfold oToInt
  split
  · rename_i i
    obtain ⟨v, rfl, hv⟩ := vals1 hx
    rw [hv.int_of]
    intro ρ M r M' θ G σ H Q p s e rs rv kk
    exact .inl ⟨i, rfl, Snd.ret (K := K) (W := W) (R := RV K) (θ0 := θ0) (G0 := G0) (d := .int i) (fun _ G _ _ => .dat (.int _)) ρ M r M' θ G σ H Q p s e rs rv kk⟩
  · rename_i i
    obtain ⟨v, rfl, hv⟩ := vals1 hx
    rw [hv.bl_of]
    intro ρ M r M' θ G σ H Q p s e rs rv kk
    exact .inr ⟨i, rfl, Snd.ret (K := K) (W := W) (R := RV K) (θ0 := θ0) (G0 := G0) (d := .int (if i then 1 else 0)) (fun _ G _ _ => .dat (.int _)) ρ M r M' θ G σ H Q p s e rs rv kk⟩
  · exact Snd.stk
theorem de_toInt (hm : X.mg "int" = none) (ha : DA X W (e :: es) h) (hg : Gl X "int" := by rfl) (he : starEach (e :: es) X.env = (false, eval e X.env) :: starEach es X.env := by rfl) (hpl : (backTo pos (starEach es X.env)).any (·.1) = false := by rfl) : DE X W (.Call (.Name "int" p) (e :: es) [] pos) (bnd h oToInt) :=
  de_callTy call_int1 snd_toInt hm (by decide +kernel) ha hg (by decide) (by decide) he hpl
/-! sequences -/
def seqOf (d : D) (M : Mem) : Option (List D) := match d with
  | .tup ds => some ds
  | .lst ds => some ds
  | .scr ds => some ds
  | .ptr n => match M[n]? with
    | some (some ds) => some ds
    | _ => none
  | _ => none
theorem seq_of {K : PySem.W.Frag} {θ : List Th} {G H : Hp} {M : Mem} {v : V} {d : D} {ds : List D} (rs : Rs K θ G H M) (hv : Rv K θ G v d) (h : seqOf d M = some ds) : ∃ a xs, v = .ref a ∧ (SqL K H a xs ∨ SqT K H a xs) ∧ RpL K G xs ds := by
  unfold seqOf at h
  split at h
  · cases h
    cases hv with
    | dat hv =>
      cases hv with
      | tup q l e => exact ⟨_, _, rfl, .inr (seqT rs.sub q), l, e⟩
  · cases h
    cases hv with
    | dat hv =>
      cases hv with
      | lst q l e => exact ⟨_, _, rfl, .inl (.inl (.inl (rs.sub _ _ q))), l, e⟩
  · cases h
    cases hv with
    | dat hv =>
      cases hv with
      | scr q l e => exact ⟨_, _, rfl, .inl (rs.sub.seq q), l, e⟩
  · rename_i n
    split at h
    · rename_i es hm
      cases h
      cases hv with
      | dat hv => cases hv
      | ptr hn =>
        obtain ⟨g, xs, hx, rl⟩ := rs.mem n _ _ hn hm
        exact ⟨_, xs, rfl, .inl (.inl (.inl hx)), rl⟩
    · cases h
  · cases h
def oLen (ds : List D) : Ev D := fun ρ M => match ds with
  | [d] => match seqOf d M with
    | some es => some (.ok (.int es.length), M)
    | none => none
  | _ => none
theorem snd_len {K : PySem.W.Frag} : SndC K W (fun xs H Q => ∃ p ys, xs = [.ref p] ∧ (SqL K H p ys ∨ SqT K H p ys) ∧ Q (.int ys.length) H) oLen := by
  intro θ0 G0 xs ds hx ρ M r M' θ G σ H Q p s e rs rv kk
  unfold oLen at e
  split at e
  · rename_i d
    split at e
    · rename_i es he
      cases e
      obtain ⟨v, rfl, hv⟩ := vals1 hx
      obtain ⟨a, xs, rfl, q, rl⟩ := seq_of rs (hv.mono p s) he
      refine ⟨a, xs, rfl, q, (kk θ G H (List.prefix_refl _) (Same.refl _) rs).2 _ _ rfl ?_⟩
      rw [rl.len]
      exact .dat (.int _)
    · cases e
  · cases e
theorem de_len (hm : X.mg "len" = none) (ha : DA X W (e :: es) h) (hg : Gl X "len" := by rfl) (he : starEach (e :: es) X.env = (false, eval e X.env) :: starEach es X.env := by rfl) (hpl : (backTo pos (starEach es X.env)).any (·.1) = false := by rfl) : DE X W (.Call (.Name "len" p) (e :: es) [] pos) (bnd h oLen) :=
  de_callB call_len_seq snd_len hm PySem.boot_len ha hg (by decide) (by decide) he hpl
/-! x[i] -/
def oIx (d e : D) : Ev D := fun ρ M => match e, seqOf d M with
  | .int i, some ds => match atI ds i with
    | some x => some (.ok x, M)
    | none => none
  | _, _ => none
theorem atI_of {K : PySem.W.Frag} {G : Hp} {xs : List V} {ds : List D} (r : RpL K G xs ds) {i : Int} {d : D} (h : atI ds i = some d) : ∃ v, atI xs i = some v ∧ Rp K G v d := by
  unfold atI at h ⊢
  rw [r.len]
  cases q : ixN ds.length i with
  | none => rw [q] at h; cases h
  | some j =>
    rw [q] at h
    exact r.at h
def rIxLT (K : PySem.W.Frag) : R2 := fun x y H Q => rIxL K x y H Q ∨ rIxT K x y H Q
theorem ix_LT : IxR X (rIxLT X.K) := ix_list.or ix_tup
theorem snd_ix {K : PySem.W.Frag} : SndO K W (rIxLT K) oIx := by
  intro θ0 G0 x y d e hx hy ρ M r M' θ G σ H Q p s e1 rs rv kk
  unfold oIx at e1
  split at e1
  · rename_i i ds hd
    split at e1
    · rename_i z hz
      cases e1
      have hi := hy.int_of
      subst hi
      obtain ⟨a, xs, rfl, q, rl⟩ := seq_of rs (hx.mono p s) hd
      obtain ⟨v, ev, rz⟩ := atI_of rl hz
      have fin := (kk θ G H (List.prefix_refl _) (Same.refl _) rs).2 _ v rfl (.dat rz)
      rcases q with q | q
      · exact .inl ⟨a, xs, i, v, rfl, rfl, q, ev, fin⟩
      · exact .inr ⟨a, xs, i, v, rfl, rfl, q, ev, fin⟩
    · cases e1
  · cases e1
theorem de_ix (ha : DE X W a f) (hb : DE X W b g) (hs : PlainIx b := by exact fun _ _ => rfl) : DE X W (.Subscript a b pos) (bnd f fun d => bnd g fun e => oIx d e) := by
  obtain ⟨ta, pa, sa⟩ := ha
  obtain ⟨tb, pb, sb⟩ := hb
  exact ⟨_, pe_ix ix_LT pa pb hs, fun θ G => snd_op snd_ix sa sb⟩
end
end Bw
namespace Bw
open PySem PySem.Spec PyProof.Rows L2
inductive Out where
  | nx (ρ : Env) | rt (d : D) | bk (ρ : Env) | ct (ρ : Env) | ex (C : Str) (ρ : Env)
abbrev Sv := Env → Mem → Option (Out × Mem)
/-- what the ends ask -/
structure Cont (K : PySem.W.Frag) (W : WN) (Dn : Ends) (o : Out) (θ : List Th) (G H : Hp) : Prop where
  nx : ∀ ρ σ, o = .nx ρ → Rσ K θ G σ ρ → Dn.nx σ H
  bk : ∀ ρ σ, o = .bk ρ → Rσ K θ G σ ρ → Dn.bk σ H
  ct : ∀ ρ σ, o = .ct ρ → Rσ K θ G σ ρ → Dn.ct σ H
  rt : ∀ d v, o = .rt d → Rv K θ G v d → Dn.rt v H
  ex : ∀ C ρ σ, o = .ex C ρ → Rσ K θ G σ ρ → W C σ H
def SndS (K : PySem.W.Frag) (W : WN) (t : TS) (f : Sv) : Prop :=
  ∀ (ρ : Env) (M : Mem) (o : Out) (M' : Mem) (θ : List Th) (G : Hp) (σ : L2.St) (H : Hp) (Dn : Ends), f ρ M = some (o, M') → Rs K θ G H M → Rσ K θ G σ ρ →
    (∀ (θ' : List Th) (G' H' : Hp), θ <+: θ' → Same G G' → Rs K θ' G' H' M' → Cont K W Dn o θ' G' H') → t Dn σ H
def DS (X : Cx) (W : WN) (st : Stmt) (f : Sv) : Prop := ∃ t, PS X st t ∧ SndS X.K W t f
def DSs (X : Cx) (W : WN) (st : List Stmt) (f : Sv) : Prop := ∃ t, PSs X st t ∧ SndS X.K W t f
/-- an expression, then a statement by its value -/
def thenS {α : Type} (f : Ev α) (g : α → Sv) : Sv := fun ρ M => match f ρ M with
  | some (.ok a, M1) => g a ρ M1
  | some (.exc C, M1) => some (.ex C ρ, M1)
  | none => none
def sNext : Sv := fun ρ M => some (.nx ρ, M)
def sSeq (f g : Sv) : Sv := fun ρ M => match f ρ M with
  | some (.nx ρ1, M1) => g ρ1 M1
  | r => r
section
variable {X : Cx} {W : WN} {pos : Pos} {K : PySem.W.Frag}
theorem snd_then {A α : Type} {R : List Th → Hp → A → α → Prop} {t : L2.St → Hp → (A → Hp → Prop) → Prop} {f : Ev α} {k : A → TS} {g : α → Sv} (h : ∀ θ G, Snd K W R θ G t f)
    (h2 : ∀ θ G v d, R θ G v d → ∀ (ρ : Env) (M : Mem) (o : Out) (M' : Mem) (σ : L2.St) (H : Hp) (Dn : Ends), g d ρ M = some (o, M') → Rs K θ G H M → Rσ K θ G σ ρ →
      (∀ (θ' : List Th) (G' H' : Hp), θ <+: θ' → Same G G' → Rs K θ' G' H' M' → Cont K W Dn o θ' G' H') → k v Dn σ H) :
    SndS K W (fun Dn σ H => t σ H fun v H1 => k v Dn σ H1) (thenS f g) := by
  intro ρ M o M' θ G σ H Dn e rs rv kk
  unfold thenS at e
  cases q : f ρ M with
  | none => rw [q] at e; cases e
  | some z =>
    obtain ⟨r1, M1⟩ := z
    rw [q] at e
    refine h θ G ρ M r1 M1 θ G σ H _ (List.prefix_refl _) (Same.refl _) q rs rv fun θ' G' H' p' s' rs' => ?_
    cases r1 with
    | exc C =>
      simp at e
      obtain ⟨e1, e2⟩ := e
      subst e1; subst e2
      exact ⟨fun C' h => by cases h; exact (kk θ' G' H' p' s' rs').ex C ρ σ rfl (rv.mono p' s'), fun d v h => (by cases h)⟩
    | ok a =>
      refine ⟨fun C' h => (by cases h), fun d v h rel => ?_⟩
      cases h
      exact h2 θ' G' v a rel ρ M1 o M' σ H' Dn e rs' (rv.mono p' s') fun θ2 G2 H2 p2 s2 rs2 => kk θ2 G2 H2 (p'.trans p2) (s'.trans s2) rs2
theorem dss_nil : DSs X W [] sNext := by
  refine ⟨_, pss_nil, fun ρ M o M' θ G σ H Dn e rs rv kk => ?_⟩
  unfold sNext at e
  cases e
  exact (kk θ G H (List.prefix_refl _) (Same.refl _) rs).nx ρ σ rfl rv
theorem snd_seq {t u : TS} {f g : Sv} (s1 : SndS K W t f) (s2 : SndS K W u g) : SndS K W (tSeq t u) (sSeq f g) := by
  intro ρ M o M' θ G σ H Dn e rs rv kk
  unfold sSeq at e
  cases q : f ρ M with
  | none => rw [q] at e; cases e
  | some z =>
    obtain ⟨o1, M1⟩ := z
    rw [q] at e
    refine s1 ρ M o1 M1 θ G σ H _ q rs rv fun θ' G' H' p' s' rs' => ?_
    cases o1 with
    | nx ρ1 =>
      refine ⟨fun ρ2 σ2 h r2 => ?_, fun ρ2 σ2 h => (by cases h), fun ρ2 σ2 h => (by cases h), fun d v h => (by cases h), fun C ρ2 σ2 h => (by cases h)⟩
      cases h
      exact s2 ρ1 M1 o M' θ' G' σ2 H' Dn e rs' r2 fun θ2 G2 H2 p2 s2 rs2 => kk θ2 G2 H2 (p'.trans p2) (s'.trans s2) rs2
    | bk ρ1 =>
      cases e
      have c := kk θ' G' H' p' s' rs'
      exact ⟨fun ρ2 σ2 h => (by cases h), c.bk, c.ct, c.rt, c.ex⟩
    | ct ρ1 =>
      cases e
      have c := kk θ' G' H' p' s' rs'
      exact ⟨fun ρ2 σ2 h => (by cases h), c.bk, c.ct, c.rt, c.ex⟩
    | rt d =>
      cases e
      have c := kk θ' G' H' p' s' rs'
      exact ⟨fun ρ2 σ2 h => (by cases h), c.bk, c.ct, c.rt, c.ex⟩
    | ex C ρ1 =>
      cases e
      have c := kk θ' G' H' p' s' rs'
      exact ⟨fun ρ2 σ2 h => (by cases h), c.bk, c.ct, c.rt, c.ex⟩
theorem dss_cons {st : Stmt} {rest : List Stmt} {f g : Sv} (h1 : DS X W st f) (h2 : DSs X W rest g) : DSs X W (st :: rest) (sSeq f g) := by
  obtain ⟨t, p, s⟩ := h1
  obtain ⟨u, p2, s2⟩ := h2
  exact ⟨_, pss_cons p p2, snd_seq s s2⟩
theorem dss_one {st : Stmt} {f : Sv} (h1 : DS X W st f) : DSs X W [st] f := by
  obtain ⟨t, p, s⟩ := h1
  exact ⟨_, pss_one p, s⟩
/-! ### targets -/
abbrev Tg := D → Env → Option Env
/-- which slots a target writes -/
def Wr (sl : List Nat) (σ σ' : L2.St) : Prop := ∀ vs : List Nat, (∀ i ∈ sl, i ∈ vs) → wipe σ' vs = wipe σ vs
theorem wipe_set {σ : L2.St} {i : Nat} {x : Option V} : ∀ vs : List Nat, wipe (σ.set i x) vs = if i ∈ vs then wipe σ vs else (wipe σ vs).set i x
  | [] => by simp [wipe]
  | v :: vs => by
    unfold wipe
    rw [wipe_set vs]
    by_cases h : i ∈ vs
    · simp [h]
    · by_cases hv : i = v
      · subst hv; simp [h]
      · simp [h, hv, List.set_comm _ _ hv]
theorem Wr.refl {sl : List Nat} {σ : L2.St} : Wr sl σ σ := fun _ _ => rfl
def SndG (K : PySem.W.Frag) (g : TG) (b : Tg) (sl : List Nat) : Prop := ∀ (d : D) (ρ ρ' : Env) (θ : List Th) (G : Hp) (σ : L2.St) (H : Hp) (M : Mem) (Q : L2.St → Hp → Prop) (v : V), b d ρ = some ρ' → Rs K θ G H M → Rσ K θ G σ ρ → Rv K θ G v d → (∀ σ', Rσ K θ G σ' ρ' → Wr sl σ σ' → Q σ' H) → g v σ H Q
def SndGs (K : PySem.W.Frag) (g : TGs) (b : List D → Env → Option Env) (sl : List Nat) : Prop := ∀ (ds : List D) (ρ ρ' : Env) (θ : List Th) (G : Hp) (σ : L2.St) (H : Hp) (M : Mem) (Q : L2.St → Hp → Prop) (vs : List V), b ds ρ = some ρ' → Rs K θ G H M → Rσ K θ G σ ρ → RpL K G vs ds → (∀ σ', Rσ K θ G σ' ρ' → Wr sl σ σ' → Q σ' H) → g vs σ H Q
def DG (X : Cx) (tg : Expr) (b : Tg) (sl : List Nat) : Prop := ∃ g, PG X tg g ∧ SndG X.K g b sl
def DGs (X : Cx) (tg : List Expr) (b : List D → Env → Option Env) (sl : List Nat) : Prop := ∃ g, PGs X tg g ∧ SndGs X.K g b sl
def gNm (i : Nat) : Tg := fun d ρ => some (ρ.set i (some d))
def gNl : List D → Env → Option Env := fun ds ρ => match ds with
  | [] => some ρ
  | _ => none
def gCn (b : Tg) (c : List D → Env → Option Env) : List D → Env → Option Env := fun ds ρ => match ds with
  | d :: r => match b d ρ with
    | some ρ1 => c r ρ1
    | none => none
  | [] => none
def gTp (n : Nat) (c : List D → Env → Option Env) : Tg := fun d ρ => match d with
  | .tup ds => if ds.length = n then c ds ρ else none
  | _ => none
def gLs (n : Nat) (c : List D → Env → Option Env) : Tg := fun d ρ => match d with
  | .lst ds => if ds.length = n then c ds ρ else none
  | _ => none
theorem dg_name (i : Nat) {x : Str} (hN : X.N.Nodup) (hi : X.N[i]? = some x := by rfl) (hx : Loc X.env.scope x := by first | exact .inl rfl | exact .inr rfl) (hf : X.fn x = true ∨ X.env.scope.names.lookup x = some .local := by first | exact .inl rfl | exact .inr rfl) : DG X (.Name x pos) (gNm i) [i] := by
  refine ⟨_, pg_name hN hi hx hf, fun d ρ ρ' θ G σ H M Q v e rs rv hv k => ?_⟩
  unfold gNm at e
  cases e
  exact k _ (rv.set hv) fun vs h => by rw [wipe_set, if_pos (h i (by simp))]
theorem dgs_nil : DGs X [] gNl [] := by
  refine ⟨_, pgs_nil, fun ds ρ ρ' θ G σ H M Q vs e rs rv hv k => ?_⟩
  unfold gNl at e
  split at e
  · cases e
    exact ⟨hv.nil_of, k _ rv Wr.refl⟩
  · cases e
theorem dgs_cons {e : Expr} {es : List Expr} {b : Tg} {c : List D → Env → Option Env} {sl sl2 : List Nat} (h1 : DG X e b sl) (h2 : DGs X es c sl2) (hs : (assignEach (e :: es) X.env).map (·.2) = assign e X.env :: (assignEach es X.env).map (·.2) := by rfl) : DGs X (e :: es) (gCn b c) (sl ++ sl2) := by
  obtain ⟨g, p, s⟩ := h1
  obtain ⟨u, p2, s2⟩ := h2
  refine ⟨_, pgs_cons p p2 hs, fun ds ρ ρ' θ G σ H M Q vs e rs rv hv k => ?_⟩
  unfold gCn at e
  split at e
  · rename_i d r
    split at e
    · rename_i ρ1 h1
      obtain ⟨v, ys, rfl, hv1, hvs⟩ := hv.uncons
      exact ⟨v, ys, rfl, s d ρ ρ1 θ G σ H M _ v h1 rs rv (.dat hv1) fun σ1 r1 w1 => s2 r ρ1 ρ' θ G σ1 H M Q ys e rs r1 hvs fun σ2 r2 w2 => k σ2 r2 fun vs h => (w2 vs fun i hi => h i (by simp [hi])).trans (w1 vs fun i hi => h i (by simp [hi]))⟩
    · cases e
  · cases e
theorem dg_tup {es : List Expr} {k n : Nat} {c : List D → Env → Option Env} {sl : List Nat} (hc : X.calm = true) (h : DGs X es c sl) (hn : (assignEach es X.env).length = n := by rfl) (hst : (assignEach es X.env).findIdx? (·.1) = none := by rfl) : DG X (.Tuple es k pos) (gTp n c) sl := by
  obtain ⟨g, p, s⟩ := h
  refine ⟨_, pg_tup hc p hn hst, fun d ρ ρ' θ G σ H M Q v e rs rv hv k => ?_⟩
  unfold gTp at e
  split at e
  · rename_i ds
    split at e
    · rename_i hl
      cases hv with
      | dat hv =>
        cases hv with
        | tup q l g => exact ⟨_, _, rfl, seqT rs.sub q, l.trans hl, s ds ρ ρ' θ G σ H M Q _ e rs rv ⟨l, g⟩ k⟩
    · cases e
  · cases e
/-! ### statements -/
def sAsg (f : Ev D) (b : Tg) : Sv := thenS f fun d ρ M => match b d ρ with
  | some ρ1 => some (.nx ρ1, M)
  | none => none
theorem snd_asg {t : TE} {g : TG} {f : Ev D} {b : Tg} {sl : List Nat} (s : ∀ θ G, Snd K W (RV K) θ G t f) (s2 : SndG K g b sl) : SndS K W (tAsg t g) (sAsg f b) := by
  refine snd_then (k := fun v (Dn : Ends) σ H1 => g v σ H1 Dn.nx) s fun θ G v d hv ρ M o M' σ H Dn e rs rv kk => ?_
  split at e
  · rename_i ρ1 h1
    cases e
    exact s2 d ρ ρ1 θ G σ H M _ v h1 rs rv hv fun σ' r' _ => (kk θ G H (List.prefix_refl _) (Same.refl _) rs).nx ρ1 σ' rfl r'
  · cases e
theorem ds_set (i : Nat) {x : Str} {e : Expr} {f : Ev D} {pos' : Pos} (hN : X.N.Nodup) (he : DE X W e f) (hi : X.N[i]? = some x := by rfl) (hx : Loc X.env.scope x := by first | exact .inl rfl | exact .inr rfl) (hs : swapsWith e (some (.Name x pos')) pos.line X.env = pure false := by rfl) (hf : X.fn x = true ∨ X.env.scope.names.lookup x = some .local := by first | exact .inl rfl | exact .inr rfl) :
    DS X W (.Assign [.Name x pos'] e pos) (sAsg f (gNm i)) := by
  obtain ⟨t, p, s⟩ := he
  refine ⟨_, ps_set hN hi hx p hs hf, snd_asg (sl := [i]) s fun d ρ ρ' θ G σ H M Q v e rs rv hv k => ?_⟩
  unfold gNm at e
  cases e
  exact k _ (rv.set hv) fun vs h => by rw [wipe_set, if_pos (h i (by simp))]
theorem ds_asg {tg e : Expr} {f : Ev D} {b : Tg} {sl : List Nat} (he : DE X W e f) (hg : DG X tg b sl) (hs : swapsWithSole [tg] e pos.line X.env = pure false := by rfl) (hw : swappedStores [tg] e X.env = pure none := by rfl)
    (h1 : (assignEach [tg] X.env).map (·.2) = [assign tg X.env] := by rfl) : DS X W (.Assign [tg] e pos) (sAsg f b) := by
  obtain ⟨t, p, s⟩ := he
  obtain ⟨g, p2, s2⟩ := hg
  exact ⟨_, ps_asg p p2 hs hw h1, snd_asg s s2⟩
/-- a, b = x, y -/
def sPar (i j : Nat) (f : Ev (List D)) : Sv := thenS f fun ds ρ M => match ds with
  | [d, e] => some (.nx ((ρ.set i (some d)).set j (some e)), M)
  | _ => none
theorem ds_par (i j : Nat) {x y : Str} {a b : Expr} {f : Ev (List D)} {px py pt : Pos} {kt k2 : Nat} {pt2 : Pos} (hN : X.N.Nodup) (ha : DA X W [a, b] f) (hc : X.calm = true := by rfl) (hi : X.N[i]? = some x := by rfl) (hj : X.N[j]? = some y := by rfl) (hij : i ≠ j := by decide)
    (hx : X.env.scope.names.lookup x = some .local := by rfl) (hy : X.env.scope.names.lookup y = some .local := by rfl)
    (hw : swappedStores [.Tuple [.Name x px, .Name y py] kt pt] (.Tuple [a, b] k2 pt2) X.env = pure (some [x, y]) := by rfl)
    (hs : swapsWithSole [.Tuple [.Name x px, .Name y py] kt pt] (.Tuple [a, b] k2 pt2) pos.line X.env = pure false := by rfl) :
    DS X W (.Assign [.Tuple [.Name x px, .Name y py] kt pt] (.Tuple [a, b] k2 pt2) pos) (sPar i j f) := by
  obtain ⟨t, p, s⟩ := ha
  refine ⟨_, ps_par hc hN hi hj hij hx hy p hw hs, ?_⟩
  refine snd_then (k := fun vs (Dn : Ends) σ H1 => ∃ v w, vs = [v, w] ∧ Dn.nx ((σ.set i (some v)).set j (some w)) H1) s fun θ G vs ds hv ρ M o M' σ H Dn e rs rv kk => ?_
  split at e
  · rename_i d e'
    cases e
    obtain ⟨v, u, rfl, h1, h2⟩ := vals2 hv
    exact ⟨v, u, rfl, (kk θ G H (List.prefix_refl _) (Same.refl _) rs).nx _ _ rfl ((rv.set h1).set h2)⟩
  · cases e
def sRet (f : Ev D) : Sv := thenS f fun d _ M => some (.rt d, M)
theorem ds_ret {e : Expr} {f : Ev D} (he : DE X W e f) : DS X W (.Return (some e) pos) (sRet f) := by
  obtain ⟨t, p, s⟩ := he
  refine ⟨_, ps_ret p, ?_⟩
  refine snd_then (k := fun v (Dn : Ends) σ H1 => Dn.rt v H1) s fun θ G v d hv ρ M o M' σ H Dn e rs rv kk => ?_
  cases e
  exact (kk θ G H (List.prefix_refl _) (Same.refl _) rs).rt d v rfl hv
def sExpr (f : Ev D) : Sv := thenS f fun _ ρ M => some (.nx ρ, M)
theorem ds_expr {e : Expr} {f : Ev D} (he : DE X W e f) (hs : swapsWith e none pos.line X.env = pure false := by rfl) : DS X W (.Expr e pos) (sExpr f) := by
  obtain ⟨t, p, s⟩ := he
  refine ⟨_, ps_expr p hs, ?_⟩
  refine snd_then (k := fun v (Dn : Ends) σ H1 => Dn.nx σ H1) s fun θ G v d hv ρ M o M' σ H Dn e rs rv kk => ?_
  cases e
  exact (kk θ G H (List.prefix_refl _) (Same.refl _) rs).nx ρ σ rfl rv
def sIf (c : Ev Bool) (f g : Sv) : Sv := thenS c fun b => if b = true then f else g
theorem ds_if {c : Expr} {a b : List Stmt} {h : Ev Bool} {f g : Sv} (hc : DT X W c h) (ha : DSs X W a f) (hb : DSs X W b g) : DS X W (.If c a b pos) (sIf h f g) := by
  obtain ⟨t, p, s⟩ := hc
  obtain ⟨u, p2, s2⟩ := ha
  obtain ⟨z, p3, s3⟩ := hb
  refine ⟨_, ps_if p p2 p3, ?_⟩
  refine snd_then (k := fun (b : Bool) (Dn : Ends) σ H1 => if b = true then u Dn σ H1 else z Dn σ H1) s fun θ G v d hv ρ M o M' σ H Dn e rs rv kk => ?_
  cases hv
  cases v with
  | true =>
    rw [if_pos rfl] at e ⊢
    exact s2 ρ M o M' θ G σ H Dn e rs rv kk
  | false =>
    rw [if_neg Bool.false_ne_true] at e ⊢
    exact s3 ρ M o M' θ G σ H Dn e rs rv kk
def sNever : Sv := fun _ _ => none
/-! ### while -/
def whileF (c : Ev Bool) (b : Sv) : Nat → Sv
  | 0 => fun _ _ => none
  | n + 1 => fun ρ M => match c ρ M with
    | some (.ok true, M1) => match b ρ M1 with
      | some (.nx ρ2, M2) => whileF c b n ρ2 M2
      | some (.ct ρ2, M2) => whileF c b n ρ2 M2
      | some (.bk ρ2, M2) => some (.nx ρ2, M2)
      | r => r
    | some (.ok false, M1) => some (.nx ρ, M1)
    | some (.exc C, M1) => some (.ex C ρ, M1)
    | none => none
theorem whileF_succ {c : Ev Bool} {b : Sv} : ∀ {n : Nat} {ρ : Env} {M : Mem} {r : Out × Mem}, whileF c b n ρ M = some r → whileF c b (n + 1) ρ M = some r
  | 0, ρ, M, r, h => by cases h
  | n + 1, ρ, M, r, h => by
    unfold whileF at h ⊢
    cases q : c ρ M with
    | none => rw [q] at h; cases h
    | some z =>
      obtain ⟨x, M1⟩ := z
      rw [q] at h
      cases x with
      | exc C => exact h
      | ok k =>
        cases k with
        | false => exact h
        | true =>
          dsimp only at h ⊢
          cases q2 : b ρ M1 with
          | none => rw [q2] at h; cases h
          | some z2 =>
            obtain ⟨o, M2⟩ := z2
            rw [q2] at h
            cases o with
            | nx ρ2 => exact whileF_succ h
            | ct ρ2 => exact whileF_succ h
            | bk ρ2 => exact h
            | rt d => exact h
            | ex C ρ2 => exact h
theorem whileF_le {c : Ev Bool} {b : Sv} {m n : Nat} (h : m ≤ n) {ρ : Env} {M : Mem} {r : Out × Mem} (e : whileF c b m ρ M = some r) : whileF c b n ρ M = some r := by
  induction h with
  | refl => exact e
  | step _ ih => exact whileF_succ ih
open Classical in
noncomputable def sWhile (c : Ev Bool) (b : Sv) : Sv := fun ρ M => if h : ∃ r n, whileF c b n ρ M = some r then some (Classical.choose h) else none
theorem sWhile_eq {c : Ev Bool} {b : Sv} {n : Nat} {ρ : Env} {M : Mem} {r : Out × Mem} (e : whileF c b n ρ M = some r) : sWhile c b ρ M = some r := by
  have h : ∃ r n, whileF c b n ρ M = some r := ⟨r, n, e⟩
  unfold sWhile
  rw [dif_pos h]
  obtain ⟨m, hm⟩ := Classical.choose_spec h
  have e1 := whileF_le (Nat.le_max_left m n) hm
  have e2 := whileF_le (Nat.le_max_right m n) e
  rw [e1] at e2
  exact e2
theorem sWhile_of {c : Ev Bool} {b : Sv} {ρ : Env} {M : Mem} {r : Out × Mem} (e : sWhile c b ρ M = some r) : ∃ n, whileF c b n ρ M = some r := by
  unfold sWhile at e
  split at e
  · rename_i h
    obtain ⟨m, hm⟩ := Classical.choose_spec h
    exact ⟨m, by rw [hm]; exact e⟩
  · cases e
theorem ds_while {c : Expr} {body : List Stmt} {h : Ev Bool} {f : Sv} (hp : PassesOwn (model X.prog X.w) X.A X.env X.xe) (hc : DT X W c h) (hb : DSs X W body f) : DS X W (.While c body [] pos) (sWhile h f) := by
  obtain ⟨tc, p, s⟩ := hc
  obtain ⟨tb, p2, s2⟩ := hb
  refine ⟨_, ps_while hp p p2, fun ρ M o M' θ G σ H Dn e rs rv kk => ?_⟩
  obtain ⟨n, hn⟩ := sWhile_of e
  refine ⟨fun m σ1 H1 => ∃ ρ1 M1 θ1 G1, θ <+: θ1 ∧ Same G G1 ∧ Rs X.K θ1 G1 H1 M1 ∧ Rσ X.K θ1 G1 σ1 ρ1 ∧ whileF h f m ρ1 M1 = some (o, M'), ⟨n, ρ, M, θ, G, List.prefix_refl _, Same.refl _, rs, rv, hn⟩, ?_⟩
  rintro m σ1 H1 ⟨ρ1, M1, θ1, G1, pr, sa, rs1, rv1, w⟩
  cases m with
  | zero => cases w
  | succ m =>
    unfold whileF at w
    cases q : h ρ1 M1 with
    | none => rw [q] at w; cases w
    | some z =>
      obtain ⟨x, M2⟩ := z
      rw [q] at w
      refine s θ1 G1 ρ1 M1 x M2 θ1 G1 σ1 H1 _ (List.prefix_refl _) (Same.refl _) q rs1 rv1 fun θ2 G2 H2 p2 sa2 rs2 => ?_
      cases x with
      | exc C =>
        cases w
        exact ⟨fun C' h => by cases h; exact (kk θ2 G2 H2 (pr.trans p2) (sa.trans sa2) rs2).ex C ρ1 σ1 rfl (rv1.mono p2 sa2), fun d v h => (by cases h)⟩
      | ok k =>
        refine ⟨fun C' h => (by cases h), fun d v h hv => ?_⟩
        cases h
        cases hv
        cases k with
        | false =>
          cases w
          rw [if_neg Bool.false_ne_true]
          exact (kk θ2 G2 H2 (pr.trans p2) (sa.trans sa2) rs2).nx ρ1 σ1 rfl (rv1.mono p2 sa2)
        | true =>
          rw [if_pos rfl]
          dsimp only at w
          refine ⟨fun σ3 H3 => ∃ ρ3 M3 θ3 G3, θ <+: θ3 ∧ Same G G3 ∧ Rs X.K θ3 G3 H3 M3 ∧ Rσ X.K θ3 G3 σ3 ρ3 ∧ whileF h f m ρ3 M3 = some (o, M'), fun σ' H' hN => ⟨m, Nat.lt_succ_self m, hN⟩, ?_⟩
          cases q2 : f ρ1 M2 with
          | none => rw [q2] at w; cases w
          | some z2 =>
            obtain ⟨o2, M3⟩ := z2
            rw [q2] at w
            refine s2 ρ1 M2 o2 M3 θ2 G2 σ1 H2 _ q2 rs2 (rv1.mono p2 sa2) fun θ3 G3 H3 p3 sa3 rs3 => ?_
            have pr3 := (pr.trans p2).trans p3
            have sm3 := (sa.trans sa2).trans sa3
            cases o2 with
            | nx ρ3 => exact ⟨fun ρ4 σ4 h r4 => by cases h; exact ⟨ρ3, M3, θ3, G3, pr3, sm3, rs3, r4, w⟩, fun _ _ h => (by cases h), fun _ _ h => (by cases h), fun _ _ h => (by cases h), fun _ _ _ h => (by cases h)⟩
            | ct ρ3 => exact ⟨fun _ _ h => (by cases h), fun _ _ h => (by cases h), fun ρ4 σ4 h r4 => by cases h; exact ⟨ρ3, M3, θ3, G3, pr3, sm3, rs3, r4, w⟩, fun _ _ h => (by cases h), fun _ _ _ h => (by cases h)⟩
            | bk ρ3 =>
              cases w
              exact ⟨fun _ _ h => (by cases h), fun ρ4 σ4 h r4 => by cases h; exact (kk θ3 G3 H3 pr3 sm3 rs3).nx ρ3 σ4 rfl r4, fun _ _ h => (by cases h), fun _ _ h => (by cases h), fun _ _ _ h => (by cases h)⟩
            | rt d =>
              cases w
              exact ⟨fun _ _ h => (by cases h), fun _ _ h => (by cases h), fun _ _ h => (by cases h), (kk θ3 G3 H3 pr3 sm3 rs3).rt, fun _ _ _ h => (by cases h)⟩
            | ex C ρ3 =>
              cases w
              exact ⟨fun _ _ h => (by cases h), fun _ _ h => (by cases h), fun _ _ h => (by cases h), fun _ _ h => (by cases h), (kk θ3 G3 H3 pr3 sm3 rs3).ex⟩
/-! ### for -/
def forF (b : Tg) (f : Sv) : List D → Sv
  | [] => fun ρ M => some (.nx ρ, M)
  | d :: ds => fun ρ M => match b d ρ with
    | none => none
    | some ρ1 => match f ρ1 M with
      | some (.nx ρ2, M2) => forF b f ds ρ2 M2
      | some (.ct ρ2, M2) => forF b f ds ρ2 M2
      | some (.bk ρ2, M2) => some (.nx ρ2, M2)
      | r => r
/-- what an iterator yields, from θ, G on -/
structure RI (K : PySem.W.Frag) (θ0 : List Th) (G0 : Hp) (J : It) (ds : List D) : Prop where
  go : ∀ (i : Nat) (θ : List Th) (G H : Hp) (M : Mem), θ0 <+: θ → Same G0 G → Rs K θ G H M → i < ds.length → J.go i H
  stop : ∀ (θ : List Th) (G H : Hp) (M : Mem), θ0 <+: θ → Same G0 G → Rs K θ G H M → J.stop ds.length H
  yld : ∀ (i : Nat) (d : D) (θ : List Th) (G H : Hp) (M : Mem) (x : V) (H' : Hp), θ0 <+: θ → Same G0 G → Rs K θ G H M → ds[i]? = some d → J.yld i H x H' → ∃ G', Same G G' ∧ Rs K θ G' H' M ∧ Rv K θ G' x d
def DI (X : Cx) (W : WN) (tg iter : Expr) (f : Ev (List D)) : Prop := ∃ wi, PI X tg iter wi ∧ ∀ θ G, Snd X.K W (RI X.K) θ G wi f
def sFor (h : Ev (List D)) (b : Tg) (f : Sv) : Sv := thenS h fun ds => forF b f ds
theorem ds_for {tg iter : Expr} {body : List Stmt} {h : Ev (List D)} {b : Tg} {f : Sv} {sl : List Nat} (hp : PassesOwn (model X.prog X.w) X.A X.env X.xe) (hi : DI X W tg iter h) (hg : DG X tg b sl) (hb : DSs X W body f) (hc : X.calm = true := by rfl)
    (hs : ∀ x, foldedSetIterable iter X.env x = pure x := by intro _; rfl) : DS X W (.For tg iter body [] pos) (sFor h b f) := by
  obtain ⟨wi, p, s⟩ := hi
  obtain ⟨g, pg, sg⟩ := hg
  obtain ⟨tb, p2, s2⟩ := hb
  refine ⟨_, ps_for hp hc p pg p2 hs, ?_⟩
  refine snd_then (R := RI X.K) (k := fun (J : It) (Dn : Ends) σ H1 => ∃ W : Nat → Nat → L2.St → Hp → Prop, (∃ m, W 0 m σ H1) ∧ ∀ i m σ H, W i m σ H →
    (J.stop i H ∧ Dn.nx σ H) ∨ (J.go i H ∧ ∃ N : L2.St → Hp → Prop, (∀ σ' H', N σ' H' → ∃ m', m' < m ∧ W (i + 1) m' σ' H') ∧ ∀ x H', J.yld i H x H' → g x σ H' fun σ2 H2 => tb { Dn with nx := N, ct := N, bk := Dn.nx } σ2 H2)) s ?_
  intro θ G J ds hJ ρ M o M' σ H Dn e rs rv kk
  refine ⟨fun i m σ1 H1 => ∃ ρ1 M1 θ1 G1, m + i = ds.length ∧ θ <+: θ1 ∧ Same G G1 ∧ Rs X.K θ1 G1 H1 M1 ∧ Rσ X.K θ1 G1 σ1 ρ1 ∧ forF b f (ds.drop i) ρ1 M1 = some (o, M'), ⟨ds.length, ρ, M, θ, G, rfl, List.prefix_refl _, Same.refl _, rs, rv, e⟩, ?_⟩
  rintro i m σ1 H1 ⟨ρ1, M1, θ1, G1, hm, pr, sa, rs1, rv1, w⟩
  by_cases hi : i < ds.length
  · right
    have hd : ds.drop i = ds[i] :: ds.drop (i + 1) := List.drop_eq_getElem_cons hi
    rw [hd] at w
    unfold forF at w
    refine ⟨hJ.go i θ1 G1 H1 M1 pr sa rs1 hi, fun σ3 H3 => ∃ ρ3 M3 θ3 G3, θ <+: θ3 ∧ Same G G3 ∧ Rs X.K θ3 G3 H3 M3 ∧ Rσ X.K θ3 G3 σ3 ρ3 ∧ forF b f (ds.drop (i + 1)) ρ3 M3 = some (o, M'), fun σ' H' hN => ?_, fun x H' hy => ?_⟩
    · obtain ⟨ρ3, M3, θ3, G3, a1, a2, a3, a4, a5⟩ := hN
      exact ⟨m - 1, by omega, ρ3, M3, θ3, G3, by omega, a1, a2, a3, a4, a5⟩
    · obtain ⟨G2, sa2, rs2, rx⟩ := hJ.yld i ds[i] θ1 G1 H1 M1 x H' pr sa rs1 (List.getElem?_eq_getElem hi) hy
      cases q : b ds[i] ρ1 with
      | none => rw [q] at w; cases w
      | some ρ2 =>
        rw [q] at w
        dsimp only at w
        refine sg ds[i] ρ1 ρ2 θ1 G2 σ1 H' M1 _ x q rs2 (rv1.mono (List.prefix_refl _) sa2) rx fun σ2 r2 _ => ?_
        cases q2 : f ρ2 M1 with
        | none => rw [q2] at w; cases w
        | some z2 =>
          obtain ⟨o2, M3⟩ := z2
          rw [q2] at w
          refine s2 ρ2 M1 o2 M3 θ1 G2 σ2 H' _ q2 rs2 r2 fun θ3 G3 H3 p3 sa3 rs3 => ?_
          have pr3 := pr.trans p3
          have sm3 := (sa.trans sa2).trans sa3
          cases o2 with
          | nx ρ3 => exact ⟨fun ρ4 σ4 h r4 => by cases h; exact ⟨ρ3, M3, θ3, G3, pr3, sm3, rs3, r4, w⟩, fun _ _ h => (by cases h), fun _ _ h => (by cases h), fun _ _ h => (by cases h), fun _ _ _ h => (by cases h)⟩
          | ct ρ3 => exact ⟨fun _ _ h => (by cases h), fun _ _ h => (by cases h), fun ρ4 σ4 h r4 => by cases h; exact ⟨ρ3, M3, θ3, G3, pr3, sm3, rs3, r4, w⟩, fun _ _ h => (by cases h), fun _ _ _ h => (by cases h)⟩
          | bk ρ3 =>
            cases w
            exact ⟨fun _ _ h => (by cases h), fun ρ4 σ4 h r4 => by cases h; exact (kk θ3 G3 H3 pr3 sm3 rs3).nx ρ3 σ4 rfl r4, fun _ _ h => (by cases h), fun _ _ h => (by cases h), fun _ _ _ h => (by cases h)⟩
          | rt d =>
            cases w
            exact ⟨fun _ _ h => (by cases h), fun _ _ h => (by cases h), fun _ _ h => (by cases h), (kk θ3 G3 H3 pr3 sm3 rs3).rt, fun _ _ _ h => (by cases h)⟩
          | ex C ρ3 =>
            cases w
            exact ⟨fun _ _ h => (by cases h), fun _ _ h => (by cases h), fun _ _ h => (by cases h), fun _ _ h => (by cases h), (kk θ3 G3 H3 pr3 sm3 rs3).ex⟩
  · left
    have hd : ds.drop i = [] := List.drop_eq_nil_of_le (by omega)
    rw [hd] at w
    cases w
    have hi2 : i = ds.length := by omega
    subst hi2
    exact ⟨hJ.stop θ1 G1 H1 _ pr sa rs1, (kk θ1 G1 H1 pr sa rs1).nx ρ1 σ1 rfl rv1⟩
end
end Bw
namespace Bw
open PySem PySem.Spec PyProof.Rows L2
/-! ### the heap once more -/
theorem Rs.take {K : PySem.W.Frag} {θ : List Th} {G H : Hp} {M : Mem} (r : Rs K θ G H M) (n : Nat) : Rs K (θ.take n) G H (M.take n) := by
  have gt : ∀ (m : Nat) (a : Th), (θ.take n)[m]? = some a → θ[m]? = some a := fun m a h => by
    rw [List.getElem?_take] at h
    split at h
    · exact h
    · cases h
  have gm : ∀ (m : Nat) (c : Option (List D)), (M.take n)[m]? = some c → M[m]? = some c := fun m a h => by
    rw [List.getElem?_take] at h
    split at h
    · exact h
    · cases h
  refine ⟨r.sub, by simp [r.len], r.nd.sublist ((List.take_sublist _ _).map _), fun m a h => r.live m a (gt m a h), fun m a ds h1 h2 => r.mem m a ds (gt m _ h1) (gm m _ h2), fun m a b es h1 h2 => r.dic m a b es (gt m _ h1) (gm m _ h2), fun m a ds h1 h2 => ?_⟩
  obtain ⟨g, xs, hx, rl⟩ := r.nst m a ds (gt m _ h1) (gm m _ h2)
  have hm : m < n := by
    rw [List.getElem?_take] at h1
    split at h1
    · assumption
    · cases h1
  refine ⟨g, xs, hx, ?_⟩
  rw [List.take_take, Nat.min_eq_left (Nat.le_of_lt hm)]; exact rl
theorem Rs.freeze {K : PySem.W.Frag} {θ : List Th} {G H : Hp} {M : Mem} (r : Rs K θ G H M) {n : Nat} {a : Addr} {ds : List D} (h1 : θ[n]? = some (a, .lst)) (h2 : M[n]? = some (some ds)) :
    ∃ G', Same G G' ∧ Rp K G' (.ref a) (.lst ds) ∧ Rs K θ G' H (M.set n none) := by
  obtain ⟨g, xs, hx, rl⟩ := r.mem n a ds h1 h2
  have sm : Same G (upd G a (.lst xs)) := same_upd g
  have old : ∀ (m : Nat) (c : List D), (M.set n none)[m]? = some (some c) → n ≠ m ∧ M[m]? = some (some c) := fun m c e2 => by
    by_cases hm : n = m
    · subst hm
      rw [List.getElem?_set_self'] at e2
      cases q : M[n]? with
      | none => rw [q] at e2; cases e2
      | some z => rw [q] at e2; cases e2
    · rw [List.getElem?_set_ne hm] at e2
      exact ⟨hm, e2⟩
  refine ⟨upd G a (.lst xs), sm, rp_lst upd_same (rl.mono sm), fun b o e => ?_, by simp [r.len], r.nd, r.live, fun m b es e1 e2 => ?_, fun m b z es e1 e2 => ?_, fun m b es e1 e2 => ?_⟩
  · by_cases hb : b = a
    · subst hb; rw [upd_same] at e; cases e; exact hx
    · rw [upd_ne hb] at e; exact r.sub _ _ e
  · obtain ⟨hm, e2⟩ := old m es e2
    obtain ⟨g2, ys, hy, rl2⟩ := r.mem m b es e1 e2
    have hb : b ≠ a := fun z => hm (r.inj h1 e1 z.symm)
    exact ⟨by rw [upd_ne hb]; exact g2, ys, hy, rl2.mono sm⟩
  · obtain ⟨hm, e2⟩ := old m _ e2
    obtain ⟨ys, hy, rl2⟩ := r.dic m b z es e1 e2
    have hb : b ≠ a := fun z => hm (r.inj h1 e1 z.symm)
    exact ⟨ys, hy.keep sm (fun g => by rw [upd_ne hb]; exact g) rfl, rl2.mono sm⟩
  · obtain ⟨hm, e2⟩ := old m es e2
    obtain ⟨g2, ys, hy, rl2⟩ := r.nst m b es e1 e2
    have hb : b ≠ a := fun z => hm (r.inj h1 e1 z.symm)
    exact ⟨by rw [upd_ne hb]; exact g2, ys, hy, rl2.same sm⟩
/-- a numbered thing is changed -/
theorem Rs.putT {K : PySem.W.Frag} {θ : List Th} {G H : Hp} {M : Mem} (r : Rs K θ G H M) {n : Nat} {a : Addr} {k : Kd} {o : HO} {c : Option (List D)} (h1 : θ[n]? = some (a, k)) (g : G a = none)
    (hm : ∀ ds, k = .lst → c = some ds → ∃ xs, o = .lst xs ∧ RpL K G xs ds) (hd : ∀ b es, k = .dic → c = some (enc b es) → b = false ∧ ∃ xs, o = DH a xs ∧ RpE K G xs es) (hn : ∀ ds, k = .nst → c = some ds → ∃ xs, o = .lst xs ∧ RvL K (θ.take n) G xs ds) :
    Rs K θ G (upd H a o) (M.set n c) := by
  have i1 : n < θ.length := (List.getElem?_eq_some_iff.mp h1).1
  have cell : ∀ (m : Nat) (b : Addr) (k2 : Kd) (z : Option (List D)), θ[m]? = some (b, k2) → (M.set n c)[m]? = some z → (n ≠ m ∧ b ≠ a ∧ M[m]? = some z) ∨ (n = m ∧ b = a ∧ k2 = k ∧ c = z) := fun m b k2 z e1 e2 => by
    by_cases hm : n = m
    · subst hm
      rw [h1] at e1
      injection e1 with e1
      injection e1 with e1 e3
      rw [List.getElem?_set_self (by rw [← r.len]; exact i1)] at e2
      exact .inr ⟨rfl, e1.symm, e3.symm, Option.some.inj e2⟩
    · rw [List.getElem?_set_ne hm] at e2
      exact .inl ⟨hm, fun z => hm (r.inj h1 e1 z.symm), e2⟩
  refine ⟨fun b o e => ?_, by simp [r.len], r.nd, fun m b h => live_upd (r.live m b h), fun m b es e1 e2 => ?_, fun m b z es e1 e2 => ?_, fun m b es e1 e2 => ?_⟩
  · have hb : b ≠ a := ne_of_none e g
    rw [upd_ne hb]; exact r.sub _ _ e
  · rcases cell m b _ _ e1 e2 with ⟨_, hb, e2⟩ | ⟨_, hb, hk, e2⟩
    · obtain ⟨g2, ys, hy, rl2⟩ := r.mem m b es e1 e2
      exact ⟨g2, ys, by rw [upd_ne hb]; exact hy, rl2⟩
    · subst hb
      obtain ⟨xs, e3, rl⟩ := hm es hk.symm e2
      exact ⟨g, xs, by rw [upd_same, e3], rl⟩
  · rcases cell m b _ _ e1 e2 with ⟨_, hb, e2⟩ | ⟨_, hb, hk, e2⟩
    · obtain ⟨ys, hy, rl2⟩ := r.dic m b z es e1 e2
      exact ⟨ys, hy.keep (Same.refl _) (fun g => g) (upd_ne hb), rl2⟩
    · subst hb
      obtain ⟨e4, xs, e3, rl⟩ := hd z es hk.symm e2
      subst e4
      exact ⟨xs, ⟨g, by rw [upd_same, e3]⟩, rl⟩
  · rcases cell m b _ _ e1 e2 with ⟨_, hb, e2⟩ | ⟨hm', hb, hk, e5⟩
    · obtain ⟨g2, ys, hy, rl2⟩ := r.nst m b es e1 e2
      exact ⟨g2, ys, by rw [upd_ne hb]; exact hy, rl2⟩
    · subst hb; subst hm'
      obtain ⟨xs, e3, rl⟩ := hn es hk.symm e5
      exact ⟨g, xs, by rw [upd_same, e3], rl⟩
/-- a mutable list is changed -/
theorem Rs.put {K : PySem.W.Frag} {θ : List Th} {G H : Hp} {M : Mem} (r : Rs K θ G H M) {n : Nat} {a : Addr} {ds : List D} {xs : List V} (h1 : θ[n]? = some (a, .lst)) (g : G a = none) (rl : RpL K G xs ds) :
    Rs K θ G (upd H a (.lst xs)) (M.set n (some ds)) := r.putT h1 g (fun es _ e => ⟨xs, rfl, by cases e; exact rl⟩) (fun b es e _ => by cases e) fun ds e _ => by cases e
theorem pre_take {θ θ' : List Th} (p : θ <+: θ') {n : Nat} (h : θ.length ≤ n) : θ <+: θ'.take n := by
  obtain ⟨r, rfl⟩ := p
  rw [List.take_append]
  rw [List.take_of_length_le h]
  exact List.prefix_append _ _
section
variable {X : Cx} {W : WN} {pos : Pos} {K : PySem.W.Frag}
/-! ### what a for walks -/
def oRng1 (ds : List D) : Ev (List D) := match ds with
  | [.int j] => if -(2 ^ 62) ≤ j ∧ j < 2 ^ 62 then ret ((List.range j.toNat).map fun (i : Nat) => D.int (i : Int)) else stk
  | _ => stk
theorem ri_range {θ : List Th} {G : Hp} {n : Nat} : RI K θ G (Itr 0 n) ((List.range n).map fun (i : Nat) => D.int (i : Int)) := by
  refine ⟨fun i θ G H M _ _ _ h => by simpa [Itr] using h, fun θ G H M _ _ _ => by simp [Itr], fun i d θ G H M x H' _ _ rs h y => ?_⟩
  obtain ⟨rfl, rfl⟩ := y
  refine ⟨G, Same.refl _, rs, ?_⟩
  rw [List.getElem?_map] at h
  have hi : i < n := by
    rcases Nat.lt_or_ge i n with q | q
    · exact q
    · rw [List.getElem?_eq_none (by simpa using q)] at h; cases h
  rw [List.getElem?_range hi] at h
  cases h
  rw [Int.zero_add]
  exact .dat (.int _)
theorem di_range1 {tg : Expr} {a : Expr} {p : Pos} {h : Ev (List D)} (hm : X.mg "range" = none) (ha : DA X W [a] h) (hg : Gl X "range" := by rfl) (hs : starEach [a] X.env = [(false, eval a X.env)] := by rfl) : DI X W tg (.Call (.Name "range" p) [a] [] pos) (bnd h oRng1) := by
  obtain ⟨t, q, s⟩ := ha
  refine ⟨_, pi_range1 hg hm q hs, fun θ G => (s θ G).bind (R2 := RI X.K) (k := fun (vs : List V) (_ : L2.St) (H1 : Hp) (R : It → Hp → Prop) => ∃ j : Int, vs = [.int j] ∧ -(2 ^ 62) ≤ j ∧ j < 2 ^ 62 ∧ R (Itr 0 j.toNat) H1) fun θ1 G1 v d _ _ hv => ?_⟩
  unfold oRng1
  split
  · rename_i j
    split
    · rename_i hj
      obtain ⟨u, rfl, hu⟩ := vals1 hv
      rw [hu.int_of]
      intro ρ M r M' θ2 G2 σ H Q p s e rs rv kk
      exact ⟨j, rfl, hj.1, hj.2, Snd.ret (K := X.K) (W := W) (R := RI X.K) (θ0 := θ1) (G0 := G1) (fun _ _ _ _ => ri_range) ρ M r M' θ2 G2 σ H Q p s e rs rv kk⟩
    · exact Snd.stk
  · exact Snd.stk
def oItL (d : D) : Ev (List D) := match d with
  | .lst ds => ret ds
  | _ => stk
def oItT (d : D) : Ev (List D) := match d with
  | .tup ds => ret ds
  | _ => stk
theorem ri_list {θ : List Th} {G : Hp} {a : Addr} {xs : List V} {ds : List D} (h : SqL K G a xs) (r : RpL K G xs ds) : RI K θ G (Itl K a) ds := by
  refine ⟨fun i θ1 G1 H M _ s rs hi => ?_, fun θ1 G1 H M _ s rs => ?_, fun i d θ1 G1 H M x H' _ s rs hd y => ?_⟩
  · obtain ⟨v, hv, _⟩ := r.at (List.getElem?_eq_getElem hi)
    exact ⟨xs, v, rs.sub.seq (s.seq h), hv⟩
  · exact ⟨xs, rs.sub.seq (s.seq h), by rw [r.len]; exact Nat.le_refl _⟩
  · obtain ⟨rfl, y⟩ := y
    have := y xs (rs.sub.seq (s.seq h))
    exact ⟨G1, Same.refl _, rs, .dat ((r.get i x d this hd).mono s)⟩
theorem ri_tup {θ : List Th} {G : Hp} {a : Addr} {xs : List V} {ds : List D} (h : SqT K G a xs) (r : RpL K G xs ds) : RI K θ G (Itt K a) ds := by
  refine ⟨fun i θ1 G1 H M _ s rs hi => ?_, fun θ1 G1 H M _ s rs => ?_, fun i d θ1 G1 H M x H' _ s rs hd y => ?_⟩
  · obtain ⟨v, hv, _⟩ := r.at (List.getElem?_eq_getElem hi)
    exact ⟨xs, v, seqT rs.sub (seqT s h), hv⟩
  · exact ⟨xs, seqT rs.sub (seqT s h), by rw [r.len]; exact Nat.le_refl _⟩
  · obtain ⟨rfl, y⟩ := y
    have := y xs (seqT rs.sub (seqT s h))
    exact ⟨G1, Same.refl _, rs, .dat ((r.get i x d this hd).mono s)⟩
theorem RI.mono {θ0 θ1 : List Th} {G0 G1 : Hp} {J : It} {ds : List D} (h : RI K θ0 G0 J ds) (p : θ0 <+: θ1) (s : Same G0 G1) : RI K θ1 G1 J ds :=
  ⟨fun i θ G H M p1 s1 => h.go i θ G H M (p.trans p1) (s.trans s1), fun θ G H M p1 s1 => h.stop θ G H M (p.trans p1) (s.trans s1), fun i d θ G H M x H' p1 s1 => h.yld i d θ G H M x H' (p.trans p1) (s.trans s1)⟩
theorem di_list {tg e : Expr} {f : Ev D} (h : DE X W e f) : DI X W tg e (bnd f oItL) := by
  obtain ⟨t, q, s⟩ := h
  refine ⟨_, pi_list q, fun θ G => (s θ G).bind (R2 := RI X.K) (k := fun (x : V) (_ : L2.St) (H1 : Hp) (R : It → Hp → Prop) => ∃ a, x = .ref a ∧ (∃ xs, SqL X.K H1 a xs) ∧ R (Itl X.K a) H1) fun θ1 G1 v d _ _ hv => ?_⟩
  unfold oItL
  split
  · rename_i ds
    cases hv with
    | dat hv =>
      cases hv with
      | lst hq l g =>
        rename_i a xs
        intro ρ M r M' θ2 G2 σ H Q p s e rs rv kk
        exact ⟨a, rfl, ⟨xs, .inl (.inl (rs.sub _ _ (s _ _ hq)))⟩, Snd.ret (K := X.K) (W := W) (R := RI X.K) (θ0 := θ1) (G0 := G1) (fun _ _ p s => (ri_list (.inl (.inl hq)) ⟨l, g⟩).mono p s) ρ M r M' θ2 G2 σ H Q p s e rs rv kk⟩
  · exact Snd.stk
/-! ### x[i] = e -/
def sStore (f fo fi : Ev D) : Sv := thenS f fun d => thenS fo fun o => thenS fi fun i => fun ρ M => match o, i with
  | .ptr n, .int k => match M[n]? with
    | some (some ds) => match ixN ds.length k with
      | some j => if d.np = true then some (.nx ρ, M.set n (some (ds.set j d))) else none
      | none => none
    | _ => none
  | _, _ => none
theorem snd_then' {A α : Type} {R : List Th → Hp → A → α → Prop} {t : L2.St → Hp → (A → Hp → Prop) → Prop} {f : Ev α} {k : A → TS} {g : α → Sv} {θ0 : List Th} {G0 : Hp} (h : ∀ θ G, Snd K W R θ G t f)
    (h2 : ∀ θ G v d, θ0 <+: θ → Same G0 G → R θ G v d → ∀ (ρ : Env) (M : Mem) (o : Out) (M' : Mem) (σ : L2.St) (H : Hp) (Dn : Ends), g d ρ M = some (o, M') → Rs K θ G H M → Rσ K θ G σ ρ →
      (∀ (θ' : List Th) (G' H' : Hp), θ <+: θ' → Same G G' → Rs K θ' G' H' M' → Cont K W Dn o θ' G' H') → k v Dn σ H) :
    ∀ (ρ : Env) (M : Mem) (o : Out) (M' : Mem) (θ : List Th) (G : Hp) (σ : L2.St) (H : Hp) (Dn : Ends), θ0 <+: θ → Same G0 G → thenS f g ρ M = some (o, M') → Rs K θ G H M → Rσ K θ G σ ρ →
      (∀ (θ' : List Th) (G' H' : Hp), θ <+: θ' → Same G G' → Rs K θ' G' H' M' → Cont K W Dn o θ' G' H') → t σ H fun v H1 => k v Dn σ H1 := by
  intro ρ M o M' θ G σ H Dn p0 s0 e rs rv kk
  unfold thenS at e
  cases q : f ρ M with
  | none => rw [q] at e; cases e
  | some z =>
    obtain ⟨r1, M1⟩ := z
    rw [q] at e
    refine h θ G ρ M r1 M1 θ G σ H _ (List.prefix_refl _) (Same.refl _) q rs rv fun θ' G' H' p' s' rs' => ?_
    cases r1 with
    | exc C =>
      simp at e
      obtain ⟨e1, e2⟩ := e
      subst e1; subst e2
      exact ⟨fun C' h => by cases h; exact (kk θ' G' H' p' s' rs').ex C ρ σ rfl (rv.mono p' s'), fun d v h => (by cases h)⟩
    | ok a =>
      refine ⟨fun C' h => (by cases h), fun d v h rel => ?_⟩
      cases h
      exact h2 θ' G' v a (p0.trans p') (s0.trans s') rel ρ M1 o M' σ H' Dn e rs' (rv.mono p' s') fun θ2 G2 H2 p2 s2 rs2 => kk θ2 G2 H2 (p'.trans p2) (s'.trans s2) rs2
theorem ds_store {o i e : Expr} {f fo fi : Ev D} {spos : Pos} (he : DE X W e f) (ho : DE X W o fo) (hi : DE X W i fi)
    (ha : ∀ v, assign (.Subscript o i pos) X.env v = (do
      let ov ← holding [v] (eval o X.env)
      let iv ← holding [v, ov] (eval i X.env)
      standAt pos
      holding [v, ov, iv] (setItem ov iv v)
      release [v, ov, iv] []) := by intro _; rfl)
    (hs : swapsWithSole [.Subscript o i pos] e spos.line X.env = pure false := by rfl) (hw : swappedStores [.Subscript o i pos] e X.env = pure none := by rfl)
    (h1 : (assignEach [.Subscript o i pos] X.env).map (·.2) = [assign (.Subscript o i pos) X.env] := by rfl) : DS X W (.Assign [.Subscript o i pos] e spos) (sStore f fo fi) := by
  obtain ⟨t, p, s⟩ := he
  obtain ⟨to, po, so⟩ := ho
  obtain ⟨ti, pi, si⟩ := hi
  refine ⟨_, ps_asg p (pg_sub po pi set_list ha) hs hw h1, ?_⟩
  unfold sStore
  refine snd_then (k := fun v (Dn : Ends) σ H1 => to σ H1 fun o H1 => ti σ H1 fun i H2 => rSetL o i v H2 fun H3 => Dn.nx σ H3) s fun θ G v d hv ρ M o M' σ H Dn e rs rv kk => ?_
  refine snd_then' (θ0 := θ) (G0 := G) (k := fun o (Dn : Ends) σ H1 => ti σ H1 fun i H2 => rSetL o i v H2 fun H3 => Dn.nx σ H3) so (fun θ1 G1 vo do' p1 s1 hvo ρ M o M' σ H Dn e rs rv kk => ?_) ρ M o M' θ G σ H Dn (List.prefix_refl _) (Same.refl _) e rs rv kk
  refine snd_then' (θ0 := θ1) (G0 := G1) (k := fun i (Dn : Ends) σ H2 => rSetL vo i v H2 fun H3 => Dn.nx σ H3) si (fun θ2 G2 vi di p2 s2 hvi ρ M o M' σ H Dn e rs rv kk => ?_) ρ M o M' θ1 G1 σ H Dn (List.prefix_refl _) (Same.refl _) e rs rv kk
  split at e
  · rename_i n k hyp
    split at e
    · rename_i ds hm
      split at e
      · rename_i j hj
        split at e
        · rename_i hnp
          simp at e
          obtain ⟨e1, e2⟩ := e
          subst e1; subst e2
          have hvi' := hvi.int_of
          subst hvi'
          cases hvo with
          | dat hvo => cases hvo
          | ptr hn =>
            have hn2 := pre_get p2 hn
            obtain ⟨g, xs, hx, rl⟩ := rs.mem n _ ds hn2 hm
            refine ⟨_, xs, k, j, rfl, rfl, hx, by rw [rl.len]; exact hj, ?_⟩
            have rd := (hv.rp hnp).mono (s1.trans s2)
            exact (kk θ2 G2 _ (List.prefix_refl _) (Same.refl _) (rs.put hn2 g (rl.set (j := j) rd))).nx ρ σ rfl rv
        · cases e
      · cases e
    · cases e
  · cases e
/-! ### x.append(e) -/
def oApp (o d : D) : Ev D := fun ρ M => match o with
  | .ptr n => match M[n]? with
    | some (some ds) => if d.np = true ∧ ds.length < 16777216 then some (.ok .non, M.set n (some (ds ++ [d]))) else none
    | _ => none
  | _ => none
def okPtr (o : D) : Ev D := fun ρ M => match o with
  | .ptr n => match M[n]? with
    | some (some _) => some (.ok o, M)
    | _ => none
  | _ => none
/-! ### comprehensions -/
def wipeD (ρ : Env) : List Nat → Env
  | [] => ρ
  | v :: vs => (wipeD ρ vs).set v none
theorem rσ_none {θ : List Th} {G : Hp} {σ : L2.St} {ρ : Env} (r : Rσ K θ G σ ρ) (i : Nat) : Rσ K θ G (σ.set i none) (ρ.set i none) := by
  refine ⟨by simp [r.len], fun j d h => ?_⟩
  by_cases hij : i = j
  · subst hij
    rw [List.getElem?_set_self'] at h
    cases q : ρ[i]? with
    | none => rw [q] at h; cases h
    | some z => rw [q] at h; simp at h
  · rw [List.getElem?_set_ne hij] at h ⊢
    exact r.get j d h
theorem rσ_wipe {θ : List Th} {G : Hp} {σ : L2.St} {ρ : Env} (r : Rσ K θ G σ ρ) : ∀ vs : List Nat, Rσ K θ G (wipe σ vs) (wipeD ρ vs)
  | [] => r
  | v :: vs => rσ_none (rσ_wipe r vs) v
theorem wipe_wipe {σ : L2.St} : ∀ {vs : List Nat}, (∀ us : List Nat, (∀ i ∈ vs, i ∈ us) → wipe (wipe σ vs) us = wipe σ us)
  | [] => fun us h => rfl
  | v :: vs => fun us h => by
    show wipe ((wipe σ vs).set v none) us = wipe σ us
    rw [wipe_set, if_pos (h v (by simp))]
    exact wipe_wipe us fun i hi => h i (by simp [hi])
def lcGo (b : Tg) (tt : Ev Bool) (te : Ev D) (n0 : Nat) (ρw : Env) : List D → Mem → Option Mem
  | [], M => some M
  | d :: ds, M => match b d ρw with
    | none => none
    | some ρ1 => match tt ρ1 M with
      | some (.ok true, M1) => match te ρ1 M1 with
        | some (.ok y, M2) => match M2[n0]? with
          | some (some acc) => if y.np = true ∧ acc.length < 16777216 then lcGo b tt te n0 ρw ds (M2.set n0 (some (acc ++ [y]))) else none
          | _ => none
        | _ => none
      | some (.ok false, M1) => lcGo b tt te n0 ρw ds M1
      | _ => none
def lcEnd (n0 : Nat) (M' : Mem) : Option (Res D × Mem) := match M'[n0]? with
  | some (some acc) => some (.ok (.lst acc), if M'.length = n0 + 1 then M'.take n0 else M'.set n0 none)
  | _ => none
def oLc (b : Tg) (tt : Ev Bool) (te : Ev D) (vs : List Nat) (ds : List D) : Ev D := fun ρ M => match lcGo b tt te M.length (wipeD ρ vs) ds (M ++ [some []]) with
  | some M' => lcEnd M.length M'
  | none => none
def W0 : WN := fun _ _ _ => False
theorem snd_lc {wi : TI} {g : TG} {tt : TT} {te : TE} {vs : List Nat} {h : Ev (List D)} {b : Tg} {ft : Ev Bool} {fe : Ev D} {sl : List Nat} (hsl : ∀ i ∈ sl, i ∈ vs) (s : ∀ θ G, Snd K W (RI K) θ G wi h) (sg : SndG K g b sl) (st : ∀ θ G, Snd K W0 RB θ G tt ft) (se : ∀ θ G, Snd K W0 (RV K) θ G te fe) (θ : List Th) (G : Hp) :
    Snd K W (RV K) θ G (tLc wi g tt te vs) (bnd h (oLc b ft fe vs)) := by
  refine (s θ G).bind (R2 := RV K) (k := fun (J : It) (σ : L2.St) (H1 : Hp) (Q : V → Hp → Prop) => ∀ D, H1 D = none → ∃ W : Nat → Nat → Hp → Prop, (∃ m, W 0 m (upd H1 D (.lst []))) ∧ ∀ i m H, W i m H →
    (J.stop i H ∧ Q (.ref D) H) ∨ (J.go i H ∧ ∃ Nx : Hp → Prop, (∀ H', Nx H' → ∃ m', m' < m ∧ W (i + 1) m' H') ∧ ∀ x H', J.yld i H x H' → g x (wipe σ vs) H' fun σ2 H2 => wipe σ2 vs = wipe σ vs ∧ tt σ2 H2 fun b H3 =>
      if b = true then te σ2 H3 fun y H4 => ∃ acc, H4 D = some (.lst acc) ∧ acc.length < sizeLine ∧ Nx (upd H4 D (.lst (acc ++ [y]))) else Nx H3)) fun θ1 G1 J ds _ _ hJ => ?_
  intro ρ M r M' θ2 G2 σ H Q p2 s2 e rs rv kk a ha
  unfold oLc at e
  cases q : lcGo b ft fe M.length (wipeD ρ vs) ds (M ++ [some []]) with
  | none => rw [q] at e; cases e
  | some Me =>
    rw [q] at e
    have rs0 : Rs K (θ2 ++ [(a, Kd.lst)]) G2 (upd H a (.lst [])) (M ++ [some []]) := rs.laidM ha RpL.nil
    have hN0 : (θ2 ++ [(a, Kd.lst)])[M.length]? = some (a, Kd.lst) := by
      rw [← rs.len, List.getElem?_append_right (Nat.le_refl _), Nat.sub_self]; rfl
    refine ⟨fun i m H3 => ∃ M3 θ3 G3, m + i = ds.length ∧ (θ2 ++ [(a, Kd.lst)]) <+: θ3 ∧ Same G2 G3 ∧ Rs K θ3 G3 H3 M3 ∧ lcGo b ft fe M.length (wipeD ρ vs) (ds.drop i) M3 = some Me, ⟨ds.length, _, _, G2, rfl, List.prefix_refl _, Same.refl _, rs0, q⟩, ?_⟩
    rintro i m H3 ⟨M3, θ3, G3, hm, p3, s3, rs3, w⟩
    have p23 : θ2 <+: θ3 := (List.prefix_append _ _).trans p3
    by_cases hi : i < ds.length
    · right
      have hd : ds.drop i = ds[i] :: ds.drop (i + 1) := List.drop_eq_getElem_cons hi
      rw [hd] at w
      unfold lcGo at w
      refine ⟨hJ.go i θ3 G3 H3 M3 (p2.trans p23) (s2.trans s3) rs3 hi, fun H4 => ∃ M4 θ4 G4, (θ2 ++ [(a, Kd.lst)]) <+: θ4 ∧ Same G2 G4 ∧ Rs K θ4 G4 H4 M4 ∧ lcGo b ft fe M.length (wipeD ρ vs) (ds.drop (i + 1)) M4 = some Me, fun H4 hN => ?_, fun x H4 hy => ?_⟩
      · obtain ⟨M4, θ4, G4, a1, a2, a3, a4⟩ := hN
        exact ⟨m - 1, by omega, M4, θ4, G4, by omega, a1, a2, a3, a4⟩
      · obtain ⟨G4, s4, rs4, rx⟩ := hJ.yld i ds[i] θ3 G3 H3 M3 x H4 (p2.trans p23) (s2.trans s3) rs3 (List.getElem?_eq_getElem hi) hy
        cases qb : b ds[i] (wipeD ρ vs) with
        | none => rw [qb] at w; cases w
        | some ρ1 =>
          rw [qb] at w
          dsimp only at w
          refine sg ds[i] (wipeD ρ vs) ρ1 θ3 G4 (wipe σ vs) H4 M3 _ x qb rs4 (rσ_wipe (rv.mono p23 (s3.trans s4)) vs) rx fun σ5 r5 w5 => ?_
          refine ⟨by rw [w5 vs hsl]; exact wipe_wipe vs fun i hi => hi, ?_⟩
          cases qt : ft ρ1 M3 with
          | none => rw [qt] at w; cases w
          | some zt =>
            obtain ⟨rt, M5⟩ := zt
            rw [qt] at w
            refine st θ3 G4 ρ1 M3 rt M5 θ3 G4 σ5 H4 _ (List.prefix_refl _) (Same.refl _) qt rs4 r5 fun θ6 G6 H6 p6 s6 rs6 => ?_
            cases rt with
            | exc C => cases w
            | ok c =>
              refine ⟨fun C h => (by cases h), fun d v hd hv => ?_⟩
              cases hd
              cases hv
              cases c with
              | false =>
                rw [if_neg Bool.false_ne_true]
                exact ⟨M5, θ6, G6, p3.trans p6, (s3.trans s4).trans s6, rs6, w⟩
              | true =>
                rw [if_pos rfl]
                dsimp only at w
                cases qe : fe ρ1 M5 with
                | none => rw [qe] at w; cases w
                | some ze =>
                  obtain ⟨re, M7⟩ := ze
                  rw [qe] at w
                  refine se θ6 G6 ρ1 M5 re M7 θ6 G6 σ5 H6 _ (List.prefix_refl _) (Same.refl _) qe rs6 (r5.mono p6 s6) fun θ8 G8 H8 p8 s8 rs8 => ?_
                  cases re with
                  | exc C => cases w
                  | ok y =>
                    refine ⟨fun C h => (by cases h), fun d v hd hv => ?_⟩
                    cases hd
                    dsimp only at w
                    split at w
                    · rename_i acc hacc
                      split at w
                      · rename_i hc
                        have h8 : θ8[M.length]? = some (a, Kd.lst) := pre_get ((p3.trans p6).trans p8) hN0
                        obtain ⟨g8, xs, hx, rl⟩ := rs8.mem _ _ _ h8 hacc
                        refine ⟨xs, hx, by rw [rl.len, sizeLine_eq]; exact hc.2, _, θ8, G8, (p3.trans p6).trans p8, ((s3.trans s4).trans s6).trans s8, rs8.put h8 g8 (rl.append (RpL.cons (hv.rp hc.1) RpL.nil)), w⟩
                      · cases w
                    · cases w
    · left
      have hd : ds.drop i = [] := List.drop_eq_nil_of_le (by omega)
      rw [hd] at w
      unfold lcGo at w
      cases w
      have hi2 : i = ds.length := by omega
      subst hi2
      refine ⟨hJ.stop θ3 G3 H3 _ (p2.trans p23) (s2.trans s3) rs3, ?_⟩
      unfold lcEnd at e
      dsimp only at e
      split at e
      · rename_i acc hacc
        simp at e
        obtain ⟨e1, e2⟩ := e
        subst e1
        have h3 : θ3[M.length]? = some (a, Kd.lst) := pre_get p3 hN0
        obtain ⟨G9, s9, rp9, rs9⟩ := rs3.freeze h3 hacc
        split at e2
        · rename_i hl
          subst e2
          have rs10 := rs9.take M.length
          rw [List.take_set_of_le (Nat.le_refl _)] at rs10
          exact (kk (θ3.take M.length) G9 H3 (pre_take p23 (by rw [rs.len]; exact Nat.le_refl _)) (s3.trans s9) rs10).2 _ _ rfl (.dat rp9)
        · subst e2
          exact (kk θ3 G9 H3 p23 (s3.trans s9) rs9).2 _ _ rfl (.dat rp9)
      · cases e
end
end Bw
namespace Bw
open PySem PySem.Spec PyProof.Rows L2
/-! ### xs.count(True) -/
def eqkB (k : Bool) (v : Value) : Bool := match v with
  | .bool n => n == k
  | _ => false
section
variable {X : Cx} {W : WN} {pos : Pos} {K : PySem.W.Frag}
def rCntB (K : PySem.W.Frag) : V → List V → Hp → VK → Prop := fun x xs H Q => ∃ (p : Addr) (ns : List Bool) (k : Bool), x = .ref p ∧ xs = [.bl k] ∧ SqL K H p (ns.map V.bl) ∧ Q (.int (ns.count k : Nat)) H
def blsOf : List D → Option (List Bool)
  | [] => some []
  | .bl b :: r => (blsOf r).map (b :: ·)
  | _ => none
def oCntB (d : D) (es : List D) : Ev D := match d, es with
  | .lst ds, [.bl k] => match blsOf ds with
    | some ns => ret (.int (ns.count k : Nat))
    | none => stk
  | _, _ => stk
theorem rpl_bls {G : Hp} : ∀ {ds : List D} {xs : List V} {ns : List Bool}, blsOf ds = some ns → RpL K G xs ds → xs = ns.map V.bl
  | [], xs, ns, h, r => by cases h; rw [r.nil_of]; rfl
  | d :: ds, xs, ns, h, r => by
    cases d with
    | bl b =>
      simp only [blsOf] at h
      cases q : blsOf ds with
      | none => rw [q] at h; cases h
      | some ms =>
        rw [q] at h
        cases h
        obtain ⟨v, ys, rfl, hv, rs⟩ := r.uncons
        rw [rpl_bls q rs]
        cases hv; rfl
    | _ => cases h
/-- xs.append(e) -/
theorem de_append {o e : Expr} {apos : Pos} {f fe : Ev D} (ho : DE X W o f) (ha : DE X W e fe)
    (hbase : attributeBase o "append" X.env (eval o X.env) = eval o X.env := by rfl)
    (hfew : ((backTo pos (starEach [e] X.env)).all (fun x => !x.1) && (backToKw pos (keywordEach [] X.env)).all (fun x => x.1.isSome)
      && decide ([e].length + ([] : List Keyword).length + (if ([] : List Keyword).isEmpty then 0 else 1) < 30)) = true := by rfl)
    (hline : (apos.endLine == pos.line) = true := by rfl) (hs : starEach [e] X.env = (false, eval e X.env) :: starEach [] X.env := by rfl) (hplain : (backTo pos (starEach [] X.env)).any (·.1) = false := by rfl) :
    DE X W (.Call (.Attribute o "append" apos) [e] [] pos) (bnd f fun d => bnd (okPtr d) fun d => bnd fe fun y => oApp d y) := by
  obtain ⟨to, po, so⟩ := ho
  obtain ⟨t, p, s⟩ := ha
  refine ⟨_, pe_bm PySem.F.plainAttrs_list PySem.F.slot_list_append PySem.F.type_list_append mt_append po (pa_cons p pa_nil hs) hbase hfew hline hs hplain, fun θ G => ?_⟩
  refine (so θ G).bind (R2 := RV X.K) (k := fun (x : V) (σ : L2.St) (H1 : Hp) (Q : V → Hp → Prop) => tyV X.K "list" x H1 ∧ (tCons t tNil) σ H1 fun xs H2 => rAppend x xs H2 Q) fun θ1 G1 v d _ _ hv => ?_
  intro ρ M r M' θ2 G2 σ H Q p2 s1 e rs rv kk
  unfold bnd at e
  unfold okPtr at e
  cases hv with
  | dat hv => cases hv <;> cases e
  | exv _ _ => cases e
  | dpt _ => cases e
  | npt _ => cases e
  | ptr hn =>
    rename_i n a
    dsimp only at e
    cases q : M[n]? with
    | none => rw [q] at e; cases e
    | some z =>
      cases z with
      | none => rw [q] at e; cases e
      | some ds0 =>
        rw [q] at e
        dsimp only at e
        obtain ⟨g0, xs0, hx0, rl0⟩ := rs.mem n a ds0 (pre_get p2 hn) q
        refine ⟨.inl ⟨rfl, xs0, .inl (.inl hx0)⟩, ?_⟩
        show t σ H fun x H1 => rAppend (.ref a) [x] H1 Q
        cases qe : fe ρ M with
        | none => rw [qe] at e; cases e
        | some ze =>
          obtain ⟨re, M3⟩ := ze
          rw [qe] at e
          refine s θ2 G2 ρ M re M3 θ2 G2 σ H _ (List.prefix_refl _) (Same.refl _) qe rs rv fun θ4 G4 H4 p4 s4 rs4 => ?_
          cases re with
          | exc C =>
            dsimp only at e
            simp at e
            obtain ⟨e1, e2⟩ := e
            subst e1; subst e2
            exact ⟨fun C' h => (kk θ4 G4 H4 p4 s4 rs4).1 C' (by cases h; rfl), fun d v h => (by cases h)⟩
          | ok y =>
            refine ⟨fun C h => (by cases h), fun d v hd hv => ?_⟩
            cases hd
            unfold oApp at e
            dsimp only at e
            split at e
            · rename_i ds hds
              split at e
              · rename_i hc
                simp at e
                obtain ⟨e1, e2⟩ := e
                subst e1; subst e2
                have h4 := pre_get (p2.trans p4) hn
                obtain ⟨g, xs, hx, rl⟩ := rs4.mem n a ds h4 hds
                exact ⟨a, xs, v, rfl, rfl, hx, by rw [rl.len, sizeLine_eq]; exact hc.2, (kk θ4 G4 _ p4 s4 (rs4.put h4 g (rl.append (RpL.cons (hv.rp hc.1) RpL.nil)))).2 _ _ rfl (.dat .non)⟩
              · cases e
            · cases e
/-! ### comprehension rules -/
def DTs (X : Cx) (W : WN) (es : List Expr) (f : Ev Bool) : Prop := ∃ t, PTs X es t ∧ ∀ θ G, Snd X.K W RB θ G t f
theorem dts_nil : DTs X W [] (ret true) := ⟨_, pts_nil, fun _ _ => snd_b⟩
/-- the reading of what is given -/
def tOf (K : PySem.W.Frag) (W : WN) {A α : Type} (R : List Th → Hp → A → α → Prop) (f : Ev α) : L2.St → Hp → (A → Hp → Prop) → Prop := fun σ H Q => ∃ (ρ : Env) (M : Mem) (r : Res α) (M' : Mem) (θ : List Th) (G : Hp), f ρ M = some (r, M') ∧ Rs K θ G H M ∧ Rσ K θ G σ ρ ∧
  ∀ (θ' : List Th) (G' H' : Hp), θ <+: θ' → Same G G' → Rs K θ' G' H' M' → (∀ C, r = .exc C → W C σ H') ∧ (∀ d v, r = .ok d → R θ' G' v d → Q v H')
theorem snd_of {A α : Type} {R : List Th → Hp → A → α → Prop} {f : Ev α} (θ : List Th) (G : Hp) : Snd K W R θ G (tOf K W R f) f :=
  fun ρ M r M' θ1 G1 σ H Q _ _ e rs rv kk => ⟨ρ, M, r, M', θ1, G1, e, rs, rv, kk⟩
theorem Snd.can {A α : Type} {R : List Th → Hp → A → α → Prop} {f : Ev α} {t : L2.St → Hp → (A → Hp → Prop) → Prop} (s : ∀ θ G, Snd K W R θ G t f) {σ : L2.St} {H : Hp} {Q : A → Hp → Prop} (h : tOf K W R f σ H Q) : t σ H Q := by
  obtain ⟨ρ, M, r, M', θ, G, e, rs, rv, kk⟩ := h
  exact s θ G ρ M r M' θ G σ H Q (List.prefix_refl _) (Same.refl _) e rs rv kk
theorem DE.can {e : Expr} {f : Ev D} (h : DE X W e f) : PE X e (tOf X.K W (RV X.K) f) := by
  obtain ⟨t, p, s⟩ := h
  exact ⟨fun pins s1 σ H Q I q => p.run pins s1 σ H Q I (Snd.can s q)⟩
theorem DTs.can {es : List Expr} {f : Ev Bool} (h : DTs X W es f) : PTs X es (tOf X.K W RB f) := by
  obtain ⟨t, p, s⟩ := h
  exact ⟨fun pins s1 σ H Q I q => p.run pins s1 σ H Q I (Snd.can s q)⟩
def gOf (K : PySem.W.Frag) (b : Tg) (sl : List Nat) : TG := fun v σ H Q => ∃ (d : D) (ρ ρ' : Env) (θ : List Th) (G : Hp) (M : Mem), b d ρ = some ρ' ∧ Rs K θ G H M ∧ Rσ K θ G σ ρ ∧ Rv K θ G v d ∧ ∀ σ', Rσ K θ G σ' ρ' → Wr sl σ σ' → Q σ' H
theorem sndG_of {b : Tg} {sl : List Nat} : SndG K (gOf K b sl) b sl := fun d ρ ρ' θ G σ H M Q v e rs rv hv k => ⟨d, ρ, ρ', θ, G, M, e, rs, rv, hv, k⟩
theorem DG.can {tg : Expr} {b : Tg} {sl : List Nat} (h : DG X tg b sl) : PG X tg (gOf X.K b sl) := by
  obtain ⟨t, p, s⟩ := h
  refine ⟨fun pins s1 σ H v u Q I r q => p.run pins s1 σ H v u Q I r ?_⟩
  obtain ⟨d, ρ, ρ', θ, G, M, e, rs, rv, hv, k⟩ := q
  exact s d ρ ρ' θ G σ H M Q v e rs rv hv k
theorem de_lc {elt tg iter : Expr} {ifs : List Expr} {scope : Scope} (own : List (Str × Nat)) {h : Ev (List D)} {b : Tg} {ft : Ev Bool} {fe : Ev D} {sl : List Nat} (hN : X.N.Nodup) (ok : BlkOk X.N X.env.scope scope own) (hi : DI X W tg iter h)
    (hg : ∀ (s : Shared) (H : Hp) (C : Addr) (cl : List (Str × Addr)) (fp : List Addr), DG (X.blk s H scope (compEnvC scope cl C X.env) fp) tg b sl)
    (ht : ∀ (s : Shared) (H : Hp) (C : Addr) (cl : List (Str × Addr)) (fp : List Addr), DTs (X.blk s H scope (compEnvC scope cl C X.env) fp) W0 ifs ft)
    (he : ∀ (s : Shared) (H : Hp) (C : Addr) (cl : List (Str × Addr)) (fp : List Addr), DE (X.blk s H scope (compEnvC scope cl C X.env) fp) W0 elt fe)
    (hsl : ∀ i ∈ sl, i ∈ own.map (·.2) := by decide)
    (hc : X.calm = true := by rfl) (hs : ∀ x, foldedSetIterable iter X.env x = pure x := by intro _; rfl) : DE X W (.ListComp elt [⟨tg, iter, ifs, 0⟩] scope pos) (bnd h (oLc b ft fe (own.map (·.2)))) := by
  obtain ⟨wi, pi, si⟩ := hi
  exact ⟨_, pe_lc (g := gOf X.K b sl) (tt := tOf X.K W0 RB ft) (te := tOf X.K W0 (RV X.K) fe) hc hN pi ok (fun s H C cl fp => (hg s H C cl fp).can) (fun s H C cl fp => (ht s H C cl fp).can) (fun s H C cl fp => (he s H C cl fp).can) hs, snd_lc hsl si sndG_of (fun θ G => snd_of θ G) fun θ G => snd_of θ G⟩
/-- y = [..] -/
theorem ds_setLc (i : Nat) {y : Str} {py : Pos} {spos : Pos} {elt tg iter : Expr} {ifs : List Expr} {scope : Scope} (own : List (Str × Nat)) {h : Ev (List D)} {b : Tg} {ft : Ev Bool} {fe : Ev D} {sl : List Nat} (hN : X.N.Nodup) (ok : BlkOk X.N X.env.scope scope own) (hsw : swapsWith (.ListComp elt [⟨tg, iter, ifs, 0⟩] scope pos) (some (.Name y py)) spos.line X.env = pure true) (hi : DI X W tg iter h)
    (hg : ∀ (s : Shared) (H : Hp) (C : Addr) (cl : List (Str × Addr)) (fp : List Addr), DG (X.blk s H scope (compEnvC scope cl C X.env) fp) tg b sl)
    (ht : ∀ (s : Shared) (H : Hp) (C : Addr) (cl : List (Str × Addr)) (fp : List Addr), DTs (X.blk s H scope (compEnvC scope cl C X.env) fp) W0 ifs ft)
    (he : ∀ (s : Shared) (H : Hp) (C : Addr) (cl : List (Str × Addr)) (fp : List Addr), DE (X.blk s H scope (compEnvC scope cl C X.env) fp) W0 elt fe)
    (hy : X.N[i]? = some y := by rfl) (hyl : X.env.scope.names.lookup y = some .local := by rfl)
    (hsl : ∀ i ∈ sl, i ∈ own.map (·.2) := by decide)
    (hc : X.calm = true := by rfl) (hs : ∀ x, foldedSetIterable iter X.env x = pure x := by intro _; rfl) : DS X W (.Assign [.Name y py] (.ListComp elt [⟨tg, iter, ifs, 0⟩] scope pos) spos) (sAsg (bnd h (oLc b ft fe (own.map (·.2)))) (gNm i)) := by
  obtain ⟨wi, pi, si⟩ := hi
  refine ⟨_, ps_setLc (g := gOf X.K b sl) (tt := tOf X.K W0 RB ft) (te := tOf X.K W0 (RV X.K) fe) hc hN hy hyl hsw pi ok (fun s H C cl fp => (hg s H C cl fp).can) (fun s H C cl fp => (ht s H C cl fp).can) (fun s H C cl fp => (he s H C cl fp).can) hs, ?_⟩
  refine snd_asg (sl := [i]) (snd_lc hsl si sndG_of (fun θ G => snd_of θ G) fun θ G => snd_of θ G) fun d ρ ρ' θ G σ H M Q v e rs rv hv k => ?_
  unfold gNm at e
  cases e
  exact k _ (rv.set hv) fun vs h => by rw [wipe_set, if_pos (h i (by simp))]
/-! ### calls of defs -/
abbrev Fd := List D → Mem → Option (Res D × Mem)
def spF (K : PySem.W.Frag) (mg : Str → Option Value) (n : Nat) (F : Fd) : Sp := fun vs H Q E => ∃ (θ : List Th) (G : Hp) (ds : List D) (M : Mem) (r : Res D) (M' : Mem), Rs K θ G H M ∧ RvL K θ G vs ds ∧ ds.length = n ∧ F ds M = some (r, M') ∧
  ∀ (θ' : List Th) (G' H' : Hp), θ <+: θ' → Same G G' → Rs K θ' G' H' M' → (∀ x C, r = .exc x → mg x = some (.ref C) → E (.ref C) none H') ∧ (∀ d v, r = .ok d → Rv K θ' G' v d → Q v H')
def oCall (n : Nat) (F : Fd) (ds : List D) : Ev D := fun _ M => if ds.length = n then F ds M else none
/-- how the wishes by names and by classes go together -/
def WOk (mg : Str → Option Value) (WC : WX) (W : WN) : Prop := ∀ x σ H, W x σ H → ∀ C, mg x = some (.ref C) → WC (.ref C) none σ H
theorem wok0 {mg : Str → Option Value} : WOk mg (fun _ _ _ _ => False) W0 := fun _ _ _ h => h.elim
theorem pass_0 {σ : L2.St} {E : XK} : PassesAt CX0 X σ E := fun _ _ _ _ _ _ h => h.elim
/-- how a body's end is the call's -/
inductive Exit : Out → Mem → Res D → Mem → Prop
  | rt {d : D} {M' g : Mem} (h : ∀ n, d = .ptr n ∨ d = .npt n → n < M'.length) (h2 : ∀ n, d ≠ .dpt n) : Exit (.rt d) (M' ++ g) (.ok d) M'
  | nx {ρ : Env} {M' g : Mem} : Exit (.nx ρ) (M' ++ g) (.ok .non) M'
  | ex {C : Str} {ρ : Env} {M' g : Mem} : Exit (.ex C ρ) (M' ++ g) (.exc C) M'
def startD (N : List Str) (ds : List D) : Env := ds.map some ++ List.replicate (N.length - ds.length) none
theorem body_ok {mg : Str → Option Value} {N : List Str} {n : Nat} {F : Fd} {t : TS} {fb : Sv} {W : WN} {vs : List V} {H : Hp} {Q : VK} {E : XK} (hW : ∀ x σ H, (∀ C, mg x = some (.ref C) → E (.ref C) none H) → W x σ H) (s : SndS K W t fb)
    (hF : ∀ ds M r M', ds.length = n → F ds M = some (r, M') → M.length ≤ M'.length ∧ ∃ o M2, fb (startD N ds) M = some (o, M2) ∧ Exit o M2 r M') (h : spF K mg n F vs H Q E) : t { nx := fun _ H' => Q .non H', rt := Q } (L2.start N vs) H := by
  obtain ⟨θ, G, ds, M, r, M', rs, rv, hl, e, kk⟩ := h
  obtain ⟨hle, o, M2, e2, ex⟩ := hF ds M r M' hl e
  refine s (startD N ds) M o M2 θ G (L2.start N vs) H _ e2 rs (Rσ.start rv.len rv.get _ rfl) fun θ' G' H' p' s' rs' => ?_
  have tk : ∀ {g : Mem}, M2 = M' ++ g → Rs K (θ'.take M'.length) G' H' M' ∧ θ <+: θ'.take M'.length := fun {g} h => by
    subst h
    have := rs'.take M'.length
    rw [List.take_left] at this
    exact ⟨this, pre_take p' (by rw [rs.len]; exact hle)⟩
  cases ex with
  | rt hp hq =>
    obtain ⟨r1, r2⟩ := tk rfl
    refine ⟨fun ρ σ h => (by cases h), fun ρ σ h => (by cases h), fun ρ σ h => (by cases h), fun d v h hv => ?_, fun C ρ σ h => (by cases h)⟩
    cases h
    refine (kk _ G' H' r2 s' r1).2 _ v rfl ?_
    cases hv with
    | dat hv => exact .dat hv
    | exv hn h => exact .exv hn h
    | dpt hn => exact absurd rfl (hq _)
    | ptr hn =>
      refine .ptr ?_
      rw [List.getElem?_take_of_lt (hp _ (.inl rfl))]
      exact hn
    | npt hn =>
      refine .npt ?_
      rw [List.getElem?_take_of_lt (hp _ (.inr rfl))]
      exact hn
  | nx =>
    obtain ⟨r1, r2⟩ := tk rfl
    refine ⟨fun ρ σ h _ => ?_, fun ρ σ h => (by cases h), fun ρ σ h => (by cases h), fun d v h => (by cases h), fun C ρ σ h => (by cases h)⟩
    exact (kk _ G' H' r2 s' r1).2 .non .non rfl (.dat .non)
  | ex =>
    obtain ⟨r1, r2⟩ := tk rfl
    refine ⟨fun ρ σ h => (by cases h), fun ρ σ h => (by cases h), fun ρ σ h => (by cases h), fun d v h => (by cases h), fun C ρ σ h _ => ?_⟩
    cases h
    exact hW _ _ _ fun C hC => (kk _ G' H' r2 s' r1).1 _ C rfl hC
theorem spF_len {mg : Str → Option Value} {n : Nat} {F : Fd} {vs : List V} {H : Hp} {Q : VK} {E : XK} (h : spF K mg n F vs H Q E) : vs.length = n := by
  obtain ⟨θ, G, ds, M, r, M', rs, rv, hl, e, kk⟩ := h
  rw [rv.len]; exact hl
end
end Bw
namespace Bw
open PySem PySem.Spec PyProof.Rows L2
def D.ptLt (d : D) (k : Nat) : Bool := match d with
  | .ptr n => decide (n < k)
  | .npt n => decide (n < k)
  | .dpt _ => false
  | _ => true
/-- a def's worth, from its body; so many new lists stay -/
def runF (keep : Nat) (N : List Str) (fb : Sv) : Fd := fun ds M => match fb (startD N ds) M with
  | some (.rt d, M2) => if M.length + keep ≤ M2.length ∧ d.ptLt (M.length + keep) = true then some (.ok d, M2.take (M.length + keep)) else none
  | some (.nx _, M2) => if M.length + keep ≤ M2.length then some (.ok .non, M2.take (M.length + keep)) else none
  | _ => none
theorem runF_ok {keep n : Nat} {N : List Str} {fb : Sv} : ∀ ds M r M', ds.length = n → runF keep N fb ds M = some (r, M') → M.length ≤ M'.length ∧ ∃ o M2, fb (startD N ds) M = some (o, M2) ∧ Exit o M2 r M' := by
  intro ds M r M' _ h
  unfold runF at h
  split at h
  · rename_i d M2 e
    split at h
    · rename_i hc
      cases h
      refine ⟨by rw [List.length_take]; omega, _, _, e, ?_⟩
      have e2 : M2 = M2.take (M.length + keep) ++ M2.drop (M.length + keep) := (List.take_append_drop _ _).symm
      have ex := Exit.rt (d := d) (M' := M2.take (M.length + keep)) (g := M2.drop (M.length + keep)) (fun n hn => by
        rw [List.length_take]
        rcases hn with hn | hn
        · subst hn
          have := of_decide_eq_true hc.2
          omega
        · subst hn
          have := of_decide_eq_true hc.2
          omega) fun n hn => by subst hn; cases hc.2
      rw [← e2] at ex
      exact ex
    · cases h
  · rename_i ρ M2 e
    split at h
    · rename_i hc
      cases h
      refine ⟨by rw [List.length_take]; omega, _, _, e, ?_⟩
      have e2 : M2 = M2.take (M.length + keep) ++ M2.drop (M.length + keep) := (List.take_append_drop _ _).symm
      have ex := Exit.nx (ρ := ρ) (M' := M2.take (M.length + keep)) (g := M2.drop (M.length + keep))
      rw [← e2] at ex
      exact ex
    · cases h
  · cases h
theorem runF_nx {keep : Nat} {N : List Str} {fb : Sv} : ∀ ds M C M', runF keep N fb ds M ≠ some (.exc C, M') := by
  intro ds M C M' h
  unfold runF at h
  split at h
  · split at h <;> cases h
  · split at h <;> cases h
  · cases h
/-- what a body gives, as the def's worth -/
theorem runF_rt {N : List Str} {fb : Sv} {ds : List D} {M M2 : Mem} {d : D} (h : fb (startD N ds) M = some (.rt d, M2)) (hl : M.length ≤ M2.length) (hp : d.np = true) : runF 0 N fb ds M = some (.ok d, M2.take M.length) := by
  unfold runF
  rw [h]
  dsimp only
  rw [if_pos]
  · rfl
  · refine ⟨hl, ?_⟩
    cases d <;> first | rfl | cases hp
theorem runF_pure {N : List Str} {fb : Sv} {ds : List D} {M : Mem} {d : D} (h : fb (startD N ds) M = some (.rt d, M)) (hp : d.np = true) : runF 0 N fb ds M = some (.ok d, M) := by
  rw [runF_rt h (Nat.le_refl _) hp, List.take_length]
/-- the law's promise: no error -/
def spL (K : PySem.W.Frag) (n : Nat) (F : Fd) : Sp := fun vs H Q _ => ∃ (θ : List Th) (G : Hp) (ds : List D) (M : Mem) (d : D) (M' : Mem), Rs K θ G H M ∧ RvL K θ G vs ds ∧ ds.length = n ∧ F ds M = some (.ok d, M') ∧
  ∀ (θ' : List Th) (G' H' : Hp), θ <+: θ' → Same G G' → Rs K θ' G' H' M' → ∀ v, Rv K θ' G' v d → Q v H'
theorem spL_imp {K : PySem.W.Frag} {mg : Str → Option Value} {n : Nat} {F : Fd} (vs : List V) (H : Hp) (Q : VK) (E : XK) (h : spL K n F vs H Q E) : spF K mg n F vs H Q E := by
  obtain ⟨θ, G, ds, M, d, M', rs, rv, hl, e, kk⟩ := h
  exact ⟨θ, G, ds, M, .ok d, M', rs, rv, hl, e, fun θ' G' H' p s rs' => ⟨fun x C h => (by cases h), fun d' v h hv => by cases h; exact kk θ' G' H' p s rs' v hv⟩⟩
/-- the law's start -/
theorem law_start {K : PySem.W.Frag} {F : Fd} {H : Hp} {a : Addr} {ns : List Int} (hl : ns.length ≤ 63) (hS : SqL K H a (ns.map V.int)) (hF : ∀ ns : List Int, ns.length ≤ 63 → ∃ M', F [.scr (ns.map D.int)] [] = some (.ok (.bl true), M')) : spL K 1 F [.ref a] H (fun v _ => v = .bl true) fun _ _ _ => False := by
  obtain ⟨M', e⟩ := hF ns hl
  refine ⟨[], H, _, [], _, M', ⟨Same.refl _, rfl, List.nodup_nil, fun n a h => by simp at h, fun n a ds h => by simp at h, fun n a b es h => by simp at h, fun n a ds h => by simp at h⟩, RvL.cons (.dat (.scr hS (by simp) fun i v d h1 h2 => ?_)) RvL.nil, rfl, e, fun θ' G' H' p s rs v hv => hv.bl_of⟩
  rw [List.getElem?_map] at h1 h2
  cases q : ns[i]? with
  | none => rw [q] at h1; cases h1
  | some n =>
    rw [q] at h1 h2
    cases h1; cases h2
    exact .int n
end Bw
namespace Bw
open PySem PySem.Spec PyProof.Rows L2
/-! ### an error that was caught, kept as a value -/
section
variable {X : Cx} {pins : List (Addr × Obj)} {σ : L2.St} {H : Hp} {s : Shared}
end
end Bw
namespace Bw
open PySem PySem.Spec PyProof.Rows L2
/-- the wish of the body of a try whose one clause is «except c as n», n in slot i; behind the suite the error stands as a value -/
def wK (K : PySem.W.Frag) (c : Value) (i : Nat) (ts : Addr → Value → Option Addr → TS) (Wo : WX) (Dn : Ends) : WX := fun cls d σ H =>
  d = none ∧ ∃ b, PySem.W.exmOne K cls c = some b ∧ (b = false → Wo cls d σ H) ∧
    (b = true → ∀ a, H a = none → ts a cls d { nx := fun σ1 H1 => Dn.nx (σ1.set i none) (upd H1 a (ExQ cls a)), rt := fun v H1 => Dn.rt v (upd H1 a (ExQ cls a)), bk := fun σ1 H1 => Dn.bk (σ1.set i none) (upd H1 a (ExQ cls a)), ct := fun σ1 H1 => Dn.ct (σ1.set i none) (upd H1 a (ExQ cls a)) } (σ.set i (some (.ref a))) H)
section
variable {X : Cx} {x n : Str} {c : Value} {i : Nat} {body more : List Stmt} {first : Stmt} {np pos hpos : Pos} {tb : WX → TS} {ts : Addr → Value → Option Addr → TS} {Wo : WX}
end
end Bw
namespace Bw
open PySem PySem.Spec PyProof.Rows L2
section
variable {X : Cx} {W : WN} {pos : Pos} {K : PySem.W.Frag}
/-! ### isinstance -/
/-- a value's kind, errors that were caught too -/
def TyQ (K : PySem.W.Frag) (H : Hp) (x : V) (t : Value) : Prop := TyX K H x t ∨ ∃ a C, x = .ref a ∧ t = .ref C ∧ H a = some (ExQ (.ref C) a) ∧ ExcC K C
theorem kitq {pins : List (Addr × Obj)} {σ : L2.St} {H : Hp} {s : Shared} {x : V} {u t : Value} (I : Inv X pins σ H s) (rx : RelV x u) (ty : TyQ X.K H x t) : ∃ P : Heap → Prop, PySem.W.KitX X.K u t P ∧ P s.heap ∧ u ≠ .builtin "__main__.__loader__#opaque" := by
  rcases ty with ty | ⟨a, C, rfl, rfl, ha, c⟩
  · exact kit_of I rx ty
  · cases rx
    obtain ⟨⟨⟨oc, od, oda, osl⟩, vs, e, ⟨z1, z2⟩, d⟩, _, _⟩ := I.hok a _ ha
    dsimp only at z1 z2 d
    subst z1 z2 d
    exact ⟨_, PySem.W.handS_kitx_exc c.hg c.hk c.hs c.hd c.ha c.hn c.ht c.hm, ⟨e, rfl, rfl, trivial⟩, fun z => nomatch z⟩
def rQ1 (K : PySem.W.Frag) (c : V) (u : Value) : List V → Hp → VK → Prop := fun xs H Q => ∃ (x : V) (t : Value) (b : Bool), xs = [x, c] ∧ TyQ K H x t ∧ PySem.W.kitOne K t u = some b ∧ Q (.bl b) H
theorem call_Q1 {c : V} {u : Value} (k : ClsV c u) : CallR X (.builtin "isinstance") (rQ1 X.K c u) := by
  intro pins s σ H xs us Q I r h
  obtain ⟨x, t, b, rfl, ty, e, q⟩ := h
  obtain ⟨u1, u2, rfl, r1, r2⟩ := L2.vals2 r
  cases k.eq r2
  obtain ⟨P, Z, p, hx⟩ := kitq I r1 ty
  exact PySem.W.kia_one Z I.kIn p e hx fun tk => ⟨.bl b, H, I.tok tk, rfl, q⟩
def rQT (K : PySem.W.Frag) (cs : List V) (ws : List Value) : List V → Hp → VK → Prop := fun xs H Q => ∃ (x : V) (tp : Addr) (t : Value) (b : Bool), xs = [x, .ref tp] ∧ H tp = some (.tup cs) ∧ TyQ K H x t ∧ PySem.W.kitAny K t ws = some b ∧ Q (.bl b) H
/-- the answer, by the kind: tb of a built-in type, tx of an error's class -/
def oIsi (tb : String → Option Bool) (tx : Str → Option Bool) (d : D) : Ev D := fun _ M =>
  let o : Option Bool := match d with
    | .non => tb "NoneType"
    | .bl _ => tb "bool"
    | .int _ => tb "int"
    | .str _ => tb "str"
    | .tup _ => tb "tuple"
    | .lst _ => tb "list"
    | .scr _ => tb "list"
    | .emp => tb "dict"
    | .ptr n => match M[n]? with
      | some (some _) => tb "list"
      | _ => none
    | .exv x => tx x
    | .dpt _ => none
    | .npt _ => none
  match o with
  | some b => some (.ok (.bl b), M)
  | none => none
/-- what is to be known of the classes that are asked for -/
structure IsiOk (K : PySem.W.Frag) (ask : Value → Option Bool) (tb : String → Option Bool) (tx : Str → Option Bool) : Prop where
  tb : ∀ a b, tb a = some b → ask (.type a) = some b
  tx : ∀ x C b, tx x = some b → PySem.W.nsIn K mainGlobals x = some (some (.ref C)) → ask (.ref C) = some b ∧ ExcC K C
theorem tyq_of {θ : List Th} {G H : Hp} {M : Mem} {v : V} {d : D} {ask : Value → Option Bool} {tb : String → Option Bool} {tx : Str → Option Bool} (rs : Rs K θ G H M) (hv : Rv K θ G v d) (ok : IsiOk K ask tb tx) {ρ : Env} {r : Res D} {M' : Mem} (e : oIsi tb tx d ρ M = some (r, M')) : ∃ b t, r = .ok (.bl b) ∧ M' = M ∧ TyQ K H v t ∧ ask t = some b := by
  have sqT : ∀ {a xs}, SqT K G a xs → TyX K H (.ref a) (.type "tuple") := fun {a xs} h => by
    rcases seqT rs.sub h with (h | ⟨o, h⟩) | ⟨o, its, n, h1, h2, _⟩
    · exact .base (.tup h)
    · exact .fTuple h
    · exact .kTuple h1 h2
  have sqL : ∀ {a xs}, SqL K H a xs → TyX K H (.ref a) (.type "list") := fun {a xs} h => by
    rcases h with (h | ⟨o, h⟩) | ⟨o, its, n, h1, h2, _⟩
    · exact .base (.lst h)
    · exact .base (.frz h)
    · exact .kList h1 h2
  have go : ∀ {o : Option Bool} {t : Value}, (match o with | some b => some (Res.ok (D.bl b), M) | none => none) = some (r, M') → TyQ K H v t → (∀ b, o = some b → ask t = some b) → ∃ b t, r = .ok (.bl b) ∧ M' = M ∧ TyQ K H v t ∧ ask t = some b := by
    intro o t h1 h2 h3
    cases o with
    | none => cases h1
    | some b => cases h1; exact ⟨b, t, rfl, rfl, h2, h3 b rfl⟩
  unfold oIsi at e
  cases hv with
  | dat hv =>
    cases hv with
    | non => exact go e (.inl (.base .non)) fun b h => ok.tb _ b h
    | bl _ => exact go e (.inl (.base (.bl _))) fun b h => ok.tb _ b h
    | int _ => exact go e (.inl (.base (.int _))) fun b h => ok.tb _ b h
    | str _ => exact go e (.inl (.base (.str _))) fun b h => ok.tb _ b h
    | tup h _ _ => exact go e (.inl (sqT h)) fun b h => ok.tb _ b h
    | lst h _ _ => exact go e (.inl (.base (.lst (rs.sub _ _ h)))) fun b h => ok.tb _ b h
    | scr h _ _ => exact go e (.inl (sqL (rs.sub.seq h))) fun b h => ok.tb _ b h
    | emp h => exact go e (.inl (.base (.dK (rs.sub _ _ h)))) fun b h => ok.tb _ b h
  | @ptr n a hn =>
    cases q : M[n]? with
    | none => dsimp only at e; rw [q] at e; cases e
    | some z =>
      cases z with
      | none => dsimp only at e; rw [q] at e; cases e
      | some ds =>
        dsimp only at e
        rw [q] at e
        obtain ⟨_, xs, hx, _⟩ := rs.mem n a ds hn q
        exact go e (.inl (sqL (.inl (.inl hx)))) fun b h => ok.tb _ b h
  | dpt _ => cases e
  | npt _ => cases e
  | @exv x a C hn h =>
    dsimp only at e
    cases q : tx x with
    | none => rw [q] at e; cases e
    | some b =>
      rw [q] at e
      obtain ⟨q1, q2⟩ := ok.tx x C b q hn
      exact go (o := some b) e (.inr ⟨a, C, rfl, rfl, rs.sub _ _ h, q2⟩) fun b' h' => by cases h'; exact q1
variable {p p2 : Pos} {e : Expr} {f : Ev D}
/-- isinstance(e, c), c by its name -/
theorem de_isi {cx : Str} {c : V} {u : Value} {tb : String → Option Bool} {tx : Str → Option Bool} (hc : PE X (.Name cx p2) (tC c)) (k : ClsV c u) (ok : IsiOk X.K (fun t => PySem.W.kitOne X.K t u) tb tx) (hm : X.mg "isinstance" = none) (he : DE X W e f) (hg : Gl X "isinstance" := by rfl)
    (hs : starEach [e, .Name cx p2] X.env = (false, eval e X.env) :: starEach [.Name cx p2] X.env := by rfl) (hs2 : starEach [.Name cx p2] X.env = (false, eval (.Name cx p2) X.env) :: starEach [] X.env := by rfl) (hpl : (backTo pos (starEach [.Name cx p2] X.env)).any (·.1) = false := by rfl) :
    DE X W (.Call (.Name "isinstance" p) [e, .Name cx p2] [] pos) (bnd f (oIsi tb tx)) := by
  obtain ⟨t, q, s⟩ := he
  refine ⟨_, pe_callB (call_Q1 k) hg hm (by decide +kernel) (pa_cons q (pa_cons hc pa_nil hs2) hs) (by decide) (by decide) hs hpl, fun θ G => ?_⟩
  refine (s θ G).bind (R2 := RV X.K) (k := fun (x : V) (_ : L2.St) (H1 : Hp) (Q : V → Hp → Prop) => rQ1 X.K c u [x, c] H1 Q) fun θ1 G1 v d _ _ hv => ?_
  intro ρ M r M' θ2 G2 σ H Q p2 s2 e rs rv kk
  obtain ⟨b, t, rfl, rfl, ty, q2⟩ := tyq_of rs (hv.mono p2 s2) ok e
  exact ⟨v, t, b, rfl, ty, q2, (kk θ2 G2 H (List.prefix_refl _) (Same.refl _) rs).2 _ _ rfl rv_bl⟩
/-! ### repr of a truth -/
def oRepr (ds : List D) : Ev D := match ds with
  | [.bl b] => ret (.str (if b then "True" else "False"))
  | _ => stk
/-! ### x in a list of truths; is True, is False -/
def oInB (d e : D) : Ev D := match d, e with
  | .bl b, .lst ds => match blsOf ds with
    | some bs => ret (.bl (bs.contains b))
    | none => stk
  | _, _ => stk
variable {a b : Expr} {g : Ev D}
/-! ### raise, try -/
def sRaise (x : Str) : Sv := fun ρ M => some (.ex x ρ, M)
end
end Bw
namespace Bw
open PySem PySem.Spec PyProof.Rows L2
section
variable {X : Cx} {W : WN} {pos : Pos} {K : PySem.W.Frag}
/-- the reading of a body's worth -/
def tSOf (K : PySem.W.Frag) (W : WN) (f : Sv) : TS := fun Dn σ H => ∃ (ρ : Env) (M : Mem) (o : Out) (M' : Mem) (θ : List Th) (G : Hp), f ρ M = some (o, M') ∧ Rs K θ G H M ∧ Rσ K θ G σ ρ ∧
  ∀ (θ' : List Th) (G' H' : Hp), θ <+: θ' → Same G G' → Rs K θ' G' H' M' → Cont K W Dn o θ' G' H'
theorem DSs.can {sts : List Stmt} {f : Sv} (h : DSs X W sts f) : PSs X sts (tSOf X.K W f) := by
  obtain ⟨t, p, s⟩ := h
  refine ⟨fun pins s1 σ H Dn I q => p.run pins s1 σ H Dn I ?_⟩
  obtain ⟨ρ, M, o, M', θ, G, e, rs, rv, kk⟩ := q
  exact s ρ M o M' θ G σ H Dn e rs rv kk
/-- wishes by names, out of wishes by classes -/
def wnOf (mg : Str → Option Value) (WC : WX) : WN := fun x σ H => ∀ C, mg x = some (.ref C) → WC (.ref C) none σ H
/-- try: .. except c as n: m = n; mt: which classes the clause takes -/
def sTry (mt : Str → Option Bool) (i j : Nat) (f : Sv) : Sv := fun ρ M => match f ρ M with
  | some (.ex x ρ1, M1) => match mt x with
    | some true => if i < ρ1.length then some (.nx (((ρ1.set i (some (.exv x))).set j (some (.exv x))).set i none), M1) else none
    | some false => some (.ex x ρ1, M1)
    | none => none
  | r => r
end
/-- a def's worth, errors too -/
def runX (N : List Str) (fb : Sv) : Fd := fun ds M => match fb (startD N ds) M with
  | some (.rt d, M2) => if M.length ≤ M2.length ∧ d.ptLt M.length = true then some (.ok d, M2.take M.length) else none
  | some (.nx _, M2) => if M.length ≤ M2.length then some (.ok .non, M2.take M.length) else none
  | some (.ex x _, M2) => if M.length ≤ M2.length then some (.exc x, M2.take M.length) else none
  | _ => none
theorem isi_ty {K : PySem.W.Frag} {T : String} : IsiOk K (fun t => PySem.W.kitOne K t (.type T)) (fun a => kitB a T) (fun _ => none) := ⟨fun a b h => kit_ty h, fun x C b h => (by cases h)⟩
/-- x is True, x is False -/
def oIsB (d e : D) : Ev D := match d, e with
  | .bl a, .bl b => ret (.bl (decide (a = b)))
  | _, _ => stk
section
variable {X : Cx} {W : WN} {pos : Pos} {a b : Expr} {f g : Ev D}
end
/-- x is not True, x is not False -/
def oIsnB (d e : D) : Ev D := match d, e with
  | .bl a, .bl b => ret (.bl (!decide (a = b)))
  | _, _ => stk
section
variable {X : Cx} {W : WN} {pos : Pos} {a b : Expr} {f g : Ev D}
end
end Bw
namespace Bw
open PySem PySem.Spec PyProof.Rows L2
/-! ### fractions as rationals -/
def frQ (q : Rat) : D := .tup [.int q.num, .int (q.den : Int)]
def Bd (n : Nat) (q : Rat) : Prop := q.num.natAbs < 2 ^ n ∧ q.den < 2 ^ n
theorem Bd.mono {m n : Nat} {q : Rat} (h : Bd m q) (l : m ≤ n) : Bd n q := ⟨Nat.lt_of_lt_of_le h.1 (Nat.pow_le_pow_right (by decide) l), Nat.lt_of_lt_of_le h.2 (Nat.pow_le_pow_right (by decide) l)⟩
def MulOk (i j : Int) : Prop := i.natAbs.log2 + j.natAbs.log2 < 1000000
def DivOk (j : Int) : Prop := j ≠ 0 ∧ j.natAbs.log2 < 9000
theorem log2_le_of {n a : Nat} (h : n < 2 ^ a) : n.log2 ≤ a := by
  rcases Nat.eq_zero_or_pos n with rfl | hp
  · simp
  · exact Nat.le_of_lt ((Nat.log2_lt (by omega)).mpr h)
theorem MulOk.of {i j : Int} {a b : Nat} (hi : i.natAbs < 2 ^ a) (hj : j.natAbs < 2 ^ b) (h : a + b < 1000000 := by decide) : MulOk i j := by
  have := log2_le_of hi
  have := log2_le_of hj
  unfold MulOk; omega
theorem DivOk.of {j : Int} {b : Nat} (h0 : j ≠ 0) (hj : j.natAbs < 2 ^ b) (h : b < 9000 := by decide) : DivOk j := ⟨h0, Nat.lt_of_le_of_lt (log2_le_of hj) h⟩
theorem oMul_int {i j : Int} (h : MulOk i j) (ρ : Env) (M : Mem) : oMul (.int i) (.int j) ρ M = some (.ok (.int (i * j)), M) := by
  unfold oMul oI
  dsimp only
  rw [if_pos (decide_eq_true (show i.natAbs.log2 + j.natAbs.log2 < 1000000 from h))]; rfl
theorem oDiv_int {i j : Int} (h : DivOk j) (ρ : Env) (M : Mem) : oDiv (.int i) (.int j) ρ M = some (.ok (.int (i.fdiv j)), M) := by
  unfold oDiv oI
  dsimp only
  rw [if_pos (decide_eq_true (show j ≠ 0 ∧ j.natAbs.log2 < 9000 from h))]; rfl
theorem oMod_int {i j : Int} (h : j ≠ 0) (ρ : Env) (M : Mem) : oMod (.int i) (.int j) ρ M = some (.ok (.int (i.fmod j)), M) := by
  unfold oMod oI
  dsimp only
  rw [if_pos (decide_eq_true h)]; rfl
theorem oAdd_int {i j : Int} (ρ : Env) (M : Mem) : oAdd (.int i) (.int j) ρ M = some (.ok (.int (i + j)), M) := rfl
theorem oSub_int {i j : Int} (ρ : Env) (M : Mem) : oSub (.int i) (.int j) ρ M = some (.ok (.int (i - j)), M) := rfl
theorem oLt_int {i j : Int} (ρ : Env) (M : Mem) : oLt (.int i) (.int j) ρ M = some (.ok (.bl (decide (i < j))), M) := rfl
theorem oLe_int {i j : Int} (ρ : Env) (M : Mem) : oLe (.int i) (.int j) ρ M = some (.ok (.bl (decide (i ≤ j))), M) := rfl
theorem oGt_int {i j : Int} (ρ : Env) (M : Mem) : oGt (.int i) (.int j) ρ M = some (.ok (.bl (decide (j < i))), M) := rfl
theorem oGe_int {i j : Int} (ρ : Env) (M : Mem) : oGe (.int i) (.int j) ρ M = some (.ok (.bl (decide (j ≤ i))), M) := rfl
theorem oNeg_int {i : Int} (ρ : Env) (M : Mem) : oNeg (.int i) ρ M = some (.ok (.int (-i)), M) := rfl
theorem oEq_int {i j : Int} (ρ : Env) (M : Mem) : oEq (.int i) (.int j) ρ M = some (.ok (.bl (decide (i = j))), M) := by
  unfold oEq
  rw [if_pos ⟨rfl, rfl, by rfl, by rfl⟩]
  show some (Res.ok (D.bl (PyData.eqv (.int i) (.int j))), M) = _
  simp only [PyData.eqv]
  congr
theorem oNe_int {i j : Int} (ρ : Env) (M : Mem) : oNe (.int i) (.int j) ρ M = some (.ok (.bl (!decide (i = j))), M) := by
  unfold oNe
  rw [if_pos ⟨rfl, rfl, by rfl, by rfl⟩]
  show some (Res.ok (D.bl (!PyData.eqv (.int i) (.int j))), M) = _
  simp only [PyData.eqv]
  congr
theorem eqv_fr (x y : Rat) : PyData.eqv (toPy (frQ x)) (toPy (frQ y)) = decide (x = y) := by
  simp only [frQ, toPy, toPys, PyData.eqv, PyData.eqvAll, Bool.and_true]
  rw [Bool.eq_iff_iff]
  simp only [Bool.and_eq_true, beq_iff_eq, decide_eq_true_eq]
  constructor
  · rintro ⟨a, b⟩
    exact Rat.ext a (by exact_mod_cast b)
  · rintro rfl; exact ⟨rfl, rfl⟩
theorem shaped_fr (x : Rat) : SeqAt.shaped (toPy (frQ x)) = true := by rfl
theorem oEq_fr (x y : Rat) (ρ : Env) (M : Mem) : oEq (frQ x) (frQ y) ρ M = some (.ok (.bl (decide (x = y))), M) := by
  unfold oEq
  rw [if_pos ⟨rfl, rfl, shaped_fr x, shaped_fr y⟩, eqv_fr]; rfl
theorem oNe_fr (x y : Rat) (ρ : Env) (M : Mem) : oNe (frQ x) (frQ y) ρ M = some (.ok (.bl (!decide (x = y))), M) := by
  unfold oNe
  rw [if_pos ⟨rfl, rfl, shaped_fr x, shaped_fr y⟩, eqv_fr]; rfl
theorem oEq_bl {i j : Bool} (ρ : Env) (M : Mem) : oEq (.bl i) (.bl j) ρ M = some (.ok (.bl (decide (i = j))), M) := by
  cases i <;> cases j <;> rfl
theorem oNe_bl {i j : Bool} (ρ : Env) (M : Mem) : oNe (.bl i) (.bl j) ρ M = some (.ok (.bl (!decide (i = j))), M) := by
  cases i <;> cases j <;> rfl
theorem np_fr (x : Rat) : (frQ x).np = true := rfl
/-! uniqueness of lowest terms -/
theorem rat_uniq {q : Rat} {n : Int} {d : Nat} (hd : d ≠ 0) (hc : n.natAbs.Coprime d) (h : n * (q.den : Int) = q.num * (d : Int)) : q.num = n ∧ q.den = d := by
  have e : mkRat n d = q := by
    rw [← Rat.mkRat_self q, Rat.mkRat_eq_iff hd q.den_nz]; exact h
  have e2 : mkRat n d = ⟨n, d, hd, hc⟩ := by
    rw [← Rat.normalize_eq_mkRat hd, Rat.normalize_eq]
    have g : n.natAbs.gcd d = 1 := hc
    simp [g]
  rw [e2] at e
  subst e
  exact ⟨rfl, rfl⟩
theorem fr_of {q : Rat} {n d : Int} (hd : 0 < d) (hc : Int.gcd n d = 1) (h : n * (q.den : Int) = q.num * d) : D.tup [.int n, .int d] = frQ q := by
  obtain ⟨k, rfl⟩ : ∃ k : Nat, d = k := ⟨d.toNat, by omega⟩
  have hk : k ≠ 0 := by omega
  obtain ⟨a, b⟩ := rat_uniq (q := q) hk (by simpa [Nat.Coprime, Int.gcd] using hc) h
  unfold frQ
  rw [a, b]
theorem fdiv_nat (i : Int) (n : Nat) : i.fdiv (n : Int) = i / (n : Int) := Int.fdiv_eq_ediv_of_nonneg i (Int.natCast_nonneg n)
theorem gcd_fmod (a b : Int) : Int.gcd b (a.fmod b) = Int.gcd a b := by
  have h : a.fmod b = a - b * (a.fdiv b) := by have := Int.mul_fdiv_add_fmod a b; omega
  rw [h, Int.gcd_sub_mul_left_right, Int.gcd_comm]
theorem natAbs_fmod_lt (a : Int) {b : Int} (h : b ≠ 0) : (a.fmod b).natAbs < b.natAbs := by
  rcases Int.lt_or_gt_of_ne h with hb | hb
  · have h3 := Int.fmod_eq_emod (a := a) (b := b)
    have h1 := Int.emod_nonneg a h
    have h2 := Int.emod_lt_of_neg a hb
    have h4 : ¬ (0 ≤ b) := by omega
    simp only [h4, false_or] at h3
    split at h3
    · rename_i hd
      have := Int.emod_eq_zero_of_dvd hd
      omega
    · rename_i hd
      have : a % b ≠ 0 := fun z => hd (Int.dvd_of_emod_eq_zero z)
      omega
  · have h1 := Int.fmod_nonneg_of_pos a hb
    have h2 := Int.fmod_lt_of_pos a hb
    omega
end Bw
namespace Bw
open PySem PySem.Spec PyProof.Rows L2
/-! ### evaluation, step by step -/
section
variable {α β : Type}
def bindR (x : Option (Res α × Mem)) (k : α → Mem → Option (Res β × Mem)) : Option (Res β × Mem) := match x with
  | some (.ok a, M) => k a M
  | some (.exc C, M) => some (.exc C, M)
  | none => none
theorem bindR_ok (a : α) (M : Mem) (k : α → Mem → Option (Res β × Mem)) : bindR (some (.ok a, M)) k = k a M := rfl
def thenR (x : Option (Res α × Mem)) (ρ : Env) (k : α → Mem → Option (Out × Mem)) : Option (Out × Mem) := match x with
  | some (.ok a, M) => k a M
  | some (.exc C, M) => some (.ex C ρ, M)
  | none => none
theorem thenR_ok (a : α) (M : Mem) (ρ : Env) (k : α → Mem → Option (Out × Mem)) : thenR (some (.ok a, M)) ρ k = k a M := rfl
theorem bnd_ap (f : Ev α) (g : α → Ev β) (ρ : Env) (M : Mem) : bnd f g ρ M = bindR (f ρ M) fun a M1 => g a ρ M1 := rfl
theorem ret_ap (a : α) (ρ : Env) (M : Mem) : ret a ρ M = some (.ok a, M) := rfl
theorem thenS_ap (f : Ev α) (g : α → Sv) (ρ : Env) (M : Mem) : thenS f g ρ M = thenR (f ρ M) ρ fun a M1 => g a ρ M1 := rfl
def varR (x : Option (Option D)) (M : Mem) : Option (Res D × Mem) := match x with
  | some (some d) => some (.ok d, M)
  | _ => none
theorem varR_ok (d : D) (M : Mem) : varR (some (some d)) M = some (.ok d, M) := rfl
theorem dVar_ap (i : Nat) (ρ : Env) (M : Mem) : dVar i ρ M = varR ρ[i]? M := by
  unfold dVar varR
  rfl
def seqR (x : Option (Out × Mem)) (g : Sv) : Option (Out × Mem) := match x with
  | some (.nx ρ1, M1) => g ρ1 M1
  | r => r
theorem seqR_nx (ρ : Env) (M : Mem) (g : Sv) : seqR (some (.nx ρ, M)) g = g ρ M := rfl
theorem seqR_rt (d : D) (M : Mem) (g : Sv) : seqR (some (.rt d, M)) g = some (.rt d, M) := rfl
theorem sSeq_ap (f g : Sv) (ρ : Env) (M : Mem) : sSeq f g ρ M = seqR (f ρ M) g := by
  unfold sSeq seqR
  rfl
def asgR (x : Option Env) (M : Mem) : Option (Out × Mem) := match x with
  | some ρ => some (.nx ρ, M)
  | none => none
theorem asgR_ok (ρ : Env) (M : Mem) : asgR (some ρ) M = some (.nx ρ, M) := rfl
theorem sAsg_ap (f : Ev D) (b : Tg) (ρ : Env) (M : Mem) : sAsg f b ρ M = thenR (f ρ M) ρ fun d M1 => asgR (b d ρ) M1 := by
  unfold sAsg
  rw [thenS_ap]
  congr
theorem gNm_ap (i : Nat) (d : D) (ρ : Env) : gNm i d ρ = some (ρ.set i (some d)) := rfl
def gcnR (x : Option Env) (k : Env → Option Env) : Option Env := match x with
  | some ρ => k ρ
  | none => none
theorem gcnR_ok (ρ : Env) (k : Env → Option Env) : gcnR (some ρ) k = k ρ := rfl
theorem gCn_ap (b : Tg) (c : List D → Env → Option Env) (d : D) (r : List D) (ρ : Env) : gCn b c (d :: r) ρ = gcnR (b d ρ) fun ρ1 => c r ρ1 := by
  unfold gCn gcnR
  rfl
theorem gNl_ap (ρ : Env) : gNl [] ρ = some ρ := rfl
theorem gTp_ap (n : Nat) (c : List D → Env → Option Env) (ds : List D) (ρ : Env) (h : ds.length = n) : gTp n c (.tup ds) ρ = c ds ρ := by
  unfold gTp
  dsimp only
  rw [if_pos h]
theorem gTp_fr (c : List D → Env → Option Env) (q : Rat) (ρ : Env) : gTp 2 c (frQ q) ρ = c [.int q.num, .int (q.den : Int)] ρ := rfl
theorem gLs_ap (n : Nat) (c : List D → Env → Option Env) (ds : List D) (ρ : Env) (h : ds.length = n) : gLs n c (.lst ds) ρ = c ds ρ := by
  unfold gLs
  dsimp only
  rw [if_pos h]
theorem sPar_ap (i j : Nat) (f : Ev (List D)) (ρ : Env) (M : Mem) : sPar i j f ρ M = thenR (f ρ M) ρ fun ds M1 => match ds with
  | [d, e] => some (.nx ((ρ.set i (some d)).set j (some e)), M1)
  | _ => none := rfl
theorem sRet_ap (f : Ev D) (ρ : Env) (M : Mem) : sRet f ρ M = thenR (f ρ M) ρ fun d M1 => some (.rt d, M1) := rfl
theorem sExpr_ap (f : Ev D) (ρ : Env) (M : Mem) : sExpr f ρ M = thenR (f ρ M) ρ fun d M1 => some (.nx ρ, M1) := rfl
theorem sNext_ap (ρ : Env) (M : Mem) : sNext ρ M = some (.nx ρ, M) := rfl
theorem sIf_ap (c : Ev Bool) (f g : Sv) (ρ : Env) (M : Mem) : sIf c f g ρ M = thenR (c ρ M) ρ fun b M1 => if b = true then f ρ M1 else g ρ M1 := by
  unfold sIf
  rw [thenS_ap]
  congr
  funext b M1
  split <;> rfl
theorem dNil_ap (ρ : Env) (M : Mem) : dNil ρ M = some (.ok [], M) := rfl
theorem dCons_ap (f : Ev D) (g : Ev (List D)) (ρ : Env) (M : Mem) : dCons f g ρ M = bindR (f ρ M) fun d M1 => bindR (g ρ M1) fun ds M2 => some (.ok (d :: ds), M2) := rfl
theorem oTup_ap (ds : List D) (ρ : Env) (M : Mem) (h : ds.all D.np = true) (l : ds.length ≤ 16777216) : oTup ds ρ M = some (.ok (.tup ds), M) := by
  unfold oTup
  rw [if_pos ⟨h, l⟩]; rfl
theorem oLst_ap (ds : List D) (ρ : Env) (M : Mem) (h : ds.all D.np = true) (l : ds.length ≤ 16777216) : oLst ds ρ M = some (.ok (.lst ds), M) := by
  unfold oLst
  rw [if_pos ⟨h, l⟩]; rfl
theorem oCall_ap (n : Nat) (F : Fd) (ds : List D) (ρ : Env) (M : Mem) (h : ds.length = n) : oCall n F ds ρ M = F ds M := by
  unfold oCall
  rw [if_pos h]
theorem asB_ap (b : Bool) (ρ : Env) (M : Mem) : asB (.bl b) ρ M = some (.ok b, M) := rfl
theorem dAnd_ap (f g : Ev Bool) (ρ : Env) (M : Mem) : dAnd f g ρ M = bindR (f ρ M) fun c M1 => if c = true then g ρ M1 else some (.ok false, M1) := by
  unfold dAnd
  rw [bnd_ap]
  congr
  funext b M1
  split <;> rfl
theorem dOr_ap (f g : Ev Bool) (ρ : Env) (M : Mem) : dOr f g ρ M = bindR (f ρ M) fun c M1 => if c = true then some (.ok true, M1) else g ρ M1 := by
  unfold dOr
  rw [bnd_ap]
  congr
  funext b M1
  split <;> rfl
theorem dNot_ap (f : Ev Bool) (ρ : Env) (M : Mem) : dNot f ρ M = bindR (f ρ M) fun c M1 => some (.ok (!c), M1) := rfl
theorem dAndV_ap (f g : Ev D) (ρ : Env) (M : Mem) : dAndV f g ρ M = bindR (f ρ M) fun d M1 => bindR (asB d ρ M1) fun c M1 => if c = true then g ρ M1 else some (.ok (.bl false), M1) := by
  unfold dAndV
  rw [bnd_ap]
  congr
  funext b M1
  rw [bnd_ap]
  congr
  funext b M1
  split <;> rfl
theorem dOrV_ap (f g : Ev D) (ρ : Env) (M : Mem) : dOrV f g ρ M = bindR (f ρ M) fun d M1 => bindR (asB d ρ M1) fun c M1 => if c = true then some (.ok (.bl true), M1) else g ρ M1 := by
  unfold dOrV
  rw [bnd_ap]
  congr
  funext b M1
  rw [bnd_ap]
  congr
  funext b M1
  split <;> rfl
theorem dNotV_ap (f : Ev D) (ρ : Env) (M : Mem) : dNotV f ρ M = bindR (f ρ M) fun d M1 => bindR (asB d ρ M1) fun c M1 => some (.ok (.bl (!c)), M1) := rfl
theorem dIf_ap (c : Ev Bool) (f g : Ev D) (ρ : Env) (M : Mem) : dIf c f g ρ M = bindR (c ρ M) fun b M1 => if b = true then f ρ M1 else g ρ M1 := by
  unfold dIf
  rw [bnd_ap]
  congr
  funext b M1
  split <;> rfl
theorem oPow_ap (i : Int) (n : Nat) (ρ : Env) (M : Mem) (h : n ≤ 1000000) (hi : i.natAbs < 2 ^ 64) : oPow (.int i) (.int (n : Int)) ρ M = some (.ok (.int (i ^ n)), M) := by
  unfold oPow oI
  dsimp only
  rw [if_pos (decide_eq_true ⟨by omega, by omega, hi⟩)]; rfl
theorem oAdd_lst (a b : List D) (ρ : Env) (M : Mem) (h : a.length + b.length ≤ 16777216) : oAdd (.lst a) (.lst b) ρ M = some (.ok (.lst (a ++ b)), M) := by
  unfold oAdd
  dsimp only
  rw [if_pos h]; rfl
theorem oAbs_ap (i : Int) (ρ : Env) (M : Mem) : oAbs [.int i] ρ M = some (.ok (.int (if i < 0 then -i else i)), M) := rfl
theorem oMax_ap (i j : Int) (ρ : Env) (M : Mem) : oMax [.int i, .int j] ρ M = some (.ok (.int (if j > i then j else i)), M) := rfl
theorem oMin_ap (i j : Int) (ρ : Env) (M : Mem) : oMin [.int i, .int j] ρ M = some (.ok (.int (if j < i then j else i)), M) := rfl
theorem oToInt_b (b : Bool) (ρ : Env) (M : Mem) : oToInt [.bl b] ρ M = some (.ok (.int (if b then 1 else 0)), M) := rfl
theorem oToInt_i (b : Int) (ρ : Env) (M : Mem) : oToInt [.int b] ρ M = some (.ok (.int b), M) := rfl
theorem oLen_lst (ds : List D) (ρ : Env) (M : Mem) : oLen [.lst ds] ρ M = some (.ok (.int ds.length), M) := rfl
theorem oLen_scr (ds : List D) (ρ : Env) (M : Mem) : oLen [.scr ds] ρ M = some (.ok (.int ds.length), M) := rfl
theorem oLen_tup (ds : List D) (ρ : Env) (M : Mem) : oLen [.tup ds] ρ M = some (.ok (.int ds.length), M) := rfl
def ixR (x : Option D) (M : Mem) : Option (Res D × Mem) := match x with
  | some d => some (.ok d, M)
  | none => none
theorem ixR_ok (d : D) (M : Mem) : ixR (some d) M = some (.ok d, M) := rfl
theorem oIx_lst (ds : List D) (i : Int) (ρ : Env) (M : Mem) : oIx (.lst ds) (.int i) ρ M = ixR (atI ds i) M := by
  unfold oIx ixR seqOf
  dsimp only
  all_goals (split <;> rename_i h <;> rw [h])
theorem oIx_scr (ds : List D) (i : Int) (ρ : Env) (M : Mem) : oIx (.scr ds) (.int i) ρ M = ixR (atI ds i) M := by
  unfold oIx ixR seqOf
  dsimp only
  all_goals (split <;> rename_i h <;> rw [h])
theorem oIx_tup (ds : List D) (i : Int) (ρ : Env) (M : Mem) : oIx (.tup ds) (.int i) ρ M = ixR (atI ds i) M := by
  unfold oIx ixR seqOf
  dsimp only
  all_goals (split <;> rename_i h <;> rw [h])
theorem oIx_ptr {n : Nat} {ds : List D} (i : Int) (ρ : Env) {M : Mem} (h : M[n]? = some (some ds)) : oIx (.ptr n) (.int i) ρ M = ixR (atI ds i) M := by
  unfold oIx ixR seqOf
  dsimp only
  rw [h]
  all_goals (try dsimp only)
  all_goals (split <;> rename_i h <;> rw [h])
theorem oIx_fr0 (q : Rat) (ρ : Env) (M : Mem) : oIx (frQ q) (.int 0) ρ M = some (.ok (.int q.num), M) := rfl
theorem oIx_fr1 (q : Rat) (ρ : Env) (M : Mem) : oIx (frQ q) (.int 1) ρ M = some (.ok (.int (q.den : Int)), M) := rfl
theorem oRng1_ap (j : Int) (ρ : Env) (M : Mem) (h1 : 0 ≤ j) (h : j < 2 ^ 62) : oRng1 [.int j] ρ M = some (.ok ((List.range j.toNat).map fun (i : Nat) => D.int (i : Int)), M) := by
  unfold oRng1
  dsimp only
  rw [if_pos ⟨by omega, h⟩]; rfl
theorem oItL_ap (ds : List D) (ρ : Env) (M : Mem) : oItL (.lst ds) ρ M = some (.ok ds, M) := rfl
theorem oItT_ap (ds : List D) (ρ : Env) (M : Mem) : oItT (.tup ds) ρ M = some (.ok ds, M) := rfl
theorem sFor_ap (h : Ev (List D)) (b : Tg) (f : Sv) (ρ : Env) (M : Mem) : sFor h b f ρ M = thenR (h ρ M) ρ fun ds M1 => forF b f ds ρ M1 := rfl
def ofR (x : Option (Out × Mem)) (k : Env → Mem → Option (Out × Mem)) : Option (Out × Mem) := match x with
  | some (.nx ρ2, M2) => k ρ2 M2
  | some (.ct ρ2, M2) => k ρ2 M2
  | some (.bk ρ2, M2) => some (.nx ρ2, M2)
  | r => r
theorem ofR_nx (ρ : Env) (M : Mem) (k : Env → Mem → Option (Out × Mem)) : ofR (some (.nx ρ, M)) k = k ρ M := rfl
theorem ofR_rt (d : D) (M : Mem) (k : Env → Mem → Option (Out × Mem)) : ofR (some (.rt d, M)) k = some (.rt d, M) := rfl
def forB (x : Option Env) (k : Env → Option (Out × Mem)) : Option (Out × Mem) := match x with
  | none => none
  | some ρ => k ρ
theorem forB_ok (ρ : Env) (k : Env → Option (Out × Mem)) : forB (some ρ) k = k ρ := rfl
theorem forF_nil (b : Tg) (f : Sv) (ρ : Env) (M : Mem) : forF b f [] ρ M = some (.nx ρ, M) := rfl
theorem forF_cons (b : Tg) (f : Sv) (d : D) (ds : List D) (ρ : Env) (M : Mem) : forF b f (d :: ds) ρ M = forB (b d ρ) fun ρ1 => ofR (f ρ1 M) fun ρ2 M2 => forF b f ds ρ2 M2 := by
  conv => lhs; unfold forF
  unfold forB ofR
  rfl
/-- x[i] = e -/
theorem sStore_ap (f fo fi : Ev D) (ρ : Env) (M : Mem) : sStore f fo fi ρ M = thenR (f ρ M) ρ fun d M1 => thenR (fo ρ M1) ρ fun o M2 => thenR (fi ρ M2) ρ fun i M3 => match o, i with
  | .ptr n, .int k => match M3[n]? with
    | some (some ds) => match ixN ds.length k with
      | some j => if d.np = true then some (.nx ρ, M3.set n (some (ds.set j d))) else none
      | none => none
    | _ => none
  | _, _ => none := rfl
end
theorem atI_nat' {α : Type} (l : List α) (n : Nat) : atI l (n : Int) = l[n]? := by
  unfold atI ixN
  rw [if_pos (by omega)]
  by_cases h : n < l.length
  · rw [if_pos (by omega)]; simp
  · rw [if_neg (by omega)]; simp; omega
end Bw
/-! calls where no repr is under way -/
namespace Bw
open PySem PySem.Spec PyProof.Rows L2
structure Rg (k : Nat) (A : Around) : Prop where
  r : Room k A
  g : A.guards = some []
theorem Rg.mono {j k : Nat} {A : Around} (h : Rg k A) (l : j ≤ k) : Rg j A := ⟨h.r.mono l, h.g⟩
theorem Rg.units {k : Nat} {A : Around} (h : Rg k A) : A.units + 64 < cLine := h.r.units
theorem Rg.un200 {k : Nat} {A : Around} (h : Rg k A) : A.units + 200 < cLine := by have := h.r.un; omega
/-- a def's promise, no repr under way -/
structure GOk (P : Program) (w : World) (K : PySem.W.Frag) (mg : Str → Option Value) (base : Heap) (C : CXT) (k : Nat) (f : Addr) (fd : FuncData) (ps : List Str) (sp : Sp) : Prop where
  n : ∀ vs H Q E, sp vs H Q E → vs.length = ps.length
  go : ∀ (A : Around) (ou : List PySem.Env) (s : Shared) (H : Hp) (ar : Args) (us : List Value) (vs : List V) (Q : VK) (E : XK), Rg k A → Env0 P w K mg base A ou s H → BindsTo s fd ar (ps.zip us) → Vals vs us → sp vs H Q E → codeAny (model P w) A (.call (.ref f) ar) (CR C ou P w H s Q E) s
section
variable {P : Program} {w : World} {K : PySem.W.Frag} {mg : Str → Option Value} {base : Heap} {C : CXT} {k : Nat} {f : Addr} {fd : FuncData} {ps : List Str} {sp : Sp}
theorem GOk.mono {j : Nat} (F : GOk P w K mg base C j f fd ps sp) (l : j ≤ k) : GOk P w K mg base C k f fd ps sp := ⟨F.n, fun A ou s H ar us vs Q E hr => F.go A ou s H ar us vs Q E (hr.mono l)⟩
theorem GOk.imp {sp' : Sp} (F : GOk P w K mg base C k f fd ps sp) (h : ∀ vs H Q E, sp' vs H Q E → sp vs H Q E) : GOk P w K mg base C k f fd ps sp' :=
  ⟨fun vs H Q E q => F.n vs H Q E (h vs H Q E q), fun A ou s H ar us vs Q E hr he hb hv hs => F.go A ou s H ar us vs Q E hr he hb hv (h vs H Q E hs)⟩
/-- by its body -/
theorem gok_of {x qual : Str} {st : Stmt} {N : List Str} (FU : Fun K x qual st f fd) (S : FnScope N ps (defScope st)) (hn : ∀ vs H Q E, sp vs H Q E → vs.length = ps.length)
    (hbody : ∀ (cdv : Value) (A : Around) (ou : List PySem.Env) (s : Shared) (H : Hp) (vs : List V) (Q : VK) (E : XK), Rg k (A.deeper (envOfC qual (defScope st) s.heap.objs.size f cdv)) → sp vs H Q E →
      ∃ t, PSs (cxOf C P w K mg base N qual (defScope st) f cdv A ou s H E) (defBody st) t ∧ t { nx := fun _ H' => Q .non H', rt := Q } (L2.start N vs) H) : GOk P w K mg base C (k + 1) f fd ps sp := by
  obtain ⟨oc, od, kV, doc, pm, an, cdv, ct, osl, e, lk, hcd⟩ := FU.ex
  subst e
  refine ⟨hn, fun A ou s H ar us vs Q E hr e0 hb rv hsp => ?_⟩
  have stay := fun (b : Addr) (o : Obj) (q : base.get? b = some o) => (e0.bs b o q).1
  have KX : K.In s.heap := e0.mod.kin.keeps stay
  have lim : s.heap.NoLimit := e0.mod.nolimit.keeps stay
  refine codeAny_call_function hr.r.depth (KX _ _ lk) rfl S.co S.gen rfl (PySem.W.codeRec_of KX hcd) (hb _ _ _ _ (wpAny_newFunctionEnv_cells S.kind (fun z hz => ?_) fun env he s1 ic => ?_))
  · rcases S.par z.1 (List.of_mem_zip hz).1 with q | q
    · exact Or.inl q
    · exact Or.inr ⟨q, PySem.W.cellsFrom_some _ _ _ (Or.inl q)⟩
  · subst he
    refine ⟨lim.keeps ic.toInCall.keep, codeAny_func ?_⟩
    obtain ⟨t, ht, hq⟩ := hbody cdv A ou s H vs Q E ⟨hr.r.deeper _, hr.g⟩ hsp
    refine wpAny_mono (ht.run [] s1 (L2.start N vs) H _ (inv_start S hr.r.hd e0 (hn _ _ _ _ hsp) rv ic) hq) (fun fl s2 hs => ?_) fun _ _ z => z
    cases fl with
    | brk => obtain ⟨_, _, _, z⟩ := hs; exact z.elim
    | cont => obtain ⟨_, _, _, z⟩ := hs; exact z.elim
    | next => obtain ⟨σ2, H2, J, z⟩ := hs; exact ⟨.non, H2, J.os, J.bare, J.base, J.hok, rfl, z⟩
    | ret u => obtain ⟨v, σ2, H2, J, ru, z⟩ := hs; exact ⟨v, H2, J.os, J.bare, J.base, J.hok, ru, z⟩
end
/-- g(e, ..) of a def -/
theorem pe_callG {X : Cx} {C : CXT} {k : Nat} {f : Addr} {fd : FuncData} {ps : List Str} {sp : Sp} {x : Str} {p pos : Pos} {e : Expr} {es : List Expr} {ta : TA} {E : L2.St → XK} (F : GOk X.prog X.w X.K X.mg X.base C k f fd ps sp) (hr : Rg k X.A) (hg : Gl X x) (hm : X.mg x = some (.ref f)) (hk : PySem.W.keepIn X.K (.ref f) = true) (hb : Binds X.K fd ps []) (hx : ∀ σ, PassesAt C X σ (E σ))
    (hargs : PA X (e :: es) ta) (hdb : (x == ("__debug__" : Str)) = false := by decide) (he : starEach (e :: es) X.env = (false, eval e X.env) :: starEach es X.env := by rfl) (hpl : (backTo pos (starEach es X.env)).any (·.1) = false := by rfl) :
    PE X (.Call (.Name x p) (e :: es) [] pos) (tCallS sp E ta) := by
  refine ⟨fun pins s σ H Q I h => wpAny_Call_Name_kw (ld_glob I hg hm (PySem.W.callWith_K (h₀ := X.base) I.ok.mod.kin hk (thn (hargs.run pos pins s σ H _ I h) fun us s1 z => ?_) he hpl) hdb)⟩
  obtain ⟨vs, H1, I1, rv, q⟩ := z
  have hl : us.length = ps.length := rv.length.symm.trans (F.n _ _ _ _ q)
  have b := hb s1 us I1.kIn (by rw [List.append_nil]; exact hl)
  rw [List.append_nil] at b
  refine ⟨I1.kIn, wpAny_call (codeAny_mono (F.go X.A X.stack s1 H1 ⟨us, []⟩ us vs Q (E σ) hr I1.env0 b rv q) fun res s2 hq => ?_)⟩
  rcases res with er | fl
  · exact hx σ pins H1 s1 er s2 I1 hq
  · cases fl <;> first | exact I1.after hq | exact False.elim hq
/-- the head: the law's promise at the heap behind the top -/
theorem headG {P : Program} {w : World} {K : PySem.W.Frag} {mg mb : Str → Option Value} {k : Nat} {fa sa : Addr} {fd : FuncData} {x : Str} {sp : Sp} {st : Shared} {us : List Value} {ns : List Int} (KX : K.In st.heap) (nsG : st.heap.Ns mainGlobals mg) (nsB : st.heap.Ns builtinsNs mb) (bbt : ∀ y : Str, y ≠ "__name__" → mb y = bootBuiltins y) (lim : st.heap.NoLimit) (ng : st.gens = #[])
    (hs : st.heap.get? sa = some { cls := .type "list", data := .seq us.toArray }) (ii : IntsAre us ns) (hl : ns.length ≤ sizeLine) (hr : Room k callerA) (F : ∀ b : Heap, K.In b → b.Ns mainGlobals mg → GOk P w K mg b CX0 k fa fd [x] sp) (bi : ∀ (s : Shared) (u : Value), BindsTo s fd ⟨[u], []⟩ [(x, u)])
    (hsp : ∀ H : Hp, SqL K H sa (ns.map V.int) → sp [.ref sa] H (fun v _ => v = .bl true) fun _ _ _ => False) : codeAny (model P w) callerA (.call (.ref fa) ⟨[.ref sa], []⟩) (fun r s' => r = .ok (.ret (.bool true)) ∧ OldK st.heap s'.heap ∧ s'.os = st.os ∧ AllBare s'.gens) st := by
  have main : ∀ H : Hp, Only H → SqL K H sa (ns.map V.int) → HOk P w H st.heap → (∀ b, H b ≠ none → b = sa ∧ K.lookup sa = none) → codeAny (model P w) callerA (.call (.ref fa) ⟨[.ref sa], []⟩) (fun r s' => r = .ok (.ret (.bool true)) ∧ OldK st.heap s'.heap ∧ s'.os = st.os ∧ AllBare s'.gens) st := by
    intro H oH sH kH only
    have offD : ∀ {b : Addr} {o : Obj} {es : Array DictEntry} {ep : Nat}, st.heap.get? b = some o → o.data = .dict es ep → H b = none := by
      intro b o es ep e d
      by_cases z : H b = none
      · exact z
      · have zz := (only b z).1
        rw [zz, hs] at e
        cases e
        cases d
    have back : ∀ {b : Addr} {m : Str → Option Value}, st.heap.Ns b m → (hidT st.heap H).Ns b m := by
      rintro b m ⟨o, es, ep, e, d, rest⟩
      exact ⟨o, es, ep, hidT_get e (offD e d), d, rest⟩
    have kin : K.In (hidT st.heap H) := by
      intro b o e
      refine hidT_get (KX b o e) ?_
      by_cases z : H b = none
      · exact z
      · obtain ⟨z1, z2⟩ := only b z
        rw [z1, z2] at e
        cases e
    obtain ⟨ml, nl, ql⟩ := lim
    have md : Mod K mg (hidT st.heap H) := ⟨kin, back nsG, ⟨mb, back nsB, bbt⟩, ml, back nl, ql⟩
    have en : Env0 P w K mg (hidT st.heap H) callerA [] st H := ⟨rfl, md, fun b o e => of_hidT e, Nat.le_of_eq (hidT_size _ _), trivial, fun b hb => (by cases hb), kH, .of_eq ng⟩
    refine codeAny_mono ((F _ kin (back nsG)).go callerA [] st H ⟨[.ref sa], []⟩ [.ref sa] [.ref sa] _ _ ⟨hr, rfl⟩ en (bi st (.ref sa)) (.cons rfl .nil) (hsp H sH)) fun r s' h => ?_
    rcases r with er | fl
    · exact False.elim h
    · cases fl with
      | ret u =>
        obtain ⟨v, H2, os, bare, un, k2, ru, q⟩ := h
        have qv : v = .bl true := q
        subst qv
        have eu : u = Value.bool true := ru
        subst eu
        refine ⟨rfl, OldK.of_keep fun b o e => ?_, os, bare⟩
        by_cases z : H b = none
        · exact un.keep b o e z (fun y => by cases y) (fun y => by cases y)
        · rcases oH b with y | ⟨ob, xs, y⟩
          · exact absurd y z
          · have e1 := (kH b _ y).1
            have e2 := (k2 b _ (un.frzs b ob _ y)).1
            rw [e] at e1
            cases e1
            exact e2
      | _ => exact False.elim h
  have rv := vals_ints ii
  cases hk : K.lookup sa with
  | some o =>
    have e := KX sa o hk
    rw [hs] at e
    cases e
    exact main (fun _ => none) (fun _ => Or.inl rfl) (.inr ⟨_, us.toArray, _, hk, rfl, rfl, rfl, by rw [List.size_toArray, ii.length]; exact hl, by simpa using rv⟩) (fun b u z => by cases z) fun b z => absurd rfl z
  | none =>
    let Hs : Hp := fun b => if b = sa then some (.frz { cls := .type "list", data := .seq us.toArray } (.lst (ns.map V.int))) else none
    have at_ : Hs sa = some (.frz { cls := .type "list", data := .seq us.toArray } (.lst (ns.map V.int))) := if_pos rfl
    have off : ∀ b, b ≠ sa → Hs b = none := fun b z => if_neg z
    refine main Hs (fun b => ?_) (.inl (.inr ⟨_, at_⟩)) (fun b u z => ?_) fun b z => ?_
    · by_cases y : b = sa
      · subst y; exact Or.inr ⟨_, _, at_⟩
      · exact Or.inl (off b y)
    · by_cases y : b = sa
      · subst y
        rw [at_] at z
        cases z
        exact ⟨hs, by rw [List.length_map]; exact hl, us, _, rv, hs⟩
      · rw [off b y] at z; cases z
    · by_cases y : b = sa
      · exact ⟨y, hk⟩
      · exact absurd (off b y) z
theorem walkG {l : PySem.W.OpenLaw} {n k : Nat} {q : Program} {loose : List Str} {XP : (Str → Option Value) → Heap → Prop} {YP : World → Heap → Prop} {d : DefRec} {K : Params → PySem.W.Frag} {sp : World → Sp} {x : Str} (mo : l.most = some n) (hz : n ≤ sizeLine) (df : d.params.defaults = []) (hr : Room k callerA) (hY : ∀ (w : World) (h : Heap), YP w h → (K w.params).In h)
    (F : ∀ (w : World) (mg : Str → Option Value) (fa : Addr) (h : Heap), (K w.params).In h → h.Ns mainGlobals mg → mg d.name = some (.ref fa) → ∃ fd : FuncData, (∀ (s : Shared) (u : Value), BindsTo s fd ⟨[u], []⟩ [(x, u)]) ∧ ∀ b : Heap, (K w.params).In b → b.Ns mainGlobals mg → GOk l.prog w (K w.params) mg b CX0 k fa fd [x] (sp w))
    (hsp : ∀ (w : World) (H : Hp) (a : Addr) (ns : List Int), ns.length ≤ n → SqL (K w.params) H a (ns.map V.int) → sp w [.ref a] H (fun v _ => v = .bl true) fun _ _ _ => False) : PySem.W.WalkO q loose XP YP l.row.toRowW d [] (fun f vs => PySem.call f vs) := by
  refine Att.attach_call mo df fun w s0 s1 mg mb fa o pm cd doc a vs ns G Y ho hd hcd hmg hobj hints hlen hgen => ?_
  have KX := hY w _ Y
  obtain ⟨fd, b, hF⟩ := F w mg fa _ KX G.T.g hmg
  exact headG KX G.T.g G.T.b G.T.builtins G.T.nolimit hgen hobj hints (Nat.le_trans hlen hz) hr hF b fun H hS => hsp w H a ns hlen hS
end Bw
set_option maxHeartbeats 4000000
/-! t[::-1] of a tuple; x in a tuple; repr of data -/
namespace Bw
open PySem PySem.Spec PyProof.Rows L2 HT
section
variable {prog : Program} {w : World} {A : Around} {E : Value → Shared → Prop} {s : Shared}
theorem adj_rev (n : Nat) : Builtin.Slice.sliceAdjust none none (-1) (n : Int) = ((n : Int) - 1, -1) := by
  unfold Builtin.Slice.sliceAdjust
  simp
theorem places_rev (n : Nat) : Builtin.Slice.slicePlaces ((n : Int) - 1) (-1) (-1) = n := by
  unfold Builtin.Slice.slicePlaces
  simp
  omega
theorem applied_rev {sl : Addr} {vk : Value} {n : Nat} {Q : Int × Int × Nat → Shared → Prop} (hs : s.heap.IsSliceOf sl .none .none vk) (pk : IsPart vk (some (-1))) (h : Q ((n : Int) - 1, -1, n) s) : wpAny (model prog w) A (Builtin.Slice.sliceApplied (.ref sl) (pure (n : Int))) Q E s := by
  obtain ⟨os, hos, hcs, hds⟩ := id hs
  unfold Builtin.Slice.sliceApplied Builtin.Slice.sliceFields
  refine wpAny_bind (wpAny_bind (wpAny_field hos hds (x := .none) rfl (wpAny_bind (wpAny_field hos hds (x := .none) rfl (wpAny_bind (wpAny_field hos hds (x := vk) rfl (wpAny_pure ?z)))))))
  case z =>
    refine wpAny_bind (slicePart_ pk ?_)
    show wpAny _ _ (if ((-1 : Int) == 0) = true then _ else _) _ _ s
    rw [if_neg (by decide)]
    refine wpAny_bind (slicePart_ .none (wpAny_bind (slicePart_ .none (wpAny_bind (wpAny_pure ?_)))))
    show wpAny _ _ (match Builtin.Slice.sliceAdjust none none (-1) (n : Int) with | (lo, hi) => pure (lo, (-1 : Int), Builtin.Slice.slicePlaces lo hi (-1))) _ _ s
    rw [adj_rev]
    show wpAny _ _ (pure ((n : Int) - 1, (-1 : Int), Builtin.Slice.slicePlaces ((n : Int) - 1) (-1) (-1))) _ _ s
    rw [places_rev]
    exact wpAny_pure h
theorem pick_rev (xs : Array Value) : ((List.range xs.size).filterMap fun (m : Nat) => xs[(((xs.size : Int) - 1) + (m : Int) * -1).toNat]?).toArray = xs.toList.reverse.toArray := by
  congr 1
  have e : ∀ k : Nat, k ≤ xs.size → ((List.range k).filterMap fun (m : Nat) => xs[(((xs.size : Int) - 1) + (m : Int) * -1).toNat]?) = xs.toList.reverse.take k := by
    intro k
    induction k with
    | zero => intro _; simp
    | succ k ih =>
      intro hk
      rw [List.range_succ, List.filterMap_append, ih (by omega), List.take_succ]
      congr 1
      have e1 : (((xs.size : Int) - 1) + (k : Int) * -1).toNat = xs.size - 1 - k := by omega
      have e2 : xs.size - 1 - k < xs.size := by omega
      rw [List.getElem?_reverse (by rw [Array.length_toList]; omega)]
      simp only [List.filterMap_cons, List.filterMap_nil, e1, Array.getElem?_toList, Array.length_toList]
      rw [Array.getElem?_eq_getElem e2]
      rfl
  rw [e _ (Nat.le_refl _), List.take_of_length_le (by simp)]
theorem getItem_tuple_rev {t sl : Addr} {items : Array Value} {vk : Value} {Q : Value → Shared → Prop} (ht : IsTup s.heap t items) (hs : s.heap.IsSliceOf sl .none .none vk) (pk : IsPart vk (some (-1)))
    (h : Q (.ref s.heap.objs.size) { s with heap := s.heap.push { cls := .type "tuple", data := .seq items.toList.reverse.toArray } }) (hz : items.size ≤ sizeLine) : wpAny (model prog w) A (getItem (.ref t) (.ref sl)) Q E s := by
  have ok : sizeOk (.seq items.toList.reverse.toArray) := by
    show items.toList.reverse.toArray.size ≤ sizeLine
    simpa using hz
  obtain ⟨os, hos, hcs, hds⟩ := id hs
  have ty : s.TypeIs (.ref sl) "slice" := ⟨os, hos, hcs⟩
  unfold getItem
  try with_reducible refine wpAny_holding ?_
  first | refine wpAny_bind (wpAny_pure ?_) | skip
  refine wpAny_bind (wpAny_sequenceKey ht.typeIs (by decide) (wpAny_bind (wpAny_callSpecial?_slot (name := Str.ofString "__getitem__") ht.typeIs PyProof.Rows.slot_tuple_getitem (wpAny_call_entry PyProof.Rows.slot_tuple_getitem ht.typeIs entry_tuple_getitem ?z (args_tuple_getitem _ _)))))
  case z =>
    show wpAny _ _ (Builtin.Tuple.tupleItemsOf (.ref t) >>= _) _ _ s
    refine wpAny_bind (tupleItemsOf_ ht (wpAny_bind (wpAny_typeOf ty ?_)))
    rw [if_pos (by decide)]
    refine wpAny_bind (applied_rev hs pk ?_)
    have no : ¬ ((((items.size : Int) - 1) == 0 && (-1 : Int) == 1 && items.size == items.size) = true) := by simp
    show wpAny _ _ (if (((items.size : Int) - 1) == 0 && (-1 : Int) == 1 && items.size == items.size) = true then _ else _) _ _ s
    rw [if_neg no, pick_rev]
    first
      | exact wpAny_bind (m := Builtin.Tuple.tupleExact _) (wpAny_newObj_type (wpAny_pure ⟨_, rfl, wpAny_pure h⟩) ok)
      | exact wpAny_bind (m := Builtin.Tuple.tupleExact _) (wpAny_newObj_type (wpAny_bind (wpAny_pure (wpAny_pure ⟨_, rfl, wpAny_pure h⟩))) ok)
      | exact wpAny_bind (wpAny_bind (m := Builtin.Tuple.tupleExact _) (wpAny_newObj_type (wpAny_pure (wpAny_pure ⟨_, rfl, wpAny_pure h⟩)) ok))
      | exact wpAny_bind (wpAny_bind (m := Builtin.Tuple.tupleExact _) (wpAny_newObj_type (wpAny_pure ⟨_, rfl, wpAny_pure h⟩) ok))
end
section
variable {X : Cx}
/-- x[::-1] of a list or a tuple -/
def tRv (K : PySem.W.Frag) (te : TE) : TE := fun σ H Q => te σ H fun x H1 => ∃ a xs, x = .ref a ∧ ((SqL K H1 a xs ∧ ∀ p, H1 p = none → Q (.ref p) (upd H1 p (.lst xs.reverse))) ∨ (SqT K H1 a xs ∧ ∀ p, H1 p = none → Q (.ref p) (upd H1 p (.tup xs.reverse))))
theorem pe_rv {e : Expr} {te : TE} {k : Nat} {p1 p2 p3 pos : Pos} (he : PE X e te) : PE X (.Subscript e (.Slice none none (some (.UnaryOp .USub (.Constant (.int 1) k p1) p2)) p3) pos) (tRv X.K te) := by
  refine ⟨fun pins s σ H Q I h => Subscript_ (thn (he.run pins s σ H _ I h) fun v s1 z1 => ?_)⟩
  obtain ⟨x, H1, I1, r1, a, xs, ex, q⟩ := z1
  subst ex
  cases r1
  have step : PO X (some (.UnaryOp .USub (.Constant (.int 1) k p1) p2)) (tPart (tUn (rU fun i => .int (-i)) (tC (.int 1)))) := po_some (pe_un un_neg pe_int)
  refine wpAny_Slice (thn (po_none.run pins s1 σ H1 (fun o H2 => o = none ∧ H2 = H1) I1 ⟨rfl, rfl⟩) fun vl s2 z2 => ?_)
  obtain ⟨l, H2, I2, pl, el, e2⟩ := z2
  subst el e2
  refine thn (po_none.run pins s2 σ H2 (fun o H3 => o = none ∧ H3 = H2) I2 ⟨rfl, rfl⟩) fun vu s3 z3 => ?_
  obtain ⟨u, H3, I3, pu, eu, e3⟩ := z3
  subst eu e3
  refine thn (step.run pins s3 σ H3 (fun o H4 => o = some (-1) ∧ H4 = H3) I3 ⟨1, rfl, -1, rfl, rfl, rfl⟩) fun vk s4 z4 => ?_
  obtain ⟨o, H4, I4, pk, eo, e4⟩ := z4
  subst eo e4
  have I5 : Inv X pins σ H4 { s4 with heap := s4.heap.push { cls := .type "slice", data := .fields #[vl, vu, vk] } } := I4.kept (t' := s4.toks) fun b ob q => Heap.get?_push_of_some _ q
  show wpAny (model X.prog X.w) X.A (subscriptTail e (.Slice none none (some (.UnaryOp .USub (.Constant (.int 1) k p1) p2)) p3) (.ref a) (.ref s4.heap.objs.size)) (EP X pins σ Q) X.xe _
  rcases q with ⟨hx, q⟩ | ⟨hx, q⟩
  · obtain ⟨its, r, ht, hz⟩ := I5.list hx
    have hn := r.length
    refine tail_any (ops := [.ref a, .ref s4.heap.objs.size]) ht.isList.typeIs (PySem.slot_list_getitem.lookup) (wpAny_getItem_list_slice ht.isList (Heap.IsSliceOf.new _ vl vu vk) pl pu pk (by decide) ?_ (by rw [List.size_toArray]; omega)) (by with_unfolding_all rfl)
    rw [PySem.W.krv_pick]
    exact ⟨.ref _, _, I5.laid (t' := s4.toks) (o := .lst xs.reverse) (fun b ob q => Heap.get?_push_of_some _ q) (Nat.le_refl _) ⟨by rw [List.length_reverse]; exact hz, _, 0, r.reverse, Heap.get?_push_size _ rfl⟩, rfl, q _ (I5.hok.fresh (Nat.le_refl _))⟩
  · obtain ⟨its, r, ht, hz⟩ := I5.tuple hx
    have hn := r.length
    cases pl
    cases pu
    refine tail_any (ops := [.ref a, .ref s4.heap.objs.size]) ht.typeIs (PyProof.Rows.slot_tuple_getitem.lookup) (getItem_tuple_rev ht (Heap.IsSliceOf.new _ .none .none vk) pk ?_ (by rw [List.size_toArray]; omega)) (by with_unfolding_all rfl)
    exact ⟨.ref _, _, I5.laid (t' := s4.toks) (o := .tup xs.reverse) (fun b ob q => Heap.get?_push_of_some _ q) (Nat.le_refl _) ⟨by rw [List.length_reverse]; exact hz, _, r.reverse, IsTup.new _ _⟩, rfl, q _ (I5.hok.fresh (Nat.le_refl _))⟩
/-- x in t, x not in t -/
def rInT (K : PySem.W.Frag) (neg : Bool) : R2 := fun x y H Q => ∃ d ds, Dp K H x d ∧ Dp K H y (.tuple ds) ∧ SeqAt.shaped d = true ∧ SeqAt.shaped (.tuple ds) = true ∧ Q (.bl (if neg then !ds.any fun z => PyData.eqv z d else ds.any fun z => PyData.eqv z d)) H
theorem op_notInT (hu : X.A.units + 65 < cLine) : OpR X (compareOp .NotIn) (rInT X.K true) := by
  intro pins s σ H x y v u Q I rx ry h
  obtain ⟨d, ds, hd, he, sd, se, q⟩ := h
  obtain ⟨_, r1⟩ := Dp.reads I d x v hd rx
  obtain ⟨_, r2⟩ := Dp.reads I (.tuple ds) y u he ry
  exact SeqAt.notIn_tuple_reads r2 r1 (SeqAt.canLay_of_shaped se) (SeqAt.canLay_of_shaped sd) (room_in_shaped sd hu) ⟨.bl _, H, I, rfl, q⟩
/-- repr of data -/
def rRepr (K : PySem.W.Frag) : List V → Hp → VK → Prop := fun xs H Q => ∃ x d, xs = [x] ∧ Dp K H x d ∧ d.showable = true ∧ d.hasDict = false ∧ d.depth ≤ 100 ∧ d.shown.length ≤ sizeLine ∧ Q (.str d.shown) H
end
end Bw
namespace Bw
open PySem PySem.Spec PyProof.Rows L2 RZ
section
variable {X : Cx} {W : WN} {pos : Pos} {K : PySem.W.Frag}
/-! ### calls of defs, no repr under way -/
theorem de_callG {C : CXT} {WC : WX} {k n : Nat} {f : Addr} {fd : FuncData} {ps : List Str} {F : Fd} {x : Str} {p : Pos} {e : Expr} {es : List Expr} {h : Ev (List D)} (hw : WOk X.mg WC W) (FO : GOk X.prog X.w X.K X.mg X.base C k f fd ps (spF X.K X.mg n F)) (hr : Rg k X.A) (hm : X.mg x = some (.ref f)) (hk : PySem.W.keepIn X.K (.ref f) = true) (hb : Binds X.K fd ps []) (hx : ∀ σ, PassesAt C X σ (WE WC σ))
    (hargs : DA X W (e :: es) h) (hg : Gl X x := by rfl) (hdb : (x == ("__debug__" : Str)) = false := by decide) (he : starEach (e :: es) X.env = (false, eval e X.env) :: starEach es X.env := by rfl) (hpl : (backTo pos (starEach es X.env)).any (·.1) = false := by rfl) :
    DE X W (.Call (.Name x p) (e :: es) [] pos) (bnd h (oCall n F)) := by
  obtain ⟨t, q, s⟩ := hargs
  refine ⟨_, pe_callG FO hr hg hm hk hb hx q hdb he hpl, fun θ G => ?_⟩
  refine (s θ G).bind (R2 := RV X.K) (k := fun (vs : List V) (σ : L2.St) (H1 : Hp) (Q : V → Hp → Prop) => spF X.K X.mg n F vs H1 Q (WE WC σ)) fun θ1 G1 vs ds _ _ hv => ?_
  intro ρ M r M' θ2 G2 σ H Q p2 s2 e rs rv kk
  unfold oCall at e
  split at e
  · rename_i hl
    exact ⟨θ2, G2, ds, M, r, M', rs, hv.mono p2 s2, hl, e, fun θ' G' H' a b c => ⟨fun x C h1 h2 => hw _ _ _ ((kk θ' G' H' a b c).1 x h1) C h2, (kk θ' G' H' a b c).2⟩⟩
  · cases e
/-! ### repr of data -/
def oReprD (ds : List D) : Ev D := match ds with
  | [d] => if d.pl = true ∧ (toPy d).showable = true ∧ (toPy d).hasDict = false ∧ (toPy d).depth ≤ 100 ∧ (toPy d).shown.length ≤ 16777216 then ret (.str (toPy d).shown) else stk
  | _ => stk
variable {p p2 : Pos} {e : Expr} {es : List Expr} {h : Ev (List D)} {f g : Ev D} {a b c : Expr}
/-! ### tuple(..), list(..) -/
theorem seqL_of {θ : List Th} {G H : Hp} {M : Mem} {v : V} {d : D} {ds : List D} (rs : Rs K θ G H M) (hv : Rv K θ G v d) (h : seqOf d M = some ds) : (∃ a xs, v = .ref a ∧ SqL K H a xs ∧ RpL K G xs ds) ∨ ∃ a xs, v = .ref a ∧ SqT K H a xs ∧ RpL K G xs ds ∧ Rp K G v (.tup ds) := by
  cases hv with
  | dat q =>
    cases q with
    | tup h1 l g => cases h; exact .inr ⟨_, _, rfl, seqT rs.sub h1, ⟨l, g⟩, .tup h1 l g⟩
    | lst h1 l g => cases h; exact .inl ⟨_, _, rfl, .inl (.inl (rs.sub _ _ h1)), l, g⟩
    | scr h1 l g => cases h; exact .inl ⟨_, _, rfl, rs.sub.seq h1, l, g⟩
    | _ => cases h
  | ptr hn =>
    rename_i n a
    unfold seqOf at h
    dsimp only at h
    split at h
    · rename_i es hm
      cases h
      obtain ⟨g, xs, hx, rl⟩ := rs.mem n _ _ hn hm
      exact .inl ⟨_, xs, rfl, .inl (.inl hx), rl⟩
    · cases h
  | dpt _ => cases h
  | npt _ => cases h
  | exv _ _ => cases h
def oSq (k : List D → D) (ds : List D) : Ev D := fun ρ M => match ds with
  | [d] => match seqOf d M with
    | some es => some (.ok (k es), M)
    | none => none
  | _ => none
def oTupOf : List D → Ev D := oSq .tup
def oLstOf : List D → Ev D := oSq .lst
theorem snd_tupOf : SndC K W (fun xs H Q => ∃ p ys, xs = [.ref p] ∧ ((SqL K H p ys ∧ ∀ l, H l = none → Q (.ref l) (upd H l (.tup ys))) ∨ (SqT K H p ys ∧ Q (.ref p) H))) oTupOf := by
  intro θ0 G0 xs ds hx ρ M r M' θ G σ H Q p s e rs rv kk
  unfold oTupOf oSq at e
  split at e
  · rename_i d
    split at e
    · rename_i es he
      cases e
      obtain ⟨v, rfl, hv⟩ := vals1 hx
      rcases seqL_of rs (hv.mono p s) he with ⟨a, xs, rfl, q, rl⟩ | ⟨a, xs, rfl, q, rl, rp⟩
      · refine ⟨a, xs, rfl, .inl ⟨q, fun l hl => ?_⟩⟩
        have g := rs.fresh hl
        exact (kk θ (upd G l (.tup xs)) _ (List.prefix_refl _) (same_upd g) (rs.laid hl _)).2 _ _ rfl (.dat (rp_tup upd_same (rl.mono (same_upd g))))
      · exact ⟨a, xs, rfl, .inr ⟨q, (kk θ G H (List.prefix_refl _) (Same.refl _) rs).2 _ _ rfl (.dat rp)⟩⟩
    · cases e
  · cases e
theorem de_tupOf (hm : X.mg "tuple" = none) (ha : DA X W (e :: es) h) (hg : Gl X "tuple" := by rfl) (he : starEach (e :: es) X.env = (false, eval e X.env) :: starEach es X.env := by rfl) (hpl : (backTo pos (starEach es X.env)).any (·.1) = false := by rfl) : DE X W (.Call (.Name "tuple" p) (e :: es) [] pos) (bnd h oTupOf) :=
  de_callTy call_tuple_of snd_tupOf hm (by decide +kernel) ha hg (by decide) (by decide) he hpl
/-! ### any, all -/
def oBs (k : List Bool → Bool) (ds : List D) : Ev D := match ds with
  | [.lst es] => match blsOf es with
    | some bs => ret (.bl (k bs))
    | none => stk
  | _ => stk
def oAny : List D → Ev D := oBs fun bs => bs.any id
def oAll : List D → Ev D := oBs fun bs => bs.all id
theorem snd_bs {k : List Bool → Bool} : SndC K W (fun vs H Q => ∃ (a : Addr) (bs : List Bool), vs = [V.ref a] ∧ SqL K H a (bs.map V.bl) ∧ Q (.bl (k bs)) H) (oBs k) := by
  intro θ0 G0 xs ds hx
  unfold oBs
  split
  · rename_i es
    split
    · rename_i bs hb
      obtain ⟨v, rfl, hv⟩ := vals1 hx
      cases hv with
      | dat q =>
        cases q with
        | lst h1 l g1 =>
          rename_i a ys
          have ey := rpl_bls hb ⟨l, g1⟩
          subst ey
          intro ρ M r M' θ G σ H Q p s e rs rv kk
          exact ⟨a, bs, rfl, .inl (.inl (rs.sub _ _ (s _ _ h1))), Snd.ret (K := K) (W := W) (R := RV K) (θ0 := θ0) (G0 := G0) (fun _ _ _ _ => rv_bl) ρ M r M' θ G σ H Q p s e rs rv kk⟩
    · exact Snd.stk
  · exact Snd.stk
theorem de_all (hc : X.calm = true) (hm : X.mg "all" = none) (ha : DA X W (e :: es) h) (hg : Gl X "all" := by rfl) (he : starEach (e :: es) X.env = (false, eval e X.env) :: starEach es X.env := by rfl) (hpl : (backTo pos (starEach es X.env)).any (·.1) = false := by rfl) : DE X W (.Call (.Name "all" p) (e :: es) [] pos) (bnd h oAll) :=
  de_callB (cr_all hc) snd_bs hm (by decide +kernel) ha hg (by decide) (by decide) he hpl
/-! ### constants of the module -/
theorem de_const {x : Str} {ca : Addr} {d : D} (hm : X.mg x = some (.ref ca)) (hd : ∀ G, Rp X.K G (.ref ca) d) (hg : Gl X x := by rfl) (hdb : (x == ("__debug__" : Str)) = false := by decide) : DE X W (.Name x pos) (ret d) := ⟨_, pe_glob (v := .ref ca) hg hm rfl (hd := hdb), fun _ _ => snd_c hd⟩
/-! ### is None -/
def D.isN : D → Bool
  | .non => true
  | _ => false
theorem Rv.isN {θ : List Th} {G : Hp} {v : V} {d : D} (h : Rv K θ G v d) : decide (v = .non) = d.isN := by
  cases h with
  | dat h => cases h <;> first | rfl | exact decide_eq_false (fun z => by cases z)
  | ptr h => exact decide_eq_false (fun z => by cases z)
  | exv _ h => exact decide_eq_false (fun z => by cases z)
  | dpt h => exact decide_eq_false (fun z => by cases z)
  | npt h => exact decide_eq_false (fun z => by cases z)
def oIsN (d e : D) : Ev D := match e with
  | .non => ret (.bl d.isN)
  | _ => stk
def oNotN (d e : D) : Ev D := match e with
  | .non => ret (.bl (!d.isN))
  | _ => stk
/-! ### truth of a sequence -/
def asTru (d : D) : Ev Bool := fun ρ M => match d with
  | .bl b => some (.ok b, M)
  | d => match seqOf d M with
    | some es => some (.ok (!es.isEmpty), M)
    | none => none
theorem dt_tru (h : DE X W e f) (he : ∀ whole, isTrue e X.env whole = (do let v ← whole; standAt e.pos; holding [v] (truthy v)) := by intro _; rfl) : DT X W e (bnd f asTru) := by
  obtain ⟨t, q, s⟩ := h
  refine ⟨_, pt_truth q he, fun θ G => (s θ G).bind (R2 := RB) (k := fun (x : V) (_ : L2.St) (H : Hp) (Q : Bool → Hp → Prop) => ∃ k, TruV X.K x H k ∧ Q k H) fun θ1 G1 v d _ _ hv => ?_⟩
  intro ρ M r M' θ2 G2 σ H Q p s e rs rv kk
  unfold asTru at e
  split at e
  · rename_i b
    cases e
    rw [hv.bl_of]
    exact ⟨b, rfl, (kk θ2 G2 H (List.prefix_refl _) (Same.refl _) rs).2 _ _ rfl rfl⟩
  · split at e
    · rename_i es he
      cases e
      obtain ⟨a, xs, rfl, q, rl⟩ := seq_of rs (hv.mono p s) he
      have ee : xs.isEmpty = es.isEmpty := by
        have := rl.len
        cases xs <;> cases es <;> simp_all
      refine ⟨!es.isEmpty, ?_, (kk θ2 G2 H (List.prefix_refl _) (Same.refl _) rs).2 _ _ rfl rfl⟩
      rw [← ee]
      rcases q with q | q
      · exact .inl ⟨xs, q, rfl⟩
      · exact .inr (.inl ⟨xs, q, rfl⟩)
    · cases e
/-! ### a < b < c -/
def dChain (f g h : Ev D) (o o' : D → D → Ev D) : Ev D := bnd f fun x => bnd g fun y => bnd (o x y) fun z => bnd (asB z) fun k => if k = true then bnd h fun w => o' y w else ret (.bl false)
theorem snd_chain {r r' : R2} {o o' : D → D → Ev D} {ta tb tc : TE} {f g h : Ev D} (so : SndO K W r o) (so' : SndO K W r' o') (sa : ∀ θ G, Snd K W (RV K) θ G ta f) (sb : ∀ θ G, Snd K W (RV K) θ G tb g) (sc : ∀ θ G, Snd K W (RV K) θ G tc h) (θ : List Th) (G : Hp) : Snd K W (RV K) θ G (tChain r r' ta tb tc) (dChain f g h o o') := by
  refine (sa θ G).bind (R2 := RV K) (k := fun x σ H1 (Q : V → Hp → Prop) => tb σ H1 fun y H2 => r x y H2 fun z H3 => ∃ k, z = .bl k ∧ (if k = true then tc σ H3 fun w' H4 => r' y w' H4 Q else Q (.bl false) H3)) fun θ1 G1 v d _ _ hv => ?_
  refine (sb θ1 G1).bind (R2 := RV K) (k := fun y σ H2 (Q : V → Hp → Prop) => r v y H2 fun z H3 => ∃ k, z = .bl k ∧ (if k = true then tc σ H3 fun w' H4 => r' y w' H4 Q else Q (.bl false) H3)) fun θ2 G2 u e p2 s2 hu => ?_
  refine (so θ2 G2 v u d e (hv.mono p2 s2) hu).bind (R2 := RV K) (k := fun z σ H3 (Q : V → Hp → Prop) => ∃ k, z = .bl k ∧ (if k = true then tc σ H3 fun w' H4 => r' u w' H4 Q else Q (.bl false) H3)) fun θ3 G3 z dz p3 s3 hz => ?_
  refine snd_asB (k := fun (k : Bool) σ H3 (Q : V → Hp → Prop) => if k = true then tc σ H3 fun w' H4 => r' u w' H4 Q else Q (.bl false) H3) hz fun k => ?_
  cases k with
  | true => simpa using (sc θ3 G3).bind (R2 := RV K) (k := fun w' (_ : L2.St) H4 (Q : V → Hp → Prop) => r' u w' H4 Q) (g := fun w => o' e w) fun θ4 G4 w dw p4 s4 hw => so' θ4 G4 u w e dw (hu.mono (p3.trans p4) (s3.trans s4)) hw
  | false => simpa using Snd.ret (K := K) (W := W) (R := RV K) (θ0 := θ3) (G0 := G3) (v := .bl false) (d := .bl false) fun _ _ _ _ => rv_bl
theorem dt_chain {op op' : CmpOp} {r r' : R2} {o o' : D → D → Ev D} {hh : Ev D} (ho : OpR X (compareOp op) r) (ho' : OpR X (compareOp op') r') (so : SndO X.K W r o) (so' : SndO X.K W r' o') (ha : DE X W a f) (hb : DE X W b g) (hc : DE X W c hh) (hm : lastMarks [op, op'] [b, c] = false := by with_unfolding_all rfl) : DT X W (.Compare a [op, op'] [b, c] pos) (bnd (dChain f g hh o o') asB) := by
  obtain ⟨ta, pa, sa⟩ := ha
  obtain ⟨tb, pb, sb⟩ := hb
  obtain ⟨tc, pc, sc⟩ := hc
  exact ⟨_, pt_chain ho ho' pa pb pc hm, snd_tB fun θ G => snd_chain so so' sa sb sc θ G⟩
theorem sle : SndO K W (rI0 fun i j => .bl (decide (i ≤ j))) oLe := snd_rI0 fun i j _ => .bl _
/-! ### == of lists that change -/
def frz (M : Mem) (d : D) : D := match d with
  | .ptr n => match M[n]? with
    | some (some ds) => .lst ds
    | _ => d
  | _ => d
def oEqM (d e : D) : Ev D := fun ρ M => oEq (frz M d) (frz M e) ρ M
def oNeM (d e : D) : Ev D := fun ρ M => oNe (frz M d) (frz M e) ρ M
/-! ### x in a row -/
def oInD (neg : Bool) (d e : D) : Ev D :=
  if d.pl = true ∧ e.pl = true ∧ SeqAt.shaped (toPy d) = true ∧ SeqAt.shaped (toPy e) = true then match e with
    | .tup es => ret (.bl (if neg then !(toPys es).any fun z => PyData.eqv z (toPy d) else (toPys es).any fun z => PyData.eqv z (toPy d)))
    | .lst es => ret (.bl (if neg then !(toPys es).any fun z => PyData.eqv z (toPy d) else (toPys es).any fun z => PyData.eqv z (toPy d)))
    | _ => stk
  else stk
def rInLT (K : PySem.W.Frag) (neg : Bool) : R2 := fun x y H Q => rInT K neg x y H Q ∨ ∃ d ds, Dp K H x d ∧ Dp K H y (.list ds) ∧ SeqAt.shaped d = true ∧ SeqAt.shaped (.list ds) = true ∧ Q (.bl (if neg then !ds.any fun z => PyData.eqv z d else ds.any fun z => PyData.eqv z d)) H
theorem op_notInLT (hu : X.A.units + 65 < cLine) : OpR X (compareOp .NotIn) (rInLT X.K true) := by
  intro pins s σ H x y v u Q I rx ry h
  rcases h with h | h
  · exact op_notInT hu pins s σ H x y v u Q I rx ry h
  · exact op_notInD hu pins s σ H x y v u Q I rx ry h
theorem snd_inD {neg : Bool} : SndO K W (rInLT K neg) (oInD neg) := by
  intro θ G x y d e hx hy
  unfold oInD
  split
  · rename_i c
    split
    · rename_i es
      intro ρ M r M' θ1 G1 σ H Q p s e1 rs rv kk
      exact .inl ⟨_, _, (((hx.rp (pl_np c.1)).mono s).mono rs.sub).dp c.1, (((hy.rp (pl_np c.2.1)).mono s).mono rs.sub).dp c.2.1, c.2.2.1, c.2.2.2, Snd.ret (K := K) (W := W) (R := RV K) (θ0 := θ) (G0 := G) (fun _ _ _ _ => rv_bl) ρ M r M' θ1 G1 σ H Q p s e1 rs rv kk⟩
    · rename_i es
      intro ρ M r M' θ1 G1 σ H Q p s e1 rs rv kk
      exact .inr ⟨_, _, (((hx.rp (pl_np c.1)).mono s).mono rs.sub).dp c.1, (((hy.rp (pl_np c.2.1)).mono s).mono rs.sub).dp c.2.1, c.2.2.1, c.2.2.2, Snd.ret (K := K) (W := W) (R := RV K) (θ0 := θ) (G0 := G) (fun _ _ _ _ => rv_bl) ρ M r M' θ1 G1 σ H Q p s e1 rs rv kk⟩
    · exact Snd.stk
  · exact Snd.stk
theorem de_ninD (hr : ∃ k, Rg k X.A) (ha : DE X W a f) (hb : DE X W b g) (hm : behindInMarks .NotIn b = false := by rfl) : DE X W (.Compare a [.NotIn] [b] pos) (bnd f fun d => bnd g fun e => oInD true d e) := by
  obtain ⟨k, hr⟩ := hr
  exact de_cmp (op_notInLT (by have := hr.un200; omega)) snd_inD ha hb hm
/-! ### slices -/
abbrev RO : List Th → Hp → Option Int → Option Int → Prop := fun _ _ x y => x = y
def DO (X : Cx) (W : WN) (e : Option Expr) (g : Ev (Option Int)) : Prop := ∃ t, PO X e t ∧ ∀ θ G, Snd X.K W RO θ G t g
def asI (d : D) : Ev (Option Int) := match d with
  | .int i => ret (some i)
  | _ => stk
theorem do_none : DO X W none (ret none) := ⟨_, po_none, fun _ _ => Snd.ret fun _ _ _ _ => rfl⟩
theorem do_some (h : DE X W e f) : DO X W (some e) (bnd f asI) := by
  obtain ⟨t, q, s⟩ := h
  refine ⟨_, po_some q, fun θ G => (s θ G).bind (R2 := RO) (k := fun (x : V) (_ : L2.St) (H : Hp) (Q : Option Int → Hp → Prop) => ∃ i, x = .int i ∧ Q (some i) H) fun θ1 G1 v d _ _ hv => ?_⟩
  unfold asI
  split
  · rename_i i
    rw [hv.int_of]
    intro ρ M r M' θ2 G2 σ H Q p s e rs rv kk
    exact ⟨i, rfl, Snd.ret (K := X.K) (W := W) (R := RO) (θ0 := θ1) (G0 := G1) (fun _ _ _ _ => rfl) ρ M r M' θ2 G2 σ H Q p s e rs rv kk⟩
  · exact Snd.stk
def cutD (ds : List D) (lo hi : Option Int) : List D := (ds.drop (HT.sIx ds.length 0 lo)).take (HT.sIx ds.length ds.length hi - HT.sIx ds.length 0 lo)
theorem RpL.drop {G : Hp} {xs : List V} {ds : List D} (r : RpL K G xs ds) (n : Nat) : RpL K G (xs.drop n) (ds.drop n) := ⟨by simp [r.len], fun i v d h1 h2 => r.get (n + i) v d (by simpa using h1) (by simpa using h2)⟩
theorem RpL.take {G : Hp} {xs : List V} {ds : List D} (r : RpL K G xs ds) (n : Nat) : RpL K G (xs.take n) (ds.take n) := by
  refine ⟨by simp [r.len], fun i v d h1 h2 => ?_⟩
  rw [List.getElem?_take] at h1 h2
  split at h1
  · rename_i hi
    rw [if_pos hi] at h2
    exact r.get i v d h1 h2
  · cases h1
theorem RpL.cut {G : Hp} {xs : List V} {ds : List D} (r : RpL K G xs ds) (lo hi : Option Int) : RpL K G (cutV xs lo hi) (cutD ds lo hi) := by
  unfold cutV cutD
  rw [r.len]
  exact (r.drop _).take _
theorem RpL.reverse {G : Hp} {xs : List V} {ds : List D} (r : RpL K G xs ds) : RpL K G xs.reverse ds.reverse := by
  refine ⟨by simp [r.len], fun i v d h1 h2 => ?_⟩
  have hi : i < xs.length := by
    rcases Nat.lt_or_ge i xs.length with q | q
    · exact q
    · rw [List.getElem?_eq_none (by simpa using q)] at h1; cases h1
  rw [List.getElem?_reverse hi] at h1
  rw [List.getElem?_reverse (by rw [← r.len]; exact hi), ← r.len] at h2
  exact r.get _ v d h1 h2
/-- a list's items -/
def lseq (d : D) (M : Mem) : Option (List D) := match d with
  | .tup _ => none
  | d => seqOf d M
theorem lseq_of {θ : List Th} {G H : Hp} {M : Mem} {v : V} {d : D} {ds : List D} (rs : Rs K θ G H M) (hv : Rv K θ G v d) (h : lseq d M = some ds) : ∃ a xs, v = .ref a ∧ SqL K H a xs ∧ RpL K G xs ds := by
  cases hv with
  | dat q =>
    cases q with
    | lst h1 l g => cases h; exact ⟨_, _, rfl, .inl (.inl (rs.sub _ _ h1)), l, g⟩
    | scr h1 l g => cases h; exact ⟨_, _, rfl, rs.sub.seq h1, l, g⟩
    | _ => cases h
  | ptr hn =>
    rename_i n a
    unfold lseq seqOf at h
    dsimp only at h
    split at h
    · rename_i es hm
      cases h
      obtain ⟨g, xs, hx, rl⟩ := rs.mem n _ _ hn hm
      exact ⟨_, xs, rfl, .inl (.inl hx), rl⟩
    · cases h
  | dpt _ => cases h
  | npt _ => cases h
  | exv _ _ => cases h
def oSl (d : D) (lo hi : Option Int) : Ev D := fun ρ M => match d with
  | .tup ds => some (.ok (.tup (cutD ds lo hi)), M)
  | d => match lseq d M with
    | some ds => some (.ok (.lst (cutD ds lo hi)), M)
    | none => none
theorem de_slice {lo hi : Option Expr} {gl gh : Ev (Option Int)} (ha : DE X W a f) (hl : DO X W lo gl) (hh : DO X W hi gh) : DE X W (.Subscript a (.Slice lo hi none p2) pos) (bnd f fun d => bnd gl fun l => bnd gh fun u => oSl d l u) := by
  obtain ⟨t, q, s⟩ := ha
  obtain ⟨tl, pl, sl⟩ := hl
  obtain ⟨th, ph, sh⟩ := hh
  refine ⟨_, pe_slice (sl_tupA.or sl_list) q pl ph, fun θ G => ?_⟩
  refine (s θ G).bind (R2 := RV X.K) (k := fun (x : V) (σ : L2.St) (H1 : Hp) (Q : V → Hp → Prop) => tl σ H1 fun l H2 => th σ H2 fun u H3 => rSlA X.K x l u H3 Q ∨ rSlL X.K x l u H3 Q) fun θ1 G1 v d _ _ hv => ?_
  refine (sl θ1 G1).bind (R2 := RV X.K) (k := fun (l : Option Int) (σ : L2.St) (H2 : Hp) (Q : V → Hp → Prop) => th σ H2 fun u H3 => rSlA X.K v l u H3 Q ∨ rSlL X.K v l u H3 Q) fun θ2 G2 l l' p2 s2 hl => ?_
  cases hl
  refine (sh θ2 G2).bind (R2 := RV X.K) (k := fun (u : Option Int) (_ : L2.St) (H3 : Hp) (Q : V → Hp → Prop) => rSlA X.K v l u H3 Q ∨ rSlL X.K v l u H3 Q) fun θ3 G3 u u' p3 s3 hu => ?_
  cases hu
  intro ρ M r M' θ4 G4 σ H Q p4 s4 e rs rv kk
  have hv4 := hv.mono ((p2.trans p3).trans p4) ((s2.trans s3).trans s4)
  have lay : ∀ {xs : List V} {ds : List D}, RpL X.K G4 xs ds → ∀ q, H q = none → (r = .ok (.lst (cutD ds l u))) → M' = M → Q (.ref q) (upd H q (.lst (cutV xs l u))) := by
    intro xs ds rl q hq e1 e2
    subst e1; subst e2
    have g := rs.fresh hq
    exact (kk θ4 (upd G4 q (.lst (cutV xs l u))) _ (List.prefix_refl _) (same_upd g) (rs.laid hq _)).2 _ _ rfl (.dat (rp_lst upd_same ((rl.cut l u).mono (same_upd g))))
  unfold oSl at e
  split at e
  · rename_i ds
    cases e
    cases hv4 with
    | dat hd =>
      cases hd with
      | tup h1 l1 g1 =>
        rename_i a xs
        have rl : RpL X.K G4 xs ds := ⟨l1, g1⟩
        refine .inl ⟨a, xs, rfl, seqT rs.sub h1, fun hw => ?_, fun _ q hq => ?_⟩
        · have ec : cutD ds l u = ds := by
            unfold cutD
            rw [rl.len] at hw
            rw [hw.1, hw.2]
            simp
          rw [ec] at kk
          exact (kk θ4 G4 H (List.prefix_refl _) (Same.refl _) rs).2 _ _ rfl (.dat (.tup h1 l1 g1))
        · have g := rs.fresh hq
          exact (kk θ4 (upd G4 q (.tup (cutV xs l u))) _ (List.prefix_refl _) (same_upd g) (rs.laid hq _)).2 _ _ rfl (.dat (rp_tup upd_same ((rl.cut l u).mono (same_upd g))))
  · split at e
    · rename_i ds hd
      cases e
      obtain ⟨a, xs, rfl, q, rl⟩ := lseq_of rs hv4 hd
      exact .inr ⟨a, xs, rfl, q, fun q hq => lay rl q hq rfl rfl⟩
    · cases e
/-! ### x[::-1] -/
def oRv (d : D) : Ev D := fun ρ M => match d with
  | .tup ds => some (.ok (.tup ds.reverse), M)
  | d => match lseq d M with
    | some ds => some (.ok (.lst ds.reverse), M)
    | none => none
theorem de_rv {k : Nat} {p1 p3 p4 : Pos} (ha : DE X W a f) : DE X W (.Subscript a (.Slice none none (some (.UnaryOp .USub (.Constant (.int 1) k p1) p3)) p4) pos) (bnd f oRv) := by
  obtain ⟨t, q, s⟩ := ha
  refine ⟨_, pe_rv q, fun θ G => ?_⟩
  refine (s θ G).bind (R2 := RV X.K) (k := fun (x : V) (σ : L2.St) (H1 : Hp) (Q : V → Hp → Prop) => ∃ a xs, x = .ref a ∧ ((SqL X.K H1 a xs ∧ ∀ p, H1 p = none → Q (.ref p) (upd H1 p (.lst xs.reverse))) ∨ (SqT X.K H1 a xs ∧ ∀ p, H1 p = none → Q (.ref p) (upd H1 p (.tup xs.reverse))))) fun θ1 G1 v d _ _ hv => ?_
  intro ρ M r M' θ4 G4 σ H Q p4 s4 e rs rv kk
  have hv4 := hv.mono p4 s4
  unfold oRv at e
  split at e
  · rename_i ds
    cases e
    cases hv4 with
    | dat hd =>
      cases hd with
      | tup h1 l1 g1 =>
        rename_i a xs
        have rl : RpL X.K G4 xs ds := ⟨l1, g1⟩
        refine ⟨a, xs, rfl, .inr ⟨seqT rs.sub h1, fun q hq => ?_⟩⟩
        have g := rs.fresh hq
        exact (kk θ4 (upd G4 q (.tup xs.reverse)) _ (List.prefix_refl _) (same_upd g) (rs.laid hq _)).2 _ _ rfl (.dat (rp_tup upd_same (rl.reverse.mono (same_upd g))))
  · split at e
    · rename_i ds hd
      cases e
      obtain ⟨a, xs, rfl, q, rl⟩ := lseq_of rs hv4 hd
      refine ⟨a, xs, rfl, .inl ⟨q, fun q hq => ?_⟩⟩
      have g := rs.fresh hq
      exact (kk θ4 (upd G4 q (.lst xs.reverse)) _ (List.prefix_refl _) (same_upd g) (rs.laid hq _)).2 _ _ rfl (.dat (rp_lst upd_same (rl.reverse.mono (same_upd g))))
    · cases e
/-! ### for over a list or a tuple -/
def iSeq (K : PySem.W.Frag) (tl : TE) : TI := fun σ H R => tl σ H fun x H1 => (∃ a, x = .ref a ∧ (∃ xs, SqL K H1 a xs) ∧ R (Itl K a) H1) ∨ ∃ a, x = .ref a ∧ (∃ xs, SqT K H1 a xs) ∧ R (Itt K a) H1
theorem pi_seq {tg l : Expr} {tl : TE} (hl : PE X l tl) : PI X tg l (iSeq X.K tl) := by
  refine ⟨fun pins s σ H R I h => thn (hl.run pins s σ H _ I h) fun v s1 z => ?_⟩
  obtain ⟨x, H1, I1, r1, q1⟩ := z
  have new : ∀ b, b ∈ [s1.heap.objs.size] → b = s1.heap.objs.size := fun b hb => by simpa using hb
  rcases q1 with ⟨a, e, ⟨xs, hq⟩, q⟩ | ⟨a, e, ⟨xs, hq⟩, q⟩
  · subst e
    cases r1
    obtain ⟨its, _, pl, _⟩ := I1.list hq
    refine wpAny_pyIter_list pl.isList ⟨_, [s1.heap.objs.size], _, _, H1, rfl, I1.kept (t' := s1.toks) fun b o e => Heap.get?_push_of_some _ e, turn_list a _, ⟨_, Heap.get?_push_size _ rfl, rfl, rfl⟩, fun b hb => ?_, q⟩
    rw [new b hb]
    exact I1.fpOk (Nat.le_refl _) (I1.hok.fresh (Nat.le_refl _))
  · subst e
    cases r1
    obtain ⟨its, _, pl, _⟩ := I1.tuple hq
    refine wpAny_pyIter_tuple (show s1.heap.IsTuple a its.toArray from pl) ⟨_, [s1.heap.objs.size], _, _, H1, rfl, I1.kept (t' := s1.toks) fun b o e => Heap.get?_push_of_some _ e, turn_tuple a _, ⟨_, Heap.get?_push_size _ rfl, rfl, rfl⟩, fun b hb => ?_, q⟩
    rw [new b hb]
    exact I1.fpOk (Nat.le_refl _) (I1.hok.fresh (Nat.le_refl _))
def oItS (d : D) : Ev (List D) := match d with
  | .lst ds => ret ds
  | .tup ds => ret ds
  | _ => stk
theorem di_seq {tg : Expr} (h : DE X W e f) : DI X W tg e (bnd f oItS) := by
  obtain ⟨t, q, s⟩ := h
  refine ⟨_, pi_seq q, fun θ G => (s θ G).bind (R2 := RI X.K) (k := fun (x : V) (_ : L2.St) (H1 : Hp) (R : It → Hp → Prop) => (∃ a, x = .ref a ∧ (∃ xs, SqL X.K H1 a xs) ∧ R (Itl X.K a) H1) ∨ ∃ a, x = .ref a ∧ (∃ xs, SqT X.K H1 a xs) ∧ R (Itt X.K a) H1) fun θ1 G1 v d _ _ hv => ?_⟩
  unfold oItS
  split
  · rename_i ds
    cases hv with
    | dat hv =>
      cases hv with
      | lst hq l g =>
        rename_i a xs
        intro ρ M r M' θ2 G2 σ H Q p s e rs rv kk
        exact .inl ⟨a, rfl, ⟨xs, .inl (.inl (rs.sub _ _ (s _ _ hq)))⟩, Snd.ret (K := X.K) (W := W) (R := RI X.K) (θ0 := θ1) (G0 := G1) (fun _ _ p s => (ri_list (.inl (.inl hq)) ⟨l, g⟩).mono p s) ρ M r M' θ2 G2 σ H Q p s e rs rv kk⟩
  · rename_i ds
    cases hv with
    | dat hv =>
      cases hv with
      | tup hq l g =>
        rename_i a xs
        intro ρ M r M' θ2 G2 σ H Q p s e rs rv kk
        exact .inr ⟨a, rfl, ⟨xs, seqT rs.sub (seqT s hq)⟩, Snd.ret (K := X.K) (W := W) (R := RI X.K) (θ0 := θ1) (G0 := G1) (fun _ _ p s => (ri_tup hq ⟨l, g⟩).mono p s) ρ M r M' θ2 G2 σ H Q p s e rs rv kk⟩
  · exact Snd.stk
/-! ### zip of two tuples, of two lists -/
def zipD (a b : List D) : List D := (a.zip b).map fun q => .tup [q.1, q.2]
def oZip (ds : List D) : Ev (List D) := match ds with
  | [.tup a, .tup b] => ret (zipD a b)
  | [.lst a, .lst b] => ret (zipD a b)
  | _ => stk
theorem zip_get {a b : List D} {i : Nat} {d : D} (h : (zipD a b)[i]? = some d) : ∃ u v, a[i]? = some u ∧ b[i]? = some v ∧ d = .tup [u, v] := by
  unfold zipD at h
  rw [List.getElem?_map] at h
  cases q : (a.zip b)[i]? with
  | none => rw [q] at h; cases h
  | some z =>
    rw [q] at h
    cases h
    rw [List.getElem?_zip_eq_some] at q
    exact ⟨z.1, z.2, q.1, q.2, rfl⟩
theorem zip_len (a b : List D) : (zipD a b).length = min a.length b.length := by simp [zipD]
theorem rp_pair {G : Hp} {q : Addr} {x y : V} {u v : D} (h : G q = some (.tup [x, y])) (hx : Rp K G x u) (hy : Rp K G y v) : Rp K G (.ref q) (.tup [u, v]) := rp_tup h (RpL.cons hx (RpL.cons hy RpL.nil))
theorem ri_zipT {θ : List Th} {G : Hp} {a b : Addr} {xs ys : List V} {ds es : List D} (ha : SqT K G a xs) (hb : SqT K G b ys) (r1 : RpL K G xs ds) (r2 : RpL K G ys es) : RI K θ G (ItzT K a b) (zipD ds es) := by
  refine ⟨fun i θ1 G1 H M _ s rs hi => ?_, fun θ1 G1 H M _ s rs => ?_, fun i d θ1 G1 H M x H' _ s rs hd y => ?_⟩
  · rw [zip_len] at hi
    obtain ⟨v, hv, _⟩ := r1.at (List.getElem?_eq_getElem (show i < ds.length by omega))
    obtain ⟨u, hu, _⟩ := r2.at (List.getElem?_eq_getElem (show i < es.length by omega))
    exact ⟨xs, ys, v, u, seqT rs.sub (seqT s ha), seqT rs.sub (seqT s hb), hv, hu⟩
  · refine ⟨xs, ys, seqT rs.sub (seqT s ha), seqT rs.sub (seqT s hb), ?_⟩
    rw [zip_len, r1.len, r2.len]
    omega
  · obtain ⟨T, x1, y1, rfl, hT, rfl, h1, h2⟩ := y
    obtain ⟨u, v, hu, hv, rfl⟩ := zip_get hd
    have g := rs.fresh hT
    have e1 := h1 xs (seqT rs.sub (seqT s ha))
    have e2 := h2 ys (seqT rs.sub (seqT s hb))
    exact ⟨upd G1 T (.tup [x1, y1]), same_upd g, rs.laid hT _, .dat (rp_pair upd_same (((r1.get i _ _ e1 hu).mono s).mono (same_upd g)) (((r2.get i _ _ e2 hv).mono s).mono (same_upd g)))⟩
theorem ri_zipL {θ : List Th} {G : Hp} {a b : Addr} {xs ys : List V} {ds es : List D} (ha : SqL K G a xs) (hb : SqL K G b ys) (r1 : RpL K G xs ds) (r2 : RpL K G ys es) : RI K θ G (Itz K a b) (zipD ds es) := by
  refine ⟨fun i θ1 G1 H M _ s rs hi => ?_, fun θ1 G1 H M _ s rs => ?_, fun i d θ1 G1 H M x H' _ s rs hd y => ?_⟩
  · rw [zip_len] at hi
    obtain ⟨v, hv, _⟩ := r1.at (List.getElem?_eq_getElem (show i < ds.length by omega))
    obtain ⟨u, hu, _⟩ := r2.at (List.getElem?_eq_getElem (show i < es.length by omega))
    exact ⟨xs, ys, v, u, rs.sub.seq (s.seq ha), rs.sub.seq (s.seq hb), hv, hu⟩
  · refine ⟨xs, ys, rs.sub.seq (s.seq ha), rs.sub.seq (s.seq hb), ?_⟩
    rw [zip_len, r1.len, r2.len]
    omega
  · obtain ⟨T, x1, y1, rfl, hT, rfl, h1, h2⟩ := y
    obtain ⟨u, v, hu, hv, rfl⟩ := zip_get hd
    have g := rs.fresh hT
    have e1 := h1 xs (rs.sub.seq (s.seq ha))
    have e2 := h2 ys (rs.sub.seq (s.seq hb))
    exact ⟨upd G1 T (.tup [x1, y1]), same_upd g, rs.laid hT _, .dat (rp_pair upd_same (((r1.get i _ _ e1 hu).mono s).mono (same_upd g)) (((r2.get i _ _ e2 hv).mono s).mono (same_upd g)))⟩
theorem di_zip {elts : List Expr} {kk : Nat} {tpos : Pos} {e2 : Expr} (hm : X.mg "zip" = none) (ha : DA X W [e, e2] h) (hg : Gl X "zip" := by rfl) (hs : starEach [e, e2] X.env = (false, eval e X.env) :: starEach [e2] X.env := by rfl) (hpl : (backTo pos (starEach [e2] X.env)).any (·.1) = false := by rfl) :
    DI X W (.Tuple elts kk tpos) (.Call (.Name "zip" p) [e, e2] [] pos) (bnd h oZip) := by
  obtain ⟨t, q, s⟩ := ha
  refine ⟨_, pi_zipA hg hm q hs hpl, fun θ G => (s θ G).bind (R2 := RI X.K) (k := fun (vs : List V) (_ : L2.St) (H1 : Hp) (R : It → Hp → Prop) => ∃ a b xs ys, vs = [.ref a, .ref b] ∧ ((SqL X.K H1 a xs ∧ SqL X.K H1 b ys ∧ R (Itz X.K a b) H1) ∨ (SqT X.K H1 a xs ∧ SqT X.K H1 b ys ∧ R (ItzT X.K a b) H1))) fun θ1 G1 vs ds _ _ hv => ?_⟩
  unfold oZip
  split
  · rename_i da db
    obtain ⟨v, u, rfl, h1, h2⟩ := vals2 hv
    cases h1 with
    | dat h1 =>
      cases h2 with
      | dat h2 =>
        cases h1 with
        | tup q1 l1 g1 =>
          cases h2 with
          | tup q2 l2 g2 =>
            intro ρ M r M' θ2 G2 σ H Q p s e rs rv kk
            exact ⟨_, _, _, _, rfl, .inr ⟨seqT rs.sub (seqT s q1), seqT rs.sub (seqT s q2), Snd.ret (K := X.K) (W := W) (R := RI X.K) (θ0 := θ1) (G0 := G1) (fun _ _ p s => (ri_zipT q1 q2 ⟨l1, g1⟩ ⟨l2, g2⟩).mono p s) ρ M r M' θ2 G2 σ H Q p s e rs rv kk⟩⟩
  · rename_i da db
    obtain ⟨v, u, rfl, h1, h2⟩ := vals2 hv
    cases h1 with
    | dat h1 =>
      cases h2 with
      | dat h2 =>
        cases h1 with
        | lst q1 l1 g1 =>
          cases h2 with
          | lst q2 l2 g2 =>
            intro ρ M r M' θ2 G2 σ H Q p s e rs rv kk
            exact ⟨_, _, _, _, rfl, .inl ⟨.inl (.inl (rs.sub _ _ (s _ _ q1))), .inl (.inl (rs.sub _ _ (s _ _ q2))), Snd.ret (K := X.K) (W := W) (R := RI X.K) (θ0 := θ1) (G0 := G1) (fun _ _ p s => (ri_zipL (.inl (.inl q1)) (.inl (.inl q2)) ⟨l1, g1⟩ ⟨l2, g2⟩).mono p s) ρ M r M' θ2 G2 σ H Q p s e rs rv kk⟩⟩
  · exact Snd.stk
/-! ### x += e of numbers -/
def sAug (i : Nat) (f : Ev D) (o : D → D → Ev D) : Sv := fun ρ M => match ρ[i]? with
  | some (some d) => thenS f (fun e => thenS (o d e) fun z ρ M => some (.nx (ρ.set i (some z)), M)) ρ M
  | _ => none
def oAddI (d e : D) : Ev D := match d, e with
  | .int i, .int j => ret (.int (i + j))
  | _, _ => stk
def oSubI (d e : D) : Ev D := match d, e with
  | .int i, .int j => ret (.int (i - j))
  | _, _ => stk
end
/-! ### defs -/
section
variable {K : PySem.W.Frag} {P : Program} {w : World} {mg : Str → Option Value} {base : Heap} {x qual : Str} {st : Stmt} {f : Addr} {fd : FuncData} {N ps : List Str} {k n : Nat} {F : Fd} {fb : Sv}
theorem fn_okG (FU : Fun K x qual st f fd) (S : FnScope N ps (defScope st)) (hn : ps.length = n)
    (body : ∀ (cdv : Value) (A : Around) (outer : List PySem.Env) (s : Shared) (H : Hp) (E : XK), Rg k (A.deeper (envOfC qual (defScope st) s.heap.objs.size f cdv)) → DSs (cxOf CX0 P w K mg base N qual (defScope st) f cdv A outer s H E).nox W0 (defBody st) fb)
    (hF : ∀ ds M r M', ds.length = n → F ds M = some (r, M') → M.length ≤ M'.length ∧ ∃ o M2, fb (startD N ds) M = some (o, M2) ∧ Exit o M2 r M')
    (hx : ∀ ds M C M', F ds M ≠ some (.exc C, M')) : GOk P w K mg base CX0 (k + 1) f fd ps (spF K mg n F) := by
  refine gok_of FU S (fun vs H Q E h => (spF_len h).trans hn.symm) fun cdv A outer s H vs Q E hr h => ?_
  obtain ⟨t, p, sn⟩ := body cdv A outer s H E hr
  refine ⟨t, p.nox, ?_⟩
  obtain ⟨θ, G, ds, M, r, M', rs, rv, hl, e, kk⟩ := h
  obtain ⟨hle, o, M2, e2, ex⟩ := hF ds M r M' hl e
  cases r with
  | exc C => exact absurd e (hx ds M C M')
  | ok d =>
    exact body_ok (mg := fun _ => some (.ref 0)) (W := W0) (E := fun _ _ _ => False) (fun _ _ _ h => h 0 rfl) sn hF ⟨θ, G, ds, M, .ok d, M', rs, rv, hl, e, fun θ' G' H' p' s' rs' => ⟨fun x C hC => (by cases hC), (kk θ' G' H' p' s' rs').2⟩⟩
end
end Bw
namespace Bw
open PySem PySem.Spec PyProof.Rows L2
theorem rp_c2 {K : PySem.W.Frag} {a : Addr} {od : Option Addr} {n : Nat} {sl : Array (Option Value)} {t0 t1 : Tok} {i j : Int} (l : K.lookup a = some ⟨.type "tuple", od, .seq #[.int i t0, .int j t1] n, sl⟩) (G : Hp) : Rp K G (.ref a) (.tup [.int i, .int j]) := by
  have r : RpL K G [V.int i, V.int j] [.int i, .int j] := RpL.cons (.int i) (RpL.cons (.int j) RpL.nil)
  have v : Vals [V.int i, V.int j] [Value.int i t0, Value.int j t1] := .cons ⟨t0, rfl⟩ (.cons ⟨t1, rfl⟩ .nil)
  have z : (#[Value.int i t0, Value.int j t1] : Array Value).size ≤ sizeLine := by rw [sizeLine_eq]; simp
  exact .tup (.inr ⟨_, _, n, l, rfl, rfl, z, v⟩) r.len r.get
end Bw
namespace Bw
open PySem PySem.Spec PyProof.Rows L2
/-! ### == of texts -/
def oEqS (d e : D) : Ev D := match d, e with
  | .str a, .str b => ret (.bl (decide (a = b)))
  | _, _ => stk
def oNeS (d e : D) : Ev D := match d, e with
  | .str a, .str b => ret (.bl (!decide (a = b)))
  | _, _ => stk
section
variable {X : Cx} {W : WN} {pos : Pos} {K : PySem.W.Frag} {a b : Expr} {f g : Ev D}
theorem Rv.str_of {θ : List Th} {G : Hp} {v : V} {z : Str} (h : Rv K θ G v (.str z)) : v = .str z := by
  cases h with
  | dat h => cases h; rfl
theorem dec_str (a b : Str) : decide (V.str a = V.str b) = decide (a = b) := by
  by_cases h : a = b
  · subst h; simp
  · rw [decide_eq_false h, decide_eq_false fun z => h (by cases z; rfl)]
theorem snd_eqS : SndO K W rEq oEqS := by
  intro θ G x y d e hx hy
  unfold oEqS
  split
  · rename_i a b
    rw [hx.str_of, hy.str_of]
    intro ρ M r M' θ1 G1 σ H Q p s e rs rv kk
    refine ⟨rfl, ?_⟩
    rw [dec_str]
    exact Snd.ret (K := K) (W := W) (R := RV K) (θ0 := θ) (G0 := G) (fun _ _ _ _ => rv_bl) ρ M r M' θ1 G1 σ H Q p s e rs rv kk
  · exact Snd.stk
theorem snd_neS : SndO K W rNe oNeS := by
  intro θ G x y d e hx hy
  unfold oNeS
  split
  · rename_i a b
    rw [hx.str_of, hy.str_of]
    intro ρ M r M' θ1 G1 σ H Q p s e rs rv kk
    refine ⟨rfl, ?_⟩
    rw [dec_str]
    exact Snd.ret (K := K) (W := W) (R := RV K) (θ0 := θ) (G0 := G) (fun _ _ _ _ => rv_bl) ρ M r M' θ1 G1 σ H Q p s e rs rv kk
  · exact Snd.stk
theorem de_eqS (ha : DE X W a f) (hb : DE X W b g) : DE X W (.Compare a [.Eq] [b] pos) (bnd f fun d => bnd g fun e => oEqS d e) := de_cmp op_eq snd_eqS ha hb (nomark _)
theorem dt_eqS (ha : DE X W a f) (hb : DE X W b g) : DT X W (.Compare a [.Eq] [b] pos) (bnd (bnd f fun d => bnd g fun e => oEqS d e) asB) := dt_cmp op_eq snd_eqS ha hb (nomark _)
theorem dt_neS (ha : DE X W a f) (hb : DE X W b g) : DT X W (.Compare a [.NotEq] [b] pos) (bnd (bnd f fun d => bnd g fun e => oNeS d e) asB) := dt_cmp op_ne snd_neS ha hb (nomark _)
end
theorem oEqS_ap (a b : Str) (ρ : Env) (M : Mem) : oEqS (.str a) (.str b) ρ M = some (.ok (.bl (decide (a = b))), M) := rfl
theorem oNeS_ap (a b : Str) (ρ : Env) (M : Mem) : oNeS (.str a) (.str b) ρ M = some (.ok (.bl (!decide (a = b))), M) := rfl
/-! ### what is shown -/
structure Sh (k n : Nat) (d : D) : Prop where
  pl : d.pl = true
  sh : (toPy d).showable = true
  nd : (toPy d).hasDict = false
  dp : (toPy d).depth ≤ k
  ln : (toPy d).shown.length ≤ 2000 * n
theorem Sh.mono {k n k' n' : Nat} {d : D} (h : Sh k n d) (hk : k ≤ k') (hn : n ≤ n') : Sh k' n' d := ⟨h.pl, h.sh, h.nd, Nat.le_trans h.dp hk, Nat.le_trans h.ln (Nat.mul_le_mul_left _ hn)⟩
theorem Sh.int {i : Int} (h : i.natAbs.log2 < 1920) : Sh 0 1 (.int i) := ⟨rfl, by simpa [toPy, PyData.showable] using h, rfl, by simp [toPy, PyData.depth], by
  have := int_text_len_1921 h
  simp only [toPy, PyData.shown]
  omega⟩
theorem Sh.non : Sh 0 1 .non := ⟨rfl, rfl, rfl, by simp [toPy, PyData.depth], by show (PySem.Str.ofString "None").length ≤ _; decide⟩
theorem Sh.bl (b : Bool) : Sh 0 1 (.bl b) := ⟨rfl, rfl, rfl, by simp [toPy, PyData.depth], by cases b <;> simp only [toPy, PyData.shown] <;> decide⟩
theorem plL_of : ∀ {ds : List D}, (∀ d ∈ ds, d.pl = true) → plL ds = true
  | [], _ => rfl
  | d :: ds, h => by
    unfold plL
    rw [h d (by simp), plL_of fun e he => h e (by simp [he])]
    rfl
theorem shL_of : ∀ {ds : List D}, (∀ d ∈ ds, (toPy d).showable = true) → PyData.showableAll (toPys ds) = true
  | [], _ => rfl
  | d :: ds, h => by
    simp only [toPys, PyData.showableAll]
    rw [h d (by simp), shL_of fun e he => h e (by simp [he])]
    rfl
theorem ndL_of : ∀ {ds : List D}, (∀ d ∈ ds, (toPy d).hasDict = false) → PyData.hasDictAll (toPys ds) = false
  | [], _ => rfl
  | d :: ds, h => by
    simp only [toPys, PyData.hasDictAll]
    rw [h d (by simp), ndL_of fun e he => h e (by simp [he])]
    rfl
theorem dpL_of {k : Nat} : ∀ {ds : List D}, (∀ d ∈ ds, (toPy d).depth ≤ k) → PyData.depthAll (toPys ds) ≤ k
  | [], _ => by simp [toPys, PyData.depthAll]
  | d :: ds, h => by
    simp only [toPys, PyData.depthAll]
    have h1 := h d (by simp)
    have h2 := dpL_of (ds := ds) fun e he => h e (by simp [he])
    omega
theorem lnL_of {n : Nat} : ∀ {ds : List D}, (∀ d ∈ ds, (toPy d).shown.length ≤ n) → piled (PyData.shownAll (toPys ds)) ≤ ds.length * (n + 2)
  | [], _ => by simp [toPys, PyData.shownAll, piled]
  | d :: ds, h => by
    simp only [toPys, PyData.shownAll]
    rw [piled_cons]
    have h1 := h d (by simp)
    have h2 := lnL_of (ds := ds) fun e he => h e (by simp [he])
    rw [List.length_cons, Nat.succ_mul]
    omega
theorem textFrom_le : ∀ (ts : List Str) (k : Nat) (acc : Str), (textFrom k acc ts).length ≤ acc.length + piled ts
  | [], k, acc => by simp [textFrom]
  | t :: ts, k, acc => by
    unfold textFrom
    refine Nat.le_trans (textFrom_le ts _ _) ?_
    rw [strLen_append, strLen_append, piled_cons]
    have : ((if k > 0 then ", " else "" : String) : Str).length ≤ 2 := by split <;> decide
    omega
theorem join_le (ts : List Str) : (Str.join ", " ts).length ≤ piled ts := by
  cases ts with
  | nil => exact Nat.zero_le _
  | cons t r =>
    have := join_length_add (t :: r) (by simp)
    omega
theorem Sh.tup {k n : Nat} {ds : List D} (h : ∀ d ∈ ds, Sh k n d) : Sh (k + 1) (ds.length * (n + 1) + 1) (.tup ds) := by
  refine ⟨?_, ?_, ?_, ?_, ?_⟩
  · unfold D.pl; exact plL_of fun d hd => (h d hd).pl
  · simp only [toPy, PyData.showable]; exact shL_of fun d hd => (h d hd).sh
  · simp only [toPy, PyData.hasDict]; exact ndL_of fun d hd => (h d hd).nd
  · simp only [toPy, PyData.depth]
    have := dpL_of fun d hd => (h d hd).dp
    omega
  · simp only [toPy, PyData.shown]
    have h1 := lnL_of fun d hd => (h d hd).ln
    have h2 := join_le (PyData.shownAll (toPys ds))
    unfold tupleText
    rw [strLen_append, strLen_append]
    have e1 : (("(" : String) : Str).length = 1 := by decide
    have e2 : ((if (PyData.shownAll (toPys ds)).length == 1 then ",)" else ")" : String) : Str).length ≤ 2 := by split <;> decide
    have e3 : ds.length * (2000 * n + 2) ≤ 2000 * (ds.length * (n + 1)) := by
      have a1 : 2000 * n + 2 ≤ 2000 * (n + 1) := by omega
      have a2 := Nat.mul_le_mul_left ds.length a1
      have a3 : ds.length * (2000 * (n + 1)) = 2000 * (ds.length * (n + 1)) := Nat.mul_left_comm _ _ _
      omega
    rw [e1]
    omega
theorem Sh.lst {k n : Nat} {ds : List D} (h : ∀ d ∈ ds, Sh k n d) : Sh (k + 1) (ds.length * (n + 1) + 1) (.lst ds) := by
  refine ⟨?_, ?_, ?_, ?_, ?_⟩
  · unfold D.pl; exact plL_of fun d hd => (h d hd).pl
  · simp only [toPy, PyData.showable]; exact shL_of fun d hd => (h d hd).sh
  · simp only [toPy, PyData.hasDict]; exact ndL_of fun d hd => (h d hd).nd
  · simp only [toPy, PyData.depth]
    have := dpL_of fun d hd => (h d hd).dp
    omega
  · simp only [toPy, PyData.shown]
    have h1 := lnL_of fun d hd => (h d hd).ln
    have h2 := textFrom_le (PyData.shownAll (toPys ds)) 0 "["
    unfold listText
    rw [strLen_append]
    have e1 : (("[" : String) : Str).length = 1 := by decide
    have e2 : (("]" : String) : Str).length = 1 := by decide
    have e3 : ds.length * (2000 * n + 2) ≤ 2000 * (ds.length * (n + 1)) := by
      have a1 : 2000 * n + 2 ≤ 2000 * (n + 1) := by omega
      have a2 := Nat.mul_le_mul_left ds.length a1
      have a3 : ds.length * (2000 * (n + 1)) = 2000 * (ds.length * (n + 1)) := Nat.mul_left_comm _ _ _
      omega
    rw [e1] at h2
    rw [e2]
    omega
theorem bd_log {q : Rat} (h : Bd 1900 q) : q.num.natAbs.log2 < 1920 ∧ ((q.den : Int)).natAbs.log2 < 1920 := by
  have h1 := log2_le_of h.1
  have h2 := log2_le_of h.2
  rw [Int.natAbs_natCast]
  omega
theorem Sh.fr {q : Rat} (h : Bd 1900 q) : Sh 1 5 (frQ q) := by
  obtain ⟨h1, h2⟩ := bd_log h
  have t := Sh.tup (k := 0) (n := 1) (ds := [.int q.num, .int (q.den : Int)]) (by
    simp only [List.mem_cons, List.not_mem_nil, or_false]
    rintro d (rfl | rfl)
    · exact Sh.int h1
    · exact Sh.int h2)
  exact t
/-! ### evaluation of the new parts -/
theorem oItS_lst (ds : List D) (ρ : Env) (M : Mem) : oItS (.lst ds) ρ M = some (.ok ds, M) := rfl
theorem oItS_tup (ds : List D) (ρ : Env) (M : Mem) : oItS (.tup ds) ρ M = some (.ok ds, M) := rfl
theorem oTupOf_lst (ds : List D) (ρ : Env) (M : Mem) : oTupOf [.lst ds] ρ M = some (.ok (.tup ds), M) := rfl
theorem oTupOf_tup (ds : List D) (ρ : Env) (M : Mem) : oTupOf [.tup ds] ρ M = some (.ok (.tup ds), M) := rfl
theorem oLstOf_lst (ds : List D) (ρ : Env) (M : Mem) : oLstOf [.lst ds] ρ M = some (.ok (.lst ds), M) := rfl
theorem oLstOf_tup (ds : List D) (ρ : Env) (M : Mem) : oLstOf [.tup ds] ρ M = some (.ok (.lst ds), M) := rfl
theorem oTupOf_ptr {n : Nat} {ds : List D} (ρ : Env) {M : Mem} (h : M[n]? = some (some ds)) : oTupOf [.ptr n] ρ M = some (.ok (.tup ds), M) := by
  unfold oTupOf oSq seqOf
  dsimp only
  rw [h]
theorem oRv_lst (ds : List D) (ρ : Env) (M : Mem) : oRv (.lst ds) ρ M = some (.ok (.lst ds.reverse), M) := rfl
theorem oRv_tup (ds : List D) (ρ : Env) (M : Mem) : oRv (.tup ds) ρ M = some (.ok (.tup ds.reverse), M) := rfl
theorem oAdd_tup (a b : List D) (ρ : Env) (M : Mem) (h : a.length + b.length ≤ 16777216) : oAdd (.tup a) (.tup b) ρ M = some (.ok (.tup (a ++ b)), M) := by
  unfold oAdd
  dsimp only
  rw [if_pos h]; rfl
theorem dChain_ap (f g h : Ev D) (o o' : D → D → Ev D) (ρ : Env) (M : Mem) : dChain f g h o o' ρ M = bindR (f ρ M) fun x M1 => bindR (g ρ M1) fun y M2 => bindR (o x y ρ M2) fun z M3 => bindR (asB z ρ M3) fun k M4 => if k = true then bindR (h ρ M4) fun w M5 => o' y w ρ M5 else some (.ok (.bl false), M4) := by
  unfold dChain
  simp only [bnd_ap]
  congr
  funext x M1
  congr
  funext y M2
  congr
  funext z M3
  congr
  funext k M4
  split <;> rfl
theorem okPtr_ap {n : Nat} {ds : List D} (ρ : Env) {M : Mem} (h : M[n]? = some (some ds)) : okPtr (.ptr n) ρ M = some (.ok (.ptr n), M) := by
  unfold okPtr
  dsimp only
  rw [h]
theorem oApp_ap {n : Nat} {ds : List D} {d : D} (ρ : Env) {M : Mem} (h : M[n]? = some (some ds)) (hd : d.np = true) (hl : ds.length < 16777216) : oApp (.ptr n) d ρ M = some (.ok .non, M.set n (some (ds ++ [d]))) := by
  unfold oApp
  dsimp only
  rw [h]
  dsimp only
  rw [if_pos ⟨hd, hl⟩]
theorem asTru_bl (b : Bool) (ρ : Env) (M : Mem) : asTru (.bl b) ρ M = some (.ok b, M) := rfl
theorem asTru_tup (ds : List D) (ρ : Env) (M : Mem) : asTru (.tup ds) ρ M = some (.ok (!ds.isEmpty), M) := rfl
theorem asTru_lst (ds : List D) (ρ : Env) (M : Mem) : asTru (.lst ds) ρ M = some (.ok (!ds.isEmpty), M) := rfl
theorem oIsN_ap (d : D) (ρ : Env) (M : Mem) : oIsN d .non ρ M = some (.ok (.bl d.isN), M) := rfl
theorem oNotN_ap (d : D) (ρ : Env) (M : Mem) : oNotN d .non ρ M = some (.ok (.bl (!d.isN)), M) := rfl
theorem asI_ap (i : Int) (ρ : Env) (M : Mem) : asI (.int i) ρ M = some (.ok (some i), M) := rfl
theorem oSl_tup (ds : List D) (l u : Option Int) (ρ : Env) (M : Mem) : oSl (.tup ds) l u ρ M = some (.ok (.tup (cutD ds l u)), M) := rfl
theorem oSl_lst (ds : List D) (l u : Option Int) (ρ : Env) (M : Mem) : oSl (.lst ds) l u ρ M = some (.ok (.lst (cutD ds l u)), M) := rfl
theorem oZip_tup (a b : List D) (ρ : Env) (M : Mem) : oZip [.tup a, .tup b] ρ M = some (.ok (zipD a b), M) := rfl
theorem oZip_lst (a b : List D) (ρ : Env) (M : Mem) : oZip [.lst a, .lst b] ρ M = some (.ok (zipD a b), M) := rfl
theorem oAddI_ap (i j : Int) (ρ : Env) (M : Mem) : oAddI (.int i) (.int j) ρ M = some (.ok (.int (i + j)), M) := rfl
/-! ### rows of plain data -/
theorem shaped_row {ds : List D} (h : ∀ d ∈ ds, (toPy d).canLay0 = true ∧ (toPy d).depth ≤ 60) : SeqAt.shaped (.list (toPys ds)) = true ∧ SeqAt.shaped (.tuple (toPys ds)) = true := by
  have h1 : PyData.canLayAll0 (toPys ds) = true := by
    induction ds with
    | nil => rfl
    | cons d ds ih =>
      simp only [toPys, PyData.canLayAll0]
      rw [(h d (by simp)).1, ih fun e he => h e (by simp [he])]
      rfl
  have h2 := dpL_of (k := 60) fun d hd => (h d hd).2
  constructor <;> (unfold SeqAt.shaped; simp only [PyData.canLay0, PyData.depth, h1, Bool.true_and]; exact decide_eq_true (by omega))
theorem oNe_nil (ρ : Env) (M : Mem) : oNe (.lst []) (.lst []) ρ M = some (.ok (.bl false), M) := rfl
end Bw
namespace Bw
open PySem PySem.Spec PyProof.Rows L2
/-- isinstance of several built-in types -/
def kitBs (a : String) : List String → Option Bool
  | [] => some false
  | T :: l => match kitB a T with
    | some true => some true
    | some false => kitBs a l
    | none => none
end Bw
/-! dicts of mixed keys: the readings -/
namespace Bw
open PySem PySem.Spec PyProof.Rows L2
/-- a value as a key -/
inductive KyV (K : PySem.W.Frag) (H : Hp) : V → NK → Prop
  | non : KyV K H .non .none
  | int (i : Int) : KyV K H (.int i) (.num i)
  | tup {a : Addr} {is : List Int} (h : SqT K H a (is.map V.int)) : KyV K H (.ref a) (.tup (is.map .num))
theorem nestedInts {h : Heap} : ∀ {is : List Int} {us : List Value}, Vals (is.map V.int) us → NestedAll h (is.map .num) us
  | [], us, r => by cases r; exact .nil
  | i :: is, us, r => by
    rw [List.map_cons] at r
    cases r with
    | cons a b =>
      obtain ⟨t, rfl⟩ := a
      exact .cons (.int i t) (nestedInts b)
theorem KyV.ky {X : Cx} {pins : List (Addr × Obj)} {σ : L2.St} {H : Hp} {s : Shared} {v : V} {k : NK} {u : Value} (I : Inv X pins σ H s) (x : KyV X.K H v k) (r : RelV v u) : KyIs s.heap k u := by
  cases x with
  | non => cases (show u = Value.none from r); exact .non
  | int i => obtain ⟨t, rfl⟩ := r; exact .int i t
  | tup q =>
    cases (show u = Value.ref _ from r)
    obtain ⟨its, rv, ⟨o, e, c, n, d⟩, _⟩ := I.tuple q
    exact .tup (.tup e c d (by simpa using nestedInts rv))
theorem KyV.mono {K : PySem.W.Frag} {G H : Hp} {v : V} {k : NK} (s : Same G H) (x : KyV K G v k) : KyV K H v k := by
  cases x with
  | non => exact .non
  | int i => exact .int i
  | tup q => exact .tup (seqT s q)
def lookV (es : VE) (k : NK) : Option (V × V) := (es.find? fun x => decide (x.1 = k)).map (·.2)
def putV (es : VE) (k : NK) (kv v : V) : VE := if (lookV es k).isSome = true then es.map (fun x => if x.1 = k then (x.1, x.2.1, v) else x) else es ++ [(k, kv, v)]
abbrev PV : VE → R3 → Prop := Paired fun (p : NK × V × V) (q : NK × Value × Value) => p.1 = q.1 ∧ RelV p.2.1 q.2.1 ∧ RelV p.2.2 q.2.2
theorem PV.look {es : VE} {rows : R3} (h : PV es rows) (k : NK) : (lookV es k = none ∧ look3 rows k = none) ∨ ∃ p q, lookV es k = some p ∧ look3 rows k = some q ∧ RelV p.1 q.1 ∧ RelV p.2 q.2 := by
  induction h with
  | nil => exact .inl ⟨rfl, rfl⟩
  | @cons p q ps qs r t ih =>
    by_cases e : p.1 = k
    · right
      refine ⟨p.2, q.2, ?_, ?_, r.2.1, r.2.2⟩
      · unfold lookV; rw [List.find?_cons_of_pos (by simpa using e)]; rfl
      · unfold look3; rw [List.find?_cons_of_pos (by simpa using r.1.symm.trans e)]; rfl
    · have e2 : ¬ q.1 = k := fun z => e (r.1.trans z)
      unfold lookV look3 at ih ⊢
      rw [List.find?_cons_of_neg (by simpa using e), List.find?_cons_of_neg (by simpa using e2)]
      exact ih
theorem PV.put {es : VE} {rows : R3} (h : PV es rows) {k : NK} {kv v : V} {ku u : Value} (rk : RelV kv ku) (rv : RelV v u) : PV (putV es k kv v) (put3 rows k ku u) := by
  unfold putV put3
  have map : PV (es.map (fun x => if x.1 = k then (x.1, x.2.1, v) else x)) (rows.map (fun x => if x.1 = k then (x.1, x.2.1, u) else x)) := by
    clear rk
    induction h with
    | nil => exact .nil
    | @cons p q ps qs r t ih =>
      rw [List.map_cons, List.map_cons]
      refine .cons ?_ ih
      by_cases e : p.1 = k
      · rw [if_pos e, if_pos (r.1.symm.trans e)]; exact ⟨r.1, r.2.1, rv⟩
      · rw [if_neg e, if_neg (fun z => e (r.1.trans z))]; exact r
  rcases PV.look h k with ⟨e1, e2⟩ | ⟨p, q, e1, e2, _⟩
  · rw [e1, e2]
    exact Paired.snoc h ⟨rfl, rk, rv⟩
  · rw [e1, e2]
    exact map
/-- what is known of a dict -/
structure D3 (K : PySem.W.Frag) (H : Hp) (a : Addr) (es : VE) : Prop where
  rd : Rd H a (DH a es)
  ky : ∀ p ∈ es, KyV K H p.2.1 p.1
section
variable {X : Cx} {pins : List (Addr × Obj)} {σ : L2.St} {H : Hp} {s : Shared} {a : Addr} {es : VE}
theorem PV.keys {rows : R3} (h : PV es rows) (I : Inv X pins σ H s) (ky : ∀ p ∈ es, KyV X.K H p.2.1 p.1) : ∀ x ∈ rows, KyIs s.heap x.1 x.2.1 := by
  induction h with
  | nil => intro x hx; cases hx
  | @cons p q ps qs r t ih =>
    intro x hx
    rcases List.mem_cons.mp hx with e | hx
    · subst e
      rw [← r.1]
      exact (ky p (by simp)).ky I r.2.1
    · exact ih (fun p hp => ky p (by simp [hp])) x hx
theorem DH.new {P : Program} {w : World} {H' : Hp} {h' : Heap} {es : VE} {rows : R3} (h1 : (a == sysModules) = false) (h2 : es.length ≤ sizeLine) (h3 : PV es rows) (h4 : Dic3 h' a rows) : ObjOk P w H' h' a (DH a es) := by
  refine ⟨⟨h1, h2, rows, h3, h4⟩, ?_, fun g1 g2 q k => ?_⟩
  · obtain ⟨o, _, _, e, _⟩ := h4; exact ⟨o, e⟩
  · obtain ⟨q1, q2, rows, q3, o, es, ep, e, r⟩ := q
    exact ⟨q1, q2, rows, q3, o, es, ep, k o e, r⟩
end
/-- d[y] -/
def rIx3 (K : PySem.W.Frag) : R2 := fun x y H Q => ∃ a es k p, x = .ref a ∧ D3 K H a es ∧ KyV K H y k ∧ lookV es k = some p ∧ Q p.2 H
/-- y in d -/
def rIn3 (K : PySem.W.Frag) : R2 := fun y x H Q => ∃ a es k, x = .ref a ∧ D3 K H a es ∧ KyV K H y k ∧ Q (.bl (lookV es k).isSome) H
/-- d[y] = v -/
def rSet3 (K : PySem.W.Frag) : TSet := fun o i v H Q => ∃ a es k, o = .ref a ∧ H a = some (DH a es) ∧ (∀ p ∈ es, KyV K H p.2.1 p.1) ∧ KyV K H i k ∧ es.length < sizeLine ∧ Q (upd H a (DH a (putV es k i v)))
/-- d.get(y, z) -/
def tGet3 (K : PySem.W.Frag) (td ty tx : TE) : TE := fun σ H Q => td σ H fun x H1 => ∃ a es, x = .ref a ∧ D3 K H1 a es ∧ ty σ H1 fun y H2 => tx σ H2 fun z H3 => ∃ es3 k, D3 K H3 a es3 ∧ KyV K H3 y k ∧ Q (((lookV es3 k).map (·.2)).getD z) H3
section
variable {X : Cx} {o i e f : Expr} {pos apos cpos : Pos} {td ty tx : TE}
end
/-! ### for y in d -/
/-- the keys of the locked dict -/
def Itk3 (d : Addr) (o : Obj) (es : VE) : It :=
  ⟨fun i H => H d = some (.frz o (DH d es)) ∧ i < es.length, fun i H x H' => H' = H ∧ ∃ k v, es[i]? = some (k, x, v), fun i H => H d = some (.frz o (DH d es)) ∧ es.length ≤ i⟩
section
variable {P : Program} {w : World} {K : PySem.W.Frag} {tg : Expr} {d : Addr} {o : Obj} {en : Array DictEntry} {ep : Nat}
end
def iKeys3 (td : TE) : TI := fun σ H R => td σ H fun x H1 => ∃ d o es, x = .ref d ∧ H1 d = some (.frz o (DH d es)) ∧ R (Itk3 d o es) H1
end Bw
/-! dicts, by data -/
namespace Bw
open PySem PySem.Spec PyProof.Rows L2
def decs : List D → Option DEs
  | [] => some []
  | .tup [k, v] :: r => (decs r).map ((k, v) :: ·)
  | _ :: _ => none
def dec (ds : List D) : Option (Bool × DEs) := match ds with
  | .bl b :: r => (decs r).map (b, ·)
  | _ => none
def dicOf (d : D) (M : Mem) : Option (Nat × Bool × DEs) := match d with
  | .dpt n => match M[n]? with
    | some (some ds) => (dec ds).map (n, ·)
    | _ => none
  | _ => none
section
variable {K : PySem.W.Frag} {θ : List Th} {G H : Hp} {M : Mem} {v : V} {d : D} {n : Nat} {b : Bool} {es : DEs}
theorem ints_of : ∀ {ds : List D} {is : List Int}, intsD ds = some is → ds = is.map D.int
  | [], is, h => by cases h; rfl
  | d :: r, is, h => by
    unfold intsD at h
    split at h
    · rename_i h0; cases h0
    · rename_i i r' e0
      cases e0
      cases q : intsD r with
      | none => rw [q] at h; cases h
      | some ps => rw [q] at h; cases h; rw [List.map_cons, ints_of q]
    · cases h
theorem rpl_ints : ∀ {is : List Int} {xs : List V}, RpL K G xs (is.map D.int) → xs = is.map V.int
  | [], xs, r => r.nil_of
  | i :: is, xs, r => by
    rw [List.map_cons] at r
    obtain ⟨w, ys, rfl, h1, h2⟩ := r.uncons
    cases h1
    rw [List.map_cons, rpl_ints h2]
theorem ky_of {k : NK} (h : Rp K G v d) (e : keyN d = some k) : KyV K G v k := by
  cases h with
  | non => cases e; exact .non
  | int i => cases e; exact .int i
  | @tup a xs ds h l g =>
    unfold keyN at e
    dsimp only at e
    cases q : intsD ds with
    | none => rw [q] at e; cases e
    | some is =>
      rw [q] at e
      cases e
      have e2 := ints_of q
      subst e2
      have e3 := rpl_ints ⟨l, g⟩
      subst e3
      exact .tup h
  | _ => cases e
def lookD (es : DEs) (k : NK) : Option D := (es.find? fun p => decide (keyN p.1 = some k)).map (·.2)
def putD (es : DEs) (k : NK) (kd x : D) : DEs := if (lookD es k).isSome = true then es.map (fun p => if keyN p.1 = some k then (p.1, x) else p) else es ++ [(kd, x)]
theorem RpE.look {xs : VE} (h : RpE K G xs es) (k : NK) : (lookV xs k = none ∧ lookD es k = none) ∨ ∃ p x, lookV xs k = some p ∧ lookD es k = some x ∧ Rp K G p.2 x := by
  unfold RpE at h
  induction h with
  | nil => exact .inl ⟨rfl, rfl⟩
  | @cons p q ps qs r t ih =>
    by_cases e : p.1 = k
    · right
      refine ⟨p.2, q.2, ?_, ?_, r.2.2⟩
      · unfold lookV; rw [List.find?_cons_of_pos (by simpa using e)]; rfl
      · unfold lookD; rw [List.find?_cons_of_pos (by rw [r.1, e]; simp)]; rfl
    · unfold lookV lookD at ih ⊢
      rw [List.find?_cons_of_neg (by simpa using e), List.find?_cons_of_neg (by rw [r.1]; simpa using e)]
      exact ih
theorem RpE.put {xs : VE} (h : RpE K G xs es) {k : NK} {kv u : V} {kd x : D} (e : keyN kd = some k) (rk : Rp K G kv kd) (rv : Rp K G u x) : RpE K G (putV xs k kv u) (putD es k kd x) := by
  unfold putV putD
  have map : RpE K G (xs.map (fun x => if x.1 = k then (x.1, x.2.1, u) else x)) (es.map (fun p => if keyN p.1 = some k then (p.1, x) else p)) := by
    unfold RpE at h ⊢
    clear rk e
    induction h with
    | nil => exact .nil
    | @cons p q ps qs r t ih =>
      rw [List.map_cons, List.map_cons]
      refine .cons ?_ ih
      by_cases e : p.1 = k
      · rw [if_pos e, if_pos (by rw [r.1, e])]; exact ⟨r.1, r.2.1, rv⟩
      · rw [if_neg e, if_neg (by rw [r.1]; simpa using e)]; exact r
  rcases h.look k with ⟨e1, e2⟩ | ⟨p, q, e1, e2, _⟩
  · rw [e1, e2]
    exact Paired.snoc h ⟨e, rk, rv⟩
  · rw [e1, e2]
    exact map
theorem RpE.keys {xs : VE} (h : RpE K G xs es) : ∀ p ∈ xs, KyV K G p.2.1 p.1 := by
  unfold RpE at h
  induction h with
  | nil => intro p hp; cases hp
  | @cons p q ps qs r t ih =>
    intro z hz
    rcases List.mem_cons.mp hz with e | hz
    · subst e; exact ky_of r.2.1 r.1
    · exact ih z hz
theorem DicAt.d3 {a : Addr} {xs : VE} (rs : Rs K θ G H M) (h : DicAt G H a b xs) (r : RpE K G xs es) : D3 K H a xs := by
  refine ⟨?_, fun p hp => (r.keys p hp).mono rs.sub⟩
  unfold DicAt at h
  cases b with
  | true => obtain ⟨o, h⟩ := h; exact .inr ⟨o, rs.sub _ _ h⟩
  | false => exact .inl h.2
end
/-- d[y] -/
def oDIx (d e : D) : Ev D := fun _ M => match dicOf d M, keyN e with
  | some (_, _, es), some k => match lookD es k with
    | some x => some (.ok x, M)
    | none => none
  | _, _ => none
def oDIn (e d : D) : Ev D := fun _ M => match dicOf d M, keyN e with
  | some (_, _, es), some k => some (.ok (.bl (lookD es k).isSome), M)
  | _, _ => none
def okDic (d : D) : Ev D := fun _ M => match dicOf d M with
  | some _ => some (.ok d, M)
  | none => none
def oDGt (d e z : D) : Ev D := fun _ M => match dicOf d M, keyN e with
  | some (_, _, es), some k => if z.np = true then some (.ok ((lookD es k).getD z), M) else none
  | _, _ => none
def oDNew : Ev D := fun _ M => some (.ok (.dpt M.length), M ++ [some (enc false [])])
def sDPut (f fo fi : Ev D) : Sv := thenS f fun x => thenS fo fun o => thenS fi fun i => fun ρ M => match dicOf o M, keyN i with
  | some (n, false, es), some k => if x.np = true ∧ i.np = true ∧ es.length < 16777216 then some (.nx ρ, M.set n (some (enc false (putD es k i x)))) else none
  | _, _ => none
section
variable {X : Cx} {W : WN} {pos : Pos} {K : PySem.W.Frag}
end
end Bw
/-! dicts walked -/
namespace Bw
open PySem PySem.Spec PyProof.Rows L2
def del (G : Hp) (a : Addr) : Hp := fun b => if b = a then none else G b
theorem del_ne {G : Hp} {a b : Addr} (h : b ≠ a) : del G a b = G b := if_neg h
section
variable {K : PySem.W.Frag} {G H : Hp} {a : Addr} {o : Obj} {xs : VE}
theorem Rp.del {v : V} {d : D} (h : Rp K G v d) (e : G a = some (.frz o (DH a xs))) : Rp K (del G a) v d := by
  have ne : ∀ {b : Addr} {u : HO}, G b = some u → (∀ o' : Obj, u ≠ .frz o' (DH a xs)) → b ≠ a := fun {b u} q n z => by
    subst z
    rw [e] at q
    cases q
    exact n _ rfl
  induction h with
  | non => exact .non
  | bl b => exact .bl b
  | int i => exact .int i
  | str z => exact .str z
  | tup h l _ ih =>
    refine .tup ?_ l ih
    rcases h with (h | ⟨o', h⟩) | h
    · exact .inl (.inl (by rw [del_ne (ne h fun _ z => by cases z)]; exact h))
    · exact .inl (.inr ⟨o', by rw [del_ne (ne h fun _ z => by cases z)]; exact h⟩)
    · exact .inr h
  | lst h l _ ih => exact .lst (by rw [del_ne (ne h fun _ z => by cases z)]; exact h) l ih
  | scr h l _ ih =>
    refine .scr ?_ l ih
    rcases h with (h | ⟨o', h⟩) | h
    · exact .inl (.inl (by rw [del_ne (ne h fun _ z => by cases z)]; exact h))
    · exact .inl (.inr ⟨o', by rw [del_ne (ne h fun _ z => by cases z)]; exact h⟩)
    · exact .inr h
  | emp h => exact .emp (by rw [del_ne (ne h fun _ z => by cases z)]; exact h)
theorem Rv.del {θ : List Th} {v : V} {d : D} (h : Rv K θ G v d) (e : G a = some (.frz o (DH a xs))) : Rv K θ (del G a) v d := by
  cases h with
  | dat h => exact .dat (h.del e)
  | ptr h => exact .ptr h
  | dpt h => exact .dpt h
  | npt h => exact .npt h
  | exv hn h => exact .exv hn (by
      rw [del_ne fun z => ?_]
      · exact h
      · subst z; rw [e] at h; cases h)
theorem RpL.del {vs : List V} {ds : List D} (h : RpL K G vs ds) (e : G a = some (.frz o (DH a xs))) : RpL K (del G a) vs ds := ⟨h.len, fun i v d p q => (h.get i v d p q).del e⟩
theorem RvL.del {θ : List Th} {vs : List V} {ds : List D} (h : RvL K θ G vs ds) (e : G a = some (.frz o (DH a xs))) : RvL K θ (del G a) vs ds := ⟨h.len, fun i v d p q => (h.get i v d p q).del e⟩
theorem RpE.del {ys : VE} {es : DEs} (h : RpE K G ys es) (e : G a = some (.frz o (DH a xs))) : RpE K (del G a) ys es := Paired.mapP h fun p q z => ⟨z.1, z.2.1.del e, z.2.2.del e⟩
variable {θ : List Th} {M : Mem} {n : Nat} {es : DEs}
end
open Classical in
/-- the dict in slot i is locked while f runs -/
noncomputable def dLk (i : Nat) (f : Ev D) : Ev D := fun ρ M => match ρ[i]? with
  | some (some d) => match dicOf d M with
    | some (n, false, es) => match f ρ (M.set n (some (enc true es))) with
      | some (.ok x, M2) => if M2[n]? = some (some (enc true es)) then some (.ok x, M2.set n (some (enc false es))) else none
      | some (.exc C, M2) => some (.exc C, M2)
      | none => none
    | _ => none
  | _ => none
section
variable {X : Cx} {W : WN} {pos : Pos} {K : PySem.W.Frag}
def oItD (d : D) : Ev (List D) := fun _ M => match dicOf d M with
  | some (_, true, es) => some (.ok (es.map (·.1)), M)
  | _ => none
end
theorem gok_never {P : Program} {w : World} {K : PySem.W.Frag} {mg : Str → Option Value} {base : Heap} {C : CXT} {k n : Nat} {f : Addr} {fd : FuncData} {ps : List Str} {F : Fd} (h : ∀ ds M, F ds M = none) : GOk P w K mg base C k f fd ps (spF K mg n F) := by
  have no : ∀ vs H Q E, ¬ spF K mg n F vs H Q E := fun vs H Q E q => by
    obtain ⟨θ, G, ds, M, r, M', _, _, _, e, _⟩ := q
    rw [h] at e
    cases e
  exact ⟨fun vs H Q E q => absurd q (no vs H Q E), fun A ou s H ar us vs Q E _ _ _ _ q => absurd q (no vs H Q E)⟩
end Bw
/-! lists that change, once more -/
namespace Bw
open PySem PySem.Spec PyProof.Rows L2
/-- the parts of a list that stands, changing or not -/
def lstAt (d : D) (M : Mem) : Option (List D) := match d with
  | .lst ds => some ds
  | .ptr n => match M[n]? with
    | some (some ds) => some ds
    | _ => none
  | _ => none
section
variable {X : Cx} {W : WN} {pos : Pos} {K : PySem.W.Frag}
theorem lstAt_of {θ : List Th} {G H : Hp} {M : Mem} {v : V} {d : D} {ds : List D} (rs : Rs K θ G H M) (hv : Rv K θ G v d) (h : lstAt d M = some ds) : ∃ a xs, v = .ref a ∧ H a = some (.lst xs) ∧ RpL K G xs ds := by
  cases hv with
  | dat q =>
    cases q with
    | lst h1 l g => cases h; exact ⟨_, _, rfl, rs.sub _ _ h1, l, g⟩
    | _ => cases h
  | ptr hn =>
    rename_i n a
    unfold lstAt at h
    dsimp only at h
    split at h
    · rename_i es hm
      cases h
      obtain ⟨g, xs, hx, rl⟩ := rs.mem n _ _ hn hm
      exact ⟨_, xs, rfl, hx, rl⟩
    · cases h
  | dpt _ => cases h
  | npt _ => cases h
  | exv _ _ => cases h
/-- a + b, a list that will change -/
def oAddN (d e : D) : Ev D := fun ρ M => match lstAt d M, lstAt e M with
  | some a, some b => if a.length + b.length ≤ 16777216 then some (.ok (.ptr M.length), M ++ [some (a ++ b)]) else none
  | _, _ => none
/-- repr of a list that changes -/
def oReprM (ds : List D) : Ev D := fun ρ M => match ds with
  | [d] => oReprD [frz M d] ρ M
  | _ => none
/-- a list that changes is walked, and stays as it is from then on -/
def oItF (d : D) : Ev (List D) := fun ρ M => match d with
  | .ptr n => match M[n]? with
    | some (some ds) => some (.ok ds, M.set n none)
    | _ => none
  | _ => none
end
end Bw
namespace Bw
open PySem PySem.Spec PyProof.Rows L2
section
variable {X : Cx} {W : WN} {K : PySem.W.Frag}
/-! ### enumerate of a list that stays -/
def enumFrom (n : Nat) : List D → List D
  | [] => []
  | d :: ds => .tup [.int (n : Int), d] :: enumFrom (n + 1) ds
theorem enum_len : ∀ (ds : List D) (n : Nat), (enumFrom n ds).length = ds.length
  | [], _ => rfl
  | _ :: ds, n => by rw [enumFrom, List.length_cons, List.length_cons, enum_len ds]
theorem enum_get : ∀ {ds : List D} {n i : Nat} {d : D}, (enumFrom n ds)[i]? = some d → ∃ u, ds[i]? = some u ∧ d = .tup [.int ((n + i : Nat) : Int), u]
  | [], n, i, d, h => by cases h
  | x :: ds, n, 0, d, h => by
    rw [enumFrom] at h
    cases h
    exact ⟨x, rfl, rfl⟩
  | x :: ds, n, i + 1, d, h => by
    rw [enumFrom] at h
    obtain ⟨u, h1, h2⟩ := enum_get (ds := ds) (n := n + 1) (i := i) (d := d) h
    refine ⟨u, h1, ?_⟩
    rw [h2]
    congr 3
    omega
def oEnum (ds : List D) : Ev (List D) := match ds with
  | [.lst a] => ret (enumFrom 0 a)
  | _ => stk
theorem ri_enumL {θ : List Th} {G : Hp} {a : Addr} {xs : List V} {ds : List D} (ha : SqL K G a xs) (r1 : RpL K G xs ds) : RI K θ G (Ite K a) (enumFrom 0 ds) := by
  refine ⟨fun i θ1 G1 H M _ s rs hi => ?_, fun θ1 G1 H M _ s rs => ?_, fun i d θ1 G1 H M x H' _ s rs hd y => ?_⟩
  · rw [enum_len] at hi
    obtain ⟨v, hv, _⟩ := r1.at (List.getElem?_eq_getElem (show i < ds.length by omega))
    exact ⟨xs, v, rs.sub.seq (s.seq ha), hv⟩
  · refine ⟨xs, rs.sub.seq (s.seq ha), ?_⟩
    rw [enum_len, r1.len]
    omega
  · obtain ⟨T, x1, rfl, hT, rfl, h1⟩ := y
    obtain ⟨u, hu, rfl⟩ := enum_get hd
    have g := rs.fresh hT
    have e1 := h1 xs (rs.sub.seq (s.seq ha))
    refine ⟨upd G1 T (.tup [.int (i : Nat), x1]), same_upd g, rs.laid hT _, .dat ?_⟩
    rw [Nat.zero_add]
    exact rp_pair upd_same (.int _) (((r1.get i _ _ e1 hu).mono s).mono (same_upd g))
theorem di_enum {elts : List Expr} {kk : Nat} {tpos p pos : Pos} {e : Expr} {h : Ev (List D)} (hm : X.mg "enumerate" = none) (ha : DA X W [e] h) (hg : Gl X "enumerate" := by rfl) (hs : starEach [e] X.env = [(false, eval e X.env)] := by rfl) :
    DI X W (.Tuple elts kk tpos) (.Call (.Name "enumerate" p) [e] [] pos) (bnd h oEnum) := by
  obtain ⟨t, q, s⟩ := ha
  refine ⟨_, pi_enum hg hm q hs, fun θ G => (s θ G).bind (R2 := RI X.K) (k := fun (vs : List V) (_ : L2.St) (H1 : Hp) (R : It → Hp → Prop) => ∃ a xs, vs = [.ref a] ∧ SqL X.K H1 a xs ∧ R (Ite X.K a) H1) fun θ1 G1 vs ds _ _ hv => ?_⟩
  unfold oEnum
  split
  · rename_i da
    obtain ⟨v, rfl, h1⟩ := vals1 hv
    cases h1 with
    | dat h1 =>
      cases h1 with
      | lst q1 l1 g1 =>
        intro ρ M r M' θ2 G2 σ H Q p s e rs rv kk
        exact ⟨_, _, rfl, .inl (.inl (rs.sub _ _ (s _ _ q1))), Snd.ret (K := X.K) (W := W) (R := RI X.K) (θ0 := θ1) (G0 := G1) (fun _ _ p s => (ri_enumL (.inl (.inl q1)) ⟨l1, g1⟩).mono p s) ρ M r M' θ2 G2 σ H Q p s e rs rv kk⟩
  · exact Snd.stk
theorem oEnum_lst (a : List D) (ρ : Env) (M : Mem) : oEnum [.lst a] ρ M = some (.ok (enumFrom 0 a), M) := rfl
end
end Bw
/-! sum and sorted of a list of ints -/
namespace Bw
open PySem PySem.Spec PyProof.Rows L2
section
variable {X : Cx} {W : WN} {K : PySem.W.Frag}
def insOf : List D → Option (List Int)
  | [] => some []
  | .int b :: r => (insOf r).map (b :: ·)
  | _ => none
def oSum (ds : List D) : Ev D := match ds with
  | [.lst es] => match insOf es with
    | some bs => ret (.int bs.sum)
    | none => stk
  | _ => stk
end
end Bw
/-! lists that change, joined to ones that stay; list() that will change -/
namespace Bw
open PySem PySem.Spec PyProof.Rows L2
section
variable {X : Cx} {W : WN} {pos : Pos} {K : PySem.W.Frag}
/-- a + b, a list that stays -/
def oAddL (d e : D) : Ev D := fun ρ M => match lstAt d M, lstAt e M with
  | some a, some b => if a.length + b.length ≤ 16777216 then some (.ok (.lst (a ++ b)), M) else none
  | _, _ => none
/-- list(x), a list that will change -/
def oLstN (ds : List D) : Ev D := fun ρ M => match ds with
  | [d] => match seqOf d M with
    | some es => some (.ok (.ptr M.length), M ++ [some es])
    | none => none
  | _ => none
end
end Bw
/-! a list so many times, that will change -/
namespace Bw
open PySem PySem.Spec PyProof.Rows L2
section
variable {X : Cx} {W : WN} {pos : Pos} {K : PySem.W.Frag}
def oRepN (d e : D) : Ev D := fun ρ M => match lstAt d M, e with
  | some a, .int k => if 0 ≤ k ∧ k < 1000000 ∧ a.length * k.toNat ≤ 16777216 then some (.ok (.ptr M.length), M ++ [some (List.replicate k.toNat a).flatten]) else none
  | _, _ => none
end
end Bw
/-! zip of a tuple and a list -/
namespace Bw
open PySem PySem.Spec PyProof.Rows L2
def ItM (K : PySem.W.Frag) (a b : Addr) : It where
  go := fun i H => ∃ (us ws : List V) (x y : V), SqT K H a us ∧ SqL K H b ws ∧ us[i]? = some x ∧ ws[i]? = some y
  yld := fun i H v H' => ∃ (t : Addr) (x y : V), v = .ref t ∧ H t = none ∧ H' = upd H t (.tup [x, y]) ∧ (∀ us, SqT K H a us → us[i]? = some x) ∧ (∀ ws, SqL K H b ws → ws[i]? = some y)
  stop := fun i H => ∃ us ws : List V, SqT K H a us ∧ SqL K H b ws ∧ i = min us.length ws.length
def atM (z t0 t1 j1 j2 a b : Addr) (i : Nat) (h : Heap) : Prop := IsZip h z t0 t1 .none ∧ IsTupOf2 h t0 (.ref j1) (.ref j2) ∧ (∃ p q, IsTupOf2 h t1 p q) ∧ h.IsTupleIter j1 a i ∧ h.IsListIter j2 b i
def iZipM (K : PySem.W.Frag) (ta : TA) : TI := fun σ H R => ta σ H fun vs H1 => ∃ a b us ws, vs = [.ref a, .ref b] ∧ SqT K H1 a us ∧ SqL K H1 b ws ∧ R (ItM K a b) H1
section
variable {X : Cx} {W : WN} {pos : Pos} {K : PySem.W.Frag}
def oZipM (ds : List D) : Ev (List D) := match ds with
  | [.tup a, .lst b] => ret (zipD a b)
  | _ => stk
end
end Bw
/-! enumerate of a tuple -/
namespace Bw
open PySem PySem.Spec PyProof.Rows L2
abbrev enObj (it : Nat) : Obj := { cls := .type "enumerate", data := .fields #[.none, .bool false, .ref it, rawInt 0, .none, .none] }
def ItN (K : PySem.W.Frag) (a : Addr) : It where
  go := fun i H => ∃ (us : List V) (x : V), SqT K H a us ∧ us[i]? = some x
  yld := fun i H v H' => ∃ (t : Addr) (x : V), v = .ref t ∧ H t = none ∧ H' = upd H t (.tup [.int (i : Nat), x]) ∧ (∀ us, SqT K H a us → us[i]? = some x)
  stop := fun i H => ∃ us : List V, SqT K H a us ∧ i = us.length
def atN (e j a : Addr) (i : Nat) (h : Heap) : Prop := (∃ old, IsEnum h e j ((0 : Int) + (i : Int)) old) ∧ h.IsTupleIter j a i
def iEnT (K : PySem.W.Frag) (ta : TA) : TI := fun σ H R => ta σ H fun vs H1 => ∃ a us, vs = [.ref a] ∧ SqT K H1 a us ∧ R (ItN K a) H1
section
variable {X : Cx} {W : WN} {pos : Pos} {K : PySem.W.Frag}
def oEnT (ds : List D) : Ev (List D) := match ds with
  | [.tup a] => ret (enumFrom 0 a)
  | _ => stk
end
end Bw
/-! lists that hold lists that will change -/
namespace Bw
open PySem PySem.Spec PyProof.Rows L2
section
variable {X : Cx} {W : WN} {pos : Pos} {K : PySem.W.Frag}
def oNewN (ds : List D) : Ev D := fun _ M => if ds.length ≤ 16777216 then some (.ok (.npt M.length), M ++ [some ds]) else none
/-! x[i] of it -/
def oIxN (d e : D) : Ev D := fun ρ M => match d, e with
  | .npt n, .int i => match M[n]? with
    | some (some ds) => match atI ds i with
      | some x => some (.ok x, M)
      | none => none
    | _ => none
  | _, _ => none
/-! x[i] = e -/
def sStoreN (f fo fi : Ev D) : Sv := thenS f fun d => thenS fo fun o => thenS fi fun i => fun ρ M => match o, i with
  | .npt n, .int k => match M[n]? with
    | some (some ds) => match ixN ds.length k with
      | some j => if d.np = true then some (.nx ρ, M.set n (some (ds.set j d))) else none
      | none => none
    | _ => none
  | _, _ => none
/-! xs.pop(i) -/
def oPopI (d y : D) : Ev D := fun ρ M => match d, y with
  | .ptr n, .int i => match M[n]? with
    | some (some ds) => match seqIndex? i ds.length with
      | some k => match ds[k]? with
        | some x => if -(2 ^ 63) ≤ i ∧ i < 2 ^ 63 then some (.ok x, M.set n (some (ds.eraseIdx k))) else none
        | none => none
      | none => none
    | _ => none
  | _, _ => none
/-! evaluation -/
end
end Bw
/-! the first place of a truth in a list of truths; 1 << n -/
namespace Bw
open PySem PySem.Spec PyProof.Rows L2
section
variable {X : Cx} {W : WN} {pos : Pos} {K : PySem.W.Frag}
def idxB (k : Bool) : List Bool → Option Nat
  | [] => none
  | b :: r => if b = k then some 0 else (idxB k r).map (· + 1)
def oIdxB (d : D) (es : List D) : Ev D := match d, es with
  | .lst ds, [.bl k] => match blsOf ds with
    | some ns => match idxB k ns with
      | some j => ret (.int (j : Nat))
      | none => stk
    | none => stk
  | _, _ => stk
/-! << -/
def oShl (d e : D) : Ev D := match d, e with
  | .int i, .int j => if 0 ≤ j ∧ j ≤ 1000000 ∧ i.natAbs < 2 ^ 64 then ret (.int (i * 2 ^ j.toNat)) else stk
  | _, _ => stk
end
end Bw
namespace Bw
open PySem PySem.Spec PyProof.Rows L2
/-- a number of the module -/
theorem de_constI {X : Cx} {W : WN} {pos : Pos} {x : Str} {i : Int} {t : Tok} (hm : X.mg x = some (.int i t)) (hg : Gl X x := by rfl) (hdb : (x == ("__debug__" : Str)) = false := by decide) : DE X W (.Name x pos) (ret (.int i)) := ⟨_, pe_glob (v := .int i) hg hm ⟨t, rfl⟩ (hd := hdb), fun _ _ => snd_c fun _ => .int i⟩
end Bw
namespace Bw
open PySem PySem.Spec PyProof.Rows L2
end Bw
/-! repr of data that hold {} and no list; a tuple so many times -/
namespace Bw
open PySem PySem.Spec PyProof.Rows L2
mutual
def toPyE : D → PyData
  | .non => .none
  | .bl b => .bool b
  | .int i => .int i
  | .str z => .str z
  | .tup ds => .tuple (toPysE ds)
  | .emp => .dict []
  | _ => .none
def toPysE : List D → List PyData
  | [] => []
  | d :: ds => toPyE d :: toPysE ds
end
mutual
def D.plE : D → Bool
  | .non => true
  | .bl _ => true
  | .int _ => true
  | .str _ => true
  | .emp => true
  | .tup ds => plEL ds
  | _ => false
def plEL : List D → Bool
  | [] => true
  | d :: ds => d.plE && plEL ds
end
section
variable {X : Cx} {pins : List (Addr × Obj)} {σ : L2.St} {H : Hp} {s : Shared}
end
def rReprE (K : PySem.W.Frag) : List V → Hp → VK → Prop := fun xs H Q => ∃ x d, xs = [x] ∧ Rp K H x d ∧ d.plE = true ∧ (toPyE d).showable = true ∧ (toPyE d).depth ≤ 100 ∧ (toPyE d).shown.length ≤ sizeLine ∧ Q (.str (toPyE d).shown) H
/-- either way -/
def oReprA (ds : List D) : Ev D := match ds with
  | [d] => if d.plE = true then (if (toPyE d).showable = true ∧ (toPyE d).depth ≤ 100 ∧ (toPyE d).shown.length ≤ 16777216 then ret (.str (toPyE d).shown) else stk) else oReprD [d]
  | _ => stk
section
variable {X : Cx} {W : WN} {pos : Pos} {K : PySem.W.Frag}
/-! a tuple so many times -/
def oRepT (d e : D) : Ev D := match d, e with
  | .tup ds, .int k => if ds ≠ [] ∧ 2 ≤ k ∧ k ≤ 1000 ∧ ds.length ≤ 1000 then ret (.tup (List.replicate k.toNat ds).flatten) else stk
  | _, _ => stk
end
end Bw
/-! a tuple once, or no time -/
namespace Bw
open PySem PySem.Spec PyProof.Rows L2
def rRepA (K : PySem.W.Frag) : R2 := fun x y H Q => ∃ l k xs, x = .ref l ∧ y = .int k ∧ SqT K H l xs ∧ xs ≠ [] ∧ ((k = 1 ∧ Q (.ref l) H) ∨ (-(2 ^ 63) ≤ k ∧ k ≤ 0 ∧ ∀ p, H p = none → Q (.ref p) (upd H p (.tup []))))
/-- a tuple so many times, any number -/
def oRepU (d e : D) : Ev D := match d, e with
  | .tup ds, .int k => if ds ≠ [] ∧ -1000 ≤ k ∧ k ≤ 1000 ∧ ds.length ≤ 1000 then ret (.tup (List.replicate k.toNat ds).flatten) else stk
  | _, _ => stk
section
variable {X : Cx} {W : WN} {pos : Pos} {K : PySem.W.Frag}
end
end Bw
/-! a list that will change no more -/
namespace Bw
open PySem PySem.Spec PyProof.Rows L2
section
variable {X : Cx} {W : WN} {pos : Pos} {K : PySem.W.Frag}
def oFrz (d : D) : Ev D := fun ρ M => match d with
  | .ptr n => match M[n]? with
    | some (some ds) => some (.ok (.lst ds), M.set n none)
    | _ => none
  | _ => none
end
end Bw
/-! range with a beginning, range downward -/
namespace Bw
open PySem PySem.Spec PyProof.Rows L2
section
variable {X : Cx} {W : WN} {pos : Pos} {K : PySem.W.Frag}
def oRng2 (ds : List D) : Ev (List D) := match ds with
  | [.int i, .int j] => if -(2 ^ 62) ≤ i ∧ i < 2 ^ 62 ∧ -(2 ^ 62) ≤ j ∧ j < 2 ^ 62 then ret ((List.range (j - i).toNat).map fun (k : Nat) => D.int (i + (k : Int))) else stk
  | _ => stk
def oRngD (ds : List D) : Ev (List D) := match ds with
  | [.int i, .int j, .int c] => if c = -1 ∧ -(2 ^ 62) ≤ i ∧ i < 2 ^ 62 ∧ -(2 ^ 62) ≤ j ∧ j < 2 ^ 62 then ret ((List.range (i - j).toNat).map fun (k : Nat) => D.int (i - (k : Int))) else stk
  | _ => stk
theorem ri_range2 {θ : List Th} {G : Hp} {lo : Int} {n : Nat} : RI K θ G (Itr lo n) ((List.range n).map fun (i : Nat) => D.int (lo + (i : Int))) := by
  refine ⟨fun i θ G H M _ _ _ h => by simpa [Itr] using h, fun θ G H M _ _ _ => by simp [Itr], fun i d θ G H M x H' _ _ rs h y => ?_⟩
  obtain ⟨rfl, rfl⟩ := y
  refine ⟨G, Same.refl _, rs, ?_⟩
  rw [List.getElem?_map] at h
  have hi : i < n := by
    rcases Nat.lt_or_ge i n with q | q
    · exact q
    · rw [List.getElem?_eq_none (by simpa using q)] at h; cases h
  rw [List.getElem?_range hi] at h
  cases h
  exact .dat (.int _)
theorem di_range2 {tg : Expr} {a b : Expr} {p : Pos} {h : Ev (List D)} (hm : X.mg "range" = none) (ha : DA X W [a, b] h) (hg : Gl X "range" := by rfl) (hs : starEach [a, b] X.env = [(false, eval a X.env), (false, eval b X.env)] := by rfl) (hs2 : starEach [b] X.env = [(false, eval b X.env)] := by rfl) : DI X W tg (.Call (.Name "range" p) [a, b] [] pos) (bnd h oRng2) := by
  obtain ⟨t, q, s⟩ := ha
  refine ⟨_, pi_range2 hg hm q hs hs2, fun θ G => (s θ G).bind (R2 := RI X.K) (k := fun (vs : List V) (_ : L2.St) (H1 : Hp) (R : It → Hp → Prop) => ∃ i j : Int, vs = [.int i, .int j] ∧ (-(2 ^ 62) ≤ i ∧ i < 2 ^ 62 ∧ -(2 ^ 62) ≤ j ∧ j < 2 ^ 62) ∧ R (Itr i (j - i).toNat) H1) fun θ1 G1 v d _ _ hv => ?_⟩
  unfold oRng2
  split
  · rename_i i j
    split
    · rename_i hj
      obtain ⟨u, w, rfl, hu, hw⟩ := vals2 hv
      rw [hu.int_of, hw.int_of]
      intro ρ M r M' θ2 G2 σ H Q p s e rs rv kk
      exact ⟨i, j, rfl, hj, Snd.ret (K := X.K) (W := W) (R := RI X.K) (θ0 := θ1) (G0 := G1) (fun _ _ _ _ => ri_range2) ρ M r M' θ2 G2 σ H Q p s e rs rv kk⟩
    · exact Snd.stk
  · exact Snd.stk
end
theorem oRng2_ap (i j : Int) (ρ : Env) (M : Mem) (h : -(2 ^ 62) ≤ i ∧ i < 2 ^ 62 ∧ -(2 ^ 62) ≤ j ∧ j < 2 ^ 62) : oRng2 [.int i, .int j] ρ M = some (.ok ((List.range (j - i).toNat).map fun (k : Nat) => D.int (i + (k : Int))), M) := by
  unfold oRng2
  dsimp only
  rw [if_pos h]
  rfl
end Bw
/-! sorted whole numbers -/
namespace Bw
open PySem PySem.Spec PyProof.Rows L2
def srtI (ns : List Int) : List Int := ns.mergeSort fun a b => decide (a ≤ b)
section
variable {X : Cx} {W : WN} {pos : Pos} {K : PySem.W.Frag}
def oSrt (ds : List D) : Ev D := fun ρ M => match ds with
  | [d] => match lstAt d M with
    | some es => match insOf es with
      | some ns => if ns.length < 64 then some (.ok (.lst ((srtI ns).map D.int)), M) else none
      | none => none
    | none => none
  | _ => none
end
end Bw
/-! xs.extend(ys), xs.insert(i, y), of a list that changes -/
namespace Bw
open PySem PySem.Spec PyProof.Rows L2
section
variable {X : Cx} {W : WN} {pos : Pos} {K : PySem.W.Frag}
def SndM (K : PySem.W.Frag) (W : WN) (r : V → List V → Hp → VK → Prop) (op : D → List D → Ev D) : Prop := ∀ θ G n a xs ds, θ[n]? = some (a, Kd.lst) → RvL K θ G xs ds → Snd K W (RV K) θ G (fun _ H Q => r (.ref a) xs H Q) (op (.ptr n) ds)
def oExt (o : D) (ds : List D) : Ev D := fun ρ M => match o, ds with
  | .ptr n, [d] => match M[n]?, lstAt d M with
    | some (some xs), some es => if xs.length + es.length ≤ 16777216 then some (.ok .non, M.set n (some (xs ++ es))) else none
    | _, _ => none
  | _, _ => none
def oIns (o : D) (ds : List D) : Ev D := fun ρ M => match o, ds with
  | .ptr n, [.int i, d] => match M[n]? with
    | some (some xs) => if d.np = true ∧ 0 ≤ i ∧ i < 2 ^ 62 ∧ xs.length < 16777216 then some (.ok .non, M.set n (some (xs.take i.toNat ++ [d] ++ xs.drop i.toNat))) else none
    | _ => none
  | _, _ => none
abbrev rInsert : V → List V → Hp → VK → Prop := fun x vs H Q => ∃ (l : Addr) (xs : List V) (i : Int) (y : V), x = .ref l ∧ vs = [.int i, y] ∧ H l = some (.lst xs) ∧ xs.length < sizeLine ∧ 0 ≤ i ∧ i < 2 ^ 63 ∧ Q .non (upd H l (.lst (xs.take i.toNat ++ [y] ++ xs.drop i.toNat)))
end
end Bw
/-! xs[lo:hi:step] of a list -/
namespace Bw
open PySem PySem.Spec PyProof.Rows L2
def pickL {α : Type} (xs : List α) (lo hi : Option Int) (k : Int) : List α :=
  (sliceRange (sliceBounds lo hi (some k) xs.length).1 (sliceBounds lo hi (some k) xs.length).2.1 (sliceBounds lo hi (some k) xs.length).2.2).filterMap (xs[·]?)
section
variable {X : Cx} {W : WN} {pos : Pos} {K : PySem.W.Frag}
def tSs (K : PySem.W.Frag) (te : TE) (tl th tk : TO) : TE := fun σ H Q => te σ H fun x H1 => tl σ H1 fun lo H2 => th σ H2 fun hi H3 => tk σ H3 fun st H4 => ∃ a xs k, x = .ref a ∧ st = some k ∧ k ≠ 0 ∧ SqL K H4 a xs ∧ (pickL xs lo hi k).length ≤ sizeLine ∧ ∀ p, H4 p = none → Q (.ref p) (upd H4 p (.lst (pickL xs lo hi k)))
def oSlS (d : D) (lo hi st : Option Int) : Ev D := fun ρ M => match lseq d M, st with
  | some ds, some k => if k ≠ 0 ∧ (pickL ds lo hi k).length ≤ 16777216 then some (.ok (.lst (pickL ds lo hi k)), M) else none
  | _, _ => none
end
end Bw
/-! a comprehension over a list that changes, which stays as it was while it is walked -/
namespace Bw
open PySem PySem.Spec PyProof.Rows L2
section
variable {X : Cx} {W : WN} {pos : Pos} {K : PySem.W.Frag}
def RIM (K : PySem.W.Frag) (θ : List Th) (_ : Hp) (J : It) (n : Nat) : Prop := ∃ a, θ[n]? = some (a, Kd.lst) ∧ J = Itl K a
def oItM (d : D) : Ev Nat := fun ρ M => match d with
  | .ptr n => match M[n]? with
    | some (some _) => some (.ok n, M)
    | _ => none
  | _ => none
def DIM (X : Cx) (W : WN) (tg iter : Expr) (f : Ev Nat) : Prop := ∃ wi, PI X tg iter wi ∧ ∀ θ G, Snd X.K W (RIM X.K) θ G wi f
open Classical in
noncomputable def lcGoM (b : Tg) (tt : Ev Bool) (te : Ev D) (n0 n : Nat) (ds0 : List D) (ρw : Env) : List D → Mem → Option Mem
  | [], M => if M[n]? = some (some ds0) then some M else none
  | d :: ds, M => if M[n]? = some (some ds0) then (match b d ρw with
    | none => none
    | some ρ1 => match tt ρ1 M with
      | some (.ok true, M1) => match te ρ1 M1 with
        | some (.ok y, M2) => match M2[n0]? with
          | some (some acc) => if y.np = true ∧ acc.length < 16777216 then lcGoM b tt te n0 n ds0 ρw ds (M2.set n0 (some (acc ++ [y]))) else none
          | _ => none
        | _ => none
      | some (.ok false, M1) => lcGoM b tt te n0 n ds0 ρw ds M1
      | _ => none) else none
noncomputable def oLcM (b : Tg) (tt : Ev Bool) (te : Ev D) (vs : List Nat) (n : Nat) : Ev D := fun ρ M => match M[n]? with
  | some (some ds0) => match lcGoM b tt te M.length n ds0 (wipeD ρ vs) ds0 (M ++ [some []]) with
    | some M' => lcEnd M.length M'
    | none => none
  | _ => none
end
end Bw
/-! xs.extend of a tuple, and of a list -/
namespace Bw
open PySem PySem.Spec PyProof.Rows L2
section
variable {X : Cx} {W : WN} {pos : Pos} {K : PySem.W.Frag}
def rExtT (K : PySem.W.Frag) : V → List V → Hp → VK → Prop := fun x vs H Q => ∃ l b xs zs, x = .ref l ∧ vs = [.ref b] ∧ H l = some (.lst xs) ∧ SqT K H b zs ∧ xs.length + zs.length ≤ sizeLine ∧ Q .non (upd H l (.lst (xs ++ zs)))
def rExtU (K : PySem.W.Frag) : V → List V → Hp → VK → Prop := fun x vs H Q => rExtend x vs H Q ∨ rExtT K x vs H Q
def oExU (o : D) (ds : List D) : Ev D := fun ρ M => match o, ds with
  | .ptr n, [.tup es] => match M[n]? with
    | some (some xs) => if xs.length + es.length ≤ 16777216 then some (.ok .non, M.set n (some (xs ++ es))) else none
    | _ => none
  | o, ds => oExt o ds ρ M
end
end Bw
/-! a comprehension of two walks; xs += ys -/
namespace Bw
open PySem PySem.Spec PyProof.Rows L2
section
variable {X : Cx} {W : WN} {pos : Pos} {K : PySem.W.Frag}
theorem DI.can {tg e : Expr} {f : Ev (List D)} (h : DI X W tg e f) : PI X tg e (tOf X.K W (RI X.K) f) := by
  obtain ⟨t, p, s⟩ := h
  exact ⟨fun pins s1 σ H R I q => p.run pins s1 σ H R I (Snd.can s q)⟩
def lc2Go (b : Tg) (tt : Ev Bool) (h1 : Ev (List D)) (b1 : Tg) (tt1 : Ev Bool) (te : Ev D) (vs1 : List Nat) (n0 : Nat) (ρw : Env) : List D → Mem → Option Mem
  | [], M => some M
  | d :: ds, M => match b d ρw with
    | none => none
    | some ρ1 => match tt ρ1 M with
      | some (.ok true, M1) => match h1 ρ1 M1 with
        | some (.ok ds1, M2) => match lcGo b1 tt1 te n0 (wipeD ρ1 vs1) ds1 M2 with
          | some M3 => lc2Go b tt h1 b1 tt1 te vs1 n0 ρw ds M3
          | none => none
        | _ => none
      | some (.ok false, M1) => lc2Go b tt h1 b1 tt1 te vs1 n0 ρw ds M1
      | _ => none
def oLc2 (b : Tg) (tt : Ev Bool) (h1 : Ev (List D)) (b1 : Tg) (tt1 : Ev Bool) (te : Ev D) (vs vs1 : List Nat) (ds : List D) : Ev D := fun ρ M => match lc2Go b tt h1 b1 tt1 te vs1 M.length (wipeD ρ vs) ds (M ++ [some []]) with
  | some M' => lcEnd M.length M'
  | none => none
/-! ### xs += ys -/
def sAugL (i : Nat) (f : Ev D) : Sv := fun ρ M => match ρ[i]? with
  | some (some (.ptr n)) => thenS f (fun e ρ M => match M[n]?, lstAt e M with
    | some (some xs), some es => if xs.length + es.length ≤ 16777216 then some (.nx (ρ.set i (some (.ptr n))), M.set n (some (xs ++ es))) else none
    | _, _ => none) ρ M
  | _ => none
end
end Bw
/-! a comprehension whose list will change; a comprehension of two walks that is named -/
namespace Bw
open PySem PySem.Spec PyProof.Rows L2
section
variable {X : Cx} {W : WN} {pos : Pos} {K : PySem.W.Frag}
def oLcP (b : Tg) (tt : Ev Bool) (te : Ev D) (vs : List Nat) (ds : List D) : Ev D := fun ρ M => match lcGo b tt te M.length (wipeD ρ vs) ds (M ++ [some []]) with
  | some M' => match M'[M.length]? with
    | some (some _) => some (.ok (.ptr M.length), M')
    | _ => none
  | none => none
end
end Bw
/-! list(range(n)) -/
namespace Bw
open PySem PySem.Spec PyProof.Rows L2
section
variable {X : Cx} {W : WN} {pos : Pos} {K : PySem.W.Frag}
def oLstR (d : D) : Ev D := match d with
  | .int n => if 0 ≤ n ∧ n ≤ 1000000 then ret (.lst ((List.range n.toNat).map fun (i : Nat) => D.int (i : Int))) else stk
  | _ => stk
end
end Bw
namespace Bw
open PySem PySem.Spec PyProof.Rows L2
/-! ### a slot whose list will change no more, from a statement on -/
def sFrzV (i : Nat) : Sv := fun ρ M => match ρ[i]? with
  | some (some (.ptr n)) => match M[n]? with
    | some (some ds) => some (.nx (ρ.set i (some (.lst ds))), M.set n none)
    | _ => none
  | _ => none
end Bw
namespace Bw
open PySem PySem.Spec PyProof.Rows L2
/-! ### defs called where an error is handled -/
/-- room for so many calls, whatever is handled; no repr under way -/
structure Rh (k : Nat) (A : Around) : Prop where
  dp : A.depth + 3 * k + 5 < recursionLimit
  un : A.units + 16 * k + 200 < cLine
  g : A.guards = some []
section
variable {j k : Nat} {A : Around}
theorem Rh.mono (h : Rh k A) (l : j ≤ k) : Rh j A := ⟨by have := h.dp; omega, by have := h.un; omega, h.g⟩
theorem Rh.units (h : Rh k A) : A.units + 64 < cLine := by have := h.un; omega
theorem Rh.deep (h : Rh (k + 1) A) (env : PySem.Env) : Rh k (A.deeper env) :=
  ⟨by have := h.dp; show A.depth + 1 + 3 * k + 5 < _; omega, by have := h.un; show A.units + 3 + 16 * k + 200 < _; omega, h.g⟩
end
abbrev hx (X : Cx) : Cx := { X with calm := false }
/-- a def's promise, whatever is handled -/
structure HCk (P : Program) (w : World) (K : PySem.W.Frag) (mg : Str → Option Value) (base : Heap) (C : CXT) (k : Nat) (f : Addr) (fd : FuncData) (ps : List Str) (sp : Sp) : Prop where
  n : ∀ vs H Q E, sp vs H Q E → vs.length = ps.length
  go : ∀ (A : Around) (ou : List PySem.Env) (s : Shared) (H : Hp) (ar : Args) (us : List Value) (vs : List V) (Q : VK) (E : XK), Rh k A → Env0 P w K mg base A ou s H → BindsTo s fd ar (ps.zip us) → Vals vs us → sp vs H Q E → codeAny (model P w) A (.call (.ref f) ar) (CR C ou P w H s Q E) s
section
variable {P : Program} {w : World} {K : PySem.W.Frag} {mg : Str → Option Value} {base : Heap} {C : CXT} {k : Nat} {f : Addr} {fd : FuncData} {ps : List Str} {sp : Sp}
end
section
variable {X : Cx} {W : WN} {pos : Pos} {K : PySem.W.Frag}
end
section
variable {K : PySem.W.Frag} {P : Program} {w : World} {mg : Str → Option Value} {base : Heap} {x qual : Str} {st : Stmt} {f : Addr} {fd : FuncData} {N ps : List Str} {k n : Nat} {F : Fd} {fb : Sv}
end
/-! ### try: .. except c as n: a suite that knows the error -/
def wT (K : PySem.W.Frag) (c : Value) (i : Nat) (ts : Addr → Value → TS) (Wo : WX) (Dn : Ends) : WX := fun cls d σ H =>
  d = none ∧ ∃ b, PySem.W.exmOne K cls c = some b ∧ (b = false → Wo cls d σ H) ∧
    (b = true → ∀ a, H a = none → ts a cls { nx := fun σ1 H1 => Dn.nx (σ1.set i none) H1, rt := Dn.rt, bk := fun σ1 H1 => Dn.bk (σ1.set i none) H1, ct := fun σ1 H1 => Dn.ct (σ1.set i none) H1 } (σ.set i (some (.ref a))) (upd H a (ExQ cls a)))
section
variable {X : Cx} {x n : Str} {c : Value} {i : Nat} {body more : List Stmt} {first : Stmt} {np pos hpos : Pos} {tb : WX → TS} {ts : Addr → Value → TS} {Wo : WX}
end
/-- try: f, except c as slot i: g -/
def sTryS (mt : Str → Option Bool) (i : Nat) (f g : Sv) : Sv := fun ρ M => match f ρ M with
  | some (.ex x ρ1, M1) => match mt x with
    | some true => if i < ρ1.length then (match g (ρ1.set i (some (.exv x))) M1 with
      | some (.nx ρ2, M2) => some (.nx (ρ2.set i none), M2)
      | some (.bk ρ2, M2) => some (.bk (ρ2.set i none), M2)
      | some (.ct ρ2, M2) => some (.ct (ρ2.set i none), M2)
      | some (.rt d, M2) => some (.rt d, M2)
      | _ => none) else none
    | some false => some (.ex x ρ1, M1)
    | none => none
  | r => r
section
variable {X : Cx} {W : WN} {pos : Pos}
end
end Bw
/-! what a walk never reaches -/
namespace Bw
open PySem PySem.Spec PyProof.Rows L2
section
variable {X : Cx} {W : WN}
def sStk : Sv := fun _ _ => none
theorem ds_stk {st : Stmt} : DS X W st sStk := ⟨fun _ _ _ => False, ⟨fun _ _ _ _ _ _ h => h.elim⟩, fun _ _ _ _ _ _ _ _ _ e => by cases e⟩
end
end Bw
/-! sorted(set(xs)), xs a list of whole numbers -/
namespace Bw
open PySem PySem.Spec PyProof.Rows L2
section
variable {P : Program} {w : World} {A : Around} {E : Value → Shared → Prop} {s : Shared}
/-- the new set, still empty -/
abbrev freshS (w : World) : Obj := { cls := .type "set", dict := none, data := .set #[] 0 (.fresh 0 0 (!w.params.followText "set-order")) }
/-- what set(xs) leaves -/
structure MadeS (w : World) (s : Shared) (ns : List Int) (h' : Heap) : Prop where
  set : ∃ c, c ≤ ns.length ∧ SetR w h' s.heap.objs.size (fun j => decide (j ∈ ns)) c
  old : ∀ b o, s.heap.get? b = some o → h'.get? b = some o
end
/-! as a call -/
section
variable {X : Cx} {W : WN} {pos : Pos} {K : PySem.W.Frag}
def rSetL (K : PySem.W.Frag) (w : World) : List V → Hp → VK → Prop := fun vs H Q => ∃ (l : Addr) (ns : List Int), vs = [V.ref l] ∧ SqL K H l (ns.map V.int) ∧ ns.length ≤ 1000 ∧
  ∀ a c, H a = none → c ≤ ns.length → Q (.ref a) (upd H a (SetO w a (fun j => decide (j ∈ ns)) c))
def insU (k : Int) (l : List Int) : List Int := if k ∈ l then l else k :: l
def dedU : List Int → List Int
  | [] => []
  | k :: l => insU k (dedU l)
/-- the members, rising -/
def uniI (ns : List Int) : List Int := srtI (dedU ns)
def oSrtSet (ds : List D) : Ev D := fun ρ M => match ds with
  | [d] => match lstAt d M with
    | some es => match insOf es with
      | some ns => if ns.length < 64 then some (.ok (.lst ((uniI ns).map D.int)), M) else none
      | none => none
    | none => none
  | _ => none
def rSrtSet (K : PySem.W.Frag) (w : World) : List V → Hp → VK → Prop := fun vs H Q => rSetL K w vs H fun v H2 => rSortedSet w [v] H2 Q
end
end Bw
/-! sorted pairs of whole numbers -/
namespace Bw
open PySem PySem.Spec PyProof.Rows L2
abbrev pB : Int := 1048576
def prD (p : Int × Int) : D := .tup [.int p.1, .int p.2]
def prsOf : List D → Option (List (Int × Int))
  | [] => some []
  | .tup [.int i, .int j] :: ds => (prsOf ds).map ((i, j) :: ·)
  | _ :: _ => none
def codP (p : Int × Int) : Int := p.1 * pB + p.2
def okP (p : Int × Int) : Bool := decide (0 ≤ p.1 ∧ p.1 < pB ∧ 0 ≤ p.2 ∧ p.2 < pB)
def srtP (ps : List (Int × Int)) : List (Int × Int) := ps.mergeSort fun a b => decide (codP a ≤ codP b)
section
variable {X : Cx} {W : WN} {pos : Pos} {K : PySem.W.Frag}
def oSrtP (ds : List D) : Ev D := fun ρ M => match ds with
  | [d] => match lstAt d M with
    | some es => match prsOf es with
      | some ps => if ps.length < 64 ∧ ps.all okP = true then some (.ok (.lst ((srtP ps).map prD)), M) else none
      | none => none
    | none => none
  | _ => none
end
end Bw
/-! continue; xs.remove(x) of data -/
namespace Bw
open PySem PySem.Spec PyProof.Rows L2
def sCt : Sv := fun ρ M => some (.ct ρ, M)
end Bw
namespace RmA
open PySem PySem.Spec PyProof.Rows
open AutoSeq1 (wpAny_loadPart')
open MeetsSeq MeetsSeq2 MeetsSeq3 SeqRoads2 SeqAt
end RmA
namespace Bw
open PySem PySem.Spec PyProof.Rows L2
section
variable {X : Cx} {W : WN} {pos : Pos} {K : PySem.W.Frag}
/-- l.remove(x): the first equal one goes -/
def rRemD (K : PySem.W.Frag) : V → List V → Hp → VK → Prop := fun x vs H Q => ∃ (a : Addr) (y : V) (d : PyData) (xs : List V) (ds : List PyData) (j : Nat) (z : PyData), x = V.ref a ∧ vs = [y] ∧ H a = some (.lst xs) ∧ DpAll K H xs ds ∧ Dp K H y d ∧
  SeqAt.shaped (.list ds) = true ∧ SeqAt.shaped d = true ∧ ds[j]? = some z ∧ PyData.eqv z d = true ∧ (∀ (m : Nat) (z' : PyData), m < j → ds[m]? = some z' → PyData.eqv z' d = false) ∧ Q .non (upd H a (.lst (xs.eraseIdx j)))
/-- the first place of equal data -/
def idxP (d : PyData) : List PyData → Option Nat
  | [] => none
  | z :: r => if PyData.eqv z d = true then some 0 else (idxP d r).map (· + 1)
def oRem (o : D) (es : List D) : Ev D := fun ρ M => match o, es with
  | .ptr n, [d] => match M[n]? with
    | some (some xs) => if d.pl = true ∧ plL xs = true ∧ SeqAt.shaped (toPy d) = true ∧ SeqAt.shaped (.list (toPys xs)) = true then
        match idxP (toPy d) (toPys xs) with
        | some j => some (.ok .non, M.set n (some (xs.eraseIdx j)))
        | none => none
      else none
    | _ => none
  | _, _ => none
theorem RpL.eraseIdx {G : Hp} {xs : List V} {ds : List D} (r : RpL K G xs ds) (j : Nat) : RpL K G (xs.eraseIdx j) (ds.eraseIdx j) := by
  refine ⟨by rw [List.length_eraseIdx, List.length_eraseIdx, r.len], fun i v d h1 h2 => ?_⟩
  rw [List.getElem?_eraseIdx] at h1 h2
  split at h1
  · rename_i h; rw [if_pos h] at h2; exact r.get i v d h1 h2
  · rename_i h; rw [if_neg h] at h2; exact r.get (i + 1) v d h1 h2
end
end Bw
/-! zip of a list and a tuple; a for over a list that changes -/
namespace Bw
open PySem PySem.Spec PyProof.Rows L2
def ItLT (K : PySem.W.Frag) (a b : Addr) : It where
  go := fun i H => ∃ (us ws : List V) (x y : V), SqL K H a us ∧ SqT K H b ws ∧ us[i]? = some x ∧ ws[i]? = some y
  yld := fun i H v H' => ∃ (t : Addr) (x y : V), v = .ref t ∧ H t = none ∧ H' = upd H t (.tup [x, y]) ∧ (∀ us, SqL K H a us → us[i]? = some x) ∧ (∀ ws, SqT K H b ws → ws[i]? = some y)
  stop := fun i H => ∃ us ws : List V, SqL K H a us ∧ SqT K H b ws ∧ i = min us.length ws.length
def atLT (z t0 t1 j1 j2 a b : Addr) (i : Nat) (h : Heap) : Prop := IsZip h z t0 t1 .none ∧ IsTupOf2 h t0 (.ref j1) (.ref j2) ∧ (∃ p q, IsTupOf2 h t1 p q) ∧ h.IsListIter j1 a i ∧ h.IsTupleIter j2 b i
def iZipLT (K : PySem.W.Frag) (ta : TA) : TI := fun σ H R => ta σ H fun vs H1 => ∃ a b us ws, vs = [.ref a, .ref b] ∧ SqL K H1 a us ∧ SqT K H1 b ws ∧ R (ItLT K a b) H1
section
variable {X : Cx} {W : WN} {pos : Pos} {K : PySem.W.Frag}
def oZipN (ds : List D) : Ev (List D) := match ds with
  | [.lst a, .tup b] => ret (zipD a b)
  | _ => stk
/-! a for over a list that changes, which stays as it was while it is walked -/
open Classical in
noncomputable def forFM (b : Tg) (f : Sv) (n : Nat) (ds0 : List D) : List D → Sv
  | [], ρ, M => if M[n]? = some (some ds0) then some (.nx ρ, M) else none
  | d :: ds, ρ, M => if M[n]? = some (some ds0) then (match b d ρ with
    | none => none
    | some ρ1 => match f ρ1 M with
      | some (.nx ρ2, M2) => forFM b f n ds0 ds ρ2 M2
      | some (.ct ρ2, M2) => forFM b f n ds0 ds ρ2 M2
      | some (.bk ρ2, M2) => some (.nx ρ2, M2)
      | r => r) else none
noncomputable def sForM (h : Ev Nat) (b : Tg) (f : Sv) : Sv := thenS h fun n ρ M => match M[n]? with
  | some (some ds0) => forFM b f n ds0 ds0 ρ M
  | _ => none
end
end Bw
namespace Bw
open PySem PySem.Spec PyProof.Rows L2
/-! xs.pop() of a list that changes -/
section
variable {X : Cx} {W : WN} {pos : Pos}
def oPop (d : D) : Ev D := fun ρ M => match d with
  | .ptr n => match M[n]? with
    | some (some ds) => match ds[ds.length - 1]? with
      | some x => some (.ok x, M.set n (some ds.dropLast))
      | none => none
    | _ => none
  | _ => none
end
end Bw
namespace Bw
open PySem PySem.Spec PyProof.Rows L2
/-! ### a written dict of functions: what is at a text's key is called, or None is told of -/
/-- of a written dict: what is at a text's key, or None -/
def KGet (K : PySem.W.Frag) (w : World) (p : Addr) (z : Str) (v : V) : Prop := ∃ es n r, KDict K w p es n ∧ PySem.W.nsIn K p z = some r ∧ RelV v (r.getD .none)
def tGetW (K : PySem.W.Frag) (w : World) (p : Addr) (td ty : TE) : TE := fun σ H Q => td σ H fun x H1 => x = .ref p ∧ ty σ H1 fun y H2 => ∃ (z : Str) (v : V), y = .str z ∧ KGet K w p z v ∧ Q v H2
section
variable {X : Cx} {o e : Expr} {td ty : TE} {apos cpos : Pos} {p : Addr} {es : Array DictEntry} {n : Nat}
end
/-- of several defs that a slot may hold, the promise goes with the address -/
def tCallGA (i : Nat) (T : Addr → Sp → Prop) (E : L2.St → XK) (ta : TA) : TE := fun σ H Q => ∃ (f : Addr) (sp : Sp), σ[i]? = some (some (.ref f)) ∧ T f sp ∧ ta σ H fun vs H1 => sp vs H1 Q (E σ)
/-- what is known of the dict -/
structure FormsOk (P : Program) (w : World) (K : PySem.W.Frag) (mg : Str → Option Value) (base : Heap) (k n : Nat) (p : Addr) (tb : List (Str × Fd)) (ms : List Str) : Prop where
  kd : ∃ es m, KDict K w p es m
  hit : ∀ z F, tb.lookup z = some F → ∃ f fd ps, PySem.W.nsIn K p z = some (some (.ref f)) ∧ GOk P w K mg base CX0 k f fd ps (spF K mg n F) ∧ PySem.W.keepIn K (.ref f) = true ∧ Binds K fd ps []
  miss : ∀ z, ms.contains z = true → PySem.W.nsIn K p z = some none
def sForm (i n : Nat) (kf : Ev D) (h : Ev (List D)) (tb : List (Str × Fd)) (ms : List Str) : Sv := fun ρ M => match kf ρ M with
  | some (.ok (.str z), M1) => if ρ.length ≤ i then none else if ms.contains z = true then some (.rt (.bl false), M1) else match tb.lookup z with
    | some F => sRet (bnd h (oCall n F)) (ρ.set i none) M1
    | none => none
  | _ => none
end Bw
/-! {} in a list of texts -/
namespace Bw
open PySem PySem.Spec PyProof.Rows L2
open PySem.SeqAt PySem.MeetsSeq PySem.MeetsSeq2 PySem.MeetsSeq3 PySem.SeqRoads2
open PySem.AutoSeq1 (wpAny_loadPart')
section
variable {A : Around} {s : Shared}
end
/-- {} in a list of texts -/
def rInE (K : PySem.W.Frag) : R2 := fun x y H Q => rInLT K false x y H Q ∨ ∃ (a c : Addr) (xs : List V), x = .ref a ∧ y = .ref c ∧ H a = some (.dK []) ∧ SqL K H c xs ∧ (∀ v ∈ xs, ∃ z, v = .str z) ∧ Q (.bl false) H
def allStr (ds : List D) : Bool := ds.all fun d => match d with | .str _ => true | _ => false
def oInE (d e : D) : Ev D := match d, e with
  | .emp, .lst es => if allStr es = true then ret (.bl false) else stk
  | d, e => oInD false d e
section
variable {X : Cx} {W : WN} {K : PySem.W.Frag} {a b : Expr} {f g : Ev D} {pos : Pos}
end
end Bw
/-! a comprehension over a list that changes, or over a row that stays, whichever it is handed -/
namespace Bw
open PySem PySem.Spec PyProof.Rows L2
def orE {α : Type} (f g : Ev α) : Ev α := fun ρ M => match f ρ M with
  | some r => some r
  | none => g ρ M
section
variable {X : Cx} {W : WN} {pos : Pos}
def DIB (X : Cx) (W : WN) (tg iter : Expr) (fM : Ev Nat) (fS : Ev (List D)) : Prop := ∃ wi, PI X tg iter wi ∧ (∀ θ G, Snd X.K W (RIM X.K) θ G wi fM) ∧ ∀ θ G, Snd X.K W (RI X.K) θ G wi fS
end
end Bw
namespace Bw
open PySem PySem.Spec PyProof.Rows L2
/-! ### a written dict of functions, looked up by index: what is at a text's key is called; errors pass -/
structure DoingsOk (P : Program) (w : World) (K : PySem.W.Frag) (mg : Str → Option Value) (base : Heap) (C : CXT) (k n : Nat) (p : Addr) (tb : List (Str × Fd)) : Prop where
  hit : ∀ z F, tb.lookup z = some F → ∃ f fd ps, KDct K w p z (.ref f) ∧ GOk P w K mg base C k f fd ps (spF K mg n F) ∧ PySem.W.keepIn K (.ref f) = true ∧ Binds K fd ps []
def sDoing (i n : Nat) (kf : Ev D) (h : Ev (List D)) (tb : List (Str × Fd)) : Sv := fun ρ M => match kf ρ M with
  | some (.ok (.str z), M1) => if ρ.length ≤ i then none else match tb.lookup z with
    | some F => sRet (bnd h (oCall n F)) (ρ.set i none) M1
    | none => none
  | _ => none
end Bw
namespace Bw
open PySem PySem.Spec PyProof.Rows L2
/-! ### {"a": 1, ..}[x]: a display of texts and whole numbers, asked on the spot -/
def oSel (tb : List (Str × Int)) (e : D) : Ev D := fun _ M => match e with
  | .str z => match tb.lookup z with
    | some v => some (.ok (.int v), M)
    | none => none
  | _ => none
def selKs (tb : List (Str × Int)) : List (Key × V) := tb.map fun p => (.inr p.1, .int p.2)
def selT (tb : List (Str × Int)) : List (TE × TE) := tb.map fun p => (tC (.str p.1), tC (.int p.2))
structure SelP (X : Cx) (pos : Pos) (keys : List (Option Expr)) (values : List Expr) (tb : List (Str × Int)) : Prop where
  pps : PPs X pos keys values (selT tb)
  all : keys.all (·.isSome) = true
  len : keys.length = values.length
  few : keys.length = tb.length
/-! ### x[a:b] of a list that will change -/
def oSlP (d : D) (lo hi : Option Int) : Ev D := fun ρ M => match d with
  | .tup _ => none
  | d => match lseq d M with
    | some ds => some (.ok (.ptr M.length), M ++ [some (cutD ds lo hi)])
    | none => none
end Bw
namespace Bw
open PySem PySem.Spec PyProof.Rows L2
/-! ### x[-2:] = [y]: the last two of a list that changes give way to one row -/
def tTail2 (tv to tl : TE) : TS := fun D σ H => tv σ H fun v H1 => to σ H1 fun x H2 => tl σ H2 fun y H3 => ∃ l b xs ys, v = .ref b ∧ x = .ref l ∧ y = .int (-2) ∧ H3 l = some (.lst xs) ∧ H3 b = some (.lst ys) ∧ l ≠ b ∧ 2 ≤ xs.length ∧ xs.length + ys.length ≤ sizeLine ∧ D.nx σ (upd H3 l (.lst (xs.take (xs.length - 2) ++ ys)))
def oTl2 (x o i : D) : Sv := fun ρ M => match x, o, i with
  | .lst ds, .ptr n, .int (-2) => match M[n]? with
    | some (some es) => if 2 ≤ es.length ∧ es.length + ds.length ≤ 16777216 then some (.nx ρ, M.set n (some (es.take (es.length - 2) ++ ds))) else none
    | _ => none
  | _, _, _ => none
def sTail2 (f fo fl : Ev D) : Sv := thenS f fun x => thenS fo fun o => thenS fl fun i => oTl2 x o i
end Bw
/-! list(range(a, b)) -/
namespace Bw
open PySem PySem.Spec PyProof.Rows L2
section
variable {X : Cx} {W : WN} {pos : Pos} {K : PySem.W.Frag}
def oLstR2 (d e : D) : Ev D := match d, e with
  | .int i, .int j => if 0 ≤ i ∧ i ≤ 1000000 ∧ 0 ≤ j ∧ j ≤ 1000000 then ret (.lst ((List.range (j - i).toNat).map fun (k : Nat) => D.int (i + (k : Int)))) else stk
  | _, _ => stk
end
end Bw
/-! try: .. except c: a suite, the error not named -/
namespace Bw
open PySem PySem.Spec PyProof.Rows L2
def wTN (K : PySem.W.Frag) (c : Value) (ts : Addr → Value → TS) (Wo : WX) (Dn : Ends) : WX := fun cls d σ H =>
  d = none ∧ ∃ b, PySem.W.exmOne K cls c = some b ∧ (b = false → Wo cls d σ H) ∧ (b = true → ∀ a, H a = none → ts a cls Dn σ (upd H a (ExQ cls a)))
section
variable {X : Cx} {x n : Str} {c : Value} {i : Nat} {body more : List Stmt} {first : Stmt} {np pos hpos : Pos} {tb : WX → TS} {ts : Addr → Value → TS} {Wo : WX}
end
/-- try: f, except c: g -/
def sTryN (mt : Str → Option Bool) (f g : Sv) : Sv := fun ρ M => match f ρ M with
  | some (.ex x ρ1, M1) => match mt x with
    | some true => match g ρ1 M1 with
      | some (.ex _ _, _) => none
      | r => r
    | some false => some (.ex x ρ1, M1)
    | none => none
  | r => r
section
variable {X : Cx} {W : WN} {pos : Pos}
end
end Bw
/-! list(zip(a, b, c)) of tuples -/
namespace Bw
open PySem PySem.Spec PyProof.Rows L2
abbrev lsO (acc : Array Value) (c : Nat) : Obj := { cls := .type "list", dict := none, data := .seq acc c, slots := #[] }
section
variable {prog : Program} {w : World} {A : Around} {R : Result → Shared → Prop}
end
section
variable {prog : Program} {w : World} {A : Around} {E : Value → Shared → Prop} {s : Shared}
end
end Bw
namespace Bw
open PySem PySem.Spec PyProof.Rows L2
abbrev ZipH (h : Heap) (z TI TO T : Addr) (fl : Bool) : Prop :=
  h.get? z = some { cls := .type "zip", dict := none, data := .fields #[rawInt T, .bool fl, .bool false, .ref TI, .ref TO], slots := #[] }
section
variable {prog : Program} {w : World} {A : Around} {E : Value → Shared → Prop} {s : Shared} {z TI TO i1 i2 i3 T : Addr} {fp1 fp2 fp3 : List Addr} {n1 n2 n3 i : Nat} {P1 P2 P3 : Nat → Value → Prop} {St1 St2 St3 : Nat → Heap → Prop} {fl : Bool}
end
end Bw
namespace Bw
open PySem PySem.Spec PyProof.Rows L2
/-- new triples, one after another -/
inductive Gr3 (us ws xs : List V) (H : Hp) : Nat → List V → Hp → Prop
  | zero : Gr3 us ws xs H 0 [] H
  | succ {i : Nat} {vs : List V} {H' : Hp} {t : Addr} {x y u : V} : Gr3 us ws xs H i vs H' → H' t = none → us[i]? = some x → ws[i]? = some y → xs[i]? = some u → Gr3 us ws xs H (i + 1) (vs ++ [.ref t]) (upd H' t (.tup [x, y, u]))
def tLz (K : PySem.W.Frag) (ta : TA) : TE := fun σ H Q => ta σ H fun vs H1 => ∃ a b c us ws xs, vs = [.ref a, .ref b, .ref c] ∧ SqT K H1 a us ∧ SqT K H1 b ws ∧ SqT K H1 c xs ∧ us.length = ws.length ∧ us.length = xs.length ∧ 0 < us.length ∧ us.length ≤ 1000 ∧
  ∀ vs' H2 l, Gr3 us ws xs H1 us.length vs' H2 → H2 l = none → Q (.ref l) (upd H2 l (.lst vs'))
end Bw
namespace Bw
open PySem PySem.Spec PyProof.Rows L2
section
variable {X : Cx} {W : WN} {pos : Pos} {K : PySem.W.Frag}
def zip3D : List D → List D → List D → List D
  | a :: as, b :: bs, c :: cs => .tup [a, b, c] :: zip3D as bs cs
  | _, _, _ => []
def oLz (ds : List D) : Ev D := match ds with
  | [.tup a, .tup b, .tup c] => if a.length = b.length ∧ a.length = c.length ∧ 0 < a.length ∧ a.length ≤ 1000 then ret (.lst (zip3D a b c)) else stk
  | _ => stk
end
end Bw
/-! the least of three whole numbers -/
namespace Bw
open PySem PySem.Spec PyProof.Rows L2
section
variable {X : Cx} {W : WN} {pos : Pos} {K : PySem.W.Frag}
def mn3 (i j k : Int) : Int := if k < (if j < i then j else i) then k else (if j < i then j else i)
def oMin3 (ds : List D) : Ev D := match ds with
  | [.int i, .int j, .int k] => ret (.int (mn3 i j k))
  | _ => stk
variable {p : Pos} {e : Expr} {es : List Expr} {h : Ev (List D)}
end
end Bw
/-! texts -/
namespace Bw
open PySem PySem.Spec PyProof.Rows L2
section
variable {X : Cx} {W : WN} {pos : Pos} {K : PySem.W.Frag}
/-- a text and more than one follow the line's limits -/
abbrev tLim : Nat := 16777216
/-! s + t -/
def oAddS (d e : D) : Ev D := match d, e with
  | .str a, .str b => if a.length + b.length ≤ tLim then ret (.str (a ++ b)) else stk
  | _, _ => stk
theorem snd_addS : SndO K W (fun x y H Q => ∃ i j, x = V.str i ∧ y = V.str j ∧ i.length + j.length ≤ sizeLine ∧ Q (V.str (i ++ j)) H) oAddS := by
  intro θ G x y d e hx hy
  unfold oAddS
  split
  · rename_i a b
    rw [hx.str_of, hy.str_of]
    split
    · rename_i hl
      intro ρ M r M' θ1 G1 σ H Q p s e rs rv kk
      exact ⟨a, b, rfl, rfl, by rw [sizeLine_eq]; exact hl, Snd.ret (K := K) (W := W) (R := RV K) (θ0 := θ) (G0 := G) (d := .str (a ++ b)) (fun _ _ _ _ => .dat (.str _)) ρ M r M' θ1 G1 σ H Q p s e rs rv kk⟩
    · exact Snd.stk
  · exact Snd.stk
variable {a b : Expr} {f g : Ev D}
theorem de_addS (ha : DE X W a f) (hb : DE X W b g) : DE X W (.BinOp a .Add b pos) (bnd f fun d => bnd g fun e => oAddS d e) := de_op op_add_str snd_addS ha hb
/-! s in t -/
def oInS (d e : D) : Ev D := match d, e with
  | .str a, .str b => match a.cps.toList with
    | [c] => ret (.bl (decide (c ∈ b.cps.toList)))
    | _ => stk
  | _, _ => stk
theorem snd_inS : SndO K W (fun x y H Q => ∃ c z, x = V.str { cps := #[c] } ∧ y = V.str z ∧ Q (V.bl (decide (c ∈ z.cps.toList))) H) oInS := by
  intro θ G x y d e hx hy
  unfold oInS
  split
  · rename_i a b
    rw [hx.str_of, hy.str_of]
    split
    · rename_i c hc
      have ea : a = ⟨#[c]⟩ := by
        cases a with
        | mk cps =>
          congr 1
          exact Array.toList_inj.mp hc
      rw [ea]
      intro ρ M r M' θ1 G1 σ H Q p s e rs rv kk
      exact ⟨c, b, rfl, rfl, Snd.ret (K := K) (W := W) (R := RV K) (θ0 := θ) (G0 := G) (fun _ _ _ _ => rv_bl) ρ M r M' θ1 G1 σ H Q p s e rs rv kk⟩
    · exact Snd.stk
  · exact Snd.stk
theorem de_inS (ha : DE X W a f) (hb : DE X W b g) (hm : behindInMarks .In b = false := by rfl) : DE X W (.Compare a [.In] [b] pos) (bnd f fun d => bnd g fun e => oInS d e) := de_cmp op_in_sign snd_inS ha hb hm
/-! s[i] -/
def oIxS (d e : D) : Ev D := match d, e with
  | .str z, .int i => match atI z.cps.toList i with
    | some c => if z.length ≤ tLim then ret (.str ⟨#[c]⟩) else stk
    | none => stk
  | _, _ => stk
theorem snd_ixS : SndO K W rIxS oIxS := by
  intro θ G x y d e hx hy
  unfold oIxS
  split
  · rename_i z i
    rw [hx.str_of, hy.int_of]
    split
    · rename_i c hc
      split
      · rename_i hl
        intro ρ M r M' θ1 G1 σ H Q p s e rs rv kk
        exact ⟨z, i, c, rfl, rfl, by rw [sizeLine_eq]; exact hl, hc, Snd.ret (K := K) (W := W) (R := RV K) (θ0 := θ) (G0 := G) (d := .str ⟨#[c]⟩) (fun _ _ _ _ => .dat (.str _)) ρ M r M' θ1 G1 σ H Q p s e rs rv kk⟩
      · exact Snd.stk
    · exact Snd.stk
  · exact Snd.stk
theorem de_ixS (ha : DE X W a f) (hb : DE X W b g) (hp : PlainIx b := by intro _ _; rfl) : DE X W (.Subscript a b pos) (bnd f fun d => bnd g fun e => oIxS d e) := by
  obtain ⟨t1, p1, s1⟩ := ha
  obtain ⟨t2, p2, s2⟩ := hb
  exact ⟨_, pe_ix ix_str p1 p2 hp, fun θ G => (s1 θ G).bind (R2 := RV X.K) (k := fun (x : V) (σ : L2.St) (H1 : Hp) (Q : V → Hp → Prop) => t2 σ H1 fun y H2 => rIxS x y H2 Q) (g := fun d => bnd g fun e => oIxS d e) fun θ1 G1 x d _ _ hx => (s2 θ1 G1).bind (R2 := RV X.K) (k := fun (y : V) (_ : L2.St) (H1 : Hp) (Q : V → Hp → Prop) => rIxS x y H1 Q) (g := fun e => oIxS d e) fun θ2 G2 y e p4 s4 hy => snd_ixS θ2 G2 x y d e (hx.mono p4 s4) hy⟩
/-! calls -/
variable {p : Pos} {e : Expr} {es : List Expr} {h : Ev (List D)}
def oStrI (ds : List D) : Ev D := match ds with
  | [.int i] => if i.natAbs.log2 < 1920 then ret (.str (Str.ofString (toString i))) else stk
  | _ => stk
theorem snd_strI : SndC K W (fun xs H Q => ∃ i, xs = [V.int i] ∧ i.natAbs.log2 < 1920 ∧ Q (V.str (Str.ofString (toString i))) H) oStrI := by
  intro θ0 G0 xs ds hx
  unfold oStrI
  split
  · rename_i i
    obtain ⟨v, rfl, hv⟩ := vals1 hx
    rw [hv.int_of]
    split
    · rename_i hl
      intro ρ M r M' θ G σ H Q p s e rs rv kk
      exact ⟨i, rfl, hl, Snd.ret (K := K) (W := W) (R := RV K) (θ0 := θ0) (G0 := G0) (d := .str (Str.ofString (toString i))) (fun _ _ _ _ => .dat (.str _)) ρ M r M' θ G σ H Q p s e rs rv kk⟩
    · exact Snd.stk
  · exact Snd.stk
theorem de_strI (hm : X.mg "str" = none) (ha : DA X W (e :: es) h) (hg : Gl X "str" := by rfl) (he : starEach (e :: es) X.env = (false, eval e X.env) :: starEach es X.env := by rfl) (hpl : (backTo pos (starEach es X.env)).any (·.1) = false := by rfl) : DE X W (.Call (.Name "str" p) (e :: es) [] pos) (bnd h oStrI) :=
  de_callTy call_str_int snd_strI hm (by decide +kernel) ha hg (by decide) (by decide) he hpl
def oLenS (ds : List D) : Ev D := match ds with
  | [.str z] => if z.length ≤ tLim then ret (.int z.length) else stk
  | _ => stk
theorem snd_lenS : SndC K W (fun xs H Q => ∃ z, xs = [V.str z] ∧ z.length ≤ sizeLine ∧ Q (V.int ↑z.length) H) oLenS := by
  intro θ0 G0 xs ds hx
  unfold oLenS
  split
  · rename_i z
    obtain ⟨v, rfl, hv⟩ := vals1 hx
    rw [hv.str_of]
    split
    · rename_i hl
      intro ρ M r M' θ G σ H Q p s e rs rv kk
      exact ⟨z, rfl, by rw [sizeLine_eq]; exact hl, Snd.ret (K := K) (W := W) (R := RV K) (θ0 := θ0) (G0 := G0) (d := .int z.length) (fun _ _ _ _ => .dat (.int _)) ρ M r M' θ G σ H Q p s e rs rv kk⟩
    · exact Snd.stk
  · exact Snd.stk
theorem de_lenS (hm : X.mg "len" = none) (ha : DA X W (e :: es) h) (hg : Gl X "len" := by rfl) (he : starEach (e :: es) X.env = (false, eval e X.env) :: starEach es X.env := by rfl) (hpl : (backTo pos (starEach es X.env)).any (·.1) = false := by rfl) : DE X W (.Call (.Name "len" p) (e :: es) [] pos) (bnd h oLenS) :=
  de_callB call_len_str snd_lenS hm PySem.boot_len ha hg (by decide) (by decide) he hpl
def oIntS (ds : List D) : Ev D := match ds with
  | [.str z] => match intText? z with
    | some n => if z.length ≤ 640 then ret (.int n) else stk
    | none => stk
  | _ => stk
theorem snd_intS : SndC K W (fun xs H Q => ∃ a n, xs = [V.str a] ∧ intText? a = some n ∧ a.length ≤ 640 ∧ Q (V.int n) H) oIntS := by
  intro θ0 G0 xs ds hx
  unfold oIntS
  split
  · rename_i z
    obtain ⟨v, rfl, hv⟩ := vals1 hx
    rw [hv.str_of]
    split
    · rename_i n hn
      split
      · rename_i hl
        intro ρ M r M' θ G σ H Q p s e rs rv kk
        exact ⟨z, n, rfl, hn, hl, Snd.ret (K := K) (W := W) (R := RV K) (θ0 := θ0) (G0 := G0) (d := .int n) (fun _ _ _ _ => .dat (.int _)) ρ M r M' θ G σ H Q p s e rs rv kk⟩
      · exact Snd.stk
    · exact Snd.stk
  · exact Snd.stk
theorem de_intS (hm : X.mg "int" = none) (ha : DA X W (e :: es) h) (hg : Gl X "int" := by rfl) (he : starEach (e :: es) X.env = (false, eval e X.env) :: starEach es X.env := by rfl) (hpl : (backTo pos (starEach es X.env)).any (·.1) = false := by rfl) : DE X W (.Call (.Name "int" p) (e :: es) [] pos) (bnd h oIntS) :=
  de_callTy call_int_str snd_intS hm (by decide +kernel) ha hg (by decide) (by decide) he hpl
def oDvm (ds : List D) : Ev D := match ds with
  | [.int i, .int j] => if 0 < j ∧ Builtin.divisionGoesByPylong i j = false then ret (.tup [.int (i / j), .int (i % j)]) else stk
  | _ => stk
theorem snd_dvm : SndC K W (fun xs H Q => ∃ i j, xs = [V.int i, V.int j] ∧ CDivP i j ∧ ∀ (p : Addr), H p = none → Q (V.ref p) (upd H p (HO.tup [V.int (i / j), V.int (i % j)]))) oDvm := by
  intro θ0 G0 xs ds hx
  unfold oDvm
  split
  · rename_i i j
    obtain ⟨v, u, rfl, hv, hu⟩ := vals2 hx
    rw [hv.int_of, hu.int_of]
    split
    · rename_i hl
      intro ρ M r M' θ G σ H Q p s e rs rv kk
      unfold ret at e
      simp at e
      obtain ⟨e1, e2⟩ := e
      subst e1; subst e2
      refine ⟨i, j, rfl, hl, fun a ha => ?_⟩
      have g := rs.fresh ha
      have rl : RpL K (upd G a (.tup [V.int (i / j), V.int (i % j)])) [V.int (i / j), V.int (i % j)] [D.int (i / j), .int (i % j)] := RpL.cons (.int _) (RpL.cons (.int _) RpL.nil)
      exact (kk θ (upd G a (.tup _)) _ (List.prefix_refl _) (same_upd g) (rs.laid ha _)).2 _ _ rfl (.dat (rp_tup upd_same rl))
    · exact Snd.stk
  · exact Snd.stk
theorem de_dvm (hm : X.mg "divmod" = none) (ha : DA X W (e :: es) h) (hg : Gl X "divmod" := by rfl) (he : starEach (e :: es) X.env = (false, eval e X.env) :: starEach es X.env := by rfl) (hpl : (backTo pos (starEach es X.env)).any (·.1) = false := by rfl) : DE X W (.Call (.Name "divmod" p) (e :: es) [] pos) (bnd h oDvm) :=
  de_callB call_divmodW snd_dvm hm (by decide +kernel) ha hg (by decide) (by decide) he hpl
end
end Bw
/-! texts: their methods, a walk over signs, as a test, written -/
namespace Bw
open PySem PySem.Spec PyProof.Rows L2
section
variable {X : Cx} {W : WN} {pos : Pos} {K : PySem.W.Frag}
/-! methods of a text -/
def okStr (d : D) : Ev Str := match d with
  | .str z => ret z
  | _ => stk
def SndMS (K : PySem.W.Frag) (W : WN) (r : V → List V → Hp → VK → Prop) (op : Str → List D → Ev D) : Prop := ∀ θ G z xs ds, RvL K θ G xs ds → Snd K W (RV K) θ G (fun _ H Q => r (.str z) xs H Q) (op z ds)
theorem de_bmS {name : Str} {id : String} {r : V → List V → Hp → VK → Prop} {op : Str → List D → Ev D} {o e : Expr} {es : List Expr} {apos : Pos} {f : Ev D} {h : Ev (List D)}
    (pa : PlainAttrs "str") (slot : Slot "str" name id) (hty : typeOf (.builtin id) = pure (.type "method_descriptor")) (hm : MtR X id r) (so : SndMS X.K W r op) (ho : DE X W o f) (ha : DA X W (e :: es) h)
    (hbase : attributeBase o name X.env (eval o X.env) = eval o X.env := by rfl)
    (hfew : ((backTo pos (starEach (e :: es) X.env)).all (fun x => !x.1) && (backToKw pos (keywordEach [] X.env)).all (fun x => x.1.isSome)
      && decide ((e :: es).length + ([] : List Keyword).length + (if ([] : List Keyword).isEmpty then 0 else 1) < 30)) = true := by rfl)
    (hline : (apos.endLine == pos.line) = true := by rfl) (hs : starEach (e :: es) X.env = (false, eval e X.env) :: starEach es X.env := by rfl) (hplain : (backTo pos (starEach es X.env)).any (·.1) = false := by rfl) :
    DE X W (.Call (.Attribute o name apos) (e :: es) [] pos) (bnd f fun d => bnd (okStr d) fun z => bnd h fun ys => op z ys) := by
  obtain ⟨to, po, so'⟩ := ho
  obtain ⟨t, p, s⟩ := ha
  refine ⟨_, pe_bm pa slot hty hm po p hbase hfew hline hs hplain, fun θ G => ?_⟩
  refine (so' θ G).bind (R2 := RV X.K) (k := fun (x : V) (σ : L2.St) (H1 : Hp) (Q : V → Hp → Prop) => tyV X.K "str" x H1 ∧ t σ H1 fun xs H2 => r x xs H2 Q) fun θ1 G1 v d _ _ hv => ?_
  cases d with
  | str z =>
    have ev := hv.str_of
    subst ev
    intro ρ M r' M' θ2 G2 σ H Q p2 s1 e rs rv kk
    refine ⟨rfl, ?_⟩
    exact ((s θ1 G1).bind (R2 := RV X.K) (k := fun (xs : List V) (_ : L2.St) (H1 : Hp) (Q : V → Hp → Prop) => r (.str z) xs H1 Q) (g := fun ys => op z ys) fun θ4 G4 xs ds p4 s4 hxs => so θ4 G4 z xs ds hxs) ρ M r' M' θ2 G2 σ H Q p2 s1 e rs rv kk
  | _ => exact Snd.stk
def oZf (z : Str) (ds : List D) : Ev D := match ds with
  | [.int i] => if PadOk i = true then ret (.str (Txt.zfill z i)) else stk
  | _ => stk
theorem snd_zf : SndMS K W (fun x xs H Q => ∃ a i, x = V.str a ∧ xs = [V.int i] ∧ PadOk i = true ∧ Q (V.str (Txt.zfill a i)) H) oZf := by
  intro θ0 G0 z xs ds hx
  unfold oZf
  split
  · rename_i i
    obtain ⟨v, rfl, hv⟩ := vals1 hx
    rw [hv.int_of]
    split
    · rename_i hl
      intro ρ M r M' θ G σ H Q p s e rs rv kk
      exact ⟨z, i, rfl, rfl, hl, Snd.ret (K := K) (W := W) (R := RV K) (θ0 := θ0) (G0 := G0) (d := .str (Txt.zfill z i)) (fun _ _ _ _ => .dat (.str _)) ρ M r M' θ G σ H Q p s e rs rv kk⟩
    · exact Snd.stk
  · exact Snd.stk
def oRmp (z : Str) (ds : List D) : Ev D := match ds with
  | [.str b] => if z.length ≤ tLim then ret (.str (Txt.removeprefix z b)) else stk
  | _ => stk
theorem snd_rmp : SndMS K W (fun x xs H Q => ∃ a b, x = V.str a ∧ xs = [V.str b] ∧ a.length ≤ sizeLine ∧ Q (V.str (Txt.removeprefix a b)) H) oRmp := by
  intro θ0 G0 z xs ds hx
  unfold oRmp
  split
  · rename_i b
    obtain ⟨v, rfl, hv⟩ := vals1 hx
    rw [hv.str_of]
    split
    · rename_i hl
      intro ρ M r M' θ G σ H Q p s e rs rv kk
      exact ⟨z, b, rfl, rfl, by rw [sizeLine_eq]; exact hl, Snd.ret (K := K) (W := W) (R := RV K) (θ0 := θ0) (G0 := G0) (d := .str (Txt.removeprefix z b)) (fun _ _ _ _ => .dat (.str _)) ρ M r M' θ G σ H Q p s e rs rv kk⟩
    · exact Snd.stk
  · exact Snd.stk
variable {p : Pos} {o e : Expr} {es : List Expr} {apos : Pos} {f : Ev D} {h : Ev (List D)}
theorem de_zf (ho : DE X W o f) (ha : DA X W (e :: es) h)
    (hbase : attributeBase o "zfill" X.env (eval o X.env) = eval o X.env := by rfl)
    (hfew : ((backTo pos (starEach (e :: es) X.env)).all (fun x => !x.1) && (backToKw pos (keywordEach [] X.env)).all (fun x => x.1.isSome)
      && decide ((e :: es).length + ([] : List Keyword).length + (if ([] : List Keyword).isEmpty then 0 else 1) < 30)) = true := by rfl)
    (hline : (apos.endLine == pos.line) = true := by rfl) (hs : starEach (e :: es) X.env = (false, eval e X.env) :: starEach es X.env := by rfl) (hplain : (backTo pos (starEach es X.env)).any (·.1) = false := by rfl) :
    DE X W (.Call (.Attribute o "zfill" apos) (e :: es) [] pos) (bnd f fun d => bnd (okStr d) fun z => bnd h fun ys => oZf z ys) :=
  de_bmS PySem.F.plainAttrs_str PySem.F.slot_str_zfill PySem.F.type_str_zfill mt_zfill snd_zf ho ha hbase hfew hline hs hplain
theorem de_rmp (ho : DE X W o f) (ha : DA X W (e :: es) h)
    (hbase : attributeBase o "removeprefix" X.env (eval o X.env) = eval o X.env := by rfl)
    (hfew : ((backTo pos (starEach (e :: es) X.env)).all (fun x => !x.1) && (backToKw pos (keywordEach [] X.env)).all (fun x => x.1.isSome)
      && decide ((e :: es).length + ([] : List Keyword).length + (if ([] : List Keyword).isEmpty then 0 else 1) < 30)) = true := by rfl)
    (hline : (apos.endLine == pos.line) = true := by rfl) (hs : starEach (e :: es) X.env = (false, eval e X.env) :: starEach es X.env := by rfl) (hplain : (backTo pos (starEach es X.env)).any (·.1) = false := by rfl) :
    DE X W (.Call (.Attribute o "removeprefix" apos) (e :: es) [] pos) (bnd f fun d => bnd (okStr d) fun z => bnd h fun ys => oRmp z ys) :=
  de_bmS PySem.F.plainAttrs_str PySem.F.slot_str_removeprefix PySem.F.type_str_removeprefix mt_removeprefix snd_rmp ho ha hbase hfew hline hs hplain
/-! s.partition(t) -/
def oPt (z : Str) (d : D) : Ev D := match d with
  | .str b => if (b.length == 0) = false ∧ z.length ≤ tLim then ret (.tup [.str (Txt.partition z b).1, .str (Txt.partition z b).2.1, .str (Txt.partition z b).2.2]) else stk
  | _ => stk
theorem de_pt {g : Ev D} (ho : DE X W o f) (ha : DE X W e g)
    (hs : starEach [e] X.env = [(false, eval e X.env)] := by rfl) (hbase : attributeBase o "partition" X.env (eval o X.env) = eval o X.env := by rfl) (hline : (apos.endLine == pos.line) = true := by rfl) :
    DE X W (.Call (.Attribute o "partition" apos) [e] [] pos) (bnd f fun d => bnd (okStr d) fun z => bnd g fun y => oPt z y) := by
  obtain ⟨to, po, so⟩ := ho
  obtain ⟨te, pe, se⟩ := ha
  refine ⟨_, pe_partition po pe hs hbase hline, fun θ G => ?_⟩
  refine (so θ G).bind (R2 := RV X.K) (k := fun (x : V) (σ : L2.St) (H1 : Hp) (Q : V → Hp → Prop) => (∃ a, x = .str a) ∧ te σ H1 fun y H2 => ∃ a b, x = V.str a ∧ [y] = [V.str b] ∧ (b.length == 0) = false ∧ a.length ≤ sizeLine ∧ ∀ (p : Addr), H2 p = none → Q (V.ref p) (upd H2 p (HO.tup [V.str (Txt.partition a b).fst, V.str (Txt.partition a b).snd.fst, V.str (Txt.partition a b).snd.snd]))) fun θ1 G1 v d _ _ hv => ?_
  cases d with
  | str z =>
    have ev := hv.str_of
    subst ev
    intro ρ M r' M' θ2 G2 σ H Q p2 s1 e rs rv kk
    refine ⟨⟨z, rfl⟩, ?_⟩
    refine ((se θ1 G1).bind (R2 := RV X.K) (k := fun (y : V) (_ : L2.St) (H2 : Hp) (Q : V → Hp → Prop) => ∃ a b, V.str z = V.str a ∧ [y] = [V.str b] ∧ (b.length == 0) = false ∧ a.length ≤ sizeLine ∧ ∀ (p : Addr), H2 p = none → Q (V.ref p) (upd H2 p (HO.tup [V.str (Txt.partition a b).fst, V.str (Txt.partition a b).snd.fst, V.str (Txt.partition a b).snd.snd]))) (g := fun y => oPt z y) fun θ4 G4 y d4 p4 s4 hy => ?_) ρ M r' M' θ2 G2 σ H Q p2 s1 e rs rv kk
    unfold oPt
    split
    · rename_i b
      have eb := hy.str_of
      subst eb
      split
      · rename_i hl
        intro ρ M r M' θ G σ H Q p s e rs rv kk
        unfold ret at e
        simp at e
        obtain ⟨e1, e2⟩ := e
        subst e1; subst e2
        refine ⟨z, b, rfl, rfl, hl.1, by rw [sizeLine_eq]; exact hl.2, fun a ha => ?_⟩
        have g := rs.fresh ha
        have rl : RpL X.K (upd G a (.tup [V.str (Txt.partition z b).1, V.str (Txt.partition z b).2.1, V.str (Txt.partition z b).2.2])) [V.str (Txt.partition z b).1, V.str (Txt.partition z b).2.1, V.str (Txt.partition z b).2.2] [D.str (Txt.partition z b).1, .str (Txt.partition z b).2.1, .str (Txt.partition z b).2.2] := RpL.cons (.str _) (RpL.cons (.str _) (RpL.cons (.str _) RpL.nil))
        exact (kk θ (upd G a (.tup _)) _ (List.prefix_refl _) (same_upd g) (rs.laid ha _)).2 _ _ rfl (.dat (rp_tup upd_same rl))
      · exact Snd.stk
    · exact Snd.stk
  | _ => exact Snd.stk
/-! a text, sign by sign -/
def oItC (d : D) : Ev (List D) := match d with
  | .str z => ret (z.cps.toList.map fun c => .str ⟨#[c]⟩)
  | _ => stk
theorem di_str {tg : Expr} (h : DE X W e f) : DI X W tg e (bnd f oItC) := by
  obtain ⟨t, q, s⟩ := h
  refine ⟨_, pi_str q, fun θ G => (s θ G).bind (R2 := RI X.K) (k := fun (x : V) (_ : L2.St) (H1 : Hp) (R : It → Hp → Prop) => ∃ z, x = V.str z ∧ R (Its z) H1) fun θ1 G1 v d _ _ hv => ?_⟩
  unfold oItC
  split
  · rename_i z
    have ev := hv.str_of
    subst ev
    intro ρ M r M' θ2 G2 σ H Q p2 s1 e rs rv kk
    refine ⟨z, rfl, ?_⟩
    refine Snd.ret (K := X.K) (W := W) (R := RI X.K) (θ0 := θ1) (G0 := G1) (d := z.cps.toList.map fun c => D.str ⟨#[c]⟩) (fun θ G _ _ => ⟨fun i _ _ _ _ _ _ _ hi => by simpa [Its] using hi, fun _ _ _ _ _ _ _ => by simp [Its], fun i d θ' G' H' M' x H'' _ _ rs' hd hy => ?_⟩) ρ M r M' θ2 G2 σ H Q p2 s1 e rs rv kk
    obtain ⟨rfl, c, hc, rfl⟩ := hy
    rw [List.getElem?_map] at hd
    have hc' : z.cps.toList[i]? = some c := by simpa using hc
    rw [hc'] at hd
    cases hd
    exact ⟨G', Same.refl _, rs', .dat (.str _)⟩
  · exact Snd.stk
/-! as a test -/
def asTruS (d : D) : Ev Bool := match d with
  | .str z => if z.length ≤ tLim then ret (z.length != 0) else stk
  | _ => stk
theorem dt_truS (h : DE X W e f) (he : ∀ whole, isTrue e X.env whole = (do let v ← whole; standAt e.pos; holding [v] (truthy v)) := by intro _; rfl) : DT X W e (bnd f asTruS) := by
  obtain ⟨t, q, s⟩ := h
  refine ⟨_, pt_truth q he, fun θ G => (s θ G).bind (R2 := RB) (k := fun (x : V) (_ : L2.St) (H : Hp) (Q : Bool → Hp → Prop) => ∃ k, TruV X.K x H k ∧ Q k H) fun θ1 G1 v d _ _ hv => ?_⟩
  unfold asTruS
  split
  · rename_i z
    have ev := hv.str_of
    subst ev
    split
    · rename_i hl
      intro ρ M r M' θ2 G2 σ H Q p2 s1 e rs rv kk
      refine ⟨z.length != 0, ⟨by rw [sizeLine_eq]; exact hl, ?_⟩, Snd.ret (K := X.K) (W := W) (R := RB) (θ0 := θ1) (G0 := G1) (fun _ _ _ _ => rfl) ρ M r M' θ2 G2 σ H Q p2 s1 e rs rv kk⟩
      rw [Bool.eq_iff_iff]; simp
    · exact Snd.stk
  · exact Snd.stk
/-! f"{n}" -/
theorem de_fmtI {pos2 : Pos} (h : DE X W e f) : DE X W (.JoinedStr [.FormattedValue e (-1) none pos2] pos) (bnd f fun d => oStrI [d]) := by
  obtain ⟨t, q, s⟩ := h
  refine ⟨_, pe_joined1 (pe_fmt q), fun θ G => (s θ G).bind (R2 := RV X.K) (k := fun (x : V) (_ : L2.St) (H1 : Hp) (Q : V → Hp → Prop) => (∃ y, x = V.str y ∧ y.length ≤ sizeLine ∧ Q (V.str y) H1) ∨ ∃ i, x = V.int i ∧ i.natAbs.log2 < 1920 ∧ Q (V.str (Str.ofString (toString i))) H1) fun θ1 G1 v d _ _ hv => ?_⟩
  unfold oStrI
  split
  · rename_i i hd
    cases hd
    have ev := hv.int_of
    subst ev
    split
    · rename_i hl
      intro ρ M r M' θ2 G2 σ H Q p2 s1 e rs rv kk
      exact .inr ⟨i, rfl, hl, Snd.ret (K := X.K) (W := W) (R := RV X.K) (θ0 := θ1) (G0 := G1) (d := .str (Str.ofString (toString i))) (fun _ _ _ _ => .dat (.str _)) ρ M r M' θ2 G2 σ H Q p2 s1 e rs rv kk⟩
    · exact Snd.stk
  · exact Snd.stk
end
end Bw
/-! texts joined -/
namespace Bw
open PySem PySem.Spec PyProof.Rows L2
section
variable {X : Cx} {W : WN} {pos : Pos} {K : PySem.W.Frag}
def strsOf : List D → Option (List Str)
  | [] => some []
  | .str z :: r => (strsOf r).map (z :: ·)
  | _ => none
theorem strsOf_map : ∀ l : List Str, strsOf (l.map D.str) = some l
  | [] => rfl
  | z :: l => by rw [List.map_cons, strsOf, strsOf_map l]; rfl
theorem strsOf_eq : ∀ {ds : List D} {l : List Str}, strsOf ds = some l → ds = l.map D.str
  | [], l, h => by cases h; rfl
  | d :: ds, l, h => by
    cases d with
    | str z =>
      unfold strsOf at h
      cases q : strsOf ds with
      | none => rw [q] at h; cases h
      | some r =>
        rw [q] at h
        cases h
        rw [strsOf_eq q]; rfl
    | _ => cases h
theorem rpl_strs {G : Hp} : ∀ {xs : List V} {l : List Str}, RpL K G xs (l.map D.str) → xs = l.map V.str := fun {xs l} r => by
  refine List.ext_getElem? fun i => ?_
  have len := r.len
  rw [List.length_map] at len
  by_cases hi : i < l.length
  · have h1 : xs[i]? = some xs[i] := List.getElem?_eq_getElem (by omega)
    have h2 : (l.map D.str)[i]? = some (.str l[i]) := by simp [hi]
    have rp := r.get i _ _ h1 h2
    rw [h1, List.getElem?_map, List.getElem?_eq_getElem hi]
    have ev := (show Rv K [] G xs[i] (.str l[i]) from .dat rp).str_of
    rw [ev]; rfl
  · rw [List.getElem?_eq_none (by omega), List.getElem?_eq_none (by simp; omega)]
def oJn (z : Str) (d : D) : Ev D := fun ρ M => match seqOf d M with
  | some es => match strsOf es with
    | some l => if (l.map fun x => x.length).sum + l.length * z.length ≤ tLim then some (.ok (.str (Txt.join z l)), M) else none
    | none => none
  | none => none
variable {p : Pos} {o e : Expr} {apos : Pos} {f g : Ev D}
theorem de_jn (ho : DE X W o f) (ha : DE X W e g)
    (hs : starEach [e] X.env = [(false, eval e X.env)] := by rfl) (hbase : attributeBase o "join" X.env (eval o X.env) = eval o X.env := by rfl) (hline : (apos.endLine == pos.line) = true := by rfl) :
    DE X W (.Call (.Attribute o "join" apos) [e] [] pos) (bnd f fun d => bnd (okStr d) fun z => bnd g fun y => oJn z y) := by
  obtain ⟨to, po, so⟩ := ho
  obtain ⟨te, pe, se⟩ := ha
  refine ⟨_, pe_join po pe hs hbase hline, fun θ G => ?_⟩
  refine (so θ G).bind (R2 := RV X.K) (k := fun (x : V) (σ : L2.St) (H1 : Hp) (Q : V → Hp → Prop) => (∃ a, x = .str a) ∧ te σ H1 fun y H2 => ∃ a p ys, x = V.str a ∧ [y] = [V.ref p] ∧ (SqL X.K H2 p (List.map V.str ys) ∨ SqT X.K H2 p (List.map V.str ys)) ∧ (List.map (fun x => x.length) ys).sum + ys.length * a.length ≤ 16777216 ∧ Q (V.str (Txt.join a ys)) H2) fun θ1 G1 v d _ _ hv => ?_
  cases d with
  | str z =>
    have ev := hv.str_of
    subst ev
    intro ρ M r' M' θ2 G2 σ H Q p2 s1 e rs rv kk
    refine ⟨⟨z, rfl⟩, ?_⟩
    refine ((se θ1 G1).bind (R2 := RV X.K) (k := fun (y : V) (_ : L2.St) (H2 : Hp) (Q : V → Hp → Prop) => ∃ a p ys, V.str z = V.str a ∧ [y] = [V.ref p] ∧ (SqL X.K H2 p (List.map V.str ys) ∨ SqT X.K H2 p (List.map V.str ys)) ∧ (List.map (fun x => x.length) ys).sum + ys.length * a.length ≤ 16777216 ∧ Q (V.str (Txt.join a ys)) H2) (g := fun y => oJn z y) fun θ4 G4 y d4 p4 s4 hy => ?_) ρ M r' M' θ2 G2 σ H Q p2 s1 e rs rv kk
    intro ρ M r M' θ G σ H Q p s e rs rv kk
    unfold oJn at e
    split at e
    · rename_i es he
      split at e
      · rename_i l hl
        split at e
        · rename_i hc
          cases e
          obtain ⟨a, xs, rfl, q, rl⟩ := seq_of rs (hy.mono p s) he
          rw [strsOf_eq hl] at rl
          have ex := rpl_strs rl
          subst ex
          exact ⟨z, a, l, rfl, rfl, q, hc, (kk θ G H (List.prefix_refl _) (Same.refl _) rs).2 _ _ rfl (.dat (.str _))⟩
        · cases e
      · cases e
    · cases e
  | _ => exact Snd.stk
end
end Bw
/-! texts of the module -/
namespace Bw
open PySem PySem.Spec PyProof.Rows L2
theorem de_constS {X : Cx} {W : WN} {pos : Pos} {x z : Str} {t : Tok} (hm : X.mg x = some (.str z t)) (hg : Gl X x := by rfl) (hdb : (x == ("__debug__" : Str)) = false := by decide) : DE X W (.Name x pos) (ret (.str z)) := ⟨_, pe_glob (v := .str z) hg hm ⟨t, rfl⟩ (hd := hdb), fun _ _ => snd_c fun _ => .str z⟩
end Bw
/-! sorted(xs): tuples of three, by their first entries, whole numbers all different -/
namespace SrtB
open PySem PyProof.Rows Srt SrtO
section
variable {prog : Program} {w : World} {A : Around} {E : Value → Shared → Prop} {s : Shared}
def IsTri (h : Heap) (v : Value) (x : Int) : Prop := ∃ a o t u z n, v = .ref a ∧ h.get? a = some o ∧ o.cls = .type "tuple" ∧ o.data = .seq #[.int x t, u, z] n
theorem IsTri.keeps {h h' : Heap} {v : Value} {x : Int} (p : IsTri h v x) (k : ∀ b o, h.get? b = some o → o.cls = .type "tuple" → h'.get? b = some o) : IsTri h' v x := by
  obtain ⟨a, o, t, u, z, n, e, ho, hc, hd⟩ := p
  exact ⟨a, o, t, u, z, n, e, k _ _ ho hc, hc, hd⟩
def fstI (h : Heap) (v : Value) : Int := match v with
  | .ref a => match h.get? a with
    | some o => match o.data with
      | .seq xs _ => match (xs[0]? : Option Value) with
        | some (Value.int i _) => i
        | _ => 0
      | _ => 0
    | none => 0
  | _ => 0
theorem IsTri.fst {h : Heap} {v : Value} {x : Int} (p : IsTri h v x) : fstI h v = x := by
  obtain ⟨a, o, t, u, z, n, rfl, ho, hc, hd⟩ := p
  simp only [fstI, ho, hd]
  rfl
theorem tri_cmp {vs : List Value} {k : Value → Int} (hp : ∀ v ∈ vs, IsTri s.heap v (k v)) (inj : ∀ v ∈ vs, ∀ u ∈ vs, k v = k u → v = u) : Cmp prog w A s (tuples' true) (fun p => p.1 ∈ vs) (lt2 fun v u => decide (k v < k u)) := by
  intro p q hm hm'
  show wpAny (model prog w) A (keyLt' (tuples' true) p.1 q.1) (fun r s' => s' = s ∧ r = decide (k p.1 < k q.1)) (fun _ _ => False) s
  by_cases c : k p.1 = k q.1
  · have e := inj _ hm _ hm' c
    rw [← e]
    have h1 := hp _ hm
    have kk : decide (k p.1 < k p.1) = false := decide_eq_false (by omega)
    rw [kk]
    obtain ⟨a, o, t, u, z, n, e, ho, hc, hd⟩ := h1
    rw [e]
    refine PySem.W.kat_lt ho hd ho hd ?_
    show PySem.W.KatLex prog w A true (decide (3 < 3)) _ [(.int (k p.1) t, .int (k p.1) t), (u, u), (z, z)] 0 s
    refine PySem.W.kat_cons (SeqAt.EqAt.same _ prog w _ _ (PySem.W.kat_yes ?_))
    refine PySem.W.kat_cons (SeqAt.EqAt.same _ prog w _ _ (PySem.W.kat_yes ?_))
    refine PySem.W.kat_cons (SeqAt.EqAt.same _ prog w _ _ (PySem.W.kat_yes ?_))
    exact PySem.W.kat_nil ⟨rfl, rfl⟩
  · have h1 := hp _ hm
    have h2 := hp _ hm'
    generalize k p.1 = x at h1 c ⊢
    generalize k q.1 = x' at h2 c ⊢
    obtain ⟨a, o, t, u, z, n, e, ho, hc, hd⟩ := h1
    obtain ⟨a', o', t', u', z', n', e', ho', hc', hd'⟩ := h2
    rw [e, e']
    refine PySem.W.kat_lt ho hd ho' hd' ?_
    show PySem.W.KatLex prog w A true (decide (3 < 3)) _ [(.int x t, .int x' t'), (u, u'), (z, z')] 0 s
    refine PySem.W.kat_cons (SeqAt.EqAt.int_int x t x' t' prog w _ _ ?_)
    refine PySem.W.kat_go (fun e1 => ?_) (fun e1 => ?_)
    · have ex : x = x' := by simpa using e1
      exact absurd ex c
    · exact PySem.W.kat_no (oneLt_int ⟨rfl, rfl⟩)
theorem tri_firsts {h : Heap} : ∀ {vs : List Value}, (∀ v ∈ vs, ∃ x, IsTri h v x) → ∃ fs : List Value, PySem.W.KatTups h vs fs ∧ fs.length = vs.length ∧ ∀ f ∈ fs, ∃ x t, f = Value.int x t
  | [], _ => ⟨[], PySem.W.KatTups.nil, rfl, fun _ hm => by simp at hm⟩
  | v :: vs, hp => by
    obtain ⟨fs, h1, h2, h3⟩ := tri_firsts (vs := vs) fun v' hm => hp v' (List.mem_cons_of_mem _ hm)
    obtain ⟨x, a, o, t, u, z, n, e, ho, hc, hd⟩ := hp v (List.mem_cons_self ..)
    subst e
    refine ⟨.int x t :: fs, PySem.W.KatTups.cons ho hc hd rfl h1, by rw [List.length_cons, List.length_cons, h2], fun f hm => ?_⟩
    rcases List.mem_cons.mp hm with rfl | hm
    · exact ⟨x, t, rfl⟩
    · exact h3 f hm
theorem swo_k (k : Value → Int) : Swo fun v u => decide (k v < k u) := by
  refine ⟨fun x y h => ?_, fun x y z h1 h2 => ?_⟩
  · simp at h ⊢; omega
  · simp at h1 h2 ⊢; omega
theorem tri_sortableO {a : Addr} {vs : List Value} {k : Value → Int} (h0 : 0 < vs.length) (hp : ∀ v ∈ vs, IsTri s.heap v (k v)) (inj : ∀ v ∈ vs, ∀ u ∈ vs, k v = k u → v = u) (ha : ∀ o, s.heap.get? a = some o → o.cls ≠ .type "tuple") : SortableO prog w A s a vs fun v u => decide (k v < k u) := by
  intro h' keep
  have hp' : ∀ v ∈ vs, IsTri h' v (k v) := fun v hm => (hp v hm).keeps fun b o e c => keep b o (fun z => by subst z; exact ha o e c) e
  obtain ⟨fs, h1, h2, h3⟩ := tri_firsts fun v hm => ⟨_, hp' v hm⟩
  refine ⟨tuples' true, fun Q E hq => ?_, tri_cmp hp' inj⟩
  refine PySem.W.kat_kind (T := .type "int") h1 (by omega) (fun f hm => ?_) (by rfl) ?_
  · obtain ⟨x, t, rfl⟩ := h3 f hm
    exact PySem.W.Looks.now
  · have e : (Value.type "int" != Value.type "tuple") = true := by first | decide +kernel | rfl | decide
    rw [e]
    exact hq
theorem sorted_tri {l : Addr} {vs : List Value} {k : Value → Int} {Q : Value → Shared → Prop} (hl : s.heap.IsList l vs.toArray) (hz : vs.length ≤ sizeLine) (hp : ∀ v ∈ vs, IsTri s.heap v (k v)) (inj : ∀ v ∈ vs, ∀ u ∈ vs, k v = k u → v = u)
    (h : ∀ (h' : Heap) (d : Addr) (out : List Value), out.Pairwise (fun v u => k v ≤ k u) → out.Perm vs → (∀ b o, s.heap.get? b = some o → h'.get? b = some o) → s.heap.objs.size ≤ d → (∃ n, h'.get? d = some (seqObj "list" out.toArray n)) → Q (.ref d) { s with heap := h' }) :
    wpAny (model prog w) A (call (.builtin "sorted") [.ref l]) Q E s := by
  refine sorted_ord (swo_k k) hl hz (fun h2 h₁ a ha kk => ?_) fun out hs hb => ?_
  · refine tri_sortableO (s := { s with heap := h₁ }) (by omega) (fun v hm => (hp v hm).keeps fun b o e _ => (kk b o e).2) inj fun o e => ?_
    have e' : some o = some (seqObj "list" vs.toArray 0) := e.symm.trans ha
    cases e'
    intro c
    exact absurd (Value.type.inj c) (by decide)
  · refine h _ _ out (hs.imp fun {x y} hxy => ?_) hb.perm (fun b o e => sortedAll_old e) (Nat.le_succ _) (sortedAll_at s.heap vs out.toArray)
    have : decide (k y < k x) = false := hxy
    have := of_decide_eq_false this
    omega
end
end SrtB
namespace Bw
open PySem PySem.Spec PyProof.Rows L2
def TriA (K : PySem.W.Frag) (H : Hp) (x : V) (i : Int) : Prop := ∃ t y z, x = .ref t ∧ SqT K H t [.int i, y, z]
def rSort3 (K : PySem.W.Frag) : List V → Hp → VK → Prop := fun vs H Q => ∃ (a : Addr) (xs : List V) (ks : List Int), vs = [V.ref a] ∧ SqL K H a xs ∧ xs.length = ks.length ∧ (∀ (i : Nat) (x : V) (j : Int), xs[i]? = some x → ks[i]? = some j → TriA K H x j) ∧ ks.Nodup ∧
  ∀ (ys : List V) (p : Addr), ys.Perm xs → ys.Pairwise (fun x y => ∀ n m, TriA K H x n → TriA K H y m → n ≤ m) → H p = none → Q (.ref p) (upd H p (.lst ys))
theorem tri_raw {X : Cx} {pins : List (Addr × Obj)} {σ : L2.St} {H : Hp} {s : Shared} (I : Inv X pins σ H s) {t : Addr} {i : Int} {y z : V} (h : SqT X.K H t [.int i, y, z]) : SrtB.IsTri s.heap (.ref t) i := by
  obtain ⟨its, rv, hT, _⟩ := I.tuple h
  obtain ⟨o, ho, hc, n, hd⟩ := hT
  match its, rv with
  | [a, b, c], rv =>
    cases rv with
    | cons r rv =>
      obtain ⟨tk, rfl⟩ := r
      exact ⟨t, o, tk, b, c, n, rfl, ho, hc, hd⟩
theorem cr_sort3 {X : Cx} : CallR X (.builtin "sorted") (rSort3 X.K) := by
  intro pins s σ H vs us Q I r h
  obtain ⟨a, xs, ks, rfl, hs, hl0, hx, nd, q⟩ := h
  obtain ⟨its, rv, hl, hz⟩ := I.list hs
  rw [Vals.ref1 r]
  have hx1 : ∀ x ∈ xs, ∃ j, TriA X.K H x j := fun x m => by
    obtain ⟨i, hi, e⟩ := List.getElem_of_mem m
    exact ⟨ks[i]'(by omega), hx i x _ (by rw [List.getElem?_eq_getElem hi, e]) (List.getElem?_eq_getElem (by omega))⟩
  obtain ⟨e1, e2⟩ := bkV_refs rv fun x m => by
    obtain ⟨j, t, y, z, e, _⟩ := hx1 x m
    exact ⟨t, e⟩
  have hv : ∀ v ∈ its, ∃ j, TriA X.K H (bkV v) j ∧ SrtB.IsTri s.heap v j := fun v hv => by
    obtain ⟨t, rfl⟩ := e2 v hv
    have hm : V.ref t ∈ xs := by
      rw [e1]
      exact List.mem_map.mpr ⟨_, hv, rfl⟩
    obtain ⟨j, t', y, z, e, ht⟩ := hx1 _ hm
    cases e
    exact ⟨j, ⟨t, y, z, rfl, ht⟩, tri_raw I ht⟩
  have uq : ∀ {x : V} {i j : Int}, TriA X.K H x i → TriA X.K H x j → i = j := fun {x i j} ⟨t, y, z, e, h⟩ ⟨t', y', z', e', h'⟩ => by
    subst e
    cases e'
    have a := (tri_raw I h).fst
    have b := (tri_raw I h').fst
    omega
  refine SrtB.sorted_tri (k := SrtB.fstI s.heap) hl.isList (by rw [← rv.length]; exact hz) (fun v m => ?_) (fun v m u m' e => ?_) fun h' d out h1 h2 kp hd hn => ?_
  · obtain ⟨j, _, h⟩ := hv v m
    rw [h.fst]; exact h
  · obtain ⟨j, hj, h⟩ := hv v m
    obtain ⟨j', hj', h'⟩ := hv u m'
    rw [h.fst, h'.fst] at e
    subst e
    have mv : bkV v ∈ xs := by rw [e1]; exact List.mem_map.mpr ⟨_, m, rfl⟩
    have mu : bkV u ∈ xs := by rw [e1]; exact List.mem_map.mpr ⟨_, m', rfl⟩
    obtain ⟨a1, ha1, ea1⟩ := List.getElem_of_mem mv
    obtain ⟨a2, ha2, ea2⟩ := List.getElem_of_mem mu
    have k1 := hx a1 (bkV v) _ (by rw [List.getElem?_eq_getElem ha1, ea1]) (List.getElem?_eq_getElem (by omega))
    have k2 := hx a2 (bkV u) _ (by rw [List.getElem?_eq_getElem ha2, ea2]) (List.getElem?_eq_getElem (by omega))
    have q1 := uq hj k1
    have q2 := uq hj' k2
    have pw := List.pairwise_iff_getElem.mp nd
    have : a1 = a2 := by
      rcases Nat.lt_trichotomy a1 a2 with h | h | h
      · exact absurd (q1.symm.trans q2) (pw a1 a2 (by omega) (by omega) h)
      · exact h
      · exact absurd (q2.symm.trans q1) (pw a2 a1 (by omega) (by omega) h)
    subst this
    have ebk : bkV v = bkV u := ea1.symm.trans ea2
    obtain ⟨t, rfl⟩ := e2 v m
    obtain ⟨t', rfl⟩ := e2 u m'
    cases ebk
    rfl
  · have h3 : ∀ u ∈ out, ∃ a, u = Value.ref a := fun u hu => e2 u (h2.mem_iff.mp hu)
    have hp : (out.map bkV).Perm xs := by
      rw [e1]
      exact h2.map bkV
    have hlen : (out.map bkV).length ≤ sizeLine := by
      rw [hp.length_eq]
      exact hz
    obtain ⟨n, hn⟩ := hn
    refine ⟨.ref _, upd H d (.lst (out.map bkV)), I.laid (t' := s.toks) kp hd ⟨hlen, out, n, bkV_vals h3, hn⟩, rfl, q _ _ hp ?_ (I.hok.fresh hd)⟩
    rw [List.pairwise_map]
    have h4 : out.Pairwise fun u v => SrtB.fstI s.heap u ≤ SrtB.fstI s.heap v := h1
    refine List.Pairwise.imp (fun {u v} huv n m hn hm => ?_) h4
    obtain ⟨t, y, z, et, ht⟩ := hn
    obtain ⟨t', y', z', et', ht'⟩ := hm
    have eu := bkV_ref et
    have ev := bkV_ref et'
    rw [eu, ev, (tri_raw I ht).fst, (tri_raw I ht').fst] at huv
    exact huv
end Bw
/-! triples sorted; a text split; a part of a text -/
namespace Bw
open PySem PySem.Spec PyProof.Rows L2
section
variable {X : Cx} {W : WN} {pos : Pos} {K : PySem.W.Frag}
theorem rpl_permD {G : Hp} {xs ys : List V} (p : ys.Perm xs) : ∀ {ds : List D}, RpL K G xs ds → ∃ es : List D, es.Perm ds ∧ RpL K G ys es := by
  induction p with
  | nil => exact fun {ds} r => ⟨ds, .refl _, r⟩
  | @cons x l1 l2 p ih =>
    intro ds r
    cases ds with
    | nil => exact absurd r.len (by simp)
    | cons q ds =>
      obtain ⟨v, ys, e, h1, h2⟩ := r.uncons
      cases e
      obtain ⟨es, hp, hr⟩ := ih h2
      exact ⟨q :: es, hp.cons q, hr.cons h1⟩
  | swap x y l =>
    intro ds r
    match ds, r with
    | [], r => exact absurd r.len (by simp)
    | [q], r => exact absurd r.len (by simp)
    | q1 :: q2 :: ds, r =>
      obtain ⟨v, ys, e, h1, h2⟩ := r.uncons
      cases e
      obtain ⟨v, ys, e, h3, h4⟩ := RpL.uncons h2
      cases e
      exact ⟨q2 :: q1 :: ds, .swap _ _ _, RpL.cons h3 (h4.cons h1)⟩
  | trans p1 p2 ih1 ih2 =>
    intro ds r
    obtain ⟨qs, hp, hr⟩ := ih2 r
    obtain ⟨qs', hp', hr'⟩ := ih1 hr
    exact ⟨qs', hp'.trans hp, hr'⟩
def isT3 : D → Bool
  | .tup [.int _, _, _] => true
  | _ => false
def k3 : D → Int
  | .tup (.int i :: _) => i
  | _ => 0
def srt3 (ds : List D) : List D := ds.mergeSort fun a b => decide (k3 a ≤ k3 b)
theorem srt3_perm (ds : List D) : (srt3 ds).Perm ds := List.mergeSort_perm _ _
theorem srt3_le (ds : List D) : (srt3 ds).Pairwise fun a b => k3 a ≤ k3 b := by
  have := List.pairwise_mergeSort (le := fun a b : D => decide (k3 a ≤ k3 b)) (by simp; intros; omega) (by simp; intros; omega) ds
  exact this.imp fun h => of_decide_eq_true h
theorem srt3_uniq : ∀ {a b : List D}, (a.map k3).Nodup → a.Perm b → (a.Pairwise fun x y => k3 x ≤ k3 y) → (b.Pairwise fun x y => k3 x ≤ k3 y) → a = b
  | [], b, _, p, _, _ => p.nil_eq
  | x :: a, [], _, p, _, _ => absurd p.length_eq (by simp)
  | x :: a, y :: b, nd, p, ha, hb => by
    have h1 := List.pairwise_cons.mp ha
    have h2 := List.pairwise_cons.mp hb
    rw [List.map_cons, List.nodup_cons] at nd
    have xy : x = y := by
      have m1 : x ∈ y :: b := p.mem_iff.mp (by simp)
      have m2 : y ∈ x :: a := p.mem_iff.mpr (by simp)
      rcases List.mem_cons.mp m2 with e | m2
      · exact e.symm
      rcases List.mem_cons.mp m1 with e | m1
      · exact e
      have l1 := h1.1 y m2
      have l2 := h2.1 x m1
      have e : k3 x = k3 y := by omega
      exact absurd (List.mem_map.mpr ⟨y, m2, e.symm⟩) nd.1
    subst xy
    rw [srt3_uniq nd.2 (List.perm_cons _ |>.mp p) h1.2 h2.2]
theorem rp_t3 {G : Hp} {v : V} {d : D} (hd : isT3 d = true) (h : Rp K G v d) : TriA K G v (k3 d) := by
  unfold isT3 at hd
  split at hd
  · rename_i i d1 d2
    cases h with
    | @tup a xs ds hs l e =>
      have r : RpL K G xs [.int i, d1, d2] := ⟨l, e⟩
      obtain ⟨v1, y1, rfl, h1, r1⟩ := r.uncons
      obtain ⟨v2, y2, rfl, h2, r2⟩ := r1.uncons
      obtain ⟨v3, y3, rfl, h3, r3⟩ := r2.uncons
      rw [r3.nil_of] at hs
      cases h1
      exact ⟨a, v2, v3, rfl, hs⟩
  · cases hd
def oSrt3 (ds : List D) : Ev D := fun ρ M => match ds with
  | [d] => match lstAt d M with
    | some es => if es.all isT3 = true ∧ (es.map k3).Nodup then some (.ok (.lst (srt3 es)), M) else none
    | none => none
  | _ => none
theorem snd_srt3 : SndC K W (rSort3 K) oSrt3 := by
  intro θ0 G0 xs ds hx ρ M r M' θ G σ H Q p s e rs rv kk
  unfold oSrt3 at e
  split at e
  · rename_i d
    split at e
    · rename_i es he
      split at e
      · rename_i hc
        cases e
        obtain ⟨v, rfl, hv⟩ := vals1 hx
        obtain ⟨a, ys, rfl, q, rl⟩ := lstAt_of rs (hv.mono p s) he
        have ok := List.all_eq_true.mp hc.1
        have gH : ∀ {z : V} {n : Int}, TriA K G z n → TriA K H z n := fun ⟨t, y, z, e, h⟩ => ⟨t, y, z, e, seqT rs.sub h⟩
        refine ⟨a, ys, es.map k3, rfl, .inl (.inl q), by rw [List.length_map]; exact rl.len, fun i x j hx hj => ?_, hc.2, fun zs l hp pw hl => ?_⟩
        · rw [List.getElem?_map] at hj
          obtain ⟨d, hd, rfl⟩ := Option.map_eq_some_iff.mp hj
          exact gH (rp_t3 (ok d (List.mem_of_getElem? hd)) (rl.get i x d hx hd))
        · obtain ⟨qs, hq, hr⟩ := rpl_permD hp rl
          have le : qs.Pairwise fun x y => k3 x ≤ k3 y := by
            rw [List.pairwise_iff_getElem]
            intro i j hi hj hij
            have lz := hr.len
            have ti := rp_t3 (ok _ (hq.mem_iff.mp (List.getElem_mem hi))) (hr.get i zs[i] qs[i] (List.getElem?_eq_getElem (by omega)) (List.getElem?_eq_getElem hi))
            have tj := rp_t3 (ok _ (hq.mem_iff.mp (List.getElem_mem hj))) (hr.get j zs[j] qs[j] (List.getElem?_eq_getElem (by omega)) (List.getElem?_eq_getElem hj))
            exact (List.pairwise_iff_getElem.mp pw) i j (by omega) (by omega) hij _ _ (gH ti) (gH tj)
          have e2 : qs = srt3 es := srt3_uniq ((hq.map k3).nodup_iff.mpr hc.2) (hq.trans (srt3_perm es).symm) le (srt3_le es)
          subst e2
          have g := rs.fresh hl
          exact (kk θ (upd G l (.lst zs)) _ (List.prefix_refl _) (same_upd g) (rs.laid hl _)).2 _ _ rfl (.dat (rp_lst upd_same (hr.mono (same_upd g))))
      · cases e
    · cases e
  · cases e
theorem de_srt3 {e : Expr} {es : List Expr} {h : Ev (List D)} {p pos : Pos} (hm : X.mg "sorted" = none) (ha : DA X W (e :: es) h) (hg : Gl X "sorted" := by rfl) (he : starEach (e :: es) X.env = (false, eval e X.env) :: starEach es X.env := by rfl) (hpl : (backTo pos (starEach es X.env)).any (·.1) = false := by rfl) : DE X W (.Call (.Name "sorted" p) (e :: es) [] pos) (bnd h oSrt3) :=
  de_callB cr_sort3 snd_srt3 hm (by decide +kernel) ha hg (by decide) (by decide) he hpl
theorem oSrt3_ap {d : D} {es : List D} {M : Mem} (he : lstAt d M = some es) (ok : es.all isT3 = true) (nd : (es.map k3).Nodup) (ρ : Env) : oSrt3 [d] ρ M = some (.ok (.lst (srt3 es)), M) := by
  unfold oSrt3
  dsimp only
  rw [he]
  dsimp only
  rw [if_pos ⟨ok, nd⟩]
/-! s.split(t) -/
theorem rpl_ofS {G : Hp} : ∀ ys : List Str, RpL K G (ys.map V.str) (ys.map D.str)
  | [] => RpL.nil
  | y :: ys => RpL.cons (.str _) (rpl_ofS ys)
def oSpl (z : Str) (d : D) : Ev D := match d with
  | .str b => if (b.length == 0) = false ∧ z.length + 2 ≤ tLim then ret (.lst ((Txt.split z b).map D.str)) else stk
  | _ => stk
theorem de_spl {o e : Expr} {apos pos : Pos} {f g : Ev D} (ho : DE X W o f) (ha : DE X W e g)
    (hs : starEach [e] X.env = [(false, eval e X.env)] := by rfl) (hbase : attributeBase o "split" X.env (eval o X.env) = eval o X.env := by rfl) (hline : (apos.endLine == pos.line) = true := by rfl) :
    DE X W (.Call (.Attribute o "split" apos) [e] [] pos) (bnd f fun d => bnd (okStr d) fun z => bnd g fun y => oSpl z y) := by
  obtain ⟨to, po, so⟩ := ho
  obtain ⟨te, pe, se⟩ := ha
  refine ⟨_, pe_split po pe hs hbase hline, fun θ G => ?_⟩
  refine (so θ G).bind (R2 := RV X.K) (k := fun (x : V) (σ : L2.St) (H1 : Hp) (Q : V → Hp → Prop) => (∃ a, x = .str a) ∧ te σ H1 fun y H2 => ∃ a b, x = V.str a ∧ [y] = [V.str b] ∧ (b.length == 0) = false ∧ a.length + 2 ≤ sizeLine ∧ rNewStrs (Txt.split a b) H2 Q) fun θ1 G1 v d _ _ hv => ?_
  cases d with
  | str z =>
    have ev := hv.str_of
    subst ev
    intro ρ M r' M' θ2 G2 σ H Q p2 s1 e rs rv kk
    refine ⟨⟨z, rfl⟩, ?_⟩
    refine ((se θ1 G1).bind (R2 := RV X.K) (k := fun (y : V) (_ : L2.St) (H2 : Hp) (Q : V → Hp → Prop) => ∃ a b, V.str z = V.str a ∧ [y] = [V.str b] ∧ (b.length == 0) = false ∧ a.length + 2 ≤ sizeLine ∧ rNewStrs (Txt.split a b) H2 Q) (g := fun y => oSpl z y) fun θ4 G4 y d4 p4 s4 hy => ?_) ρ M r' M' θ2 G2 σ H Q p2 s1 e rs rv kk
    unfold oSpl
    split
    · rename_i b
      have eb := hy.str_of
      subst eb
      split
      · rename_i hl
        intro ρ M r M' θ G σ H Q p s e rs rv kk
        unfold ret at e
        simp at e
        obtain ⟨e1, e2⟩ := e
        subst e1; subst e2
        refine ⟨z, b, rfl, rfl, hl.1, by rw [sizeLine_eq]; exact hl.2, fun a ha => ?_⟩
        have g := rs.fresh ha
        exact (kk θ (upd G a (.lst _)) _ (List.prefix_refl _) (same_upd g) (rs.laid ha _)).2 _ _ rfl (.dat (rp_lst upd_same (rpl_ofS _)))
      · exact Snd.stk
    · exact Snd.stk
  | _ => exact Snd.stk
/-! a part of a text -/
def oSlT (d : D) (lo hi : Option Int) : Ev D := match d with
  | .str z => if z.length ≤ tLim then ret (.str (cutS z lo hi)) else stk
  | _ => stk
theorem de_slT {p2 pos : Pos} {a : Expr} {f : Ev D} {lo hi : Option Expr} {gl gh : Ev (Option Int)} (ha : DE X W a f) (hl : DO X W lo gl) (hh : DO X W hi gh) : DE X W (.Subscript a (.Slice lo hi none p2) pos) (bnd f fun d => bnd gl fun l => bnd gh fun u => oSlT d l u) := by
  obtain ⟨t, q, s⟩ := ha
  obtain ⟨tl, pl, sl⟩ := hl
  obtain ⟨th, ph, sh⟩ := hh
  refine ⟨_, pe_slice sl_str q pl ph, fun θ G => ?_⟩
  refine (s θ G).bind (R2 := RV X.K) (k := fun (x : V) (σ : L2.St) (H1 : Hp) (Q : V → Hp → Prop) => tl σ H1 fun l H2 => th σ H2 fun u H3 => rSlS x l u H3 Q) fun θ1 G1 v d _ _ hv => ?_
  refine (sl θ1 G1).bind (R2 := RV X.K) (k := fun (l : Option Int) (σ : L2.St) (H2 : Hp) (Q : V → Hp → Prop) => th σ H2 fun u H3 => rSlS v l u H3 Q) fun θ2 G2 l l' p2 s2 hl => ?_
  cases hl
  refine (sh θ2 G2).bind (R2 := RV X.K) (k := fun (u : Option Int) (_ : L2.St) (H3 : Hp) (Q : V → Hp → Prop) => rSlS v l u H3 Q) fun θ3 G3 u u' p3 s3 hu => ?_
  cases hu
  unfold oSlT
  split
  · rename_i z
    have ev := hv.str_of
    subst ev
    split
    · rename_i hz
      intro ρ M r' M' θ4 G4 σ H Q p4 s4 e rs rv kk
      exact ⟨z, rfl, by rw [sizeLine_eq]; exact hz, Snd.ret (K := X.K) (W := W) (R := RV X.K) (θ0 := θ3) (G0 := G3) (d := .str (cutS z l u)) (fun _ _ _ _ => .dat (.str _)) ρ M r' M' θ4 G4 σ H Q p4 s4 e rs rv kk⟩
    · exact Snd.stk
  · exact Snd.stk
theorem oSlT_ap {z : Str} (h : z.length ≤ 16777216) (l u : Option Int) (ρ : Env) (M : Mem) : oSlT (.str z) l u ρ M = some (.ok (.str (cutS z l u)), M) := by
  unfold oSlT
  show (if z.length ≤ tLim then _ else _ : Ev D) ρ M = _
  rw [if_pos h]; rfl
end
end Bw
namespace Bw
open PySem PySem.Spec PyProof.Rows L2
def C_CHUNK : D := .int 1000000000000000000000000000000000000000000000000000000000000
def C_MOST_FIGURES : D := .int 400
def C_FIGURES : D := .str (Str.ofString "0123456789")
def C_NOUGHT : D := .tup [.int 0, .int 1]
noncomputable def den_number_text_L1 : Sv :=
  (sSeq (sAsg (bnd (dCons (dVar 0) (dCons (ret C_CHUNK) dNil)) oDvm) (gTp 2 (gCn (gNm 0) (gCn (gNm 2) gNl))))
  (sExpr (bnd (dVar 1) fun d => bnd (okPtr d) fun d => bnd (bnd (bnd (dCons (dVar 2) dNil) oStrI) fun d => bnd (okStr d) fun z => bnd (dCons (ret (.int 60)) dNil) fun ys => oZf z ys) fun y => oApp d y)))
noncomputable def den_number_text : Sv :=
  (sSeq (sAsg (bnd dNil oNew) (gNm 1))
  (sSeq (sWhile (bnd (bnd (dVar 0) fun d => bnd (ret C_CHUNK) fun e => oGe d e) asB) den_number_text_L1)
  (sRet (bnd (bnd (dCons (dVar 0) dNil) oStrI) fun d => bnd (bnd (ret (.str (Str.ofString ""))) fun d => bnd (okStr d) fun z => bnd (bnd (dVar 1) oRv) fun y => oJn z y) fun e => oAddS d e))))
noncomputable def F_number_text : Fd := runF 0 ["number", "chunks", "rest"] den_number_text
theorem hF_number_text : ∀ ds M r M', ds.length = 1 → F_number_text ds M = some (r, M') → M.length ≤ M'.length ∧ ∃ o M2, den_number_text (startD ["number", "chunks", "rest"] ds) M = some (o, M2) ∧ Exit o M2 r M' := runF_ok
theorem hX_number_text : ∀ ds M C M', F_number_text ds M ≠ some (.exc C, M') := runF_nx
noncomputable def den_fraction_text : Sv :=
  (sSeq (sAsg (dVar 0) (gTp 2 (gCn (gNm 3) (gCn (gNm 4) gNl))))
  (sSeq (sAsg (dIf (bnd (bnd (dVar 3) fun d => bnd (ret (.int 0)) fun e => oLt d e) asB) (ret (.str (Str.ofString "-"))) (ret (.str (Str.ofString "")))) (gNm 1))
  (sSeq (sAsg (dIf (bnd (bnd (dVar 4) fun d => bnd (ret (.int 1)) fun e => oEq d e) asB) (ret (.str (Str.ofString ""))) (bnd (ret (.str (Str.ofString "/"))) fun d => bnd (bnd (dCons (dVar 4) dNil) (oCall 1 F_number_text)) fun e => oAddS d e)) (gNm 2))
  (sRet (bnd (bnd (dVar 1) fun d => bnd (bnd (dCons (bnd (dCons (dVar 3) dNil) oAbs) dNil) (oCall 1 F_number_text)) fun e => oAddS d e) fun d => bnd (dVar 2) fun e => oAddS d e)))))
noncomputable def F_fraction_text : Fd := runF 0 ["one", "sign", "bottom", "a", "b"] den_fraction_text
theorem hF_fraction_text : ∀ ds M r M', ds.length = 1 → F_fraction_text ds M = some (r, M') → M.length ≤ M'.length ∧ ∃ o M2, den_fraction_text (startD ["one", "sign", "bottom", "a", "b"] ds) M = some (o, M2) ∧ Exit o M2 r M' := runF_ok
theorem hX_fraction_text : ∀ ds M C M', F_fraction_text ds M ≠ some (.exc C, M') := runF_nx
noncomputable def den_brine_text : Sv :=
  (sSeq (sAsg (bnd (bnd (dVar 0) oItS) (oLc (gTp 2 (gCn (gNm 2) (gCn (gNm 3) gNl))) (ret true) (bnd (bnd (bnd (dCons (dVar 2) dNil) (oCall 1 F_fraction_text)) fun d => bnd (ret (.str (Str.ofString ":"))) fun e => oAddS d e) fun d => bnd (bnd (dCons (dVar 3) dNil) (oCall 1 F_fraction_text)) fun e => oAddS d e) [2, 3])) (gNm 1))
  (sRet (dIf (bnd (dVar 1) asTru) (bnd (ret (.str (Str.ofString " "))) fun d => bnd (okStr d) fun z => bnd (dVar 1) fun y => oJn z y) (ret (.str (Str.ofString "none"))))))
noncomputable def F_brine_text : Fd := runF 0 ["brine", "words", "water", "salt"] den_brine_text
theorem hF_brine_text : ∀ ds M r M', ds.length = 1 → F_brine_text ds M = some (r, M') → M.length ≤ M'.length ∧ ∃ o M2, den_brine_text (startD ["brine", "words", "water", "salt"] ds) M = some (o, M2) ∧ Exit o M2 r M' := runF_ok
theorem hX_brine_text : ∀ ds M C M', F_brine_text ds M ≠ some (.exc C, M') := runF_nx
noncomputable def den_is_number : Sv :=
  (sSeq (sIf (dOr (dNot (bnd (dChain (ret (.int 1)) (bnd (dCons (dVar 0) dNil) oLenS) (ret C_MOST_FIGURES) oLe oLe) asB)) (dAnd (bnd (bnd (bnd (dVar 0) fun d => bnd (ret (.int 0)) fun e => oIxS d e) fun d => bnd (ret (.str (Str.ofString "0"))) fun e => oEqS d e) asB) (bnd (bnd (dVar 0) fun d => bnd (ret (.str (Str.ofString "0"))) fun e => oNeS d e) asB))) (sRet (ret (.bl false))) sNext)
  (sRet (bnd (dCons (bnd (bnd (dVar 0) oItC) (oLc (gNm 1) (ret true) (bnd (dVar 1) fun d => bnd (ret C_FIGURES) fun e => oInS d e) [1])) dNil) oAll)))
noncomputable def F_is_number : Fd := runF 0 ["word", "sign"] den_is_number
theorem hF_is_number : ∀ ds M r M', ds.length = 1 → F_is_number ds M = some (r, M') → M.length ≤ M'.length ∧ ∃ o M2, den_is_number (startD ["word", "sign"] ds) M = some (o, M2) ∧ Exit o M2 r M' := runF_ok
theorem hX_is_number : ∀ ds M C M', F_is_number ds M ≠ some (.exc C, M') := runF_nx
noncomputable def den_is_whole : Sv :=
  (sRet (dAndV (bnd (dVar 0) (oIsi (fun a => kitB a "int") (fun _ => none))) (dNotV (bnd (dVar 0) (oIsi (fun a => kitB a "bool") (fun _ => none))))))
noncomputable def F_is_whole : Fd := runF 0 ["thing"] den_is_whole
theorem hF_is_whole : ∀ ds M r M', ds.length = 1 → F_is_whole ds M = some (r, M') → M.length ≤ M'.length ∧ ∃ o M2, den_is_whole (startD ["thing"] ds) M = some (o, M2) ∧ Exit o M2 r M' := runF_ok
theorem hX_is_whole : ∀ ds M C M', F_is_whole ds M ≠ some (.exc C, M') := runF_nx
noncomputable def den_common_L1 : Sv :=
  (sPar 0 1 (dCons (dVar 1) (dCons (bnd (dVar 0) fun d => bnd (dVar 1) fun e => oMod d e) dNil)))
noncomputable def den_common : Sv :=
  (sSeq (sWhile (bnd (bnd (dVar 1) fun d => bnd (ret (.int 0)) fun e => oNe d e) asB) den_common_L1)
  (sRet (bnd (dCons (dVar 0) dNil) oAbs)))
noncomputable def F_common : Fd := runF 0 ["a", "b"] den_common
theorem hF_common : ∀ ds M r M', ds.length = 2 → F_common ds M = some (r, M') → M.length ≤ M'.length ∧ ∃ o M2, den_common (startD ["a", "b"] ds) M = some (o, M2) ∧ Exit o M2 r M' := runF_ok
theorem hX_common : ∀ ds M C M', F_common ds M ≠ some (.exc C, M') := runF_nx
noncomputable def den_is_fraction : Sv :=
  (sSeq (sIf (dOr (dNot (bnd (bnd (dVar 0) (oIsi (fun a => kitB a "tuple") (fun _ => none))) asB)) (bnd (bnd (bnd (dCons (dVar 0) dNil) oLen) fun d => bnd (ret (.int 2)) fun e => oNe d e) asB)) (sRet (ret (.bl false))) sNext)
  (sSeq (sAsg (dVar 0) (gTp 2 (gCn (gNm 1) (gCn (gNm 2) gNl))))
  (sRet (dAndV (bnd (dCons (dVar 1) dNil) (oCall 1 F_is_whole)) (dAndV (bnd (dCons (dVar 2) dNil) (oCall 1 F_is_whole)) (dAndV (bnd (dVar 2) fun d => bnd (ret (.int 0)) fun e => oGt d e) (bnd (bnd (dCons (dVar 1) (dCons (dVar 2) dNil)) (oCall 2 F_common)) fun d => bnd (ret (.int 1)) fun e => oEq d e)))))))
noncomputable def F_is_fraction : Fd := runF 0 ["thing", "a", "b"] den_is_fraction
theorem hF_is_fraction : ∀ ds M r M', ds.length = 1 → F_is_fraction ds M = some (r, M') → M.length ≤ M'.length ∧ ∃ o M2, den_is_fraction (startD ["thing", "a", "b"] ds) M = some (o, M2) ∧ Exit o M2 r M' := runF_ok
theorem hX_is_fraction : ∀ ds M C M', F_is_fraction ds M ≠ some (.exc C, M') := runF_nx
noncomputable def den_fraction_in : Sv :=
  (sSeq (sAsg (bnd (dVar 0) fun d => bnd (okStr d) fun z => bnd (ret (.str (Str.ofString "/"))) fun y => oPt z y) (gTp 3 (gCn (gNm 2) (gCn (gNm 3) (gCn (gNm 4) gNl)))))
  (sSeq (sIf (dOr (dNot (bnd (bnd (dCons (bnd (dVar 2) fun d => bnd (okStr d) fun z => bnd (dCons (ret (.str (Str.ofString "-"))) dNil) fun ys => oRmp z ys) dNil) (oCall 1 F_is_number)) asB)) (dAnd (bnd (dVar 3) asTruS) (dNot (bnd (bnd (dCons (dVar 4) dNil) (oCall 1 F_is_number)) asB)))) (sRet (ret .non)) sNext)
  (sSeq (sAsg (bnd (dCons (bnd (dCons (dVar 2) dNil) oIntS) (dCons (dIf (bnd (dVar 3) asTruS) (bnd (dCons (dVar 4) dNil) oIntS) (ret (.int 1))) dNil)) oTup) (gNm 1))
  (sRet (dIf (dAnd (bnd (bnd (dCons (dVar 1) dNil) (oCall 1 F_is_fraction)) asB) (bnd (bnd (bnd (dCons (dVar 1) dNil) (oCall 1 F_fraction_text)) fun d => bnd (dVar 0) fun e => oEqS d e) asB)) (dVar 1) (ret .non))))))
noncomputable def F_fraction_in : Fd := runF 0 ["word", "one", "top", "slash", "bottom"] den_fraction_in
theorem hF_fraction_in : ∀ ds M r M', ds.length = 1 → F_fraction_in ds M = some (r, M') → M.length ≤ M'.length ∧ ∃ o M2, den_fraction_in (startD ["word", "one", "top", "slash", "bottom"] ds) M = some (o, M2) ∧ Exit o M2 r M' := runF_ok
theorem hX_fraction_in : ∀ ds M C M', F_fraction_in ds M ≠ some (.exc C, M') := runF_nx
noncomputable def den_layer_in : Sv :=
  (sSeq (sAsg (bnd (dVar 0) fun d => bnd (okStr d) fun z => bnd (ret (.str (Str.ofString ":"))) fun y => oPt z y) (gTp 3 (gCn (gNm 1) (gCn (gNm 2) (gCn (gNm 3) gNl)))))
  (sRet (bnd (dCons (bnd (dCons (dVar 1) dNil) (oCall 1 F_fraction_in)) (dCons (bnd (dCons (dVar 3) dNil) (oCall 1 F_fraction_in)) dNil)) oTup)))
noncomputable def F_layer_in : Fd := runF 0 ["word", "water", "colon", "salt"] den_layer_in
theorem hF_layer_in : ∀ ds M r M', ds.length = 1 → F_layer_in ds M = some (r, M') → M.length ≤ M'.length ∧ ∃ o M2, den_layer_in (startD ["word", "water", "colon", "salt"] ds) M = some (o, M2) ∧ Exit o M2 r M' := runF_ok
theorem hX_layer_in : ∀ ds M C M', F_layer_in ds M ≠ some (.exc C, M') := runF_nx
noncomputable def den_is_less : Sv :=
  (sSeq (sAsg (dVar 0) (gTp 2 (gCn (gNm 2) (gCn (gNm 3) gNl))))
  (sSeq (sAsg (dVar 1) (gTp 2 (gCn (gNm 4) (gCn (gNm 5) gNl))))
  (sRet (bnd (bnd (dVar 2) fun d => bnd (dVar 5) fun e => oMul d e) fun d => bnd (bnd (dVar 4) fun d => bnd (dVar 3) fun e => oMul d e) fun e => oLt d e))))
noncomputable def F_is_less : Fd := runF 0 ["one", "other", "a", "b", "c", "d"] den_is_less
theorem hF_is_less : ∀ ds M r M', ds.length = 2 → F_is_less ds M = some (r, M') → M.length ≤ M'.length ∧ ∃ o M2, den_is_less (startD ["one", "other", "a", "b", "c", "d"] ds) M = some (o, M2) ∧ Exit o M2 r M' := runF_ok
theorem hX_is_less : ∀ ds M C M', F_is_less ds M ≠ some (.exc C, M') := runF_nx
noncomputable def den_times : Sv :=
  (sSeq (sAsg (dVar 0) (gTp 2 (gCn (gNm 4) (gCn (gNm 5) gNl))))
  (sSeq (sAsg (dVar 1) (gTp 2 (gCn (gNm 6) (gCn (gNm 7) gNl))))
  (sSeq (sAsg (bnd (dCons (dVar 4) (dCons (dVar 7) dNil)) (oCall 2 F_common)) (gNm 2))
  (sSeq (sAsg (bnd (dCons (dVar 6) (dCons (dVar 5) dNil)) (oCall 2 F_common)) (gNm 3))
  (sRet (bnd (dCons (bnd (bnd (dVar 4) fun d => bnd (dVar 2) fun e => oDiv d e) fun d => bnd (bnd (dVar 6) fun d => bnd (dVar 3) fun e => oDiv d e) fun e => oMul d e) (dCons (bnd (bnd (dVar 5) fun d => bnd (dVar 3) fun e => oDiv d e) fun d => bnd (bnd (dVar 7) fun d => bnd (dVar 2) fun e => oDiv d e) fun e => oMul d e) dNil)) oTup))))))
noncomputable def F_times : Fd := runF 0 ["one", "other", "left", "right", "a", "b", "c", "d"] den_times
theorem hF_times : ∀ ds M r M', ds.length = 2 → F_times ds M = some (r, M') → M.length ≤ M'.length ∧ ∃ o M2, den_times (startD ["one", "other", "left", "right", "a", "b", "c", "d"] ds) M = some (o, M2) ∧ Exit o M2 r M' := runF_ok
theorem hX_times : ∀ ds M C M', F_times ds M ≠ some (.exc C, M') := runF_nx
noncomputable def den_is_layer : Sv :=
  (sSeq (sIf (dOr (dNot (bnd (bnd (dVar 1) (oIsi (fun a => kitB a "tuple") (fun _ => none))) asB)) (bnd (bnd (bnd (dCons (dVar 1) dNil) oLen) fun d => bnd (ret (.int 2)) fun e => oNe d e) asB)) (sRet (ret (.bl false))) sNext)
  (sSeq (sAsg (dVar 1) (gTp 2 (gCn (gNm 2) (gCn (gNm 3) gNl))))
  (sSeq (sIf (dOr (dNot (bnd (bnd (dCons (dVar 2) dNil) (oCall 1 F_is_fraction)) asB)) (dNot (bnd (bnd (dCons (dVar 3) dNil) (oCall 1 F_is_fraction)) asB))) (sRet (ret (.bl false))) sNext)
  (sSeq (sIf (dOr (bnd (bnd (dCons (dVar 2) (dCons (ret C_NOUGHT) dNil)) (oCall 2 F_is_less)) asB) (bnd (bnd (dCons (dVar 3) (dCons (ret C_NOUGHT) dNil)) (oCall 2 F_is_less)) asB)) (sRet (ret (.bl false))) sNext)
  (sSeq (sIf (bnd (bnd (dVar 2) fun d => bnd (ret C_NOUGHT) fun e => oEq d e) asB) (sRet (bnd (dVar 3) fun d => bnd (ret C_NOUGHT) fun e => oNe d e)) sNext)
  (sRet (dNotV (bnd (dCons (bnd (dCons (dVar 0) (dCons (dVar 2) dNil)) (oCall 2 F_times)) (dCons (dVar 3) dNil)) (oCall 2 F_is_less)))))))))
noncomputable def F_is_layer : Fd := runF 0 ["full", "thing", "water", "salt"] den_is_layer
theorem hF_is_layer : ∀ ds M r M', ds.length = 2 → F_is_layer ds M = some (r, M') → M.length ≤ M'.length ∧ ∃ o M2, den_is_layer (startD ["full", "thing", "water", "salt"] ds) M = some (o, M2) ∧ Exit o M2 r M' := runF_ok
theorem hX_is_layer : ∀ ds M C M', F_is_layer ds M ≠ some (.exc C, M') := runF_nx
noncomputable def den_is_beneath : Sv :=
  (sRet (bnd (dCons (bnd (dCons (bnd (dVar 1) fun d => bnd (ret (.int 1)) fun e => oIx d e) (dCons (bnd (dVar 0) fun d => bnd (ret (.int 0)) fun e => oIx d e) dNil)) (oCall 2 F_times)) (dCons (bnd (dCons (bnd (dVar 0) fun d => bnd (ret (.int 1)) fun e => oIx d e) (dCons (bnd (dVar 1) fun d => bnd (ret (.int 0)) fun e => oIx d e) dNil)) (oCall 2 F_times)) dNil)) (oCall 2 F_is_less)))
noncomputable def F_is_beneath : Fd := runF 0 ["one", "other"] den_is_beneath
theorem hF_is_beneath : ∀ ds M r M', ds.length = 2 → F_is_beneath ds M = some (r, M') → M.length ≤ M'.length ∧ ∃ o M2, den_is_beneath (startD ["one", "other"] ds) M = some (o, M2) ∧ Exit o M2 r M' := runF_ok
theorem hX_is_beneath : ∀ ds M C M', F_is_beneath ds M ≠ some (.exc C, M') := runF_nx
noncomputable def den_read_brine_L1 : Sv :=
  (sSeq (sAsg (bnd (dCons (dVar 4) dNil) (oCall 1 F_layer_in)) (gNm 5))
  (sSeq (sIf (dOr (dNot (bnd (bnd (dCons (dVar 0) (dCons (dVar 5) dNil)) (oCall 2 F_is_layer)) asB)) (dAnd (bnd (dVar 2) asTru) (dNot (bnd (bnd (dCons (bnd (dVar 2) fun d => bnd (bnd (ret (.int 1)) oNeg) fun e => oIx d e) (dCons (dVar 5) dNil)) (oCall 2 F_is_beneath)) asB)))) sStk sNext)
  (sExpr (bnd (dVar 2) fun d => bnd (okPtr d) fun d => bnd (dVar 5) fun y => oApp d y))))
noncomputable def den_read_brine : Sv :=
  (sSeq (sIf (bnd (bnd (dVar 1) fun d => bnd (ret (.str (Str.ofString "none"))) fun e => oEqS d e) asB) (sRet (bnd dNil oTup)) sNext)
  (sSeq (sAsg (bnd dNil oNew) (gNm 2))
  (sSeq (sFor (bnd (dCons (bnd (dVar 1) fun d => bnd (okStr d) fun z => bnd (ret (.str (Str.ofString " "))) fun y => oSpl z y) dNil) oEnum) (gTp 2 (gCn (gNm 3) (gCn (gNm 4) gNl))) den_read_brine_L1)
  (sRet (bnd (dCons (dVar 2) dNil) oTupOf)))))
noncomputable def F_read_brine : Fd := runF 0 ["full", "text", "layers", "at", "word", "layer"] den_read_brine
theorem hF_read_brine : ∀ ds M r M', ds.length = 2 → F_read_brine ds M = some (r, M') → M.length ≤ M'.length ∧ ∃ o M2, den_read_brine (startD ["full", "text", "layers", "at", "word", "layer"] ds) M = some (o, M2) ∧ Exit o M2 r M' := runF_ok
theorem hX_read_brine : ∀ ds M C M', F_read_brine ds M ≠ some (.exc C, M') := runF_nx
noncomputable def den__law_new_bag : Sv :=
  (sSeq (sAsg (ret (.int 0)) (gNm 2))
  (sSeq (sIf (bnd (bnd (dVar 0) fun d => bnd (bnd (ret (.int 10)) fun d => bnd (ret (.int 18)) fun e => oPow d e) fun e => oGe d e) asB) (sAsg (bnd (dVar 0) fun d => bnd (bnd (ret (.int 10)) fun d => bnd (ret (.int 18)) fun e => oPow d e) fun e => oSub d e) (gNm 2)) sNext)
  (sRet (bnd (dCons (dVar 2) (dCons (bnd (bnd (dVar 0) fun d => bnd (ret (.int 2305843009213693951)) fun e => oMod d e) fun d => bnd (bnd (ret (.int 977)) fun d => bnd (dVar 1) fun e => oMul d e) fun e => oAdd d e) (dCons (ret (.int 0)) dNil))) oNew))))
noncomputable def F__law_new_bag : Fd := runF 1 ["cell", "at", "digits"] den__law_new_bag
theorem hF__law_new_bag : ∀ ds M r M', ds.length = 2 → F__law_new_bag ds M = some (r, M') → M.length ≤ M'.length ∧ ∃ o M2, den__law_new_bag (startD ["cell", "at", "digits"] ds) M = some (o, M2) ∧ Exit o M2 r M' := runF_ok
theorem hX__law_new_bag : ∀ ds M C M', F__law_new_bag ds M ≠ some (.exc C, M') := runF_nx
noncomputable def den__law_draw : Sv :=
  (sSeq (sIf (bnd (bnd (bnd (dVar 0) fun d => bnd (ret (.int 0)) fun e => oIx d e) fun d => bnd (ret (.int 0)) fun e => oGt d e) asB) (sSeq (sAsg (bnd (bnd (dVar 0) fun d => bnd (ret (.int 0)) fun e => oIx d e) fun d => bnd (dVar 1) fun e => oMod d e) (gNm 5))
  (sSeq (sStore (bnd (bnd (dVar 0) fun d => bnd (ret (.int 0)) fun e => oIx d e) fun d => bnd (dVar 1) fun e => oDiv d e) (dVar 0) (ret (.int 0)))
  (sRet (dVar 5)))) sNext)
  (sSeq (sStore (bnd (bnd (dVar 0) fun d => bnd (ret (.int 2)) fun e => oIx d e) fun d => bnd (ret (.int 1)) fun e => oAdd d e) (dVar 0) (ret (.int 2)))
  (sSeq (sAsg (bnd (dCons (ret (.int 2147483647)) (dCons (ret (.int 2147483629)) (dCons (ret (.int 2147483587)) (dCons (ret (.int 2147483579)) (dCons (ret (.int 2147483563)) (dCons (ret (.int 2147483549)) (dCons (ret (.int 2147483543)) dNil))))))) oLst) (gNm 2))
  (sSeq (sAsg (bnd (bnd (bnd (bnd (bnd (bnd (dVar 0) fun d => bnd (ret (.int 1)) fun e => oIx d e) fun d => bnd (bnd (dVar 2) fun d => bnd (bnd (bnd (dVar 0) fun d => bnd (ret (.int 2)) fun e => oIx d e) fun d => bnd (ret (.int 7)) fun e => oMod d e) fun e => oIx d e) fun e => oMod d e) fun d => bnd (bnd (bnd (ret (.int 2)) fun d => bnd (bnd (dVar 0) fun d => bnd (ret (.int 2)) fun e => oIx d e) fun e => oMul d e) fun d => bnd (ret (.int 1)) fun e => oAdd d e) fun e => oMul d e) fun d => bnd (bnd (ret (.int 7919)) fun d => bnd (bnd (dVar 0) fun d => bnd (ret (.int 2)) fun e => oIx d e) fun e => oMul d e) fun e => oAdd d e) fun d => bnd (ret (.int 3)) fun e => oPow d e) fun d => bnd (bnd (dVar 2) fun d => bnd (bnd (bnd (bnd (dVar 0) fun d => bnd (ret (.int 2)) fun e => oIx d e) fun d => bnd (ret (.int 3)) fun e => oAdd d e) fun d => bnd (ret (.int 7)) fun e => oMod d e) fun e => oIx d e) fun e => oMod d e) (gNm 3))
  (sSeq (sAsg (bnd (bnd (bnd (dVar 3) fun d => bnd (dVar 3) fun e => oMul d e) fun d => bnd (bnd (bnd (dVar 0) fun d => bnd (ret (.int 1)) fun e => oIx d e) fun d => bnd (ret (.int 998244353)) fun e => oMod d e) fun e => oAdd d e) fun d => bnd (bnd (ret (.int 104729)) fun d => bnd (bnd (dVar 0) fun d => bnd (ret (.int 2)) fun e => oIx d e) fun e => oMul d e) fun e => oAdd d e) (gNm 4))
  (sRet (bnd (bnd (bnd (bnd (dVar 4) fun d => bnd (ret (.int 5)) fun e => oPow d e) fun d => bnd (bnd (dVar 2) fun d => bnd (bnd (bnd (bnd (dVar 0) fun d => bnd (ret (.int 2)) fun e => oIx d e) fun d => bnd (ret (.int 5)) fun e => oAdd d e) fun d => bnd (ret (.int 7)) fun e => oMod d e) fun e => oIx d e) fun e => oMod d e) fun d => bnd (ret (.int 16)) fun e => oDiv d e) fun d => bnd (dVar 1) fun e => oMod d e)))))))
noncomputable def F__law_draw : Fd := runF 0 ["bag", "many", "primes", "one", "two", "digit"] den__law_draw
theorem hF__law_draw : ∀ ds M r M', ds.length = 2 → F__law_draw ds M = some (r, M') → M.length ≤ M'.length ∧ ∃ o M2, den__law_draw (startD ["bag", "many", "primes", "one", "two", "digit"] ds) M = some (o, M2) ∧ Exit o M2 r M' := runF_ok
theorem hX__law_draw : ∀ ds M C M', F__law_draw ds M ≠ some (.exc C, M') := runF_nx
noncomputable def den__law_divisor_L1 : Sv :=
  (sSeq (sIf (bnd (bnd (dVar 1) fun d => bnd (ret (.int 0)) fun e => oEq d e) asB) (sRet (dVar 0)) sNext)
  (sPar 0 1 (dCons (dVar 1) (dCons (bnd (dVar 0) fun d => bnd (dVar 1) fun e => oMod d e) dNil))))
noncomputable def den__law_divisor : Sv :=
  (sSeq (sFor (bnd (dCons (ret (.int 2000)) dNil) oRng1) (gNm 2) den__law_divisor_L1)
  (sRet (dVar 0)))
noncomputable def F__law_divisor : Fd := runF 0 ["one", "other", "turn"] den__law_divisor
theorem hF__law_divisor : ∀ ds M r M', ds.length = 2 → F__law_divisor ds M = some (r, M') → M.length ≤ M'.length ∧ ∃ o M2, den__law_divisor (startD ["one", "other", "turn"] ds) M = some (o, M2) ∧ Exit o M2 r M' := runF_ok
theorem hX__law_divisor : ∀ ds M C M', F__law_divisor ds M ≠ some (.exc C, M') := runF_nx
noncomputable def den__law_made : Sv :=
  (sSeq (sAsg (bnd (dCons (bnd (dCons (dVar 0) (dCons (bnd (ret (.int 0)) fun d => bnd (dVar 0) fun e => oSub d e) dNil)) oMax) (dCons (dVar 1) dNil)) (oCall 2 F__law_divisor)) (gNm 2))
  (sRet (bnd (dCons (bnd (dVar 0) fun d => bnd (dVar 2) fun e => oDiv d e) (dCons (bnd (dVar 1) fun d => bnd (dVar 2) fun e => oDiv d e) dNil)) oTup)))
noncomputable def F__law_made : Fd := runF 0 ["above", "below", "common_v"] den__law_made
theorem hF__law_made : ∀ ds M r M', ds.length = 2 → F__law_made ds M = some (r, M') → M.length ≤ M'.length ∧ ∃ o M2, den__law_made (startD ["above", "below", "common_v"] ds) M = some (o, M2) ∧ Exit o M2 r M' := runF_ok
theorem hX__law_made : ∀ ds M C M', F__law_made ds M ≠ some (.exc C, M') := runF_nx
noncomputable def den__law_a_full : Sv :=
  (sSeq (sIf (bnd (bnd (bnd (dCons (dVar 0) (dCons (ret (.int 6)) dNil)) (oCall 2 F__law_draw)) fun d => bnd (ret (.int 0)) fun e => oEq d e) asB) (sRet (bnd (dCons (bnd (bnd (dCons (ret (.int 7)) (dCons (ret (.int 101)) (dCons (ret (.int 499)) (dCons (ret (.int 997)) dNil)))) oLst) fun d => bnd (bnd (dCons (dVar 0) (dCons (ret (.int 4)) dNil)) (oCall 2 F__law_draw)) fun e => oIx d e) (dCons (bnd (bnd (dCons (ret (.int 11)) (dCons (ret (.int 89)) (dCons (ret (.int 503)) (dCons (ret (.int 991)) dNil)))) oLst) fun d => bnd (bnd (dCons (dVar 0) (dCons (ret (.int 4)) dNil)) (oCall 2 F__law_draw)) fun e => oIx d e) dNil)) oTup)) sNext)
  (sRet (bnd (dCons (bnd (ret (.int 1)) fun d => bnd (bnd (dCons (dVar 0) (dCons (ret (.int 9)) dNil)) (oCall 2 F__law_draw)) fun e => oAdd d e) (dCons (bnd (ret (.int 1)) fun d => bnd (bnd (dCons (dVar 0) (dCons (ret (.int 4)) dNil)) (oCall 2 F__law_draw)) fun e => oAdd d e) dNil)) (oCall 2 F__law_made))))
noncomputable def F__law_a_full : Fd := runF 0 ["bag"] den__law_a_full
theorem hF__law_a_full : ∀ ds M r M', ds.length = 1 → F__law_a_full ds M = some (r, M') → M.length ≤ M'.length ∧ ∃ o M2, den__law_a_full (startD ["bag"] ds) M = some (o, M2) ∧ Exit o M2 r M' := runF_ok
theorem hX__law_a_full : ∀ ds M C M', F__law_a_full ds M ≠ some (.exc C, M') := runF_nx
noncomputable def den__law_a_positive : Sv :=
  (sSeq (sAsg (bnd (bnd (dCons (ret (.int 1)) (dCons (ret (.int 1)) (dCons (ret (.int 2)) (dCons (ret (.int 3)) (dCons (ret (.int 4)) (dCons (ret (.int 6)) (dCons (ret (.int 12)) (dCons (ret (.int 5)) (dCons (ret (.int 7)) dNil))))))))) oLst) fun d => bnd (bnd (dCons (dVar 0) (dCons (ret (.int 9)) dNil)) (oCall 2 F__law_draw)) fun e => oIx d e) (gNm 1))
  (sRet (bnd (dCons (bnd (ret (.int 1)) fun d => bnd (bnd (dCons (dVar 0) (dCons (ret (.int 18)) dNil)) (oCall 2 F__law_draw)) fun e => oAdd d e) (dCons (dVar 1) dNil)) (oCall 2 F__law_made))))
noncomputable def F__law_a_positive : Fd := runF 0 ["bag", "below"] den__law_a_positive
theorem hF__law_a_positive : ∀ ds M r M', ds.length = 1 → F__law_a_positive ds M = some (r, M') → M.length ≤ M'.length ∧ ∃ o M2, den__law_a_positive (startD ["bag", "below"] ds) M = some (o, M2) ∧ Exit o M2 r M' := runF_ok
theorem hX__law_a_positive : ∀ ds M C M', F__law_a_positive ds M ≠ some (.exc C, M') := runF_nx
noncomputable def den__law_some_water : Sv :=
  (sSeq (sIf (bnd (bnd (bnd (dVar 1) fun d => bnd (ret (.int 1)) fun e => oIx d e) fun d => bnd (ret (.int 9)) fun e => oGt d e) asB) (sRet (bnd (dCons (bnd (bnd (ret (.int 12)) fun d => bnd (bnd (dVar 1) fun d => bnd (ret (.int 1)) fun e => oIx d e) fun e => oMul d e) fun d => bnd (bnd (ret (.int 1)) fun d => bnd (bnd (dCons (dVar 0) (dCons (dVar 2) dNil)) (oCall 2 F__law_draw)) fun e => oAdd d e) fun e => oMul d e) (dCons (ret (.int 1)) dNil)) oTup)) sNext)
  (sRet (bnd (dCons (dVar 0) dNil) (oCall 1 F__law_a_positive))))
noncomputable def F__law_some_water : Fd := runF 0 ["bag", "full", "most"] den__law_some_water
theorem hF__law_some_water : ∀ ds M r M', ds.length = 3 → F__law_some_water ds M = some (r, M') → M.length ≤ M'.length ∧ ∃ o M2, den__law_some_water (startD ["bag", "full", "most"] ds) M = some (o, M2) ∧ Exit o M2 r M' := runF_ok
theorem hX__law_some_water : ∀ ds M C M', F__law_some_water ds M ≠ some (.exc C, M') := runF_nx
noncomputable def den__law_times : Sv :=
  (sRet (bnd (dCons (bnd (bnd (dVar 0) fun d => bnd (ret (.int 0)) fun e => oIx d e) fun d => bnd (bnd (dVar 1) fun d => bnd (ret (.int 0)) fun e => oIx d e) fun e => oMul d e) (dCons (bnd (bnd (dVar 0) fun d => bnd (ret (.int 1)) fun e => oIx d e) fun d => bnd (bnd (dVar 1) fun d => bnd (ret (.int 1)) fun e => oIx d e) fun e => oMul d e) dNil)) (oCall 2 F__law_made)))
noncomputable def F__law_times : Fd := runF 0 ["one", "other"] den__law_times
theorem hF__law_times : ∀ ds M r M', ds.length = 2 → F__law_times ds M = some (r, M') → M.length ≤ M'.length ∧ ∃ o M2, den__law_times (startD ["one", "other"] ds) M = some (o, M2) ∧ Exit o M2 r M' := runF_ok
theorem hX__law_times : ∀ ds M C M', F__law_times ds M ≠ some (.exc C, M') := runF_nx
noncomputable def den__law_a_brine_L1 : Sv :=
  (sIf (bnd (bnd (bnd (dCons (dVar 0) (dCons (ret (.int 3)) dNil)) (oCall 2 F__law_draw)) fun d => bnd (ret (.int 0)) fun e => oEq d e) asB) (sSeq (sAsg (bnd (dCons (dVar 0) (dCons (dVar 1) (dCons (ret (.int 20)) dNil))) (oCall 3 F__law_some_water)) (gNm 6))
  (sExpr (bnd (dVar 4) fun d => bnd (okPtr d) fun d => bnd (bnd (dCons (dVar 6) (dCons (bnd (dCons (bnd (dCons (dVar 1) (dCons (dVar 5) dNil)) (oCall 2 F__law_times)) (dCons (dVar 6) dNil)) (oCall 2 F__law_times)) dNil)) oTup) fun y => oApp d y))) sNext)
noncomputable def den__law_a_brine : Sv :=
  (sSeq (sAsg (bnd (dCons (bnd (dCons (ret (.int 1)) (dCons (ret (.int 1)) dNil)) oTup) (dCons (bnd (dCons (ret (.int 11)) (dCons (ret (.int 12)) dNil)) oTup) (dCons (bnd (dCons (ret (.int 3)) (dCons (ret (.int 4)) dNil)) oTup) (dCons (bnd (dCons (ret (.int 2)) (dCons (ret (.int 3)) dNil)) oTup) (dCons (bnd (dCons (ret (.int 1)) (dCons (ret (.int 2)) dNil)) oTup) (dCons (bnd (dCons (ret (.int 1)) (dCons (ret (.int 3)) dNil)) oTup) (dCons (bnd (dCons (ret (.int 1)) (dCons (ret (.int 4)) dNil)) oTup) (dCons (bnd (dCons (ret (.int 1)) (dCons (ret (.int 12)) dNil)) oTup) dNil)))))))) oLst) (gNm 3))
  (sSeq (sAsg (bnd dNil oNew) (gNm 4))
  (sSeq (sIf (bnd (bnd (bnd (dCons (dVar 0) (dCons (ret (.int 3)) dNil)) (oCall 2 F__law_draw)) fun d => bnd (ret (.int 0)) fun e => oEq d e) asB) (sExpr (bnd (dVar 4) fun d => bnd (okPtr d) fun d => bnd (bnd (dCons (bnd (dCons (ret (.int 0)) (dCons (ret (.int 1)) dNil)) oTup) (dCons (bnd (dCons (dVar 0) dNil) (oCall 1 F__law_a_positive)) dNil)) oTup) fun y => oApp d y)) sNext)
  (sSeq (sFor (bnd (bnd (dVar 3) fun d => bnd (ret none) fun l => bnd (bnd (dVar 2) asI) fun u => oSl d l u) oItS) (gNm 5) den__law_a_brine_L1)
  (sSeq (sIf (bnd (bnd (bnd (dCons (dVar 0) (dCons (ret (.int 4)) dNil)) (oCall 2 F__law_draw)) fun d => bnd (ret (.int 0)) fun e => oEq d e) asB) (sExpr (bnd (dVar 4) fun d => bnd (okPtr d) fun d => bnd (bnd (dCons (bnd (dCons (dVar 0) dNil) (oCall 1 F__law_a_positive)) (dCons (bnd (dCons (ret (.int 0)) (dCons (ret (.int 1)) dNil)) oTup) dNil)) oTup) fun y => oApp d y)) sNext)
  (sRet (bnd (dCons (dVar 4) dNil) oTupOf)))))))
noncomputable def F__law_a_brine : Fd := runF 0 ["bag", "full", "most", "shares", "found", "share", "water"] den__law_a_brine
theorem hF__law_a_brine : ∀ ds M r M', ds.length = 3 → F__law_a_brine ds M = some (r, M') → M.length ≤ M'.length ∧ ∃ o M2, den__law_a_brine (startD ["bag", "full", "most", "shares", "found", "share", "water"] ds) M = some (o, M2) ∧ Exit o M2 r M' := runF_ok
theorem hX__law_a_brine : ∀ ds M C M', F__law_a_brine ds M ≠ some (.exc C, M') := runF_nx
noncomputable def den__law_long_brine_L1 : Sv :=
  (sSeq (sAsg (bnd (dCons (bnd (ret (.int 1)) fun d => bnd (bnd (dVar 3) fun d => bnd (ret (.int 7)) fun e => oMod d e) fun e => oAdd d e) (dCons (ret (.int 1)) dNil)) oTup) (gNm 4))
  (sExpr (bnd (dVar 2) fun d => bnd (okPtr d) fun d => bnd (bnd (dCons (bnd (bnd (dVar 3) fun d => bnd (ret (.int 100)) fun e => oMul d e) fun d => bnd (ret (.int 397)) fun e => oMod d e) (dCons (dVar 4) (dCons (bnd (dCons (bnd (bnd (bnd (dVar 1) fun d => bnd (ret (.int 0)) fun e => oIx d e) fun d => bnd (bnd (dVar 4) fun d => bnd (ret (.int 0)) fun e => oIx d e) fun e => oMul d e) fun d => bnd (bnd (bnd (dVar 3) fun d => bnd (ret (.int 100)) fun e => oMul d e) fun d => bnd (ret (.int 397)) fun e => oMod d e) fun e => oMul d e) (dCons (ret (.int 397)) dNil)) (oCall 2 F__law_made)) dNil))) oTup) fun y => oApp d y)))
noncomputable def den__law_long_brine : Sv :=
  (sSeq (sAsg (bnd (dCons (bnd (ret (.int 1)) fun d => bnd (bnd (dCons (dVar 0) (dCons (ret (.int 9)) dNil)) (oCall 2 F__law_draw)) fun e => oAdd d e) (dCons (ret (.int 1)) dNil)) oTup) (gNm 1))
  (sSeq (sAsg (bnd dNil oNew) (gNm 2))
  (sSeq (sFor (bnd (dCons (ret (.int 1)) (dCons (ret (.int 31)) dNil)) oRng2) (gNm 3) den__law_long_brine_L1)
  (sRet (bnd (dCons (dVar 1) (dCons (bnd (dCons (bnd (bnd (bnd (bnd (dCons (dVar 2) dNil) oSrt3) oRv) oItS) (oLc (gTp 3 (gCn (gNm 5) (gCn (gNm 4) (gCn (gNm 6) gNl)))) (ret true) (bnd (dCons (dVar 4) (dCons (dVar 6) dNil)) oTup) [5, 4, 6])) dNil) oTupOf) dNil)) oTup)))))
noncomputable def F__law_long_brine : Fd := runF 0 ["bag", "full", "some", "k", "water", "share", "salt"] den__law_long_brine
theorem hF__law_long_brine : ∀ ds M r M', ds.length = 1 → F__law_long_brine ds M = some (r, M') → M.length ≤ M'.length ∧ ∃ o M2, den__law_long_brine (startD ["bag", "full", "some", "k", "water", "share", "salt"] ds) M = some (o, M2) ∧ Exit o M2 r M' := runF_ok
theorem hX__law_long_brine : ∀ ds M C M', F__law_long_brine ds M ≠ some (.exc C, M') := runF_nx
noncomputable def den__law_written : Sv :=
  (sRet (bnd (bnd (bnd (dVar 0) fun d => bnd (ret (.int 0)) fun e => oIx d e) fun d => oStrI [d]) fun d => bnd (bnd (bnd (dCons (bnd (ret (.str (Str.ofString "/"))) fun d => bnd (bnd (bnd (dVar 0) fun d => bnd (ret (.int 1)) fun e => oIx d e) fun d => oStrI [d]) fun e => oAddS d e) (dCons (ret (.str (Str.ofString ""))) dNil)) oLst) fun d => bnd (bnd (dCons (bnd (bnd (dVar 0) fun d => bnd (ret (.int 1)) fun e => oIx d e) fun d => bnd (ret (.int 1)) fun e => oEq d e) dNil) oToInt) fun e => oIx d e) fun e => oAddS d e))
noncomputable def F__law_written : Fd := runF 0 ["one"] den__law_written
theorem hF__law_written : ∀ ds M r M', ds.length = 1 → F__law_written ds M = some (r, M') → M.length ≤ M'.length ∧ ∃ o M2, den__law_written (startD ["one"] ds) M = some (o, M2) ∧ Exit o M2 r M' := runF_ok
theorem hX__law_written : ∀ ds M C M', F__law_written ds M ≠ some (.exc C, M') := runF_nx
noncomputable def den__law_a_text_L1 : Sv :=
  (sAsg (bnd (bnd (bnd (bnd (dVar 1) fun d => bnd (ret (.str (Str.ofString " "))) fun e => oAddS d e) fun d => bnd (bnd (dCons (dVar 2) dNil) (oCall 1 F__law_written)) fun e => oAddS d e) fun d => bnd (ret (.str (Str.ofString ":"))) fun e => oAddS d e) fun d => bnd (bnd (dCons (dVar 3) dNil) (oCall 1 F__law_written)) fun e => oAddS d e) (gNm 1))
noncomputable def den__law_a_text : Sv :=
  (sSeq (sAsg (ret (.str (Str.ofString ""))) (gNm 1))
  (sSeq (sFor (bnd (dVar 0) oItS) (gTp 2 (gCn (gNm 2) (gCn (gNm 3) gNl))) den__law_a_text_L1)
  (sRet (dIf (bnd (bnd (dVar 0) fun d => bnd (bnd dNil oTup) fun e => oNe d e) asB) (bnd (dVar 1) fun d => bnd (bnd (ret (.int 1)) asI) fun l => bnd (ret none) fun u => oSlT d l u) (ret (.str (Str.ofString "none")))))))
noncomputable def F__law_a_text : Fd := runF 0 ["brine", "found", "water", "salt"] den__law_a_text
theorem hF__law_a_text : ∀ ds M r M', ds.length = 1 → F__law_a_text ds M = some (r, M') → M.length ≤ M'.length ∧ ∃ o M2, den__law_a_text (startD ["brine", "found", "water", "salt"] ds) M = some (o, M2) ∧ Exit o M2 r M' := runF_ok
theorem hX__law_a_text : ∀ ds M C M', F__law_a_text ds M ≠ some (.exc C, M') := runF_nx
noncomputable def den__law_same (FR : Fd) : Sv :=
  (sSeq (sIf (bnd (bnd (dVar 1) (oIsi (fun a => kitB a "tuple") (fun _ => none))) asB) (sSeq (sIf (dOr (dNot (bnd (bnd (dVar 0) (oIsi (fun a => kitB a "tuple") (fun _ => none))) asB)) (bnd (bnd (bnd (dCons (dVar 0) dNil) oLen) fun d => bnd (bnd (dCons (dVar 1) dNil) oLen) fun e => oNe d e) asB)) (sRet (ret (.bl false))) sNext)
  (sRet (bnd (ret (.bl false)) fun d => bnd (bnd (bnd (dCons (dVar 0) (dCons (dVar 1) dNil)) oZip) (oLc (gTp 2 (gCn (gNm 2) (gCn (gNm 3) gNl))) (ret true) (bnd (dCons (dVar 2) (dCons (dVar 3) dNil)) (oCall 2 FR)) [2, 3])) fun e => oInD true d e))) sNext)
  (sRet (dAndV (bnd (dVar 0) (oIsi (fun a => kitB a "int") (fun _ => none))) (dAndV (dNotV (bnd (dVar 0) (oIsi (fun a => kitB a "bool") (fun _ => none)))) (bnd (dVar 0) fun d => bnd (dVar 1) fun e => oEq d e)))))
noncomputable def Fn__law_same : Nat → Fd
  | 0 => fun _ _ => none
  | n + 1 => runF 0 ["found", "due", "one", "other"] (den__law_same (Fn__law_same n))
noncomputable def F__law_same : Fd := Fn__law_same 12
noncomputable def den__law_figures_L1 : Sv :=
  (sAsg (bnd (bnd (ret (.int 10)) fun d => bnd (dVar 3) fun e => oMul d e) fun d => bnd (bnd (bnd (bnd (bnd (dVar 2) fun d => bnd (dVar 4) fun e => oMul d e) fun d => bnd (bnd (dVar 4) fun d => bnd (ret (.int 7)) fun e => oDiv d e) fun e => oAdd d e) fun d => bnd (dVar 2) fun e => oAdd d e) fun d => bnd (ret (.int 10)) fun e => oMod d e) fun e => oAdd d e) (gNm 3))
noncomputable def den__law_figures : Sv :=
  (sSeq (sAsg (bnd (ret (.int 1)) fun d => bnd (bnd (dCons (dVar 0) (dCons (ret (.int 9)) dNil)) (oCall 2 F__law_draw)) fun e => oAdd d e) (gNm 2))
  (sSeq (sAsg (bnd (ret (.int 1)) fun d => bnd (bnd (dCons (dVar 0) (dCons (ret (.int 9)) dNil)) (oCall 2 F__law_draw)) fun e => oAdd d e) (gNm 3))
  (sSeq (sFor (bnd (dCons (bnd (dVar 1) fun d => bnd (ret (.int 1)) fun e => oSub d e) dNil) oRng1) (gNm 4) den__law_figures_L1)
  (sRet (dVar 3)))))
noncomputable def F__law_figures : Fd := runF 0 ["bag", "many", "step", "number", "turn"] den__law_figures
theorem hF__law_figures : ∀ ds M r M', ds.length = 2 → F__law_figures ds M = some (r, M') → M.length ≤ M'.length ∧ ∃ o M2, den__law_figures (startD ["bag", "many", "step", "number", "turn"] ds) M = some (o, M2) ∧ Exit o M2 r M' := runF_ok
theorem hX__law_figures : ∀ ds M C M', F__law_figures ds M ≠ some (.exc C, M') := runF_nx
noncomputable def den__law_long_text_L1 : Sv :=
  (sSeq (sAsg (bnd (dCons (bnd (dCons (dVar 0) (dCons (dVar 2) dNil)) (oCall 2 F__law_figures)) (dCons (bnd (dCons (dVar 0) (dCons (dVar 2) dNil)) (oCall 2 F__law_figures)) dNil)) (oCall 2 F__law_made)) (gNm 5))
  (sExpr (bnd (dVar 3) fun d => bnd (okPtr d) fun d => bnd (bnd (dCons (dVar 5) (dCons (bnd (dCons (bnd (dCons (dVar 1) (dCons (dVar 4) dNil)) (oCall 2 F__law_times)) (dCons (dVar 5) dNil)) (oCall 2 F__law_times)) dNil)) oTup) fun y => oApp d y)))
noncomputable def den__law_long_text : Sv :=
  (sSeq (sAsg (bnd (bnd (dCons (bnd (ret (.int 12)) fun d => bnd (bnd (dCons (dVar 0) (dCons (ret (.int 30)) dNil)) (oCall 2 F__law_draw)) fun e => oAdd d e) (dCons (ret (.int 380)) dNil)) oLst) fun d => bnd (bnd (dCons (dVar 0) (dCons (ret (.int 2)) dNil)) (oCall 2 F__law_draw)) fun e => oIx d e) (gNm 2))
  (sSeq (sAsg (bnd dNil oNew) (gNm 3))
  (sSeq (sFor (bnd (bnd (dCons (bnd (dCons (ret (.int 1)) (dCons (ret (.int 1)) dNil)) oTup) (dCons (bnd (dCons (ret (.int 1)) (dCons (ret (.int 2)) dNil)) oTup) dNil)) oLst) oItL) (gNm 4) den__law_long_text_L1)
  (sRet (bnd (dCons (bnd (dCons (dVar 3) dNil) oTupOf) dNil) (oCall 1 F__law_a_text))))))
noncomputable def F__law_long_text : Fd := runF 0 ["bag", "full", "many", "some", "share", "water"] den__law_long_text
theorem hF__law_long_text : ∀ ds M r M', ds.length = 2 → F__law_long_text ds M = some (r, M') → M.length ≤ M'.length ∧ ∃ o M2, den__law_long_text (startD ["bag", "full", "many", "some", "share", "water"] ds) M = some (o, M2) ∧ Exit o M2 r M' := runF_ok
theorem hX__law_long_text : ∀ ds M C M', F__law_long_text ds M ≠ some (.exc C, M') := runF_nx
noncomputable def den_law_L1 : Sv :=
  (sIf (dOr (bnd (bnd (bnd (dCons (dVar 5) dNil) (oCall 1 F_brine_text)) fun d => bnd (dVar 6) fun e => oNeS d e) asB) (dNot (bnd (bnd (dCons (bnd (dCons (dVar 4) (dCons (dVar 6) dNil)) (oCall 2 F_read_brine)) (dCons (dVar 5) dNil)) (oCall 2 F__law_same)) asB))) (sRet (ret (.bl false))) sNext)
noncomputable def den_law_L2 : Sv :=
  (sSeq (sAsg (bnd (dCons (dVar 2) (dCons (dVar 1) dNil)) (oCall 2 F__law_new_bag)) (gNm 3))
  (sSeq (sAsg (bnd (dCons (dVar 3) dNil) (oCall 1 F__law_a_full)) (gNm 4))
  (sSeq (sAsg (bnd (dCons (dVar 3) (dCons (dVar 4) (dCons (ret (.int 8)) dNil))) (oCall 3 F__law_a_brine)) (gNm 5))
  (sSeq (sIf (bnd (bnd (bnd (dCons (dVar 3) (dCons (ret (.int 12)) dNil)) (oCall 2 F__law_draw)) fun d => bnd (ret (.int 0)) fun e => oEq d e) asB) (sAsg (bnd (dCons (dVar 3) dNil) (oCall 1 F__law_long_brine)) (gTp 2 (gCn (gNm 4) (gCn (gNm 5) gNl)))) sNext)
  (sSeq (sAsg (bnd (dCons (dVar 5) dNil) (oCall 1 F__law_a_text)) (gNm 6))
  (sSeq (sFor (bnd (dCons (ret (.int 2)) dNil) oRng1) (gNm 7) den_law_L1)
  (sIf (bnd (bnd (dVar 1) fun d => bnd (ret (.int 6)) fun e => oLt d e) asB) (sSeq (sAsg (bnd (dCons (dVar 3) (dCons (dVar 4) dNil)) (oCall 2 F__law_long_text)) (gNm 6))
  (sIf (bnd (bnd (bnd (dCons (bnd (dCons (dVar 4) (dCons (dVar 6) dNil)) (oCall 2 F_read_brine)) dNil) (oCall 1 F_brine_text)) fun d => bnd (dVar 6) fun e => oNeS d e) asB) (sRet (ret (.bl false))) sNext)) sNext)))))))
noncomputable def den_law : Sv :=
  (sSeq (sFor (bnd (dCons (bnd (bnd (dVar 0) fun d => bnd (ret none) fun l => bnd (bnd (ret (.int 63)) asI) fun u => oSl d l u) fun d => bnd (bnd (dCons (bnd (dCons (dVar 0) dNil) oLen) dNil) oLst) fun e => oAdd d e) dNil) oEnum) (gTp 2 (gCn (gNm 1) (gCn (gNm 2) gNl))) den_law_L2)
  (sRet (dAndV (bnd (bnd (dCons (bnd (dCons (ret (.int 1)) (dCons (ret (.int 1)) dNil)) oTup) (dCons (ret (.str (Str.ofString "none"))) dNil)) (oCall 2 F_read_brine)) fun d => bnd (bnd dNil oTup) fun e => oEq d e) (bnd (bnd (dCons (bnd dNil oTup) dNil) (oCall 1 F_brine_text)) fun d => bnd (ret (.str (Str.ofString "none"))) fun e => oEqS d e))))
noncomputable def F_law : Fd := runF 0 ["script", "at", "cell", "bag", "full", "brine", "text", "again"] den_law
theorem hF_law : ∀ ds M r M', ds.length = 1 → F_law ds M = some (r, M') → M.length ≤ M'.length ∧ ∃ o M2, den_law (startD ["script", "at", "cell", "bag", "full", "brine", "text", "again"] ds) M = some (o, M2) ∧ Exit o M2 r M' := runF_ok
theorem hX_law : ∀ ds M C M', F_law ds M ≠ some (.exc C, M') := runF_nx
def topS (i : Nat) : Stmt := PySem.Challenge.pw_brineways_k83_brines_written.main.body.getD i (.Pass ⟨0, 0, 0, 0⟩)
abbrev s__law_new_bag : Stmt := topS 25
abbrev N__law_new_bag : List Str := ["cell", "at", "digits"]
theorem S__law_new_bag : FnScope N__law_new_bag ["cell", "at"] (defScope s__law_new_bag) := ⟨rfl, rfl, rfl, by decide +kernel, rfl, by decide +kernel, by decide +kernel⟩
abbrev s__law_draw : Stmt := topS 26
abbrev N__law_draw : List Str := ["bag", "many", "primes", "one", "two", "digit"]
theorem S__law_draw : FnScope N__law_draw ["bag", "many"] (defScope s__law_draw) := ⟨rfl, rfl, rfl, by decide +kernel, rfl, by decide +kernel, by decide +kernel⟩
abbrev s__law_divisor : Stmt := topS 28
abbrev N__law_divisor : List Str := ["one", "other", "turn"]
theorem S__law_divisor : FnScope N__law_divisor ["one", "other"] (defScope s__law_divisor) := ⟨rfl, rfl, rfl, by decide +kernel, rfl, by decide +kernel, by decide +kernel⟩
abbrev s__law_made : Stmt := topS 29
abbrev N__law_made : List Str := ["above", "below", "common_v"]
theorem S__law_made : FnScope N__law_made ["above", "below"] (defScope s__law_made) := ⟨rfl, rfl, rfl, by decide +kernel, rfl, by decide +kernel, by decide +kernel⟩
abbrev s__law_a_full : Stmt := topS 34
abbrev N__law_a_full : List Str := ["bag"]
theorem S__law_a_full : FnScope N__law_a_full ["bag"] (defScope s__law_a_full) := ⟨rfl, rfl, rfl, by decide +kernel, rfl, by decide +kernel, by decide +kernel⟩
abbrev s__law_a_positive : Stmt := topS 31
abbrev N__law_a_positive : List Str := ["bag", "below"]
theorem S__law_a_positive : FnScope N__law_a_positive ["bag"] (defScope s__law_a_positive) := ⟨rfl, rfl, rfl, by decide +kernel, rfl, by decide +kernel, by decide +kernel⟩
abbrev s__law_some_water : Stmt := topS 35
abbrev N__law_some_water : List Str := ["bag", "full", "most"]
theorem S__law_some_water : FnScope N__law_some_water ["bag", "full", "most"] (defScope s__law_some_water) := ⟨rfl, rfl, rfl, by decide +kernel, rfl, by decide +kernel, by decide +kernel⟩
abbrev s__law_times : Stmt := topS 32
abbrev N__law_times : List Str := ["one", "other"]
theorem S__law_times : FnScope N__law_times ["one", "other"] (defScope s__law_times) := ⟨rfl, rfl, rfl, by decide +kernel, rfl, by decide +kernel, by decide +kernel⟩
abbrev s__law_a_brine : Stmt := topS 36
abbrev N__law_a_brine : List Str := ["bag", "full", "most", "shares", "found", "share", "water"]
theorem S__law_a_brine : FnScope N__law_a_brine ["bag", "full", "most"] (defScope s__law_a_brine) := ⟨rfl, rfl, rfl, by decide +kernel, rfl, by decide +kernel, by decide +kernel⟩
abbrev s__law_long_brine : Stmt := topS 37
abbrev N__law_long_brine : List Str := ["bag", "full", "some", "k", "water", "share", "salt"]
theorem S__law_long_brine : FnScope N__law_long_brine ["bag"] (defScope s__law_long_brine) := ⟨rfl, rfl, rfl, by decide +kernel, rfl, by decide +kernel, by decide +kernel⟩
abbrev s__law_written : Stmt := topS 33
abbrev N__law_written : List Str := ["one"]
theorem S__law_written : FnScope N__law_written ["one"] (defScope s__law_written) := ⟨rfl, rfl, rfl, by decide +kernel, rfl, by decide +kernel, by decide +kernel⟩
abbrev s__law_a_text : Stmt := topS 38
abbrev N__law_a_text : List Str := ["brine", "found", "water", "salt"]
theorem S__law_a_text : FnScope N__law_a_text ["brine"] (defScope s__law_a_text) := ⟨rfl, rfl, rfl, by decide +kernel, rfl, by decide +kernel, by decide +kernel⟩
abbrev s_number_text : Stmt := topS 17
abbrev N_number_text : List Str := ["number", "chunks", "rest"]
theorem S_number_text : FnScope N_number_text ["number"] (defScope s_number_text) := ⟨rfl, rfl, rfl, by decide +kernel, rfl, by decide +kernel, by decide +kernel⟩
abbrev s_fraction_text : Stmt := topS 18
abbrev N_fraction_text : List Str := ["one", "sign", "bottom", "a", "b"]
theorem S_fraction_text : FnScope N_fraction_text ["one"] (defScope s_fraction_text) := ⟨rfl, rfl, rfl, by decide +kernel, rfl, by decide +kernel, by decide +kernel⟩
abbrev s_brine_text : Stmt := topS 19
abbrev N_brine_text : List Str := ["brine", "words", "water", "salt"]
theorem S_brine_text : FnScope N_brine_text ["brine"] (defScope s_brine_text) := ⟨rfl, rfl, rfl, by decide +kernel, rfl, by decide +kernel, by decide +kernel⟩
abbrev s__law_same : Stmt := topS 41
abbrev N__law_same : List Str := ["found", "due", "one", "other"]
theorem S__law_same : FnScope N__law_same ["found", "due"] (defScope s__law_same) := ⟨rfl, rfl, rfl, by decide +kernel, rfl, by decide +kernel, by decide +kernel⟩
abbrev s_is_number : Stmt := topS 20
abbrev N_is_number : List Str := ["word", "sign"]
theorem S_is_number : FnScope N_is_number ["word"] (defScope s_is_number) := ⟨rfl, rfl, rfl, by decide +kernel, rfl, by decide +kernel, by decide +kernel⟩
abbrev s_is_whole : Stmt := topS 5
abbrev N_is_whole : List Str := ["thing"]
theorem S_is_whole : FnScope N_is_whole ["thing"] (defScope s_is_whole) := ⟨rfl, rfl, rfl, by decide +kernel, rfl, by decide +kernel, by decide +kernel⟩
abbrev s_common : Stmt := topS 6
abbrev N_common : List Str := ["a", "b"]
theorem S_common : FnScope N_common ["a", "b"] (defScope s_common) := ⟨rfl, rfl, rfl, by decide +kernel, rfl, by decide +kernel, by decide +kernel⟩
abbrev s_is_fraction : Stmt := topS 7
abbrev N_is_fraction : List Str := ["thing", "a", "b"]
theorem S_is_fraction : FnScope N_is_fraction ["thing"] (defScope s_is_fraction) := ⟨rfl, rfl, rfl, by decide +kernel, rfl, by decide +kernel, by decide +kernel⟩
abbrev s_fraction_in : Stmt := topS 21
abbrev N_fraction_in : List Str := ["word", "one", "top", "slash", "bottom"]
theorem S_fraction_in : FnScope N_fraction_in ["word"] (defScope s_fraction_in) := ⟨rfl, rfl, rfl, by decide +kernel, rfl, by decide +kernel, by decide +kernel⟩
abbrev s_layer_in : Stmt := topS 22
abbrev N_layer_in : List Str := ["word", "water", "colon", "salt"]
theorem S_layer_in : FnScope N_layer_in ["word"] (defScope s_layer_in) := ⟨rfl, rfl, rfl, by decide +kernel, rfl, by decide +kernel, by decide +kernel⟩
abbrev s_is_less : Stmt := topS 9
abbrev N_is_less : List Str := ["one", "other", "a", "b", "c", "d"]
theorem S_is_less : FnScope N_is_less ["one", "other"] (defScope s_is_less) := ⟨rfl, rfl, rfl, by decide +kernel, rfl, by decide +kernel, by decide +kernel⟩
abbrev s_times : Stmt := topS 8
abbrev N_times : List Str := ["one", "other", "left", "right", "a", "b", "c", "d"]
theorem S_times : FnScope N_times ["one", "other"] (defScope s_times) := ⟨rfl, rfl, rfl, by decide +kernel, rfl, by decide +kernel, by decide +kernel⟩
abbrev s_is_layer : Stmt := topS 11
abbrev N_is_layer : List Str := ["full", "thing", "water", "salt"]
theorem S_is_layer : FnScope N_is_layer ["full", "thing"] (defScope s_is_layer) := ⟨rfl, rfl, rfl, by decide +kernel, rfl, by decide +kernel, by decide +kernel⟩
abbrev s_is_beneath : Stmt := topS 12
abbrev N_is_beneath : List Str := ["one", "other"]
theorem S_is_beneath : FnScope N_is_beneath ["one", "other"] (defScope s_is_beneath) := ⟨rfl, rfl, rfl, by decide +kernel, rfl, by decide +kernel, by decide +kernel⟩
abbrev s_read_brine : Stmt := topS 23
abbrev N_read_brine : List Str := ["full", "text", "layers", "at", "word", "layer"]
theorem S_read_brine : FnScope N_read_brine ["full", "text"] (defScope s_read_brine) := ⟨rfl, rfl, rfl, by decide +kernel, rfl, by decide +kernel, by decide +kernel⟩
abbrev s__law_figures : Stmt := topS 39
abbrev N__law_figures : List Str := ["bag", "many", "step", "number", "turn"]
theorem S__law_figures : FnScope N__law_figures ["bag", "many"] (defScope s__law_figures) := ⟨rfl, rfl, rfl, by decide +kernel, rfl, by decide +kernel, by decide +kernel⟩
abbrev s__law_long_text : Stmt := topS 40
abbrev N__law_long_text : List Str := ["bag", "full", "many", "some", "share", "water"]
theorem S__law_long_text : FnScope N__law_long_text ["bag", "full"] (defScope s__law_long_text) := ⟨rfl, rfl, rfl, by decide +kernel, rfl, by decide +kernel, by decide +kernel⟩
abbrev s_law : Stmt := topS 42
abbrev N_law : List Str := ["script", "at", "cell", "bag", "full", "brine", "text", "again"]
theorem S_law : FnScope N_law ["script"] (defScope s_law) := ⟨rfl, rfl, rfl, by decide +kernel, rfl, by decide +kernel, by decide +kernel⟩
set_option genInjectivity false in
set_option genSizeOf false in
set_option maxHeartbeats 0 in
structure Top (K : PySem.W.Frag) (mg : Str → Option Value) where
  a__law_new_bag : Addr
  fd__law_new_bag : FuncData
  F__law_new_bag : Fun K "_law_new_bag" "_law_new_bag" s__law_new_bag a__law_new_bag fd__law_new_bag
  b__law_new_bag : Binds K fd__law_new_bag ["cell", "at"] []
  g__law_new_bag : mg "_law_new_bag" = some (.ref a__law_new_bag)
  a__law_draw : Addr
  fd__law_draw : FuncData
  F__law_draw : Fun K "_law_draw" "_law_draw" s__law_draw a__law_draw fd__law_draw
  b__law_draw : Binds K fd__law_draw ["bag", "many"] []
  g__law_draw : mg "_law_draw" = some (.ref a__law_draw)
  a__law_divisor : Addr
  fd__law_divisor : FuncData
  F__law_divisor : Fun K "_law_divisor" "_law_divisor" s__law_divisor a__law_divisor fd__law_divisor
  b__law_divisor : Binds K fd__law_divisor ["one", "other"] []
  g__law_divisor : mg "_law_divisor" = some (.ref a__law_divisor)
  a__law_made : Addr
  fd__law_made : FuncData
  F__law_made : Fun K "_law_made" "_law_made" s__law_made a__law_made fd__law_made
  b__law_made : Binds K fd__law_made ["above", "below"] []
  g__law_made : mg "_law_made" = some (.ref a__law_made)
  a__law_a_full : Addr
  fd__law_a_full : FuncData
  F__law_a_full : Fun K "_law_a_full" "_law_a_full" s__law_a_full a__law_a_full fd__law_a_full
  b__law_a_full : Binds K fd__law_a_full ["bag"] []
  g__law_a_full : mg "_law_a_full" = some (.ref a__law_a_full)
  a__law_a_positive : Addr
  fd__law_a_positive : FuncData
  F__law_a_positive : Fun K "_law_a_positive" "_law_a_positive" s__law_a_positive a__law_a_positive fd__law_a_positive
  b__law_a_positive : Binds K fd__law_a_positive ["bag"] []
  g__law_a_positive : mg "_law_a_positive" = some (.ref a__law_a_positive)
  a__law_some_water : Addr
  fd__law_some_water : FuncData
  F__law_some_water : Fun K "_law_some_water" "_law_some_water" s__law_some_water a__law_some_water fd__law_some_water
  b__law_some_water : Binds K fd__law_some_water ["bag", "full", "most"] []
  g__law_some_water : mg "_law_some_water" = some (.ref a__law_some_water)
  a__law_times : Addr
  fd__law_times : FuncData
  F__law_times : Fun K "_law_times" "_law_times" s__law_times a__law_times fd__law_times
  b__law_times : Binds K fd__law_times ["one", "other"] []
  g__law_times : mg "_law_times" = some (.ref a__law_times)
  a__law_a_brine : Addr
  fd__law_a_brine : FuncData
  F__law_a_brine : Fun K "_law_a_brine" "_law_a_brine" s__law_a_brine a__law_a_brine fd__law_a_brine
  b__law_a_brine : Binds K fd__law_a_brine ["bag", "full", "most"] []
  g__law_a_brine : mg "_law_a_brine" = some (.ref a__law_a_brine)
  a__law_long_brine : Addr
  fd__law_long_brine : FuncData
  F__law_long_brine : Fun K "_law_long_brine" "_law_long_brine" s__law_long_brine a__law_long_brine fd__law_long_brine
  b__law_long_brine : Binds K fd__law_long_brine ["bag"] []
  g__law_long_brine : mg "_law_long_brine" = some (.ref a__law_long_brine)
  a__law_written : Addr
  fd__law_written : FuncData
  F__law_written : Fun K "_law_written" "_law_written" s__law_written a__law_written fd__law_written
  b__law_written : Binds K fd__law_written ["one"] []
  g__law_written : mg "_law_written" = some (.ref a__law_written)
  a__law_a_text : Addr
  fd__law_a_text : FuncData
  F__law_a_text : Fun K "_law_a_text" "_law_a_text" s__law_a_text a__law_a_text fd__law_a_text
  b__law_a_text : Binds K fd__law_a_text ["brine"] []
  g__law_a_text : mg "_law_a_text" = some (.ref a__law_a_text)
  a_number_text : Addr
  fd_number_text : FuncData
  F_number_text : Fun K "number_text" "number_text" s_number_text a_number_text fd_number_text
  b_number_text : Binds K fd_number_text ["number"] []
  g_number_text : mg "number_text" = some (.ref a_number_text)
  a_fraction_text : Addr
  fd_fraction_text : FuncData
  F_fraction_text : Fun K "fraction_text" "fraction_text" s_fraction_text a_fraction_text fd_fraction_text
  b_fraction_text : Binds K fd_fraction_text ["one"] []
  g_fraction_text : mg "fraction_text" = some (.ref a_fraction_text)
  a_brine_text : Addr
  fd_brine_text : FuncData
  F_brine_text : Fun K "brine_text" "brine_text" s_brine_text a_brine_text fd_brine_text
  b_brine_text : Binds K fd_brine_text ["brine"] []
  g_brine_text : mg "brine_text" = some (.ref a_brine_text)
  a__law_same : Addr
  fd__law_same : FuncData
  F__law_same : Fun K "_law_same" "_law_same" s__law_same a__law_same fd__law_same
  b__law_same : Binds K fd__law_same ["found", "due"] []
  g__law_same : mg "_law_same" = some (.ref a__law_same)
  a_is_number : Addr
  fd_is_number : FuncData
  F_is_number : Fun K "is_number" "is_number" s_is_number a_is_number fd_is_number
  b_is_number : Binds K fd_is_number ["word"] []
  g_is_number : mg "is_number" = some (.ref a_is_number)
  a_is_whole : Addr
  fd_is_whole : FuncData
  F_is_whole : Fun K "is_whole" "is_whole" s_is_whole a_is_whole fd_is_whole
  b_is_whole : Binds K fd_is_whole ["thing"] []
  g_is_whole : mg "is_whole" = some (.ref a_is_whole)
  a_common : Addr
  fd_common : FuncData
  F_common : Fun K "common" "common" s_common a_common fd_common
  b_common : Binds K fd_common ["a", "b"] []
  g_common : mg "common" = some (.ref a_common)
  a_is_fraction : Addr
  fd_is_fraction : FuncData
  F_is_fraction : Fun K "is_fraction" "is_fraction" s_is_fraction a_is_fraction fd_is_fraction
  b_is_fraction : Binds K fd_is_fraction ["thing"] []
  g_is_fraction : mg "is_fraction" = some (.ref a_is_fraction)
  a_fraction_in : Addr
  fd_fraction_in : FuncData
  F_fraction_in : Fun K "fraction_in" "fraction_in" s_fraction_in a_fraction_in fd_fraction_in
  b_fraction_in : Binds K fd_fraction_in ["word"] []
  g_fraction_in : mg "fraction_in" = some (.ref a_fraction_in)
  a_layer_in : Addr
  fd_layer_in : FuncData
  F_layer_in : Fun K "layer_in" "layer_in" s_layer_in a_layer_in fd_layer_in
  b_layer_in : Binds K fd_layer_in ["word"] []
  g_layer_in : mg "layer_in" = some (.ref a_layer_in)
  a_is_less : Addr
  fd_is_less : FuncData
  F_is_less : Fun K "is_less" "is_less" s_is_less a_is_less fd_is_less
  b_is_less : Binds K fd_is_less ["one", "other"] []
  g_is_less : mg "is_less" = some (.ref a_is_less)
  a_times : Addr
  fd_times : FuncData
  F_times : Fun K "times" "times" s_times a_times fd_times
  b_times : Binds K fd_times ["one", "other"] []
  g_times : mg "times" = some (.ref a_times)
  a_is_layer : Addr
  fd_is_layer : FuncData
  F_is_layer : Fun K "is_layer" "is_layer" s_is_layer a_is_layer fd_is_layer
  b_is_layer : Binds K fd_is_layer ["full", "thing"] []
  g_is_layer : mg "is_layer" = some (.ref a_is_layer)
  a_is_beneath : Addr
  fd_is_beneath : FuncData
  F_is_beneath : Fun K "is_beneath" "is_beneath" s_is_beneath a_is_beneath fd_is_beneath
  b_is_beneath : Binds K fd_is_beneath ["one", "other"] []
  g_is_beneath : mg "is_beneath" = some (.ref a_is_beneath)
  a_read_brine : Addr
  fd_read_brine : FuncData
  F_read_brine : Fun K "read_brine" "read_brine" s_read_brine a_read_brine fd_read_brine
  b_read_brine : Binds K fd_read_brine ["full", "text"] []
  g_read_brine : mg "read_brine" = some (.ref a_read_brine)
  a__law_figures : Addr
  fd__law_figures : FuncData
  F__law_figures : Fun K "_law_figures" "_law_figures" s__law_figures a__law_figures fd__law_figures
  b__law_figures : Binds K fd__law_figures ["bag", "many"] []
  g__law_figures : mg "_law_figures" = some (.ref a__law_figures)
  a__law_long_text : Addr
  fd__law_long_text : FuncData
  F__law_long_text : Fun K "_law_long_text" "_law_long_text" s__law_long_text a__law_long_text fd__law_long_text
  b__law_long_text : Binds K fd__law_long_text ["bag", "full"] []
  g__law_long_text : mg "_law_long_text" = some (.ref a__law_long_text)
  a_law : Addr
  fd_law : FuncData
  F_law : Fun K "law" "law" s_law a_law fd_law
  b_law : Binds K fd_law ["script"] []
  g_law : mg "law" = some (.ref a_law)
  z_abs : mg "abs" = none
  z_all : mg "all" = none
  z_bool : mg "bool" = none
  z_divmod : mg "divmod" = none
  z_enumerate : mg "enumerate" = none
  z_int : mg "int" = none
  z_isinstance : mg "isinstance" = none
  z_len : mg "len" = none
  z_max : mg "max" = none
  z_range : mg "range" = none
  z_sorted : mg "sorted" = none
  z_str : mg "str" = none
  z_tuple : mg "tuple" = none
  z_zip : mg "zip" = none
  t_CHUNK : Tok
  g_CHUNK : mg "CHUNK" = some (.int 1000000000000000000000000000000000000000000000000000000000000 t_CHUNK)
  t_MOST_FIGURES : Tok
  g_MOST_FIGURES : mg "MOST_FIGURES" = some (.int 400 t_MOST_FIGURES)
  t_FIGURES : Tok
  g_FIGURES : mg "FIGURES" = some (.str (Str.ofString "0123456789") t_FIGURES)
  c_NOUGHT : Addr
  g_NOUGHT : mg "NOUGHT" = some (.ref c_NOUGHT)
  r_NOUGHT : ∀ G, Rp K G (.ref c_NOUGHT) C_NOUGHT
section
variable {P : Program} {w : World} {K : PySem.W.Frag} {mg : Str → Option Value} {base : Heap}
set_option maxHeartbeats 4000000 in
theorem ok__law_new_bag (T : Top K mg) : GOk P w K mg base CX0 1 T.a__law_new_bag T.fd__law_new_bag ["cell", "at"] (spF K mg 2 F__law_new_bag) :=
  fn_okG (k := 0) (fb := den__law_new_bag) T.F__law_new_bag S__law_new_bag rfl (fun cdv A outer s H E hr => 
  (dss_cons (ds_set 2 S__law_new_bag.nd de_int)
  (dss_cons (ds_if (dt_ge (de_var 0) (de_pow de_int de_int)) (dss_one (ds_set 2 S__law_new_bag.nd (de_sub (de_var 0) (de_pow de_int de_int)))) dss_nil)
  (dss_one (ds_ret (de_lstM (da_cons (de_var 2) (da_cons (de_add (de_mod (de_var 0) de_int) (de_mul de_int (de_var 1))) (da_cons de_int da_nil))))))))) hF__law_new_bag hX__law_new_bag
set_option maxHeartbeats 4000000 in
theorem ok__law_draw (T : Top K mg) : GOk P w K mg base CX0 1 T.a__law_draw T.fd__law_draw ["bag", "many"] (spF K mg 2 F__law_draw) :=
  fn_okG (k := 0) (fb := den__law_draw) T.F__law_draw S__law_draw rfl (fun cdv A outer s H E hr => 
  (dss_cons (ds_if (dt_gt (de_ix (de_var 0) de_int) de_int) (dss_cons (ds_set 5 S__law_draw.nd (de_mod (de_ix (de_var 0) de_int) (de_var 1)))
  (dss_cons (ds_store (de_div (de_ix (de_var 0) de_int) (de_var 1)) (de_var 0) de_int)
  (dss_one (ds_ret (de_var 5))))) dss_nil)
  (dss_cons (ds_store (de_add (de_ix (de_var 0) de_int) de_int) (de_var 0) de_int)
  (dss_cons (ds_set 2 S__law_draw.nd (de_lst (da_cons de_int (da_cons de_int (da_cons de_int (da_cons de_int (da_cons de_int (da_cons de_int (da_cons de_int da_nil)))))))))
  (dss_cons (ds_set 3 S__law_draw.nd (de_mod (de_pow (de_add (de_mul (de_mod (de_ix (de_var 0) de_int) (de_ix (de_var 2) (de_mod (de_ix (de_var 0) de_int) de_int))) (de_add (de_mul de_int (de_ix (de_var 0) de_int)) de_int)) (de_mul de_int (de_ix (de_var 0) de_int))) de_int) (de_ix (de_var 2) (de_mod (de_add (de_ix (de_var 0) de_int) de_int) de_int))))
  (dss_cons (ds_set 4 S__law_draw.nd (de_add (de_add (de_mul (de_var 3) (de_var 3)) (de_mod (de_ix (de_var 0) de_int) de_int)) (de_mul de_int (de_ix (de_var 0) de_int))))
  (dss_one (ds_ret (de_mod (de_div (de_mod (de_pow (de_var 4) de_int) (de_ix (de_var 2) (de_mod (de_add (de_ix (de_var 0) de_int) de_int) de_int))) de_int) (de_var 1)))))))))) hF__law_draw hX__law_draw
set_option maxHeartbeats 4000000 in
theorem ok__law_divisor (T : Top K mg) : GOk P w K mg base CX0 1 T.a__law_divisor T.fd__law_divisor ["one", "other"] (spF K mg 2 F__law_divisor) :=
  fn_okG (k := 0) (fb := den__law_divisor) T.F__law_divisor S__law_divisor rfl (fun cdv A outer s H E hr => 
  (dss_cons (ds_for PassesOwn.never (di_range1 T.z_range (da_cons de_int da_nil)) (dg_name 2 S__law_divisor.nd) (dss_cons (ds_if (dt_eq hr.units (de_var 1) de_int) (dss_one (ds_ret (de_var 0))) dss_nil)
  (dss_one (ds_par 0 1 S__law_divisor.nd (da_cons (de_var 1) (da_cons (de_mod (de_var 0) (de_var 1)) da_nil))))))
  (dss_one (ds_ret (de_var 0))))) hF__law_divisor hX__law_divisor
set_option maxHeartbeats 4000000 in
theorem ok__law_made (T : Top K mg) : GOk P w K mg base CX0 2 T.a__law_made T.fd__law_made ["above", "below"] (spF K mg 2 F__law_made) :=
  fn_okG (k := 1) (fb := den__law_made) T.F__law_made S__law_made rfl (fun cdv A outer s H E hr => 
  (dss_cons (ds_set 2 S__law_made.nd (de_callG wok0 (ok__law_divisor T) (hr.mono (by decide)) T.g__law_divisor T.F__law_divisor.kp T.b__law_divisor (fun _ => pass_0) (da_cons (de_max rfl T.z_max (da_cons (de_var 0) (da_cons (de_sub de_int (de_var 0)) da_nil))) (da_cons (de_var 1) da_nil))))
  (dss_one (ds_ret (de_tup (da_cons (de_div (de_var 0) (de_var 2)) (da_cons (de_div (de_var 1) (de_var 2)) da_nil))))))) hF__law_made hX__law_made
set_option maxHeartbeats 4000000 in
theorem ok__law_a_full (T : Top K mg) : GOk P w K mg base CX0 3 T.a__law_a_full T.fd__law_a_full ["bag"] (spF K mg 1 F__law_a_full) :=
  fn_okG (k := 2) (fb := den__law_a_full) T.F__law_a_full S__law_a_full rfl (fun cdv A outer s H E hr => 
  (dss_cons (ds_if (dt_eq hr.units (de_callG wok0 (ok__law_draw T) (hr.mono (by decide)) T.g__law_draw T.F__law_draw.kp T.b__law_draw (fun _ => pass_0) (da_cons (de_var 0) (da_cons de_int da_nil))) de_int) (dss_one (ds_ret (de_tup (da_cons (de_ix (de_lst (da_cons de_int (da_cons de_int (da_cons de_int (da_cons de_int da_nil))))) (de_callG wok0 (ok__law_draw T) (hr.mono (by decide)) T.g__law_draw T.F__law_draw.kp T.b__law_draw (fun _ => pass_0) (da_cons (de_var 0) (da_cons de_int da_nil)))) (da_cons (de_ix (de_lst (da_cons de_int (da_cons de_int (da_cons de_int (da_cons de_int da_nil))))) (de_callG wok0 (ok__law_draw T) (hr.mono (by decide)) T.g__law_draw T.F__law_draw.kp T.b__law_draw (fun _ => pass_0) (da_cons (de_var 0) (da_cons de_int da_nil)))) da_nil))))) dss_nil)
  (dss_one (ds_ret (de_callG wok0 (ok__law_made T) (hr.mono (by decide)) T.g__law_made T.F__law_made.kp T.b__law_made (fun _ => pass_0) (da_cons (de_add de_int (de_callG wok0 (ok__law_draw T) (hr.mono (by decide)) T.g__law_draw T.F__law_draw.kp T.b__law_draw (fun _ => pass_0) (da_cons (de_var 0) (da_cons de_int da_nil)))) (da_cons (de_add de_int (de_callG wok0 (ok__law_draw T) (hr.mono (by decide)) T.g__law_draw T.F__law_draw.kp T.b__law_draw (fun _ => pass_0) (da_cons (de_var 0) (da_cons de_int da_nil)))) da_nil))))))) hF__law_a_full hX__law_a_full
set_option maxHeartbeats 4000000 in
theorem ok__law_a_positive (T : Top K mg) : GOk P w K mg base CX0 3 T.a__law_a_positive T.fd__law_a_positive ["bag"] (spF K mg 1 F__law_a_positive) :=
  fn_okG (k := 2) (fb := den__law_a_positive) T.F__law_a_positive S__law_a_positive rfl (fun cdv A outer s H E hr => 
  (dss_cons (ds_set 1 S__law_a_positive.nd (de_ix (de_lst (da_cons de_int (da_cons de_int (da_cons de_int (da_cons de_int (da_cons de_int (da_cons de_int (da_cons de_int (da_cons de_int (da_cons de_int da_nil)))))))))) (de_callG wok0 (ok__law_draw T) (hr.mono (by decide)) T.g__law_draw T.F__law_draw.kp T.b__law_draw (fun _ => pass_0) (da_cons (de_var 0) (da_cons de_int da_nil)))))
  (dss_one (ds_ret (de_callG wok0 (ok__law_made T) (hr.mono (by decide)) T.g__law_made T.F__law_made.kp T.b__law_made (fun _ => pass_0) (da_cons (de_add de_int (de_callG wok0 (ok__law_draw T) (hr.mono (by decide)) T.g__law_draw T.F__law_draw.kp T.b__law_draw (fun _ => pass_0) (da_cons (de_var 0) (da_cons de_int da_nil)))) (da_cons (de_var 1) da_nil))))))) hF__law_a_positive hX__law_a_positive
set_option maxHeartbeats 4000000 in
theorem ok__law_some_water (T : Top K mg) : GOk P w K mg base CX0 4 T.a__law_some_water T.fd__law_some_water ["bag", "full", "most"] (spF K mg 3 F__law_some_water) :=
  fn_okG (k := 3) (fb := den__law_some_water) T.F__law_some_water S__law_some_water rfl (fun cdv A outer s H E hr => 
  (dss_cons (ds_if (dt_gt (de_ix (de_var 1) de_int) de_int) (dss_one (ds_ret (de_tup (da_cons (de_mul (de_mul de_int (de_ix (de_var 1) de_int)) (de_add de_int (de_callG wok0 (ok__law_draw T) (hr.mono (by decide)) T.g__law_draw T.F__law_draw.kp T.b__law_draw (fun _ => pass_0) (da_cons (de_var 0) (da_cons (de_var 2) da_nil))))) (da_cons de_int da_nil))))) dss_nil)
  (dss_one (ds_ret (de_callG wok0 (ok__law_a_positive T) (hr.mono (by decide)) T.g__law_a_positive T.F__law_a_positive.kp T.b__law_a_positive (fun _ => pass_0) (da_cons (de_var 0) da_nil)))))) hF__law_some_water hX__law_some_water
set_option maxHeartbeats 4000000 in
theorem ok__law_times (T : Top K mg) : GOk P w K mg base CX0 3 T.a__law_times T.fd__law_times ["one", "other"] (spF K mg 2 F__law_times) :=
  fn_okG (k := 2) (fb := den__law_times) T.F__law_times S__law_times rfl (fun cdv A outer s H E hr => 
  (dss_one (ds_ret (de_callG wok0 (ok__law_made T) (hr.mono (by decide)) T.g__law_made T.F__law_made.kp T.b__law_made (fun _ => pass_0) (da_cons (de_mul (de_ix (de_var 0) de_int) (de_ix (de_var 1) de_int)) (da_cons (de_mul (de_ix (de_var 0) de_int) (de_ix (de_var 1) de_int)) da_nil)))))) hF__law_times hX__law_times
set_option maxHeartbeats 4000000 in
theorem ok__law_a_brine (T : Top K mg) : GOk P w K mg base CX0 5 T.a__law_a_brine T.fd__law_a_brine ["bag", "full", "most"] (spF K mg 3 F__law_a_brine) :=
  fn_okG (k := 4) (fb := den__law_a_brine) T.F__law_a_brine S__law_a_brine rfl (fun cdv A outer s H E hr => 
  (dss_cons (ds_set 3 S__law_a_brine.nd (de_lst (da_cons (de_tup (da_cons de_int (da_cons de_int da_nil))) (da_cons (de_tup (da_cons de_int (da_cons de_int da_nil))) (da_cons (de_tup (da_cons de_int (da_cons de_int da_nil))) (da_cons (de_tup (da_cons de_int (da_cons de_int da_nil))) (da_cons (de_tup (da_cons de_int (da_cons de_int da_nil))) (da_cons (de_tup (da_cons de_int (da_cons de_int da_nil))) (da_cons (de_tup (da_cons de_int (da_cons de_int da_nil))) (da_cons (de_tup (da_cons de_int (da_cons de_int da_nil))) da_nil))))))))))
  (dss_cons (ds_set 4 S__law_a_brine.nd (de_lstM da_nil))
  (dss_cons (ds_if (dt_eq hr.units (de_callG wok0 (ok__law_draw T) (hr.mono (by decide)) T.g__law_draw T.F__law_draw.kp T.b__law_draw (fun _ => pass_0) (da_cons (de_var 0) (da_cons de_int da_nil))) de_int) (dss_one (ds_expr (de_append (de_var 4) (de_tup (da_cons (de_tup (da_cons de_int (da_cons de_int da_nil))) (da_cons (de_callG wok0 (ok__law_a_positive T) (hr.mono (by decide)) T.g__law_a_positive T.F__law_a_positive.kp T.b__law_a_positive (fun _ => pass_0) (da_cons (de_var 0) da_nil)) da_nil)))))) dss_nil)
  (dss_cons (ds_for PassesOwn.never (di_seq (de_slice (de_var 3) do_none (do_some (de_var 2)))) (dg_name 5 S__law_a_brine.nd) (dss_one (ds_if (dt_eq hr.units (de_callG wok0 (ok__law_draw T) (hr.mono (by decide)) T.g__law_draw T.F__law_draw.kp T.b__law_draw (fun _ => pass_0) (da_cons (de_var 0) (da_cons de_int da_nil))) de_int) (dss_cons (ds_set 6 S__law_a_brine.nd (de_callG wok0 (ok__law_some_water T) (hr.mono (by decide)) T.g__law_some_water T.F__law_some_water.kp T.b__law_some_water (fun _ => pass_0) (da_cons (de_var 0) (da_cons (de_var 1) (da_cons de_int da_nil)))))
  (dss_one (ds_expr (de_append (de_var 4) (de_tup (da_cons (de_var 6) (da_cons (de_callG wok0 (ok__law_times T) (hr.mono (by decide)) T.g__law_times T.F__law_times.kp T.b__law_times (fun _ => pass_0) (da_cons (de_callG wok0 (ok__law_times T) (hr.mono (by decide)) T.g__law_times T.F__law_times.kp T.b__law_times (fun _ => pass_0) (da_cons (de_var 1) (da_cons (de_var 5) da_nil))) (da_cons (de_var 6) da_nil))) da_nil))))))) dss_nil)))
  (dss_cons (ds_if (dt_eq hr.units (de_callG wok0 (ok__law_draw T) (hr.mono (by decide)) T.g__law_draw T.F__law_draw.kp T.b__law_draw (fun _ => pass_0) (da_cons (de_var 0) (da_cons de_int da_nil))) de_int) (dss_one (ds_expr (de_append (de_var 4) (de_tup (da_cons (de_callG wok0 (ok__law_a_positive T) (hr.mono (by decide)) T.g__law_a_positive T.F__law_a_positive.kp T.b__law_a_positive (fun _ => pass_0) (da_cons (de_var 0) da_nil)) (da_cons (de_tup (da_cons de_int (da_cons de_int da_nil))) da_nil)))))) dss_nil)
  (dss_one (ds_ret (de_tupOf T.z_tuple (da_cons (de_var 4) da_nil)))))))))) hF__law_a_brine hX__law_a_brine
set_option maxHeartbeats 4000000 in
theorem ok__law_long_brine (T : Top K mg) : GOk P w K mg base CX0 3 T.a__law_long_brine T.fd__law_long_brine ["bag"] (spF K mg 1 F__law_long_brine) :=
  fn_okG (k := 2) (fb := den__law_long_brine) T.F__law_long_brine S__law_long_brine rfl (fun cdv A outer s H E hr => 
  (dss_cons (ds_set 1 S__law_long_brine.nd (de_tup (da_cons (de_add de_int (de_callG wok0 (ok__law_draw T) (hr.mono (by decide)) T.g__law_draw T.F__law_draw.kp T.b__law_draw (fun _ => pass_0) (da_cons (de_var 0) (da_cons de_int da_nil)))) (da_cons de_int da_nil))))
  (dss_cons (ds_set 2 S__law_long_brine.nd (de_lstM da_nil))
  (dss_cons (ds_for PassesOwn.never (di_range2 T.z_range (da_cons de_int (da_cons de_int da_nil))) (dg_name 3 S__law_long_brine.nd) (dss_cons (ds_set 4 S__law_long_brine.nd (de_tup (da_cons (de_add de_int (de_mod (de_var 3) de_int)) (da_cons de_int da_nil))))
  (dss_one (ds_expr (de_append (de_var 2) (de_tup (da_cons (de_mod (de_mul (de_var 3) de_int) de_int) (da_cons (de_var 4) (da_cons (de_callG wok0 (ok__law_made T) (hr.mono (by decide)) T.g__law_made T.F__law_made.kp T.b__law_made (fun _ => pass_0) (da_cons (de_mul (de_mul (de_ix (de_var 1) de_int) (de_ix (de_var 4) de_int)) (de_mod (de_mul (de_var 3) de_int) de_int)) (da_cons de_int da_nil))) da_nil)))))))))
  (dss_one (ds_ret (de_tup (da_cons (de_var 1) (da_cons (de_tupOf T.z_tuple (da_cons (de_lc [("share", 5), ("water", 4), ("salt", 6)] (S__law_long_brine.nd) (blkOk_by (N := N__law_long_brine) (sc := defScope s__law_long_brine) (own := [("share", 5), ("water", 4), ("salt", 6)]) (by decide +kernel)) (di_seq (de_rv (de_srt3 T.z_sorted (da_cons (de_var 2) da_nil)))) (fun _ _ _ _ _ => (dg_tup rfl (dgs_cons (dg_name 5 S__law_long_brine.nd) (dgs_cons (dg_name 4 S__law_long_brine.nd) (dgs_cons (dg_name 6 S__law_long_brine.nd) dgs_nil))))) (fun _ _ _ _ _ => dts_nil) (fun _ _ _ _ _ => (de_tup (da_cons (de_var 4) (da_cons (de_var 6) da_nil))))) da_nil)) da_nil))))))))) hF__law_long_brine hX__law_long_brine
set_option maxHeartbeats 4000000 in
theorem ok__law_written (T : Top K mg) : GOk P w K mg base CX0 1 T.a__law_written T.fd__law_written ["one"] (spF K mg 1 F__law_written) :=
  fn_okG (k := 0) (fb := den__law_written) T.F__law_written S__law_written rfl (fun cdv A outer s H E hr => 
  (dss_one (ds_ret (de_addS (de_fmtI (de_ix (de_var 0) de_int)) (de_ix (de_lst (da_cons (de_addS de_str (de_fmtI (de_ix (de_var 0) de_int))) (da_cons de_str da_nil))) (de_toInt T.z_int (da_cons (de_eq hr.units (de_ix (de_var 0) de_int) de_int) da_nil))))))) hF__law_written hX__law_written
set_option maxHeartbeats 4000000 in
theorem ok__law_a_text (T : Top K mg) : GOk P w K mg base CX0 2 T.a__law_a_text T.fd__law_a_text ["brine"] (spF K mg 1 F__law_a_text) :=
  fn_okG (k := 1) (fb := den__law_a_text) T.F__law_a_text S__law_a_text rfl (fun cdv A outer s H E hr => 
  (dss_cons (ds_set 1 S__law_a_text.nd de_str)
  (dss_cons (ds_for PassesOwn.never (di_seq (de_var 0)) (dg_tup rfl (dgs_cons (dg_name 2 S__law_a_text.nd) (dgs_cons (dg_name 3 S__law_a_text.nd) dgs_nil))) (dss_one (ds_set 1 S__law_a_text.nd (de_addS (de_addS (de_addS (de_addS (de_var 1) de_str) (de_callG wok0 (ok__law_written T) (hr.mono (by decide)) T.g__law_written T.F__law_written.kp T.b__law_written (fun _ => pass_0) (da_cons (de_var 2) da_nil))) de_str) (de_callG wok0 (ok__law_written T) (hr.mono (by decide)) T.g__law_written T.F__law_written.kp T.b__law_written (fun _ => pass_0) (da_cons (de_var 3) da_nil))))))
  (dss_one (ds_ret (de_if (dt_ne hr.units (de_var 0) (de_tup da_nil)) (de_slT (de_var 1) (do_some de_int) do_none) de_str)))))) hF__law_a_text hX__law_a_text
set_option maxHeartbeats 4000000 in
theorem ok_number_text (T : Top K mg) : GOk P w K mg base CX0 1 T.a_number_text T.fd_number_text ["number"] (spF K mg 1 F_number_text) :=
  fn_okG (k := 0) (fb := den_number_text) T.F_number_text S_number_text rfl (fun cdv A outer s H E hr => 
  (dss_cons (ds_set 1 S_number_text.nd (de_lstM da_nil))
  (dss_cons (ds_while PassesOwn.never (dt_ge (de_var 0) (de_constI T.g_CHUNK)) (dss_cons (ds_asg (de_dvm T.z_divmod (da_cons (de_var 0) (da_cons (de_constI T.g_CHUNK) da_nil))) (dg_tup rfl (dgs_cons (dg_name 0 S_number_text.nd) (dgs_cons (dg_name 2 S_number_text.nd) dgs_nil))))
  (dss_one (ds_expr (de_append (de_var 1) (de_zf (de_strI T.z_str (da_cons (de_var 2) da_nil)) (da_cons de_int da_nil)))))))
  (dss_one (ds_ret (de_addS (de_strI T.z_str (da_cons (de_var 0) da_nil)) (de_jn de_str (de_rv (de_var 1))))))))) hF_number_text hX_number_text
set_option maxHeartbeats 4000000 in
theorem ok_fraction_text (T : Top K mg) : GOk P w K mg base CX0 2 T.a_fraction_text T.fd_fraction_text ["one"] (spF K mg 1 F_fraction_text) :=
  fn_okG (k := 1) (fb := den_fraction_text) T.F_fraction_text S_fraction_text rfl (fun cdv A outer s H E hr => 
  (dss_cons (ds_asg (de_var 0) (dg_tup rfl (dgs_cons (dg_name 3 S_fraction_text.nd) (dgs_cons (dg_name 4 S_fraction_text.nd) dgs_nil))))
  (dss_cons (ds_set 1 S_fraction_text.nd (de_if (dt_lt (de_var 3) de_int) de_str de_str))
  (dss_cons (ds_set 2 S_fraction_text.nd (de_if (dt_eq hr.units (de_var 4) de_int) de_str (de_addS de_str (de_callG wok0 (ok_number_text T) (hr.mono (by decide)) T.g_number_text T.F_number_text.kp T.b_number_text (fun _ => pass_0) (da_cons (de_var 4) da_nil)))))
  (dss_one (ds_ret (de_addS (de_addS (de_var 1) (de_callG wok0 (ok_number_text T) (hr.mono (by decide)) T.g_number_text T.F_number_text.kp T.b_number_text (fun _ => pass_0) (da_cons (de_abs T.z_abs (da_cons (de_var 3) da_nil)) da_nil))) (de_var 2)))))))) hF_fraction_text hX_fraction_text
set_option maxHeartbeats 4000000 in
theorem ok_brine_text (T : Top K mg) : GOk P w K mg base CX0 3 T.a_brine_text T.fd_brine_text ["brine"] (spF K mg 1 F_brine_text) :=
  fn_okG (k := 2) (fb := den_brine_text) T.F_brine_text S_brine_text rfl (fun cdv A outer s H E hr => 
  (dss_cons (ds_setLc 1 [("water", 2), ("salt", 3)] S_brine_text.nd (blkOk_by (N := N_brine_text) (sc := defScope s_brine_text) (own := [("water", 2), ("salt", 3)]) (by decide +kernel)) (sw_true rfl rfl rfl (by decide +kernel)) (di_seq (de_var 0)) (fun _ _ _ _ _ => (dg_tup rfl (dgs_cons (dg_name 2 S_brine_text.nd) (dgs_cons (dg_name 3 S_brine_text.nd) dgs_nil)))) (fun _ _ _ _ _ => dts_nil) (fun _ _ _ _ _ => (de_addS (de_addS (de_callG wok0 (ok_fraction_text T) (hr.mono (by decide)) T.g_fraction_text T.F_fraction_text.kp T.b_fraction_text (fun _ => pass_0) (da_cons (de_var 2) da_nil)) de_str) (de_callG wok0 (ok_fraction_text T) (hr.mono (by decide)) T.g_fraction_text T.F_fraction_text.kp T.b_fraction_text (fun _ => pass_0) (da_cons (de_var 3) da_nil)))))
  (dss_one (ds_ret (de_if (dt_tru (de_var 1)) (de_jn de_str (de_var 1)) de_str))))) hF_brine_text hX_brine_text
set_option maxHeartbeats 4000000 in
theorem okn__law_same (T : Top K mg) : ∀ n : Nat, GOk P w K mg base CX0 (1 + n) T.a__law_same T.fd__law_same ["found", "due"] (spF K mg 2 (Fn__law_same n))
  | 0 => gok_never fun ds M => rfl
  | n + 1 => by
    have ih := okn__law_same T n
    exact fn_okG (k := 1 + n) (fb := den__law_same (Fn__law_same n)) T.F__law_same S__law_same rfl (fun cdv A outer s H E hr => 
  (dss_cons (ds_if (dt_val (de_isi (pe_bltn (v := .ty "tuple") (u := .type "tuple") rfl T.z_tuple (by decide +kernel) rfl) (ClsV.ty "tuple") isi_ty T.z_isinstance (de_var 1))) (dss_cons (ds_if (DW.dt (dw_or (dt_not (dt_val (de_isi (pe_bltn (v := .ty "tuple") (u := .type "tuple") rfl T.z_tuple (by decide +kernel) rfl) (ClsV.ty "tuple") isi_ty T.z_isinstance (de_var 0)))) (dw_or1 (dt_ne hr.units (de_len T.z_len (da_cons (de_var 0) da_nil)) (de_len T.z_len (da_cons (de_var 1) da_nil)))))) (dss_one (ds_ret de_bl)) dss_nil)
  (dss_one (ds_ret (de_ninD ⟨_, hr⟩ de_bl (de_lc [("one", 2), ("other", 3)] (S__law_same.nd) (blkOk_by (N := N__law_same) (sc := defScope s__law_same) (own := [("one", 2), ("other", 3)]) (by decide +kernel)) (di_zip T.z_zip (da_cons (de_var 0) (da_cons (de_var 1) da_nil))) (fun _ _ _ _ _ => (dg_tup rfl (dgs_cons (dg_name 2 S__law_same.nd) (dgs_cons (dg_name 3 S__law_same.nd) dgs_nil)))) (fun _ _ _ _ _ => dts_nil) (fun _ _ _ _ _ => (de_callG wok0 ih (hr.mono (by omega)) T.g__law_same T.F__law_same.kp T.b__law_same (fun _ => pass_0) (da_cons (de_var 2) (da_cons (de_var 3) da_nil))))))))) dss_nil)
  (dss_one (ds_ret (de_and (de_isi (pe_bltn (v := .ty "int") (u := .type "int") rfl T.z_int (by decide +kernel) rfl) (ClsV.ty "int") isi_ty T.z_isinstance (de_var 0)) (de_and (de_not (de_isi (pe_bltn (v := .ty "bool") (u := .type "bool") rfl T.z_bool (by decide +kernel) rfl) (ClsV.ty "bool") isi_ty T.z_isinstance (de_var 0))) (de_one (de_eq hr.units (de_var 0) (de_var 1))))))))) runF_ok runF_nx
theorem ok__law_same (T : Top K mg) : GOk P w K mg base CX0 13 T.a__law_same T.fd__law_same ["found", "due"] (spF K mg 2 F__law_same) := okn__law_same T 12
set_option maxHeartbeats 4000000 in
theorem ok_is_number (T : Top K mg) : GOk P w K mg base CX0 1 T.a_is_number T.fd_is_number ["word"] (spF K mg 1 F_is_number) :=
  fn_okG (k := 0) (fb := den_is_number) T.F_is_number S_is_number rfl (fun cdv A outer s H E hr => 
  (dss_cons (ds_if (DW.dt (dw_or (dt_not (dt_chain op_le op_le sle sle de_int (de_lenS T.z_len (da_cons (de_var 0) da_nil)) (de_constI T.g_MOST_FIGURES))) (dw_or1 (DW.dt (dw_and (dt_eqS (de_ixS (de_var 0) de_int) de_str) (dw_and1 (dt_neS (de_var 0) de_str))))))) (dss_one (ds_ret de_bl)) dss_nil)
  (dss_one (ds_ret (de_all rfl T.z_all (da_cons (de_lc [("sign", 1)] (S_is_number.nd) (blkOk_by (N := N_is_number) (sc := defScope s_is_number) (own := [("sign", 1)]) (by decide +kernel)) (di_str (de_var 0)) (fun _ _ _ _ _ => (dg_name 1 S_is_number.nd)) (fun _ _ _ _ _ => dts_nil) (fun _ _ _ _ _ => (de_inS (de_var 1) (de_constS T.g_FIGURES)))) da_nil)))))) hF_is_number hX_is_number
set_option maxHeartbeats 4000000 in
theorem ok_is_whole (T : Top K mg) : GOk P w K mg base CX0 1 T.a_is_whole T.fd_is_whole ["thing"] (spF K mg 1 F_is_whole) :=
  fn_okG (k := 0) (fb := den_is_whole) T.F_is_whole S_is_whole rfl (fun cdv A outer s H E hr => 
  (dss_one (ds_ret (de_and (de_isi (pe_bltn (v := .ty "int") (u := .type "int") rfl T.z_int (by decide +kernel) rfl) (ClsV.ty "int") isi_ty T.z_isinstance (de_var 0)) (de_one (de_not (de_isi (pe_bltn (v := .ty "bool") (u := .type "bool") rfl T.z_bool (by decide +kernel) rfl) (ClsV.ty "bool") isi_ty T.z_isinstance (de_var 0)))))))) hF_is_whole hX_is_whole
set_option maxHeartbeats 4000000 in
theorem ok_common (T : Top K mg) : GOk P w K mg base CX0 1 T.a_common T.fd_common ["a", "b"] (spF K mg 2 F_common) :=
  fn_okG (k := 0) (fb := den_common) T.F_common S_common rfl (fun cdv A outer s H E hr => 
  (dss_cons (ds_while PassesOwn.never (dt_ne hr.units (de_var 1) de_int) (dss_one (ds_par 0 1 S_common.nd (da_cons (de_var 1) (da_cons (de_mod (de_var 0) (de_var 1)) da_nil)))))
  (dss_one (ds_ret (de_abs T.z_abs (da_cons (de_var 0) da_nil)))))) hF_common hX_common
set_option maxHeartbeats 4000000 in
theorem ok_is_fraction (T : Top K mg) : GOk P w K mg base CX0 2 T.a_is_fraction T.fd_is_fraction ["thing"] (spF K mg 1 F_is_fraction) :=
  fn_okG (k := 1) (fb := den_is_fraction) T.F_is_fraction S_is_fraction rfl (fun cdv A outer s H E hr => 
  (dss_cons (ds_if (DW.dt (dw_or (dt_not (dt_val (de_isi (pe_bltn (v := .ty "tuple") (u := .type "tuple") rfl T.z_tuple (by decide +kernel) rfl) (ClsV.ty "tuple") isi_ty T.z_isinstance (de_var 0)))) (dw_or1 (dt_ne hr.units (de_len T.z_len (da_cons (de_var 0) da_nil)) de_int)))) (dss_one (ds_ret de_bl)) dss_nil)
  (dss_cons (ds_asg (de_var 0) (dg_tup rfl (dgs_cons (dg_name 1 S_is_fraction.nd) (dgs_cons (dg_name 2 S_is_fraction.nd) dgs_nil))))
  (dss_one (ds_ret (de_and (de_callG wok0 (ok_is_whole T) (hr.mono (by decide)) T.g_is_whole T.F_is_whole.kp T.b_is_whole (fun _ => pass_0) (da_cons (de_var 1) da_nil)) (de_and (de_callG wok0 (ok_is_whole T) (hr.mono (by decide)) T.g_is_whole T.F_is_whole.kp T.b_is_whole (fun _ => pass_0) (da_cons (de_var 2) da_nil)) (de_and (de_gt (de_var 2) de_int) (de_one (de_eq hr.units (de_callG wok0 (ok_common T) (hr.mono (by decide)) T.g_common T.F_common.kp T.b_common (fun _ => pass_0) (da_cons (de_var 1) (da_cons (de_var 2) da_nil))) de_int)))))))))) hF_is_fraction hX_is_fraction
set_option maxHeartbeats 4000000 in
theorem ok_fraction_in (T : Top K mg) : GOk P w K mg base CX0 3 T.a_fraction_in T.fd_fraction_in ["word"] (spF K mg 1 F_fraction_in) :=
  fn_okG (k := 2) (fb := den_fraction_in) T.F_fraction_in S_fraction_in rfl (fun cdv A outer s H E hr => 
  (dss_cons (ds_asg (de_pt (de_var 0) de_str) (dg_tup rfl (dgs_cons (dg_name 2 S_fraction_in.nd) (dgs_cons (dg_name 3 S_fraction_in.nd) (dgs_cons (dg_name 4 S_fraction_in.nd) dgs_nil)))))
  (dss_cons (ds_if (DW.dt (dw_or (dt_not (dt_val (de_callG wok0 (ok_is_number T) (hr.mono (by decide)) T.g_is_number T.F_is_number.kp T.b_is_number (fun _ => pass_0) (da_cons (de_rmp (de_var 2) (da_cons de_str da_nil)) da_nil)))) (dw_or1 (DW.dt (dw_and (dt_truS (de_var 3)) (dw_and1 (dt_not (dt_val (de_callG wok0 (ok_is_number T) (hr.mono (by decide)) T.g_is_number T.F_is_number.kp T.b_is_number (fun _ => pass_0) (da_cons (de_var 4) da_nil)))))))))) (dss_one (ds_ret de_non)) dss_nil)
  (dss_cons (ds_set 1 S_fraction_in.nd (de_tup (da_cons (de_intS T.z_int (da_cons (de_var 2) da_nil)) (da_cons (de_if (dt_truS (de_var 3)) (de_intS T.z_int (da_cons (de_var 4) da_nil)) de_int) da_nil))))
  (dss_one (ds_ret (de_if (DW.dt (dw_and (dt_val (de_callG wok0 (ok_is_fraction T) (hr.mono (by decide)) T.g_is_fraction T.F_is_fraction.kp T.b_is_fraction (fun _ => pass_0) (da_cons (de_var 1) da_nil))) (dw_and1 (dt_eqS (de_callG wok0 (ok_fraction_text T) (hr.mono (by decide)) T.g_fraction_text T.F_fraction_text.kp T.b_fraction_text (fun _ => pass_0) (da_cons (de_var 1) da_nil)) (de_var 0))))) (de_var 1) de_non))))))) hF_fraction_in hX_fraction_in
set_option maxHeartbeats 4000000 in
theorem ok_layer_in (T : Top K mg) : GOk P w K mg base CX0 4 T.a_layer_in T.fd_layer_in ["word"] (spF K mg 1 F_layer_in) :=
  fn_okG (k := 3) (fb := den_layer_in) T.F_layer_in S_layer_in rfl (fun cdv A outer s H E hr => 
  (dss_cons (ds_asg (de_pt (de_var 0) de_str) (dg_tup rfl (dgs_cons (dg_name 1 S_layer_in.nd) (dgs_cons (dg_name 2 S_layer_in.nd) (dgs_cons (dg_name 3 S_layer_in.nd) dgs_nil)))))
  (dss_one (ds_ret (de_tup (da_cons (de_callG wok0 (ok_fraction_in T) (hr.mono (by decide)) T.g_fraction_in T.F_fraction_in.kp T.b_fraction_in (fun _ => pass_0) (da_cons (de_var 1) da_nil)) (da_cons (de_callG wok0 (ok_fraction_in T) (hr.mono (by decide)) T.g_fraction_in T.F_fraction_in.kp T.b_fraction_in (fun _ => pass_0) (da_cons (de_var 3) da_nil)) da_nil))))))) hF_layer_in hX_layer_in
set_option maxHeartbeats 4000000 in
theorem ok_is_less (T : Top K mg) : GOk P w K mg base CX0 1 T.a_is_less T.fd_is_less ["one", "other"] (spF K mg 2 F_is_less) :=
  fn_okG (k := 0) (fb := den_is_less) T.F_is_less S_is_less rfl (fun cdv A outer s H E hr => 
  (dss_cons (ds_asg (de_var 0) (dg_tup rfl (dgs_cons (dg_name 2 S_is_less.nd) (dgs_cons (dg_name 3 S_is_less.nd) dgs_nil))))
  (dss_cons (ds_asg (de_var 1) (dg_tup rfl (dgs_cons (dg_name 4 S_is_less.nd) (dgs_cons (dg_name 5 S_is_less.nd) dgs_nil))))
  (dss_one (ds_ret (de_lt (de_mul (de_var 2) (de_var 5)) (de_mul (de_var 4) (de_var 3)))))))) hF_is_less hX_is_less
set_option maxHeartbeats 4000000 in
theorem ok_times (T : Top K mg) : GOk P w K mg base CX0 2 T.a_times T.fd_times ["one", "other"] (spF K mg 2 F_times) :=
  fn_okG (k := 1) (fb := den_times) T.F_times S_times rfl (fun cdv A outer s H E hr => 
  (dss_cons (ds_asg (de_var 0) (dg_tup rfl (dgs_cons (dg_name 4 S_times.nd) (dgs_cons (dg_name 5 S_times.nd) dgs_nil))))
  (dss_cons (ds_asg (de_var 1) (dg_tup rfl (dgs_cons (dg_name 6 S_times.nd) (dgs_cons (dg_name 7 S_times.nd) dgs_nil))))
  (dss_cons (ds_set 2 S_times.nd (de_callG wok0 (ok_common T) (hr.mono (by decide)) T.g_common T.F_common.kp T.b_common (fun _ => pass_0) (da_cons (de_var 4) (da_cons (de_var 7) da_nil))))
  (dss_cons (ds_set 3 S_times.nd (de_callG wok0 (ok_common T) (hr.mono (by decide)) T.g_common T.F_common.kp T.b_common (fun _ => pass_0) (da_cons (de_var 6) (da_cons (de_var 5) da_nil))))
  (dss_one (ds_ret (de_tup (da_cons (de_mul (de_div (de_var 4) (de_var 2)) (de_div (de_var 6) (de_var 3))) (da_cons (de_mul (de_div (de_var 5) (de_var 3)) (de_div (de_var 7) (de_var 2))) da_nil)))))))))) hF_times hX_times
set_option maxHeartbeats 4000000 in
theorem ok_is_layer (T : Top K mg) : GOk P w K mg base CX0 3 T.a_is_layer T.fd_is_layer ["full", "thing"] (spF K mg 2 F_is_layer) :=
  fn_okG (k := 2) (fb := den_is_layer) T.F_is_layer S_is_layer rfl (fun cdv A outer s H E hr => 
  (dss_cons (ds_if (DW.dt (dw_or (dt_not (dt_val (de_isi (pe_bltn (v := .ty "tuple") (u := .type "tuple") rfl T.z_tuple (by decide +kernel) rfl) (ClsV.ty "tuple") isi_ty T.z_isinstance (de_var 1)))) (dw_or1 (dt_ne hr.units (de_len T.z_len (da_cons (de_var 1) da_nil)) de_int)))) (dss_one (ds_ret de_bl)) dss_nil)
  (dss_cons (ds_asg (de_var 1) (dg_tup rfl (dgs_cons (dg_name 2 S_is_layer.nd) (dgs_cons (dg_name 3 S_is_layer.nd) dgs_nil))))
  (dss_cons (ds_if (DW.dt (dw_or (dt_not (dt_val (de_callG wok0 (ok_is_fraction T) (hr.mono (by decide)) T.g_is_fraction T.F_is_fraction.kp T.b_is_fraction (fun _ => pass_0) (da_cons (de_var 2) da_nil)))) (dw_or1 (dt_not (dt_val (de_callG wok0 (ok_is_fraction T) (hr.mono (by decide)) T.g_is_fraction T.F_is_fraction.kp T.b_is_fraction (fun _ => pass_0) (da_cons (de_var 3) da_nil))))))) (dss_one (ds_ret de_bl)) dss_nil)
  (dss_cons (ds_if (DW.dt (dw_or (dt_val (de_callG wok0 (ok_is_less T) (hr.mono (by decide)) T.g_is_less T.F_is_less.kp T.b_is_less (fun _ => pass_0) (da_cons (de_var 2) (da_cons (de_const T.g_NOUGHT T.r_NOUGHT) da_nil)))) (dw_or1 (dt_val (de_callG wok0 (ok_is_less T) (hr.mono (by decide)) T.g_is_less T.F_is_less.kp T.b_is_less (fun _ => pass_0) (da_cons (de_var 3) (da_cons (de_const T.g_NOUGHT T.r_NOUGHT) da_nil))))))) (dss_one (ds_ret de_bl)) dss_nil)
  (dss_cons (ds_if (dt_eq hr.units (de_var 2) (de_const T.g_NOUGHT T.r_NOUGHT)) (dss_one (ds_ret (de_ne hr.units (de_var 3) (de_const T.g_NOUGHT T.r_NOUGHT)))) dss_nil)
  (dss_one (ds_ret (de_not (de_callG wok0 (ok_is_less T) (hr.mono (by decide)) T.g_is_less T.F_is_less.kp T.b_is_less (fun _ => pass_0) (da_cons (de_callG wok0 (ok_times T) (hr.mono (by decide)) T.g_times T.F_times.kp T.b_times (fun _ => pass_0) (da_cons (de_var 0) (da_cons (de_var 2) da_nil))) (da_cons (de_var 3) da_nil)))))))))))) hF_is_layer hX_is_layer
set_option maxHeartbeats 4000000 in
theorem ok_is_beneath (T : Top K mg) : GOk P w K mg base CX0 3 T.a_is_beneath T.fd_is_beneath ["one", "other"] (spF K mg 2 F_is_beneath) :=
  fn_okG (k := 2) (fb := den_is_beneath) T.F_is_beneath S_is_beneath rfl (fun cdv A outer s H E hr => 
  (dss_one (ds_ret (de_callG wok0 (ok_is_less T) (hr.mono (by decide)) T.g_is_less T.F_is_less.kp T.b_is_less (fun _ => pass_0) (da_cons (de_callG wok0 (ok_times T) (hr.mono (by decide)) T.g_times T.F_times.kp T.b_times (fun _ => pass_0) (da_cons (de_ix (de_var 1) de_int) (da_cons (de_ix (de_var 0) de_int) da_nil))) (da_cons (de_callG wok0 (ok_times T) (hr.mono (by decide)) T.g_times T.F_times.kp T.b_times (fun _ => pass_0) (da_cons (de_ix (de_var 0) de_int) (da_cons (de_ix (de_var 1) de_int) da_nil))) da_nil)))))) hF_is_beneath hX_is_beneath
set_option maxHeartbeats 4000000 in
theorem ok_read_brine (T : Top K mg) : GOk P w K mg base CX0 5 T.a_read_brine T.fd_read_brine ["full", "text"] (spF K mg 2 F_read_brine) :=
  fn_okG (k := 4) (fb := den_read_brine) T.F_read_brine S_read_brine rfl (fun cdv A outer s H E hr => 
  (dss_cons (ds_if (dt_eqS (de_var 1) de_str) (dss_one (ds_ret (de_tup da_nil))) dss_nil)
  (dss_cons (ds_set 2 S_read_brine.nd (de_lstM da_nil))
  (dss_cons (ds_for PassesOwn.never (di_enum T.z_enumerate (da_cons (de_spl (de_var 1) de_str) da_nil)) (dg_tup rfl (dgs_cons (dg_name 3 S_read_brine.nd) (dgs_cons (dg_name 4 S_read_brine.nd) dgs_nil))) (dss_cons (ds_set 5 S_read_brine.nd (de_callG wok0 (ok_layer_in T) (hr.mono (by decide)) T.g_layer_in T.F_layer_in.kp T.b_layer_in (fun _ => pass_0) (da_cons (de_var 4) da_nil)))
  (dss_cons (ds_if (DW.dt (dw_or (dt_not (dt_val (de_callG wok0 (ok_is_layer T) (hr.mono (by decide)) T.g_is_layer T.F_is_layer.kp T.b_is_layer (fun _ => pass_0) (da_cons (de_var 0) (da_cons (de_var 5) da_nil))))) (dw_or1 (DW.dt (dw_and (dt_tru (de_var 2)) (dw_and1 (dt_not (dt_val (de_callG wok0 (ok_is_beneath T) (hr.mono (by decide)) T.g_is_beneath T.F_is_beneath.kp T.b_is_beneath (fun _ => pass_0) (da_cons (de_ix (de_var 2) (de_neg de_int)) (da_cons (de_var 5) da_nil))))))))))) (dss_one ds_stk) dss_nil)
  (dss_one (ds_expr (de_append (de_var 2) (de_var 5)))))))
  (dss_one (ds_ret (de_tupOf T.z_tuple (da_cons (de_var 2) da_nil)))))))) hF_read_brine hX_read_brine
set_option maxHeartbeats 4000000 in
theorem ok__law_figures (T : Top K mg) : GOk P w K mg base CX0 2 T.a__law_figures T.fd__law_figures ["bag", "many"] (spF K mg 2 F__law_figures) :=
  fn_okG (k := 1) (fb := den__law_figures) T.F__law_figures S__law_figures rfl (fun cdv A outer s H E hr => 
  (dss_cons (ds_set 2 S__law_figures.nd (de_add de_int (de_callG wok0 (ok__law_draw T) (hr.mono (by decide)) T.g__law_draw T.F__law_draw.kp T.b__law_draw (fun _ => pass_0) (da_cons (de_var 0) (da_cons de_int da_nil)))))
  (dss_cons (ds_set 3 S__law_figures.nd (de_add de_int (de_callG wok0 (ok__law_draw T) (hr.mono (by decide)) T.g__law_draw T.F__law_draw.kp T.b__law_draw (fun _ => pass_0) (da_cons (de_var 0) (da_cons de_int da_nil)))))
  (dss_cons (ds_for PassesOwn.never (di_range1 T.z_range (da_cons (de_sub (de_var 1) de_int) da_nil)) (dg_name 4 S__law_figures.nd) (dss_one (ds_set 3 S__law_figures.nd (de_add (de_mul de_int (de_var 3)) (de_mod (de_add (de_add (de_mul (de_var 2) (de_var 4)) (de_div (de_var 4) de_int)) (de_var 2)) de_int)))))
  (dss_one (ds_ret (de_var 3))))))) hF__law_figures hX__law_figures
set_option maxHeartbeats 4000000 in
theorem ok__law_long_text (T : Top K mg) : GOk P w K mg base CX0 4 T.a__law_long_text T.fd__law_long_text ["bag", "full"] (spF K mg 2 F__law_long_text) :=
  fn_okG (k := 3) (fb := den__law_long_text) T.F__law_long_text S__law_long_text rfl (fun cdv A outer s H E hr => 
  (dss_cons (ds_set 2 S__law_long_text.nd (de_ix (de_lst (da_cons (de_add de_int (de_callG wok0 (ok__law_draw T) (hr.mono (by decide)) T.g__law_draw T.F__law_draw.kp T.b__law_draw (fun _ => pass_0) (da_cons (de_var 0) (da_cons de_int da_nil)))) (da_cons de_int da_nil))) (de_callG wok0 (ok__law_draw T) (hr.mono (by decide)) T.g__law_draw T.F__law_draw.kp T.b__law_draw (fun _ => pass_0) (da_cons (de_var 0) (da_cons de_int da_nil)))))
  (dss_cons (ds_set 3 S__law_long_text.nd (de_lstM da_nil))
  (dss_cons (ds_for PassesOwn.never (di_list (de_lst (da_cons (de_tup (da_cons de_int (da_cons de_int da_nil))) (da_cons (de_tup (da_cons de_int (da_cons de_int da_nil))) da_nil)))) (dg_name 4 S__law_long_text.nd) (dss_cons (ds_set 5 S__law_long_text.nd (de_callG wok0 (ok__law_made T) (hr.mono (by decide)) T.g__law_made T.F__law_made.kp T.b__law_made (fun _ => pass_0) (da_cons (de_callG wok0 (ok__law_figures T) (hr.mono (by decide)) T.g__law_figures T.F__law_figures.kp T.b__law_figures (fun _ => pass_0) (da_cons (de_var 0) (da_cons (de_var 2) da_nil))) (da_cons (de_callG wok0 (ok__law_figures T) (hr.mono (by decide)) T.g__law_figures T.F__law_figures.kp T.b__law_figures (fun _ => pass_0) (da_cons (de_var 0) (da_cons (de_var 2) da_nil))) da_nil))))
  (dss_one (ds_expr (de_append (de_var 3) (de_tup (da_cons (de_var 5) (da_cons (de_callG wok0 (ok__law_times T) (hr.mono (by decide)) T.g__law_times T.F__law_times.kp T.b__law_times (fun _ => pass_0) (da_cons (de_callG wok0 (ok__law_times T) (hr.mono (by decide)) T.g__law_times T.F__law_times.kp T.b__law_times (fun _ => pass_0) (da_cons (de_var 1) (da_cons (de_var 4) da_nil))) (da_cons (de_var 5) da_nil))) da_nil))))))))
  (dss_one (ds_ret (de_callG wok0 (ok__law_a_text T) (hr.mono (by decide)) T.g__law_a_text T.F__law_a_text.kp T.b__law_a_text (fun _ => pass_0) (da_cons (de_tupOf T.z_tuple (da_cons (de_var 3) da_nil)) da_nil)))))))) hF__law_long_text hX__law_long_text
set_option maxHeartbeats 4000000 in
theorem ok_law (T : Top K mg) : GOk P w K mg base CX0 14 T.a_law T.fd_law ["script"] (spF K mg 1 F_law) :=
  fn_okG (k := 13) (fb := den_law) T.F_law S_law rfl (fun cdv A outer s H E hr => 
  (dss_cons (ds_for PassesOwn.never (di_enum T.z_enumerate (da_cons (de_add (de_slice (de_var 0) do_none (do_some de_int)) (de_lst (da_cons (de_len T.z_len (da_cons (de_var 0) da_nil)) da_nil))) da_nil)) (dg_tup rfl (dgs_cons (dg_name 1 S_law.nd) (dgs_cons (dg_name 2 S_law.nd) dgs_nil))) (dss_cons (ds_set 3 S_law.nd (de_callG wok0 (ok__law_new_bag T) (hr.mono (by decide)) T.g__law_new_bag T.F__law_new_bag.kp T.b__law_new_bag (fun _ => pass_0) (da_cons (de_var 2) (da_cons (de_var 1) da_nil))))
  (dss_cons (ds_set 4 S_law.nd (de_callG wok0 (ok__law_a_full T) (hr.mono (by decide)) T.g__law_a_full T.F__law_a_full.kp T.b__law_a_full (fun _ => pass_0) (da_cons (de_var 3) da_nil)))
  (dss_cons (ds_set 5 S_law.nd (de_callG wok0 (ok__law_a_brine T) (hr.mono (by decide)) T.g__law_a_brine T.F__law_a_brine.kp T.b__law_a_brine (fun _ => pass_0) (da_cons (de_var 3) (da_cons (de_var 4) (da_cons de_int da_nil)))))
  (dss_cons (ds_if (dt_eq hr.units (de_callG wok0 (ok__law_draw T) (hr.mono (by decide)) T.g__law_draw T.F__law_draw.kp T.b__law_draw (fun _ => pass_0) (da_cons (de_var 3) (da_cons de_int da_nil))) de_int) (dss_one (ds_asg (de_callG wok0 (ok__law_long_brine T) (hr.mono (by decide)) T.g__law_long_brine T.F__law_long_brine.kp T.b__law_long_brine (fun _ => pass_0) (da_cons (de_var 3) da_nil)) (dg_tup rfl (dgs_cons (dg_name 4 S_law.nd) (dgs_cons (dg_name 5 S_law.nd) dgs_nil))))) dss_nil)
  (dss_cons (ds_set 6 S_law.nd (de_callG wok0 (ok__law_a_text T) (hr.mono (by decide)) T.g__law_a_text T.F__law_a_text.kp T.b__law_a_text (fun _ => pass_0) (da_cons (de_var 5) da_nil)))
  (dss_cons (ds_for PassesOwn.never (di_range1 T.z_range (da_cons de_int da_nil)) (dg_name 7 S_law.nd) (dss_one (ds_if (DW.dt (dw_or (dt_neS (de_callG wok0 (ok_brine_text T) (hr.mono (by decide)) T.g_brine_text T.F_brine_text.kp T.b_brine_text (fun _ => pass_0) (da_cons (de_var 5) da_nil)) (de_var 6)) (dw_or1 (dt_not (dt_val (de_callG wok0 (ok__law_same T) (hr.mono (by decide)) T.g__law_same T.F__law_same.kp T.b__law_same (fun _ => pass_0) (da_cons (de_callG wok0 (ok_read_brine T) (hr.mono (by decide)) T.g_read_brine T.F_read_brine.kp T.b_read_brine (fun _ => pass_0) (da_cons (de_var 4) (da_cons (de_var 6) da_nil))) (da_cons (de_var 5) da_nil)))))))) (dss_one (ds_ret de_bl)) dss_nil)))
  (dss_one (ds_if (dt_lt (de_var 1) de_int) (dss_cons (ds_set 6 S_law.nd (de_callG wok0 (ok__law_long_text T) (hr.mono (by decide)) T.g__law_long_text T.F__law_long_text.kp T.b__law_long_text (fun _ => pass_0) (da_cons (de_var 3) (da_cons (de_var 4) da_nil))))
  (dss_one (ds_if (dt_neS (de_callG wok0 (ok_brine_text T) (hr.mono (by decide)) T.g_brine_text T.F_brine_text.kp T.b_brine_text (fun _ => pass_0) (da_cons (de_callG wok0 (ok_read_brine T) (hr.mono (by decide)) T.g_read_brine T.F_read_brine.kp T.b_read_brine (fun _ => pass_0) (da_cons (de_var 4) (da_cons (de_var 6) da_nil))) da_nil)) (de_var 6)) (dss_one (ds_ret de_bl)) dss_nil))) dss_nil)))))))))
  (dss_one (ds_ret (de_and (de_eq hr.units (de_callG wok0 (ok_read_brine T) (hr.mono (by decide)) T.g_read_brine T.F_read_brine.kp T.b_read_brine (fun _ => pass_0) (da_cons (de_tup (da_cons de_int (da_cons de_int da_nil))) (da_cons de_str da_nil))) (de_tup da_nil)) (de_one (de_eqS (de_callG wok0 (ok_brine_text T) (hr.mono (by decide)) T.g_brine_text T.F_brine_text.kp T.b_brine_text (fun _ => pass_0) (da_cons (de_tup da_nil) da_nil)) de_str))))))) hF_law hX_law
end
set_option maxHeartbeats 0 in
theorem all_mk {K : PySem.W.Frag} {h : Heap} {mg : Str → Option Value} (X : K.In h) (G : h.Ns mainGlobals mg)
    {f0 : Addr} {od0 an0 : Option Addr} {sl0 : Array (Option Value)} {oc0 kV0 dc0 pm0 cd0 ct0 : Value}
    (a0 : PySem.W.nsIn K mainGlobals "_law_new_bag" = some (some (.ref f0))) (l0 : K.lookup f0 = some ⟨oc0, od0, .func (PySem.W.fnOf "_law_new_bag" "_law_new_bag" (defArgs s__law_new_bag) (defBody s__law_new_bag) (defScope s__law_new_bag) .none kV0 dc0 pm0 an0 cd0 ct0), sl0⟩) (c0 : PySem.W.codeIn K cd0 "_law_new_bag" = true) (k0 : PySem.W.keepIn K (.ref f0) = true)
    {f1 : Addr} {od1 an1 : Option Addr} {sl1 : Array (Option Value)} {oc1 kV1 dc1 pm1 cd1 ct1 : Value}
    (a1 : PySem.W.nsIn K mainGlobals "_law_draw" = some (some (.ref f1))) (l1 : K.lookup f1 = some ⟨oc1, od1, .func (PySem.W.fnOf "_law_draw" "_law_draw" (defArgs s__law_draw) (defBody s__law_draw) (defScope s__law_draw) .none kV1 dc1 pm1 an1 cd1 ct1), sl1⟩) (c1 : PySem.W.codeIn K cd1 "_law_draw" = true) (k1 : PySem.W.keepIn K (.ref f1) = true)
    {f2 : Addr} {od2 an2 : Option Addr} {sl2 : Array (Option Value)} {oc2 kV2 dc2 pm2 cd2 ct2 : Value}
    (a2 : PySem.W.nsIn K mainGlobals "_law_divisor" = some (some (.ref f2))) (l2 : K.lookup f2 = some ⟨oc2, od2, .func (PySem.W.fnOf "_law_divisor" "_law_divisor" (defArgs s__law_divisor) (defBody s__law_divisor) (defScope s__law_divisor) .none kV2 dc2 pm2 an2 cd2 ct2), sl2⟩) (c2 : PySem.W.codeIn K cd2 "_law_divisor" = true) (k2 : PySem.W.keepIn K (.ref f2) = true)
    {f3 : Addr} {od3 an3 : Option Addr} {sl3 : Array (Option Value)} {oc3 kV3 dc3 pm3 cd3 ct3 : Value}
    (a3 : PySem.W.nsIn K mainGlobals "_law_made" = some (some (.ref f3))) (l3 : K.lookup f3 = some ⟨oc3, od3, .func (PySem.W.fnOf "_law_made" "_law_made" (defArgs s__law_made) (defBody s__law_made) (defScope s__law_made) .none kV3 dc3 pm3 an3 cd3 ct3), sl3⟩) (c3 : PySem.W.codeIn K cd3 "_law_made" = true) (k3 : PySem.W.keepIn K (.ref f3) = true)
    {f4 : Addr} {od4 an4 : Option Addr} {sl4 : Array (Option Value)} {oc4 kV4 dc4 pm4 cd4 ct4 : Value}
    (a4 : PySem.W.nsIn K mainGlobals "_law_a_full" = some (some (.ref f4))) (l4 : K.lookup f4 = some ⟨oc4, od4, .func (PySem.W.fnOf "_law_a_full" "_law_a_full" (defArgs s__law_a_full) (defBody s__law_a_full) (defScope s__law_a_full) .none kV4 dc4 pm4 an4 cd4 ct4), sl4⟩) (c4 : PySem.W.codeIn K cd4 "_law_a_full" = true) (k4 : PySem.W.keepIn K (.ref f4) = true)
    {f5 : Addr} {od5 an5 : Option Addr} {sl5 : Array (Option Value)} {oc5 kV5 dc5 pm5 cd5 ct5 : Value}
    (a5 : PySem.W.nsIn K mainGlobals "_law_a_positive" = some (some (.ref f5))) (l5 : K.lookup f5 = some ⟨oc5, od5, .func (PySem.W.fnOf "_law_a_positive" "_law_a_positive" (defArgs s__law_a_positive) (defBody s__law_a_positive) (defScope s__law_a_positive) .none kV5 dc5 pm5 an5 cd5 ct5), sl5⟩) (c5 : PySem.W.codeIn K cd5 "_law_a_positive" = true) (k5 : PySem.W.keepIn K (.ref f5) = true)
    {f6 : Addr} {od6 an6 : Option Addr} {sl6 : Array (Option Value)} {oc6 kV6 dc6 pm6 cd6 ct6 : Value}
    (a6 : PySem.W.nsIn K mainGlobals "_law_some_water" = some (some (.ref f6))) (l6 : K.lookup f6 = some ⟨oc6, od6, .func (PySem.W.fnOf "_law_some_water" "_law_some_water" (defArgs s__law_some_water) (defBody s__law_some_water) (defScope s__law_some_water) .none kV6 dc6 pm6 an6 cd6 ct6), sl6⟩) (c6 : PySem.W.codeIn K cd6 "_law_some_water" = true) (k6 : PySem.W.keepIn K (.ref f6) = true)
    {f7 : Addr} {od7 an7 : Option Addr} {sl7 : Array (Option Value)} {oc7 kV7 dc7 pm7 cd7 ct7 : Value}
    (a7 : PySem.W.nsIn K mainGlobals "_law_times" = some (some (.ref f7))) (l7 : K.lookup f7 = some ⟨oc7, od7, .func (PySem.W.fnOf "_law_times" "_law_times" (defArgs s__law_times) (defBody s__law_times) (defScope s__law_times) .none kV7 dc7 pm7 an7 cd7 ct7), sl7⟩) (c7 : PySem.W.codeIn K cd7 "_law_times" = true) (k7 : PySem.W.keepIn K (.ref f7) = true)
    {f8 : Addr} {od8 an8 : Option Addr} {sl8 : Array (Option Value)} {oc8 kV8 dc8 pm8 cd8 ct8 : Value}
    (a8 : PySem.W.nsIn K mainGlobals "_law_a_brine" = some (some (.ref f8))) (l8 : K.lookup f8 = some ⟨oc8, od8, .func (PySem.W.fnOf "_law_a_brine" "_law_a_brine" (defArgs s__law_a_brine) (defBody s__law_a_brine) (defScope s__law_a_brine) .none kV8 dc8 pm8 an8 cd8 ct8), sl8⟩) (c8 : PySem.W.codeIn K cd8 "_law_a_brine" = true) (k8 : PySem.W.keepIn K (.ref f8) = true)
    {f9 : Addr} {od9 an9 : Option Addr} {sl9 : Array (Option Value)} {oc9 kV9 dc9 pm9 cd9 ct9 : Value}
    (a9 : PySem.W.nsIn K mainGlobals "_law_long_brine" = some (some (.ref f9))) (l9 : K.lookup f9 = some ⟨oc9, od9, .func (PySem.W.fnOf "_law_long_brine" "_law_long_brine" (defArgs s__law_long_brine) (defBody s__law_long_brine) (defScope s__law_long_brine) .none kV9 dc9 pm9 an9 cd9 ct9), sl9⟩) (c9 : PySem.W.codeIn K cd9 "_law_long_brine" = true) (k9 : PySem.W.keepIn K (.ref f9) = true)
    {f10 : Addr} {od10 an10 : Option Addr} {sl10 : Array (Option Value)} {oc10 kV10 dc10 pm10 cd10 ct10 : Value}
    (a10 : PySem.W.nsIn K mainGlobals "_law_written" = some (some (.ref f10))) (l10 : K.lookup f10 = some ⟨oc10, od10, .func (PySem.W.fnOf "_law_written" "_law_written" (defArgs s__law_written) (defBody s__law_written) (defScope s__law_written) .none kV10 dc10 pm10 an10 cd10 ct10), sl10⟩) (c10 : PySem.W.codeIn K cd10 "_law_written" = true) (k10 : PySem.W.keepIn K (.ref f10) = true)
    {f11 : Addr} {od11 an11 : Option Addr} {sl11 : Array (Option Value)} {oc11 kV11 dc11 pm11 cd11 ct11 : Value}
    (a11 : PySem.W.nsIn K mainGlobals "_law_a_text" = some (some (.ref f11))) (l11 : K.lookup f11 = some ⟨oc11, od11, .func (PySem.W.fnOf "_law_a_text" "_law_a_text" (defArgs s__law_a_text) (defBody s__law_a_text) (defScope s__law_a_text) .none kV11 dc11 pm11 an11 cd11 ct11), sl11⟩) (c11 : PySem.W.codeIn K cd11 "_law_a_text" = true) (k11 : PySem.W.keepIn K (.ref f11) = true)
    {f12 : Addr} {od12 an12 : Option Addr} {sl12 : Array (Option Value)} {oc12 kV12 dc12 pm12 cd12 ct12 : Value}
    (a12 : PySem.W.nsIn K mainGlobals "number_text" = some (some (.ref f12))) (l12 : K.lookup f12 = some ⟨oc12, od12, .func (PySem.W.fnOf "number_text" "number_text" (defArgs s_number_text) (defBody s_number_text) (defScope s_number_text) .none kV12 dc12 pm12 an12 cd12 ct12), sl12⟩) (c12 : PySem.W.codeIn K cd12 "number_text" = true) (k12 : PySem.W.keepIn K (.ref f12) = true)
    {f13 : Addr} {od13 an13 : Option Addr} {sl13 : Array (Option Value)} {oc13 kV13 dc13 pm13 cd13 ct13 : Value}
    (a13 : PySem.W.nsIn K mainGlobals "fraction_text" = some (some (.ref f13))) (l13 : K.lookup f13 = some ⟨oc13, od13, .func (PySem.W.fnOf "fraction_text" "fraction_text" (defArgs s_fraction_text) (defBody s_fraction_text) (defScope s_fraction_text) .none kV13 dc13 pm13 an13 cd13 ct13), sl13⟩) (c13 : PySem.W.codeIn K cd13 "fraction_text" = true) (k13 : PySem.W.keepIn K (.ref f13) = true)
    {f14 : Addr} {od14 an14 : Option Addr} {sl14 : Array (Option Value)} {oc14 kV14 dc14 pm14 cd14 ct14 : Value}
    (a14 : PySem.W.nsIn K mainGlobals "brine_text" = some (some (.ref f14))) (l14 : K.lookup f14 = some ⟨oc14, od14, .func (PySem.W.fnOf "brine_text" "brine_text" (defArgs s_brine_text) (defBody s_brine_text) (defScope s_brine_text) .none kV14 dc14 pm14 an14 cd14 ct14), sl14⟩) (c14 : PySem.W.codeIn K cd14 "brine_text" = true) (k14 : PySem.W.keepIn K (.ref f14) = true)
    {f15 : Addr} {od15 an15 : Option Addr} {sl15 : Array (Option Value)} {oc15 kV15 dc15 pm15 cd15 ct15 : Value}
    (a15 : PySem.W.nsIn K mainGlobals "_law_same" = some (some (.ref f15))) (l15 : K.lookup f15 = some ⟨oc15, od15, .func (PySem.W.fnOf "_law_same" "_law_same" (defArgs s__law_same) (defBody s__law_same) (defScope s__law_same) .none kV15 dc15 pm15 an15 cd15 ct15), sl15⟩) (c15 : PySem.W.codeIn K cd15 "_law_same" = true) (k15 : PySem.W.keepIn K (.ref f15) = true)
    {f16 : Addr} {od16 an16 : Option Addr} {sl16 : Array (Option Value)} {oc16 kV16 dc16 pm16 cd16 ct16 : Value}
    (a16 : PySem.W.nsIn K mainGlobals "is_number" = some (some (.ref f16))) (l16 : K.lookup f16 = some ⟨oc16, od16, .func (PySem.W.fnOf "is_number" "is_number" (defArgs s_is_number) (defBody s_is_number) (defScope s_is_number) .none kV16 dc16 pm16 an16 cd16 ct16), sl16⟩) (c16 : PySem.W.codeIn K cd16 "is_number" = true) (k16 : PySem.W.keepIn K (.ref f16) = true)
    {f17 : Addr} {od17 an17 : Option Addr} {sl17 : Array (Option Value)} {oc17 kV17 dc17 pm17 cd17 ct17 : Value}
    (a17 : PySem.W.nsIn K mainGlobals "is_whole" = some (some (.ref f17))) (l17 : K.lookup f17 = some ⟨oc17, od17, .func (PySem.W.fnOf "is_whole" "is_whole" (defArgs s_is_whole) (defBody s_is_whole) (defScope s_is_whole) .none kV17 dc17 pm17 an17 cd17 ct17), sl17⟩) (c17 : PySem.W.codeIn K cd17 "is_whole" = true) (k17 : PySem.W.keepIn K (.ref f17) = true)
    {f18 : Addr} {od18 an18 : Option Addr} {sl18 : Array (Option Value)} {oc18 kV18 dc18 pm18 cd18 ct18 : Value}
    (a18 : PySem.W.nsIn K mainGlobals "common" = some (some (.ref f18))) (l18 : K.lookup f18 = some ⟨oc18, od18, .func (PySem.W.fnOf "common" "common" (defArgs s_common) (defBody s_common) (defScope s_common) .none kV18 dc18 pm18 an18 cd18 ct18), sl18⟩) (c18 : PySem.W.codeIn K cd18 "common" = true) (k18 : PySem.W.keepIn K (.ref f18) = true)
    {f19 : Addr} {od19 an19 : Option Addr} {sl19 : Array (Option Value)} {oc19 kV19 dc19 pm19 cd19 ct19 : Value}
    (a19 : PySem.W.nsIn K mainGlobals "is_fraction" = some (some (.ref f19))) (l19 : K.lookup f19 = some ⟨oc19, od19, .func (PySem.W.fnOf "is_fraction" "is_fraction" (defArgs s_is_fraction) (defBody s_is_fraction) (defScope s_is_fraction) .none kV19 dc19 pm19 an19 cd19 ct19), sl19⟩) (c19 : PySem.W.codeIn K cd19 "is_fraction" = true) (k19 : PySem.W.keepIn K (.ref f19) = true)
    {f20 : Addr} {od20 an20 : Option Addr} {sl20 : Array (Option Value)} {oc20 kV20 dc20 pm20 cd20 ct20 : Value}
    (a20 : PySem.W.nsIn K mainGlobals "fraction_in" = some (some (.ref f20))) (l20 : K.lookup f20 = some ⟨oc20, od20, .func (PySem.W.fnOf "fraction_in" "fraction_in" (defArgs s_fraction_in) (defBody s_fraction_in) (defScope s_fraction_in) .none kV20 dc20 pm20 an20 cd20 ct20), sl20⟩) (c20 : PySem.W.codeIn K cd20 "fraction_in" = true) (k20 : PySem.W.keepIn K (.ref f20) = true)
    {f21 : Addr} {od21 an21 : Option Addr} {sl21 : Array (Option Value)} {oc21 kV21 dc21 pm21 cd21 ct21 : Value}
    (a21 : PySem.W.nsIn K mainGlobals "layer_in" = some (some (.ref f21))) (l21 : K.lookup f21 = some ⟨oc21, od21, .func (PySem.W.fnOf "layer_in" "layer_in" (defArgs s_layer_in) (defBody s_layer_in) (defScope s_layer_in) .none kV21 dc21 pm21 an21 cd21 ct21), sl21⟩) (c21 : PySem.W.codeIn K cd21 "layer_in" = true) (k21 : PySem.W.keepIn K (.ref f21) = true)
    {f22 : Addr} {od22 an22 : Option Addr} {sl22 : Array (Option Value)} {oc22 kV22 dc22 pm22 cd22 ct22 : Value}
    (a22 : PySem.W.nsIn K mainGlobals "is_less" = some (some (.ref f22))) (l22 : K.lookup f22 = some ⟨oc22, od22, .func (PySem.W.fnOf "is_less" "is_less" (defArgs s_is_less) (defBody s_is_less) (defScope s_is_less) .none kV22 dc22 pm22 an22 cd22 ct22), sl22⟩) (c22 : PySem.W.codeIn K cd22 "is_less" = true) (k22 : PySem.W.keepIn K (.ref f22) = true)
    {f23 : Addr} {od23 an23 : Option Addr} {sl23 : Array (Option Value)} {oc23 kV23 dc23 pm23 cd23 ct23 : Value}
    (a23 : PySem.W.nsIn K mainGlobals "times" = some (some (.ref f23))) (l23 : K.lookup f23 = some ⟨oc23, od23, .func (PySem.W.fnOf "times" "times" (defArgs s_times) (defBody s_times) (defScope s_times) .none kV23 dc23 pm23 an23 cd23 ct23), sl23⟩) (c23 : PySem.W.codeIn K cd23 "times" = true) (k23 : PySem.W.keepIn K (.ref f23) = true)
    {f24 : Addr} {od24 an24 : Option Addr} {sl24 : Array (Option Value)} {oc24 kV24 dc24 pm24 cd24 ct24 : Value}
    (a24 : PySem.W.nsIn K mainGlobals "is_layer" = some (some (.ref f24))) (l24 : K.lookup f24 = some ⟨oc24, od24, .func (PySem.W.fnOf "is_layer" "is_layer" (defArgs s_is_layer) (defBody s_is_layer) (defScope s_is_layer) .none kV24 dc24 pm24 an24 cd24 ct24), sl24⟩) (c24 : PySem.W.codeIn K cd24 "is_layer" = true) (k24 : PySem.W.keepIn K (.ref f24) = true)
    {f25 : Addr} {od25 an25 : Option Addr} {sl25 : Array (Option Value)} {oc25 kV25 dc25 pm25 cd25 ct25 : Value}
    (a25 : PySem.W.nsIn K mainGlobals "is_beneath" = some (some (.ref f25))) (l25 : K.lookup f25 = some ⟨oc25, od25, .func (PySem.W.fnOf "is_beneath" "is_beneath" (defArgs s_is_beneath) (defBody s_is_beneath) (defScope s_is_beneath) .none kV25 dc25 pm25 an25 cd25 ct25), sl25⟩) (c25 : PySem.W.codeIn K cd25 "is_beneath" = true) (k25 : PySem.W.keepIn K (.ref f25) = true)
    {f26 : Addr} {od26 an26 : Option Addr} {sl26 : Array (Option Value)} {oc26 kV26 dc26 pm26 cd26 ct26 : Value}
    (a26 : PySem.W.nsIn K mainGlobals "read_brine" = some (some (.ref f26))) (l26 : K.lookup f26 = some ⟨oc26, od26, .func (PySem.W.fnOf "read_brine" "read_brine" (defArgs s_read_brine) (defBody s_read_brine) (defScope s_read_brine) .none kV26 dc26 pm26 an26 cd26 ct26), sl26⟩) (c26 : PySem.W.codeIn K cd26 "read_brine" = true) (k26 : PySem.W.keepIn K (.ref f26) = true)
    {f27 : Addr} {od27 an27 : Option Addr} {sl27 : Array (Option Value)} {oc27 kV27 dc27 pm27 cd27 ct27 : Value}
    (a27 : PySem.W.nsIn K mainGlobals "_law_figures" = some (some (.ref f27))) (l27 : K.lookup f27 = some ⟨oc27, od27, .func (PySem.W.fnOf "_law_figures" "_law_figures" (defArgs s__law_figures) (defBody s__law_figures) (defScope s__law_figures) .none kV27 dc27 pm27 an27 cd27 ct27), sl27⟩) (c27 : PySem.W.codeIn K cd27 "_law_figures" = true) (k27 : PySem.W.keepIn K (.ref f27) = true)
    {f28 : Addr} {od28 an28 : Option Addr} {sl28 : Array (Option Value)} {oc28 kV28 dc28 pm28 cd28 ct28 : Value}
    (a28 : PySem.W.nsIn K mainGlobals "_law_long_text" = some (some (.ref f28))) (l28 : K.lookup f28 = some ⟨oc28, od28, .func (PySem.W.fnOf "_law_long_text" "_law_long_text" (defArgs s__law_long_text) (defBody s__law_long_text) (defScope s__law_long_text) .none kV28 dc28 pm28 an28 cd28 ct28), sl28⟩) (c28 : PySem.W.codeIn K cd28 "_law_long_text" = true) (k28 : PySem.W.keepIn K (.ref f28) = true)
    {f29 : Addr} {od29 an29 : Option Addr} {sl29 : Array (Option Value)} {oc29 kV29 dc29 pm29 cd29 ct29 : Value}
    (a29 : PySem.W.nsIn K mainGlobals "law" = some (some (.ref f29))) (l29 : K.lookup f29 = some ⟨oc29, od29, .func (PySem.W.fnOf "law" "law" (defArgs s_law) (defBody s_law) (defScope s_law) .none kV29 dc29 pm29 an29 cd29 ct29), sl29⟩) (c29 : PySem.W.codeIn K cd29 "law" = true) (k29 : PySem.W.keepIn K (.ref f29) = true)
    (z_abs : PySem.W.nsIn K mainGlobals "abs" = some none)
    (z_all : PySem.W.nsIn K mainGlobals "all" = some none)
    (z_bool : PySem.W.nsIn K mainGlobals "bool" = some none)
    (z_divmod : PySem.W.nsIn K mainGlobals "divmod" = some none)
    (z_enumerate : PySem.W.nsIn K mainGlobals "enumerate" = some none)
    (z_int : PySem.W.nsIn K mainGlobals "int" = some none)
    (z_isinstance : PySem.W.nsIn K mainGlobals "isinstance" = some none)
    (z_len : PySem.W.nsIn K mainGlobals "len" = some none)
    (z_max : PySem.W.nsIn K mainGlobals "max" = some none)
    (z_range : PySem.W.nsIn K mainGlobals "range" = some none)
    (z_sorted : PySem.W.nsIn K mainGlobals "sorted" = some none)
    (z_str : PySem.W.nsIn K mainGlobals "str" = some none)
    (z_tuple : PySem.W.nsIn K mainGlobals "tuple" = some none)
    (z_zip : PySem.W.nsIn K mainGlobals "zip" = some none)
    {t_CHUNK : Tok} (m_CHUNK : PySem.W.nsIn K mainGlobals "CHUNK" = some (some (.int 1000000000000000000000000000000000000000000000000000000000000 t_CHUNK)))
    {t_MOST_FIGURES : Tok} (m_MOST_FIGURES : PySem.W.nsIn K mainGlobals "MOST_FIGURES" = some (some (.int 400 t_MOST_FIGURES)))
    {t_FIGURES : Tok} (m_FIGURES : PySem.W.nsIn K mainGlobals "FIGURES" = some (some (.str (Str.ofString "0123456789") t_FIGURES)))
    {c_NOUGHT : Addr} {od_NOUGHT : Option Addr} {n_NOUGHT : Nat} {sl_NOUGHT : Array (Option Value)} {t0_NOUGHT t1_NOUGHT : Tok} (m_NOUGHT : PySem.W.nsIn K mainGlobals "NOUGHT" = some (some (.ref c_NOUGHT))) (l_NOUGHT : K.lookup c_NOUGHT = some ⟨.type "tuple", od_NOUGHT, .seq #[.int 0 t0_NOUGHT, .int 1 t1_NOUGHT] n_NOUGHT, sl_NOUGHT⟩)
    : ∃ T : Top K mg, T.a_law = f29 ∧ T.fd_law = PySem.W.fnOf "law" "law" (defArgs s_law) (defBody s_law) (defScope s_law) .none kV29 dc29 pm29 an29 cd29 ct29 := by
  have F0 := fun_mk (st := s__law_new_bag) l0 c0 k0
  have b0 := F0.binds (ps := ["cell", "at"]) fun _ _ _ _ _ _ us hl => match us, hl with | [_, _], _ => rfl
  have F1 := fun_mk (st := s__law_draw) l1 c1 k1
  have b1 := F1.binds (ps := ["bag", "many"]) fun _ _ _ _ _ _ us hl => match us, hl with | [_, _], _ => rfl
  have F2 := fun_mk (st := s__law_divisor) l2 c2 k2
  have b2 := F2.binds (ps := ["one", "other"]) fun _ _ _ _ _ _ us hl => match us, hl with | [_, _], _ => rfl
  have F3 := fun_mk (st := s__law_made) l3 c3 k3
  have b3 := F3.binds (ps := ["above", "below"]) fun _ _ _ _ _ _ us hl => match us, hl with | [_, _], _ => rfl
  have F4 := fun_mk (st := s__law_a_full) l4 c4 k4
  have b4 := F4.binds (ps := ["bag"]) fun _ _ _ _ _ _ us hl => match us, hl with | [_], _ => rfl
  have F5 := fun_mk (st := s__law_a_positive) l5 c5 k5
  have b5 := F5.binds (ps := ["bag"]) fun _ _ _ _ _ _ us hl => match us, hl with | [_], _ => rfl
  have F6 := fun_mk (st := s__law_some_water) l6 c6 k6
  have b6 := F6.binds (ps := ["bag", "full", "most"]) fun _ _ _ _ _ _ us hl => match us, hl with | [_, _, _], _ => rfl
  have F7 := fun_mk (st := s__law_times) l7 c7 k7
  have b7 := F7.binds (ps := ["one", "other"]) fun _ _ _ _ _ _ us hl => match us, hl with | [_, _], _ => rfl
  have F8 := fun_mk (st := s__law_a_brine) l8 c8 k8
  have b8 := F8.binds (ps := ["bag", "full", "most"]) fun _ _ _ _ _ _ us hl => match us, hl with | [_, _, _], _ => rfl
  have F9 := fun_mk (st := s__law_long_brine) l9 c9 k9
  have b9 := F9.binds (ps := ["bag"]) fun _ _ _ _ _ _ us hl => match us, hl with | [_], _ => rfl
  have F10 := fun_mk (st := s__law_written) l10 c10 k10
  have b10 := F10.binds (ps := ["one"]) fun _ _ _ _ _ _ us hl => match us, hl with | [_], _ => rfl
  have F11 := fun_mk (st := s__law_a_text) l11 c11 k11
  have b11 := F11.binds (ps := ["brine"]) fun _ _ _ _ _ _ us hl => match us, hl with | [_], _ => rfl
  have F12 := fun_mk (st := s_number_text) l12 c12 k12
  have b12 := F12.binds (ps := ["number"]) fun _ _ _ _ _ _ us hl => match us, hl with | [_], _ => rfl
  have F13 := fun_mk (st := s_fraction_text) l13 c13 k13
  have b13 := F13.binds (ps := ["one"]) fun _ _ _ _ _ _ us hl => match us, hl with | [_], _ => rfl
  have F14 := fun_mk (st := s_brine_text) l14 c14 k14
  have b14 := F14.binds (ps := ["brine"]) fun _ _ _ _ _ _ us hl => match us, hl with | [_], _ => rfl
  have F15 := fun_mk (st := s__law_same) l15 c15 k15
  have b15 := F15.binds (ps := ["found", "due"]) fun _ _ _ _ _ _ us hl => match us, hl with | [_, _], _ => rfl
  have F16 := fun_mk (st := s_is_number) l16 c16 k16
  have b16 := F16.binds (ps := ["word"]) fun _ _ _ _ _ _ us hl => match us, hl with | [_], _ => rfl
  have F17 := fun_mk (st := s_is_whole) l17 c17 k17
  have b17 := F17.binds (ps := ["thing"]) fun _ _ _ _ _ _ us hl => match us, hl with | [_], _ => rfl
  have F18 := fun_mk (st := s_common) l18 c18 k18
  have b18 := F18.binds (ps := ["a", "b"]) fun _ _ _ _ _ _ us hl => match us, hl with | [_, _], _ => rfl
  have F19 := fun_mk (st := s_is_fraction) l19 c19 k19
  have b19 := F19.binds (ps := ["thing"]) fun _ _ _ _ _ _ us hl => match us, hl with | [_], _ => rfl
  have F20 := fun_mk (st := s_fraction_in) l20 c20 k20
  have b20 := F20.binds (ps := ["word"]) fun _ _ _ _ _ _ us hl => match us, hl with | [_], _ => rfl
  have F21 := fun_mk (st := s_layer_in) l21 c21 k21
  have b21 := F21.binds (ps := ["word"]) fun _ _ _ _ _ _ us hl => match us, hl with | [_], _ => rfl
  have F22 := fun_mk (st := s_is_less) l22 c22 k22
  have b22 := F22.binds (ps := ["one", "other"]) fun _ _ _ _ _ _ us hl => match us, hl with | [_, _], _ => rfl
  have F23 := fun_mk (st := s_times) l23 c23 k23
  have b23 := F23.binds (ps := ["one", "other"]) fun _ _ _ _ _ _ us hl => match us, hl with | [_, _], _ => rfl
  have F24 := fun_mk (st := s_is_layer) l24 c24 k24
  have b24 := F24.binds (ps := ["full", "thing"]) fun _ _ _ _ _ _ us hl => match us, hl with | [_, _], _ => rfl
  have F25 := fun_mk (st := s_is_beneath) l25 c25 k25
  have b25 := F25.binds (ps := ["one", "other"]) fun _ _ _ _ _ _ us hl => match us, hl with | [_, _], _ => rfl
  have F26 := fun_mk (st := s_read_brine) l26 c26 k26
  have b26 := F26.binds (ps := ["full", "text"]) fun _ _ _ _ _ _ us hl => match us, hl with | [_, _], _ => rfl
  have F27 := fun_mk (st := s__law_figures) l27 c27 k27
  have b27 := F27.binds (ps := ["bag", "many"]) fun _ _ _ _ _ _ us hl => match us, hl with | [_, _], _ => rfl
  have F28 := fun_mk (st := s__law_long_text) l28 c28 k28
  have b28 := F28.binds (ps := ["bag", "full"]) fun _ _ _ _ _ _ us hl => match us, hl with | [_, _], _ => rfl
  have F29 := fun_mk (st := s_law) l29 c29 k29
  have b29 := F29.binds (ps := ["script"]) fun _ _ _ _ _ _ us hl => match us, hl with | [_], _ => rfl
  exact ⟨⟨f0, _, F0, b0, PySem.W.mg_of X G a0, f1, _, F1, b1, PySem.W.mg_of X G a1, f2, _, F2, b2, PySem.W.mg_of X G a2, f3, _, F3, b3, PySem.W.mg_of X G a3, f4, _, F4, b4, PySem.W.mg_of X G a4, f5, _, F5, b5, PySem.W.mg_of X G a5, f6, _, F6, b6, PySem.W.mg_of X G a6, f7, _, F7, b7, PySem.W.mg_of X G a7, f8, _, F8, b8, PySem.W.mg_of X G a8, f9, _, F9, b9, PySem.W.mg_of X G a9, f10, _, F10, b10, PySem.W.mg_of X G a10, f11, _, F11, b11, PySem.W.mg_of X G a11, f12, _, F12, b12, PySem.W.mg_of X G a12, f13, _, F13, b13, PySem.W.mg_of X G a13, f14, _, F14, b14, PySem.W.mg_of X G a14, f15, _, F15, b15, PySem.W.mg_of X G a15, f16, _, F16, b16, PySem.W.mg_of X G a16, f17, _, F17, b17, PySem.W.mg_of X G a17, f18, _, F18, b18, PySem.W.mg_of X G a18, f19, _, F19, b19, PySem.W.mg_of X G a19, f20, _, F20, b20, PySem.W.mg_of X G a20, f21, _, F21, b21, PySem.W.mg_of X G a21, f22, _, F22, b22, PySem.W.mg_of X G a22, f23, _, F23, b23, PySem.W.mg_of X G a23, f24, _, F24, b24, PySem.W.mg_of X G a24, f25, _, F25, b25, PySem.W.mg_of X G a25, f26, _, F26, b26, PySem.W.mg_of X G a26, f27, _, F27, b27, PySem.W.mg_of X G a27, f28, _, F28, b28, PySem.W.mg_of X G a28, f29, _, F29, b29, PySem.W.mg_of X G a29, PySem.W.mg_none_of X G z_abs, PySem.W.mg_none_of X G z_all, PySem.W.mg_none_of X G z_bool, PySem.W.mg_none_of X G z_divmod, PySem.W.mg_none_of X G z_enumerate, PySem.W.mg_none_of X G z_int, PySem.W.mg_none_of X G z_isinstance, PySem.W.mg_none_of X G z_len, PySem.W.mg_none_of X G z_max, PySem.W.mg_none_of X G z_range, PySem.W.mg_none_of X G z_sorted, PySem.W.mg_none_of X G z_str, PySem.W.mg_none_of X G z_tuple, PySem.W.mg_none_of X G z_zip, t_CHUNK, PySem.W.mg_of X G m_CHUNK, t_MOST_FIGURES, PySem.W.mg_of X G m_MOST_FIGURES, t_FIGURES, PySem.W.mg_of X G m_FIGURES, c_NOUGHT, PySem.W.mg_of X G m_NOUGHT, rp_c2 l_NOUGHT⟩, rfl, rfl⟩
set_option maxHeartbeats 0 in
theorem law_end {l : PySem.W.OpenLaw} {w : World} {fa : Addr} {K : PySem.W.Frag} {h : Heap} {mg : Str → Option Value} (X : K.In h) (G : h.Ns mainGlobals mg) (hfa : mg "law" = some (.ref fa))
    {f0 : Addr} {od0 an0 : Option Addr} {sl0 : Array (Option Value)} {oc0 kV0 dc0 pm0 cd0 ct0 : Value}
    (a0 : PySem.W.nsIn K mainGlobals "_law_new_bag" = some (some (.ref f0))) (l0 : K.lookup f0 = some ⟨oc0, od0, .func (PySem.W.fnOf "_law_new_bag" "_law_new_bag" (defArgs s__law_new_bag) (defBody s__law_new_bag) (defScope s__law_new_bag) .none kV0 dc0 pm0 an0 cd0 ct0), sl0⟩) (c0 : PySem.W.codeIn K cd0 "_law_new_bag" = true) (k0 : PySem.W.keepIn K (.ref f0) = true)
    {f1 : Addr} {od1 an1 : Option Addr} {sl1 : Array (Option Value)} {oc1 kV1 dc1 pm1 cd1 ct1 : Value}
    (a1 : PySem.W.nsIn K mainGlobals "_law_draw" = some (some (.ref f1))) (l1 : K.lookup f1 = some ⟨oc1, od1, .func (PySem.W.fnOf "_law_draw" "_law_draw" (defArgs s__law_draw) (defBody s__law_draw) (defScope s__law_draw) .none kV1 dc1 pm1 an1 cd1 ct1), sl1⟩) (c1 : PySem.W.codeIn K cd1 "_law_draw" = true) (k1 : PySem.W.keepIn K (.ref f1) = true)
    {f2 : Addr} {od2 an2 : Option Addr} {sl2 : Array (Option Value)} {oc2 kV2 dc2 pm2 cd2 ct2 : Value}
    (a2 : PySem.W.nsIn K mainGlobals "_law_divisor" = some (some (.ref f2))) (l2 : K.lookup f2 = some ⟨oc2, od2, .func (PySem.W.fnOf "_law_divisor" "_law_divisor" (defArgs s__law_divisor) (defBody s__law_divisor) (defScope s__law_divisor) .none kV2 dc2 pm2 an2 cd2 ct2), sl2⟩) (c2 : PySem.W.codeIn K cd2 "_law_divisor" = true) (k2 : PySem.W.keepIn K (.ref f2) = true)
    {f3 : Addr} {od3 an3 : Option Addr} {sl3 : Array (Option Value)} {oc3 kV3 dc3 pm3 cd3 ct3 : Value}
    (a3 : PySem.W.nsIn K mainGlobals "_law_made" = some (some (.ref f3))) (l3 : K.lookup f3 = some ⟨oc3, od3, .func (PySem.W.fnOf "_law_made" "_law_made" (defArgs s__law_made) (defBody s__law_made) (defScope s__law_made) .none kV3 dc3 pm3 an3 cd3 ct3), sl3⟩) (c3 : PySem.W.codeIn K cd3 "_law_made" = true) (k3 : PySem.W.keepIn K (.ref f3) = true)
    {f4 : Addr} {od4 an4 : Option Addr} {sl4 : Array (Option Value)} {oc4 kV4 dc4 pm4 cd4 ct4 : Value}
    (a4 : PySem.W.nsIn K mainGlobals "_law_a_full" = some (some (.ref f4))) (l4 : K.lookup f4 = some ⟨oc4, od4, .func (PySem.W.fnOf "_law_a_full" "_law_a_full" (defArgs s__law_a_full) (defBody s__law_a_full) (defScope s__law_a_full) .none kV4 dc4 pm4 an4 cd4 ct4), sl4⟩) (c4 : PySem.W.codeIn K cd4 "_law_a_full" = true) (k4 : PySem.W.keepIn K (.ref f4) = true)
    {f5 : Addr} {od5 an5 : Option Addr} {sl5 : Array (Option Value)} {oc5 kV5 dc5 pm5 cd5 ct5 : Value}
    (a5 : PySem.W.nsIn K mainGlobals "_law_a_positive" = some (some (.ref f5))) (l5 : K.lookup f5 = some ⟨oc5, od5, .func (PySem.W.fnOf "_law_a_positive" "_law_a_positive" (defArgs s__law_a_positive) (defBody s__law_a_positive) (defScope s__law_a_positive) .none kV5 dc5 pm5 an5 cd5 ct5), sl5⟩) (c5 : PySem.W.codeIn K cd5 "_law_a_positive" = true) (k5 : PySem.W.keepIn K (.ref f5) = true)
    {f6 : Addr} {od6 an6 : Option Addr} {sl6 : Array (Option Value)} {oc6 kV6 dc6 pm6 cd6 ct6 : Value}
    (a6 : PySem.W.nsIn K mainGlobals "_law_some_water" = some (some (.ref f6))) (l6 : K.lookup f6 = some ⟨oc6, od6, .func (PySem.W.fnOf "_law_some_water" "_law_some_water" (defArgs s__law_some_water) (defBody s__law_some_water) (defScope s__law_some_water) .none kV6 dc6 pm6 an6 cd6 ct6), sl6⟩) (c6 : PySem.W.codeIn K cd6 "_law_some_water" = true) (k6 : PySem.W.keepIn K (.ref f6) = true)
    {f7 : Addr} {od7 an7 : Option Addr} {sl7 : Array (Option Value)} {oc7 kV7 dc7 pm7 cd7 ct7 : Value}
    (a7 : PySem.W.nsIn K mainGlobals "_law_times" = some (some (.ref f7))) (l7 : K.lookup f7 = some ⟨oc7, od7, .func (PySem.W.fnOf "_law_times" "_law_times" (defArgs s__law_times) (defBody s__law_times) (defScope s__law_times) .none kV7 dc7 pm7 an7 cd7 ct7), sl7⟩) (c7 : PySem.W.codeIn K cd7 "_law_times" = true) (k7 : PySem.W.keepIn K (.ref f7) = true)
    {f8 : Addr} {od8 an8 : Option Addr} {sl8 : Array (Option Value)} {oc8 kV8 dc8 pm8 cd8 ct8 : Value}
    (a8 : PySem.W.nsIn K mainGlobals "_law_a_brine" = some (some (.ref f8))) (l8 : K.lookup f8 = some ⟨oc8, od8, .func (PySem.W.fnOf "_law_a_brine" "_law_a_brine" (defArgs s__law_a_brine) (defBody s__law_a_brine) (defScope s__law_a_brine) .none kV8 dc8 pm8 an8 cd8 ct8), sl8⟩) (c8 : PySem.W.codeIn K cd8 "_law_a_brine" = true) (k8 : PySem.W.keepIn K (.ref f8) = true)
    {f9 : Addr} {od9 an9 : Option Addr} {sl9 : Array (Option Value)} {oc9 kV9 dc9 pm9 cd9 ct9 : Value}
    (a9 : PySem.W.nsIn K mainGlobals "_law_long_brine" = some (some (.ref f9))) (l9 : K.lookup f9 = some ⟨oc9, od9, .func (PySem.W.fnOf "_law_long_brine" "_law_long_brine" (defArgs s__law_long_brine) (defBody s__law_long_brine) (defScope s__law_long_brine) .none kV9 dc9 pm9 an9 cd9 ct9), sl9⟩) (c9 : PySem.W.codeIn K cd9 "_law_long_brine" = true) (k9 : PySem.W.keepIn K (.ref f9) = true)
    {f10 : Addr} {od10 an10 : Option Addr} {sl10 : Array (Option Value)} {oc10 kV10 dc10 pm10 cd10 ct10 : Value}
    (a10 : PySem.W.nsIn K mainGlobals "_law_written" = some (some (.ref f10))) (l10 : K.lookup f10 = some ⟨oc10, od10, .func (PySem.W.fnOf "_law_written" "_law_written" (defArgs s__law_written) (defBody s__law_written) (defScope s__law_written) .none kV10 dc10 pm10 an10 cd10 ct10), sl10⟩) (c10 : PySem.W.codeIn K cd10 "_law_written" = true) (k10 : PySem.W.keepIn K (.ref f10) = true)
    {f11 : Addr} {od11 an11 : Option Addr} {sl11 : Array (Option Value)} {oc11 kV11 dc11 pm11 cd11 ct11 : Value}
    (a11 : PySem.W.nsIn K mainGlobals "_law_a_text" = some (some (.ref f11))) (l11 : K.lookup f11 = some ⟨oc11, od11, .func (PySem.W.fnOf "_law_a_text" "_law_a_text" (defArgs s__law_a_text) (defBody s__law_a_text) (defScope s__law_a_text) .none kV11 dc11 pm11 an11 cd11 ct11), sl11⟩) (c11 : PySem.W.codeIn K cd11 "_law_a_text" = true) (k11 : PySem.W.keepIn K (.ref f11) = true)
    {f12 : Addr} {od12 an12 : Option Addr} {sl12 : Array (Option Value)} {oc12 kV12 dc12 pm12 cd12 ct12 : Value}
    (a12 : PySem.W.nsIn K mainGlobals "number_text" = some (some (.ref f12))) (l12 : K.lookup f12 = some ⟨oc12, od12, .func (PySem.W.fnOf "number_text" "number_text" (defArgs s_number_text) (defBody s_number_text) (defScope s_number_text) .none kV12 dc12 pm12 an12 cd12 ct12), sl12⟩) (c12 : PySem.W.codeIn K cd12 "number_text" = true) (k12 : PySem.W.keepIn K (.ref f12) = true)
    {f13 : Addr} {od13 an13 : Option Addr} {sl13 : Array (Option Value)} {oc13 kV13 dc13 pm13 cd13 ct13 : Value}
    (a13 : PySem.W.nsIn K mainGlobals "fraction_text" = some (some (.ref f13))) (l13 : K.lookup f13 = some ⟨oc13, od13, .func (PySem.W.fnOf "fraction_text" "fraction_text" (defArgs s_fraction_text) (defBody s_fraction_text) (defScope s_fraction_text) .none kV13 dc13 pm13 an13 cd13 ct13), sl13⟩) (c13 : PySem.W.codeIn K cd13 "fraction_text" = true) (k13 : PySem.W.keepIn K (.ref f13) = true)
    {f14 : Addr} {od14 an14 : Option Addr} {sl14 : Array (Option Value)} {oc14 kV14 dc14 pm14 cd14 ct14 : Value}
    (a14 : PySem.W.nsIn K mainGlobals "brine_text" = some (some (.ref f14))) (l14 : K.lookup f14 = some ⟨oc14, od14, .func (PySem.W.fnOf "brine_text" "brine_text" (defArgs s_brine_text) (defBody s_brine_text) (defScope s_brine_text) .none kV14 dc14 pm14 an14 cd14 ct14), sl14⟩) (c14 : PySem.W.codeIn K cd14 "brine_text" = true) (k14 : PySem.W.keepIn K (.ref f14) = true)
    {f15 : Addr} {od15 an15 : Option Addr} {sl15 : Array (Option Value)} {oc15 kV15 dc15 pm15 cd15 ct15 : Value}
    (a15 : PySem.W.nsIn K mainGlobals "_law_same" = some (some (.ref f15))) (l15 : K.lookup f15 = some ⟨oc15, od15, .func (PySem.W.fnOf "_law_same" "_law_same" (defArgs s__law_same) (defBody s__law_same) (defScope s__law_same) .none kV15 dc15 pm15 an15 cd15 ct15), sl15⟩) (c15 : PySem.W.codeIn K cd15 "_law_same" = true) (k15 : PySem.W.keepIn K (.ref f15) = true)
    {f16 : Addr} {od16 an16 : Option Addr} {sl16 : Array (Option Value)} {oc16 kV16 dc16 pm16 cd16 ct16 : Value}
    (a16 : PySem.W.nsIn K mainGlobals "is_number" = some (some (.ref f16))) (l16 : K.lookup f16 = some ⟨oc16, od16, .func (PySem.W.fnOf "is_number" "is_number" (defArgs s_is_number) (defBody s_is_number) (defScope s_is_number) .none kV16 dc16 pm16 an16 cd16 ct16), sl16⟩) (c16 : PySem.W.codeIn K cd16 "is_number" = true) (k16 : PySem.W.keepIn K (.ref f16) = true)
    {f17 : Addr} {od17 an17 : Option Addr} {sl17 : Array (Option Value)} {oc17 kV17 dc17 pm17 cd17 ct17 : Value}
    (a17 : PySem.W.nsIn K mainGlobals "is_whole" = some (some (.ref f17))) (l17 : K.lookup f17 = some ⟨oc17, od17, .func (PySem.W.fnOf "is_whole" "is_whole" (defArgs s_is_whole) (defBody s_is_whole) (defScope s_is_whole) .none kV17 dc17 pm17 an17 cd17 ct17), sl17⟩) (c17 : PySem.W.codeIn K cd17 "is_whole" = true) (k17 : PySem.W.keepIn K (.ref f17) = true)
    {f18 : Addr} {od18 an18 : Option Addr} {sl18 : Array (Option Value)} {oc18 kV18 dc18 pm18 cd18 ct18 : Value}
    (a18 : PySem.W.nsIn K mainGlobals "common" = some (some (.ref f18))) (l18 : K.lookup f18 = some ⟨oc18, od18, .func (PySem.W.fnOf "common" "common" (defArgs s_common) (defBody s_common) (defScope s_common) .none kV18 dc18 pm18 an18 cd18 ct18), sl18⟩) (c18 : PySem.W.codeIn K cd18 "common" = true) (k18 : PySem.W.keepIn K (.ref f18) = true)
    {f19 : Addr} {od19 an19 : Option Addr} {sl19 : Array (Option Value)} {oc19 kV19 dc19 pm19 cd19 ct19 : Value}
    (a19 : PySem.W.nsIn K mainGlobals "is_fraction" = some (some (.ref f19))) (l19 : K.lookup f19 = some ⟨oc19, od19, .func (PySem.W.fnOf "is_fraction" "is_fraction" (defArgs s_is_fraction) (defBody s_is_fraction) (defScope s_is_fraction) .none kV19 dc19 pm19 an19 cd19 ct19), sl19⟩) (c19 : PySem.W.codeIn K cd19 "is_fraction" = true) (k19 : PySem.W.keepIn K (.ref f19) = true)
    {f20 : Addr} {od20 an20 : Option Addr} {sl20 : Array (Option Value)} {oc20 kV20 dc20 pm20 cd20 ct20 : Value}
    (a20 : PySem.W.nsIn K mainGlobals "fraction_in" = some (some (.ref f20))) (l20 : K.lookup f20 = some ⟨oc20, od20, .func (PySem.W.fnOf "fraction_in" "fraction_in" (defArgs s_fraction_in) (defBody s_fraction_in) (defScope s_fraction_in) .none kV20 dc20 pm20 an20 cd20 ct20), sl20⟩) (c20 : PySem.W.codeIn K cd20 "fraction_in" = true) (k20 : PySem.W.keepIn K (.ref f20) = true)
    {f21 : Addr} {od21 an21 : Option Addr} {sl21 : Array (Option Value)} {oc21 kV21 dc21 pm21 cd21 ct21 : Value}
    (a21 : PySem.W.nsIn K mainGlobals "layer_in" = some (some (.ref f21))) (l21 : K.lookup f21 = some ⟨oc21, od21, .func (PySem.W.fnOf "layer_in" "layer_in" (defArgs s_layer_in) (defBody s_layer_in) (defScope s_layer_in) .none kV21 dc21 pm21 an21 cd21 ct21), sl21⟩) (c21 : PySem.W.codeIn K cd21 "layer_in" = true) (k21 : PySem.W.keepIn K (.ref f21) = true)
    {f22 : Addr} {od22 an22 : Option Addr} {sl22 : Array (Option Value)} {oc22 kV22 dc22 pm22 cd22 ct22 : Value}
    (a22 : PySem.W.nsIn K mainGlobals "is_less" = some (some (.ref f22))) (l22 : K.lookup f22 = some ⟨oc22, od22, .func (PySem.W.fnOf "is_less" "is_less" (defArgs s_is_less) (defBody s_is_less) (defScope s_is_less) .none kV22 dc22 pm22 an22 cd22 ct22), sl22⟩) (c22 : PySem.W.codeIn K cd22 "is_less" = true) (k22 : PySem.W.keepIn K (.ref f22) = true)
    {f23 : Addr} {od23 an23 : Option Addr} {sl23 : Array (Option Value)} {oc23 kV23 dc23 pm23 cd23 ct23 : Value}
    (a23 : PySem.W.nsIn K mainGlobals "times" = some (some (.ref f23))) (l23 : K.lookup f23 = some ⟨oc23, od23, .func (PySem.W.fnOf "times" "times" (defArgs s_times) (defBody s_times) (defScope s_times) .none kV23 dc23 pm23 an23 cd23 ct23), sl23⟩) (c23 : PySem.W.codeIn K cd23 "times" = true) (k23 : PySem.W.keepIn K (.ref f23) = true)
    {f24 : Addr} {od24 an24 : Option Addr} {sl24 : Array (Option Value)} {oc24 kV24 dc24 pm24 cd24 ct24 : Value}
    (a24 : PySem.W.nsIn K mainGlobals "is_layer" = some (some (.ref f24))) (l24 : K.lookup f24 = some ⟨oc24, od24, .func (PySem.W.fnOf "is_layer" "is_layer" (defArgs s_is_layer) (defBody s_is_layer) (defScope s_is_layer) .none kV24 dc24 pm24 an24 cd24 ct24), sl24⟩) (c24 : PySem.W.codeIn K cd24 "is_layer" = true) (k24 : PySem.W.keepIn K (.ref f24) = true)
    {f25 : Addr} {od25 an25 : Option Addr} {sl25 : Array (Option Value)} {oc25 kV25 dc25 pm25 cd25 ct25 : Value}
    (a25 : PySem.W.nsIn K mainGlobals "is_beneath" = some (some (.ref f25))) (l25 : K.lookup f25 = some ⟨oc25, od25, .func (PySem.W.fnOf "is_beneath" "is_beneath" (defArgs s_is_beneath) (defBody s_is_beneath) (defScope s_is_beneath) .none kV25 dc25 pm25 an25 cd25 ct25), sl25⟩) (c25 : PySem.W.codeIn K cd25 "is_beneath" = true) (k25 : PySem.W.keepIn K (.ref f25) = true)
    {f26 : Addr} {od26 an26 : Option Addr} {sl26 : Array (Option Value)} {oc26 kV26 dc26 pm26 cd26 ct26 : Value}
    (a26 : PySem.W.nsIn K mainGlobals "read_brine" = some (some (.ref f26))) (l26 : K.lookup f26 = some ⟨oc26, od26, .func (PySem.W.fnOf "read_brine" "read_brine" (defArgs s_read_brine) (defBody s_read_brine) (defScope s_read_brine) .none kV26 dc26 pm26 an26 cd26 ct26), sl26⟩) (c26 : PySem.W.codeIn K cd26 "read_brine" = true) (k26 : PySem.W.keepIn K (.ref f26) = true)
    {f27 : Addr} {od27 an27 : Option Addr} {sl27 : Array (Option Value)} {oc27 kV27 dc27 pm27 cd27 ct27 : Value}
    (a27 : PySem.W.nsIn K mainGlobals "_law_figures" = some (some (.ref f27))) (l27 : K.lookup f27 = some ⟨oc27, od27, .func (PySem.W.fnOf "_law_figures" "_law_figures" (defArgs s__law_figures) (defBody s__law_figures) (defScope s__law_figures) .none kV27 dc27 pm27 an27 cd27 ct27), sl27⟩) (c27 : PySem.W.codeIn K cd27 "_law_figures" = true) (k27 : PySem.W.keepIn K (.ref f27) = true)
    {f28 : Addr} {od28 an28 : Option Addr} {sl28 : Array (Option Value)} {oc28 kV28 dc28 pm28 cd28 ct28 : Value}
    (a28 : PySem.W.nsIn K mainGlobals "_law_long_text" = some (some (.ref f28))) (l28 : K.lookup f28 = some ⟨oc28, od28, .func (PySem.W.fnOf "_law_long_text" "_law_long_text" (defArgs s__law_long_text) (defBody s__law_long_text) (defScope s__law_long_text) .none kV28 dc28 pm28 an28 cd28 ct28), sl28⟩) (c28 : PySem.W.codeIn K cd28 "_law_long_text" = true) (k28 : PySem.W.keepIn K (.ref f28) = true)
    {f29 : Addr} {od29 an29 : Option Addr} {sl29 : Array (Option Value)} {oc29 kV29 dc29 pm29 cd29 ct29 : Value}
    (a29 : PySem.W.nsIn K mainGlobals "law" = some (some (.ref f29))) (l29 : K.lookup f29 = some ⟨oc29, od29, .func (PySem.W.fnOf "law" "law" (defArgs s_law) (defBody s_law) (defScope s_law) .none kV29 dc29 pm29 an29 cd29 ct29), sl29⟩) (c29 : PySem.W.codeIn K cd29 "law" = true) (k29 : PySem.W.keepIn K (.ref f29) = true)
    (z_abs : PySem.W.nsIn K mainGlobals "abs" = some none)
    (z_all : PySem.W.nsIn K mainGlobals "all" = some none)
    (z_bool : PySem.W.nsIn K mainGlobals "bool" = some none)
    (z_divmod : PySem.W.nsIn K mainGlobals "divmod" = some none)
    (z_enumerate : PySem.W.nsIn K mainGlobals "enumerate" = some none)
    (z_int : PySem.W.nsIn K mainGlobals "int" = some none)
    (z_isinstance : PySem.W.nsIn K mainGlobals "isinstance" = some none)
    (z_len : PySem.W.nsIn K mainGlobals "len" = some none)
    (z_max : PySem.W.nsIn K mainGlobals "max" = some none)
    (z_range : PySem.W.nsIn K mainGlobals "range" = some none)
    (z_sorted : PySem.W.nsIn K mainGlobals "sorted" = some none)
    (z_str : PySem.W.nsIn K mainGlobals "str" = some none)
    (z_tuple : PySem.W.nsIn K mainGlobals "tuple" = some none)
    (z_zip : PySem.W.nsIn K mainGlobals "zip" = some none)
    {t_CHUNK : Tok} (m_CHUNK : PySem.W.nsIn K mainGlobals "CHUNK" = some (some (.int 1000000000000000000000000000000000000000000000000000000000000 t_CHUNK)))
    {t_MOST_FIGURES : Tok} (m_MOST_FIGURES : PySem.W.nsIn K mainGlobals "MOST_FIGURES" = some (some (.int 400 t_MOST_FIGURES)))
    {t_FIGURES : Tok} (m_FIGURES : PySem.W.nsIn K mainGlobals "FIGURES" = some (some (.str (Str.ofString "0123456789") t_FIGURES)))
    {c_NOUGHT : Addr} {od_NOUGHT : Option Addr} {n_NOUGHT : Nat} {sl_NOUGHT : Array (Option Value)} {t0_NOUGHT t1_NOUGHT : Tok} (m_NOUGHT : PySem.W.nsIn K mainGlobals "NOUGHT" = some (some (.ref c_NOUGHT))) (l_NOUGHT : K.lookup c_NOUGHT = some ⟨.type "tuple", od_NOUGHT, .seq #[.int 0 t0_NOUGHT, .int 1 t1_NOUGHT] n_NOUGHT, sl_NOUGHT⟩)
    : ∃ fd : FuncData, (∀ (s : Shared) (v : Value), BindsTo s fd ⟨[v], []⟩ [("script", v)]) ∧ ∀ base : Heap, K.In base → base.Ns mainGlobals mg → GOk l.prog w K mg base CX0 14 fa fd ["script"] (spL K 1 F_law) := by
  obtain ⟨T, e1, e2⟩ := all_mk X G a0 l0 c0 k0 a1 l1 c1 k1 a2 l2 c2 k2 a3 l3 c3 k3 a4 l4 c4 k4 a5 l5 c5 k5 a6 l6 c6 k6 a7 l7 c7 k7 a8 l8 c8 k8 a9 l9 c9 k9 a10 l10 c10 k10 a11 l11 c11 k11 a12 l12 c12 k12 a13 l13 c13 k13 a14 l14 c14 k14 a15 l15 c15 k15 a16 l16 c16 k16 a17 l17 c17 k17 a18 l18 c18 k18 a19 l19 c19 k19 a20 l20 c20 k20 a21 l21 c21 k21 a22 l22 c22 k22 a23 l23 c23 k23 a24 l24 c24 k24 a25 l25 c25 k25 a26 l26 c26 k26 a27 l27 c27 k27 a28 l28 c28 k28 a29 l29 c29 k29 z_abs z_all z_bool z_divmod z_enumerate z_int z_isinstance z_len z_max z_range z_sorted z_str z_tuple z_zip m_CHUNK m_MOST_FIGURES m_FIGURES m_NOUGHT l_NOUGHT
  have e := hfa.symm.trans (PySem.W.mg_of X G a29)
  cases e
  exact ⟨PySem.W.fnOf "law" "law" (defArgs s_law) (defBody s_law) (defScope s_law) .none kV29 dc29 pm29 an29 cd29 ct29, fun s v => .of_eq rfl, fun base _ _ => by have := ok_law (P := l.prog) (w := w) (base := base) T; rw [e1, e2] at this; exact this.imp spL_imp⟩
theorem np_int (i : Int) : (D.int i).np = true := rfl
theorem np_bl (i : Bool) : (D.bl i).np = true := rfl
theorem np_tup (i : List D) : (D.tup i).np = true := rfl
theorem np_lst (i : List D) : (D.lst i).np = true := rfl
theorem np_str (i : Str) : (D.str i).np = true := rfl
theorem np_non : D.non.np = true := rfl
theorem if_true_ {α : Type} (a b : α) : (if true = true then a else b) = a := rfl
theorem if_false_ {α : Type} (a b : α) : (if false = true then a else b) = b := rfl
theorem zero_add' (n : Nat) : 0 + n = n := Nat.zero_add n
theorem nat_lt_pow {n k : Nat} (m : Nat) (h : n < 2 ^ k) (l : k ≤ m) : n < 2 ^ m := Nat.lt_of_lt_of_le h (Nat.pow_le_pow_right (by decide) l)
theorem if_tt {α : Type} (a b : α) : (if True then a else b) = a := if_pos trivial
theorem if_ff {α : Type} (a b : α) : (if False then a else b) = b := if_neg id
/-! common -/
theorem common_loop : ∀ (n : Nat) (a b : Int) (M : Mem), b.natAbs < n → ∃ a', a'.natAbs = Int.gcd a b ∧
    whileF (bnd (bnd (dVar 1) fun d => bnd (ret (.int 0)) fun e => oNe d e) asB) den_common_L1 n [some (.int a), some (.int b)] M = some (.nx [some (.int a'), some (.int 0)], M)
  | 0, a, b, M, h => absurd h (by omega)
  | n + 1, a, b, M, h => by
    by_cases hb : b = 0
    · subst hb
      refine ⟨a, by simp, ?_⟩
      unfold whileF
      simp -implicitDefEqProofs only [sSeq_ap, sAsg_ap, sPar_ap, sRet_ap, sIf_ap, sExpr_ap, sNext_ap, bnd_ap, ret_ap, bindR_ok, thenR_ok, dVar_ap, varR_ok, seqR_nx, seqR_rt, asgR_ok, gNm_ap, gCn_ap, gcnR_ok, gNl_ap, gTp_fr, gTp_ap, gLs_ap, dCons_ap, dNil_ap, asB_ap, dOr_ap, dAnd_ap, dNot_ap, dAndV_ap, dOrV_ap, dNotV_ap, dIf_ap, oAdd_int, oSub_int, oLt_int, oLe_int, oGt_int, oGe_int, oNeg_int, oEq_int, oNe_int, oEq_fr, oNe_fr, oEq_bl, oNe_bl, oTup_ap, oLst_ap, oCall_ap, oAbs_ap, oMax_ap, oMin_ap, oToInt_b, oToInt_i, oLen_lst, oLen_scr, oLen_tup, oIx_lst, oIx_scr, oAdd_lst, oIx_tup, oIx_fr0, oIx_fr1, ixR_ok, oItL_ap, oItT_ap, sFor_ap, startD, List.map_cons, List.map_nil, List.length_cons, List.length_nil, List.replicate_succ, List.replicate_zero, List.cons_append, List.nil_append, List.append_nil, List.getElem?_cons_zero, List.getElem?_cons_succ, List.set_cons_zero, List.set_cons_succ, Nat.reduceAdd, Nat.reduceSub, Nat.sub_self, Nat.reduceLeDiff, List.all_cons, List.all_nil, np_fr, np_int, np_bl, np_tup, np_lst, np_str, np_non, Bool.and_self, Bool.and_true, if_true_, if_false_, zero_add', if_tt, if_ff, decide_true, decide_false, Nat.le_refl, oItS_lst, oItS_tup, oTupOf_lst, oTupOf_tup, oLstOf_lst, oLstOf_tup, oRv_lst, oRv_tup, oAdd_tup, dChain_ap, asTru_bl, asTru_tup, asTru_lst, oIsN_ap, oNotN_ap, asI_ap, oSl_tup, oSl_lst, oZip_tup, oZip_lst, oAddI_ap, oEqS_ap, oNeS_ap, oNe_nil, Bool.not_true, Bool.false_eq_true]
    · obtain ⟨a', e1, e2⟩ := common_loop n b (a.fmod b) M (by have := natAbs_fmod_lt a hb; omega)
      refine ⟨a', by rw [e1, gcd_fmod], ?_⟩
      unfold whileF
      simp -implicitDefEqProofs only [sSeq_ap, sAsg_ap, sPar_ap, sRet_ap, sIf_ap, sExpr_ap, sNext_ap, bnd_ap, ret_ap, bindR_ok, thenR_ok, dVar_ap, varR_ok, seqR_nx, seqR_rt, asgR_ok, gNm_ap, gCn_ap, gcnR_ok, gNl_ap, gTp_fr, gTp_ap, gLs_ap, dCons_ap, dNil_ap, asB_ap, dOr_ap, dAnd_ap, dNot_ap, dAndV_ap, dOrV_ap, dNotV_ap, dIf_ap, oAdd_int, oSub_int, oLt_int, oLe_int, oGt_int, oGe_int, oNeg_int, oEq_int, oNe_int, oEq_fr, oNe_fr, oEq_bl, oNe_bl, oTup_ap, oLst_ap, oCall_ap, oAbs_ap, oMax_ap, oMin_ap, oToInt_b, oToInt_i, oLen_lst, oLen_scr, oLen_tup, oIx_lst, oIx_scr, oAdd_lst, oIx_tup, oIx_fr0, oIx_fr1, ixR_ok, oItL_ap, oItT_ap, sFor_ap, startD, List.map_cons, List.map_nil, List.length_cons, List.length_nil, List.replicate_succ, List.replicate_zero, List.cons_append, List.nil_append, List.append_nil, List.getElem?_cons_zero, List.getElem?_cons_succ, List.set_cons_zero, List.set_cons_succ, Nat.reduceAdd, Nat.reduceSub, Nat.sub_self, Nat.reduceLeDiff, List.all_cons, List.all_nil, np_fr, np_int, np_bl, np_tup, np_lst, np_str, np_non, Bool.and_self, Bool.and_true, if_true_, if_false_, zero_add', if_tt, if_ff, decide_true, decide_false, Nat.le_refl, oItS_lst, oItS_tup, oTupOf_lst, oTupOf_tup, oLstOf_lst, oLstOf_tup, oRv_lst, oRv_tup, oAdd_tup, dChain_ap, asTru_bl, asTru_tup, asTru_lst, oIsN_ap, oNotN_ap, asI_ap, oSl_tup, oSl_lst, oZip_tup, oZip_lst, oAddI_ap, oEqS_ap, oNeS_ap, oNe_nil, hb, Bool.not_false]
      have e4 : den_common_L1 [some (.int a), some (.int b)] M = some (.nx [some (.int b), some (.int (a.fmod b))], M) := by
        simp -implicitDefEqProofs only [den_common_L1, sSeq_ap, sAsg_ap, sPar_ap, sRet_ap, sIf_ap, sExpr_ap, sNext_ap, bnd_ap, ret_ap, bindR_ok, thenR_ok, dVar_ap, varR_ok, seqR_nx, seqR_rt, asgR_ok, gNm_ap, gCn_ap, gcnR_ok, gNl_ap, gTp_fr, gTp_ap, gLs_ap, dCons_ap, dNil_ap, asB_ap, dOr_ap, dAnd_ap, dNot_ap, dAndV_ap, dOrV_ap, dNotV_ap, dIf_ap, oAdd_int, oSub_int, oLt_int, oLe_int, oGt_int, oGe_int, oNeg_int, oEq_int, oNe_int, oEq_fr, oNe_fr, oEq_bl, oNe_bl, oTup_ap, oLst_ap, oCall_ap, oAbs_ap, oMax_ap, oMin_ap, oToInt_b, oToInt_i, oLen_lst, oLen_scr, oLen_tup, oIx_lst, oIx_scr, oAdd_lst, oIx_tup, oIx_fr0, oIx_fr1, ixR_ok, oItL_ap, oItT_ap, sFor_ap, startD, List.map_cons, List.map_nil, List.length_cons, List.length_nil, List.replicate_succ, List.replicate_zero, List.cons_append, List.nil_append, List.append_nil, List.getElem?_cons_zero, List.getElem?_cons_succ, List.set_cons_zero, List.set_cons_succ, Nat.reduceAdd, Nat.reduceSub, Nat.sub_self, Nat.reduceLeDiff, List.all_cons, List.all_nil, np_fr, np_int, np_bl, np_tup, np_lst, np_str, np_non, Bool.and_self, Bool.and_true, if_true_, if_false_, zero_add', if_tt, if_ff, decide_true, decide_false, Nat.le_refl, oItS_lst, oItS_tup, oTupOf_lst, oTupOf_tup, oLstOf_lst, oLstOf_tup, oRv_lst, oRv_tup, oAdd_tup, dChain_ap, asTru_bl, asTru_tup, asTru_lst, oIsN_ap, oNotN_ap, asI_ap, oSl_tup, oSl_lst, oZip_tup, oZip_lst, oAddI_ap, oEqS_ap, oNeS_ap, oNe_nil, oMod_int hb]
      simp -implicitDefEqProofs only [e4, e2]
theorem common_eq (a b : Int) (M : Mem) : F_common [.int a, .int b] M = some (.ok (.int (Int.gcd a b : Nat)), M) := by
  obtain ⟨a', e1, e2⟩ := common_loop (b.natAbs + 1) a b M (by omega)
  refine runF_pure ?_ rfl
  have e3 := sWhile_eq e2
  simp -implicitDefEqProofs only [den_common, sSeq_ap, sAsg_ap, sPar_ap, sRet_ap, sIf_ap, sExpr_ap, sNext_ap, bnd_ap, ret_ap, bindR_ok, thenR_ok, dVar_ap, varR_ok, seqR_nx, seqR_rt, asgR_ok, gNm_ap, gCn_ap, gcnR_ok, gNl_ap, gTp_fr, gTp_ap, gLs_ap, dCons_ap, dNil_ap, asB_ap, dOr_ap, dAnd_ap, dNot_ap, dAndV_ap, dOrV_ap, dNotV_ap, dIf_ap, oAdd_int, oSub_int, oLt_int, oLe_int, oGt_int, oGe_int, oNeg_int, oEq_int, oNe_int, oEq_fr, oNe_fr, oEq_bl, oNe_bl, oTup_ap, oLst_ap, oCall_ap, oAbs_ap, oMax_ap, oMin_ap, oToInt_b, oToInt_i, oLen_lst, oLen_scr, oLen_tup, oIx_lst, oIx_scr, oAdd_lst, oIx_tup, oIx_fr0, oIx_fr1, ixR_ok, oItL_ap, oItT_ap, sFor_ap, startD, List.map_cons, List.map_nil, List.length_cons, List.length_nil, List.replicate_succ, List.replicate_zero, List.cons_append, List.nil_append, List.append_nil, List.getElem?_cons_zero, List.getElem?_cons_succ, List.set_cons_zero, List.set_cons_succ, Nat.reduceAdd, Nat.reduceSub, Nat.sub_self, Nat.reduceLeDiff, List.all_cons, List.all_nil, np_fr, np_int, np_bl, np_tup, np_lst, np_str, np_non, Bool.and_self, Bool.and_true, if_true_, if_false_, zero_add', if_tt, if_ff, decide_true, decide_false, Nat.le_refl, oItS_lst, oItS_tup, oTupOf_lst, oTupOf_tup, oLstOf_lst, oLstOf_tup, oRv_lst, oRv_tup, oAdd_tup, dChain_ap, asTru_bl, asTru_tup, asTru_lst, oIsN_ap, oNotN_ap, asI_ap, oSl_tup, oSl_lst, oZip_tup, oZip_lst, oAddI_ap, oEqS_ap, oNeS_ap, oNe_nil, e3]
  rw [← e1]
  congr
  split <;> omega
/-! plus -/
theorem nat_div_lt {n g k : Nat} (h : n < 2 ^ k) : n / g < 2 ^ k := Nat.lt_of_le_of_lt (Nat.div_le_self _ _) h
theorem den_nat_lt {q : Rat} {k : Nat} (h : Bd k q) : ((q.den : Int)).natAbs < 2 ^ k := by simpa using h.2
/-- times -/
theorem times_math (x y : Rat) : (x * y).num = (x.num / (Int.gcd x.num y.den : Nat)) * (y.num / (Int.gcd y.num x.den : Nat)) ∧ (x * y).den = (x.den / Int.gcd y.num x.den) * (y.den / Int.gcd x.num y.den) := by
  have e : x * y = Rat.mul x y := rfl
  have g1 : Int.gcd x.num y.den = x.num.natAbs.gcd y.den := by simp [Int.gcd]
  have g2 : Int.gcd y.num x.den = y.num.natAbs.gcd x.den := by simp [Int.gcd]
  rw [e, g1, g2]
  unfold Rat.mul
  simp -implicitDefEqProofs only [Int.divExact_eq_ediv, Nat.divExact_eq_div]
  exact ⟨trivial, trivial⟩
theorem times_eq {x y : Rat} (hx : Bd 4000 x) (hy : Bd 4000 y) (M : Mem) : F_times [frQ x, frQ y] M = some (.ok (frQ (x * y)), M) := by
  obtain ⟨m1, m2⟩ := times_math x y
  refine runF_pure ?_ rfl
  have gd : ∀ (n : Int) (d : Nat), 0 < d → 0 < Int.gcd n d ∧ Int.gcd n d ≤ d := fun n d hd => by
    have e : Int.gcd n d = n.natAbs.gcd d := by simp [Int.gcd]
    rw [e]
    exact ⟨Nat.gcd_pos_of_pos_right _ hd, Nat.gcd_le_right _ hd⟩
  obtain ⟨p1, l1⟩ := gd x.num y.den y.den_pos
  obtain ⟨p2, l2⟩ := gd y.num x.den x.den_pos
  have d1 : DivOk ((Int.gcd x.num y.den : Nat) : Int) := DivOk.of (b := 4000) (by omega) (by simpa using Nat.lt_of_le_of_lt l1 hy.2)
  have d2 : DivOk ((Int.gcd y.num x.den : Nat) : Int) := DivOk.of (b := 4000) (by omega) (by simpa using Nat.lt_of_le_of_lt l2 hx.2)
  have ab : ∀ (n : Int) (g : Nat), (n / (g : Int)).natAbs ≤ n.natAbs := fun n g => Int.natAbs_ediv_le_natAbs n g
  have k1 : MulOk (x.num / ((Int.gcd x.num y.den : Nat) : Int)) (y.num / ((Int.gcd y.num x.den : Nat) : Int)) := MulOk.of (a := 4000) (b := 4000) (Nat.lt_of_le_of_lt (ab _ _) hx.1) (Nat.lt_of_le_of_lt (ab _ _) hy.1)
  have k2 : MulOk ((x.den : Int) / ((Int.gcd y.num x.den : Nat) : Int)) ((y.den : Int) / ((Int.gcd x.num y.den : Nat) : Int)) := MulOk.of (a := 4000) (b := 4000) (Nat.lt_of_le_of_lt (ab _ _) (by simpa using hx.2)) (Nat.lt_of_le_of_lt (ab _ _) (by simpa using hy.2))
  simp -implicitDefEqProofs only [den_times, sSeq_ap, sAsg_ap, sPar_ap, sRet_ap, sIf_ap, sExpr_ap, sNext_ap, bnd_ap, ret_ap, bindR_ok, thenR_ok, dVar_ap, varR_ok, seqR_nx, seqR_rt, asgR_ok, gNm_ap, gCn_ap, gcnR_ok, gNl_ap, gTp_fr, gTp_ap, gLs_ap, dCons_ap, dNil_ap, asB_ap, dOr_ap, dAnd_ap, dNot_ap, dAndV_ap, dOrV_ap, dNotV_ap, dIf_ap, oAdd_int, oSub_int, oLt_int, oLe_int, oGt_int, oGe_int, oNeg_int, oEq_int, oNe_int, oEq_fr, oNe_fr, oEq_bl, oNe_bl, oTup_ap, oLst_ap, oCall_ap, oAbs_ap, oMax_ap, oMin_ap, oToInt_b, oToInt_i, oLen_lst, oLen_scr, oLen_tup, oIx_lst, oIx_scr, oAdd_lst, oIx_tup, oIx_fr0, oIx_fr1, ixR_ok, oItL_ap, oItT_ap, sFor_ap, startD, List.map_cons, List.map_nil, List.length_cons, List.length_nil, List.replicate_succ, List.replicate_zero, List.cons_append, List.nil_append, List.append_nil, List.getElem?_cons_zero, List.getElem?_cons_succ, List.set_cons_zero, List.set_cons_succ, Nat.reduceAdd, Nat.reduceSub, Nat.sub_self, Nat.reduceLeDiff, List.all_cons, List.all_nil, np_fr, np_int, np_bl, np_tup, np_lst, np_str, np_non, Bool.and_self, Bool.and_true, if_true_, if_false_, zero_add', if_tt, if_ff, decide_true, decide_false, Nat.le_refl, oItS_lst, oItS_tup, oTupOf_lst, oTupOf_tup, oLstOf_lst, oLstOf_tup, oRv_lst, oRv_tup, oAdd_tup, dChain_ap, asTru_bl, asTru_tup, asTru_lst, oIsN_ap, oNotN_ap, asI_ap, oSl_tup, oSl_lst, oZip_tup, oZip_lst, oAddI_ap, oEqS_ap, oNeS_ap, oNe_nil, common_eq, oDiv_int d1, oDiv_int d2, fdiv_nat, oMul_int k1, oMul_int k2]
  congr
  · exact m1.symm
  · rw [m2]; push_cast; rfl
theorem Bd.neg {n : Nat} {q : Rat} (h : Bd n q) : Bd n (-q) := by
  unfold Bd
  rw [Rat.neg_num, Rat.neg_den, Int.natAbs_neg]
  exact h
theorem Bd.inv {n : Nat} {q : Rat} (h : Bd n q) : Bd n q⁻¹ := by
  have e : q⁻¹ = Rat.inv q := rfl
  rw [e]
  unfold Rat.inv
  split
  · refine ⟨?_, h.1⟩
    show (-(q.den : Int)).natAbs < _
    rw [Int.natAbs_neg]
    exact h.2
  · split
    · exact ⟨h.2, h.1⟩
    · exact h
theorem isless_eq {x y : Rat} (hx : Bd 4000 x) (hy : Bd 4000 y) (M : Mem) : F_is_less [frQ x, frQ y] M = some (.ok (.bl (decide (x < y))), M) := by
  refine runF_pure ?_ rfl
  have k1 : MulOk x.num (y.den : Int) := MulOk.of (a := 4000) (b := 4000) hx.1 (den_nat_lt hy)
  have k2 : MulOk y.num (x.den : Int) := MulOk.of (a := 4000) (b := 4000) hy.1 (den_nat_lt hx)
  simp -implicitDefEqProofs only [den_is_less, sSeq_ap, sAsg_ap, sPar_ap, sRet_ap, sIf_ap, sExpr_ap, sNext_ap, bnd_ap, ret_ap, bindR_ok, thenR_ok, dVar_ap, varR_ok, seqR_nx, seqR_rt, asgR_ok, gNm_ap, gCn_ap, gcnR_ok, gNl_ap, gTp_fr, gTp_ap, gLs_ap, dCons_ap, dNil_ap, asB_ap, dOr_ap, dAnd_ap, dNot_ap, dAndV_ap, dOrV_ap, dNotV_ap, dIf_ap, oAdd_int, oSub_int, oLt_int, oLe_int, oGt_int, oGe_int, oNeg_int, oEq_int, oNe_int, oEq_fr, oNe_fr, oEq_bl, oNe_bl, oTup_ap, oLst_ap, oCall_ap, oAbs_ap, oMax_ap, oMin_ap, oToInt_b, oToInt_i, oLen_lst, oLen_scr, oLen_tup, oIx_lst, oIx_scr, oAdd_lst, oIx_tup, oIx_fr0, oIx_fr1, ixR_ok, oItL_ap, oItT_ap, sFor_ap, startD, List.map_cons, List.map_nil, List.length_cons, List.length_nil, List.replicate_succ, List.replicate_zero, List.cons_append, List.nil_append, List.append_nil, List.getElem?_cons_zero, List.getElem?_cons_succ, List.set_cons_zero, List.set_cons_succ, Nat.reduceAdd, Nat.reduceSub, Nat.sub_self, Nat.reduceLeDiff, List.all_cons, List.all_nil, np_fr, np_int, np_bl, np_tup, np_lst, np_str, np_non, Bool.and_self, Bool.and_true, if_true_, if_false_, zero_add', if_tt, if_ff, decide_true, decide_false, Nat.le_refl, oItS_lst, oItS_tup, oTupOf_lst, oTupOf_tup, oLstOf_lst, oLstOf_tup, oRv_lst, oRv_tup, oAdd_tup, dChain_ap, asTru_bl, asTru_tup, asTru_lst, oIsN_ap, oNotN_ap, asI_ap, oSl_tup, oSl_lst, oZip_tup, oZip_lst, oAddI_ap, oEqS_ap, oNeS_ap, oNe_nil, oMul_int k1, oMul_int k2, Rat.lt_iff]
/-! sizes -/
theorem bd_of {q : Rat} {N : Int} {Dn n : Nat} (hD : Dn ≠ 0) (e : q = mkRat N Dn) (hN : N.natAbs < 2 ^ n) (hDn : Dn < 2 ^ n) : Bd n q := by
  subst e
  rw [← Rat.normalize_eq_mkRat hD, Rat.normalize_eq]
  refine ⟨?_, ?_⟩
  · exact Nat.lt_of_le_of_lt (Int.natAbs_ediv_le_natAbs _ _) hN
  · exact nat_div_lt hDn
theorem mul_lt_pow {a b m n : Nat} (ha : a < 2 ^ m) (hb : b < 2 ^ n) : a * b < 2 ^ (m + n) := by
  rw [Nat.pow_add]; exact Nat.mul_lt_mul'' ha hb
theorem Bd.add {m n : Nat} {x y : Rat} (hx : Bd m x) (hy : Bd n y) : Bd (m + n + 1) (x + y) := by
  refine bd_of (Nat.ne_of_gt (Nat.mul_pos x.den_pos y.den_pos)) (by rw [Rat.add_def, Rat.normalize_eq_mkRat]) ?_ ?_
  · have h1 := mul_lt_pow hx.1 hy.2
    have h2 := mul_lt_pow hy.1 hx.2
    rw [Nat.add_comm n m] at h2
    have e1 : (x.num * (y.den : Int)).natAbs = x.num.natAbs * y.den := by rw [Int.natAbs_mul, Int.natAbs_natCast]
    have e2 : (y.num * (x.den : Int)).natAbs = y.num.natAbs * x.den := by rw [Int.natAbs_mul, Int.natAbs_natCast]
    have := Int.natAbs_add_le (x.num * (y.den : Int)) (y.num * (x.den : Int))
    rw [Nat.pow_succ]
    omega
  · have h3 := mul_lt_pow hx.2 hy.2
    exact nat_lt_pow _ h3 (by omega)
theorem Bd.mul {m n : Nat} {x y : Rat} (hx : Bd m x) (hy : Bd n y) : Bd (m + n) (x * y) := by
  refine bd_of (Nat.ne_of_gt (Nat.mul_pos x.den_pos y.den_pos)) (by rw [Rat.mul_def, Rat.normalize_eq_mkRat]) ?_ ?_
  · rw [Int.natAbs_mul]; exact mul_lt_pow hx.1 hy.1
  · exact mul_lt_pow hx.2 hy.2
theorem Bd.sub {m n : Nat} {x y : Rat} (hx : Bd m x) (hy : Bd n y) : Bd (m + n + 1) (x - y) := by
  rw [Rat.sub_eq_add_neg]; exact hx.add hy.neg
theorem Bd.div {m n : Nat} {x y : Rat} (hx : Bd m x) (hy : Bd n y) : Bd (m + n) (x / y) := by
  rw [Rat.div_def]; exact hx.mul hy.inv
/-! _law_low -/
theorem divInt_cross (t b : Int) (hb : b ≠ 0) : (Rat.divInt t b).num * b = t * ((Rat.divInt t b).den : Int) := by
  have h := Rat.num_divInt_den (Rat.divInt t b)
  rw [Rat.divInt_eq_divInt_iff (by have := (Rat.divInt t b).den_pos; omega) hb] at h
  exact h
theorem low_math {t b by' : Int} (hb : b ≠ 0) (e : by' = (Int.gcd t b : Int) * (if b < 0 then -1 else 1)) : D.tup [.int (t.fdiv by'), .int (b.fdiv by')] = frQ (Rat.divInt t b) := by
  have gp : 0 < Int.gcd t b := Int.gcd_pos_of_ne_zero_right t hb
  obtain ⟨t', ht⟩ : ((Int.gcd t b : Nat) : Int) ∣ t := Int.gcd_dvd_left ..
  obtain ⟨b', hb'⟩ : ((Int.gcd t b : Nat) : Int) ∣ b := Int.gcd_dvd_right ..
  have cop : Int.gcd t' b' = 1 := by
    have h := Int.gcd_mul_left ((Int.gcd t b : Nat) : Int) t' b'
    rw [← ht, ← hb', Int.natAbs_natCast] at h
    have h2 : Int.gcd t b * Int.gcd t' b' = Int.gcd t b * 1 := by rw [Nat.mul_one]; exact h.symm
    exact Nat.eq_of_mul_eq_mul_left gp h2
  have cr := divInt_cross t b hb
  generalize hg : ((Int.gcd t b : Nat) : Int) = g at *
  have gp' : 0 < g := by omega
  have s : ∃ s : Int, (s = 1 ∨ s = -1) ∧ by' = g * s ∧ 0 < b' * s := by
    split at e
    · rename_i h
      refine ⟨-1, .inr rfl, e, ?_⟩
      have : b' < 0 := by
        rcases Int.lt_or_le b' 0 with q | q
        · exact q
        · have := Int.mul_nonneg (Int.le_of_lt gp') q; omega
      omega
    · rename_i h
      refine ⟨1, .inl rfl, e, ?_⟩
      have : 0 < b' := by
        rcases Int.lt_or_le 0 b' with q | q
        · exact q
        · have h2 : g * b' ≤ 0 := Int.mul_nonpos_of_nonneg_of_nonpos (Int.le_of_lt gp') q
          omega
      omega
  obtain ⟨s, hs, e2, pb⟩ := s
  have q : ∀ z : Int, (g * z).fdiv (g * s) = z * s := fun z => by
    have : g * z = (z * s) * (g * s) := by rcases hs with h | h <;> subst h <;> grind
    rw [this]
    refine Int.mul_fdiv_cancel _ ?_
    rcases hs with h | h <;> subst h <;> omega
  have e3 : t.fdiv by' = t' * s := by rw [e2]; conv => lhs; lhs; rw [ht]
                                      exact q t'
  have e4 : b.fdiv by' = b' * s := by rw [e2]; conv => lhs; lhs; rw [hb']
                                      exact q b'
  rw [e3, e4]
  refine fr_of pb ?_ ?_
  · rcases hs with h | h <;> subst h <;> simp [cop]
  · refine Int.eq_of_mul_eq_mul_left (a := g) (by omega) ?_
    have c2 : (Rat.divInt t b).num * (g * b') = g * t' * ((Rat.divInt t b).den : Int) := by rw [← hb', ← ht]; exact cr
    grind
theorem bd_divInt {t b : Int} {n : Nat} (hb : b ≠ 0) (ht : t.natAbs < 2 ^ n) (hs : b.natAbs < 2 ^ n) : Bd n (Rat.divInt t b) := by
  rcases Int.lt_or_gt_of_ne hb with h | h
  · have e : Rat.divInt t b = mkRat (-t) b.natAbs := by
      have : -b = ((b.natAbs : Nat) : Int) := by omega
      rw [← Rat.neg_divInt_neg t b, this, Rat.divInt_ofNat]
    exact bd_of (by omega) e (by omega) (by omega)
  · have e : Rat.divInt t b = mkRat t b.natAbs := by
      have : b = ((b.natAbs : Nat) : Int) := by omega
      conv => lhs; rw [this]
      rw [Rat.divInt_ofNat]
    exact bd_of (by omega) e ht hs
/-! the reel -/
/-- at n a reel that was drawn of at most c times -/
def HasReel (c n : Nat) (M : Mem) : Prop := ∃ a r t : Int, M[n]? = some (some [.int a, .int r, .int t]) ∧ 0 ≤ a ∧ 0 ≤ r ∧ r < 2 ^ 40 ∧ 0 ≤ t ∧ t ≤ c
/-- all else stays -/
structure Turned (c n : Nat) (M M' : Mem) : Prop where
  len : M'.length = M.length
  oth : ∀ j, j ≠ n → M'[j]? = M[j]?
  has : HasReel c n M'
theorem Turned.trans {c c' n : Nat} {M M1 M2 : Mem} (a : Turned c n M M1) (b : Turned c' n M1 M2) : Turned c' n M M2 := ⟨b.len.trans a.len, fun j h => (b.oth j h).trans (a.oth j h), b.has⟩
theorem HasReel.mono {c c' n : Nat} {M : Mem} (h : HasReel c n M) (l : c ≤ c') : HasReel c' n M := by
  obtain ⟨a, r, t, e, h1, h2, h3, h4, h5⟩ := h
  exact ⟨a, r, t, e, h1, h2, h3, h4, by omega⟩
theorem Turned.mono {c c' n : Nat} {M M1 : Mem} (a : Turned c n M M1) (l : c ≤ c') : Turned c' n M M1 := ⟨a.len, a.oth, a.has.mono l⟩
theorem HasReel.lt {c n : Nat} {M : Mem} (h : HasReel c n M) : n < M.length := by
  obtain ⟨a, r, t, e, _⟩ := h
  rcases Nat.lt_or_ge n M.length with q | q
  · exact q
  · rw [List.getElem?_eq_none q] at e; cases e
theorem atI_mem {α : Type} {l : List α} {i : Int} (h0 : 0 ≤ i) (h : i < l.length) : ∃ d, atI l i = some d ∧ d ∈ l := by
  obtain ⟨j, rfl⟩ : ∃ j : Nat, i = j := ⟨i.toNat, by omega⟩
  have hj : j < l.length := by omega
  exact ⟨l[j], by rw [atI_nat', List.getElem?_eq_getElem hj], List.getElem_mem hj⟩
theorem atI3_0 {α : Type} (x y z : α) : atI [x, y, z] 0 = some x := rfl
theorem atI3_1 {α : Type} (x y z : α) : atI [x, y, z] 1 = some y := rfl
theorem atI3_2 {α : Type} (x y z : α) : atI [x, y, z] 2 = some z := rfl
theorem ixN3_0 : ixN 3 0 = some 0 := rfl
theorem ixN3_2 : ixN 3 2 = some 2 := rfl
theorem fmod_pos {i m : Int} (h : 0 < m) : 0 ≤ i.fmod m ∧ i.fmod m < m := ⟨Int.fmod_nonneg_of_pos i h, Int.fmod_lt_of_pos i h⟩
theorem natAbs_lt_of {x : Int} {k : Nat} (h0 : 0 ≤ x) (h : x < 2 ^ k) : x.natAbs < 2 ^ k := by
  have : (x.natAbs : Int) = x := by omega
  have h2 : (x.natAbs : Int) < ((2 ^ k : Nat) : Int) := by rw [this]; push_cast; exact h
  exact_mod_cast h2
theorem runF1 {N : List Str} {fb : Sv} {ds es : List D} {M : Mem} (h : fb (startD N ds) M = some (.rt (.ptr M.length), M ++ [some es])) : runF 1 N fb ds M = some (.ok (.ptr M.length), M ++ [some es]) := by
  unfold runF
  rw [h]
  dsimp only
  rw [if_pos ⟨by simp, by unfold D.ptLt; simp⟩, List.take_of_length_le (by simp)]
theorem oNew3 (x y z : Int) (ρ : Env) (M : Mem) : oNew [.int x, .int y, .int z] ρ M = some (.ok (.ptr M.length), M ++ [some [.int x, .int y, .int z]]) := rfl
theorem pow10_18 (ρ : Env) (M : Mem) : oPow (.int 10) (.int 18) ρ M = some (.ok (.int (10 ^ 18)), M) := rfl
theorem atI_lit {l : List D} {i : Int} {P : Int → Prop} (h0 : 0 ≤ i) (h : i < l.length) (hP : ∀ d ∈ l, ∃ k, d = .int k ∧ P k) : ∃ k, atI l i = some (.int k) ∧ P k := by
  obtain ⟨d, e, m⟩ := atI_mem h0 h
  obtain ⟨k, rfl, hk⟩ := hP d m
  exact ⟨k, e, hk⟩
/-! a comprehension that draws -/
/-! a comprehension whose parts are pure -/
theorem lcGo_pf {b : Tg} {tt : Ev Bool} {te : Ev D} {n0 : Nat} {ρw : Env} {p : D → Bool} {g : D → D} : ∀ (ds : List D) (M : Mem) (acc : List D), (∀ d ∈ ds, ∃ ρ1, b d ρw = some ρ1 ∧ (∀ M, tt ρ1 M = some (.ok (p d), M)) ∧ (p d = true → (g d).np = true ∧ ∀ M, te ρ1 M = some (.ok (g d), M))) → M[n0]? = some (some acc) → acc.length + ds.length ≤ 100000 →
    ∃ M', lcGo b tt te n0 ρw ds M = some M' ∧ M' = M.set n0 (some (acc ++ (ds.filter p).map g))
  | [], M, acc, h, hM, hl => by
    refine ⟨M, rfl, ?_⟩
    have hn : n0 < M.length := by
      rcases Nat.lt_or_ge n0 M.length with q | q
      · exact q
      · rw [List.getElem?_eq_none q] at hM; cases hM
    rw [List.getElem?_eq_getElem hn] at hM
    have e := Option.some.inj hM
    rw [List.filter_nil, List.map_nil, List.append_nil, ← e]
    exact (List.set_getElem_self hn).symm
  | d :: ds, M, acc, h, hM, hl => by
    obtain ⟨ρ1, e1, e2, e3⟩ := h d (by simp)
    rw [List.length_cons] at hl
    have hn : n0 < M.length := by
      rcases Nat.lt_or_ge n0 M.length with q | q
      · exact q
      · rw [List.getElem?_eq_none q] at hM; cases hM
    cases hp : p d with
    | true =>
      obtain ⟨e4, e5⟩ := e3 hp
      obtain ⟨M', g1, g2⟩ := lcGo_pf (p := p) (g := g) ds (M.set n0 (some (acc ++ [g d]))) (acc ++ [g d]) (fun x hx => h x (by simp [hx])) (List.getElem?_set_self hn) (by simp; omega)
      refine ⟨M', ?_, ?_⟩
      · unfold lcGo
        rw [e1]
        dsimp only
        rw [e2, hp]
        dsimp only
        rw [e5]
        dsimp only
        rw [hM]
        dsimp only
        rw [if_pos ⟨e4, by omega⟩]
        exact g1
      · rw [g2, List.set_set, List.filter_cons_of_pos hp, List.map_cons, List.append_assoc]; rfl
    | false =>
      obtain ⟨M', g1, g2⟩ := lcGo_pf (p := p) (g := g) ds M acc (fun x hx => h x (by simp [hx])) hM (by omega)
      refine ⟨M', ?_, ?_⟩
      · unfold lcGo
        rw [e1]
        dsimp only
        rw [e2, hp]
        exact g1
      · rw [g2, List.filter_cons_of_neg (by simp [hp])]
theorem oLc_pf {b : Tg} {tt : Ev Bool} {te : Ev D} {ρ : Env} {vs : List Nat} {p : D → Bool} {g : D → D} {ds : List D} {M : Mem} (h : ∀ d ∈ ds, ∃ ρ1, b d (wipeD ρ vs) = some ρ1 ∧ (∀ M, tt ρ1 M = some (.ok (p d), M)) ∧ (p d = true → (g d).np = true ∧ ∀ M, te ρ1 M = some (.ok (g d), M))) (hl : ds.length ≤ 100000) : oLc b tt te vs ds ρ M = some (.ok (.lst ((ds.filter p).map g)), M) := by
  obtain ⟨M', g1, g2⟩ := lcGo_pf (n0 := M.length) ds (M ++ [some []]) [] h (by rw [List.getElem?_append_right (Nat.le_refl _), Nat.sub_self]; rfl) (by simpa using hl)
  unfold oLc
  rw [g1]
  dsimp only
  unfold lcEnd
  have e : M'[M.length]? = some (some ((ds.filter p).map g)) := by
    rw [g2, List.getElem?_set_self (by simp)]; simp
  rw [e]
  dsimp only
  have hl2 : M'.length = M.length + 1 := by rw [g2]; simp
  rw [if_pos hl2, g2, List.take_set_of_le (Nat.le_refl _), List.take_left]
/-! the drawn layers -/
theorem divInt_pos {a b : Int} (ha : 0 < a) (hb : 0 < b) : 0 < Rat.divInt a b := by
  rw [Rat.divInt_eq_div, Rat.div_def]
  exact Rat.mul_pos (Rat.intCast_pos.mpr ha) (Rat.inv_pos.mpr (Rat.intCast_pos.mpr hb))
theorem divInt_nn {a b : Int} (ha : 0 ≤ a) (hb : 0 ≤ b) : 0 ≤ Rat.divInt a b := Rat.divInt_nonneg ha hb
theorem coprime_full : ∀ a ∈ [7, 101, 499, 997, (1 : Int)], ∀ b ∈ [11, 89, 503, 991, (1000 : Int)], Int.gcd a b = 1 := by decide
/-- a full strength -/
structure FullOk (f : Rat) : Prop where
  pos : 0 < f
  bd : Bd 10 f
  low : 1 ≤ 1000 * f
theorem low_of {a b : Int} (h : Int.gcd a b = 1) (hb : 0 < b) : D.tup [.int a, .int b] = frQ (Rat.divInt a b) := fr_of hb h (by
  have := divInt_cross a b (by omega)
  exact this.symm)
theorem int_fr (i : Int) : D.tup [.int i, .int 1] = frQ (i : Rat) := rfl
/-! a layer -/
def lyQ (p : Rat × Rat) : D := .tup [frQ p.1, frQ p.2]
structure LayOk (f : Rat) (p : Rat × Rat) : Prop where
  w : 0 ≤ p.1
  s : 0 ≤ p.2
  nz : p.1 = 0 → 0 < p.2
  le : 0 < p.1 → p.2 ≤ f * p.1
structure BdL (n : Nat) (p : Rat × Rat) : Prop where
  w : Bd n p.1
  s : Bd n p.2
theorem BdL.mono {m n : Nat} {p : Rat × Rat} (h : BdL m p) (l : m ≤ n) : BdL n p := ⟨h.w.mono l, h.s.mono l⟩
theorem one_fr : D.tup [.int 1, .int 1] = frQ 1 := rfl
theorem np_ly (p : Rat × Rat) : (lyQ p).np = true := rfl
theorem div_le_div {a b N E : Int} (hb : 0 < b) (hE : 0 < E) (h : a * E ≤ N * b) : Rat.divInt a b ≤ Rat.divInt N E := by
  rw [Rat.divInt_eq_div, Rat.divInt_eq_div]
  have hb' : (0 : Rat) < (b : Rat) := Rat.intCast_pos.mpr hb
  have hE' : (0 : Rat) < (E : Rat) := Rat.intCast_pos.mpr hE
  refine Rat.le_of_mul_le_mul_right (c := (b : Rat) * (E : Rat)) ?_ (Rat.mul_pos hb' hE')
  have e1 : (a : Rat) / (b : Rat) * ((b : Rat) * (E : Rat)) = ((a * E : Int) : Rat) := by
    rw [← Rat.mul_assoc, Rat.div_mul_cancel (Rat.ne_of_gt hb'), Rat.intCast_mul]
  have e2 : (N : Rat) / (E : Rat) * ((b : Rat) * (E : Rat)) = ((N * b : Int) : Rat) := by
    rw [Rat.mul_comm (b : Rat), ← Rat.mul_assoc, Rat.div_mul_cancel (Rat.ne_of_gt hE'), Rat.intCast_mul]
  rw [e1, e2]
  exact Rat.intCast_le_intCast.mpr h
theorem mul_divInt (f q : Rat) : f * q = Rat.divInt (f.num * q.num) ((f.den : Int) * (q.den : Int)) := by
  rw [Rat.mul_def', ← Rat.divInt_ofNat]
  push_cast
  rfl
/-! rows of layers -/
theorem toPys_map {α : Type} (g : α → D) : ∀ l : List α, toPys (l.map g) = l.map fun x => toPy (g x)
  | [] => rfl
  | x :: l => by rw [List.map_cons, toPys, toPys_map g l, List.map_cons]
theorem ly_lay (p : Rat × Rat) : (toPy (lyQ p)).canLay0 = true ∧ (toPy (lyQ p)).depth ≤ 60 := ⟨rfl, by simp [lyQ, frQ, toPy, toPys, PyData.depth, PyData.depthAll]⟩
theorem shaped_lys (ps : List (Rat × Rat)) : SeqAt.shaped (.list (toPys (ps.map lyQ))) = true ∧ SeqAt.shaped (.tuple (toPys (ps.map lyQ))) = true := shaped_row (by
  simp -implicitDefEqProofs only [List.mem_map]
  rintro d ⟨q, _, rfl⟩
  exact ly_lay q)
theorem plL_lys (ps : List (Rat × Rat)) : plL (ps.map lyQ) = true := plL_of (by
  simp -implicitDefEqProofs only [List.mem_map]
  rintro d ⟨q, _, rfl⟩
  rfl)
/-- a row at m, a reel at n -/
structure Rw (c n m : Nat) (f : Rat) (ps : List (Rat × Rat)) (M : Mem) : Prop where
  has : HasReel c n M
  lst : M[m]? = some (some (ps.map lyQ))
  ne : n ≠ m
  ok : ∀ p ∈ ps, LayOk f p ∧ BdL 34 p
theorem Rw.turn {c c' n m : Nat} {f : Rat} {ps : List (Rat × Rat)} {M M' : Mem} (g : Rw c n m f ps M) (t : Turned c' n M M') : Rw c' n m f ps M' := ⟨t.has, by rw [t.oth m (Ne.symm g.ne)]; exact g.lst, g.ne, g.ok⟩
theorem Rw.lt {c n m : Nat} {f : Rat} {ps : List (Rat × Rat)} {M : Mem} (g : Rw c n m f ps M) : m < M.length := (List.getElem?_eq_some_iff.mp g.lst).1
theorem Rw.push {c n m : Nat} {f : Rat} {ps : List (Rat × Rat)} {M : Mem} {p : Rat × Rat} (g : Rw c n m f ps M) (h : LayOk f p ∧ BdL 34 p) : Rw c n m f (ps ++ [p]) (M.set m (some (ps.map lyQ ++ [lyQ p]))) := by
  refine ⟨?_, ?_, g.ne, fun x hx => ?_⟩
  · obtain ⟨a, r, t, e, rest⟩ := g.has
    exact ⟨a, r, t, by rw [List.getElem?_set_ne (Ne.symm g.ne)]; exact e, rest⟩
  · rw [List.getElem?_set_self g.lt, List.map_append]; rfl
  · rcases List.mem_append.mp hx with z | z
    · exact g.ok x z
    · simp at z; subst z; exact h
theorem seq_step {f g : Sv} {ρ ρ1 : Env} {M M1 : Mem} (h : f ρ M = some (.nx ρ1, M1)) : sSeq f g ρ M = g ρ1 M1 := by rw [sSeq_ap, h, seqR_nx]
theorem kA1 : kitB "NoneType" "int" = some false := by decide +kernel
theorem kA2 : kitB "bool" "int" = some true := by decide +kernel
theorem kA3 : kitB "int" "int" = some true := by decide +kernel
theorem kA4 : kitB "str" "int" = some false := by decide +kernel
theorem kA5 : kitB "tuple" "int" = some false := by decide +kernel
theorem kA6 : kitB "list" "int" = some false := by decide +kernel
theorem kA7 : kitB "dict" "int" = some false := by decide +kernel
theorem kB1 : kitB "NoneType" "bool" = some false := by decide +kernel
theorem kB2 : kitB "bool" "bool" = some true := by decide +kernel
theorem kB3 : kitB "int" "bool" = some false := by decide +kernel
theorem kB4 : kitB "str" "bool" = some false := by decide +kernel
theorem kB5 : kitB "tuple" "bool" = some false := by decide +kernel
theorem kB6 : kitB "list" "bool" = some false := by decide +kernel
theorem kB7 : kitB "dict" "bool" = some false := by decide +kernel
theorem kC1 : kitB "NoneType" "tuple" = some false := by decide +kernel
theorem kC2 : kitB "bool" "tuple" = some false := by decide +kernel
theorem kC3 : kitB "int" "tuple" = some false := by decide +kernel
theorem kC4 : kitB "str" "tuple" = some false := by decide +kernel
theorem kC5 : kitB "tuple" "tuple" = some true := by decide +kernel
theorem kC6 : kitB "list" "tuple" = some false := by decide +kernel
theorem kC7 : kitB "dict" "tuple" = some false := by decide +kernel
def isI : D → Bool
  | .int _ => true
  | .bl _ => true
  | _ => false
def isBl : D → Bool
  | .bl _ => true
  | _ => false
def isT : D → Bool
  | .tup _ => true
  | _ => false
def isWh : D → Bool
  | .int _ => true
  | _ => false
theorem oIsi_int {d : D} (h : d.np = true) (tx : Str → Option Bool) (ρ : Env) (M : Mem) : oIsi (fun a => kitB a "int") tx d ρ M = some (.ok (.bl (isI d)), M) := by
  cases d <;> first | (cases h; done) | (unfold oIsi; simp -implicitDefEqProofs only [kA1, kA2, kA3, kA4, kA5, kA6, kA7, isI])
theorem oIsi_bool {d : D} (h : d.np = true) (tx : Str → Option Bool) (ρ : Env) (M : Mem) : oIsi (fun a => kitB a "bool") tx d ρ M = some (.ok (.bl (isBl d)), M) := by
  cases d <;> first | (cases h; done) | (unfold oIsi; simp -implicitDefEqProofs only [kB1, kB2, kB3, kB4, kB5, kB6, kB7, isBl])
theorem oIsi_tup {d : D} (h : d.np = true) (tx : Str → Option Bool) (ρ : Env) (M : Mem) : oIsi (fun a => kitB a "tuple") tx d ρ M = some (.ok (.bl (isT d)), M) := by
  cases d <;> first | (cases h; done) | (unfold oIsi; simp -implicitDefEqProofs only [kC1, kC2, kC3, kC4, kC5, kC6, kC7, isT])
theorem whole_ev {f : Ev D} {ρ : Env} {M : Mem} {d : D} (e : f ρ M = some (.ok d, M)) (h : d.np = true) : dAndV (bnd f (oIsi (fun a => kitB a "int") (fun _ => none))) (dNotV (bnd f (oIsi (fun a => kitB a "bool") (fun _ => none)))) ρ M = some (.ok (.bl (isWh d)), M) := by
  simp -implicitDefEqProofs only [sSeq_ap, sAsg_ap, sPar_ap, sRet_ap, sIf_ap, sExpr_ap, sNext_ap, bnd_ap, ret_ap, bindR_ok, thenR_ok, dVar_ap, varR_ok, seqR_nx, seqR_rt, asgR_ok, gNm_ap, gCn_ap, gcnR_ok, gNl_ap, gTp_fr, gTp_ap, gLs_ap, dCons_ap, dNil_ap, asB_ap, dOr_ap, dAnd_ap, dNot_ap, dAndV_ap, dOrV_ap, dNotV_ap, dIf_ap, oAdd_int, oSub_int, oLt_int, oLe_int, oGt_int, oGe_int, oNeg_int, oEq_int, oNe_int, oEq_fr, oNe_fr, oEq_bl, oNe_bl, oTup_ap, oLst_ap, oCall_ap, oAbs_ap, oMax_ap, oMin_ap, oToInt_b, oToInt_i, oLen_lst, oLen_scr, oLen_tup, oIx_lst, oIx_scr, oAdd_lst, oIx_tup, oIx_fr0, oIx_fr1, ixR_ok, oItL_ap, oItT_ap, sFor_ap, startD, List.map_cons, List.map_nil, List.length_cons, List.length_nil, List.replicate_succ, List.replicate_zero, List.cons_append, List.nil_append, List.append_nil, List.getElem?_cons_zero, List.getElem?_cons_succ, List.set_cons_zero, List.set_cons_succ, Nat.reduceAdd, Nat.reduceSub, Nat.sub_self, Nat.reduceLeDiff, List.all_cons, List.all_nil, np_fr, np_int, np_bl, np_tup, np_lst, np_str, np_non, Bool.and_self, Bool.and_true, if_true_, if_false_, zero_add', if_tt, if_ff, decide_true, decide_false, Nat.le_refl, oItS_lst, oItS_tup, oTupOf_lst, oTupOf_tup, oLstOf_lst, oLstOf_tup, oRv_lst, oRv_tup, oAdd_tup, dChain_ap, asTru_bl, asTru_tup, asTru_lst, oIsN_ap, oNotN_ap, asI_ap, oSl_tup, oSl_lst, oZip_tup, oZip_lst, oAddI_ap, oEqS_ap, oNeS_ap, oNe_nil, e, oIsi_int h, oIsi_bool h]
  cases d <;> first | rfl | (cases h; done)
theorem isWh_eq {d : D} (h : d.np = true) (M : Mem) : F_is_whole [d] M = some (.ok (.bl (isWh d)), M) := by
  refine runF_pure ?_ rfl
  have e : dVar 0 [some d] M = some (.ok d, M) := rfl
  have st : startD ["thing"] [d] = [some d] := rfl
  unfold den_is_whole
  rw [st, sRet_ap, whole_ev e h, thenR_ok]
def isF : D → Bool
  | .tup [x, y] => match x, y with
    | .int a, .int b => decide (0 < b) && decide (((Int.gcd a b : Nat) : Int) = 1)
    | _, _ => false
  | _ => false
structure Good (d : D) : Prop where
  np : d.np = true
  el : ∀ ds, d = .tup ds → ds.all D.np = true
theorem isF_len {ds : List D} (h : ds.length ≠ 2) : isF (.tup ds) = false := by
  match ds, h with
  | [], _ => rfl
  | [x], _ => rfl
  | [x, y], h => exact absurd rfl h
  | x :: y :: z :: r, _ => rfl
theorem isfr_len {ds : List D} (h : ds.length ≠ 2) (M : Mem) : F_is_fraction [.tup ds] M = some (.ok (.bl (isF (.tup ds))), M) := by
  refine runF_pure ?_ rfl
  have e : decide ((ds.length : Int) = 2) = false := decide_eq_false (by omega)
  simp -implicitDefEqProofs only [den_is_fraction, sSeq_ap, sAsg_ap, sPar_ap, sRet_ap, sIf_ap, sExpr_ap, sNext_ap, bnd_ap, ret_ap, bindR_ok, thenR_ok, dVar_ap, varR_ok, seqR_nx, seqR_rt, asgR_ok, gNm_ap, gCn_ap, gcnR_ok, gNl_ap, gTp_fr, gTp_ap, gLs_ap, dCons_ap, dNil_ap, asB_ap, dOr_ap, dAnd_ap, dNot_ap, dAndV_ap, dOrV_ap, dNotV_ap, dIf_ap, oAdd_int, oSub_int, oLt_int, oLe_int, oGt_int, oGe_int, oNeg_int, oEq_int, oNe_int, oEq_fr, oNe_fr, oEq_bl, oNe_bl, oTup_ap, oLst_ap, oCall_ap, oAbs_ap, oMax_ap, oMin_ap, oToInt_b, oToInt_i, oLen_lst, oLen_scr, oLen_tup, oIx_lst, oIx_scr, oAdd_lst, oIx_tup, oIx_fr0, oIx_fr1, ixR_ok, oItL_ap, oItT_ap, sFor_ap, startD, List.map_cons, List.map_nil, List.length_cons, List.length_nil, List.replicate_succ, List.replicate_zero, List.cons_append, List.nil_append, List.append_nil, List.getElem?_cons_zero, List.getElem?_cons_succ, List.set_cons_zero, List.set_cons_succ, Nat.reduceAdd, Nat.reduceSub, Nat.sub_self, Nat.reduceLeDiff, List.all_cons, List.all_nil, np_fr, np_int, np_bl, np_tup, np_lst, np_str, np_non, Bool.and_self, Bool.and_true, if_true_, if_false_, zero_add', if_tt, if_ff, decide_true, decide_false, Nat.le_refl, oItS_lst, oItS_tup, oTupOf_lst, oTupOf_tup, oLstOf_lst, oLstOf_tup, oRv_lst, oRv_tup, oAdd_tup, dChain_ap, asTru_bl, asTru_tup, asTru_lst, oIsN_ap, oNotN_ap, asI_ap, oSl_tup, oSl_lst, oZip_tup, oZip_lst, oAddI_ap, oEqS_ap, oNeS_ap, oNe_nil, oIsi_tup (np_tup ds), isT, e, isF_len h, Bool.not_true, Bool.not_false, Bool.false_eq_true]
theorem isfr_two {x y : D} (el : x.np = true ∧ y.np = true) (M : Mem) : F_is_fraction [.tup [x, y]] M = some (.ok (.bl (isF (.tup [x, y]))), M) := by
  refine runF_pure ?_ rfl
  have n2 : decide ((2 : Int) = 2) = true := rfl
  have l2 : ∀ ρ M, oLen [.tup [x, y]] ρ M = some (.ok (.int 2), M) := fun _ _ => rfl
  have tp : ∀ c ρ, gTp 2 c (.tup [x, y]) ρ = c [x, y] ρ := fun _ _ => rfl
  have it : ∀ ρ M, oIsi (fun a => kitB a "tuple") (fun _ => none) (.tup [x, y]) ρ M = some (.ok (.bl true), M) := fun ρ M => oIsi_tup (np_tup _) _ ρ M
  by_cases hx : isWh x = true
  · by_cases hy : isWh y = true
    · cases x <;> first | (cases hx; done) | skip
      cases y <;> first | (cases hy; done) | skip
      rename_i a b
      by_cases hb : 0 < b
      · by_cases hg : ((Int.gcd a b : Nat) : Int) = 1
        · simp -implicitDefEqProofs only [den_is_fraction, sSeq_ap, sAsg_ap, sPar_ap, sRet_ap, sIf_ap, sExpr_ap, sNext_ap, bnd_ap, ret_ap, bindR_ok, thenR_ok, dVar_ap, varR_ok, seqR_nx, seqR_rt, asgR_ok, gNm_ap, gCn_ap, gcnR_ok, gNl_ap, gTp_fr, gTp_ap, gLs_ap, dCons_ap, dNil_ap, asB_ap, dOr_ap, dAnd_ap, dNot_ap, dAndV_ap, dOrV_ap, dNotV_ap, dIf_ap, oAdd_int, oSub_int, oLt_int, oLe_int, oGt_int, oGe_int, oNeg_int, oEq_int, oNe_int, oEq_fr, oNe_fr, oEq_bl, oNe_bl, oTup_ap, oLst_ap, oCall_ap, oAbs_ap, oMax_ap, oMin_ap, oToInt_b, oToInt_i, oLen_lst, oLen_scr, oLen_tup, oIx_lst, oIx_scr, oAdd_lst, oIx_tup, oIx_fr0, oIx_fr1, ixR_ok, oItL_ap, oItT_ap, sFor_ap, startD, List.map_cons, List.map_nil, List.length_cons, List.length_nil, List.replicate_succ, List.replicate_zero, List.cons_append, List.nil_append, List.append_nil, List.getElem?_cons_zero, List.getElem?_cons_succ, List.set_cons_zero, List.set_cons_succ, Nat.reduceAdd, Nat.reduceSub, Nat.sub_self, Nat.reduceLeDiff, List.all_cons, List.all_nil, np_fr, np_int, np_bl, np_tup, np_lst, np_str, np_non, Bool.and_self, Bool.and_true, if_true_, if_false_, zero_add', if_tt, if_ff, decide_true, decide_false, Nat.le_refl, oItS_lst, oItS_tup, oTupOf_lst, oTupOf_tup, oLstOf_lst, oLstOf_tup, oRv_lst, oRv_tup, oAdd_tup, dChain_ap, asTru_bl, asTru_tup, asTru_lst, oIsN_ap, oNotN_ap, asI_ap, oSl_tup, oSl_lst, oZip_tup, oZip_lst, oAddI_ap, oEqS_ap, oNeS_ap, oNe_nil, it, l2, n2, tp, isWh_eq (np_int a), isWh_eq (np_int b), isWh, hb, common_eq, hg, isF, Bool.not_true, Bool.not_false, Bool.false_eq_true]
        · simp -implicitDefEqProofs only [den_is_fraction, sSeq_ap, sAsg_ap, sPar_ap, sRet_ap, sIf_ap, sExpr_ap, sNext_ap, bnd_ap, ret_ap, bindR_ok, thenR_ok, dVar_ap, varR_ok, seqR_nx, seqR_rt, asgR_ok, gNm_ap, gCn_ap, gcnR_ok, gNl_ap, gTp_fr, gTp_ap, gLs_ap, dCons_ap, dNil_ap, asB_ap, dOr_ap, dAnd_ap, dNot_ap, dAndV_ap, dOrV_ap, dNotV_ap, dIf_ap, oAdd_int, oSub_int, oLt_int, oLe_int, oGt_int, oGe_int, oNeg_int, oEq_int, oNe_int, oEq_fr, oNe_fr, oEq_bl, oNe_bl, oTup_ap, oLst_ap, oCall_ap, oAbs_ap, oMax_ap, oMin_ap, oToInt_b, oToInt_i, oLen_lst, oLen_scr, oLen_tup, oIx_lst, oIx_scr, oAdd_lst, oIx_tup, oIx_fr0, oIx_fr1, ixR_ok, oItL_ap, oItT_ap, sFor_ap, startD, List.map_cons, List.map_nil, List.length_cons, List.length_nil, List.replicate_succ, List.replicate_zero, List.cons_append, List.nil_append, List.append_nil, List.getElem?_cons_zero, List.getElem?_cons_succ, List.set_cons_zero, List.set_cons_succ, Nat.reduceAdd, Nat.reduceSub, Nat.sub_self, Nat.reduceLeDiff, List.all_cons, List.all_nil, np_fr, np_int, np_bl, np_tup, np_lst, np_str, np_non, Bool.and_self, Bool.and_true, if_true_, if_false_, zero_add', if_tt, if_ff, decide_true, decide_false, Nat.le_refl, oItS_lst, oItS_tup, oTupOf_lst, oTupOf_tup, oLstOf_lst, oLstOf_tup, oRv_lst, oRv_tup, oAdd_tup, dChain_ap, asTru_bl, asTru_tup, asTru_lst, oIsN_ap, oNotN_ap, asI_ap, oSl_tup, oSl_lst, oZip_tup, oZip_lst, oAddI_ap, oEqS_ap, oNeS_ap, oNe_nil, it, l2, n2, tp, isWh_eq (np_int a), isWh_eq (np_int b), isWh, hb, common_eq, hg, isF, Bool.not_true, Bool.not_false, Bool.false_eq_true, Bool.and_false]
      · simp -implicitDefEqProofs only [den_is_fraction, sSeq_ap, sAsg_ap, sPar_ap, sRet_ap, sIf_ap, sExpr_ap, sNext_ap, bnd_ap, ret_ap, bindR_ok, thenR_ok, dVar_ap, varR_ok, seqR_nx, seqR_rt, asgR_ok, gNm_ap, gCn_ap, gcnR_ok, gNl_ap, gTp_fr, gTp_ap, gLs_ap, dCons_ap, dNil_ap, asB_ap, dOr_ap, dAnd_ap, dNot_ap, dAndV_ap, dOrV_ap, dNotV_ap, dIf_ap, oAdd_int, oSub_int, oLt_int, oLe_int, oGt_int, oGe_int, oNeg_int, oEq_int, oNe_int, oEq_fr, oNe_fr, oEq_bl, oNe_bl, oTup_ap, oLst_ap, oCall_ap, oAbs_ap, oMax_ap, oMin_ap, oToInt_b, oToInt_i, oLen_lst, oLen_scr, oLen_tup, oIx_lst, oIx_scr, oAdd_lst, oIx_tup, oIx_fr0, oIx_fr1, ixR_ok, oItL_ap, oItT_ap, sFor_ap, startD, List.map_cons, List.map_nil, List.length_cons, List.length_nil, List.replicate_succ, List.replicate_zero, List.cons_append, List.nil_append, List.append_nil, List.getElem?_cons_zero, List.getElem?_cons_succ, List.set_cons_zero, List.set_cons_succ, Nat.reduceAdd, Nat.reduceSub, Nat.sub_self, Nat.reduceLeDiff, List.all_cons, List.all_nil, np_fr, np_int, np_bl, np_tup, np_lst, np_str, np_non, Bool.and_self, Bool.and_true, if_true_, if_false_, zero_add', if_tt, if_ff, decide_true, decide_false, Nat.le_refl, oItS_lst, oItS_tup, oTupOf_lst, oTupOf_tup, oLstOf_lst, oLstOf_tup, oRv_lst, oRv_tup, oAdd_tup, dChain_ap, asTru_bl, asTru_tup, asTru_lst, oIsN_ap, oNotN_ap, asI_ap, oSl_tup, oSl_lst, oZip_tup, oZip_lst, oAddI_ap, oEqS_ap, oNeS_ap, oNe_nil, it, l2, n2, tp, isWh_eq (np_int a), isWh_eq (np_int b), isWh, hb, isF, Bool.not_true, Bool.not_false, Bool.false_eq_true, Bool.false_and]
    · have hy' : isWh y = false := by simpa using hy
      have e0 : isF (.tup [x, y]) = false := by
        cases x <;> first | (cases hx; done) | skip
        cases y <;> first | rfl | exact absurd rfl hy
      simp -implicitDefEqProofs only [den_is_fraction, sSeq_ap, sAsg_ap, sPar_ap, sRet_ap, sIf_ap, sExpr_ap, sNext_ap, bnd_ap, ret_ap, bindR_ok, thenR_ok, dVar_ap, varR_ok, seqR_nx, seqR_rt, asgR_ok, gNm_ap, gCn_ap, gcnR_ok, gNl_ap, gTp_fr, gTp_ap, gLs_ap, dCons_ap, dNil_ap, asB_ap, dOr_ap, dAnd_ap, dNot_ap, dAndV_ap, dOrV_ap, dNotV_ap, dIf_ap, oAdd_int, oSub_int, oLt_int, oLe_int, oGt_int, oGe_int, oNeg_int, oEq_int, oNe_int, oEq_fr, oNe_fr, oEq_bl, oNe_bl, oTup_ap, oLst_ap, oCall_ap, oAbs_ap, oMax_ap, oMin_ap, oToInt_b, oToInt_i, oLen_lst, oLen_scr, oLen_tup, oIx_lst, oIx_scr, oAdd_lst, oIx_tup, oIx_fr0, oIx_fr1, ixR_ok, oItL_ap, oItT_ap, sFor_ap, startD, List.map_cons, List.map_nil, List.length_cons, List.length_nil, List.replicate_succ, List.replicate_zero, List.cons_append, List.nil_append, List.append_nil, List.getElem?_cons_zero, List.getElem?_cons_succ, List.set_cons_zero, List.set_cons_succ, Nat.reduceAdd, Nat.reduceSub, Nat.sub_self, Nat.reduceLeDiff, List.all_cons, List.all_nil, np_fr, np_int, np_bl, np_tup, np_lst, np_str, np_non, Bool.and_self, Bool.and_true, if_true_, if_false_, zero_add', if_tt, if_ff, decide_true, decide_false, Nat.le_refl, oItS_lst, oItS_tup, oTupOf_lst, oTupOf_tup, oLstOf_lst, oLstOf_tup, oRv_lst, oRv_tup, oAdd_tup, dChain_ap, asTru_bl, asTru_tup, asTru_lst, oIsN_ap, oNotN_ap, asI_ap, oSl_tup, oSl_lst, oZip_tup, oZip_lst, oAddI_ap, oEqS_ap, oNeS_ap, oNe_nil, it, l2, n2, tp, isWh_eq el.1, isWh_eq el.2, hx, hy', e0, Bool.not_true, Bool.not_false, Bool.false_eq_true]
  · have hx' : isWh x = false := by simpa using hx
    have e0 : isF (.tup [x, y]) = false := by
      cases x <;> first | rfl | exact absurd rfl hx
    simp -implicitDefEqProofs only [den_is_fraction, sSeq_ap, sAsg_ap, sPar_ap, sRet_ap, sIf_ap, sExpr_ap, sNext_ap, bnd_ap, ret_ap, bindR_ok, thenR_ok, dVar_ap, varR_ok, seqR_nx, seqR_rt, asgR_ok, gNm_ap, gCn_ap, gcnR_ok, gNl_ap, gTp_fr, gTp_ap, gLs_ap, dCons_ap, dNil_ap, asB_ap, dOr_ap, dAnd_ap, dNot_ap, dAndV_ap, dOrV_ap, dNotV_ap, dIf_ap, oAdd_int, oSub_int, oLt_int, oLe_int, oGt_int, oGe_int, oNeg_int, oEq_int, oNe_int, oEq_fr, oNe_fr, oEq_bl, oNe_bl, oTup_ap, oLst_ap, oCall_ap, oAbs_ap, oMax_ap, oMin_ap, oToInt_b, oToInt_i, oLen_lst, oLen_scr, oLen_tup, oIx_lst, oIx_scr, oAdd_lst, oIx_tup, oIx_fr0, oIx_fr1, ixR_ok, oItL_ap, oItT_ap, sFor_ap, startD, List.map_cons, List.map_nil, List.length_cons, List.length_nil, List.replicate_succ, List.replicate_zero, List.cons_append, List.nil_append, List.append_nil, List.getElem?_cons_zero, List.getElem?_cons_succ, List.set_cons_zero, List.set_cons_succ, Nat.reduceAdd, Nat.reduceSub, Nat.sub_self, Nat.reduceLeDiff, List.all_cons, List.all_nil, np_fr, np_int, np_bl, np_tup, np_lst, np_str, np_non, Bool.and_self, Bool.and_true, if_true_, if_false_, zero_add', if_tt, if_ff, decide_true, decide_false, Nat.le_refl, oItS_lst, oItS_tup, oTupOf_lst, oTupOf_tup, oLstOf_lst, oLstOf_tup, oRv_lst, oRv_tup, oAdd_tup, dChain_ap, asTru_bl, asTru_tup, asTru_lst, oIsN_ap, oNotN_ap, asI_ap, oSl_tup, oSl_lst, oZip_tup, oZip_lst, oAddI_ap, oEqS_ap, oNeS_ap, oNe_nil, it, l2, n2, tp, isWh_eq el.1, hx', e0, Bool.not_true, Bool.not_false, Bool.false_eq_true]
theorem isfr_eq {d : D} (g : Good d) (M : Mem) : F_is_fraction [d] M = some (.ok (.bl (isF d)), M) := by
  by_cases ht : isT d = true
  · cases d with
    | tup ds =>
      by_cases hl : ds.length = 2
      · match ds, hl, g.el ds rfl with
        | [x, y], _, el =>
          simp -implicitDefEqProofs only [List.all_cons, List.all_nil, Bool.and_true, Bool.and_eq_true] at el
          exact isfr_two el M
      · exact isfr_len hl M
    | _ => cases ht
  · have ht' : isT d = false := by simpa using ht
    have e0 : isF d = false := by cases d <;> first | rfl | exact absurd rfl ht
    refine runF_pure ?_ rfl
    simp -implicitDefEqProofs only [den_is_fraction, sSeq_ap, sAsg_ap, sPar_ap, sRet_ap, sIf_ap, sExpr_ap, sNext_ap, bnd_ap, ret_ap, bindR_ok, thenR_ok, dVar_ap, varR_ok, seqR_nx, seqR_rt, asgR_ok, gNm_ap, gCn_ap, gcnR_ok, gNl_ap, gTp_fr, gTp_ap, gLs_ap, dCons_ap, dNil_ap, asB_ap, dOr_ap, dAnd_ap, dNot_ap, dAndV_ap, dOrV_ap, dNotV_ap, dIf_ap, oAdd_int, oSub_int, oLt_int, oLe_int, oGt_int, oGe_int, oNeg_int, oEq_int, oNe_int, oEq_fr, oNe_fr, oEq_bl, oNe_bl, oTup_ap, oLst_ap, oCall_ap, oAbs_ap, oMax_ap, oMin_ap, oToInt_b, oToInt_i, oLen_lst, oLen_scr, oLen_tup, oIx_lst, oIx_scr, oAdd_lst, oIx_tup, oIx_fr0, oIx_fr1, ixR_ok, oItL_ap, oItT_ap, sFor_ap, startD, List.map_cons, List.map_nil, List.length_cons, List.length_nil, List.replicate_succ, List.replicate_zero, List.cons_append, List.nil_append, List.append_nil, List.getElem?_cons_zero, List.getElem?_cons_succ, List.set_cons_zero, List.set_cons_succ, Nat.reduceAdd, Nat.reduceSub, Nat.sub_self, Nat.reduceLeDiff, List.all_cons, List.all_nil, np_fr, np_int, np_bl, np_tup, np_lst, np_str, np_non, Bool.and_self, Bool.and_true, if_true_, if_false_, zero_add', if_tt, if_ff, decide_true, decide_false, Nat.le_refl, oItS_lst, oItS_tup, oTupOf_lst, oTupOf_tup, oLstOf_lst, oLstOf_tup, oRv_lst, oRv_tup, oAdd_tup, dChain_ap, asTru_bl, asTru_tup, asTru_lst, oIsN_ap, oNotN_ap, asI_ap, oSl_tup, oSl_lst, oZip_tup, oZip_lst, oAddI_ap, oEqS_ap, oNeS_ap, oNe_nil, oIsi_tup g.np, ht', e0, Bool.not_false]
theorem isF_fr (q : Rat) : isF (frQ q) = true := by
  have h1 : (0 : Int) < (q.den : Int) := by have := q.den_pos; omega
  have h2 : Int.gcd q.num (q.den : Int) = 1 := by
    have := q.reduced
    simpa [Int.gcd, Nat.Coprime] using this
  unfold frQ isF
  simp [h2, q.den_pos]
theorem good_fr (q : Rat) : Good (frQ q) := ⟨rfl, fun ds h => by unfold frQ at h; cases h; rfl⟩
/-! one cell changes -/
structure Put (m : Nat) (ds : List D) (M M' : Mem) : Prop where
  len : M'.length = M.length
  here : M'[m]? = some (some ds)
  oth : ∀ j, j ≠ m → M'[j]? = M[j]?
theorem Put.set {m : Nat} {ds es : List D} {M : Mem} (h : M[m]? = some (some es)) : Put m ds M (M.set m (some ds)) := ⟨by simp, List.getElem?_set_self (List.getElem?_eq_some_iff.mp h).1, fun j hj => List.getElem?_set_ne (Ne.symm hj)⟩
theorem Put.trans {m : Nat} {ds es : List D} {M M1 M2 : Mem} (a : Put m ds M M1) (b : Put m es M1 M2) : Put m es M M2 := ⟨b.len.trans a.len, b.here, fun j h => (b.oth j h).trans (a.oth j h)⟩
theorem Put.cut {ds : List D} {c : Option (List D)} {M M' : Mem} (a : Put M.length ds (M ++ [c]) M') : M'.take M.length = M := by
  refine List.ext_getElem? fun j => ?_
  by_cases h : j < M.length
  · rw [List.getElem?_take_of_lt h, a.oth j (by omega), List.getElem?_append_left h]
  · rw [List.getElem?_eq_none (by rw [List.length_take]; omega), List.getElem?_eq_none (by omega)]
theorem run_cut {N : List Str} {fb : Sv} {ds es : List D} {M M' : Mem} {c : Option (List D)} {d : D} (h : fb (startD N ds) M = some (.rt d, M')) (p : Put M.length es (M ++ [c]) M') (hp : d.np = true) : runF 0 N fb ds M = some (.ok d, M) := by
  rw [runF_rt h (by rw [p.len]; simp) hp, p.cut]
theorem last_cell (M : Mem) (c : Option (List D)) : (M ++ [c])[M.length]? = some c := by rw [List.getElem?_append_right (Nat.le_refl _), Nat.sub_self]; rfl
/-! merged -/
noncomputable abbrev mCond : Ev Bool := dAnd (bnd (bnd (dVar 3) fun d => bnd (bnd (dCons (dVar 0) dNil) oLen) fun e => oLt d e) asB) (dNot (bnd (bnd (dCons (dVar 4) (dCons (bnd (dVar 0) fun d => bnd (dVar 3) fun e => oIx d e) dNil)) (oCall 2 F_is_less)) asB))
def upTo (y : Rat) : List Rat → List Rat
  | [] => []
  | x :: r => if y < x then [] else x :: upTo y r
def past (y : Rat) : List Rat → List Rat
  | [] => []
  | x :: r => if y < x then x :: r else past y r
/-- the two rows as one -/
def mrg : List Rat → List Rat → List Rat × List Rat
  | rest, [] => ([], rest)
  | rest, y :: ys => (upTo y rest ++ y :: (mrg (past y rest) ys).1, (mrg (past y rest) ys).2)
/-! rising rows -/
abbrev Asc (l : List Rat) : Prop := l.Pairwise (· ≤ ·)
def leB (a b : Rat) : Bool := decide (a ≤ b)
def srt (l : List Rat) : List Rat := l.mergeSort leB
def sqB (b : Bool) (ds : List D) : D := if b then .tup ds else .lst ds
/-! strengths -/
def stD (p : Rat × Rat) : D := if p.1 = 0 then .non else frQ (p.2 / p.1)
theorem gTp_ly (c : List D → Env → Option Env) (p : Rat × Rat) (ρ : Env) : gTp 2 c (lyQ p) ρ = c [frQ p.1, frQ p.2] ρ := rfl
theorem oIx_ly0 (p : Rat × Rat) (ρ : Env) (M : Mem) : oIx (lyQ p) (.int 0) ρ M = some (.ok (frQ p.1), M) := rfl
theorem oIx_ly1 (p : Rat × Rat) (ρ : Env) (M : Mem) : oIx (lyQ p) (.int 1) ρ M = some (.ok (frQ p.2), M) := rfl
/-! tables of sums -/
def ky (p : Rat × Rat) : Option Rat := if p.1 = 0 then none else some (p.2 / p.1)
def kD : Option Rat → D
  | none => .non
  | some c => frQ c
def kN : Option Rat → NK
  | none => .none
  | some c => .tup [.num c.num, .num (c.den : Int)]
abbrev Tb := List (Option Rat × (Rat × Rat))
def encT (T : Tb) : DEs := T.map fun x => (kD x.1, lyQ x.2)
def tget (T : Tb) (k : Option Rat) : Option (Rat × Rat) := (T.find? fun x => decide (x.1 = k)).map (·.2)
def tput (T : Tb) (k : Option Rat) (v : Rat × Rat) : Tb := if (tget T k).isSome = true then T.map (fun x => if x.1 = k then (x.1, v) else x) else T ++ [(k, v)]
/-- all of the key k, summed -/
def sumK : List (Rat × Rat) → Option Rat → Rat × Rat
  | [], _ => (0, 0)
  | p :: ps, k => if ky p = k then (p.1 + (sumK ps k).1, p.2 + (sumK ps k).2) else sumK ps k
theorem sumK_cons (p : Rat × Rat) (ps : List (Rat × Rat)) (k : Option Rat) : sumK (p :: ps) k = if ky p = k then (p.1 + (sumK ps k).1, p.2 + (sumK ps k).2) else sumK ps k := rfl
theorem sumK_append : ∀ (a b : List (Rat × Rat)) (k : Option Rat), sumK (a ++ b) k = ((sumK a k).1 + (sumK b k).1, (sumK a k).2 + (sumK b k).2)
  | [], b, k => by
    show sumK b k = (0 + (sumK b k).1, 0 + (sumK b k).2)
    rw [Rat.zero_add, Rat.zero_add]
  | p :: a, b, k => by
    rw [List.cons_append, sumK_cons, sumK_cons, sumK_append a b k]
    split
    · rw [Rat.add_assoc, Rat.add_assoc]
    · rfl
/-- the table of ps -/
structure Tab (T : Tb) (ps : List (Rat × Rat)) : Prop where
  nd : (T.map (·.1)).Nodup
  sum : ∀ x ∈ T, x.2 = sumK ps x.1
  key : ∀ k, k ∈ T.map (·.1) ↔ ∃ p ∈ ps, ky p = k
  len : T.length ≤ ps.length
theorem tget_none {T : Tb} {k : Option Rat} : tget T k = none ↔ k ∉ T.map (·.1) := by
  unfold tget
  rw [Option.map_eq_none_iff, List.find?_eq_none]
  simp -implicitDefEqProofs only [decide_eq_true_eq, List.mem_map, not_exists, not_and]
theorem tget_some {T : Tb} {k : Option Rat} {v : Rat × Rat} (h : tget T k = some v) : (k, v) ∈ T := by
  unfold tget at h
  obtain ⟨x, h1, h2⟩ := Option.map_eq_some_iff.mp h
  have h3 := List.find?_some h1
  simp -implicitDefEqProofs only [decide_eq_true_eq] at h3
  have := List.mem_of_find?_eq_some h1
  rw [← h3, ← h2]; exact this
theorem Tab.get {T : Tb} {ps : List (Rat × Rat)} (t : Tab T ps) (k : Option Rat) : (tget T k).getD (0, 0) = sumK ps k := by
  cases h : tget T k with
  | some v => exact t.sum _ (tget_some h)
  | none =>
    have hn : ¬ ∃ p ∈ ps, ky p = k := fun z => tget_none.mp h ((t.key k).mpr z)
    clear h t
    show (0, 0) = sumK ps k
    induction ps with
    | nil => rfl
    | cons p ps ih =>
      rw [sumK_cons, if_neg fun z => hn ⟨p, by simp, z⟩]
      exact ih fun ⟨q, hq, z⟩ => hn ⟨q, by simp [hq], z⟩
theorem tput_keys (T : Tb) (k : Option Rat) (v : Rat × Rat) : (tput T k v).map (·.1) = if (tget T k).isSome = true then T.map (·.1) else T.map (·.1) ++ [k] := by
  unfold tput
  split
  · rw [List.map_map]
    refine List.map_congr_left fun x _ => ?_
    show (if x.1 = k then (x.1, v) else x).1 = x.1
    split <;> rfl
  · rw [List.map_append]; rfl
theorem sumK_snoc (ps : List (Rat × Rat)) (p : Rat × Rat) (k : Option Rat) : sumK (ps ++ [p]) k = if ky p = k then ((sumK ps k).1 + p.1, (sumK ps k).2 + p.2) else sumK ps k := by
  rw [sumK_append, sumK_cons]
  have e : sumK [] k = (0, 0) := rfl
  rw [e]
  split
  · rw [Rat.add_zero, Rat.add_zero]
  · show ((sumK ps k).1 + 0, (sumK ps k).2 + 0) = _
    rw [Rat.add_zero, Rat.add_zero]
theorem Tab.step {T : Tb} {ps : List (Rat × Rat)} (t : Tab T ps) (p : Rat × Rat) : Tab (tput T (ky p) ((sumK ps (ky p)).1 + p.1, (sumK ps (ky p)).2 + p.2)) (ps ++ [p]) := by
  have kk := tput_keys T (ky p) ((sumK ps (ky p)).1 + p.1, (sumK ps (ky p)).2 + p.2)
  refine ⟨?_, fun x hx => ?_, fun k => ?_, ?_⟩
  · rw [kk]
    split
    · exact t.nd
    · rename_i h
      rw [List.nodup_append]
      have hn : ky p ∉ T.map (·.1) := tget_none.mp (by simpa using h)
      refine ⟨t.nd, by simp, fun a ha b hb => ?_⟩
      simp at hb; subst hb
      rintro rfl
      exact hn ha
  · rw [sumK_snoc]
    unfold tput at hx
    split at hx
    · obtain ⟨y, hy, e⟩ := List.mem_map.mp hx
      split at e
      · rename_i hk
        subst e
        show _ = if ky p = y.1 then _ else _
        rw [if_pos hk.symm, hk]
      · rename_i hk
        subst e
        rw [if_neg fun z => hk z.symm]
        exact t.sum y hy
    · rename_i h
      rcases List.mem_append.mp hx with hx | hx
      · have hn : ky p ∉ T.map (·.1) := tget_none.mp (by simpa using h)
        rw [if_neg (fun z : ky p = x.1 => hn (by rw [z]; exact List.mem_map.mpr ⟨x, hx, rfl⟩))]
        exact t.sum x hx
      · simp at hx; subst hx
        rw [if_pos rfl]
  · rw [kk]
    have hm : (∃ q ∈ ps ++ [p], ky q = k) ↔ (∃ q ∈ ps, ky q = k) ∨ ky p = k := by
      constructor
      · rintro ⟨q, hq, e⟩
        rcases List.mem_append.mp hq with z | z
        · exact .inl ⟨q, z, e⟩
        · simp at z; subst z; exact .inr e
      · rintro (⟨q, hq, e⟩ | e)
        · exact ⟨q, by simp [hq], e⟩
        · exact ⟨p, by simp, e⟩
    rw [hm, ← t.key k]
    split
    · rename_i h
      constructor
      · exact .inl
      · rintro (h1 | h1)
        · exact h1
        · subst h1
          cases q : tget T (ky p) with
          | none => rw [q] at h; cases h
          | some v => exact List.mem_map.mpr ⟨_, tget_some q, rfl⟩
    · rw [List.mem_append]
      simp [eq_comm]
  · have h := congrArg List.length kk
    have hl := t.len
    rw [List.length_map] at h
    rw [h, List.length_append]
    split <;> simp <;> omega
theorem Tab.nil : Tab [] [] := ⟨by simp, by simp, by simp, by simp⟩
/-! gathered -/
theorem Bd.zero {n : Nat} : Bd n 0 ↔ 0 < n := by
  constructor
  · intro h
    rcases Nat.eq_zero_or_pos n with z | z
    · subst z; exact absurd h.2 (by decide)
    · exact z
  · intro h
    exact ⟨Nat.pos_of_ne_zero (by simp), Nat.one_lt_two_pow (by omega)⟩
/-! a comprehension whose parts read what stands -/
def Agr (M0 M : Mem) : Prop := ∀ j, j < M0.length → M[j]? = M0[j]?
/-- the brine of ps -/
structure IsG (ps B : List (Rat × Rat)) : Prop where
  ex : ∃ ks : List Rat, ks.Pairwise (· < ·) ∧ (∀ c, c ∈ ks ↔ ∃ p ∈ ps, ky p = some c) ∧ ∃ fl : List (Rat × Rat), ((∃ p ∈ ps, ky p = none) → fl = [sumK ps none]) ∧ ((¬ ∃ p ∈ ps, ky p = none) → fl = []) ∧ B = fl ++ ks.reverse.map fun c => sumK ps (some c)
def sk (T : Tb) : List Rat := T.filterMap (·.1)
def gD (T : Tb) (d : D) : D := (lookD (encT T) ((keyN d).getD .none)).getD .non
theorem key_bd {b N : Nat} {ps : List (Rat × Rat)} {c : Rat} (hb : ∀ q ∈ ps, BdL b q) (h : ∃ p ∈ ps, ky p = some c) : Bd (2 * b) c := by
  obtain ⟨p, hp, e⟩ := h
  unfold ky at e
  split at e
  · cases e
  · cases e
    have := hb p hp
    exact (this.s.div this.w).mono (by omega)
/-! is_layer, laid -/
def isLB (f : Rat) (p : Rat × Rat) : Bool := !decide (p.1 < 0) && !decide (p.2 < 0) && (if p.1 = 0 then !decide (p.2 = 0) else !decide (f * p.1 < p.2))
theorem isfr_fr (q : Rat) (M : Mem) : F_is_fraction [frQ q] M = some (.ok (.bl true), M) := by rw [isfr_eq (good_fr q), isF_fr]
/-! what a brine of ps is -/
theorem div_eq {a b c : Rat} (hb : b ≠ 0) : a / b = c ↔ a = c * b := by
  constructor
  · intro h; rw [← h, Rat.div_mul_cancel hb]
  · intro h; rw [h, Rat.mul_div_cancel hb]
theorem ky_some {p : Rat × Rat} {c : Rat} (h : ky p = some c) : p.1 ≠ 0 ∧ p.2 = c * p.1 := by
  unfold ky at h
  split at h
  · cases h
  · rename_i h0
    cases h
    exact ⟨h0, (Rat.div_mul_cancel h0).symm⟩
theorem ky_none {p : Rat × Rat} (h : ky p = none) : p.1 = 0 := by
  unfold ky at h
  split at h
  · assumption
  · cases h
theorem pos_of {f : Rat} {p : Rat × Rat} (h : LayOk f p) (h0 : p.1 ≠ 0) : 0 < p.1 := Rat.lt_of_le_of_ne h.w (Ne.symm h0)
theorem sum_some {f c : Rat} : ∀ ps : List (Rat × Rat), (∀ p ∈ ps, LayOk f p) → 0 ≤ (sumK ps (some c)).1 ∧ (sumK ps (some c)).2 = c * (sumK ps (some c)).1 ∧ ((∃ p ∈ ps, ky p = some c) → 0 < (sumK ps (some c)).1)
  | [], _ => ⟨Rat.le_refl, by show (0 : Rat) = c * 0; rw [Rat.mul_zero], fun ⟨p, hp, _⟩ => by simp at hp⟩
  | p :: ps, h => by
    obtain ⟨i1, i2, i3⟩ := sum_some (c := c) ps fun q hq => h q (by simp [hq])
    rw [sumK_cons]
    split
    · rename_i hk
      obtain ⟨n0, es⟩ := ky_some hk
      have pp := pos_of (h p (by simp)) n0
      have pos : 0 < p.1 + (sumK ps (some c)).1 := by
        have := Rat.add_le_add_left (c := p.1) |>.mpr i1
        rw [Rat.add_zero] at this
        exact Std.lt_of_lt_of_le pp this
      refine ⟨Rat.le_of_lt pos, ?_, fun _ => pos⟩
      show p.2 + (sumK ps (some c)).2 = c * (p.1 + (sumK ps (some c)).1)
      rw [es, i2, Rat.mul_add]
    · rename_i hk
      refine ⟨i1, i2, fun ⟨q, hq, e⟩ => i3 ?_⟩
      rcases List.mem_cons.mp hq with z | z
      · subst z; exact absurd e hk
      · exact ⟨q, z, e⟩
theorem sum_none {f : Rat} : ∀ ps : List (Rat × Rat), (∀ p ∈ ps, LayOk f p) → (sumK ps none).1 = 0 ∧ 0 ≤ (sumK ps none).2 ∧ ((∃ p ∈ ps, ky p = none) → 0 < (sumK ps none).2)
  | [], _ => ⟨rfl, Rat.le_refl, fun ⟨p, hp, _⟩ => by simp at hp⟩
  | p :: ps, h => by
    obtain ⟨i1, i2, i3⟩ := sum_none ps fun q hq => h q (by simp [hq])
    rw [sumK_cons]
    split
    · rename_i hk
      have n0 := ky_none hk
      have pp := (h p (by simp)).nz n0
      have pos : 0 < p.2 + (sumK ps none).2 := by
        have := Rat.add_le_add_left (c := p.2) |>.mpr i2
        rw [Rat.add_zero] at this
        exact Std.lt_of_lt_of_le pp this
      refine ⟨?_, Rat.le_of_lt pos, fun _ => pos⟩
      show p.1 + (sumK ps none).1 = 0
      rw [n0, i1, Rat.add_zero]
    · rename_i hk
      refine ⟨i1, i2, fun ⟨q, hq, e⟩ => i3 ?_⟩
      rcases List.mem_cons.mp hq with z | z
      · subst z; exact absurd e hk
      · exact ⟨q, z, e⟩
theorem ky_sumK {f : Rat} {ps : List (Rat × Rat)} {k : Option Rat} (h : ∀ p ∈ ps, LayOk f p) (hk : ∃ p ∈ ps, ky p = k) : ky (sumK ps k) = k ∧ LayOk f (sumK ps k) := by
  cases k with
  | none =>
    obtain ⟨a, b, c⟩ := sum_none ps h
    refine ⟨by unfold ky; rw [if_pos a], ⟨by rw [a]; exact Rat.le_refl, b, fun _ => c hk, fun z => ?_⟩⟩
    rw [a] at z; exact absurd z Rat.lt_irrefl
  | some c =>
    obtain ⟨a, b, d⟩ := sum_some (c := c) ps h
    have pos := d hk
    have n0 := Rat.ne_of_gt pos
    obtain ⟨p, hp, e⟩ := hk
    obtain ⟨q0, q1⟩ := ky_some e
    have lp := h p hp
    have pp := pos_of lp q0
    have c0 : 0 ≤ c := by
      rcases Rat.le_total (a := 0) (b := c) with z | z
      · exact z
      · have h1 := lp.s
        rw [q1] at h1
        rcases Rat.le_iff_lt_or_eq.mp z with z | z
        · have := (Rat.mul_neg_iff_of_pos_right (a := c) pp).mpr z
          exact absurd h1 (Rat.not_le.mpr this)
        · rw [z]; exact Rat.le_refl
    have cf : c ≤ f := by
      have h1 := lp.le pp
      rw [q1] at h1
      exact Rat.le_of_mul_le_mul_right h1 pp
    refine ⟨by unfold ky; rw [if_neg n0, (div_eq n0).mpr b], ⟨a, by rw [b]; exact Rat.mul_nonneg c0 a, fun z => absurd z n0, fun _ => by rw [b]; exact Rat.mul_le_mul_of_nonneg_right cf a⟩⟩
/-! sizes of rows -/
def SzL (n : Nat) (l : List (Rat × Rat)) : Prop := ∃ zs : List ((Rat × Rat) × Nat), zs.map (·.1) = l ∧ (∀ z ∈ zs, BdL z.2 z.1) ∧ (zs.map (·.2 + 1)).sum ≤ n
theorem SzL.mono {m n : Nat} {l : List (Rat × Rat)} (h : SzL m l) (e : m ≤ n) : SzL n l := by
  obtain ⟨zs, a, b, c⟩ := h
  exact ⟨zs, a, b, Nat.le_trans c e⟩
theorem sum_sub : ∀ {a b : List Nat}, a.Sublist b → a.sum ≤ b.sum
  | _, _, .slnil => Nat.le_refl _
  | _, _, .cons x h => by have := sum_sub h; simp; omega
  | _, _, .cons_cons x h => by have := sum_sub h; simp; omega
theorem SzL.sub {n : Nat} {l l' : List (Rat × Rat)} (h : SzL n l) (s : l'.Sublist l) : SzL n l' := by
  obtain ⟨zs, a, b, c⟩ := h
  rw [← a] at s
  obtain ⟨ys, h1, h2⟩ := List.sublist_map_iff.mp s
  exact ⟨ys, h2.symm, fun z hz => b z (h1.subset hz), Nat.le_trans (sum_sub (h1.map _)) c⟩
theorem le_sum_mem : ∀ {l : List Nat} {a : Nat}, a ∈ l → a ≤ l.sum
  | x :: l, a, h => by
    rw [List.sum_cons]
    rcases List.mem_cons.mp h with z | z
    · omega
    · have := le_sum_mem z; omega
theorem SzL.bd {n : Nat} {l : List (Rat × Rat)} (h : SzL n l) : ∀ p ∈ l, BdL n p := by
  obtain ⟨zs, a, b, c⟩ := h
  intro p hp
  rw [← a] at hp
  obtain ⟨z, hz, rfl⟩ := List.mem_map.mp hp
  refine (b z hz).mono (Nat.le_trans ?_ c)
  have : z.2 + 1 ≤ (zs.map (·.2 + 1)).sum := le_sum_mem (List.mem_map.mpr ⟨z, hz, rfl⟩)
  omega
def sumW (l : List (Rat × Rat)) : Rat := l.foldr (fun p s => p.1 + s) 0
def sumS (l : List (Rat × Rat)) : Rat := l.foldr (fun p s => p.2 + s) 0
theorem sumW_cons (p : Rat × Rat) (l : List (Rat × Rat)) : sumW (p :: l) = p.1 + sumW l := rfl
theorem sumS_cons (p : Rat × Rat) (l : List (Rat × Rat)) : sumS (p :: l) = p.2 + sumS l := rfl
theorem sumW_append : ∀ a b : List (Rat × Rat), sumW (a ++ b) = sumW a + sumW b
  | [], b => by show sumW b = 0 + sumW b; rw [Rat.zero_add]
  | x :: a, b => by rw [List.cons_append, sumW_cons, sumW_cons, sumW_append a b, Rat.add_assoc]
theorem sumS_append : ∀ a b : List (Rat × Rat), sumS (a ++ b) = sumS a + sumS b
  | [], b => by show sumS b = 0 + sumS b; rw [Rat.zero_add]
  | x :: a, b => by rw [List.cons_append, sumS_cons, sumS_cons, sumS_append a b, Rat.add_assoc]
theorem SzL.sum {n : Nat} {l : List (Rat × Rat)} (h : SzL n l) : Bd (n + 1) (sumW l) ∧ Bd (n + 1) (sumS l) := by
  obtain ⟨zs, a, b, c⟩ := h
  have main : ∀ zs : List ((Rat × Rat) × Nat), (∀ z ∈ zs, BdL z.2 z.1) → Bd ((zs.map (·.2 + 1)).sum + 1) (sumW (zs.map (·.1))) ∧ Bd ((zs.map (·.2 + 1)).sum + 1) (sumS (zs.map (·.1))) := by
    intro zs
    induction zs with
    | nil => intro _; exact ⟨Bd.zero.mpr (by omega), Bd.zero.mpr (by omega)⟩
    | cons z zs ih =>
      intro hz
      obtain ⟨i1, i2⟩ := ih fun x hx => hz x (by simp [hx])
      have hb := hz z (by simp)
      simp -implicitDefEqProofs only [List.map_cons, List.sum_cons, sumW_cons, sumS_cons]
      exact ⟨(hb.w.add i1).mono (by omega), (hb.s.add i2).mono (by omega)⟩
  obtain ⟨m1, m2⟩ := main zs b
  rw [a] at m1 m2
  exact ⟨m1.mono (by omega), m2.mono (by omega)⟩
def cnt (ps : List (Rat × Rat)) (k : Option Rat) : Nat := match ps with
  | [] => 0
  | p :: ps => (if ky p = k then 1 else 0) + cnt ps k
theorem sumK_cnt {b : Nat} : ∀ (ps : List (Rat × Rat)) (k : Option Rat), (∀ p ∈ ps, BdL b p) → BdL (cnt ps k * (b + 1) + 1) (sumK ps k)
  | [], k, _ => ⟨Bd.zero.mpr (by omega), Bd.zero.mpr (by omega)⟩
  | p :: ps, k, h => by
    have ih := sumK_cnt ps k fun q hq => h q (by simp [hq])
    have hp := h p (by simp)
    rw [sumK_cons]
    unfold cnt
    split
    · refine ⟨(hp.w.add ih.w).mono ?_, (hp.s.add ih.s).mono ?_⟩ <;> (rw [Nat.add_mul]; omega)
    · exact ih.mono (by rw [Nat.zero_add]; exact Nat.le_refl _)
theorem cnt_sum : ∀ (ps : List (Rat × Rat)) (ks : List (Option Rat)), ks.Nodup → (ks.map (cnt ps)).sum ≤ ps.length
  | [], ks, _ => by
    have : ∀ ks : List (Option Rat), (ks.map (cnt [])).sum = 0 := fun ks => by
      induction ks with
      | nil => rfl
      | cons k ks ih => rw [List.map_cons, List.sum_cons, ih]; rfl
    rw [this]; exact Nat.zero_le _
  | p :: ps, ks, nd => by
    have ih := cnt_sum ps ks nd
    have e : ∀ ks : List (Option Rat), (ks.map (cnt (p :: ps))).sum = (ks.map fun k => if ky p = k then 1 else 0).sum + (ks.map (cnt ps)).sum := fun ks => by
      induction ks with
      | nil => rfl
      | cons k ks ih =>
        rw [List.map_cons, List.sum_cons, ih, List.map_cons, List.sum_cons, List.map_cons, List.sum_cons]
        show (if ky p = k then 1 else 0) + cnt ps k + _ = _
        omega
    have one : ∀ ks : List (Option Rat), ks.Nodup → (ks.map fun k => if ky p = k then 1 else 0).sum ≤ 1 := fun ks => by
      induction ks with
      | nil => intro _; simp
      | cons k ks ih =>
        intro nd
        rw [List.nodup_cons] at nd
        rw [List.map_cons, List.sum_cons]
        split
        · rename_i h
          have z : (ks.map fun k => if ky p = k then 1 else 0).sum = 0 := by
            have : ∀ x ∈ ks, ¬ ky p = x := fun x hx z => nd.1 (by rw [← h, z]; exact hx)
            clear ih nd
            induction ks with
            | nil => rfl
            | cons y ks ih2 =>
              rw [List.map_cons, List.sum_cons, if_neg (this y (by simp)), ih2 fun x hx => this x (by simp [hx])]
          omega
        · have := ih nd.2; omega
    have := one ks nd
    rw [e, List.length_cons]
    omega
structure BrOk (f : Rat) (n m : Nat) (B : List (Rat × Rat)) : Prop where
  ok : ∀ x ∈ B, LayOk f x
  sz : SzL n B
  asc : ((B.filter fun x => decide (x.1 ≠ 0)).reverse.map fun x => x.2 / x.1).Pairwise (· < ·)
  kb : ∀ x ∈ B, x.1 ≠ 0 → Bd m (x.2 / x.1)
  head : ∀ x ∈ B.drop 1, x.1 ≠ 0
/-- the keys of a brine -/
def gKeys (has : Bool) (ks : List Rat) : List (Option Rat) := (if has then [none] else []) ++ ks.reverse.map some
theorem IsG.keys {ps B : List (Rat × Rat)} (g : IsG ps B) : ∃ (has : Bool) (ks : List Rat), ks.Pairwise (· < ·) ∧ (∀ k, k ∈ gKeys has ks ↔ ∃ p ∈ ps, ky p = k) ∧ B = (gKeys has ks).map (sumK ps) ∧ (gKeys has ks).Nodup := by
  obtain ⟨ks, h1, h2, fl, h3, h4, h5⟩ := g.ex
  have nd : ks.reverse.Nodup := by
    have : ks.reverse.Pairwise (fun a b => b < a) := List.pairwise_reverse.mpr h1
    exact this.imp fun z => Rat.ne_of_gt z
  have nd2 : (ks.reverse.map some).Nodup := List.pairwise_map.mpr (nd.imp fun h z => h (by cases z; rfl))
  have ms : ∀ c, some c ∈ ks.reverse.map some ↔ ∃ p ∈ ps, ky p = some c := fun c => by
    rw [← h2 c]
    constructor
    · intro h
      obtain ⟨d, hd, e⟩ := List.mem_map.mp h
      cases e
      exact List.mem_reverse.mp hd
    · intro h
      exact List.mem_map.mpr ⟨c, List.mem_reverse.mpr h, rfl⟩
  have mn : none ∉ ks.reverse.map some := fun h => by
    obtain ⟨d, hd, e⟩ := List.mem_map.mp h
    cases e
  by_cases hN : ∃ p ∈ ps, ky p = none
  · refine ⟨true, ks, h1, fun k => ?_, ?_, ?_⟩
    · unfold gKeys
      rw [if_pos rfl]
      cases k with
      | none => simp [hN]
      | some c => rw [← ms c]; simp
    · unfold gKeys
      rw [h5, h3 hN, if_pos rfl, List.map_append, List.map_map]; rfl
    · unfold gKeys
      rw [if_pos rfl]
      exact List.nodup_cons.mpr ⟨mn, nd2⟩
  · refine ⟨false, ks, h1, fun k => ?_, ?_, ?_⟩
    · unfold gKeys
      rw [if_neg Bool.false_ne_true, List.nil_append]
      cases k with
      | none =>
        constructor
        · intro h; exact absurd h mn
        · intro h; exact absurd h hN
      | some c => exact ms c
    · unfold gKeys
      rw [h5, h4 hN, if_neg Bool.false_ne_true, List.map_append, List.map_map]; rfl
    · unfold gKeys
      rw [if_neg Bool.false_ne_true, List.nil_append]; exact nd2
theorem wet_keys {f : Rat} {ps : List (Rat × Rat)} (h : ∀ p ∈ ps, LayOk f p) : ∀ (l : List (Option Rat)), (∀ k ∈ l, ∃ p ∈ ps, ky p = k) → ((l.map (sumK ps)).filter fun x => decide (x.1 ≠ 0)).map (fun x => x.2 / x.1) = l.filterMap id
  | [], _ => rfl
  | k :: l, hk => by
    have ih := wet_keys h l fun j hj => hk j (by simp [hj])
    obtain ⟨e1, e2⟩ := ky_sumK h (hk k (by simp))
    rw [List.map_cons]
    cases k with
    | none =>
      rw [List.filter_cons_of_neg (by simpa using ky_none e1)]
      exact ih
    | some c =>
      obtain ⟨n0, es⟩ := ky_some e1
      rw [List.filter_cons_of_pos (by simpa using n0), List.map_cons, ih, (div_eq n0).mpr es]
      rfl
theorem IsG.ok {f : Rat} {b : Nat} {ps B : List (Rat × Rat)} (g : IsG ps B) (h : ∀ p ∈ ps, LayOk f p ∧ BdL b p) : BrOk f (ps.length * (b + 3)) (2 * b) B := by
  obtain ⟨has, ks, h1, h2, h3, h4⟩ := g.keys
  have hl := fun p hp => (h p hp).1
  refine ⟨fun x hx => ?_, ?_, ?_, fun x hx n0 => ?_, fun x hx => ?_⟩
  · rw [h3] at hx
    obtain ⟨k, hk, rfl⟩ := List.mem_map.mp hx
    exact (ky_sumK hl ((h2 k).mp hk)).2
  · refine ⟨(gKeys has ks).map fun k => (sumK ps k, cnt ps k * (b + 1) + 1), by rw [h3, List.map_map]; rfl, fun z hz => ?_, ?_⟩
    · obtain ⟨k, _, rfl⟩ := List.mem_map.mp hz
      exact sumK_cnt ps k fun p hp => (h p hp).2
    · have e : ∀ l : List (Option Rat), (∀ k ∈ l, 1 ≤ cnt ps k) → ((l.map fun k => (sumK ps k, cnt ps k * (b + 1) + 1)).map (·.2 + 1)).sum ≤ (l.map (cnt ps)).sum * (b + 3) := fun l => by
        induction l with
        | nil => intro _; simp
        | cons k l ih =>
          intro hk
          have i := ih fun j hj => hk j (by simp [hj])
          have c1 := hk k (by simp)
          simp -implicitDefEqProofs only [List.map_cons, List.sum_cons]
          rw [Nat.add_mul]
          have e3 : cnt ps k * (b + 3) = cnt ps k * (b + 1) + 2 * cnt ps k := by rw [Nat.mul_add, Nat.mul_add]; omega
          omega
      have pos : ∀ k ∈ gKeys has ks, 1 ≤ cnt ps k := fun k hk => by
        obtain ⟨p, hp, ep⟩ := (h2 k).mp hk
        clear h h2 h3 g hl e
        induction ps with
        | nil => simp at hp
        | cons q ps ih =>
          unfold cnt
          rcases List.mem_cons.mp hp with z | z
          · subst z; rw [if_pos ep]; omega
          · have := ih z; omega
      exact Nat.le_trans (e _ pos) (Nat.mul_le_mul_right _ (cnt_sum ps _ h4))
  · have w := wet_keys hl (gKeys has ks) fun k hk => (h2 k).mp hk
    rw [← h3] at w
    rw [List.map_reverse, w, List.pairwise_reverse]
    have e : (gKeys has ks).filterMap id = ks.reverse := by
      have e0 : ∀ l : List Rat, (l.map some).filterMap id = l := fun l => by
        induction l with
        | nil => rfl
        | cons x l ih => rw [List.map_cons]; show x :: (l.map some).filterMap id = x :: l; rw [ih]
      unfold gKeys
      rw [List.filterMap_append, e0]
      cases has <;> rfl
    rw [e, List.pairwise_reverse]
    exact h1
  · rw [h3] at hx
    obtain ⟨k, hk, rfl⟩ := List.mem_map.mp hx
    obtain ⟨e1, _⟩ := ky_sumK hl ((h2 k).mp hk)
    cases k with
    | none => exact absurd (ky_none e1) n0
    | some c =>
      obtain ⟨_, es⟩ := ky_some e1
      rw [(div_eq n0).mpr es]
      exact key_bd (N := 0) (fun p hp => (h p hp).2) ((h2 _).mp hk)
  · have : x ∈ ((gKeys has ks).drop 1).map (sumK ps) := by rw [h3, ← List.map_drop] at hx; exact hx
    obtain ⟨k, hk, rfl⟩ := List.mem_map.mp this
    have hk2 : k ∈ gKeys has ks := List.mem_of_mem_drop hk
    obtain ⟨e1, _⟩ := ky_sumK hl ((h2 k).mp hk2)
    cases k with
    | some c => exact (ky_some e1).1
    | none =>
      exfalso
      unfold gKeys at hk
      have : none ∈ ks.reverse.map some := by
        cases has with
        | true => exact hk
        | false => exact List.mem_of_mem_drop hk
      obtain ⟨d, _, e⟩ := List.mem_map.mp this
      cases e
theorem cnt_pos {k : Option Rat} : ∀ {ps : List (Rat × Rat)}, (∃ p ∈ ps, ky p = k) → 1 ≤ cnt ps k
  | [], ⟨p, hp, _⟩ => by simp at hp
  | q :: ps, ⟨p, hp, e⟩ => by
    unfold cnt
    rcases List.mem_cons.mp hp with z | z
    · subst z; rw [if_pos e]; omega
    · have := cnt_pos ⟨p, z, e⟩; omega
theorem IsG.len {ps B : List (Rat × Rat)} (g : IsG ps B) : B.length ≤ ps.length := by
  obtain ⟨has, ks, h1, h2, h3, h4⟩ := g.keys
  have e : ∀ l : List (Option Rat), (∀ k ∈ l, 1 ≤ cnt ps k) → l.length ≤ (l.map (cnt ps)).sum := fun l => by
    induction l with
    | nil => intro _; simp
    | cons x l ih =>
      intro pos
      have := ih fun k hk => pos k (by simp [hk])
      have := pos x (by simp)
      simp -implicitDefEqProofs only [List.map_cons, List.sum_cons, List.length_cons]
      omega
  rw [h3, List.length_map]
  exact Nat.le_trans (e _ fun k hk => cnt_pos ((h2 k).mp hk)) (cnt_sum ps _ h4)
/-! a comprehension over a row of known things -/
abbrev wetOf (B : List (Rat × Rat)) : List (Rat × Rat) := B.filter fun x => decide (x.1 ≠ 0)
abbrev stR (x : Rat × Rat) : Rat := x.2 / x.1
/-- the strengths above nought, rising -/
def ownOf (B : List (Rat × Rat)) : List Rat := ((wetOf B).filter fun x => decide (x.2 ≠ 0)).reverse.map stR
/-! needs -/
/-- need by layers -/
def posF (c : Rat) (x : Rat × Rat) : Bool := decide (0 < x.1 - x.2 / c)
def ndL (c : Rat) (l : List (Rat × Rat)) : Rat := sumW (l.filter (posF c)) - sumS (l.filter (posF c)) / c
theorem sub_div (a b c d e : Rat) : (a + b) - (c + d) / e = (a - c / e) + (b - d / e) := by
  rw [Rat.div_def, Rat.div_def, Rat.div_def, Rat.add_mul]
  grind
theorem ndL_nil (c : Rat) : ndL c [] = 0 := by
  show (0 : Rat) - 0 / c = 0
  rw [Rat.div_def, Rat.zero_mul, Rat.sub_self]
theorem ndL_cons (c : Rat) (x : Rat × Rat) (l : List (Rat × Rat)) : ndL c (x :: l) = (if posF c x = true then x.1 - x.2 / c else 0) + ndL c l := by
  unfold ndL
  by_cases h : posF c x = true
  · rw [if_pos h, List.filter_cons_of_pos h, sumW_cons, sumS_cons, sub_div]
  · rw [if_neg h, List.filter_cons_of_neg h, Rat.zero_add]
/-! the law's own sums -/
section
variable {x y : Rat}
end
/-- a strength for f -/
structure StrOk (f : Rat) (k : Nat) (c : Rat) : Prop where
  pos : 0 < c
  le : c ≤ f
  bd : Bd k c
/-! sums over a brine -/
def sumF (φ : Rat × Rat → Rat) (l : List (Rat × Rat)) : Rat := l.foldr (fun p s => φ p + s) 0
theorem sumF_cons (φ : Rat × Rat → Rat) (p : Rat × Rat) (l : List (Rat × Rat)) : sumF φ (p :: l) = φ p + sumF φ l := rfl
theorem sumF_append (φ : Rat × Rat → Rat) : ∀ a b : List (Rat × Rat), sumF φ (a ++ b) = sumF φ a + sumF φ b
  | [], b => by show sumF φ b = 0 + sumF φ b; rw [Rat.zero_add]
  | x :: a, b => by rw [List.cons_append, sumF_cons, sumF_cons, sumF_append φ a b, Rat.add_assoc]
structure SumOk (φ : Rat × Rat → Rat) (l : List (Rat × Rat)) : Prop where
  el : ∀ x ∈ l, Bd 1800 (φ x)
  pre : ∀ a b, l = a ++ b → Bd 1800 (sumF φ a)
theorem SumOk.w {n : Nat} {l : List (Rat × Rat)} (h : SzL n l) (hn : n + 1 ≤ 1800) : SumOk (·.1) l := ⟨fun x hx => (h.bd x hx).w.mono (by omega), fun a b e => (h.sub (by rw [e]; exact List.sublist_append_left _ _)).sum.1.mono hn⟩
theorem SumOk.s {n : Nat} {l : List (Rat × Rat)} (h : SzL n l) (hn : n + 1 ≤ 1800) : SumOk (·.2) l := ⟨fun x hx => (h.bd x hx).s.mono (by omega), fun a b e => (h.sub (by rw [e]; exact List.sublist_append_left _ _)).sum.2.mono hn⟩
abbrev dryOf (B : List (Rat × Rat)) : List (Rat × Rat) := B.filter fun x => decide (x.1 = 0)
/-- the strength of the first of a row, None of none -/
def hdS : List (Rat × Rat) → D
  | [] => .non
  | x :: _ => frQ (stR x)
/-! shares -/
def shr (t : Rat) (B : List (Rat × Rat)) : List (Rat × Rat) := if t = 0 then [] else B.map fun x => (x.1 * t, x.2 * t)
/-! alike rows -/
theorem Sh.ly {p : Rat × Rat} (h : BdL 1900 p) : Sh 2 13 (lyQ p) := by
  have : Sh (1 + 1) ([frQ p.1, frQ p.2].length * (5 + 1) + 1) (.tup [frQ p.1, frQ p.2]) := Sh.tup (by
    simp -implicitDefEqProofs only [List.mem_cons, List.not_mem_nil, or_false]
    rintro d (rfl | rfl)
    · exact Sh.fr h.w
    · exact Sh.fr h.s)
  exact this
/-! rows that make the same brine -/
abbrev HasK (ps : List (Rat × Rat)) (k : Option Rat) : Prop := ∃ p ∈ ps, ky p = k
structure Same (ps qs : List (Rat × Rat)) : Prop where
  key : ∀ k, HasK ps k ↔ HasK qs k
  sum : ∀ k, sumK ps k = sumK qs k
theorem Same.symm {a b : List (Rat × Rat)} (h : Same a b) : Same b a := ⟨fun k => (h.key k).symm, fun k => (h.sum k).symm⟩
theorem Same.trans {a b c : List (Rat × Rat)} (h : Same a b) (g : Same b c) : Same a c := ⟨fun k => (h.key k).trans (g.key k), fun k => (h.sum k).trans (g.sum k)⟩
theorem hasK_append (a b : List (Rat × Rat)) (k : Option Rat) : HasK (a ++ b) k ↔ HasK a k ∨ HasK b k := by
  constructor
  · rintro ⟨p, hp, e⟩
    rcases List.mem_append.mp hp with z | z
    · exact .inl ⟨p, z, e⟩
    · exact .inr ⟨p, z, e⟩
  · rintro (⟨p, hp, e⟩ | ⟨p, hp, e⟩)
    · exact ⟨p, List.mem_append_left _ hp, e⟩
    · exact ⟨p, List.mem_append_right _ hp, e⟩
theorem Same.app {a b c d : List (Rat × Rat)} (h : Same a b) (g : Same c d) : Same (a ++ c) (b ++ d) :=
  ⟨fun k => by rw [hasK_append, hasK_append, h.key k, g.key k], fun k => by rw [sumK_append, sumK_append, h.sum k, g.sum k]⟩
theorem IsG.congr {ps qs B : List (Rat × Rat)} (g : IsG ps B) (h : Same ps qs) : IsG qs B := by
  obtain ⟨ks, a, b, fl, c, d, e⟩ := g.ex
  refine ⟨ks, a, fun c => (b c).trans (h.key _), fl, fun z => ?_, fun z => d fun y => z ((h.key _).mp y), ?_⟩
  · rw [c ((h.key _).mpr z), h.sum]
  · rw [e]
    congr 1
    exact List.map_congr_left fun c _ => h.sum _
theorem asc_eq : ∀ {l l' : List Rat}, l.Pairwise (· < ·) → l'.Pairwise (· < ·) → (∀ c, c ∈ l ↔ c ∈ l') → l = l'
  | [], [], _, _, _ => rfl
  | [], y :: l', _, _, h => by have := (h y).mpr (by simp); simp at this
  | x :: l, [], _, _, h => by have := (h x).mp (by simp); simp at this
  | x :: l, y :: l', h1, h2, h => by
    rw [List.pairwise_cons] at h1 h2
    have e : x = y := by
      rcases List.mem_cons.mp ((h x).mp (by simp)) with z | z
      · exact z
      · rcases List.mem_cons.mp ((h y).mpr (by simp)) with w | w
        · exact w.symm
        · exact absurd (h1.1 y w) (Rat.not_lt.mpr (Rat.le_of_lt (h2.1 x z)))
    subst e
    rw [asc_eq h1.2 h2.2 fun c => ?_]
    constructor
    · intro z
      rcases List.mem_cons.mp ((h c).mp (by simp [z])) with w | w
      · subst w; exact absurd (h1.1 c z) Rat.lt_irrefl
      · exact w
    · intro z
      rcases List.mem_cons.mp ((h c).mpr (by simp [z])) with w | w
      · subst w; exact absurd (h2.1 c z) Rat.lt_irrefl
      · exact w
theorem IsG.uniq {ps B C : List (Rat × Rat)} (g : IsG ps B) (h : IsG ps C) : B = C := by
  obtain ⟨ks, a, b, fl, c, d, e⟩ := g.ex
  obtain ⟨ks', a', b', fl', c', d', e'⟩ := h.ex
  have ek : ks = ks' := asc_eq a a' fun x => (b x).trans (b' x).symm
  have ef : fl = fl' := by
    by_cases z : ∃ p ∈ ps, ky p = none
    · rw [c z, c' z]
    · rw [d z, d' z]
  rw [e, e', ek, ef]
theorem IsG.nil : IsG [] [] := ⟨[], .nil, fun c => by simp, [], fun ⟨p, hp, _⟩ => by simp at hp, fun _ => rfl, rfl⟩
theorem sumK_no {k : Option Rat} : ∀ {ps : List (Rat × Rat)}, ¬ HasK ps k → sumK ps k = (0, 0)
  | [], _ => rfl
  | p :: ps, h => by
    rw [sumK_cons, if_neg fun z => h ⟨p, by simp, z⟩]
    exact sumK_no fun ⟨q, hq, e⟩ => h ⟨q, by simp [hq], e⟩
theorem sumK_keys {ps : List (Rat × Rat)} {k : Option Rat} : ∀ (l : List (Option Rat)), l.Nodup → (∀ j ∈ l, ky (sumK ps j) = j) → sumK (l.map (sumK ps)) k = if k ∈ l then sumK ps k else (0, 0)
  | [], _, _ => by simp; rfl
  | j :: l, nd, h => by
    rw [List.nodup_cons] at nd
    have ih := sumK_keys (k := k) l nd.2 fun i hi => h i (by simp [hi])
    rw [List.map_cons, sumK_cons, h j (by simp), ih]
    by_cases e : j = k
    · subst e
      rw [if_pos rfl, if_neg nd.1, if_pos (by simp)]
      rw [Rat.add_zero, Rat.add_zero]
    · rw [if_neg e]
      by_cases m : k ∈ l
      · rw [if_pos m, if_pos (by simp [m])]
      · rw [if_neg m, if_neg (by simp [m, Ne.symm e])]
theorem IsG.same {f : Rat} {ps B : List (Rat × Rat)} (g : IsG ps B) (hl : ∀ p ∈ ps, LayOk f p) : Same B ps := by
  obtain ⟨has, ks, h1, h2, h3, h4⟩ := g.keys
  have hk : ∀ j ∈ gKeys has ks, ky (sumK ps j) = j := fun j hj => (ky_sumK hl ((h2 j).mp hj)).1
  refine ⟨fun k => ?_, fun k => ?_⟩
  · refine Iff.trans ?_ (h2 k)
    rw [h3]
    constructor
    · rintro ⟨p, hp, e⟩
      obtain ⟨j, hj, rfl⟩ := List.mem_map.mp hp
      rw [hk j hj] at e
      rw [← e]; exact hj
    · intro z
      exact ⟨sumK ps k, List.mem_map.mpr ⟨k, z, rfl⟩, hk k z⟩
  · rw [h3, sumK_keys _ h4 hk]
    by_cases m : k ∈ gKeys has ks
    · rw [if_pos m]
    · rw [if_neg m, sumK_no fun z => m ((h2 k).mpr z)]
/-! sizes -/
theorem sumK_filter : ∀ (l : List (Rat × Rat)) (k : Option Rat), sumK l k = (sumW (l.filter fun p => decide (ky p = k)), sumS (l.filter fun p => decide (ky p = k)))
  | [], _ => rfl
  | p :: l, k => by
    rw [sumK_cons, sumK_filter l k]
    by_cases e : ky p = k
    · rw [if_pos e, List.filter_cons_of_pos (by simpa using e), sumW_cons, sumS_cons]
    · rw [if_neg e, List.filter_cons_of_neg (by simpa using e)]
theorem SzL.sumK {n : Nat} {l : List (Rat × Rat)} (h : SzL n l) (k : Option Rat) : BdL (n + 1) (Bw.sumK l k) := by
  rw [sumK_filter]
  have := (h.sub (List.filter_sublist (p := fun p => decide (ky p = k)))).sum
  exact ⟨this.1, this.2⟩
theorem SzL.app {m n : Nat} {a b : List (Rat × Rat)} (h : SzL m a) (g : SzL n b) : SzL (m + n) (a ++ b) := by
  obtain ⟨zs, a1, b1, c1⟩ := h
  obtain ⟨ys, a2, b2, c2⟩ := g
  refine ⟨zs ++ ys, by rw [List.map_append, a1, a2], fun z hz => ?_, by rw [List.map_append, List.sum_append]; omega⟩
  rcases List.mem_append.mp hz with z | z
  · exact b1 _ z
  · exact b2 _ z
/-! a brine and a row that it is made of -/
structure BG (f : Rat) (ps B : List (Rat × Rat)) : Prop where
  g : IsG ps B
  lay : ∀ p ∈ ps, LayOk f p ∧ BdL 40 p
  len : ps.length ≤ 30
theorem BG.ln {f : Rat} {ps B : List (Rat × Rat)} (h : BG f ps B) : B.length ≤ 30 := Nat.le_trans h.g.len h.len
theorem BG.same {f : Rat} {ps B : List (Rat × Rat)} (h : BG f ps B) : Same B ps := h.g.same fun p hp => (h.lay p hp).1
theorem BG.nil (f : Rat) : BG f [] [] := ⟨IsG.nil, fun p hp => by simp at hp, by simp⟩
theorem BG.eq {f : Rat} {ps qs A B : List (Rat × Rat)} (h : BG f ps A) (g : BG f qs B) (s : Same ps qs) : A = B := (h.g.congr s).uniq g.g
/-! totals -/
structure AddK (G : Option Rat → Rat × Rat → Rat) : Prop where
  z : ∀ k, G k (0, 0) = 0
  a : ∀ k p q, G k (p.1 + q.1, p.2 + q.2) = G k p + G k q
abbrev totK (G : Option Rat → Rat × Rat → Rat) (l : List (Rat × Rat)) : Rat := sumF (fun p => G (ky p) p) l
def sumO (ψ : Option Rat → Rat) (l : List (Option Rat)) : Rat := l.foldr (fun k s => ψ k + s) 0
theorem sumO_cons (ψ : Option Rat → Rat) (k : Option Rat) (l : List (Option Rat)) : sumO ψ (k :: l) = ψ k + sumO ψ l := rfl
theorem sumO_zero {ψ : Option Rat → Rat} : ∀ {l : List (Option Rat)}, (∀ k ∈ l, ψ k = 0) → sumO ψ l = 0
  | [], _ => rfl
  | k :: l, h => by rw [sumO_cons, h k (by simp), sumO_zero fun j hj => h j (by simp [hj]), Rat.add_zero]
theorem sumO_one {j : Option Rat} {v : Rat} : ∀ {l : List (Option Rat)}, l.Nodup → j ∈ l → sumO (fun k => if j = k then v else 0) l = v
  | k :: l, nd, h => by
    rw [List.nodup_cons] at nd
    rw [sumO_cons]
    by_cases e : j = k
    · subst e
      rw [if_pos rfl, sumO_zero fun i hi => if_neg fun z => nd.1 (by rw [z]; exact hi), Rat.add_zero]
    · rw [if_neg e, Rat.zero_add]
      exact sumO_one nd.2 ((List.mem_cons.mp h).resolve_left e)
theorem sumO_add {ψ χ : Option Rat → Rat} : ∀ l : List (Option Rat), sumO (fun k => ψ k + χ k) l = sumO ψ l + sumO χ l
  | [] => by show (0 : Rat) = 0 + 0; rw [Rat.add_zero]
  | k :: l => by
    rw [sumO_cons, sumO_cons, sumO_cons, sumO_add l]
    grind
theorem sumO_congr {ψ χ : Option Rat → Rat} : ∀ {l : List (Option Rat)}, (∀ k ∈ l, ψ k = χ k) → sumO ψ l = sumO χ l
  | [], _ => rfl
  | k :: l, h => by rw [sumO_cons, sumO_cons, h k (by simp), sumO_congr fun j hj => h j (by simp [hj])]
theorem totK_keys {G : Option Rat → Rat × Rat → Rat} (hG : AddK G) {l : List (Option Rat)} (nd : l.Nodup) : ∀ ps : List (Rat × Rat), (∀ p ∈ ps, ky p ∈ l) → sumO (fun k => G k (sumK ps k)) l = totK G ps
  | [], _ => sumO_zero fun k _ => hG.z k
  | p :: ps, h => by
    have ih := totK_keys hG nd ps fun q hq => h q (by simp [hq])
    have e : ∀ k ∈ l, G k (sumK (p :: ps) k) = (if ky p = k then G (ky p) p else 0) + G k (sumK ps k) := fun k _ => by
      rw [sumK_cons]
      by_cases z : ky p = k
      · rw [if_pos z, if_pos z, hG.a, z]
      · rw [if_neg z, if_neg z, Rat.zero_add]
    rw [sumO_congr e, sumO_add, sumO_one nd (h p (by simp)), ih]
    rfl
theorem totK_map {G : Option Rat → Rat × Rat → Rat} {ps : List (Rat × Rat)} : ∀ (l : List (Option Rat)), (∀ j ∈ l, ky (sumK ps j) = j) → totK G (l.map (sumK ps)) = sumO (fun k => G k (sumK ps k)) l
  | [], _ => rfl
  | k :: l, h => by
    rw [List.map_cons, sumO_cons, ← totK_map l fun j hj => h j (by simp [hj])]
    show G (ky (sumK ps k)) (sumK ps k) + _ = _
    rw [h k (by simp)]
    rfl
theorem BG.tot {f : Rat} {ps B : List (Rat × Rat)} {G : Option Rat → Rat × Rat → Rat} (h : BG f ps B) (hG : AddK G) : totK G B = totK G ps := by
  obtain ⟨has, ks, h1, h2, h3, h4⟩ := h.g.keys
  rw [h3, totK_map _ fun j hj => (ky_sumK (fun p hp => (h.lay p hp).1) ((h2 j).mp hj)).1]
  exact totK_keys hG h4 ps fun p hp => (h2 _).mpr ⟨p, hp, rfl⟩
theorem BG.add {f : Rat} {ps qs A B C : List (Rat × Rat)} {G : Option Rat → Rat × Rat → Rat} (hG : AddK G) (hA : BG f ps A) (hB : BG f qs B) (hC : BG f (ps ++ qs) C) : totK G A + totK G B = totK G C := by
  rw [hA.tot hG, hB.tot hG, hC.tot hG]
  exact (sumF_append _ _ _).symm
/-! totals of water, salt, fallen salt, needs -/
def Gw (_ : Option Rat) (p : Rat × Rat) : Rat := p.1
def Gs (_ : Option Rat) (p : Rat × Rat) : Rat := p.2
def Gd : Option Rat → Rat × Rat → Rat
  | none, p => p.2
  | some _, _ => 0
def Gn (c : Rat) : Option Rat → Rat × Rat → Rat
  | none, _ => 0
  | some s, p => if s < c then p.1 - p.2 / c else 0
/-! shares of a brine -/
theorem ky_scl {t : Rat} (h : t ≠ 0) (x : Rat × Rat) : ky (x.1 * t, x.2 * t) = ky x := by
  unfold ky
  by_cases z : x.1 = 0
  · rw [if_pos z, if_pos (by show x.1 * t = 0; rw [z, Rat.zero_mul])]
  · have nz : x.1 * t ≠ 0 := fun e => (Rat.mul_eq_zero.mp e).elim z h
    rw [if_neg z, if_neg nz]
    congr 1
    show x.2 * t / (x.1 * t) = x.2 / x.1
    rw [div_eq nz]
    have := Rat.div_mul_cancel (a := x.2) z
    rw [← Rat.mul_assoc, this]
theorem sumK_scl {t : Rat} (h : t ≠ 0) (k : Option Rat) : ∀ ps : List (Rat × Rat), sumK (ps.map fun x => (x.1 * t, x.2 * t)) k = ((sumK ps k).1 * t, (sumK ps k).2 * t)
  | [] => by show ((0 : Rat), (0 : Rat)) = (0 * t, 0 * t); rw [Rat.zero_mul]
  | p :: ps => by
    rw [List.map_cons, sumK_cons, sumK_cons, ky_scl h, sumK_scl h k ps]
    split
    · rw [Rat.add_mul, Rat.add_mul]
    · rfl
theorem hasK_scl {t : Rat} (h : t ≠ 0) (ps : List (Rat × Rat)) (k : Option Rat) : HasK (ps.map fun x => (x.1 * t, x.2 * t)) k ↔ HasK ps k := by
  constructor
  · rintro ⟨p, hp, e⟩
    obtain ⟨q, hq, rfl⟩ := List.mem_map.mp hp
    rw [ky_scl h] at e
    exact ⟨q, hq, e⟩
  · rintro ⟨p, hp, e⟩
    exact ⟨_, List.mem_map.mpr ⟨p, hp, rfl⟩, by rw [ky_scl h]; exact e⟩
theorem shr_zero (B : List (Rat × Rat)) : shr 0 B = [] := by unfold shr; rw [if_pos rfl]
theorem shr_ne {t : Rat} (h : t ≠ 0) (B : List (Rat × Rat)) : shr t B = B.map fun x => (x.1 * t, x.2 * t) := by unfold shr; rw [if_neg h]
theorem IsG.shr {ps B : List (Rat × Rat)} (g : IsG ps B) (t : Rat) : IsG (Bw.shr t ps) (Bw.shr t B) := by
  by_cases h : t = 0
  · subst h
    rw [shr_zero, shr_zero]; exact IsG.nil
  · rw [shr_ne h, shr_ne h]
    obtain ⟨ks, a, b, fl, c, d, e⟩ := g.ex
    refine ⟨ks, a, fun x => (b x).trans (hasK_scl h ps _).symm, fl.map fun x => (x.1 * t, x.2 * t), fun z => ?_, fun z => ?_, ?_⟩
    · rw [c ((hasK_scl h ps none).mp z), sumK_scl h]; rfl
    · rw [d fun y => z ((hasK_scl h ps none).mpr y)]; rfl
    · rw [e, List.map_append, List.map_map]
      congr 1
      exact List.map_congr_left fun x _ => (sumK_scl h _ ps).symm
theorem LayOk.scl {f t : Rat} {x : Rat × Rat} (h : LayOk f x) (t0 : 0 < t) : LayOk f (x.1 * t, x.2 * t) := by
  have tn := Rat.le_of_lt t0
  refine ⟨Rat.mul_nonneg h.w tn, Rat.mul_nonneg h.s tn, fun z => ?_, fun z => ?_⟩
  · have : x.1 = 0 := by
      rcases Rat.mul_eq_zero.mp z with y | y
      · exact y
      · exact absurd y (Rat.ne_of_gt t0)
    exact Rat.mul_pos (h.nz this) t0
  · have : 0 < x.1 := by
      rcases Rat.le_iff_lt_or_eq.mp h.w with y | y
      · exact y
      · have z' : 0 < x.1 * t := z
        rw [← y, Rat.zero_mul] at z'
        exact absurd z' Rat.lt_irrefl
    have := Rat.mul_le_mul_of_nonneg_right (h.le this) tn
    show x.2 * t ≤ f * (x.1 * t)
    rw [← Rat.mul_assoc]; exact this
theorem shr_len (t : Rat) (B : List (Rat × Rat)) : (shr t B).length ≤ B.length := by
  unfold shr
  split <;> simp
theorem BG.shr {f t : Rat} {ps B : List (Rat × Rat)} (h : BG f ps B) (hp : ∀ p ∈ ps, BdL 34 p) (t0 : 0 ≤ t) (bt : Bd 6 t) : BG f (Bw.shr t ps) (Bw.shr t B) := by
  refine ⟨h.g.shr t, ?_, Nat.le_trans (shr_len t ps) h.len⟩
  by_cases z : t = 0
  · subst z
    rw [shr_zero]
    intro p hp; simp at hp
  · rw [shr_ne z]
    intro p hm
    obtain ⟨q, hq, rfl⟩ := List.mem_map.mp hm
    exact ⟨(h.lay q hq).1.scl (Rat.lt_of_le_of_ne t0 (Ne.symm z)), ⟨(hp q hq).w.mul bt, (hp q hq).s.mul bt⟩⟩
/-! is_brine -/
abbrev Below (x y : Rat × Rat) : Prop := y.2 * x.1 < x.2 * y.1
theorem bls_true {α : Type} : ∀ l : List α, blsOf (l.map fun _ => D.bl true) = some (l.map fun _ => true)
  | [] => rfl
  | x :: l => by
    rw [List.map_cons, List.map_cons, blsOf, bls_true l]; rfl
theorem oAll_true {α : Type} (l : List α) (ρ : Env) (M : Mem) : oAll [.lst (l.map fun _ => D.bl true)] ρ M = some (.ok (.bl true), M) := by
  unfold oAll oBs
  dsimp only
  rw [bls_true]
  dsimp only
  have : (l.map fun _ => true).all id = true := by simp
  rw [this]; rfl
/-! the strengths of a brine -/
/-! least, greatest -/
def minL : Rat → List Rat → Rat
  | b, [] => b
  | b, q :: qs => minL (if q < b then q else b) qs
def maxL : Rat → List Rat → Rat
  | b, [] => b
  | b, q :: qs => maxL (if b < q then q else b) qs
/-! the pool -/
/-! the law's own reckoning -/
section
variable {x y : Rat}
end
/-! weathers -/
/-- the parts of spells between two moments, from a begin on -/
def mnQ (a b : Rat) : Rat := if b < a then b else a
def mxQ (a b : Rat) : Rat := if a < b then b else a
def sbw : Rat → List (Rat × Rat) → Rat → Rat → List (Rat × Rat)
  | _, [], _, _ => []
  | b, x :: W, p, q => (if 0 < mnQ (b + x.1) q - mxQ b p then [(mnQ (b + x.1) q - mxQ b p, x.2)] else []) ++ sbw (b + x.1) W p q
/-- what spells bring -/
def brg (a : Rat) (S : List (Rat × Rat)) : Rat := a * sumF (fun x => x.1 * x.2) S
/-! sizes by whole parts -/
def Gu (U : Int) (q : Rat) : Prop := ∃ a : Int, q = (a : Rat) * (U : Rat)⁻¹
theorem Gu.sub {U : Int} {p q : Rat} (hp : Gu U p) (hq : Gu U q) : Gu U (p - q) := by
  obtain ⟨a, rfl⟩ := hp; obtain ⟨b, rfl⟩ := hq
  exact ⟨a - b, by rw [Rat.intCast_sub]; grind⟩
theorem Gu.add {U : Int} {p q : Rat} (hp : Gu U p) (hq : Gu U q) : Gu U (p + q) := by
  obtain ⟨a, rfl⟩ := hp; obtain ⟨b, rfl⟩ := hq
  exact ⟨a + b, by rw [Rat.intCast_add, Rat.add_mul]⟩
theorem Gu.zero {U : Int} : Gu U 0 := ⟨0, by rw [Rat.intCast_zero, Rat.zero_mul]⟩
theorem divInt_mul' {u : Int} (a : Int) : Rat.divInt a u = (a : Rat) * ((u : Rat))⁻¹ := by rw [Rat.divInt_eq_div, Rat.div_def]
theorem Gu.mul {U V : Int} {p q : Rat} (hp : Gu U p) (hq : Gu V q) : Gu (U * V) (p * q) := by
  obtain ⟨a, rfl⟩ := hp; obtain ⟨b, rfl⟩ := hq
  refine ⟨a * b, ?_⟩
  rw [← divInt_mul', ← divInt_mul', ← divInt_mul', Rat.divInt_mul_divInt]
theorem Gu.bd {U T : Int} {k : Nat} {q : Rat} (h : Gu U q) (hU : 0 < U) (h0 : -(T : Rat) ≤ q) (h1 : q ≤ (T : Rat)) (hk : U * T < 2 ^ k) (hk2 : U < 2 ^ k) : Bd k q := by
  obtain ⟨a, rfl⟩ := h
  have up : (0 : Rat) < (U : Rat) := by exact_mod_cast hU
  have e := Rat.mul_inv_cancel (U : Rat) (Rat.ne_of_gt up)
  have x : (a : Rat) * (U : Rat)⁻¹ * U = a := by grind
  have y1 := Rat.mul_le_mul_of_nonneg_right h0 (Rat.le_of_lt up)
  have y2 := Rat.mul_le_mul_of_nonneg_right h1 (Rat.le_of_lt up)
  rw [x] at y1 y2
  have y1' : (((-T) * U : Int) : Rat) ≤ (a : Rat) := by
    have : (((-T) * U : Int) : Rat) = -(T : Rat) * (U : Rat) := by rw [Rat.intCast_mul, Rat.intCast_neg]
    rw [this]; exact y1
  have z1 : -T * U ≤ a := by exact_mod_cast y1'
  have z2 : a ≤ T * U := by exact_mod_cast y2
  rw [← divInt_mul']
  have c : T * U = U * T := Int.mul_comm _ _
  have c2 : -T * U = -(U * T) := by rw [Int.neg_mul, c]
  exact bd_divInt (by omega) (by have : (2 : Int) ^ k = ((2 ^ k : Nat) : Int) := by push_cast; rfl
                                 omega) (by have : (2 : Int) ^ k = ((2 ^ k : Nat) : Int) := by push_cast; rfl
                                            omega)
structure SpOk (x : Rat × Rat) : Prop where
  d0 : 0 < x.1
  d1 : x.1 ≤ ((6 : Int) : Rat)
  gd : Gu 84 x.1
  gn : Gu 4 x.2
  n0 : -((4 : Int) : Rat) ≤ x.2
  n1 : x.2 ≤ ((4 : Int) : Rat)
def cam (fs a : Rat) (W : List (Rat × Rat)) (b m : Rat) : Rat := (if b = 0 then fs else 0) + brg a (sbw 0 W b m)
structure Mo (W : List (Rat × Rat)) (m : Rat) : Prop where
  gu : Gu 84 m
  bd : Bd 60 m
/-- the worths at the turns -/
def wts (a : Rat) : Rat → List (Rat × Rat) → List Rat
  | w, [] => [w]
  | w, x :: S => w :: wts a (mxQ 0 (w + brg a [x])) S
def wtl (a : Rat) : Rat → List (Rat × Rat) → Rat
  | w, [] => w
  | w, x :: S => wtl a (mxQ 0 (w + brg a [x])) S
/-! the sun's mathematics -/
def z0 (x : Rat) : Rat := if 0 < x then x else 0
theorem z0_nn (x : Rat) : 0 ≤ z0 x := by unfold z0; split <;> grind
theorem z0_of {x : Rat} (h : 0 ≤ x) : z0 x = x := by unfold z0; split <;> grind
theorem z0_np {x : Rat} (h : x ≤ 0) : z0 x = 0 := by unfold z0; split <;> grind
theorem z0_le {x : Rat} (h : 0 ≤ x) {y : Rat} (hy : y ≤ x) : z0 y ≤ x := by unfold z0; split <;> grind
/-- strengths rise, none is above full -/
structure Wet (F : Rat) (L : List (Rat × Rat)) : Prop where
  pos : ∀ x ∈ L, 0 < x.1
  nn : ∀ x ∈ L, 0 ≤ x.2
  le : ∀ x ∈ L, x.2 ≤ F * x.1
  up : L.Pairwise fun x y => x.2 * y.1 < y.2 * x.1
theorem Wet.tl {F : Rat} {x : Rat × Rat} {L : List (Rat × Rat)} (h : Wet F (x :: L)) : Wet F L :=
  ⟨fun y hy => h.pos y (by simp [hy]), fun y hy => h.nn y (by simp [hy]), fun y hy => h.le y (by simp [hy]), (List.pairwise_cons.mp h.up).2⟩
theorem Wet.hd {F : Rat} {x : Rat × Rat} {L : List (Rat × Rat)} (h : Wet F (x :: L)) : ∀ y ∈ L, x.2 * y.1 < y.2 * x.1 := (List.pairwise_cons.mp h.up).1
theorem Wet.nil {F : Rat} : Wet F [] := ⟨by simp, by simp, by simp, by simp⟩
section
variable {c P Q u : Rat}
theorem lk3 (hc : 0 < c) : u < P - Q / c ↔ Q < c * (P - u) := by
  have h := Rat.div_lt_iff (a := Q) (b := c) (c := P - u) hc
  rw [Rat.mul_comm (P - u)] at h
  constructor
  · intro x; exact h.mp (by grind)
  · intro x; have := h.mpr x; grind
theorem lk1 (hc : 0 < c) : P - Q / c ≤ u ↔ c * (P - u) ≤ Q := by
  have h := lk3 (P := P) (Q := Q) (u := u) hc
  constructor
  · intro x
    refine Rat.not_lt.mp fun y => ?_
    have := h.mpr y; grind
  · intro x
    refine Rat.not_lt.mp fun y => ?_
    have := h.mp y; grind
theorem lk0 (hc : 0 < c) (h : Q ≤ c * P) : 0 ≤ P - Q / c := by
  refine Rat.not_lt.mp fun y => ?_
  have h1 := (lk1 (P := P) (Q := Q) (u := P - Q / c) hc).mp Rat.le_refl
  have h2 : c * (P - (P - Q / c)) = c * P - c * (P - Q / c) := by grind
  have h3 : 0 < c * (0 - (P - Q / c)) := Rat.mul_pos hc (by grind)
  have h4 : c * (0 - (P - Q / c)) = - (c * (P - Q / c)) := by grind
  have h5 : c * (P - (P - Q / c)) = Q := by
    have : P - (P - Q / c) = Q / c := by grind
    rw [this, Rat.mul_comm, Rat.div_mul_cancel (Rat.ne_of_gt hc)]
  grind
theorem div_anti {a : Rat} (hQ : 0 ≤ Q) (hc : 0 < c) (h : c ≤ a) : Q / a ≤ Q / c := by
  have ha : 0 < a := by grind
  have e1 : Q / c * c = Q := Rat.div_mul_cancel (Rat.ne_of_gt hc)
  have q0 : 0 ≤ Q / c := by
    rw [Rat.div_def]
    exact Rat.mul_nonneg hQ (Rat.le_of_lt (Rat.inv_pos.mpr hc))
  have : Q / a * a ≤ Q / c * a := by
    rw [Rat.div_mul_cancel (Rat.ne_of_gt ha)]
    have := Rat.mul_le_mul_of_nonneg_left h q0
    rw [e1] at this; exact this
  exact Rat.le_of_mul_le_mul_right this ha
end
theorem tm_z (c : Rat) (x : Rat × Rat) : (if posF c x = true then x.1 - x.2 / c else 0) = z0 (x.1 - x.2 / c) := by
  unfold posF z0
  by_cases h : 0 < x.1 - x.2 / c
  · rw [if_pos (decide_eq_true h), if_pos h]
  · rw [if_neg (by simpa using h), if_neg h]
theorem ndz (c : Rat) (x : Rat × Rat) (L : List (Rat × Rat)) : ndL c (x :: L) = z0 (x.1 - x.2 / c) + ndL c L := by rw [ndL_cons, tm_z]
theorem nd_nn (c : Rat) : ∀ L : List (Rat × Rat), 0 ≤ ndL c L
  | [] => by rw [ndL_nil]; exact Rat.le_refl
  | x :: L => by rw [ndz]; have := nd_nn c L; have := z0_nn (x.1 - x.2 / c); grind
theorem nd_zero {c : Rat} (hc : 0 < c) : ∀ L : List (Rat × Rat), (∀ y ∈ L, c * y.1 ≤ y.2) → ndL c L = 0
  | [], _ => ndL_nil c
  | x :: L, h => by
    have h1 := (lk1 (P := x.1) (Q := x.2) (u := 0) hc).mpr (by have := h x (by simp); grind)
    rw [ndz, nd_zero hc L fun y hy => h y (by simp [hy]), z0_np h1, Rat.add_zero]
theorem nd_ge (c : Rat) : ∀ L R : List (Rat × Rat), sumW L - sumS L / c ≤ ndL c (L ++ R)
  | [], R => by
    have := nd_nn c R
    have e : sumW [] - sumS [] / c = 0 := by
      show (0 : Rat) - 0 / c = 0
      rw [Rat.div_def, Rat.zero_mul]; grind
    rw [e]; exact this
  | x :: L, R => by
    have ih := nd_ge c L R
    rw [List.cons_append, ndz, sumW_cons, sumS_cons, sub_div]
    have : x.1 - x.2 / c ≤ z0 (x.1 - x.2 / c) := by unfold z0; split <;> grind
    grind
def aheadS (F : Rat) : List (Rat × Rat) → Rat
  | [] => F
  | y :: _ => y.2 / y.1
def poolS (F u : Rat) : Rat → Rat → List (Rat × Rat) → Rat × Rat × List (Rat × Rat)
  | P, Q, [] => (P, Q, [])
  | P, Q, x :: L => if u < P + x.1 - (Q + x.2) / aheadS F L then (P + x.1, Q + x.2, L) else poolS F u (P + x.1) (Q + x.2) L
structure PoolOk (F u P Q : Rat) (L : List (Rat × Rat)) (r : Rat × Rat × List (Rat × Rat)) : Prop where
  ex : ∃ pre, L = pre ++ r.2.2 ∧ r.1 = P + sumW pre ∧ r.2.1 = Q + sumS pre ∧ (L ≠ [] → pre ≠ [])
  fin : u < r.1 - r.2.1 / aheadS F r.2.2 ∨ (r.2.2 = [] ∧ r.1 - r.2.1 / F ≤ u)
  nd : ∀ c, 0 < c → c ≤ F → z0 (z0 (P - Q / c) + ndL c L - u) = z0 (z0 (r.1 - r.2.1 / c) + ndL c r.2.2 - u)
theorem nd_step {F c P Q u : Rat} {x : Rat × Rat} {L : List (Rat × Rat)} (h : Wet F (x :: L)) (hc : 0 < c) (hP : 0 ≤ P) (hQ : 0 ≤ Q) (hu : 0 ≤ u) (hi : Q * x.1 ≤ x.2 * P) (ps : P - Q / (x.2 / x.1) ≤ u) :
    z0 (z0 (P - Q / c) + ndL c (x :: L) - u) = z0 (z0 (P + x.1 - (Q + x.2) / c) + ndL c L - u) := by
  have x0 := h.pos x (by simp)
  have s0 := h.nn x (by simp)
  by_cases A : x.2 < c * x.1
  · have t : 0 < x.1 - x.2 / c := (lk3 hc).mpr (by grind)
    have h1 : x.2 * P ≤ c * x.1 * P := Rat.mul_le_mul_of_nonneg_right (Rat.le_of_lt A) hP
    have h2 : Q ≤ c * P := by
      refine Rat.le_of_mul_le_mul_right (c := x.1) ?_ x0
      have : c * P * x.1 = c * x.1 * P := by grind
      rw [this]; exact Rat.le_trans hi h1
    have d0 := lk0 hc h2
    rw [ndz, z0_of (Rat.le_of_lt t), z0_of d0, sub_div, z0_of (x := P - Q / c + (x.1 - x.2 / c)) (by grind)]
    congr 1
    grind
  · have A := Rat.not_lt.mp A
    have al : ∀ y ∈ L, c * y.1 ≤ y.2 := fun y hy => by
      have y0 := h.pos y (by simp [hy])
      have st := h.hd y hy
      refine Rat.le_of_mul_le_mul_right (c := x.1) ?_ x0
      have h1 : c * x.1 * y.1 ≤ x.2 * y.1 := Rat.mul_le_mul_of_nonneg_right A (Rat.le_of_lt y0)
      have e : c * y.1 * x.1 = c * x.1 * y.1 := by grind
      rw [e]; exact Rat.le_trans h1 (Rat.le_of_lt st)
    have nz : ndL c L = 0 := nd_zero hc L al
    have tz : x.1 - x.2 / c ≤ 0 := (lk1 hc).mpr (by grind)
    have ca : c ≤ x.2 / x.1 := by
      refine Rat.le_of_mul_le_mul_right (c := x.1) ?_ x0
      rw [Rat.div_mul_cancel (Rat.ne_of_gt x0)]; exact A
    have da := div_anti hQ hc ca
    have dl : P - Q / c ≤ u := by grind
    have zl := z0_le hu dl
    rw [ndz, nz, z0_np tz, sub_div]
    have zl2 : z0 (P - Q / c + (x.1 - x.2 / c)) ≤ u := z0_le hu (by grind)
    rw [z0_np (x := z0 (P - Q / c) + (0 + 0) - u) (by grind), z0_np (by grind)]
theorem pool_ok {F u : Rat} (hu : 0 ≤ u) : ∀ (L : List (Rat × Rat)) (P Q : Rat), Wet F L → 0 ≤ P → 0 ≤ Q → (∀ y ∈ L, Q * y.1 ≤ y.2 * P) → P - Q / aheadS F L ≤ u → PoolOk F u P Q L (poolS F u P Q L)
  | [], P, Q, _, _, _, _, ps => ⟨⟨[], rfl, by show P = P + 0; rw [Rat.add_zero], by show Q = Q + 0; rw [Rat.add_zero], fun h => absurd rfl h⟩, .inr ⟨rfl, ps⟩, fun _ _ _ => rfl⟩
  | x :: L, P, Q, h, hP, hQ, hi, ps => by
    have x0 := h.pos x (by simp)
    have s0 := h.nn x (by simp)
    have stp := fun c hc => nd_step (c := c) h hc hP hQ hu (hi x (by simp)) ps
    have hi1 : ∀ y ∈ L, (Q + x.2) * y.1 ≤ y.2 * (P + x.1) := fun y hy => by
      have a := hi y (by simp [hy])
      have b := h.hd y hy
      grind
    rw [poolS]
    by_cases z : u < P + x.1 - (Q + x.2) / aheadS F L
    · rw [if_pos z]
      exact ⟨⟨[x], rfl, by rw [sumW_cons]; show P + x.1 = P + (x.1 + 0); rw [Rat.add_zero], by rw [sumS_cons]; show Q + x.2 = Q + (x.2 + 0); rw [Rat.add_zero], fun _ => by simp⟩, .inl z, fun c hc _ => stp c hc⟩
    · rw [if_neg z]
      obtain ⟨⟨pre, e1, e2, e3, _⟩, f, n⟩ := pool_ok hu L (P + x.1) (Q + x.2) h.tl (by grind) (by grind) hi1 (Rat.not_lt.mp z)
      exact ⟨⟨x :: pre, by rw [List.cons_append, ← e1], by rw [e2, sumW_cons]; grind, by rw [e3, sumS_cons]; grind, fun _ => by simp⟩, f, fun c hc hF => (stp c hc).trans (n c hc hF)⟩
/-! drying -/
section
variable {c P Q u : Rat}
theorem lk4 (hc : 0 < c) : P - Q / c < u ↔ c * (P - u) < Q := by
  have h := Rat.lt_div_iff (a := P - u) (b := Q) (c := c) hc
  rw [Rat.mul_comm (P - u)] at h
  constructor
  · intro x; exact h.mp (by grind)
  · intro x; have := h.mpr x; grind
end
theorem mul_pos_of {a b : Rat} (h : 0 < a * b) (hb : 0 < b) : 0 < a := by
  refine Rat.not_le.mp fun z => ?_
  have := Rat.mul_le_mul_of_nonneg_right z (Rat.le_of_lt hb)
  rw [Rat.zero_mul] at this
  grind
theorem lt_of_mul {a b x : Rat} (h : a * x < b * x) (hx : 0 < x) : a < b := by
  refine Rat.not_le.mp fun z => ?_
  have := Rat.mul_le_mul_of_nonneg_right z (Rat.le_of_lt hx)
  grind
theorem sums_nn : ∀ L : List (Rat × Rat), (∀ x ∈ L, 0 ≤ x.1 ∧ 0 ≤ x.2) → 0 ≤ sumW L ∧ 0 ≤ sumS L
  | [], _ => ⟨Rat.le_refl, Rat.le_refl⟩
  | x :: L, h => by
    have hx := h x (by simp)
    have ih := sums_nn L fun y hy => h y (by simp [hy])
    rw [sumW_cons, sumS_cons]
    exact ⟨by grind, by grind⟩
theorem sumS_pos : ∀ L : List (Rat × Rat), (∀ x ∈ L, 0 < x.2) → L ≠ [] → 0 < sumS L
  | [], _, h => absurd rfl h
  | [x], h, _ => by
    rw [sumS_cons]; show 0 < x.2 + 0; rw [Rat.add_zero]; exact h x (by simp)
  | x :: y :: L, h, _ => by
    have := sumS_pos (y :: L) (fun z hz => h z (by simp [hz])) (by simp)
    have := h x (by simp)
    rw [sumS_cons]; grind
theorem gs_sum {s : Rat} (hs : 0 < s) : ∀ L : List (Rat × Rat), (∀ x ∈ L, s * x.1 < x.2) → L ≠ [] → sumW L - sumS L / s < 0
  | [], _, h => absurd rfl h
  | [x], h, _ => by
    have := (lk4 (P := x.1) (Q := x.2) (u := 0) hs).mpr (by have := h x (by simp); grind)
    rw [sumW_cons, sumS_cons]
    show x.1 + 0 - (x.2 + 0) / s < 0
    rw [Rat.add_zero, Rat.add_zero]; exact this
  | x :: y :: L, h, _ => by
    have h1 := gs_sum hs (y :: L) (fun z hz => h z (by simp [hz])) (by simp)
    have := (lk4 (P := x.1) (Q := x.2) (u := 0) hs).mpr (by have := h x (by simp); grind)
    rw [sumW_cons, sumS_cons, sub_div]
    grind
/-- the rain water on top -/
def rnW : List (Rat × Rat) → Rat
  | [] => 0
  | x :: _ => if x.2 = 0 then x.1 else 0
theorem Wet.salty {F : Rat} {x : Rat × Rat} {L : List (Rat × Rat)} (h : Wet F (x :: L)) : ∀ y ∈ L, 0 < y.2 := fun y hy => by
  have a := h.hd y hy
  have x0 := h.pos x (by simp)
  have y0 := h.pos y (by simp [hy])
  have := Rat.mul_nonneg (h.nn x (by simp)) (Rat.le_of_lt y0)
  exact mul_pos_of (b := x.1) (by grind) x0
theorem Wet.rn_nn {F : Rat} {L : List (Rat × Rat)} (h : Wet F L) : 0 ≤ rnW L := by
  cases L with
  | nil => exact Rat.le_refl
  | cons x L =>
    show 0 ≤ (if x.2 = 0 then x.1 else 0)
    split
    · exact Rat.le_of_lt (h.pos x (by simp))
    · exact Rat.le_refl
theorem Wet.ahead {F : Rat} {pre R : List (Rat × Rat)} (h : Wet F (pre ++ R)) (F0 : 0 < F) (hp : pre ≠ []) : 0 < aheadS F R ∧ aheadS F R ≤ F ∧ ∀ y ∈ R, aheadS F R * y.1 ≤ y.2 := by
  cases R with
  | nil => exact ⟨F0, Rat.le_refl, by simp⟩
  | cons y T =>
    obtain ⟨x, p, rfl⟩ : ∃ x p, pre = x :: p := by cases pre with
      | nil => exact absurd rfl hp
      | cons x p => exact ⟨x, p, rfl⟩
    have y0 := h.pos y (by simp)
    have s0 : 0 < y.2 := Wet.salty (x := x) (L := p ++ y :: T) h y (by simp)
    have e : y.2 / y.1 * y.1 = y.2 := Rat.div_mul_cancel (Rat.ne_of_gt y0)
    refine ⟨mul_pos_of (b := y.1) (by show 0 < y.2 / y.1 * y.1; rw [e]; exact s0) y0, ?_, fun z hz => ?_⟩
    · refine Rat.le_of_mul_le_mul_right (c := y.1) ?_ y0
      show y.2 / y.1 * y.1 ≤ _
      rw [e]; exact h.le y (by simp)
    · show y.2 / y.1 * z.1 ≤ z.2
      have hR : (y :: T).Pairwise fun x y => x.2 * y.1 < y.2 * x.1 := (List.pairwise_append.mp h.up).2.1
      rcases List.mem_cons.mp hz with q | q
      · subst q; rw [e]; exact Rat.le_refl
      · have := (List.pairwise_cons.mp hR).1 z q
        refine Rat.le_of_mul_le_mul_right (c := y.1) ?_ y0
        have e2 : y.2 / y.1 * z.1 * y.1 = y.2 / y.1 * y.1 * z.1 := by grind
        rw [e2, e]; exact Rat.le_of_lt this
def wentS (F u : Rat) (L : List (Rat × Rat)) : Rat := mnQ u (poolS F u 0 0 L).1
def leftS (F u : Rat) (L : List (Rat × Rat)) : Rat := (poolS F u 0 0 L).1 - wentS F u L
def keptS (F u : Rat) (L : List (Rat × Rat)) : Rat := mnQ (poolS F u 0 0 L).2.1 (F * leftS F u L)
def dryL (F u : Rat) (L : List (Rat × Rat)) : List (Rat × Rat) := (if leftS F u L = 0 then [] else [(leftS F u L, keptS F u L)]) ++ (poolS F u 0 0 L).2.2
def fallS (F u : Rat) (L : List (Rat × Rat)) : Rat := (poolS F u 0 0 L).2.1 - keptS F u L
structure DryOk (F u : Rat) (L L' : List (Rat × Rat)) (fd went : Rat) : Prop where
  wet : Wet F L'
  w : sumW L' = z0 (sumW L - u)
  s : fd + sumS L' = sumS L
  f0 : 0 ≤ fd
  wn : went = sumW L - sumW L'
  nd : ∀ c, 0 < c → c ≤ F → ndL c L' = z0 (ndL c L - u)
  rn : rnW L' = z0 (rnW L - u)
  gs : ∀ s, 0 < s → s < F → ((∀ x ∈ L, x.2 ≠ 0 → s * x.1 < x.2) ∨ ndL s L < u) → ∀ x ∈ L', x.2 ≠ 0 → s * x.1 < x.2
theorem pool0 {F u : Rat} {L : List (Rat × Rat)} (h : Wet F L) (hu : 0 ≤ u) : PoolOk F u 0 0 L (poolS F u 0 0 L) :=
  pool_ok hu L 0 0 h Rat.le_refl Rat.le_refl (fun y _ => by rw [Rat.zero_mul, Rat.mul_zero]; exact Rat.le_refl) (by rw [Rat.div_def, Rat.zero_mul]; grind)
theorem pool_rain {F u : Rat} {L : List (Rat × Rat)} (h : Wet F L) (hu : 0 < u) : (∃ x T, L = x :: T ∧ x.2 = 0 ∧ u < x.1 ∧ poolS F u 0 0 L = (x.1, 0, T)) ∨ (rnW L ≤ u ∧ (0 < (poolS F u 0 0 L).2.1 ∨ ((poolS F u 0 0 L).1 ≤ u ∧ (poolS F u 0 0 L).2.2 = []))) := by
  cases L with
  | nil => exact .inr ⟨Rat.le_of_lt hu, .inr ⟨Rat.le_of_lt hu, rfl⟩⟩
  | cons x T =>
    by_cases z : x.2 = 0
    · rw [poolS, z, Rat.zero_add, Rat.zero_add, Rat.div_def, Rat.zero_mul]
      by_cases y : u < x.1 - 0
      · rw [if_pos y]
        exact .inl ⟨x, T, rfl, z, by grind, rfl⟩
      · rw [if_neg y]
        right
        have xu : x.1 ≤ u := by grind
        refine ⟨by show (if x.2 = 0 then x.1 else 0) ≤ u; rw [if_pos z]; exact xu, ?_⟩
        cases T with
        | nil => exact .inr ⟨xu, rfl⟩
        | cons y T =>
          left
          have po := pool_ok (F := F) (u := u) (Rat.le_of_lt hu) (y :: T) x.1 0 h.tl (Rat.le_of_lt (h.pos x (by simp))) Rat.le_refl (fun w hw => by
            rw [Rat.zero_mul]; exact Rat.mul_nonneg (h.tl.nn w hw) (Rat.le_of_lt (h.pos x (by simp)))) (by rw [Rat.div_def, Rat.zero_mul]; grind)
          obtain ⟨pre, e1, e2, e3, ne⟩ := po.ex
          rw [e3, Rat.zero_add]
          exact sumS_pos pre (fun w hw => h.salty w (by rw [e1]; simp [hw])) (ne (by simp))
    · right
      refine ⟨by show (if x.2 = 0 then x.1 else 0) ≤ u; rw [if_neg z]; exact Rat.le_of_lt hu, .inl ?_⟩
      obtain ⟨pre, e1, e2, e3, ne⟩ := (pool0 (u := u) h (Rat.le_of_lt hu)).ex
      rw [e3, Rat.zero_add]
      have s0 : 0 < x.2 := Rat.lt_of_le_of_ne (h.nn x (by simp)) (Ne.symm z)
      refine sumS_pos pre (fun w hw => ?_) (ne (by simp))
      have : w ∈ x :: T := by rw [e1]; simp [hw]
      rcases List.mem_cons.mp this with q | q
      · rw [q]; exact s0
      · exact h.salty w q
theorem dry_ok {F u : Rat} {L : List (Rat × Rat)} (h : Wet F L) (F0 : 0 < F) (hu : 0 < u) : DryOk F u L (dryL F u L) (fallS F u L) (wentS F u L) := by
  have po := pool0 (u := u) h (Rat.le_of_lt hu)
  have pr := pool_rain h hu
  unfold dryL fallS keptS leftS wentS
  generalize poolS F u 0 0 L = r at po pr ⊢
  obtain ⟨P, Q, R⟩ := r
  obtain ⟨⟨pre, e1, e2, e3, ne⟩, fin, nd⟩ := po
  dsimp only at e1 e2 e3 fin nd pr ⊢
  rw [Rat.zero_add] at e2 e3
  have hp : ∀ x ∈ pre, x ∈ L := fun x hx => by rw [e1]; simp [hx]
  have hR : ∀ x ∈ R, x ∈ L := fun x hx => by rw [e1]; simp [hx]
  have nn := sums_nn pre fun x hx => ⟨Rat.le_of_lt (h.pos x (hp x hx)), h.nn x (hp x hx)⟩
  rw [← e2, ← e3] at nn
  have n2 := sums_nn R fun x hx => ⟨Rat.le_of_lt (h.pos x (hR x hx)), h.nn x (hR x hx)⟩
  have sw : sumW L = P + sumW R := by rw [e1, sumW_append, e2]
  have ss : sumS L = Q + sumS R := by rw [e1, sumS_append, e3]
  have d00 : ∀ c : Rat, z0 (0 - 0 / c) = 0 := fun c => by rw [Rat.div_def, Rat.zero_mul]; exact z0_np (by grind)
  have nd' : ∀ c, 0 < c → c ≤ F → z0 (ndL c L - u) = z0 (z0 (P - Q / c) + ndL c R - u) := fun c h0 h1 => by
    have := nd c h0 h1
    rwa [d00, Rat.zero_add] at this
  by_cases st : u < P - Q / aheadS F R
  · -- the pool stays weaker than what is ahead
    have Ln : L ≠ [] := fun z => by
      rw [z] at e1
      have := List.append_eq_nil_iff.mp e1.symm
      rw [this.1] at e2 e3
      have p0 : P = 0 := e2
      have q0 : Q = 0 := e3
      rw [p0, q0, Rat.div_def, Rat.zero_mul] at st
      grind
    have ah := Wet.ahead (by rw [← e1]; exact h) F0 (ne Ln)
    generalize aheadS F R = a at st ah
    obtain ⟨a0, aF, aR⟩ := ah
    have q1 : Q < a * (P - u) := (lk3 a0).mp st
    have l0 : 0 < P - u := by
      have : 0 < (P - u) * a := by rw [Rat.mul_comm]; grind
      exact mul_pos_of this a0
    have q2 : Q < F * (P - u) := by
      have := Rat.mul_le_mul_of_nonneg_right aF (Rat.le_of_lt l0); grind
    have m1 : mnQ u P = u := by unfold mnQ; rw [if_neg (by grind)]
    rw [m1]
    have m2 : mnQ Q (F * (P - u)) = Q := by unfold mnQ; rw [if_neg (by grind)]
    rw [m2, if_neg (Rat.ne_of_gt l0)]
    have wt : Wet F ((P - u, Q) :: R) := ⟨fun x hx => by
      rcases List.mem_cons.mp hx with q | q
      · rw [q]; exact l0
      · exact h.pos x (hR x q), fun x hx => by
      rcases List.mem_cons.mp hx with q | q
      · rw [q]; exact nn.2
      · exact h.nn x (hR x q), fun x hx => by
      rcases List.mem_cons.mp hx with q | q
      · rw [q]; exact Rat.le_of_lt q2
      · exact h.le x (hR x q), List.pairwise_cons.mpr ⟨fun y hy => by
        have y0 := h.pos y (hR y hy)
        have h1 := Rat.mul_lt_mul_of_pos_right q1 y0
        have h2 := Rat.mul_le_mul_of_nonneg_right (aR y hy) (Rat.le_of_lt l0)
        have e : a * (P - u) * y.1 = a * y.1 * (P - u) := by grind
        rw [e] at h1
        show Q * y.1 < y.2 * (P - u)
        grind, (List.pairwise_append.mp (by rw [← e1]; exact h.up)).2.1⟩⟩
    refine ⟨wt, ?_, ?_, by grind, ?_, fun c c0 cF => ?_, ?_, fun s s0 sF hs => ?_⟩
    · show sumW ((P - u, Q) :: R) = _
      rw [sumW_cons, sw, z0_of (by have := n2.1; grind)]
      grind
    · show Q - Q + sumS ((P - u, Q) :: R) = _
      rw [sumS_cons, ss]; grind
    · show u = sumW L - sumW ((P - u, Q) :: R)
      rw [sumW_cons, sw]; grind
    · rw [nd' c c0 cF]
      show ndL c ((P - u, Q) :: R) = _
      rw [ndz]
      show z0 (P - u - Q / c) + _ = _
      by_cases d : u < P - Q / c
      · have := nd_nn c R
        rw [z0_of (x := P - u - Q / c) (by grind), z0_of (x := P - Q / c) (by grind), z0_of (by grind)]
        grind
      · have d := Rat.not_lt.mp d
        have ca : c ≤ a := by
          refine Rat.not_lt.mp fun z => ?_
          have := div_anti nn.2 a0 (Rat.le_of_lt z)
          grind
        have nz : ndL c R = 0 := nd_zero c0 R fun y hy => by
          have := Rat.mul_le_mul_of_nonneg_right ca (Rat.le_of_lt (h.pos y (hR y hy)))
          have := aR y hy
          grind
        have zl := z0_le (Rat.le_of_lt hu) d
        rw [nz, z0_np (x := P - u - Q / c) (by grind), z0_np (by grind)]
        grind
    · rcases pr with ⟨x, T, rfl, x2, ux, er⟩ | ⟨rl, qp⟩
      · simp -implicitDefEqProofs only [Prod.mk.injEq] at er
        obtain ⟨r1, r2, r3⟩ := er
        show (if Q = 0 then P - u else 0) = z0 ((if x.2 = 0 then x.1 else 0) - u)
        rw [if_pos r2, if_pos x2, r1, z0_of (by grind)]
      · have qn : Q ≠ 0 := by
          rcases qp with q | ⟨q, _⟩
          · exact Rat.ne_of_gt q
          · grind
        show (if Q = 0 then P - u else 0) = _
        rw [if_neg qn, z0_np (by grind)]
    · intro x hx hx2
      have key : Q ≠ 0 → s * (P - u) < Q := fun qn => by
        have q0 : 0 < Q := Rat.lt_of_le_of_ne nn.2 (Ne.symm qn)
        refine (lk4 s0).mp ?_
        rcases hs with g | g
        · obtain ⟨x, T, eL⟩ : ∃ x T, L = x :: T := by cases L with
            | nil => exact absurd rfl Ln
            | cons x T => exact ⟨x, T, rfl⟩
          obtain ⟨x', p', ep⟩ : ∃ x' p', pre = x' :: p' := by
            have := ne Ln
            cases pre with
            | nil => exact absurd rfl this
            | cons x p => exact ⟨x, p, rfl⟩
          have ex : x' = x := by rw [ep, eL, List.cons_append] at e1; exact (List.cons.inj e1).1.symm
          subst ex
          have sT : ∀ y ∈ p', 0 < y.2 := fun y hy => Wet.salty (x := x') (L := T) (by rw [← eL]; exact h) y (by
            rw [ep, eL, List.cons_append] at e1
            rw [(List.cons.inj e1).2]; simp [hy])
          have gT : ∀ y ∈ p', s * y.1 < y.2 := fun y hy => g y (hp y (by rw [ep]; simp [hy])) (Rat.ne_of_gt (sT y hy))
          by_cases x2 : x'.2 = 0
          · have xu : x'.1 ≤ u := by
              rcases pr with ⟨x3, T3, e3', _, ux, er⟩ | ⟨rl, _⟩
              · simp -implicitDefEqProofs only [Prod.mk.injEq] at er; exact absurd er.2.1 qn
              · rw [eL] at rl
                have : rnW (x' :: T) = x'.1 := if_pos x2
                rw [this] at rl; exact rl
            have pn : p' ≠ [] := fun z => by
              rw [ep, z, sumS_cons, x2] at e3
              exact qn (by rw [e3]; show (0 : Rat) + 0 = 0; rw [Rat.add_zero])
            have := gs_sum s0 p' gT pn
            rw [e2, e3, ep, sumW_cons, sumS_cons, sub_div, x2]
            have z : (0 : Rat) / s = 0 := by rw [Rat.div_def, Rat.zero_mul]
            rw [z]; grind
          · have : ∀ y ∈ pre, s * y.1 < y.2 := fun y hy => by
              rw [ep] at hy
              rcases List.mem_cons.mp hy with q | q
              · rw [q]; exact g x' (hp x' (by rw [ep]; simp)) x2
              · exact gT y q
            have := gs_sum s0 pre this (ne Ln)
            rw [← e2, ← e3] at this
            grind
        · have := nd_ge s pre R
          rw [← e1, ← e2, ← e3] at this
          grind
      rcases List.mem_cons.mp hx with q | q
      · rw [q] at hx2 ⊢; exact key hx2
      · by_cases qn : Q = 0
        · rcases hs with g | g
          · exact g x (hR x q) hx2
          · have := nd_ge s pre R
            rw [← e1, ← e2, ← e3, qn, Rat.div_def, Rat.zero_mul] at this
            grind
        · have k := key qn
          have up := (List.pairwise_cons.mp wt.up).1 x q
          have x0 := h.pos x (hR x q)
          have h1 := Rat.mul_lt_mul_of_pos_right k x0
          refine lt_of_mul (x := P - u) ?_ l0
          have up' : Q * x.1 < x.2 * (P - u) := up
          have e : s * x.1 * (P - u) = s * (P - u) * x.1 := by grind
          rw [e]; grind
  · -- all is as strong as full, or gone
    obtain ⟨rR, pl⟩ := fin.resolve_left st
    subst rR
    rw [List.append_nil] at e1
    have sw' : sumW L = P := by rw [sw]; show P + 0 = P; rw [Rat.add_zero]
    have ss' : sumS L = Q := by rw [ss]; show Q + 0 = Q; rw [Rat.add_zero]
    have fl := (lk1 F0).mp pl
    have el : P - mnQ u P = z0 (P - u) := by
      unfold mnQ z0
      by_cases z : P < u
      · rw [if_pos z, if_neg (by grind)]; grind
      · rw [if_neg z]
        by_cases y : 0 < P - u
        · rw [if_pos y]
        · rw [if_neg y]; grind
    have l0 := z0_nn (P - u)
    have kf : F * z0 (P - u) ≤ Q := by
      by_cases y : 0 < P - u
      · rw [z0_of (Rat.le_of_lt y)]; exact fl
      · rw [z0_np (by grind), Rat.mul_zero]; exact nn.2
    have ek : mnQ Q (F * z0 (P - u)) = F * z0 (P - u) := by unfold mnQ; split <;> grind
    rw [el, ek, List.append_nil]
    have wl : mnQ u P = P - z0 (P - u) := by rw [← el]; grind
    rw [wl]
    generalize hl : z0 (P - u) = l at *
    have ndL' : ∀ c, 0 < c → c ≤ F → z0 (ndL c L - u) = 0 := fun c c0 cF => by
      have da := div_anti nn.2 c0 cF
      have zl := z0_le (Rat.le_of_lt hu) (y := P - Q / c) (by grind)
      rw [nd' c c0 cF, ndL_nil]
      exact z0_np (by grind)
    have rn0 : z0 (rnW L - u) = 0 := by
      rcases pr with ⟨x, T, rfl, x2, ux, er⟩ | ⟨rl, qp⟩
      · simp -implicitDefEqProofs only [Prod.mk.injEq] at er
        obtain ⟨r1, r2, r3⟩ := er
        rw [r1, r2, Rat.div_def, Rat.zero_mul] at pl
        grind
      · exact z0_np (by grind)
    by_cases z : l = 0
    · rw [if_pos z]
      refine ⟨Wet.nil, ?_, ?_, by grind, ?_, fun c c0 cF => ?_, ?_, fun _ _ _ _ x hx => by simp at hx⟩
      · rw [sw', hl, z]; rfl
      · rw [ss', z, Rat.mul_zero]; show Q - 0 + 0 = Q; grind
      · rw [sw', z]; rfl
      · rw [ndL' c c0 cF, ndL_nil]
      · rw [rn0]; rfl
    · rw [if_neg z]
      have lp : 0 < l := Rat.lt_of_le_of_ne l0 (Ne.symm z)
      have fl0 : 0 < F * l := Rat.mul_pos F0 lp
      refine ⟨⟨fun x hx => ?_, fun x hx => ?_, fun x hx => ?_, by simp⟩, ?_, ?_, by grind, ?_, fun c c0 cF => ?_, ?_, fun s s0 sF _ x hx _ => ?_⟩
      · simp at hx; rw [hx]; exact lp
      · simp at hx; rw [hx]; exact Rat.le_of_lt fl0
      · simp at hx; rw [hx]; exact Rat.le_refl
      · rw [sw', hl]; show l + 0 = l; rw [Rat.add_zero]
      · rw [ss']; show Q - F * l + (F * l + 0) = Q; grind
      · rw [sw']; show P - l = P - (l + 0); rw [Rat.add_zero]
      · rw [ndL' c c0 cF]
        refine nd_zero c0 _ fun y hy => ?_
        simp at hy; rw [hy]
        exact Rat.mul_le_mul_of_nonneg_right cF l0
      · rw [rn0]
        show (if F * l = 0 then l else 0) = 0
        rw [if_neg (Rat.ne_of_gt fl0)]
      · simp at hx; rw [hx]
        exact Rat.mul_lt_mul_of_pos_right sF lp
/-! rain, and weathers -/
def rainL (a : Rat) : List (Rat × Rat) → List (Rat × Rat)
  | [] => [(a, 0)]
  | x :: T => if x.2 = 0 then (x.1 + a, 0) :: T else (a, 0) :: x :: T
/-- what a step does to a brine -/
structure StpOk (F m : Rat) (f : Rat) (L : List (Rat × Rat)) (f' : Rat) (L' : List (Rat × Rat)) : Prop where
  wet : Wet F L'
  f0 : 0 ≤ f'
  w : sumW L' = z0 (sumW L + m)
  s : f' + sumS L' = f + sumS L
  nd : ∀ c, 0 < c → c ≤ F → ndL c L' = z0 (ndL c L + m)
  rn : rnW L' = z0 (rnW L + m)
  gs : ∀ s, 0 < s → s < F → ((∀ x ∈ L, x.2 ≠ 0 → s * x.1 < x.2) ∨ ndL s L + m < 0) → ∀ x ∈ L', x.2 ≠ 0 → s * x.1 < x.2
def stpF (F m f : Rat) (L : List (Rat × Rat)) : Rat := if m < 0 then f + fallS F (0 - m) L else f
def stpL (F m : Rat) (L : List (Rat × Rat)) : List (Rat × Rat) := if m < 0 then dryL F (0 - m) L else if m = 0 then L else rainL m L
/-- a state behind amounts -/
def runF' (F : Rat) : List Rat → Rat → List (Rat × Rat) → Rat
  | [], f, _ => f
  | m :: ms, f, L => runF' F ms (stpF F m f L) (stpL F m L)
def runL (F : Rat) : List Rat → List (Rat × Rat) → List (Rat × Rat)
  | [], L => L
  | m :: ms, L => runL F ms (stpL F m L)
/-- a level, never below nought -/
def lvl : List Rat → Rat → Rat
  | [], x => x
  | m :: ms, x => lvl ms (z0 (x + m))
def sumR : List Rat → Rat
  | [] => 0
  | m :: ms => m + sumR ms
def wetR : List Rat → Rat
  | [] => 0
  | m :: ms => z0 m + wetR ms
structure RunOk (F : Rat) (ms : List Rat) (f : Rat) (L : List (Rat × Rat)) (f' : Rat) (L' : List (Rat × Rat)) : Prop where
  wet : Wet F L'
  f0 : 0 ≤ f'
  w : sumW L' = lvl ms (sumW L)
  s : f' + sumS L' = f + sumS L
  nd : ∀ c, 0 < c → c ≤ F → ndL c L' = lvl ms (ndL c L)
  rn : rnW L' = lvl ms (rnW L)
  gs : ∀ s, 0 < s → s < F → (∀ x ∈ L, x.2 ≠ 0 → s * x.1 < x.2) → ∀ x ∈ L', x.2 ≠ 0 → s * x.1 < x.2
  un : ∀ s, 0 < s → s < F → (∃ x ∈ L', x.2 ≠ 0 ∧ x.2 ≤ s * x.1) → lvl ms (ndL s L) = ndL s L + sumR ms
/-- a brine of fallen salt and wet layers, the weakest first -/
def brn (f : Rat) (L : List (Rat × Rat)) : List (Rat × Rat) := (if f = 0 then [] else [(0, f)]) ++ L.reverse
theorem sumW_rev : ∀ L : List (Rat × Rat), sumW L.reverse = sumW L
  | [] => rfl
  | x :: L => by rw [List.reverse_cons, sumW_append, sumW_rev L, sumW_cons, sumW_cons]; show sumW L + (x.1 + 0) = _; grind
theorem sumS_rev : ∀ L : List (Rat × Rat), sumS L.reverse = sumS L
  | [] => rfl
  | x :: L => by rw [List.reverse_cons, sumS_append, sumS_rev L, sumS_cons, sumS_cons]; show sumS L + (x.2 + 0) = _; grind
theorem sumW_brn (f : Rat) (L : List (Rat × Rat)) : sumW (brn f L) = sumW L := by
  unfold brn
  rw [sumW_append, sumW_rev]
  split
  · show 0 + _ = _; grind
  · show (0 + 0) + _ = _; grind
theorem sumS_brn (f : Rat) (L : List (Rat × Rat)) : sumS (brn f L) = f + sumS L := by
  unfold brn
  rw [sumS_append, sumS_rev]
  split
  · rename_i z; rw [z]; rfl
  · show (f + 0) + _ = _; grind
/-! sizes of a brine that goes through a weather -/
structure Szd (U V T Z : Int) (f : Rat) (L : List (Rat × Rat)) : Prop where
  u0 : 0 < U
  u1 : U * T < 2 ^ 99 ∧ U < 2 ^ 99
  v0 : 0 < V
  v1 : V * Z < 2 ^ 139 ∧ V < 2 ^ 139
  fg : Gu V f
  gw : ∀ x ∈ L, Gu U x.1
  gs : ∀ x ∈ L, Gu V x.2
  tW : sumW L ≤ ((T : Int) : Rat)
  tS : f + sumS L ≤ ((Z : Int) : Rat)
theorem gu_sumW {U : Int} : ∀ l : List (Rat × Rat), (∀ x ∈ l, Gu U x.1) → Gu U (sumW l)
  | [], _ => Gu.zero
  | x :: l, h => by rw [sumW_cons]; exact (h x (by simp)).add (gu_sumW l fun y hy => h y (by simp [hy]))
theorem gu_sumS {U : Int} : ∀ l : List (Rat × Rat), (∀ x ∈ l, Gu U x.2) → Gu U (sumS l)
  | [], _ => Gu.zero
  | x :: l, h => by rw [sumS_cons]; exact (h x (by simp)).add (gu_sumS l fun y hy => h y (by simp [hy]))
theorem sub_le {l L : List (Rat × Rat)} (s : l.Sublist L) : (∀ x ∈ L, 0 ≤ x.1 ∧ 0 ≤ x.2) → sumW l ≤ sumW L ∧ sumS l ≤ sumS L := by
  induction s with
  | slnil => exact fun _ => ⟨Rat.le_refl, Rat.le_refl⟩
  | cons x s ih =>
    intro h
    have a := ih fun y hy => h y (by simp [hy])
    have b := h x (by simp)
    rw [sumW_cons, sumS_cons]
    exact ⟨by grind, by grind⟩
  | cons_cons x s ih =>
    intro h
    have a := ih fun y hy => h y (by simp [hy])
    rw [sumW_cons, sumS_cons, sumW_cons, sumS_cons]
    exact ⟨by grind, by grind⟩
theorem gn_bd {U T : Int} {k : Nat} {q : Rat} (u0 : 0 < U) (h1 : U * T < 2 ^ k) (h2 : U < 2 ^ k) (g : Gu U q) (q0 : 0 ≤ q) (q1 : q ≤ ((T : Int) : Rat)) : Bd k q :=
  g.bd (T := T) u0 (by have : (0 : Rat) ≤ ((T : Int) : Rat) := Rat.le_trans q0 q1; grind) q1 h1 h2
section
variable {U V T Z : Int} {F f u : Rat} {L : List (Rat × Rat)}
theorem Szd.sub (hz : Szd U V T Z f L) (h : Wet F L) (f0 : 0 ≤ f) {l : List (Rat × Rat)} (s : l.Sublist L) : Bd 99 (sumW l) ∧ Bd 139 (sumS l) := by
  have nn : ∀ x ∈ L, 0 ≤ x.1 ∧ 0 ≤ x.2 := fun x hx => ⟨Rat.le_of_lt (h.pos x hx), h.nn x hx⟩
  have ml : ∀ x ∈ l, x ∈ L := fun x hx => s.subset hx
  have a := sub_le s nn
  have b := sums_nn l fun x hx => nn x (ml x hx)
  have tW := hz.tW
  have tS := hz.tS
  exact ⟨gn_bd hz.u0 hz.u1.1 hz.u1.2 (gu_sumW l fun x hx => hz.gw x (ml x hx)) b.1 (Rat.le_trans a.1 tW), gn_bd hz.v0 hz.v1.1 hz.v1.2 (gu_sumS l fun x hx => hz.gs x (ml x hx)) b.2 (by grind)⟩
theorem Szd.one (hz : Szd U V T Z f L) (h : Wet F L) (f0 : 0 ≤ f) {x : Rat × Rat} (hx : x ∈ L) : BdL 139 x := by
  have s := hz.sub h f0 (List.singleton_sublist.mpr hx)
  rw [sumW_cons, sumS_cons] at s
  have e1 : x.1 + sumW [] = x.1 := Rat.add_zero _
  have e2 : x.2 + sumS [] = x.2 := Rat.add_zero _
  rw [e1, e2] at s
  exact ⟨s.1.mono (by decide), s.2⟩
theorem Szd.fb (hz : Szd U V T Z f L) (h : Wet F L) (f0 : 0 ≤ f) : Bd 139 f := by
  have b := sums_nn L fun x hx => ⟨Rat.le_of_lt (h.pos x hx), h.nn x hx⟩
  have tS := hz.tS
  exact gn_bd hz.v0 hz.v1.1 hz.v1.2 hz.fg f0 (by have := b.2; grind)
def plD (L : List (Rat × Rat)) (r : Rat × Rat × List (Rat × Rat)) : D := .tup [.int ((L.length - r.2.2.length : Nat) : Int), frQ r.1, frQ r.2.1]
end
/-! drying, evaluated -/
section
variable {U V T Z : Int} {F f u : Rat} {L : List (Rat × Rat)}
theorem brn_len (f : Rat) (L : List (Rat × Rat)) : (brn f L).length ≤ L.length + 1 := by
  unfold brn
  rw [List.length_append, List.length_reverse]
  split <;> simp <;> omega
/-- what is known of a pool that dries -/
structure PlK (F u : Rat) (L : List (Rat × Rat)) (P Q : Rat) (R : List (Rat × Rat)) : Prop where
  bP : Bd 99 P
  bQ : Bd 139 Q
  q0 : 0 ≤ Q
  ex : ∃ pre, L = pre ++ R ∧ P = sumW pre ∧ Q = sumS pre
theorem mnQ_g {P : Rat → Prop} {a b : Rat} (ha : P a) (hb : P b) : P (mnQ a b) := by unfold mnQ; split <;> assumption
end
/-! drying by nothing; the weakest behind a drying -/
theorem dry_zero {F : Rat} {L : List (Rat × Rat)} (h : Wet F L) (F0 : 0 < F) : dryL F 0 L = L ∧ fallS F 0 L = 0 ∧ wentS F 0 L = 0 := by
  cases L with
  | nil =>
    have e1 : wentS F 0 [] = 0 := by show mnQ 0 0 = 0; unfold mnQ; split <;> rfl
    have e2 : leftS F 0 [] = 0 := by show 0 - wentS F 0 [] = 0; rw [e1]; grind
    have e3 : keptS F 0 [] = 0 := by show mnQ 0 (F * leftS F 0 []) = 0; rw [e2, Rat.mul_zero]; unfold mnQ; split <;> rfl
    refine ⟨by unfold dryL; rw [if_pos e2]; rfl, by show 0 - keptS F 0 [] = 0; rw [e3]; grind, e1⟩
  | cons x T =>
    have x0 := h.pos x (by simp)
    have s0 := h.nn x (by simp)
    have le := h.le x (by simp)
    have pe : poolS F 0 0 0 (x :: T) = (x.1, x.2, T) := by
      rw [poolS, Rat.zero_add, Rat.zero_add]
      cases T with
      | nil => split <;> rfl
      | cons y T =>
        have ah := (Wet.ahead (pre := [x]) (R := y :: T) h F0 (by simp)).1
        have y0 := h.pos y (by simp)
        have hy := h.hd y (by simp)
        rw [if_pos]
        refine (lk3 ah).mpr ?_
        have e : x.1 - 0 = x.1 := by grind
        rw [e]
        refine lt_of_mul (x := y.1) ?_ y0
        have e2 : aheadS F (y :: T) * x.1 * y.1 = y.2 / y.1 * y.1 * x.1 := by show y.2 / y.1 * x.1 * y.1 = _; grind
        rw [e2, Rat.div_mul_cancel (Rat.ne_of_gt y0)]; exact hy
    have e1 : wentS F 0 (x :: T) = 0 := by
      unfold wentS; rw [pe]; unfold mnQ; rw [if_neg (by grind)]
    have e2 : leftS F 0 (x :: T) = x.1 := by unfold leftS; rw [e1, pe]; grind
    have e3 : keptS F 0 (x :: T) = x.2 := by
      unfold keptS; rw [e2, pe]; unfold mnQ
      split <;> grind
    refine ⟨?_, ?_, e1⟩
    · unfold dryL
      rw [e2, e3, if_neg (Rat.ne_of_gt x0), pe]; rfl
    · unfold fallS
      rw [e3, pe]; grind
theorem dryA_ok {F u : Rat} {L : List (Rat × Rat)} (h : Wet F L) (F0 : 0 < F) (hu : 0 ≤ u) : DryOk F u L (dryL F u L) (fallS F u L) (wentS F u L) := by
  by_cases z : u = 0
  · subst z
    obtain ⟨e1, e2, e3⟩ := dry_zero h F0
    rw [e1, e2, e3]
    have nn := sums_nn L fun x hx => ⟨Rat.le_of_lt (h.pos x hx), h.nn x hx⟩
    have m0 : ∀ x : Rat, x - 0 = x := fun x => by grind
    refine ⟨h, by rw [m0, z0_of nn.1], by grind, Rat.le_refl, by grind, fun c _ _ => by rw [m0, z0_of (nd_nn c L)], by rw [m0, z0_of h.rn_nn], fun s _ _ g => ?_⟩
    rcases g with g | g
    · exact g
    · have := nd_nn s L; grind
  · exact dry_ok h F0 (Rat.lt_of_le_of_ne hu (Ne.symm z))
/-- the weakest strength behind a drying is come to by what went -/
theorem dry_wk {F u : Rat} {L : List (Rat × Rat)} (h : Wet F L) (F0 : 0 < F) (hu : 0 ≤ u) {x : Rat × Rat} {T : List (Rat × Rat)} (e : dryL F u L = x :: T) (s0 : 0 < x.2) (lt : x.2 / x.1 < F) : ndL (x.2 / x.1) L = u := by
  have d := dryA_ok h F0 hu
  have x0 := d.wet.pos x (by rw [e]; simp)
  have ex : x.2 / x.1 * x.1 = x.2 := Rat.div_mul_cancel (Rat.ne_of_gt x0)
  have c0 : 0 < x.2 / x.1 := by rw [Rat.lt_div_iff x0, Rat.zero_mul]; exact s0
  have po := pool0 (u := u) h hu
  have wx := d.wet
  rw [e] at wx
  unfold dryL keptS leftS wentS at e
  generalize poolS F u 0 0 L = r at po e
  obtain ⟨P, Q, R⟩ := r
  obtain ⟨⟨pre, e1, e2, e3, ne⟩, fin, nd⟩ := po
  dsimp only at e1 e2 e3 fin nd e
  rw [Rat.zero_add] at e2 e3
  have hp : ∀ y ∈ pre, y ∈ L := fun y hy => by rw [e1]; simp [hy]
  have nn := sums_nn pre fun y hy => ⟨Rat.le_of_lt (h.pos y (hp y hy)), h.nn y (hp y hy)⟩
  rw [← e2, ← e3] at nn
  -- the pool is the weakest
  have key : P - Q / (x.2 / x.1) = u → ndL (x.2 / x.1) R = 0 → ndL (x.2 / x.1) L = u := fun k1 k2 => by
    have n1 := nd _ c0 (Rat.le_of_lt lt)
    have z : z0 (0 - 0 / (x.2 / x.1)) = 0 := by rw [Rat.div_def, Rat.zero_mul]; exact z0_np (by grind)
    rw [z, k1, k2, z0_of hu, Rat.zero_add] at n1
    have n2 := nd_ge (x.2 / x.1) pre R
    rw [← e1, ← e2, ← e3, k1] at n2
    have n3 : z0 (u + 0 - u) = 0 := z0_np (by grind)
    rw [n3] at n1
    have n4 : ndL (x.2 / x.1) L - u ≤ 0 := by
      refine Rat.not_lt.mp fun y => ?_
      unfold z0 at n1
      rw [if_pos y] at n1
      grind
    grind
  have later : ∀ y ∈ T, x.2 / x.1 * y.1 ≤ y.2 := fun y hy => by
    have up := (List.pairwise_cons.mp wx.up).1 y hy
    refine Rat.le_of_mul_le_mul_right (c := x.1) ?_ x0
    have e4 : x.2 / x.1 * y.1 * x.1 = x.2 / x.1 * x.1 * y.1 := by grind
    rw [e4, ex]; exact Rat.le_of_lt up
  by_cases st : u < P - Q / aheadS F R
  · have Ln : pre ≠ [] := ne fun z => by
      rw [z] at e1
      have := List.append_eq_nil_iff.mp e1.symm
      rw [this.1] at e2 e3
      have p0 : P = 0 := e2
      have q0 : Q = 0 := e3
      rw [p0, q0, Rat.div_def, Rat.zero_mul] at st
      grind
    have ah := Wet.ahead (by rw [← e1]; exact h) F0 Ln
    generalize aheadS F R = a at st ah
    obtain ⟨a0, aF, aR⟩ := ah
    have q1 : Q < a * (P - u) := (lk3 a0).mp st
    have l0 : 0 < P - u := by
      have : 0 < (P - u) * a := by rw [Rat.mul_comm]; grind
      exact mul_pos_of this a0
    have q2 : Q < F * (P - u) := by
      have := Rat.mul_le_mul_of_nonneg_right aF (Rat.le_of_lt l0); grind
    have m1 : mnQ u P = u := by unfold mnQ; rw [if_neg (by grind)]
    rw [m1] at e
    have m2 : mnQ Q (F * (P - u)) = Q := by unfold mnQ; rw [if_neg (by grind)]
    rw [m2, if_neg (Rat.ne_of_gt l0)] at e
    have e5 := List.cons.inj (show (P - u, Q) :: R = x :: T from e)
    have ex1 : x.1 = P - u := by rw [← e5.1]
    have ex2 : x.2 = Q := by rw [← e5.1]
    refine key ?_ (nd_zero c0 R fun y hy => later y (by rw [← e5.2]; exact hy))
    have qd : Q / (x.2 / x.1) = x.1 := by
      rw [← ex2]
      exact (div_eq (Rat.ne_of_gt c0)).mpr (by rw [Rat.mul_comm, ex])
    rw [qd, ex1]; grind
  · -- all at full
    obtain ⟨rR, pl⟩ := fin.resolve_left st
    subst rR
    rw [List.append_nil] at e
    have fl := (lk1 F0).mp pl
    split at e
    · cases e
    · rename_i lz
      have e5 := List.cons.inj e
      have ex1 : x.1 = P - mnQ u P := by rw [← e5.1]
      have kf : mnQ Q (F * (P - mnQ u P)) = F * (P - mnQ u P) := by
        unfold mnQ at lz ⊢
        by_cases y : P < u
        · rw [if_pos y] at lz; grind
        · rw [if_neg y]
          split <;> grind
      have ex2 : x.2 = F * x.1 := by rw [ex1, ← kf, ← e5.1]
      have : x.2 / x.1 = F := by rw [ex2, Rat.mul_div_cancel (Rat.ne_of_gt x0)]
      rw [this] at lt
      exact absurd lt Rat.lt_irrefl
/-! the store -/
def HasSt (c n m : Nat) (M : Mem) : Prop := ∃ (cs : List Int) (a k : Int), M[n]? = some (some [.ptr m, .int a, .int k]) ∧ M[m]? = some (some (cs.map D.int)) ∧ n ≠ m ∧ (∀ x ∈ cs, 0 ≤ x) ∧ 0 ≤ a ∧ a < 2 ^ 31 ∧ 0 ≤ k ∧ k ≤ c
structure DrewS (c n m : Nat) (M M' : Mem) : Prop where
  len : M'.length = M.length
  oth : ∀ j, j ≠ n → j ≠ m → M'[j]? = M[j]?
  has : HasSt c n m M'
theorem DrewS.trans {c c' n m : Nat} {M M1 M2 : Mem} (a : DrewS c n m M M1) (b : DrewS c' n m M1 M2) : DrewS c' n m M M2 := ⟨b.len.trans a.len, fun j h g => (b.oth j h g).trans (a.oth j h g), b.has⟩
theorem HasSt.mono {c c' n m : Nat} {M : Mem} (h : HasSt c n m M) (l : c ≤ c') : HasSt c' n m M := by
  obtain ⟨cs, a, k, e, e2, nm, p, h1, h2, h3, h4⟩ := h
  exact ⟨cs, a, k, e, e2, nm, p, h1, h2, h3, by omega⟩
theorem DrewS.mono {c c' n m : Nat} {M M1 : Mem} (a : DrewS c n m M M1) (l : c ≤ c') : DrewS c' n m M M1 := ⟨a.len, a.oth, a.has.mono l⟩
abbrev popC : Ev Bool := dAnd (bnd (bnd (bnd (dVar 0) fun d => bnd (ret (.int 0)) fun e => oIxN d e) fun d => bnd (bnd dNil oLst) fun e => oNeM d e) asB) (bnd (bnd (bnd (bnd (dVar 0) fun d => bnd (ret (.int 0)) fun e => oIxN d e) fun d => bnd (ret (.int 0)) fun e => oIx d e) fun d => bnd (ret (.int 0)) fun e => oEq d e) asB)
/-! the law's own reckoning -/
section
variable {x y : Rat}
end
/-! the store drawn -/
/-! small amounts, a full strength -/
theorem dI_one (T : Int) : Rat.divInt T 1 = (T : Rat) := by rw [Rat.divInt_eq_div, Rat.intCast_one]; grind
theorem dI_top {a b T : Int} (hb : 0 < b) (h : a ≤ T * b) : Rat.divInt a b ≤ (T : Rat) := by
  rw [← dI_one]; exact div_le_div hb (by decide) (by omega)
/-- a small amount -/
structure Sml (q : Rat) : Prop where
  q0 : 0 ≤ q
  q1 : q ≤ ((100000 : Int) : Rat)
  g : Gu 11964000 q
  b : Bd 17 q
structure FulK (f : Rat) : Prop where
  pos : 0 < f
  bd : Bd 10 f
/-! rows of draws, a drawn brine -/
theorem HasSt.lt {c n m : Nat} {M : Mem} (h : HasSt c n m M) : n < M.length ∧ m < M.length := by
  obtain ⟨cs, a, k, e, e', _⟩ := h
  exact ⟨(List.getElem?_eq_some_iff.mp e).1, (List.getElem?_eq_some_iff.mp e').1⟩
theorem HasSt.app {c n m : Nat} {M : Mem} {x : Option (List D)} (h : HasSt c n m M) : HasSt c n m (M ++ [x]) := by
  obtain ⟨hn, hm⟩ := h.lt
  obtain ⟨cs, a, k, e, e', rest⟩ := h
  exact ⟨cs, a, k, by rw [List.getElem?_append_left hn]; exact e, by rw [List.getElem?_append_left hm]; exact e', rest⟩
theorem HasSt.put {c n m r : Nat} {M : Mem} (h : HasSt c n m M) (h1 : n ≠ r) (h2 : m ≠ r) (x : Option (List D)) : HasSt c n m (M.set r x) := by
  obtain ⟨cs, a, k, e, e', rest⟩ := h
  exact ⟨cs, a, k, by rw [List.getElem?_set_ne (Ne.symm h1)]; exact e, by rw [List.getElem?_set_ne (Ne.symm h2)]; exact e', rest⟩
/-! drawn layers -/
def twl : List Int := [12, 10, 9, 8, 6, 4, 3, 2, 0]
def pt (j : Nat) : Rat := Rat.divInt (twl.getD j 0) 12
abbrev ptD : List D := [.tup [.int 1, .int 1], .tup [.int 5, .int 6], .tup [.int 3, .int 4], .tup [.int 2, .int 3], .tup [.int 1, .int 2], .tup [.int 1, .int 3], .tup [.int 1, .int 4], .tup [.int 1, .int 6], .tup [.int 0, .int 1]]
/-- a layer by its place and its water -/
abbrev lyB (f : Rat) (z : Nat × Rat) : Rat × Rat := (z.2, f * pt z.1 * z.2)
structure ZOk (Z : List (Nat × Rat)) : Prop where
  j9 : ∀ z ∈ Z, z.1 < 9
  w0 : ∀ z ∈ Z, 0 < z.2
  g : ∀ z ∈ Z, Gu 12 z.2
  le : ∀ z ∈ Z, z.2 ≤ ((250000 : Int) : Rat)
  b : ∀ z ∈ Z, Bd 18 z.2
  up : Z.Pairwise fun a b => a.1 < b.1
theorem ZOk.snoc {Z : List (Nat × Rat)} (h : ZOk Z) {k : Nat} {w : Rat} (k9 : k < 9) (hk : ∀ z ∈ Z, z.1 < k) (w0 : 0 < w) (g : Gu 12 w) (le : w ≤ ((250000 : Int) : Rat)) (b : Bd 18 w) : ZOk (Z ++ [(k, w)]) := by
  have c : ∀ {P : Nat × Rat → Prop}, (∀ z ∈ Z, P z) → P (k, w) → ∀ z ∈ Z ++ [(k, w)], P z := fun h1 h2 z hz => by
    rcases List.mem_append.mp hz with q | q
    · exact h1 z q
    · simp at q; rw [q]; exact h2
  refine ⟨c h.j9 k9, c h.w0 w0, c h.g g, c h.le le, c h.b b, ?_⟩
  rw [List.pairwise_append]
  refine ⟨h.up, by simp, fun x hx y hy => ?_⟩
  simp at hy; rw [hy]; exact hk x hx
/-! a drawn brine -/
/-- a drawn brine: fallen salt, whole, and layers by place and water -/
abbrev brZ (f : Rat) (fal : Int) (Z : List (Nat × Rat)) : List (Rat × Rat) := (if fal = 0 then [] else [((0 : Rat), Rat.divInt fal 1)]) ++ Z.map (lyB f)
/-! the deep brine -/
def dpP (k : Nat) : Int × Int := (((1 + (k : Int)) * 100).fmod 397, 1 + (1 + (k : Int)).fmod 7)
/-- the layers of the deep brine, weakest first -/
abbrev dpL (F : Int) (ps : List (Int × Int)) : List (Rat × Rat) := ps.map fun p => (Rat.divInt p.2 1, Rat.divInt (F * p.2 * p.1) 397)
/-! a drawn brine, all known of it -/
theorem gu_up {U k V : Int} {q : Rat} (hk : k ≠ 0) (e : U * k = V) (h : Gu U q) : Gu V q := by
  obtain ⟨a, rfl⟩ := h
  refine ⟨a * k, ?_⟩
  rw [← divInt_mul', ← divInt_mul', ← e, Rat.divInt_mul_right hk]
abbrev zL (f : Rat) (Z : List (Nat × Rat)) : List (Rat × Rat) := (Z.map (lyB f)).reverse
/-- all that is known of a brine that is asked for: k the parts of what goes -/
structure KnB (F : Rat) (U V T Z : Int) (f : Rat) (L : List (Rat × Rat)) : Prop where
  F0 : 0 < F
  bF : Bd 12 F
  wet : Wet F L
  f0 : 0 ≤ f
  sz : Szd U V T Z f L
  hF : ∀ q, Gu U q → Gu V (F * q)
  ln : L.length ≤ 100
/-! a drawn brine as the program's brine -/
/-! the law's own sums over a known brine -/
section
variable {F f : Rat} {U V T Z : Int} {L : List (Rat × Rat)}
theorem KnB.nn (h : KnB F U V T Z f L) : ∀ x ∈ brn f L, 0 ≤ x.1 ∧ 0 ≤ x.2 := fun x hx => by
  unfold brn at hx
  rcases List.mem_append.mp hx with q | q
  · split at q
    · simp at q
    · simp at q; rw [q]; exact ⟨Rat.le_refl, h.f0⟩
  · have := List.mem_reverse.mp q
    exact ⟨Rat.le_of_lt (h.wet.pos x this), h.wet.nn x this⟩
theorem KnB.gu (h : KnB F U V T Z f L) : ∀ x ∈ brn f L, Gu U x.1 ∧ Gu V x.2 := fun x hx => by
  unfold brn at hx
  rcases List.mem_append.mp hx with q | q
  · split at q
    · simp at q
    · simp at q; rw [q]; exact ⟨Gu.zero, h.sz.fg⟩
  · have := List.mem_reverse.mp q
    exact ⟨h.sz.gw x this, h.sz.gs x this⟩
theorem KnB.sub (h : KnB F U V T Z f L) {l : List (Rat × Rat)} (s : l.Sublist (brn f L)) : Bd 99 (sumW l) ∧ Bd 139 (sumS l) := by
  have ml : ∀ x ∈ l, x ∈ brn f L := fun x hx => s.subset hx
  have a := sub_le s h.nn
  have b := sums_nn l fun x hx => h.nn x (ml x hx)
  rw [sumW_brn, sumS_brn] at a
  exact ⟨gn_bd h.sz.u0 h.sz.u1.1 h.sz.u1.2 (gu_sumW l fun x hx => (h.gu x (ml x hx)).1) b.1 (Rat.le_trans a.1 h.sz.tW), gn_bd h.sz.v0 h.sz.v1.1 h.sz.v1.2 (gu_sumS l fun x hx => (h.gu x (ml x hx)).2) b.2 (Rat.le_trans a.2 h.sz.tS)⟩
theorem KnB.one (h : KnB F U V T Z f L) {x : Rat × Rat} (hx : x ∈ brn f L) : BdL 139 x := by
  have s := h.sub (List.singleton_sublist.mpr hx)
  rw [sumW_cons, sumS_cons] at s
  have e1 : x.1 + sumW [] = x.1 := Rat.add_zero _
  have e2 : x.2 + sumS [] = x.2 := Rat.add_zero _
  rw [e1, e2] at s
  exact ⟨s.1.mono (by decide), s.2⟩
theorem KnB.len (h : KnB F U V T Z f L) : (brn f L).length ≤ 101 := by
  have := brn_len f L
  have := h.ln
  omega
end
/-! the law: is it a brine, its strengths -/
section
variable {F f : Rat} {U V T Z : Int} {L : List (Rat × Rat)}
theorem KnB.nz (h : KnB F U V T Z f L) {x : Rat × Rat} (hx : x ∈ brn f L) : (decide (x.1 = 0) && decide (x.2 = 0)) = false ∧ (0 < x.1 → x.2 ≤ F * x.1) := by
  unfold brn at hx
  rcases List.mem_append.mp hx with q | q
  · split at q
    · simp at q
    · rename_i n
      simp at q
      rw [q]
      exact ⟨by rw [decide_eq_false n, Bool.and_false], fun a => absurd a Rat.lt_irrefl⟩
  · have := List.mem_reverse.mp q
    exact ⟨by rw [decide_eq_false (Rat.ne_of_gt (h.wet.pos x this)), Bool.false_and], fun _ => h.wet.le x this⟩
end
/-! the law's strengths -/
def ssL (L : List (Rat × Rat)) : List Rat := ((L.filter fun x => decide (0 < x.2)).reverse).map stR
section
variable {F f : Rat} {U V T Z : Int} {L : List (Rat × Rat)}
theorem KnB.str (h : KnB F U V T Z f L) : ∀ c ∈ ssL L, 0 < c ∧ c ≤ F ∧ Bd 300 c := fun c hc => by
  unfold ssL at hc
  obtain ⟨x, hx, rfl⟩ := List.mem_map.mp hc
  have hx := List.mem_filter.mp (List.mem_reverse.mp hx)
  have x0 := h.wet.pos x hx.1
  have s0 : 0 < x.2 := of_decide_eq_true hx.2
  have bx := h.sz.one h.wet h.f0 hx.1
  refine ⟨?_, ?_, (bx.s.div bx.w).mono (by decide)⟩
  · rw [Rat.lt_div_iff x0, Rat.zero_mul]; exact s0
  · refine Rat.le_of_mul_le_mul_right (c := x.1) ?_ x0
    rw [Rat.div_mul_cancel (Rat.ne_of_gt x0)]; exact h.wet.le x hx.1
end
/-! told right: what is known goes through a drying -/
section
variable {F f u : Rat} {U V T Z : Int} {L : List (Rat × Rat)}
theorem KnB.dry (h : KnB F U V T Z f L) (u0 : 0 ≤ u) (gu : Gu U u) : KnB F U V T Z (f + fallS F u L) (dryL F u L) := by
  have d := dryA_ok h.wet h.F0 u0
  have nn := sums_nn L fun x hx => ⟨Rat.le_of_lt (h.wet.pos x hx), h.wet.nn x hx⟩
  obtain ⟨pre, e1, e2, e3, ne⟩ := (pool0 (u := u) h.wet u0).ex
  rw [Rat.zero_add] at e2 e3
  have hp : ∀ x ∈ pre, x ∈ L := fun x hx => by rw [e1]; simp [hx]
  have gP := gu_sumW pre fun x hx => h.sz.gw x (hp x hx)
  have gQ := gu_sumS pre fun x hx => h.sz.gs x (hp x hx)
  rw [← e2] at gP
  rw [← e3] at gQ
  have gl : Gu U (leftS F u L) := gP.sub (mnQ_g gu gP)
  have gk : Gu V (keptS F u L) := mnQ_g gQ (h.hF _ gl)
  have ll := congrArg List.length e1
  rw [List.length_append] at ll
  have tw : sumW (dryL F u L) ≤ ((T : Int) : Rat) := by
    rw [d.w]
    exact Rat.le_trans (z0_le nn.1 (by grind)) h.sz.tW
  have ts : (f + fallS F u L) + sumS (dryL F u L) ≤ ((Z : Int) : Rat) := by
    have := d.s
    have := h.sz.tS
    grind
  have f0 := h.f0
  have fd := d.f0
  refine ⟨h.F0, h.bF, d.wet, by grind, ⟨h.sz.u0, h.sz.u1, h.sz.v0, h.sz.v1, h.sz.fg.add (gQ.sub gk), fun x hx => ?_, fun x hx => ?_, tw, ts⟩, h.hF, ?_⟩
  · unfold dryL at hx
    rcases List.mem_append.mp hx with q | q
    · split at q
      · simp at q
      · simp at q; rw [q]; exact gl
    · exact h.sz.gw x (by rw [e1]; simp [q])
  · unfold dryL at hx
    rcases List.mem_append.mp hx with q | q
    · split at q
      · simp at q
      · simp at q; rw [q]; exact gk
    · exact h.sz.gs x (by rw [e1]; simp [q])
  · have ln := h.ln
    by_cases z : L = []
    · subst z
      have p0 : poolS F u 0 0 [] = (0, 0, []) := rfl
      have w0 : wentS F u [] = 0 := by
        show mnQ u 0 = 0
        unfold mnQ
        split
        · rfl
        · grind
      have : leftS F u [] = 0 := by show 0 - wentS F u [] = 0; rw [w0]; grind
      unfold dryL
      rw [if_pos this]
      exact Nat.zero_le _
    · have := List.length_pos_iff.mpr (ne z)
      unfold dryL
      rw [List.length_append]
      split
      · simp; omega
      · simp; omega
end
/-! told right -/
theorem ix_last (ds : List D) (d : D) : atI (ds ++ [d]) (-1) = some d := by
  unfold atI ixN
  rw [if_neg (by decide)]
  simp
  rw [if_pos (by omega), Option.bind_some]
  have : ((-1 : Int) + ((ds.length : Int) + 1)).toNat = ds.length := by omega
  rw [this]
  simp
theorem ssL_top {x : Rat × Rat} {T : List (Rat × Rat)} (s : 0 < x.2) : ssL (x :: T) = ssL T ++ [stR x] := by
  unfold ssL
  rw [List.filter_cons_of_pos (by simpa using s), List.reverse_cons, List.map_append]; rfl
section
variable {F f u : Rat} {U V T Z : Int} {L : List (Rat × Rat)}
/-- the last strength told, what is asked of it -/
theorem KnB.here (h : KnB F U V T Z f L) (u0 : 0 ≤ u) (gu : Gu U u) : ∃ c, Bd 300 c ∧ 0 < c ∧ atI ((F :: ssL (dryL F u L)).map frQ) (-1) = some (frQ c) ∧ (c < F → ∃ x T, dryL F u L = x :: T ∧ (¬ 0 < x.2 ∨ ndL c L = u)) := by
  have h' := h.dry u0 gu
  have all : ∀ c ∈ F :: ssL (dryL F u L), 0 < c ∧ Bd 300 c := fun c hc => by
    rcases List.mem_cons.mp hc with q | q
    · rw [q]; exact ⟨h.F0, h.bF.mono (by decide)⟩
    · have := h'.str c q
      exact ⟨this.1, this.2.2⟩
  cases e : dryL F u L with
  | nil =>
    refine ⟨F, h.bF.mono (by decide), h.F0, rfl, fun z => absurd z Rat.lt_irrefl⟩
  | cons x T =>
    rw [e] at all
    by_cases s : 0 < x.2
    · have st := all (stR x) (by rw [ssL_top s]; simp)
      refine ⟨stR x, st.2, st.1, ?_, fun z => ⟨x, T, rfl, .inr (dry_wk h.wet h.F0 u0 e s z)⟩⟩
      rw [ssL_top s, ← List.cons_append, List.map_append]
      exact ix_last _ _
    · have ne : F :: ssL (x :: T) ≠ [] := by simp
      have lt := List.dropLast_concat_getLast ne
      have st := all _ (List.getLast_mem ne)
      refine ⟨_, st.2, st.1, ?_, fun z => ⟨x, T, rfl, .inl s⟩⟩
      conv => lhs; rw [← lt, List.map_append]
      exact ix_last _ _
end
/-! a strength, an amount, as the law draws them -/
/-- a part of the full one -/
def Prt (F c : Rat) : Prop := ∃ a b : Int, 1 ≤ a ∧ a ≤ b ∧ b ≤ 25 ∧ a ≤ 24 ∧ c = F * Rat.divInt a b
theorem Prt.pos {F c : Rat} (h : Prt F c) (F0 : 0 < F) : 0 < c ∧ c ≤ F := by
  obtain ⟨a, b, a1, ab, b1, a24, rfl⟩ := h
  have p := divInt_pos (a := a) (b := b) (by omega) (by omega)
  have t := dI_top (a := a) (b := b) (T := 1) (by omega) (by omega)
  rw [Rat.intCast_one] at t
  have := Rat.mul_le_mul_of_nonneg_left t (Rat.le_of_lt F0)
  rw [Rat.mul_one] at this
  exact ⟨Rat.mul_pos F0 p, this⟩
theorem Prt.bd {F c : Rat} (h : Prt F c) (bF : Bd 10 F) : Bd 20 c := by
  obtain ⟨a, b, a1, ab, b1, a24, rfl⟩ := h
  exact (bF.mul (bd_divInt (n := 5) (by omega) (by omega) (by omega))).mono (by decide)
theorem Prt.refl (F : Rat) : Prt F F := ⟨1, 1, by decide, by decide, by decide, by decide, by
  have : Rat.divInt 1 1 = 1 := by decide +kernel
  rw [this, Rat.mul_one]⟩
/-- the parts of all amounts -/
def kP (P : Int) : Int := P * 5354228880 * 997000
theorem kP_bd {P : Int} (h0 : 0 < P) (h1 : P ≤ 400) : 0 < kP P ∧ kP P ≤ 2 ^ 62 := by unfold kP; omega
/-- all that is known of a drawn brine -/
structure BrK (F f : Rat) (P : Int) (L : List (Rat × Rat)) : Prop where
  P0 : 0 < P
  P1 : P ≤ 400
  kn : ∃ V, KnB F (12 * kP P) V 2300000 2400000000 f L
  ok : BrOk F 1300 40 (brn f L)
  gw : ∀ x ∈ L, Gu 12 x.1
  gs : ∀ x ∈ L, ∃ r, Gu P r ∧ x.2 = F * r * x.1
  own : 4 < (F.den : Int) → ∀ c ∈ ownOf (brn f L), Prt F c
  b10 : Bd 10 F
  ln : L.length ≤ 80
theorem Gu.z0 {U : Int} {q : Rat} (h : Gu U q) : Gu U (z0 q) := by unfold Bw.z0; split; exact h; exact Gu.zero
section
variable {F f : Rat} {P : Int} {L : List (Rat × Rat)}
theorem Gu.kP {q : Rat} (h : Gu (12 * (P * 5354228880)) q) : Gu (12 * kP P) q := gu_up (k := 997000) (by decide) (by unfold Bw.kP; rw [Int.mul_assoc]) h
/-- an amount that goes -/
structure AmK (P : Int) (u : Rat) : Prop where
  u0 : 0 ≤ u
  le : u ≤ ((2400000 : Int) : Rat)
  gu : Gu (12 * kP P) u
theorem gu_bd {k : Nat} (h0 : 0 < P) (h1 : P ≤ 400) {u : Rat} (u0 : 0 ≤ u) (le : u ≤ ((100000000 : Int) : Rat)) (gu : Gu (12 * kP P) u) (hk : 95 ≤ k) : Bd k u := by
  obtain ⟨a, b⟩ := kP_bd h0 h1
  exact (gn_bd (k := 95) (by omega) (by omega) (by omega) gu u0 le).mono hk
theorem BrK.small (h : BrK F f P L) {q : Rat} (s : Sml q) : AmK P q := by
  have q1 := s.q1
  have e1 : ((100000 : Int) : Rat) = 100000 := rfl
  have e2 : ((2400000 : Int) : Rat) = 2400000 := rfl
  rw [e1] at q1
  exact ⟨s.q0, by rw [e2]; grind, gu_up (k := P * 5354228880) (by have := h.P0; omega) (by unfold kP; omega) s.g⟩
theorem BrK.bd (h : BrK F f P L) {u : Rat} (a : AmK P u) : Bd 600 u := gu_bd h.P0 h.P1 a.u0 (Rat.le_trans a.le (by decide)) a.gu (by decide)
end
/-! the brines drawn, all known of them -/
theorem BrOk.up {F : Rat} {n n' m : Nat} {B : List (Rat × Rat)} (h : BrOk F n m B) (l : n ≤ n') : BrOk F n' m B := ⟨h.ok, h.sz.mono l, h.asc, h.kb, h.head⟩
/-! what is told is alike -/
/-! decimal digits -/
def dg (n : Nat) : List Nat := (Nat.toDigits 10 n).map Char.toNat
def decS (n : Nat) : Str := ⟨(dg n).toArray⟩
theorem dg_app {n d : Nat} (n0 : 0 < n) (hd : d < 10) : dg (10 * n + d) = dg n ++ dg d := by
  unfold dg
  rw [← Nat.toDigits_append_toDigits (by decide) n0 hd, List.map_append]
theorem dg_small {d : Nat} (hd : d < 10) : dg d = [48 + d] := by
  have all : ∀ i : Fin 10, dg i.val = [48 + i.val] := by decide
  exact all ⟨d, hd⟩
theorem dg_step {n : Nat} (h : 10 ≤ n) : dg n = dg (n / 10) ++ [48 + n % 10] := by
  have e : 10 * (n / 10) + n % 10 = n := Nat.div_add_mod n 10
  have a := dg_app (n := n / 10) (d := n % 10) (by omega) (by omega)
  rw [e, dg_small (d := n % 10) (by omega)] at a
  exact a
theorem dg_ind {P : Nat → Prop} (h0 : ∀ d, d < 10 → P d) (h1 : ∀ n, 10 ≤ n → P (n / 10) → P n) : ∀ n, P n := fun n => by
  induction n using Nat.strongRecOn with
  | _ n ih =>
    by_cases q : n < 10
    · exact h0 n q
    · exact h1 n (by omega) (ih (n / 10) (by omega))
theorem dg_all : ∀ n, NumText.AllDigits (dg n) := dg_ind (fun d hd => by
  rw [dg_small hd]
  intro c hc
  simp at hc
  omega) fun n h ih => by
  rw [dg_step h]
  intro c hc
  rcases List.mem_append.mp hc with q | q
  · exact ih c q
  · simp at q; omega
theorem dg_ne : ∀ n, dg n ≠ [] := dg_ind (fun d hd => by rw [dg_small hd]; simp) fun n h _ => by rw [dg_step h]; simp
theorem dg_val : ∀ n, NumText.digitsVal (dg n) = n := dg_ind (fun d hd => by
  rw [dg_small hd]
  show 0 * 10 + (48 + d - 48) = d
  omega) fun n h ih => by
  rw [dg_step h, NumText.digitsVal_snoc, ih]
  have := Nat.div_add_mod n 10
  omega
theorem dg_head : ∀ n, ∃ c r, dg n = c :: r ∧ (n ≠ 0 → 49 ≤ c) ∧ (n = 0 → c = 48 ∧ r = []) := dg_ind (fun d hd => ⟨48 + d, [], by rw [dg_small hd], fun h => by omega, fun h => by subst h; exact ⟨rfl, rfl⟩⟩) fun n h ih => by
  obtain ⟨c, r, e, c1, _⟩ := ih
  exact ⟨c, r ++ [48 + n % 10], by rw [dg_step h, e]; rfl, fun _ => c1 (by omega), fun z => absurd z (by omega)⟩
theorem dg_len {n k : Nat} (k0 : 0 < k) : (dg n).length ≤ k ↔ n < 10 ^ k := by
  unfold dg
  rw [List.length_map]
  exact Nat.length_toDigits_le_iff (by decide) k0
/-- the last k figures -/
def pk : Nat → Nat → List Nat
  | 0, _ => []
  | k + 1, r => pk k (r / 10) ++ [48 + r % 10]
theorem dg_pk {q : Nat} (q0 : 0 < q) : ∀ (k r : Nat), r < 10 ^ k → dg (q * 10 ^ k + r) = dg q ++ pk k r
  | 0, r, h => by
    have : r = 0 := by have := Nat.pow_zero 10; omega
    subst this
    rw [pk, List.append_nil, Nat.pow_zero, Nat.mul_one, Nat.add_zero]
  | k + 1, r, h => by
    have hk : 0 < 10 ^ k := Nat.pow_pos (by decide)
    have hr : r / 10 < 10 ^ k := by
      rw [Nat.pow_succ] at h
      exact Nat.div_lt_of_lt_mul (by omega)
    have e : q * 10 ^ (k + 1) + r = 10 * (q * 10 ^ k + r / 10) + r % 10 := by
      have := Nat.div_add_mod r 10
      rw [Nat.pow_succ, ← Nat.mul_assoc]
      omega
    have p0 : 0 < q * 10 ^ k + r / 10 := by have := Nat.mul_pos q0 hk; omega
    rw [e, dg_app p0 (by omega), dg_pk q0 k (r / 10) hr, dg_small (d := r % 10) (by omega), pk, List.append_assoc]
theorem pk_zero : ∀ k, pk k 0 = List.replicate k 48
  | 0 => rfl
  | k + 1 => by rw [pk, Nat.zero_div, pk_zero k, Nat.zero_mod]; rw [List.replicate_succ']
theorem pk_pad : ∀ (k r : Nat), r < 10 ^ k → 0 < k → pk k r = List.replicate (k - (dg r).length) 48 ++ dg r
  | 0, _, _, h => absurd h (by decide)
  | k + 1, r, h, _ => by
    by_cases c : r < 10
    · have z : r / 10 = 0 := Nat.div_eq_of_lt c
      rw [pk, z, pk_zero, dg_small c, Nat.mod_eq_of_lt c]
      rfl
    · have hr : r / 10 < 10 ^ k := by
        rw [Nat.pow_succ] at h
        exact Nat.div_lt_of_lt_mul (by omega)
      have k0 : 0 < k := by
        by_cases z : k = 0
        · subst z; have := Nat.pow_zero 10; omega
        · omega
      have l : (dg r).length = (dg (r / 10)).length + 1 := by rw [dg_step (by omega)]; simp
      rw [pk, pk_pad k (r / 10) hr k0, dg_step (n := r) (by omega)]
      rw [List.append_assoc]
      congr 2
      simp
theorem pk_len : ∀ k r, (pk k r).length = k
  | 0, _ => rfl
  | k + 1, r => by rw [pk, List.length_append, pk_len k]; rfl
/-! as texts -/
theorem decS_len (n : Nat) : (decS n).length = (dg n).length := by simp [decS, Str.length]
theorem decS_cps (n : Nat) : (decS n).cps.toList = dg n := by simp [decS]
theorem str_eq {a b : Str} (h : a.cps.toList = b.cps.toList) : a = b := by
  cases a; cases b
  congr 1
  exact Array.toList_inj.mp h
theorem toS_nat (n : Nat) : Str.ofString (toString (n : Int)) = decS n := by
  have e : toString (n : Int) = String.ofList (Nat.toDigits 10 n) := by
    show Int.repr (Int.ofNat n) = _
    show Nat.repr n = _
    exact Nat.repr_eq_ofList_toDigits
  rw [e, PySem.W.Fast.ofString_ofList]; rfl
theorem zf_eq {r : Nat} (h : r < 10 ^ 60) : Txt.zfill (decS r) 60 = ⟨(pk 60 r).toArray⟩ := by
  have hl : (dg r).length ≤ 60 := (dg_len (by decide)).mpr h
  have pp := pk_pad 60 r h (by decide)
  unfold Txt.zfill
  by_cases c : (60 : Int) ≤ ((decS r).length : Int)
  · rw [if_pos c]
    rw [decS_len] at c
    have : (dg r).length = 60 := by omega
    rw [pp, this]; rfl
  · rw [if_neg c]
    refine str_eq ?_
    have e0 : (decS r).cps[0]? = (dg r)[0]? := by simp [decS]
    obtain ⟨c0, rr, ed, h1, h2⟩ := dg_head r
    have c48 : 48 ≤ c0 := by
      by_cases z : r = 0
      · have := (h2 z).1; omega
      · have := h1 z; omega
    have zp : zfilled (decS r) (Int.toNat 60 - (decS r).length) = Builtin.Str.padded (decS r) (Int.toNat 60 - (decS r).length) 0 48 := by
      have e1 : (decS r).cps[0]? = some c0 := by rw [e0, ed]; rfl
      unfold zfilled
      rw [e1]
      split
      · rename_i q; have q := Option.some.inj q; omega
      · rename_i q; have q := Option.some.inj q; omega
      · rfl
    rw [zp, pp]
    have l60 : Int.toNat 60 = 60 := rfl
    rw [l60, decS_len]
    unfold Builtin.Str.padded
    simp [decS]
/-! a whole number in figures -/
theorem flat_join : ∀ (l : List Str) (acc : Array Nat), (List.foldl (fun (acc : Array Nat) (p : Str) => acc ++ (Str.ofString "").cps ++ p.cps) acc l).toList = acc.toList ++ (l.map fun x => x.cps.toList).flatten
  | [], acc => by simp
  | p :: l, acc => by
    have e : (Str.ofString "").cps = #[] := by decide +kernel
    rw [List.foldl_cons, flat_join l]
    rw [e]
    simp
theorem join_eq (l : List Str) : (Txt.join (Str.ofString "") l).cps.toList = (l.map fun x => x.cps.toList).flatten := by
  unfold Txt.join Builtin.Str.glued
  show (List.foldl _ (l.headD Str.empty).cps (l.drop 1)).toList = _
  rw [flat_join]
  cases l with
  | nil => rfl
  | cons p l => simp
theorem nm_nat {i : Int} {n : Nat} (h : i = (n : Int)) (hn : n < 10 ^ 400) : i.natAbs.log2 < 1920 := by
  subst h
  rw [Int.natAbs_natCast]
  have h2 : n < 2 ^ 1900 := Nat.lt_trans hn (by decide +kernel)
  exact Nat.lt_of_le_of_lt (log2_le_of h2) (by decide)
@[irreducible] def ch : Nat := 10 ^ 60
theorem ch_eq : ch = 10 ^ 60 := by unfold ch; rfl
theorem ch_pos : 0 < ch := by rw [ch_eq]; exact Nat.pow_pos (by decide)
theorem ch_D : C_CHUNK = .int (ch : Int) := by unfold C_CHUNK; rw [ch_eq]; rfl
def CPa : Nat → Nat
  | 0 => ch
  | k + 1 => ch * CPa k
@[irreducible] def CP (k : Nat) : Nat := CPa k
theorem CP_0 : CP 0 = ch := by unfold CP; rfl
theorem CP_s (k : Nat) : CP (k + 1) = ch * CP k := by unfold CP; rfl
theorem CP_6 : CP 6 = 10 ^ 420 := by
  rw [CP_s, CP_s, CP_s, CP_s, CP_s, CP_s, CP_0, ch_eq]
  decide +kernel
theorem pylong_no (i : Int) : Builtin.divisionGoesByPylong i (ch : Int) = false := PyProof.noPylong_of_log2 (by rw [ch_eq]; decide +kernel)
theorem ch_dg {q r : Nat} (q0 : 0 < q) (h : r < ch) : dg (ch * q + r) = dg q ++ pk 60 r := by
  rw [ch_eq] at h ⊢
  rw [Nat.mul_comm]
  exact dg_pk q0 60 r h
theorem ch_zf {r : Nat} (h : r < ch) : Txt.zfill (decS r) 60 = ⟨(pk 60 r).toArray⟩ := by rw [ch_eq] at h; exact zf_eq h
theorem ch_lt {n : Nat} (h : n < ch) : n < 10 ^ 400 := by rw [ch_eq] at h; exact Nat.lt_trans h (by decide +kernel)
theorem ch_len {n : Nat} (h : n < ch) : (dg n).length ≤ 60 := by rw [ch_eq] at h; exact (dg_len (by decide)).mpr h
abbrev zf60 (r : Nat) : Str := ⟨(pk 60 r).toArray⟩
theorem nt_step {r n : Nat} {cs : List Nat} {M : Mem} {o2 : Option D} (hM : M[r]? = some (some (cs.map fun c => D.str (zf60 c)))) (hl : cs.length ≤ 100) : den_number_text_L1 [some (.int (n : Int)), some (.ptr r), o2] M = some (.nx [some (.int ((n / ch : Nat) : Int)), some (.ptr r), some (.int ((n % ch : Nat) : Int))], M.set r (some ((cs.map fun c => D.str (zf60 c)) ++ [.str (zf60 (n % ch))]))) := by
  have rl : n % ch < ch := Nat.mod_lt _ ch_pos
  have e1 : (n : Int) / (ch : Int) = ((n / ch : Nat) : Int) := by push_cast; rfl
  have e2 : (n : Int) % (ch : Int) = ((n % ch : Nat) : Int) := by push_cast; rfl
  have zf := ch_zf rl
  have ts := toS_nat (n % ch)
  have lg := nm_nat (i := ((n % ch : Nat) : Int)) rfl (ch_lt rl)
  have ok := fun ρ => okPtr_ap ρ hM
  have ap := fun ρ => oApp_ap (d := .str (zf60 (n % ch))) ρ hM rfl (by rw [List.length_map]; omega)
  have ec := ch_D
  have dv : ∀ ρ M, oDvm [.int (n : Int), .int (ch : Int)] ρ M = some (.ok (.tup [.int ((n / ch : Nat) : Int), .int ((n % ch : Nat) : Int)]), M) := fun ρ M => by
    unfold oDvm
    show (if 0 < (ch : Int) ∧ Builtin.divisionGoesByPylong (n : Int) (ch : Int) = false then _ else _ : Ev D) ρ M = _
    rw [if_pos ⟨by have := ch_pos; omega, pylong_no _⟩, e1, e2]; rfl
  generalize n % ch = rr at *
  generalize n / ch = qq at *
  have si : ∀ ρ M, oStrI [.int (rr : Int)] ρ M = some (.ok (.str (decS rr)), M) := fun ρ M => by
    unfold oStrI
    show (if (rr : Int).natAbs.log2 < 1920 then _ else _ : Ev D) ρ M = _
    rw [if_pos lg, ts]; rfl
  have zo : ∀ ρ M, oZf (decS rr) [.int 60] ρ M = some (.ok (.str (zf60 rr)), M) := fun ρ M => by
    unfold oZf
    show (if PadOk 60 = true then _ else _ : Ev D) ρ M = _
    rw [if_pos (show PadOk 60 = true from rfl), zf]; rfl
  have oks : ∀ (z : Str) ρ M, okStr (.str z) ρ M = some (.ok z, M) := fun _ _ _ => rfl
  have tp : ∀ (a b : D) c ρ, gTp 2 c (.tup [a, b]) ρ = c [a, b] ρ := fun _ _ _ _ => rfl
  unfold den_number_text_L1
  rw [seq_step (ρ1 := [some (.int (qq : Int)), some (.ptr r), some (.int (rr : Int))]) (M1 := M) (by simp -implicitDefEqProofs only [sSeq_ap, sAsg_ap, sPar_ap, sRet_ap, sIf_ap, sExpr_ap, sNext_ap, bnd_ap, ret_ap, bindR_ok, thenR_ok, dVar_ap, varR_ok, seqR_nx, seqR_rt, asgR_ok, gNm_ap, gCn_ap, gcnR_ok, gNl_ap, gTp_fr, gTp_ap, gLs_ap, dCons_ap, dNil_ap, asB_ap, dOr_ap, dAnd_ap, dNot_ap, dAndV_ap, dOrV_ap, dNotV_ap, dIf_ap, oAdd_int, oSub_int, oLt_int, oLe_int, oGt_int, oGe_int, oNeg_int, oEq_int, oNe_int, oEq_fr, oNe_fr, oEq_bl, oNe_bl, oTup_ap, oLst_ap, oCall_ap, oAbs_ap, oMax_ap, oMin_ap, oToInt_b, oToInt_i, oLen_lst, oLen_scr, oLen_tup, oIx_lst, oIx_scr, oAdd_lst, oIx_tup, oIx_fr0, oIx_fr1, ixR_ok, oItL_ap, oItT_ap, sFor_ap, startD, List.map_cons, List.map_nil, List.length_cons, List.length_nil, List.replicate_succ, List.replicate_zero, List.cons_append, List.nil_append, List.append_nil, List.getElem?_cons_zero, List.getElem?_cons_succ, List.set_cons_zero, List.set_cons_succ, Nat.reduceAdd, Nat.reduceSub, Nat.sub_self, Nat.reduceLeDiff, List.all_cons, List.all_nil, np_fr, np_int, np_bl, np_tup, np_lst, np_str, np_non, Bool.and_self, Bool.and_true, if_true_, if_false_, zero_add', if_tt, if_ff, decide_true, decide_false, Nat.le_refl, oItS_lst, oItS_tup, oTupOf_lst, oTupOf_tup, oLstOf_lst, oLstOf_tup, oRv_lst, oRv_tup, oAdd_tup, dChain_ap, asTru_bl, asTru_tup, asTru_lst, oIsN_ap, oNotN_ap, asI_ap, oSl_tup, oSl_lst, oZip_tup, oZip_lst, oAddI_ap, oEqS_ap, oNeS_ap, oNe_nil, ec, dv, tp])]
  generalize zf60 rr = ZR at *
  simp -implicitDefEqProofs only [sSeq_ap, sAsg_ap, sPar_ap, sRet_ap, sIf_ap, sExpr_ap, sNext_ap, bnd_ap, ret_ap, bindR_ok, thenR_ok, dVar_ap, varR_ok, seqR_nx, seqR_rt, asgR_ok, gNm_ap, gCn_ap, gcnR_ok, gNl_ap, gTp_fr, gTp_ap, gLs_ap, dCons_ap, dNil_ap, asB_ap, dOr_ap, dAnd_ap, dNot_ap, dAndV_ap, dOrV_ap, dNotV_ap, dIf_ap, oAdd_int, oSub_int, oLt_int, oLe_int, oGt_int, oGe_int, oNeg_int, oEq_int, oNe_int, oEq_fr, oNe_fr, oEq_bl, oNe_bl, oTup_ap, oLst_ap, oCall_ap, oAbs_ap, oMax_ap, oMin_ap, oToInt_b, oToInt_i, oLen_lst, oLen_scr, oLen_tup, oIx_lst, oIx_scr, oAdd_lst, oIx_tup, oIx_fr0, oIx_fr1, ixR_ok, oItL_ap, oItT_ap, sFor_ap, startD, List.map_cons, List.map_nil, List.length_cons, List.length_nil, List.replicate_succ, List.replicate_zero, List.cons_append, List.nil_append, List.append_nil, List.getElem?_cons_zero, List.getElem?_cons_succ, List.set_cons_zero, List.set_cons_succ, Nat.reduceAdd, Nat.reduceSub, Nat.sub_self, Nat.reduceLeDiff, List.all_cons, List.all_nil, np_fr, np_int, np_bl, np_tup, np_lst, np_str, np_non, Bool.and_self, Bool.and_true, if_true_, if_false_, zero_add', if_tt, if_ff, decide_true, decide_false, Nat.le_refl, oItS_lst, oItS_tup, oTupOf_lst, oTupOf_tup, oLstOf_lst, oLstOf_tup, oRv_lst, oRv_tup, oAdd_tup, dChain_ap, asTru_bl, asTru_tup, asTru_lst, oIsN_ap, oNotN_ap, asI_ap, oSl_tup, oSl_lst, oZip_tup, oZip_lst, oAddI_ap, oEqS_ap, oNeS_ap, oNe_nil, si, oks, zo, ok, ap]
theorem nt_loop {r : Nat} : ∀ (k n : Nat) (cs : List Nat) (M : Mem) (o2 : Option D) (N : Nat), n < CP k → k < N → cs.length + k ≤ 20 → M[r]? = some (some (cs.map fun c => D.str (zf60 c))) →
    ∃ (n' : Nat) (ds : List Nat) (p2 : Option D) (M' : Mem), whileF (bnd (bnd (dVar 0) fun d => bnd (ret C_CHUNK) fun e => oGe d e) asB) den_number_text_L1 N [some (.int (n : Int)), some (.ptr r), o2] M = some (.nx [some (.int (n' : Int)), some (.ptr r), p2], M') ∧ n' < ch ∧ dg n ++ (cs.reverse.map (pk 60)).flatten = dg n' ++ (ds.reverse.map (pk 60)).flatten ∧ ds.length ≤ 20 ∧ M'.length = M.length ∧ (∀ j, j ≠ r → M'[j]? = M[j]?) ∧ M'[r]? = some (some (ds.map fun c => D.str (zf60 c))) := by
  intro k
  induction k with
  | zero =>
    intro n cs M o2 N hn hN hl hM
    rw [CP_0] at hn
    cases N with
    | zero => exact absurd hN (by omega)
    | succ N =>
      have dc : decide ((n : Int) ≥ (ch : Int)) = false := decide_eq_false (by omega)
      have ec := ch_D
      refine ⟨n, cs, o2, M, ?_, hn, rfl, by omega, rfl, fun _ _ => rfl, hM⟩
      unfold whileF
      simp -implicitDefEqProofs only [sSeq_ap, sAsg_ap, sPar_ap, sRet_ap, sIf_ap, sExpr_ap, sNext_ap, bnd_ap, ret_ap, bindR_ok, thenR_ok, dVar_ap, varR_ok, seqR_nx, seqR_rt, asgR_ok, gNm_ap, gCn_ap, gcnR_ok, gNl_ap, gTp_fr, gTp_ap, gLs_ap, dCons_ap, dNil_ap, asB_ap, dOr_ap, dAnd_ap, dNot_ap, dAndV_ap, dOrV_ap, dNotV_ap, dIf_ap, oAdd_int, oSub_int, oLt_int, oLe_int, oGt_int, oGe_int, oNeg_int, oEq_int, oNe_int, oEq_fr, oNe_fr, oEq_bl, oNe_bl, oTup_ap, oLst_ap, oCall_ap, oAbs_ap, oMax_ap, oMin_ap, oToInt_b, oToInt_i, oLen_lst, oLen_scr, oLen_tup, oIx_lst, oIx_scr, oAdd_lst, oIx_tup, oIx_fr0, oIx_fr1, ixR_ok, oItL_ap, oItT_ap, sFor_ap, startD, List.map_cons, List.map_nil, List.length_cons, List.length_nil, List.replicate_succ, List.replicate_zero, List.cons_append, List.nil_append, List.append_nil, List.getElem?_cons_zero, List.getElem?_cons_succ, List.set_cons_zero, List.set_cons_succ, Nat.reduceAdd, Nat.reduceSub, Nat.sub_self, Nat.reduceLeDiff, List.all_cons, List.all_nil, np_fr, np_int, np_bl, np_tup, np_lst, np_str, np_non, Bool.and_self, Bool.and_true, if_true_, if_false_, zero_add', if_tt, if_ff, decide_true, decide_false, Nat.le_refl, oItS_lst, oItS_tup, oTupOf_lst, oTupOf_tup, oLstOf_lst, oLstOf_tup, oRv_lst, oRv_tup, oAdd_tup, dChain_ap, asTru_bl, asTru_tup, asTru_lst, oIsN_ap, oNotN_ap, asI_ap, oSl_tup, oSl_lst, oZip_tup, oZip_lst, oAddI_ap, oEqS_ap, oNeS_ap, oNe_nil, ec, dc, Bool.false_eq_true]
  | succ k ih =>
    intro n cs M o2 N hn hN hl hM
    rw [CP_s] at hn
    have ec := ch_D
    cases N with
    | zero => exact absurd hN (by omega)
    | succ N =>
      by_cases c : ch ≤ n
      · have dc : decide ((n : Int) ≥ (ch : Int)) = true := decide_eq_true (by omega)
        have q0 : 0 < n / ch := Nat.div_pos c ch_pos
        have ql : n / ch < CP k := Nat.div_lt_of_lt_mul hn
        have dp := ch_dg q0 (Nat.mod_lt n ch_pos)
        rw [Nat.div_add_mod] at dp
        have st := nt_step (n := n) (o2 := o2) hM (by omega)
        have hM1 : (M.set r (some ((cs.map fun c => D.str (zf60 c)) ++ [.str (zf60 (n % ch))])))[r]? = some (some ((cs ++ [n % ch]).map fun c => D.str (zf60 c))) := by
          rw [List.getElem?_set_self (List.getElem?_eq_some_iff.mp hM).1, List.map_append]; rfl
        obtain ⟨n', ds, p2, M', e, h1, h2, h3, h4, h5, h6⟩ := ih (n / ch) (cs ++ [n % ch]) _ (some (.int ((n % ch : Nat) : Int))) N ql (by omega) (by simp; omega) hM1
        refine ⟨n', ds, p2, M', ?_, h1, ?_, h3, by rw [h4, List.length_set], fun j hj => by rw [h5 j hj, List.getElem?_set_ne (Ne.symm hj)], h6⟩
        · unfold whileF
          simp -implicitDefEqProofs only [ec] at e
          simp -implicitDefEqProofs only [sSeq_ap, sAsg_ap, sPar_ap, sRet_ap, sIf_ap, sExpr_ap, sNext_ap, bnd_ap, ret_ap, bindR_ok, thenR_ok, dVar_ap, varR_ok, seqR_nx, seqR_rt, asgR_ok, gNm_ap, gCn_ap, gcnR_ok, gNl_ap, gTp_fr, gTp_ap, gLs_ap, dCons_ap, dNil_ap, asB_ap, dOr_ap, dAnd_ap, dNot_ap, dAndV_ap, dOrV_ap, dNotV_ap, dIf_ap, oAdd_int, oSub_int, oLt_int, oLe_int, oGt_int, oGe_int, oNeg_int, oEq_int, oNe_int, oEq_fr, oNe_fr, oEq_bl, oNe_bl, oTup_ap, oLst_ap, oCall_ap, oAbs_ap, oMax_ap, oMin_ap, oToInt_b, oToInt_i, oLen_lst, oLen_scr, oLen_tup, oIx_lst, oIx_scr, oAdd_lst, oIx_tup, oIx_fr0, oIx_fr1, ixR_ok, oItL_ap, oItT_ap, sFor_ap, startD, List.map_cons, List.map_nil, List.length_cons, List.length_nil, List.replicate_succ, List.replicate_zero, List.cons_append, List.nil_append, List.append_nil, List.getElem?_cons_zero, List.getElem?_cons_succ, List.set_cons_zero, List.set_cons_succ, Nat.reduceAdd, Nat.reduceSub, Nat.sub_self, Nat.reduceLeDiff, List.all_cons, List.all_nil, np_fr, np_int, np_bl, np_tup, np_lst, np_str, np_non, Bool.and_self, Bool.and_true, if_true_, if_false_, zero_add', if_tt, if_ff, decide_true, decide_false, Nat.le_refl, oItS_lst, oItS_tup, oTupOf_lst, oTupOf_tup, oLstOf_lst, oLstOf_tup, oRv_lst, oRv_tup, oAdd_tup, dChain_ap, asTru_bl, asTru_tup, asTru_lst, oIsN_ap, oNotN_ap, asI_ap, oSl_tup, oSl_lst, oZip_tup, oZip_lst, oAddI_ap, oEqS_ap, oNeS_ap, oNe_nil, ec, dc, st, e]
        · rw [← h2, dp, List.reverse_append]
          simp
      · have dc : decide ((n : Int) ≥ (ch : Int)) = false := decide_eq_false (by omega)
        refine ⟨n, cs, o2, M, ?_, by omega, rfl, by omega, rfl, fun _ _ => rfl, hM⟩
        unfold whileF
        simp -implicitDefEqProofs only [sSeq_ap, sAsg_ap, sPar_ap, sRet_ap, sIf_ap, sExpr_ap, sNext_ap, bnd_ap, ret_ap, bindR_ok, thenR_ok, dVar_ap, varR_ok, seqR_nx, seqR_rt, asgR_ok, gNm_ap, gCn_ap, gcnR_ok, gNl_ap, gTp_fr, gTp_ap, gLs_ap, dCons_ap, dNil_ap, asB_ap, dOr_ap, dAnd_ap, dNot_ap, dAndV_ap, dOrV_ap, dNotV_ap, dIf_ap, oAdd_int, oSub_int, oLt_int, oLe_int, oGt_int, oGe_int, oNeg_int, oEq_int, oNe_int, oEq_fr, oNe_fr, oEq_bl, oNe_bl, oTup_ap, oLst_ap, oCall_ap, oAbs_ap, oMax_ap, oMin_ap, oToInt_b, oToInt_i, oLen_lst, oLen_scr, oLen_tup, oIx_lst, oIx_scr, oAdd_lst, oIx_tup, oIx_fr0, oIx_fr1, ixR_ok, oItL_ap, oItT_ap, sFor_ap, startD, List.map_cons, List.map_nil, List.length_cons, List.length_nil, List.replicate_succ, List.replicate_zero, List.cons_append, List.nil_append, List.append_nil, List.getElem?_cons_zero, List.getElem?_cons_succ, List.set_cons_zero, List.set_cons_succ, Nat.reduceAdd, Nat.reduceSub, Nat.sub_self, Nat.reduceLeDiff, List.all_cons, List.all_nil, np_fr, np_int, np_bl, np_tup, np_lst, np_str, np_non, Bool.and_self, Bool.and_true, if_true_, if_false_, zero_add', if_tt, if_ff, decide_true, decide_false, Nat.le_refl, oItS_lst, oItS_tup, oTupOf_lst, oTupOf_tup, oLstOf_lst, oLstOf_tup, oRv_lst, oRv_tup, oAdd_tup, dChain_ap, asTru_bl, asTru_tup, asTru_lst, oIsN_ap, oNotN_ap, asI_ap, oSl_tup, oSl_lst, oZip_tup, oZip_lst, oAddI_ap, oEqS_ap, oNeS_ap, oNe_nil, ec, dc, Bool.false_eq_true]
theorem flat_len : ∀ ds : List Nat, ((ds.map (pk 60)).flatten).length = 60 * ds.length
  | [] => rfl
  | d :: ds => by rw [List.map_cons, List.flatten_cons, List.length_append, pk_len, flat_len ds, List.length_cons]; omega
theorem number_eq {n : Nat} (hn : n < 10 ^ 401) (M : Mem) : F_number_text [.int (n : Int)] M = some (.ok (.str (decS n)), M) := by
  have nw : ∀ ρ, oNew [] ρ M = some (.ok (.ptr M.length), M ++ [some []]) := fun _ => rfl
  obtain ⟨n', ds, p2, M', e, h1, h2, h3, h4, h5, h6⟩ := nt_loop (r := M.length) 6 n [] (M ++ [some []]) none 7 (by rw [CP_6]; exact Nat.lt_trans hn (by decide +kernel)) (by decide) (by decide) (last_cell M _)
  have wh := sWhile_eq e
  have ts := toS_nat n'
  have lg := nm_nat (i := (n' : Int)) rfl (ch_lt h1)
  have tk : M'.take M.length = M := by
    refine List.ext_getElem? fun j => ?_
    by_cases q : j < M.length
    · rw [List.getElem?_take_of_lt q, h5 j (by omega), List.getElem?_append_left q]
    · rw [List.getElem?_eq_none (by simp; omega), List.getElem?_eq_none (by omega)]
  have rv : ∀ ρ, oRv (.ptr M.length) ρ M' = some (.ok (.lst ((ds.map fun c => D.str (zf60 c)).reverse)), M') := fun ρ => by
    unfold oRv lseq seqOf
    dsimp only
    rw [h6]
  have em : (ds.map fun c => D.str (zf60 c)).reverse = (ds.reverse.map zf60).map D.str := by rw [List.map_map, ← List.map_reverse]; rfl
  have dl : (dg n').length ≤ 60 := ch_len h1
  have je : (Txt.join (Str.ofString "") (ds.reverse.map zf60)).cps.toList = (ds.reverse.map (pk 60)).flatten := by
    rw [join_eq, List.map_map]; rfl
  have jl : (Txt.join (Str.ofString "") (ds.reverse.map zf60)).length = 60 * ds.length := by
    have := congrArg List.length je
    rw [flat_len, List.length_reverse] at this
    rw [← this]; simp [Str.length]
  have jn : ∀ ρ M, oJn (Str.ofString "") (.lst ((ds.map fun c => D.str (zf60 c)).reverse)) ρ M = some (.ok (.str (Txt.join (Str.ofString "") (ds.reverse.map zf60))), M) := fun ρ M => by
    unfold oJn seqOf
    dsimp only
    rw [em, strsOf_map]
    dsimp only
    rw [if_pos]
    have e0 : (Str.ofString "").length = 0 := by decide +kernel
    rw [e0, Nat.mul_zero, Nat.add_zero]
    have : ∀ l : List Nat, ((l.map zf60).map fun x => x.length).sum = 60 * l.length := fun l => by
      induction l with
      | nil => rfl
      | cons a l ih =>
        rw [List.map_cons, List.map_cons, List.sum_cons, ih, List.length_cons]
        have : (zf60 a).length = 60 := by show (pk 60 a).toArray.size = 60; rw [List.size_toArray, pk_len]
        omega
    rw [this, List.length_reverse]
    show 60 * ds.length ≤ 16777216
    omega
  have si : ∀ ρ M, oStrI [.int (n' : Int)] ρ M = some (.ok (.str (decS n')), M) := fun ρ M => by
    unfold oStrI
    dsimp only
    rw [if_pos lg, ts]; rfl
  have ad : ∀ ρ M, oAddS (.str (decS n')) (.str (Txt.join (Str.ofString "") (ds.reverse.map zf60))) ρ M = some (.ok (.str (decS n)), M) := fun ρ M => by
    unfold oAddS
    dsimp only
    rw [if_pos (by rw [decS_len, jl]; show (dg n').length + 60 * ds.length ≤ 16777216; omega)]
    have es : decS n' ++ Txt.join (Str.ofString "") (ds.reverse.map zf60) = decS n := by
      refine str_eq ?_
      rw [decS_cps]
      have h2' : dg n = dg n' ++ (ds.reverse.map (pk 60)).flatten := by simpa using h2
      rw [h2', ← je, ← decS_cps]
      show ((decS n').cps ++ (Txt.join (Str.ofString "") (ds.reverse.map zf60)).cps).toList = _
      rw [Array.toList_append]
    rw [es]; rfl
  have oks : ∀ (z : Str) ρ M, okStr (.str z) ρ M = some (.ok z, M) := fun _ _ _ => rfl
  have key : den_number_text [some (.int (n : Int)), none, none] M = some (.rt (.str (decS n)), M') := by
    unfold den_number_text
    rw [seq_step (ρ1 := [some (.int (n : Int)), some (.ptr M.length), none]) (M1 := M ++ [some []]) (by simp -implicitDefEqProofs only [sSeq_ap, sAsg_ap, sPar_ap, sRet_ap, sIf_ap, sExpr_ap, sNext_ap, bnd_ap, ret_ap, bindR_ok, thenR_ok, dVar_ap, varR_ok, seqR_nx, seqR_rt, asgR_ok, gNm_ap, gCn_ap, gcnR_ok, gNl_ap, gTp_fr, gTp_ap, gLs_ap, dCons_ap, dNil_ap, asB_ap, dOr_ap, dAnd_ap, dNot_ap, dAndV_ap, dOrV_ap, dNotV_ap, dIf_ap, oAdd_int, oSub_int, oLt_int, oLe_int, oGt_int, oGe_int, oNeg_int, oEq_int, oNe_int, oEq_fr, oNe_fr, oEq_bl, oNe_bl, oTup_ap, oLst_ap, oCall_ap, oAbs_ap, oMax_ap, oMin_ap, oToInt_b, oToInt_i, oLen_lst, oLen_scr, oLen_tup, oIx_lst, oIx_scr, oAdd_lst, oIx_tup, oIx_fr0, oIx_fr1, ixR_ok, oItL_ap, oItT_ap, sFor_ap, startD, List.map_cons, List.map_nil, List.length_cons, List.length_nil, List.replicate_succ, List.replicate_zero, List.cons_append, List.nil_append, List.append_nil, List.getElem?_cons_zero, List.getElem?_cons_succ, List.set_cons_zero, List.set_cons_succ, Nat.reduceAdd, Nat.reduceSub, Nat.sub_self, Nat.reduceLeDiff, List.all_cons, List.all_nil, np_fr, np_int, np_bl, np_tup, np_lst, np_str, np_non, Bool.and_self, Bool.and_true, if_true_, if_false_, zero_add', if_tt, if_ff, decide_true, decide_false, Nat.le_refl, oItS_lst, oItS_tup, oTupOf_lst, oTupOf_tup, oLstOf_lst, oLstOf_tup, oRv_lst, oRv_tup, oAdd_tup, dChain_ap, asTru_bl, asTru_tup, asTru_lst, oIsN_ap, oNotN_ap, asI_ap, oSl_tup, oSl_lst, oZip_tup, oZip_lst, oAddI_ap, oEqS_ap, oNeS_ap, oNe_nil, nw])]
    rw [seq_step wh]
    generalize Txt.join (Str.ofString "") (ds.reverse.map zf60) = JS at *
    generalize (ds.map fun c => D.str (zf60 c)).reverse = VD at *
    generalize hS : Str.ofString "" = S0 at *
    simp -implicitDefEqProofs only [sSeq_ap, sAsg_ap, sPar_ap, sRet_ap, sIf_ap, sExpr_ap, sNext_ap, bnd_ap, ret_ap, bindR_ok, thenR_ok, dVar_ap, varR_ok, seqR_nx, seqR_rt, asgR_ok, gNm_ap, gCn_ap, gcnR_ok, gNl_ap, gTp_fr, gTp_ap, gLs_ap, dCons_ap, dNil_ap, asB_ap, dOr_ap, dAnd_ap, dNot_ap, dAndV_ap, dOrV_ap, dNotV_ap, dIf_ap, oAdd_int, oSub_int, oLt_int, oLe_int, oGt_int, oGe_int, oNeg_int, oEq_int, oNe_int, oEq_fr, oNe_fr, oEq_bl, oNe_bl, oTup_ap, oLst_ap, oCall_ap, oAbs_ap, oMax_ap, oMin_ap, oToInt_b, oToInt_i, oLen_lst, oLen_scr, oLen_tup, oIx_lst, oIx_scr, oAdd_lst, oIx_tup, oIx_fr0, oIx_fr1, ixR_ok, oItL_ap, oItT_ap, sFor_ap, startD, List.map_cons, List.map_nil, List.length_cons, List.length_nil, List.replicate_succ, List.replicate_zero, List.cons_append, List.nil_append, List.append_nil, List.getElem?_cons_zero, List.getElem?_cons_succ, List.set_cons_zero, List.set_cons_succ, Nat.reduceAdd, Nat.reduceSub, Nat.sub_self, Nat.reduceLeDiff, List.all_cons, List.all_nil, np_fr, np_int, np_bl, np_tup, np_lst, np_str, np_non, Bool.and_self, Bool.and_true, if_true_, if_false_, zero_add', if_tt, if_ff, decide_true, decide_false, Nat.le_refl, oItS_lst, oItS_tup, oTupOf_lst, oTupOf_tup, oLstOf_lst, oLstOf_tup, oRv_lst, oRv_tup, oAdd_tup, dChain_ap, asTru_bl, asTru_tup, asTru_lst, oIsN_ap, oNotN_ap, asI_ap, oSl_tup, oSl_lst, oZip_tup, oZip_lst, oAddI_ap, oEqS_ap, oNeS_ap, oNe_nil, si, hS, oks, rv, jn, ad]
  have r := runF_rt (N := ["number", "chunks", "rest"]) (ds := [.int (n : Int)]) key (by rw [h4]; simp) rfl
  rw [tk] at r
  exact r
/-! a fraction written -/
def sgL (a : Int) : List Nat := if a < 0 then [45] else []
def fL (q : Rat) : List Nat := sgL q.num ++ dg q.num.natAbs ++ (if q.den = 1 then [] else 47 :: dg q.den)
def fT (q : Rat) : Str := ⟨(fL q).toArray⟩
structure SzT (q : Rat) : Prop where
  n : q.num.natAbs < 10 ^ 400
  d : q.den < 10 ^ 400
theorem toS_int (a : Int) : Str.ofString (toString a) = ⟨(sgL a ++ dg a.natAbs).toArray⟩ := by
  by_cases h : a < 0
  · obtain ⟨n, rfl⟩ := Int.eq_negSucc_of_lt_zero h
    have e : toString (Int.negSucc n) = "-" ++ Nat.repr (n + 1) := rfl
    refine str_eq ?_
    rw [e, PyProof.Rows.signs_ofString, String.toList_append, Nat.repr_eq_ofList_toDigits, List.map_append]
    rw [String.toList_ofList, String.toList_ofList]
    unfold sgL
    rw [if_pos h]
    rfl
  · obtain ⟨n, rfl⟩ : ∃ n : Nat, a = n := ⟨a.toNat, by omega⟩
    rw [toS_nat]
    unfold sgL
    rw [if_neg (by omega)]
    rfl
theorem oAddS_ap {a b : Str} (h : a.length + b.length ≤ 16777216) (ρ : Env) (M : Mem) : oAddS (.str a) (.str b) ρ M = some (.ok (.str (a ++ b)), M) := by
  unfold oAddS
  show (if a.length + b.length ≤ 16777216 then _ else _ : Ev D) ρ M = _
  rw [if_pos h]; rfl
theorem app_cps (a b : Str) : (a ++ b).cps.toList = a.cps.toList ++ b.cps.toList := by
  show (a.cps ++ b.cps).toList = _
  rw [Array.toList_append]
theorem len_cps (a : Str) : a.length = a.cps.toList.length := by simp [Str.length]
theorem dg_400 {n : Nat} (h : n < 10 ^ 400) : (dg n).length ≤ 400 := (dg_len (by decide)).mpr h
theorem cps_m : (Str.ofString "-").cps.toList = [45] := by decide +kernel
theorem cps_s : (Str.ofString "/").cps.toList = [47] := by decide +kernel
theorem cps_0 : (Str.ofString "").cps.toList = [] := by decide +kernel
theorem lt_401 {n : Nat} (h : n < 10 ^ 400) : n < 10 ^ 401 := Nat.lt_trans h (by decide +kernel)
theorem ftext_eq {q : Rat} (h : SzT q) (M : Mem) : F_fraction_text [frQ q] M = some (.ok (.str (fT q)), M) := by
  refine runF_pure ?_ rfl
  have e1 := number_eq (lt_401 h.n) M
  have e2 := number_eq (lt_401 h.d) M
  have l1 := dg_400 h.n
  have l2 := dg_400 h.d
  have ab : (if q.num < 0 then -q.num else q.num) = ((q.num.natAbs : Nat) : Int) := by split <;> omega
  have cm := cps_m
  have cs := cps_s
  have c0 := cps_0
  generalize hM : Str.ofString "-" = SM at cm
  generalize hL : Str.ofString "/" = SL at cs
  generalize h0 : Str.ofString "" = S0 at c0
  have a1 := fun ρ => oAddS_ap (a := SL) (b := decS q.den) (by rw [len_cps, len_cps, cs, decS_cps]; simp; omega) ρ M
  obtain ⟨SG, eg, sg, lg⟩ : ∃ SG : Str, (if q.num < 0 then SM else S0) = SG ∧ SG.cps.toList = sgL q.num ∧ (sgL q.num).length ≤ 1 := by
    unfold sgL
    by_cases c : q.num < 0
    · rw [if_pos c, if_pos c]; exact ⟨_, rfl, cm, by simp⟩
    · rw [if_neg c, if_neg c]; exact ⟨_, rfl, c0, by simp⟩
  obtain ⟨SB, eb, sb, lb⟩ : ∃ SB : Str, (if (q.den : Int) = 1 then S0 else SL ++ decS q.den) = SB ∧ SB.cps.toList = (if q.den = 1 then [] else 47 :: dg q.den) ∧ SB.cps.toList.length ≤ 401 := by
    by_cases c : (q.den : Int) = 1
    · have c' : q.den = 1 := by omega
      rw [if_pos c, if_pos c']; exact ⟨_, rfl, c0, by rw [c0]; simp⟩
    · have c' : ¬ q.den = 1 := by omega
      have e : (SL ++ decS q.den).cps.toList = 47 :: dg q.den := by rw [app_cps, cs, decS_cps]; rfl
      rw [if_neg c, if_neg c']; exact ⟨_, rfl, e, by rw [e]; simp; omega⟩
  have a2 := fun ρ => oAddS_ap (a := SG) (b := decS q.num.natAbs) (by rw [len_cps, len_cps, sg, decS_cps]; omega) ρ M
  have a3 := fun ρ => oAddS_ap (a := SG ++ decS q.num.natAbs) (b := SB) (by rw [len_cps, len_cps, app_cps, sg, decS_cps, List.length_append]; omega) ρ M
  have fin : SG ++ decS q.num.natAbs ++ SB = fT q := by
    refine str_eq ?_
    rw [app_cps, app_cps, sg, decS_cps, sb]
    unfold fT fL
    rfl
  rw [fin] at a3
  by_cases c1 : q.num < 0
  · have k1 : decide (q.num < 0) = true := decide_eq_true c1
    rw [if_pos c1] at eg
    subst eg
    by_cases c2 : (q.den : Int) = 1
    · have k2 : decide ((q.den : Int) = 1) = true := decide_eq_true c2
      rw [if_pos c2] at eb
      subst eb
      simp -implicitDefEqProofs only [den_fraction_text, sSeq_ap, sAsg_ap, sPar_ap, sRet_ap, sIf_ap, sExpr_ap, sNext_ap, bnd_ap, ret_ap, bindR_ok, thenR_ok, dVar_ap, varR_ok, seqR_nx, seqR_rt, asgR_ok, gNm_ap, gCn_ap, gcnR_ok, gNl_ap, gTp_fr, gTp_ap, gLs_ap, dCons_ap, dNil_ap, asB_ap, dOr_ap, dAnd_ap, dNot_ap, dAndV_ap, dOrV_ap, dNotV_ap, dIf_ap, oAdd_int, oSub_int, oLt_int, oLe_int, oGt_int, oGe_int, oNeg_int, oEq_int, oNe_int, oEq_fr, oNe_fr, oEq_bl, oNe_bl, oTup_ap, oLst_ap, oCall_ap, oAbs_ap, oMax_ap, oMin_ap, oToInt_b, oToInt_i, oLen_lst, oLen_scr, oLen_tup, oIx_lst, oIx_scr, oAdd_lst, oIx_tup, oIx_fr0, oIx_fr1, ixR_ok, oItL_ap, oItT_ap, sFor_ap, startD, List.map_cons, List.map_nil, List.length_cons, List.length_nil, List.replicate_succ, List.replicate_zero, List.cons_append, List.nil_append, List.append_nil, List.getElem?_cons_zero, List.getElem?_cons_succ, List.set_cons_zero, List.set_cons_succ, Nat.reduceAdd, Nat.reduceSub, Nat.sub_self, Nat.reduceLeDiff, List.all_cons, List.all_nil, np_fr, np_int, np_bl, np_tup, np_lst, np_str, np_non, Bool.and_self, Bool.and_true, if_true_, if_false_, zero_add', if_tt, if_ff, decide_true, decide_false, Nat.le_refl, oItS_lst, oItS_tup, oTupOf_lst, oTupOf_tup, oLstOf_lst, oLstOf_tup, oRv_lst, oRv_tup, oAdd_tup, dChain_ap, asTru_bl, asTru_tup, asTru_lst, oIsN_ap, oNotN_ap, asI_ap, oSl_tup, oSl_lst, oZip_tup, oZip_lst, oAddI_ap, oEqS_ap, oNeS_ap, oNe_nil, hM, hL, h0, k1, k2, ab, e1, a2, a3]
    · have k2 : decide ((q.den : Int) = 1) = false := decide_eq_false c2
      rw [if_neg c2] at eb
      subst eb
      simp -implicitDefEqProofs only [den_fraction_text, sSeq_ap, sAsg_ap, sPar_ap, sRet_ap, sIf_ap, sExpr_ap, sNext_ap, bnd_ap, ret_ap, bindR_ok, thenR_ok, dVar_ap, varR_ok, seqR_nx, seqR_rt, asgR_ok, gNm_ap, gCn_ap, gcnR_ok, gNl_ap, gTp_fr, gTp_ap, gLs_ap, dCons_ap, dNil_ap, asB_ap, dOr_ap, dAnd_ap, dNot_ap, dAndV_ap, dOrV_ap, dNotV_ap, dIf_ap, oAdd_int, oSub_int, oLt_int, oLe_int, oGt_int, oGe_int, oNeg_int, oEq_int, oNe_int, oEq_fr, oNe_fr, oEq_bl, oNe_bl, oTup_ap, oLst_ap, oCall_ap, oAbs_ap, oMax_ap, oMin_ap, oToInt_b, oToInt_i, oLen_lst, oLen_scr, oLen_tup, oIx_lst, oIx_scr, oAdd_lst, oIx_tup, oIx_fr0, oIx_fr1, ixR_ok, oItL_ap, oItT_ap, sFor_ap, startD, List.map_cons, List.map_nil, List.length_cons, List.length_nil, List.replicate_succ, List.replicate_zero, List.cons_append, List.nil_append, List.append_nil, List.getElem?_cons_zero, List.getElem?_cons_succ, List.set_cons_zero, List.set_cons_succ, Nat.reduceAdd, Nat.reduceSub, Nat.sub_self, Nat.reduceLeDiff, List.all_cons, List.all_nil, np_fr, np_int, np_bl, np_tup, np_lst, np_str, np_non, Bool.and_self, Bool.and_true, if_true_, if_false_, zero_add', if_tt, if_ff, decide_true, decide_false, Nat.le_refl, oItS_lst, oItS_tup, oTupOf_lst, oTupOf_tup, oLstOf_lst, oLstOf_tup, oRv_lst, oRv_tup, oAdd_tup, dChain_ap, asTru_bl, asTru_tup, asTru_lst, oIsN_ap, oNotN_ap, asI_ap, oSl_tup, oSl_lst, oZip_tup, oZip_lst, oAddI_ap, oEqS_ap, oNeS_ap, oNe_nil, hM, hL, h0, k1, k2, ab, e1, e2, a1, a2, a3, Bool.false_eq_true]
  · have k1 : decide (q.num < 0) = false := decide_eq_false c1
    rw [if_neg c1] at eg
    subst eg
    by_cases c2 : (q.den : Int) = 1
    · have k2 : decide ((q.den : Int) = 1) = true := decide_eq_true c2
      rw [if_pos c2] at eb
      subst eb
      simp -implicitDefEqProofs only [den_fraction_text, sSeq_ap, sAsg_ap, sPar_ap, sRet_ap, sIf_ap, sExpr_ap, sNext_ap, bnd_ap, ret_ap, bindR_ok, thenR_ok, dVar_ap, varR_ok, seqR_nx, seqR_rt, asgR_ok, gNm_ap, gCn_ap, gcnR_ok, gNl_ap, gTp_fr, gTp_ap, gLs_ap, dCons_ap, dNil_ap, asB_ap, dOr_ap, dAnd_ap, dNot_ap, dAndV_ap, dOrV_ap, dNotV_ap, dIf_ap, oAdd_int, oSub_int, oLt_int, oLe_int, oGt_int, oGe_int, oNeg_int, oEq_int, oNe_int, oEq_fr, oNe_fr, oEq_bl, oNe_bl, oTup_ap, oLst_ap, oCall_ap, oAbs_ap, oMax_ap, oMin_ap, oToInt_b, oToInt_i, oLen_lst, oLen_scr, oLen_tup, oIx_lst, oIx_scr, oAdd_lst, oIx_tup, oIx_fr0, oIx_fr1, ixR_ok, oItL_ap, oItT_ap, sFor_ap, startD, List.map_cons, List.map_nil, List.length_cons, List.length_nil, List.replicate_succ, List.replicate_zero, List.cons_append, List.nil_append, List.append_nil, List.getElem?_cons_zero, List.getElem?_cons_succ, List.set_cons_zero, List.set_cons_succ, Nat.reduceAdd, Nat.reduceSub, Nat.sub_self, Nat.reduceLeDiff, List.all_cons, List.all_nil, np_fr, np_int, np_bl, np_tup, np_lst, np_str, np_non, Bool.and_self, Bool.and_true, if_true_, if_false_, zero_add', if_tt, if_ff, decide_true, decide_false, Nat.le_refl, oItS_lst, oItS_tup, oTupOf_lst, oTupOf_tup, oLstOf_lst, oLstOf_tup, oRv_lst, oRv_tup, oAdd_tup, dChain_ap, asTru_bl, asTru_tup, asTru_lst, oIsN_ap, oNotN_ap, asI_ap, oSl_tup, oSl_lst, oZip_tup, oZip_lst, oAddI_ap, oEqS_ap, oNeS_ap, oNe_nil, hM, hL, h0, k1, k2, ab, e1, a2, a3, Bool.false_eq_true]
    · have k2 : decide ((q.den : Int) = 1) = false := decide_eq_false c2
      rw [if_neg c2] at eb
      subst eb
      simp -implicitDefEqProofs only [den_fraction_text, sSeq_ap, sAsg_ap, sPar_ap, sRet_ap, sIf_ap, sExpr_ap, sNext_ap, bnd_ap, ret_ap, bindR_ok, thenR_ok, dVar_ap, varR_ok, seqR_nx, seqR_rt, asgR_ok, gNm_ap, gCn_ap, gcnR_ok, gNl_ap, gTp_fr, gTp_ap, gLs_ap, dCons_ap, dNil_ap, asB_ap, dOr_ap, dAnd_ap, dNot_ap, dAndV_ap, dOrV_ap, dNotV_ap, dIf_ap, oAdd_int, oSub_int, oLt_int, oLe_int, oGt_int, oGe_int, oNeg_int, oEq_int, oNe_int, oEq_fr, oNe_fr, oEq_bl, oNe_bl, oTup_ap, oLst_ap, oCall_ap, oAbs_ap, oMax_ap, oMin_ap, oToInt_b, oToInt_i, oLen_lst, oLen_scr, oLen_tup, oIx_lst, oIx_scr, oAdd_lst, oIx_tup, oIx_fr0, oIx_fr1, ixR_ok, oItL_ap, oItT_ap, sFor_ap, startD, List.map_cons, List.map_nil, List.length_cons, List.length_nil, List.replicate_succ, List.replicate_zero, List.cons_append, List.nil_append, List.append_nil, List.getElem?_cons_zero, List.getElem?_cons_succ, List.set_cons_zero, List.set_cons_succ, Nat.reduceAdd, Nat.reduceSub, Nat.sub_self, Nat.reduceLeDiff, List.all_cons, List.all_nil, np_fr, np_int, np_bl, np_tup, np_lst, np_str, np_non, Bool.and_self, Bool.and_true, if_true_, if_false_, zero_add', if_tt, if_ff, decide_true, decide_false, Nat.le_refl, oItS_lst, oItS_tup, oTupOf_lst, oTupOf_tup, oLstOf_lst, oLstOf_tup, oRv_lst, oRv_tup, oAdd_tup, dChain_ap, asTru_bl, asTru_tup, asTru_lst, oIsN_ap, oNotN_ap, asI_ap, oSl_tup, oSl_lst, oZip_tup, oZip_lst, oAddI_ap, oEqS_ap, oNeS_ap, oNe_nil, hM, hL, h0, k1, k2, ab, e1, e2, a1, a2, a3, Bool.false_eq_true]
theorem oStrI_ap {i : Int} (h : i.natAbs < 10 ^ 400) (ρ : Env) (M : Mem) : oStrI [.int i] ρ M = some (.ok (.str ⟨(sgL i ++ dg i.natAbs).toArray⟩), M) := by
  have lg : i.natAbs.log2 < 1920 := by
    have := nm_nat (i := (i.natAbs : Int)) rfl h
    rwa [Int.natAbs_natCast] at this
  have ts := toS_int i
  unfold oStrI
  show (if i.natAbs.log2 < 1920 then _ else _ : Ev D) ρ M = _
  rw [if_pos lg, ts]; rfl
theorem written_eq {q : Rat} (h : SzT q) (M : Mem) : F__law_written [frQ q] M = some (.ok (.str (fT q)), M) := by
  refine runF_pure ?_ rfl
  have l1 := dg_400 h.n
  have l2 := dg_400 h.d
  have s1 := fun ρ => oStrI_ap h.n ρ M
  have s2 := fun ρ => oStrI_ap (i := (q.den : Int)) (by rw [Int.natAbs_natCast]; exact h.d) ρ M
  have sz : sgL (q.den : Int) = [] := by unfold sgL; rw [if_neg (by omega)]
  rw [sz, Int.natAbs_natCast, List.nil_append] at s2
  have cs := cps_s
  have c0 := cps_0
  generalize hL : Str.ofString "/" = SL at cs
  generalize h0 : Str.ofString "" = S0 at c0
  have ls : (sgL q.num).length ≤ 1 := by unfold sgL; split <;> simp
  have a1 := fun ρ => oAddS_ap (a := SL) (b := ⟨(dg q.den).toArray⟩) (by rw [len_cps, len_cps, cs]; simp; omega) ρ M
  have x0 : ∀ x y : D, atI [x, y] 0 = some x := fun _ _ => rfl
  have x1 : ∀ x y : D, atI [x, y] 1 = some y := fun _ _ => rfl
  by_cases c2 : (q.den : Int) = 1
  · have k2 : decide ((q.den : Int) = 1) = true := decide_eq_true c2
    have c' : q.den = 1 := by omega
    have a3 := fun ρ => oAddS_ap (a := ⟨(sgL q.num ++ dg q.num.natAbs).toArray⟩) (b := S0) (by rw [len_cps, len_cps, c0]; simp; omega) ρ M
    have fin : (⟨(sgL q.num ++ dg q.num.natAbs).toArray⟩ : Str) ++ S0 = fT q := by
      refine str_eq ?_
      rw [app_cps, c0]
      unfold fT fL
      rw [if_pos c']
    rw [fin] at a3
    simp -implicitDefEqProofs only [den__law_written, sSeq_ap, sAsg_ap, sPar_ap, sRet_ap, sIf_ap, sExpr_ap, sNext_ap, bnd_ap, ret_ap, bindR_ok, thenR_ok, dVar_ap, varR_ok, seqR_nx, seqR_rt, asgR_ok, gNm_ap, gCn_ap, gcnR_ok, gNl_ap, gTp_fr, gTp_ap, gLs_ap, dCons_ap, dNil_ap, asB_ap, dOr_ap, dAnd_ap, dNot_ap, dAndV_ap, dOrV_ap, dNotV_ap, dIf_ap, oAdd_int, oSub_int, oLt_int, oLe_int, oGt_int, oGe_int, oNeg_int, oEq_int, oNe_int, oEq_fr, oNe_fr, oEq_bl, oNe_bl, oTup_ap, oLst_ap, oCall_ap, oAbs_ap, oMax_ap, oMin_ap, oToInt_b, oToInt_i, oLen_lst, oLen_scr, oLen_tup, oIx_lst, oIx_scr, oAdd_lst, oIx_tup, oIx_fr0, oIx_fr1, ixR_ok, oItL_ap, oItT_ap, sFor_ap, startD, List.map_cons, List.map_nil, List.length_cons, List.length_nil, List.replicate_succ, List.replicate_zero, List.cons_append, List.nil_append, List.append_nil, List.getElem?_cons_zero, List.getElem?_cons_succ, List.set_cons_zero, List.set_cons_succ, Nat.reduceAdd, Nat.reduceSub, Nat.sub_self, Nat.reduceLeDiff, List.all_cons, List.all_nil, np_fr, np_int, np_bl, np_tup, np_lst, np_str, np_non, Bool.and_self, Bool.and_true, if_true_, if_false_, zero_add', if_tt, if_ff, decide_true, decide_false, Nat.le_refl, oItS_lst, oItS_tup, oTupOf_lst, oTupOf_tup, oLstOf_lst, oLstOf_tup, oRv_lst, oRv_tup, oAdd_tup, dChain_ap, asTru_bl, asTru_tup, asTru_lst, oIsN_ap, oNotN_ap, asI_ap, oSl_tup, oSl_lst, oZip_tup, oZip_lst, oAddI_ap, oEqS_ap, oNeS_ap, oNe_nil, hL, h0, s1, s2, a1, k2, x0, x1, a3]
  · have k2 : decide ((q.den : Int) = 1) = false := decide_eq_false c2
    have c' : ¬ q.den = 1 := by omega
    have a3 := fun ρ => oAddS_ap (a := ⟨(sgL q.num ++ dg q.num.natAbs).toArray⟩) (b := SL ++ ⟨(dg q.den).toArray⟩) (by rw [len_cps, len_cps, app_cps, cs]; simp; omega) ρ M
    have fin : (⟨(sgL q.num ++ dg q.num.natAbs).toArray⟩ : Str) ++ (SL ++ ⟨(dg q.den).toArray⟩) = fT q := by
      refine str_eq ?_
      rw [app_cps, app_cps, cs]
      unfold fT fL
      rw [if_neg c']; rfl
    rw [fin] at a3
    simp -implicitDefEqProofs only [den__law_written, sSeq_ap, sAsg_ap, sPar_ap, sRet_ap, sIf_ap, sExpr_ap, sNext_ap, bnd_ap, ret_ap, bindR_ok, thenR_ok, dVar_ap, varR_ok, seqR_nx, seqR_rt, asgR_ok, gNm_ap, gCn_ap, gcnR_ok, gNl_ap, gTp_fr, gTp_ap, gLs_ap, dCons_ap, dNil_ap, asB_ap, dOr_ap, dAnd_ap, dNot_ap, dAndV_ap, dOrV_ap, dNotV_ap, dIf_ap, oAdd_int, oSub_int, oLt_int, oLe_int, oGt_int, oGe_int, oNeg_int, oEq_int, oNe_int, oEq_fr, oNe_fr, oEq_bl, oNe_bl, oTup_ap, oLst_ap, oCall_ap, oAbs_ap, oMax_ap, oMin_ap, oToInt_b, oToInt_i, oLen_lst, oLen_scr, oLen_tup, oIx_lst, oIx_scr, oAdd_lst, oIx_tup, oIx_fr0, oIx_fr1, ixR_ok, oItL_ap, oItT_ap, sFor_ap, startD, List.map_cons, List.map_nil, List.length_cons, List.length_nil, List.replicate_succ, List.replicate_zero, List.cons_append, List.nil_append, List.append_nil, List.getElem?_cons_zero, List.getElem?_cons_succ, List.set_cons_zero, List.set_cons_succ, Nat.reduceAdd, Nat.reduceSub, Nat.sub_self, Nat.reduceLeDiff, List.all_cons, List.all_nil, np_fr, np_int, np_bl, np_tup, np_lst, np_str, np_non, Bool.and_self, Bool.and_true, if_true_, if_false_, zero_add', if_tt, if_ff, decide_true, decide_false, Nat.le_refl, oItS_lst, oItS_tup, oTupOf_lst, oTupOf_tup, oLstOf_lst, oLstOf_tup, oRv_lst, oRv_tup, oAdd_tup, dChain_ap, asTru_bl, asTru_tup, asTru_lst, oIsN_ap, oNotN_ap, asI_ap, oSl_tup, oSl_lst, oZip_tup, oZip_lst, oAddI_ap, oEqS_ap, oNeS_ap, oNe_nil, hL, h0, s1, s2, a1, k2, x0, x1, a3, Bool.false_eq_true]
/-! a fraction read -/
theorem hdDS (n : Nat) : ∃ c r, (decS n).cps.toList = c :: r ∧ 48 ≤ c ∧ c ≤ 57 ∧ (n ≠ 0 → c ≠ 48) ∧ (n = 0 → decS n = ⟨#[48]⟩) := by
  obtain ⟨c, r, e, h1, h2⟩ := dg_head n
  have ha := dg_all n c (by rw [e]; exact List.mem_cons_self ..)
  refine ⟨c, r, by rw [decS_cps, e], ha.1, ha.2, fun h => by have := h1 h; omega, fun h => ?_⟩
  obtain ⟨a, b⟩ := h2 h
  unfold decS
  rw [e, a, b]
theorem str0 : Str.ofString "0" = ⟨#[48]⟩ := str_eq (by decide +kernel)
theorem figs_D : C_FIGURES = .str ⟨#[48, 49, 50, 51, 52, 53, 54, 55, 56, 57]⟩ := by
  unfold C_FIGURES
  exact congrArg D.str (str_eq (by decide +kernel))
theorem most_D : C_MOST_FIGURES = .int 400 := rfl
theorem isnum_eq {n : Nat} (h : n < 10 ^ 400) (M : Mem) : F_is_number [.str (decS n)] M = some (.ok (.bl true), M) := by
  refine runF_pure ?_ rfl
  have dl := dg_400 h
  have d1 : 1 ≤ (dg n).length := by
    have := dg_ne n
    cases hd : dg n with
    | nil => exact absurd hd this
    | cons a b => simp
  have ll := decS_len n
  have le : ∀ ρ M, oLenS [.str (decS n)] ρ M = some (.ok (.int ((dg n).length : Int)), M) := fun ρ M => by
    unfold oLenS
    show (if (decS n).length ≤ tLim then _ else _ : Ev D) ρ M = _
    rw [if_pos (by rw [ll]; show _ ≤ 16777216; omega), ll]; rfl
  have k1 : decide ((1 : Int) ≤ ((dg n).length : Int)) = true := decide_eq_true (by omega)
  have k2 : decide (((dg n).length : Int) ≤ 400) = true := decide_eq_true (by omega)
  obtain ⟨c, r, ec, c0, c1, cn, cz⟩ := hdDS n
  have ix : ∀ ρ M, oIxS (.str (decS n)) (.int 0) ρ M = some (.ok (.str ⟨#[c]⟩), M) := fun ρ M => by
    unfold oIxS
    show (match atI (decS n).cps.toList 0 with | some c => if (decS n).length ≤ tLim then ret (.str ⟨#[c]⟩) else stk | none => stk : Ev D) ρ M = _
    have a0 : atI (c :: r) 0 = some c := by rw [show (0 : Int) = ((0 : Nat) : Int) from rfl, atI_nat']; rfl
    rw [ec, a0]
    show (if (decS n).length ≤ tLim then _ else _ : Ev D) ρ M = _
    rw [if_pos (by rw [ll]; show _ ≤ 16777216; omega)]; rfl
  have itc : ∀ ρ M, oItC (.str (decS n)) ρ M = some (.ok ((dg n).map fun c => D.str ⟨#[c]⟩), M) := fun ρ M => by
    rw [← decS_cps]; rfl
  have lc := fun (ρ : Env) (hρ : wipeD ρ [1] = [some (.str (decS n)), none]) (M : Mem) => oLc_pf (ρ := ρ) (M := M) (b := gNm 1) (tt := ret true) (te := bnd (dVar 1) fun d => bnd (ret C_FIGURES) fun e => oInS d e) (vs := [1]) (p := fun _ => true) (g := fun _ => D.bl true) (ds := (dg n).map fun c => D.str ⟨#[c]⟩) (fun d hd => by
    obtain ⟨x, hx, rfl⟩ := List.mem_map.mp hd
    have hx' := dg_all n x hx
    refine ⟨[some (.str (decS n)), some (.str ⟨#[x]⟩)], by rw [hρ]; rfl, fun _ => rfl, fun _ => ⟨rfl, fun M => ?_⟩⟩
    have hi : ∀ ρ M, oInS (.str ⟨#[x]⟩) (.str ⟨#[48, 49, 50, 51, 52, 53, 54, 55, 56, 57]⟩) ρ M = some (.ok (.bl true), M) := fun ρ M => by
      have : decide (x ∈ ([48, 49, 50, 51, 52, 53, 54, 55, 56, 57] : List Nat)) = true := decide_eq_true (by simp; omega)
      show some (Res.ok (D.bl (decide (x ∈ ([48, 49, 50, 51, 52, 53, 54, 55, 56, 57] : List Nat)))), M) = _
      rw [this]
    simp -implicitDefEqProofs only [sSeq_ap, sAsg_ap, sPar_ap, sRet_ap, sIf_ap, sExpr_ap, sNext_ap, bnd_ap, ret_ap, bindR_ok, thenR_ok, dVar_ap, varR_ok, seqR_nx, seqR_rt, asgR_ok, gNm_ap, gCn_ap, gcnR_ok, gNl_ap, gTp_fr, gTp_ap, gLs_ap, dCons_ap, dNil_ap, asB_ap, dOr_ap, dAnd_ap, dNot_ap, dAndV_ap, dOrV_ap, dNotV_ap, dIf_ap, oAdd_int, oSub_int, oLt_int, oLe_int, oGt_int, oGe_int, oNeg_int, oEq_int, oNe_int, oEq_fr, oNe_fr, oEq_bl, oNe_bl, oTup_ap, oLst_ap, oCall_ap, oAbs_ap, oMax_ap, oMin_ap, oToInt_b, oToInt_i, oLen_lst, oLen_scr, oLen_tup, oIx_lst, oIx_scr, oAdd_lst, oIx_tup, oIx_fr0, oIx_fr1, ixR_ok, oItL_ap, oItT_ap, sFor_ap, startD, List.map_cons, List.map_nil, List.length_cons, List.length_nil, List.replicate_succ, List.replicate_zero, List.cons_append, List.nil_append, List.append_nil, List.getElem?_cons_zero, List.getElem?_cons_succ, List.set_cons_zero, List.set_cons_succ, Nat.reduceAdd, Nat.reduceSub, Nat.sub_self, Nat.reduceLeDiff, List.all_cons, List.all_nil, np_fr, np_int, np_bl, np_tup, np_lst, np_str, np_non, Bool.and_self, Bool.and_true, if_true_, if_false_, zero_add', if_tt, if_ff, decide_true, decide_false, Nat.le_refl, oItS_lst, oItS_tup, oTupOf_lst, oTupOf_tup, oLstOf_lst, oLstOf_tup, oRv_lst, oRv_tup, oAdd_tup, dChain_ap, asTru_bl, asTru_tup, asTru_lst, oIsN_ap, oNotN_ap, asI_ap, oSl_tup, oSl_lst, oZip_tup, oZip_lst, oAddI_ap, oEqS_ap, oNeS_ap, oNe_nil, figs_D, hi]) (by rw [List.length_map]; omega)
  have lc' := lc [some (.str (decS n)), none] rfl
  have all := fun ρ M => oAll_true (dg n) ρ M
  have fm : ((((dg n).map fun c => D.str ⟨#[c]⟩).filter fun _ => true).map fun _ => D.bl true) = (dg n).map fun _ => D.bl true := by
    rw [List.filter_eq_self.mpr (fun _ _ => rfl), List.map_map]; rfl
  rw [fm] at lc'
  have s0 := str0
  generalize hZ : Str.ofString "0" = Z0 at s0
  generalize (dg n).map (fun c => D.str ⟨#[c]⟩) = DG at *
  generalize (dg n).map (fun _ => D.bl true) = TG at *
  by_cases z : n = 0
  · have q1 : decide ((⟨#[c]⟩ : Str) = Z0) = true := decide_eq_true (by
      have h1 := cz z
      have h2 : (decS n).cps.toList = [48] := by rw [h1]
      rw [ec] at h2
      injection h2 with h2
      rw [s0, h2])
    have q2 : decide (decS n = Z0) = true := decide_eq_true (by rw [s0, cz z])
    simp -implicitDefEqProofs only [den_is_number, sSeq_ap, sAsg_ap, sPar_ap, sRet_ap, sIf_ap, sExpr_ap, sNext_ap, bnd_ap, ret_ap, bindR_ok, thenR_ok, dVar_ap, varR_ok, seqR_nx, seqR_rt, asgR_ok, gNm_ap, gCn_ap, gcnR_ok, gNl_ap, gTp_fr, gTp_ap, gLs_ap, dCons_ap, dNil_ap, asB_ap, dOr_ap, dAnd_ap, dNot_ap, dAndV_ap, dOrV_ap, dNotV_ap, dIf_ap, oAdd_int, oSub_int, oLt_int, oLe_int, oGt_int, oGe_int, oNeg_int, oEq_int, oNe_int, oEq_fr, oNe_fr, oEq_bl, oNe_bl, oTup_ap, oLst_ap, oCall_ap, oAbs_ap, oMax_ap, oMin_ap, oToInt_b, oToInt_i, oLen_lst, oLen_scr, oLen_tup, oIx_lst, oIx_scr, oAdd_lst, oIx_tup, oIx_fr0, oIx_fr1, ixR_ok, oItL_ap, oItT_ap, sFor_ap, startD, List.map_cons, List.map_nil, List.length_cons, List.length_nil, List.replicate_succ, List.replicate_zero, List.cons_append, List.nil_append, List.append_nil, List.getElem?_cons_zero, List.getElem?_cons_succ, List.set_cons_zero, List.set_cons_succ, Nat.reduceAdd, Nat.reduceSub, Nat.sub_self, Nat.reduceLeDiff, List.all_cons, List.all_nil, np_fr, np_int, np_bl, np_tup, np_lst, np_str, np_non, Bool.and_self, Bool.and_true, if_true_, if_false_, zero_add', if_tt, if_ff, decide_true, decide_false, Nat.le_refl, oItS_lst, oItS_tup, oTupOf_lst, oTupOf_tup, oLstOf_lst, oLstOf_tup, oRv_lst, oRv_tup, oAdd_tup, dChain_ap, asTru_bl, asTru_tup, asTru_lst, oIsN_ap, oNotN_ap, asI_ap, oSl_tup, oSl_lst, oZip_tup, oZip_lst, oAddI_ap, oEqS_ap, oNeS_ap, oNe_nil, hZ, le, most_D, k1, k2, ix, q1, q2, itc, lc', all, Bool.not_true, Bool.false_eq_true]
  · have q1 : decide ((⟨#[c]⟩ : Str) = Z0) = false := decide_eq_false (fun e => by
      rw [s0] at e
      have e2 := congrArg (fun x : Str => x.cps.toList) e
      have := cn z
      simp at e2
      exact this e2)
    simp -implicitDefEqProofs only [den_is_number, sSeq_ap, sAsg_ap, sPar_ap, sRet_ap, sIf_ap, sExpr_ap, sNext_ap, bnd_ap, ret_ap, bindR_ok, thenR_ok, dVar_ap, varR_ok, seqR_nx, seqR_rt, asgR_ok, gNm_ap, gCn_ap, gcnR_ok, gNl_ap, gTp_fr, gTp_ap, gLs_ap, dCons_ap, dNil_ap, asB_ap, dOr_ap, dAnd_ap, dNot_ap, dAndV_ap, dOrV_ap, dNotV_ap, dIf_ap, oAdd_int, oSub_int, oLt_int, oLe_int, oGt_int, oGe_int, oNeg_int, oEq_int, oNe_int, oEq_fr, oNe_fr, oEq_bl, oNe_bl, oTup_ap, oLst_ap, oCall_ap, oAbs_ap, oMax_ap, oMin_ap, oToInt_b, oToInt_i, oLen_lst, oLen_scr, oLen_tup, oIx_lst, oIx_scr, oAdd_lst, oIx_tup, oIx_fr0, oIx_fr1, ixR_ok, oItL_ap, oItT_ap, sFor_ap, startD, List.map_cons, List.map_nil, List.length_cons, List.length_nil, List.replicate_succ, List.replicate_zero, List.cons_append, List.nil_append, List.append_nil, List.getElem?_cons_zero, List.getElem?_cons_succ, List.set_cons_zero, List.set_cons_succ, Nat.reduceAdd, Nat.reduceSub, Nat.sub_self, Nat.reduceLeDiff, List.all_cons, List.all_nil, np_fr, np_int, np_bl, np_tup, np_lst, np_str, np_non, Bool.and_self, Bool.and_true, if_true_, if_false_, zero_add', if_tt, if_ff, decide_true, decide_false, Nat.le_refl, oItS_lst, oItS_tup, oTupOf_lst, oTupOf_tup, oLstOf_lst, oLstOf_tup, oRv_lst, oRv_tup, oAdd_tup, dChain_ap, asTru_bl, asTru_tup, asTru_lst, oIsN_ap, oNotN_ap, asI_ap, oSl_tup, oSl_lst, oZip_tup, oZip_lst, oAddI_ap, oEqS_ap, oNeS_ap, oNe_nil, hZ, le, most_D, k1, k2, ix, q1, itc, lc', all, Bool.not_true, Bool.false_eq_true]
def tT (q : Rat) : Str := ⟨(sgL q.num ++ dg q.num.natAbs).toArray⟩
theorem tT_cps (q : Rat) : (tT q).cps.toList = sgL q.num ++ dg q.num.natAbs := by simp [tT]
theorem fT_cps (q : Rat) : (fT q).cps.toList = sgL q.num ++ dg q.num.natAbs ++ (if q.den = 1 then [] else 47 :: dg q.den) := by simp [fT, fL]
theorem no47 (q : Rat) : 47 ∉ sgL q.num ++ dg q.num.natAbs := by
  intro h
  rcases List.mem_append.mp h with h | h
  · unfold sgL at h
    split at h
    · simp at h
    · simp at h
  · have := dg_all _ _ h; omega
theorem tT_len {q : Rat} (h : SzT q) : (tT q).length ≤ 401 := by
  have := dg_400 h.n
  rw [len_cps, tT_cps, List.length_append]
  have : (sgL q.num).length ≤ 1 := by unfold sgL; split <;> simp
  omega
theorem fT_len {q : Rat} (h : SzT q) : (fT q).length ≤ 802 := by
  have h1 := dg_400 h.n
  have h2 := dg_400 h.d
  rw [len_cps, fT_cps, List.length_append, List.length_append]
  have : (sgL q.num).length ≤ 1 := by unfold sgL; split <;> simp
  split
  · simp; omega
  · simp; omega
theorem rmp_eq (q : Rat) : Txt.removeprefix (tT q) (Str.ofString "-") = decS q.num.natAbs := by
  have cm := cps_m
  generalize Str.ofString "-" = SM at cm
  have lm : SM.length = 1 := by rw [len_cps, cm]; rfl
  rw [StrLaws.removeprefix_eq, StrLaws.subAt_eq, lm, cm, List.drop_zero, len_cps, tT_cps]
  unfold sgL
  by_cases c : q.num < 0
  · rw [if_pos c]
    rw [if_pos (by simp)]
    refine str_eq ?_
    rw [decS_cps]
    simp
  · rw [if_neg c, if_neg]
    · refine str_eq ?_
      rw [decS_cps, tT_cps]
      unfold sgL
      rw [if_neg c]; rfl
    · obtain ⟨x, r, e, h1, h2⟩ := dg_head q.num.natAbs
      have ha := dg_all q.num.natAbs x (by rw [e]; exact List.mem_cons_self ..)
      rw [e]
      simp
      omega
theorem int_tT {q : Rat} (h : SzT q) (ρ : Env) (M : Mem) : oIntS [.str (tT q)] ρ M = some (.ok (.int q.num), M) := by
  have tl := tT_len h
  have it : intText? (tT q) = some q.num := by
    by_cases c : q.num < 0
    · have e : (tT q).cps.toList = 45 :: dg q.num.natAbs := by rw [tT_cps]; unfold sgL; rw [if_pos c]; rfl
      rw [intText_neg e (dg_all _) (dg_ne _) (by omega), dg_val]
      congr 1
      omega
    · have e : (tT q).cps.toList = dg q.num.natAbs := by rw [tT_cps]; unfold sgL; rw [if_neg c]; rfl
      rw [intText_digits (by rw [e]; exact dg_all _) (by rw [e]; exact dg_ne _) (by omega), e, dg_val]
      congr 1
      omega
  unfold oIntS
  show (match intText? (tT q) with | some n => if (tT q).length ≤ 640 then ret (.int n) else stk | none => stk : Ev D) ρ M = _
  rw [it]
  show (if (tT q).length ≤ 640 then _ else _ : Ev D) ρ M = _
  rw [if_pos (by omega)]; rfl
theorem int_dS {n : Nat} (h : n < 10 ^ 400) (ρ : Env) (M : Mem) : oIntS [.str (decS n)] ρ M = some (.ok (.int (n : Int)), M) := by
  have dl := dg_400 h
  have ll := decS_len n
  have it : intText? (decS n) = some (n : Int) := by
    rw [intText_digits (by rw [decS_cps]; exact dg_all _) (by rw [decS_cps]; exact dg_ne _) (by omega), decS_cps, dg_val]
  unfold oIntS
  show (match intText? (decS n) with | some k => if (decS n).length ≤ 640 then ret (.int k) else stk | none => stk : Ev D) ρ M = _
  rw [it]
  show (if (decS n).length ≤ 640 then _ else _ : Ev D) ρ M = _
  rw [if_pos (by omega)]; rfl
theorem asTru_S {z : Str} (h : z.length ≤ 16777216) (ρ : Env) (M : Mem) : asTruS (.str z) ρ M = some (.ok (z.length != 0), M) := by
  unfold asTruS
  show (if z.length ≤ tLim then _ else _ : Ev Bool) ρ M = _
  rw [if_pos h]; rfl
theorem oPt_ap {z b x y w : Str} (hb : b.cps.toList = [47]) (h : z.length ≤ 16777216) (e : Txt.partition z b = (x, y, w)) (ρ : Env) (M : Mem) : oPt z (.str b) ρ M = some (.ok (.tup [.str x, .str y, .str w]), M) := by
  have l1 : b.length = 1 := by rw [len_cps, hb]; rfl
  unfold oPt
  show (if (b.length == 0) = false ∧ z.length ≤ tLim then _ else _ : Ev D) ρ M = _
  rw [if_pos ⟨by rw [l1]; rfl, h⟩, e]; rfl
theorem frin_eq {q : Rat} (h : SzT q) (M : Mem) : F_fraction_in [.str (fT q)] M = some (.ok (frQ q), M) := by
  refine runF_pure ?_ rfl
  have fl := fT_len h
  have tl := tT_len h
  have rm := rmp_eq q
  have rmo : ∀ ρ M, oRmp (tT q) [.str (Str.ofString "-")] ρ M = some (.ok (.str (decS q.num.natAbs)), M) := fun ρ M => by
    unfold oRmp
    show (if (tT q).length ≤ tLim then _ else _ : Ev D) ρ M = _
    rw [if_pos (by show _ ≤ 16777216; omega), rm]; rfl
  have i1 := int_tT h
  have i2 := int_dS h.d
  have n1 := isnum_eq h.n M
  have n2 := isnum_eq h.d M
  have ff := isfr_fr q M
  have ft := ftext_eq h M
  have dq : decide (fT q = fT q) = true := decide_eq_true rfl
  have oks : ∀ (z : Str) ρ M, okStr (.str z) ρ M = some (.ok z, M) := fun _ _ _ => rfl
  have cs := cps_s
  have tp : ∀ (a b c : D) k ρ, gTp 3 k (.tup [a, b, c]) ρ = k [a, b, c] ρ := fun _ _ _ _ _ => rfl
  generalize hM : Str.ofString "-" = SM at rm rmo
  generalize hL : Str.ofString "/" = SL at cs
  by_cases c : q.den = 1
  · have ef : fT q = tT q := by
      refine str_eq ?_
      rw [fT_cps, tT_cps, if_pos c, List.append_nil]
    have pt := TL.partition_none (y := SL) (s := 47) (S := []) cs (a := fT q) (by rw [ef]; show 47 ∉ (tT q).cps.toList; rw [tT_cps]; exact no47 q)
    have po := fun ρ => oPt_ap cs (by omega) pt ρ M
    have ae : ∀ ρ M, asTruS (.str Str.empty) ρ M = some (.ok false, M) := fun _ _ => rfl
    have fq : D.tup [.int q.num, .int 1] = frQ q := by unfold frQ; rw [c]; rfl
    rw [ef] at po dq ft ⊢
    simp -implicitDefEqProofs only [den_fraction_in, sSeq_ap, sAsg_ap, sPar_ap, sRet_ap, sIf_ap, sExpr_ap, sNext_ap, bnd_ap, ret_ap, bindR_ok, thenR_ok, dVar_ap, varR_ok, seqR_nx, seqR_rt, asgR_ok, gNm_ap, gCn_ap, gcnR_ok, gNl_ap, gTp_fr, gTp_ap, gLs_ap, dCons_ap, dNil_ap, asB_ap, dOr_ap, dAnd_ap, dNot_ap, dAndV_ap, dOrV_ap, dNotV_ap, dIf_ap, oAdd_int, oSub_int, oLt_int, oLe_int, oGt_int, oGe_int, oNeg_int, oEq_int, oNe_int, oEq_fr, oNe_fr, oEq_bl, oNe_bl, oTup_ap, oLst_ap, oCall_ap, oAbs_ap, oMax_ap, oMin_ap, oToInt_b, oToInt_i, oLen_lst, oLen_scr, oLen_tup, oIx_lst, oIx_scr, oAdd_lst, oIx_tup, oIx_fr0, oIx_fr1, ixR_ok, oItL_ap, oItT_ap, sFor_ap, startD, List.map_cons, List.map_nil, List.length_cons, List.length_nil, List.replicate_succ, List.replicate_zero, List.cons_append, List.nil_append, List.append_nil, List.getElem?_cons_zero, List.getElem?_cons_succ, List.set_cons_zero, List.set_cons_succ, Nat.reduceAdd, Nat.reduceSub, Nat.sub_self, Nat.reduceLeDiff, List.all_cons, List.all_nil, np_fr, np_int, np_bl, np_tup, np_lst, np_str, np_non, Bool.and_self, Bool.and_true, if_true_, if_false_, zero_add', if_tt, if_ff, decide_true, decide_false, Nat.le_refl, oItS_lst, oItS_tup, oTupOf_lst, oTupOf_tup, oLstOf_lst, oLstOf_tup, oRv_lst, oRv_tup, oAdd_tup, dChain_ap, asTru_bl, asTru_tup, asTru_lst, oIsN_ap, oNotN_ap, asI_ap, oSl_tup, oSl_lst, oZip_tup, oZip_lst, oAddI_ap, oEqS_ap, oNeS_ap, oNe_nil, hM, hL, oks, po, tp, rmo, n1, ae, i1, fq, ff, ft, dq, Bool.not_true, Bool.false_eq_true]
  · have ef : fT q = tT q ++ SL ++ decS q.den := by
      refine str_eq ?_
      rw [fT_cps, app_cps, app_cps, tT_cps, if_neg c, cs, decS_cps]
      simp
    have pt := TL.partition_app (y := SL) (s := 47) (S := []) cs (a := tT q) (b := decS q.den) (by show 47 ∉ (tT q).cps.toList; rw [tT_cps]; exact no47 q)
    rw [← ef] at pt
    have po := fun ρ => oPt_ap cs (by omega) pt ρ M
    have l1 : SL.length = 1 := by rw [len_cps, cs]; rfl
    have ae : ∀ ρ M, asTruS (.str SL) ρ M = some (.ok true, M) := fun ρ M => by rw [asTru_S (by omega), l1]; rfl
    have fq : D.tup [.int q.num, .int (q.den : Int)] = frQ q := rfl
    simp -implicitDefEqProofs only [den_fraction_in, sSeq_ap, sAsg_ap, sPar_ap, sRet_ap, sIf_ap, sExpr_ap, sNext_ap, bnd_ap, ret_ap, bindR_ok, thenR_ok, dVar_ap, varR_ok, seqR_nx, seqR_rt, asgR_ok, gNm_ap, gCn_ap, gcnR_ok, gNl_ap, gTp_fr, gTp_ap, gLs_ap, dCons_ap, dNil_ap, asB_ap, dOr_ap, dAnd_ap, dNot_ap, dAndV_ap, dOrV_ap, dNotV_ap, dIf_ap, oAdd_int, oSub_int, oLt_int, oLe_int, oGt_int, oGe_int, oNeg_int, oEq_int, oNe_int, oEq_fr, oNe_fr, oEq_bl, oNe_bl, oTup_ap, oLst_ap, oCall_ap, oAbs_ap, oMax_ap, oMin_ap, oToInt_b, oToInt_i, oLen_lst, oLen_scr, oLen_tup, oIx_lst, oIx_scr, oAdd_lst, oIx_tup, oIx_fr0, oIx_fr1, ixR_ok, oItL_ap, oItT_ap, sFor_ap, startD, List.map_cons, List.map_nil, List.length_cons, List.length_nil, List.replicate_succ, List.replicate_zero, List.cons_append, List.nil_append, List.append_nil, List.getElem?_cons_zero, List.getElem?_cons_succ, List.set_cons_zero, List.set_cons_succ, Nat.reduceAdd, Nat.reduceSub, Nat.sub_self, Nat.reduceLeDiff, List.all_cons, List.all_nil, np_fr, np_int, np_bl, np_tup, np_lst, np_str, np_non, Bool.and_self, Bool.and_true, if_true_, if_false_, zero_add', if_tt, if_ff, decide_true, decide_false, Nat.le_refl, oItS_lst, oItS_tup, oTupOf_lst, oTupOf_tup, oLstOf_lst, oLstOf_tup, oRv_lst, oRv_tup, oAdd_tup, dChain_ap, asTru_bl, asTru_tup, asTru_lst, oIsN_ap, oNotN_ap, asI_ap, oSl_tup, oSl_lst, oZip_tup, oZip_lst, oAddI_ap, oEqS_ap, oNeS_ap, oNe_nil, hM, hL, oks, po, tp, rmo, n1, n2, ae, i1, i2, fq, ff, ft, dq, Bool.not_true, Bool.false_eq_true]
/-! the bag -/
def HasBag (c n : Nat) (M : Mem) : Prop := ∃ a r t : Int, M[n]? = some (some [.int a, .int r, .int t]) ∧ 0 ≤ a ∧ 0 ≤ r ∧ r < 2 ^ 62 ∧ 0 ≤ t ∧ t ≤ c
structure Dbag (c n : Nat) (M M' : Mem) : Prop where
  len : M'.length = M.length
  oth : ∀ j, j ≠ n → M'[j]? = M[j]?
  has : HasBag c n M'
theorem Dbag.trans {c c' n : Nat} {M M1 M2 : Mem} (a : Dbag c n M M1) (b : Dbag c' n M1 M2) : Dbag c' n M M2 := ⟨b.len.trans a.len, fun j h => (b.oth j h).trans (a.oth j h), b.has⟩
theorem HasBag.mono {c c' n : Nat} {M : Mem} (h : HasBag c n M) (l : c ≤ c') : HasBag c' n M := by
  obtain ⟨a, r, t, e, h1, h2, h3, h4, h5⟩ := h
  exact ⟨a, r, t, e, h1, h2, h3, h4, by omega⟩
theorem Dbag.mono {c c' n : Nat} {M M1 : Mem} (a : Dbag c n M M1) (l : c ≤ c') : Dbag c' n M M1 := ⟨a.len, a.oth, a.has.mono l⟩
theorem HasBag.lt {c n : Nat} {M : Mem} (h : HasBag c n M) : n < M.length := by
  obtain ⟨a, r, t, e, _⟩ := h
  rcases Nat.lt_or_ge n M.length with q | q
  · exact q
  · rw [List.getElem?_eq_none q] at e; cases e
def prs : List D := [.int 2147483647, .int 2147483629, .int 2147483587, .int 2147483579, .int 2147483563, .int 2147483549, .int 2147483543]
theorem bprime_at {i : Int} (h0 : 0 ≤ i) (h : i < 7) : ∃ p : Int, atI prs i = some (.int p) ∧ 0 < p ∧ p < 2 ^ 31 := by
  obtain ⟨d, e, m⟩ := atI_mem (l := prs) h0 h
  simp -implicitDefEqProofs only [prs, List.mem_cons, List.not_mem_nil, or_false] at m
  rcases m with m | m | m | m | m | m | m <;> subst m <;> exact ⟨_, e, by decide, by decide⟩
theorem bdraw_eq {c n : Nat} {M : Mem} {m : Int} (hr : HasBag c n M) (hc : c < 2 ^ 20) (h0 : 0 < m) (hm : m.natAbs < 2 ^ 4000) :
    ∃ v M', F__law_draw [.ptr n, .int m] M = some (.ok (.int v), M') ∧ 0 ≤ v ∧ v < m ∧ Dbag (c + 1) n M M' := by
  have hn := hr.lt
  obtain ⟨a, r, t, e, ha, hr0, hr1, ht0, ht1⟩ := hr
  have hm0 : m ≠ 0 := by omega
  by_cases hp : 0 < a
  · refine ⟨a.fmod m, M.set n (some [.int (a.fdiv m), .int r, .int t]), ?_, (fmod_pos h0).1, (fmod_pos h0).2, by simp, fun j h => List.getElem?_set_ne (Ne.symm h), a.fdiv m, r, t, List.getElem?_set_self hn, ?_, hr0, hr1, ht0, by omega⟩
    · have hd : DivOk m := DivOk.of (b := 4000) hm0 hm
      have := runF_rt (N := ["bag", "many", "primes", "one", "two", "digit"]) (fb := den__law_draw) (ds := [.ptr n, .int m]) (M := M) (M2 := M.set n (some [.int (a.fdiv m), .int r, .int t])) (d := .int (a.fmod m)) (by
        simp -implicitDefEqProofs only [den__law_draw, sSeq_ap, sAsg_ap, sPar_ap, sRet_ap, sIf_ap, sExpr_ap, sNext_ap, bnd_ap, ret_ap, bindR_ok, thenR_ok, dVar_ap, varR_ok, seqR_nx, seqR_rt, asgR_ok, gNm_ap, gCn_ap, gcnR_ok, gNl_ap, gTp_fr, gTp_ap, gLs_ap, dCons_ap, dNil_ap, asB_ap, dOr_ap, dAnd_ap, dNot_ap, dAndV_ap, dOrV_ap, dNotV_ap, dIf_ap, oAdd_int, oSub_int, oLt_int, oLe_int, oGt_int, oGe_int, oNeg_int, oEq_int, oNe_int, oEq_fr, oNe_fr, oEq_bl, oNe_bl, oTup_ap, oLst_ap, oCall_ap, oAbs_ap, oMax_ap, oMin_ap, oToInt_b, oToInt_i, oLen_lst, oLen_scr, oLen_tup, oIx_lst, oIx_scr, oAdd_lst, oIx_tup, oIx_fr0, oIx_fr1, ixR_ok, oItL_ap, oItT_ap, sFor_ap, startD, List.map_cons, List.map_nil, List.length_cons, List.length_nil, List.replicate_succ, List.replicate_zero, List.cons_append, List.nil_append, List.append_nil, List.getElem?_cons_zero, List.getElem?_cons_succ, List.set_cons_zero, List.set_cons_succ, Nat.reduceAdd, Nat.reduceSub, Nat.sub_self, Nat.reduceLeDiff, List.all_cons, List.all_nil, np_fr, np_int, np_bl, np_tup, np_lst, np_str, np_non, Bool.and_self, Bool.and_true, if_true_, if_false_, zero_add', if_tt, if_ff, decide_true, decide_false, Nat.le_refl, oItS_lst, oItS_tup, oTupOf_lst, oTupOf_tup, oLstOf_lst, oLstOf_tup, oRv_lst, oRv_tup, oAdd_tup, dChain_ap, asTru_bl, asTru_tup, asTru_lst, oIsN_ap, oNotN_ap, asI_ap, oSl_tup, oSl_lst, oZip_tup, oZip_lst, oAddI_ap, oEqS_ap, oNeS_ap, oNe_nil, oIx_ptr _ _ e, atI3_0, hp, decide_true, oMod_int hm0, oDiv_int hd, sStore_ap, e, ixN3_0]) (by simp) rfl
      rw [F__law_draw, this, List.take_of_length_le (by simp)]
    · exact Int.fdiv_nonneg ha (by omega)
  · have ea : a = 0 := by omega
    subst ea
    have tl0 : (c : Int) < 2 ^ 20 := by exact_mod_cast hc
    obtain ⟨T, eT⟩ : ∃ T : Int, T = t + 1 := ⟨_, rfl⟩
    have T1 : 1 ≤ T ∧ T ≤ 2 ^ 20 := by omega
    obtain ⟨p, e1, p0, p1⟩ := bprime_at (fmod_pos (i := T) (m := 7) (by decide)).1 (fmod_pos (by decide)).2
    obtain ⟨p', e2, q0, q1⟩ := bprime_at (fmod_pos (i := T + 3) (m := 7) (by decide)).1 (fmod_pos (by decide)).2
    obtain ⟨p'', e3, s0, s1⟩ := bprime_at (fmod_pos (i := T + 5) (m := 7) (by decide)).1 (fmod_pos (by decide)).2
    have hpz : p ≠ 0 := by omega
    have hqz : p' ≠ 0 := by omega
    have hsz : p'' ≠ 0 := by omega
    generalize hv1 : r.fmod p = v1
    have b1 : 0 ≤ v1 ∧ v1 < 2 ^ 31 := by
      have := fmod_pos (i := r) p0
      rw [hv1] at this; omega
    have l1 : v1.natAbs < 2 ^ 31 := natAbs_lt_of b1.1 b1.2
    have k1 : MulOk 2 T := MulOk.of (a := 2) (b := 22) (by decide) (natAbs_lt_of (by omega) (by omega))
    have t2 : (2 * T + 1).natAbs < 2 ^ 22 := natAbs_lt_of (by omega) (by omega)
    have k2 : MulOk v1 (2 * T + 1) := MulOk.of l1 t2
    have k3 : MulOk 7919 T := MulOk.of (a := 13) (b := 22) (by decide) (natAbs_lt_of (by omega) (by omega))
    have m1 : (v1 * (2 * T + 1)).natAbs < 2 ^ 53 := by rw [Int.natAbs_mul]; exact mul_lt_pow l1 t2
    have m2 : (v1 * (2 * T + 1) + 7919 * T).natAbs < 2 ^ 64 := by omega
    have pw3 := fun ρ M => oPow_ap (v1 * (2 * T + 1) + 7919 * T) 3 ρ M (by decide) m2
    generalize hv2 : ((v1 * (2 * T + 1) + 7919 * T) ^ 3).fmod p' = v2
    have b2 : 0 ≤ v2 ∧ v2 < 2 ^ 31 := by
      have := fmod_pos (i := (v1 * (2 * T + 1) + 7919 * T) ^ 3) q0
      rw [hv2] at this; omega
    have l2 : v2.natAbs < 2 ^ 31 := natAbs_lt_of b2.1 b2.2
    have k4 : MulOk v2 v2 := MulOk.of l2 l2
    have k5 : MulOk 104729 T := MulOk.of (a := 17) (b := 22) (by decide) (natAbs_lt_of (by omega) (by omega))
    have z9 : (998244353 : Int) ≠ 0 := by decide
    have f9 := fmod_pos (i := r) (m := 998244353) (by decide)
    have m3 : (v2 * v2).natAbs < 2 ^ 62 := by rw [Int.natAbs_mul]; exact mul_lt_pow l2 l2
    have m4 : (v2 * v2 + r.fmod 998244353 + 104729 * T).natAbs < 2 ^ 64 := by omega
    have pw5 := fun ρ M => oPow_ap (v2 * v2 + r.fmod 998244353 + 104729 * T) 5 ρ M (by decide) m4
    have d16 : DivOk 16 := DivOk.of (b := 5) (by decide) (by decide)
    have z7 : (7 : Int) ≠ 0 := by decide
    generalize hv3 : ((((v2 * v2 + r.fmod 998244353 + 104729 * T) ^ 5).fmod p'').fdiv 16).fmod m = v3
    have b3 : 0 ≤ v3 ∧ v3 < m := by rw [← hv3]; exact fmod_pos h0
    have eM : (M.set n (some [D.int 0, .int r, .int T]))[n]? = some (some [D.int 0, .int r, .int T]) := List.getElem?_set_self hn
    refine ⟨v3, M.set n (some [.int 0, .int r, .int T]), ?_, b3.1, b3.2, by simp, fun j h => List.getElem?_set_ne (Ne.symm h), 0, r, T, eM, by omega, hr0, hr1, by omega, by push_cast; omega⟩
    have pr : D.lst [.int 2147483647, .int 2147483629, .int 2147483587, .int 2147483579, .int 2147483563, .int 2147483549, .int 2147483543] = .lst prs := rfl
    have pw3' : ∀ ρ M, oPow (.int (v1 * (2 * T + 1) + 7919 * T)) (.int 3) ρ M = some (.ok (.int ((v1 * (2 * T + 1) + 7919 * T) ^ 3)), M) := pw3
    have pw5' : ∀ ρ M, oPow (.int (v2 * v2 + r.fmod 998244353 + 104729 * T)) (.int 5) ρ M = some (.ok (.int ((v2 * v2 + r.fmod 998244353 + 104729 * T) ^ 5)), M) := pw5
    have z0 : ¬ ((0 : Int) > 0) := by decide
    have := runF_rt (N := ["bag", "many", "primes", "one", "two", "digit"]) (fb := den__law_draw) (ds := [.ptr n, .int m]) (M := M) (M2 := M.set n (some [.int 0, .int r, .int T])) (d := .int v3) (by
      simp -implicitDefEqProofs only [den__law_draw, sSeq_ap, sAsg_ap, sPar_ap, sRet_ap, sIf_ap, sExpr_ap, sNext_ap, bnd_ap, ret_ap, bindR_ok, thenR_ok, dVar_ap, varR_ok, seqR_nx, seqR_rt, asgR_ok, gNm_ap, gCn_ap, gcnR_ok, gNl_ap, gTp_fr, gTp_ap, gLs_ap, dCons_ap, dNil_ap, asB_ap, dOr_ap, dAnd_ap, dNot_ap, dAndV_ap, dOrV_ap, dNotV_ap, dIf_ap, oAdd_int, oSub_int, oLt_int, oLe_int, oGt_int, oGe_int, oNeg_int, oEq_int, oNe_int, oEq_fr, oNe_fr, oEq_bl, oNe_bl, oTup_ap, oLst_ap, oCall_ap, oAbs_ap, oMax_ap, oMin_ap, oToInt_b, oToInt_i, oLen_lst, oLen_scr, oLen_tup, oIx_lst, oIx_scr, oAdd_lst, oIx_tup, oIx_fr0, oIx_fr1, ixR_ok, oItL_ap, oItT_ap, sFor_ap, startD, List.map_cons, List.map_nil, List.length_cons, List.length_nil, List.replicate_succ, List.replicate_zero, List.cons_append, List.nil_append, List.append_nil, List.getElem?_cons_zero, List.getElem?_cons_succ, List.set_cons_zero, List.set_cons_succ, Nat.reduceAdd, Nat.reduceSub, Nat.sub_self, Nat.reduceLeDiff, List.all_cons, List.all_nil, np_fr, np_int, np_bl, np_tup, np_lst, np_str, np_non, Bool.and_self, Bool.and_true, if_true_, if_false_, zero_add', if_tt, if_ff, decide_true, decide_false, Nat.le_refl, oItS_lst, oItS_tup, oTupOf_lst, oTupOf_tup, oLstOf_lst, oLstOf_tup, oRv_lst, oRv_tup, oAdd_tup, dChain_ap, asTru_bl, asTru_tup, asTru_lst, oIsN_ap, oNotN_ap, asI_ap, oSl_tup, oSl_lst, oZip_tup, oZip_lst, oAddI_ap, oEqS_ap, oNeS_ap, oNe_nil, oIx_ptr _ _ e, atI3_0, atI3_2, z0, decide_false, Bool.false_eq_true, sStore_ap, ← eT, e, ixN3_2, pr, oIx_ptr _ _ eM, atI3_1, oMod_int z7, e1, oMod_int hpz, hv1, oMul_int k1, oMul_int k2, oMul_int k3, pw3', e2, oMod_int hqz, hv2, oMul_int k4, oMul_int k5, oMod_int z9, pw5', e3, oMod_int hsz, oDiv_int d16, oMod_int hm0, hv3]) (by simp) rfl
    rw [F__law_draw, this, List.take_of_length_le (by simp)]
theorem bag_eq (cell : Int) {k : Nat} (hk : k < 64) (M : Mem) : ∃ M', F__law_new_bag [.int cell, .int (k : Int)] M = some (.ok (.ptr M.length), M') ∧ M'.length = M.length + 1 ∧ (∀ j, j < M.length → M'[j]? = M[j]?) ∧ HasBag 0 M.length M' := by
  have z1 : (2305843009213693951 : Int) ≠ 0 := by decide
  have k1 : MulOk 977 (k : Int) := MulOk.of (a := 20) (b := 10) (by decide) (by rw [Int.natAbs_natCast]; omega)
  obtain ⟨dd, ed, dn⟩ : ∃ dd : Int, (if cell ≥ 10 ^ 18 then cell - 10 ^ 18 else 0) = dd ∧ 0 ≤ dd := ⟨_, rfl, by split <;> omega⟩
  refine ⟨M ++ [some [D.int dd, .int (cell.fmod 2305843009213693951 + 977 * (k : Int)), .int 0]], runF1 ?_, by simp, fun j h => by rw [List.getElem?_append_left h], dd, _, 0, by rw [List.getElem?_append_right (Nat.le_refl _), Nat.sub_self]; rfl, dn, ?_, ?_, by omega, by omega⟩
  · by_cases c : cell ≥ 10 ^ 18
    · rw [if_pos c] at ed
      subst ed
      have c' : decide (cell ≥ 10 ^ 18) = true := decide_eq_true c
      simp -implicitDefEqProofs only [den__law_new_bag, sSeq_ap, sAsg_ap, sPar_ap, sRet_ap, sIf_ap, sExpr_ap, sNext_ap, bnd_ap, ret_ap, bindR_ok, thenR_ok, dVar_ap, varR_ok, seqR_nx, seqR_rt, asgR_ok, gNm_ap, gCn_ap, gcnR_ok, gNl_ap, gTp_fr, gTp_ap, gLs_ap, dCons_ap, dNil_ap, asB_ap, dOr_ap, dAnd_ap, dNot_ap, dAndV_ap, dOrV_ap, dNotV_ap, dIf_ap, oAdd_int, oSub_int, oLt_int, oLe_int, oGt_int, oGe_int, oNeg_int, oEq_int, oNe_int, oEq_fr, oNe_fr, oEq_bl, oNe_bl, oTup_ap, oLst_ap, oCall_ap, oAbs_ap, oMax_ap, oMin_ap, oToInt_b, oToInt_i, oLen_lst, oLen_scr, oLen_tup, oIx_lst, oIx_scr, oAdd_lst, oIx_tup, oIx_fr0, oIx_fr1, ixR_ok, oItL_ap, oItT_ap, sFor_ap, startD, List.map_cons, List.map_nil, List.length_cons, List.length_nil, List.replicate_succ, List.replicate_zero, List.cons_append, List.nil_append, List.append_nil, List.getElem?_cons_zero, List.getElem?_cons_succ, List.set_cons_zero, List.set_cons_succ, Nat.reduceAdd, Nat.reduceSub, Nat.sub_self, Nat.reduceLeDiff, List.all_cons, List.all_nil, np_fr, np_int, np_bl, np_tup, np_lst, np_str, np_non, Bool.and_self, Bool.and_true, if_true_, if_false_, zero_add', if_tt, if_ff, decide_true, decide_false, Nat.le_refl, oItS_lst, oItS_tup, oTupOf_lst, oTupOf_tup, oLstOf_lst, oLstOf_tup, oRv_lst, oRv_tup, oAdd_tup, dChain_ap, asTru_bl, asTru_tup, asTru_lst, oIsN_ap, oNotN_ap, asI_ap, oSl_tup, oSl_lst, oZip_tup, oZip_lst, oAddI_ap, oEqS_ap, oNeS_ap, oNe_nil, pow10_18, c', oMod_int z1, oMul_int k1, oNew3]
    · rw [if_neg c] at ed
      subst ed
      have c' : decide (cell ≥ 10 ^ 18) = false := decide_eq_false c
      simp -implicitDefEqProofs only [den__law_new_bag, sSeq_ap, sAsg_ap, sPar_ap, sRet_ap, sIf_ap, sExpr_ap, sNext_ap, bnd_ap, ret_ap, bindR_ok, thenR_ok, dVar_ap, varR_ok, seqR_nx, seqR_rt, asgR_ok, gNm_ap, gCn_ap, gcnR_ok, gNl_ap, gTp_fr, gTp_ap, gLs_ap, dCons_ap, dNil_ap, asB_ap, dOr_ap, dAnd_ap, dNot_ap, dAndV_ap, dOrV_ap, dNotV_ap, dIf_ap, oAdd_int, oSub_int, oLt_int, oLe_int, oGt_int, oGe_int, oNeg_int, oEq_int, oNe_int, oEq_fr, oNe_fr, oEq_bl, oNe_bl, oTup_ap, oLst_ap, oCall_ap, oAbs_ap, oMax_ap, oMin_ap, oToInt_b, oToInt_i, oLen_lst, oLen_scr, oLen_tup, oIx_lst, oIx_scr, oAdd_lst, oIx_tup, oIx_fr0, oIx_fr1, ixR_ok, oItL_ap, oItT_ap, sFor_ap, startD, List.map_cons, List.map_nil, List.length_cons, List.length_nil, List.replicate_succ, List.replicate_zero, List.cons_append, List.nil_append, List.append_nil, List.getElem?_cons_zero, List.getElem?_cons_succ, List.set_cons_zero, List.set_cons_succ, Nat.reduceAdd, Nat.reduceSub, Nat.sub_self, Nat.reduceLeDiff, List.all_cons, List.all_nil, np_fr, np_int, np_bl, np_tup, np_lst, np_str, np_non, Bool.and_self, Bool.and_true, if_true_, if_false_, zero_add', if_tt, if_ff, decide_true, decide_false, Nat.le_refl, oItS_lst, oItS_tup, oTupOf_lst, oTupOf_tup, oLstOf_lst, oLstOf_tup, oRv_lst, oRv_tup, oAdd_tup, dChain_ap, asTru_bl, asTru_tup, asTru_lst, oIsN_ap, oNotN_ap, asI_ap, oSl_tup, oSl_lst, oZip_tup, oZip_lst, oAddI_ap, oEqS_ap, oNeS_ap, oNe_nil, pow10_18, c', oMod_int z1, oMul_int k1, oNew3, Bool.false_eq_true]
  · have := fmod_pos (i := cell) (m := 2305843009213693951) (by decide); omega
  · have := fmod_pos (i := cell) (m := 2305843009213693951) (by decide); omega
section
variable {c n : Nat} {M : Mem}
theorem run_b {N : List Str} {fb : Sv} {ds : List D} {M M2 : Mem} {d : D} {c n : Nat} (h : fb (startD N ds) M = some (.rt d, M2)) (t : Dbag c n M M2) (hp : d.np = true) : runF 0 N fb ds M = some (.ok d, M2) := by
  rw [runF_rt h (by rw [t.len]; exact Nat.le_refl _) hp, List.take_of_length_le (by rw [t.len]; exact Nat.le_refl _)]
end
/-! the divisor: Euclid by the law's two thousand turns -/
def fb : Nat → Nat
  | 0 => 1
  | 1 => 2
  | k + 2 => fb (k + 1) + fb k
theorem fb_2 (k : Nat) : fb (k + 2) = fb (k + 1) + fb k := rfl
theorem fb_pos : ∀ k, 1 ≤ fb k
  | 0 => by decide
  | 1 => by decide
  | k + 2 => by rw [fb_2]; have := fb_pos k; omega
def fbp : Nat → Nat × Nat
  | 0 => (1, 2)
  | k + 1 => ((fbp k).2, (fbp k).2 + (fbp k).1)
def fbi : Nat → Nat → Nat → Nat
  | 0, a, _ => a
  | k + 1, a, b => fbi k b (b + a)
theorem fbi_eq : ∀ k j, fbi k (fb j) (fb (j + 1)) = fb (j + k)
  | 0, j => rfl
  | k + 1, j => by
    have e : fb (j + 1) + fb j = fb (j + 1 + 1) := rfl
    rw [fbi, e, fbi_eq k (j + 1)]
    congr 1
    omega
theorem fb_big : 10 ^ 400 < fb 1998 := by
  have h : 10 ^ 400 < fbi 1998 1 2 := by decide +kernel
  have e := fbi_eq 1998 0
  rw [Nat.zero_add] at e
  rw [← e]; exact h
theorem div_turn0 {a : Nat} (d : D) (ds : List D) (o : Option D) (M : Mem) : forF (gNm 2) den__law_divisor_L1 (d :: ds) [some (.int (a : Int)), some (.int 0), o] M = some (.rt (.int (a : Int)), M) := by
  have k0 : decide ((0 : Int) = 0) = true := rfl
  have e : den__law_divisor_L1 [some (.int (a : Int)), some (.int 0), some d] M = some (.rt (.int (a : Int)), M) := by
    simp -implicitDefEqProofs only [den__law_divisor_L1, sSeq_ap, sAsg_ap, sPar_ap, sRet_ap, sIf_ap, sExpr_ap, sNext_ap, bnd_ap, ret_ap, bindR_ok, thenR_ok, dVar_ap, varR_ok, seqR_nx, seqR_rt, asgR_ok, gNm_ap, gCn_ap, gcnR_ok, gNl_ap, gTp_fr, gTp_ap, gLs_ap, dCons_ap, dNil_ap, asB_ap, dOr_ap, dAnd_ap, dNot_ap, dAndV_ap, dOrV_ap, dNotV_ap, dIf_ap, oAdd_int, oSub_int, oLt_int, oLe_int, oGt_int, oGe_int, oNeg_int, oEq_int, oNe_int, oEq_fr, oNe_fr, oEq_bl, oNe_bl, oTup_ap, oLst_ap, oCall_ap, oAbs_ap, oMax_ap, oMin_ap, oToInt_b, oToInt_i, oLen_lst, oLen_scr, oLen_tup, oIx_lst, oIx_scr, oAdd_lst, oIx_tup, oIx_fr0, oIx_fr1, ixR_ok, oItL_ap, oItT_ap, sFor_ap, startD, List.map_cons, List.map_nil, List.length_cons, List.length_nil, List.replicate_succ, List.replicate_zero, List.cons_append, List.nil_append, List.append_nil, List.getElem?_cons_zero, List.getElem?_cons_succ, List.set_cons_zero, List.set_cons_succ, Nat.reduceAdd, Nat.reduceSub, Nat.sub_self, Nat.reduceLeDiff, List.all_cons, List.all_nil, np_fr, np_int, np_bl, np_tup, np_lst, np_str, np_non, Bool.and_self, Bool.and_true, if_true_, if_false_, zero_add', if_tt, if_ff, decide_true, decide_false, Nat.le_refl, oItS_lst, oItS_tup, oTupOf_lst, oTupOf_tup, oLstOf_lst, oLstOf_tup, oRv_lst, oRv_tup, oAdd_tup, dChain_ap, asTru_bl, asTru_tup, asTru_lst, oIsN_ap, oNotN_ap, asI_ap, oSl_tup, oSl_lst, oZip_tup, oZip_lst, oAddI_ap, oEqS_ap, oNeS_ap, oNe_nil, k0]
  rw [forF_cons]
  simp -implicitDefEqProofs only [sSeq_ap, sAsg_ap, sPar_ap, sRet_ap, sIf_ap, sExpr_ap, sNext_ap, bnd_ap, ret_ap, bindR_ok, thenR_ok, dVar_ap, varR_ok, seqR_nx, seqR_rt, asgR_ok, gNm_ap, gCn_ap, gcnR_ok, gNl_ap, gTp_fr, gTp_ap, gLs_ap, dCons_ap, dNil_ap, asB_ap, dOr_ap, dAnd_ap, dNot_ap, dAndV_ap, dOrV_ap, dNotV_ap, dIf_ap, oAdd_int, oSub_int, oLt_int, oLe_int, oGt_int, oGe_int, oNeg_int, oEq_int, oNe_int, oEq_fr, oNe_fr, oEq_bl, oNe_bl, oTup_ap, oLst_ap, oCall_ap, oAbs_ap, oMax_ap, oMin_ap, oToInt_b, oToInt_i, oLen_lst, oLen_scr, oLen_tup, oIx_lst, oIx_scr, oAdd_lst, oIx_tup, oIx_fr0, oIx_fr1, ixR_ok, oItL_ap, oItT_ap, sFor_ap, startD, List.map_cons, List.map_nil, List.length_cons, List.length_nil, List.replicate_succ, List.replicate_zero, List.cons_append, List.nil_append, List.append_nil, List.getElem?_cons_zero, List.getElem?_cons_succ, List.set_cons_zero, List.set_cons_succ, Nat.reduceAdd, Nat.reduceSub, Nat.sub_self, Nat.reduceLeDiff, List.all_cons, List.all_nil, np_fr, np_int, np_bl, np_tup, np_lst, np_str, np_non, Bool.and_self, Bool.and_true, if_true_, if_false_, zero_add', if_tt, if_ff, decide_true, decide_false, Nat.le_refl, oItS_lst, oItS_tup, oTupOf_lst, oTupOf_tup, oLstOf_lst, oLstOf_tup, oRv_lst, oRv_tup, oAdd_tup, dChain_ap, asTru_bl, asTru_tup, asTru_lst, oIsN_ap, oNotN_ap, asI_ap, oSl_tup, oSl_lst, oZip_tup, oZip_lst, oAddI_ap, oEqS_ap, oNeS_ap, oNe_nil, forB_ok, e, ofR_rt]
theorem div_turn {a b : Nat} (b0 : b ≠ 0) (d : D) (ds : List D) (o : Option D) (M : Mem) : forF (gNm 2) den__law_divisor_L1 (d :: ds) [some (.int (a : Int)), some (.int (b : Int)), o] M = forF (gNm 2) den__law_divisor_L1 ds [some (.int (b : Int)), some (.int ((a % b : Nat) : Int)), some d] M := by
  have k0 : decide ((b : Int) = 0) = false := decide_eq_false (by omega)
  have bz : (b : Int) ≠ 0 := by omega
  have em : (a : Int).fmod (b : Int) = ((a % b : Nat) : Int) := by rw [Int.fmod_eq_emod_of_nonneg _ (by omega)]; push_cast; rfl
  have e : den__law_divisor_L1 [some (.int (a : Int)), some (.int (b : Int)), some d] M = some (.nx [some (.int (b : Int)), some (.int ((a % b : Nat) : Int)), some d], M) := by
    simp -implicitDefEqProofs only [den__law_divisor_L1, sSeq_ap, sAsg_ap, sPar_ap, sRet_ap, sIf_ap, sExpr_ap, sNext_ap, bnd_ap, ret_ap, bindR_ok, thenR_ok, dVar_ap, varR_ok, seqR_nx, seqR_rt, asgR_ok, gNm_ap, gCn_ap, gcnR_ok, gNl_ap, gTp_fr, gTp_ap, gLs_ap, dCons_ap, dNil_ap, asB_ap, dOr_ap, dAnd_ap, dNot_ap, dAndV_ap, dOrV_ap, dNotV_ap, dIf_ap, oAdd_int, oSub_int, oLt_int, oLe_int, oGt_int, oGe_int, oNeg_int, oEq_int, oNe_int, oEq_fr, oNe_fr, oEq_bl, oNe_bl, oTup_ap, oLst_ap, oCall_ap, oAbs_ap, oMax_ap, oMin_ap, oToInt_b, oToInt_i, oLen_lst, oLen_scr, oLen_tup, oIx_lst, oIx_scr, oAdd_lst, oIx_tup, oIx_fr0, oIx_fr1, ixR_ok, oItL_ap, oItT_ap, sFor_ap, startD, List.map_cons, List.map_nil, List.length_cons, List.length_nil, List.replicate_succ, List.replicate_zero, List.cons_append, List.nil_append, List.append_nil, List.getElem?_cons_zero, List.getElem?_cons_succ, List.set_cons_zero, List.set_cons_succ, Nat.reduceAdd, Nat.reduceSub, Nat.sub_self, Nat.reduceLeDiff, List.all_cons, List.all_nil, np_fr, np_int, np_bl, np_tup, np_lst, np_str, np_non, Bool.and_self, Bool.and_true, if_true_, if_false_, zero_add', if_tt, if_ff, decide_true, decide_false, Nat.le_refl, oItS_lst, oItS_tup, oTupOf_lst, oTupOf_tup, oLstOf_lst, oLstOf_tup, oRv_lst, oRv_tup, oAdd_tup, dChain_ap, asTru_bl, asTru_tup, asTru_lst, oIsN_ap, oNotN_ap, asI_ap, oSl_tup, oSl_lst, oZip_tup, oZip_lst, oAddI_ap, oEqS_ap, oNeS_ap, oNe_nil, k0, oMod_int bz, em, Bool.false_eq_true]
  rw [forF_cons]
  simp -implicitDefEqProofs only [sSeq_ap, sAsg_ap, sPar_ap, sRet_ap, sIf_ap, sExpr_ap, sNext_ap, bnd_ap, ret_ap, bindR_ok, thenR_ok, dVar_ap, varR_ok, seqR_nx, seqR_rt, asgR_ok, gNm_ap, gCn_ap, gcnR_ok, gNl_ap, gTp_fr, gTp_ap, gLs_ap, dCons_ap, dNil_ap, asB_ap, dOr_ap, dAnd_ap, dNot_ap, dAndV_ap, dOrV_ap, dNotV_ap, dIf_ap, oAdd_int, oSub_int, oLt_int, oLe_int, oGt_int, oGe_int, oNeg_int, oEq_int, oNe_int, oEq_fr, oNe_fr, oEq_bl, oNe_bl, oTup_ap, oLst_ap, oCall_ap, oAbs_ap, oMax_ap, oMin_ap, oToInt_b, oToInt_i, oLen_lst, oLen_scr, oLen_tup, oIx_lst, oIx_scr, oAdd_lst, oIx_tup, oIx_fr0, oIx_fr1, ixR_ok, oItL_ap, oItT_ap, sFor_ap, startD, List.map_cons, List.map_nil, List.length_cons, List.length_nil, List.replicate_succ, List.replicate_zero, List.cons_append, List.nil_append, List.append_nil, List.getElem?_cons_zero, List.getElem?_cons_succ, List.set_cons_zero, List.set_cons_succ, Nat.reduceAdd, Nat.reduceSub, Nat.sub_self, Nat.reduceLeDiff, List.all_cons, List.all_nil, np_fr, np_int, np_bl, np_tup, np_lst, np_str, np_non, Bool.and_self, Bool.and_true, if_true_, if_false_, zero_add', if_tt, if_ff, decide_true, decide_false, Nat.le_refl, oItS_lst, oItS_tup, oTupOf_lst, oTupOf_tup, oLstOf_lst, oLstOf_tup, oRv_lst, oRv_tup, oAdd_tup, dChain_ap, asTru_bl, asTru_tup, asTru_lst, oIsN_ap, oNotN_ap, asI_ap, oSl_tup, oSl_lst, oZip_tup, oZip_lst, oAddI_ap, oEqS_ap, oNeS_ap, oNe_nil, forB_ok, e, ofR_nx]
theorem div_loop : ∀ (k : Nat) (a b : Nat) (ds : List D) (o : Option D) (M : Mem), b < a → b < fb k → k < ds.length → forF (gNm 2) den__law_divisor_L1 ds [some (.int (a : Int)), some (.int (b : Int)), o] M = some (.rt (.int ((Nat.gcd a b : Nat) : Int)), M) := by
  intro k
  induction k using Nat.strongRecOn with
  | _ k ih =>
    intro a b ds o M hb hk hl
    cases ds with
    | nil => exact absurd hl (by simp)
    | cons d ds =>
      rw [List.length_cons] at hl
      by_cases b0 : b = 0
      · subst b0
        rw [Nat.gcd_zero_right]
        exact div_turn0 d ds o M
      · rw [div_turn b0]
        have rl : a % b < b := Nat.mod_lt _ (by omega)
        have ge : Nat.gcd a b = Nat.gcd b (a % b) := by rw [Nat.gcd_comm a b, Nat.gcd_rec b a, Nat.gcd_comm]
        rw [ge]
        cases k with
        | zero => have : fb 0 = 1 := rfl; omega
        | succ k =>
          by_cases c : a % b < fb k
          · exact ih k (by omega) b (a % b) ds _ M rl c (by omega)
          · cases k with
            | zero =>
              have h1 : fb (0 + 1) = 2 := rfl
              have h0 : fb 0 = 1 := rfl
              omega
            | succ k =>
              rw [fb_2] at hk
              have r0 : a % b ≠ 0 := by have := fb_pos (k + 1); omega
              cases ds with
              | nil => exact absurd hl (by simp)
              | cons d2 ds =>
                rw [List.length_cons] at hl
                rw [div_turn r0]
                have sl : b % (a % b) < a % b := Nat.mod_lt _ (by omega)
                have sle : b % (a % b) ≤ b - a % b := by
                  have h1 := Nat.div_add_mod b (a % b)
                  have h2 : 0 < b / (a % b) := Nat.div_pos (by omega) (by omega)
                  have h3 : (a % b) * 1 ≤ (a % b) * (b / (a % b)) := Nat.mul_le_mul_left _ h2
                  omega
                have ge2 : Nat.gcd b (a % b) = Nat.gcd (a % b) (b % (a % b)) := by rw [Nat.gcd_comm b (a % b), Nat.gcd_rec (a % b) b, Nat.gcd_comm]
                rw [ge2]
                exact ih k (by omega) (a % b) (b % (a % b)) ds _ M sl (by omega) (by omega)
theorem divisor_eq {a b : Nat} (b0 : 0 < b) (hb : b < 10 ^ 400) (M : Mem) : F__law_divisor [.int (a : Int), .int (b : Int)] M = some (.ok (.int ((Nat.gcd a b : Nat) : Int)), M) := by
  refine runF_pure ?_ rfl
  have rg : ∀ ρ M, oRng1 [.int 2000] ρ M = some (.ok ((List.range 2000).map fun (i : Nat) => D.int (i : Int)), M) := fun ρ M => oRng1_ap _ _ _ (by decide) (by decide)
  have ln : ((List.range 2000).map fun (i : Nat) => D.int (i : Int)).length = 2000 := by rw [List.length_map, List.length_range]
  generalize (List.range 2000).map (fun (i : Nat) => D.int (i : Int)) = DS at rg ln
  have e : forF (gNm 2) den__law_divisor_L1 DS [some (.int (a : Int)), some (.int (b : Int)), none] M = some (.rt (.int ((Nat.gcd a b : Nat) : Int)), M) := by
    cases DS with
    | nil => simp at ln
    | cons d ds =>
      rw [List.length_cons] at ln
      have rl : a % b < b := Nat.mod_lt _ b0
      have ge : Nat.gcd a b = Nat.gcd b (a % b) := by rw [Nat.gcd_comm a b, Nat.gcd_rec b a, Nat.gcd_comm]
      rw [div_turn (by omega), ge]
      exact div_loop 1998 b (a % b) ds _ M rl (Nat.lt_trans (Nat.lt_trans rl hb) fb_big) (by omega)
  simp -implicitDefEqProofs only [den__law_divisor, sSeq_ap, sAsg_ap, sPar_ap, sRet_ap, sIf_ap, sExpr_ap, sNext_ap, bnd_ap, ret_ap, bindR_ok, thenR_ok, dVar_ap, varR_ok, seqR_nx, seqR_rt, asgR_ok, gNm_ap, gCn_ap, gcnR_ok, gNl_ap, gTp_fr, gTp_ap, gLs_ap, dCons_ap, dNil_ap, asB_ap, dOr_ap, dAnd_ap, dNot_ap, dAndV_ap, dOrV_ap, dNotV_ap, dIf_ap, oAdd_int, oSub_int, oLt_int, oLe_int, oGt_int, oGe_int, oNeg_int, oEq_int, oNe_int, oEq_fr, oNe_fr, oEq_bl, oNe_bl, oTup_ap, oLst_ap, oCall_ap, oAbs_ap, oMax_ap, oMin_ap, oToInt_b, oToInt_i, oLen_lst, oLen_scr, oLen_tup, oIx_lst, oIx_scr, oAdd_lst, oIx_tup, oIx_fr0, oIx_fr1, ixR_ok, oItL_ap, oItT_ap, sFor_ap, startD, List.map_cons, List.map_nil, List.length_cons, List.length_nil, List.replicate_succ, List.replicate_zero, List.cons_append, List.nil_append, List.append_nil, List.getElem?_cons_zero, List.getElem?_cons_succ, List.set_cons_zero, List.set_cons_succ, Nat.reduceAdd, Nat.reduceSub, Nat.sub_self, Nat.reduceLeDiff, List.all_cons, List.all_nil, np_fr, np_int, np_bl, np_tup, np_lst, np_str, np_non, Bool.and_self, Bool.and_true, if_true_, if_false_, zero_add', if_tt, if_ff, decide_true, decide_false, Nat.le_refl, oItS_lst, oItS_tup, oTupOf_lst, oTupOf_tup, oLstOf_lst, oLstOf_tup, oRv_lst, oRv_tup, oAdd_tup, dChain_ap, asTru_bl, asTru_tup, asTru_lst, oIsN_ap, oNotN_ap, asI_ap, oSl_tup, oSl_lst, oZip_tup, oZip_lst, oAddI_ap, oEqS_ap, oNeS_ap, oNe_nil, rg, e]
theorem made_tup {a : Int} {b : Nat} (b0 : 0 < b) : D.tup [.int (a.fdiv ((Nat.gcd a.natAbs b : Nat) : Int)), .int ((b : Int).fdiv ((Nat.gcd a.natAbs b : Nat) : Int))] = frQ (Rat.divInt a (b : Int)) := by
  have e : ((Nat.gcd a.natAbs b : Nat) : Int) = (Int.gcd a (b : Int) : Int) * (if (b : Int) < 0 then -1 else 1) := by
    rw [if_neg (by omega), Int.mul_one]
    rfl
  exact low_math (by omega) e
theorem fdiv_le {a : Int} {g : Nat} : (a.fdiv (g : Int)).natAbs ≤ a.natAbs := by
  rw [Int.fdiv_eq_ediv_of_nonneg _ (by omega)]
  exact Int.natAbs_ediv_le_natAbs _ _
theorem made_eq {a : Int} {b : Nat} (b0 : 0 < b) (hb : b < 10 ^ 400) (M : Mem) : F__law_made [.int a, .int (b : Int)] M = some (.ok (frQ (Rat.divInt a (b : Int))), M) := by
  refine runF_pure ?_ rfl
  have mx : (if 0 - a > a then 0 - a else a) = ((a.natAbs : Nat) : Int) := by split <;> omega
  have e := divisor_eq (a := a.natAbs) b0 hb M
  have tp := made_tup (a := a) b0
  have g0 : 0 < Nat.gcd a.natAbs b := Nat.gcd_pos_of_pos_right _ b0
  have gl : Nat.gcd a.natAbs b < 10 ^ 400 := Nat.lt_of_le_of_lt (Nat.le_of_dvd b0 (Nat.gcd_dvd_right _ _)) hb
  have dk : DivOk ((Nat.gcd a.natAbs b : Nat) : Int) := DivOk.of (b := 1400) (by omega) (by rw [Int.natAbs_natCast]; exact Nat.lt_trans gl (by decide +kernel))
  generalize Nat.gcd a.natAbs b = g at *
  simp -implicitDefEqProofs only [den__law_made, sSeq_ap, sAsg_ap, sPar_ap, sRet_ap, sIf_ap, sExpr_ap, sNext_ap, bnd_ap, ret_ap, bindR_ok, thenR_ok, dVar_ap, varR_ok, seqR_nx, seqR_rt, asgR_ok, gNm_ap, gCn_ap, gcnR_ok, gNl_ap, gTp_fr, gTp_ap, gLs_ap, dCons_ap, dNil_ap, asB_ap, dOr_ap, dAnd_ap, dNot_ap, dAndV_ap, dOrV_ap, dNotV_ap, dIf_ap, oAdd_int, oSub_int, oLt_int, oLe_int, oGt_int, oGe_int, oNeg_int, oEq_int, oNe_int, oEq_fr, oNe_fr, oEq_bl, oNe_bl, oTup_ap, oLst_ap, oCall_ap, oAbs_ap, oMax_ap, oMin_ap, oToInt_b, oToInt_i, oLen_lst, oLen_scr, oLen_tup, oIx_lst, oIx_scr, oAdd_lst, oIx_tup, oIx_fr0, oIx_fr1, ixR_ok, oItL_ap, oItT_ap, sFor_ap, startD, List.map_cons, List.map_nil, List.length_cons, List.length_nil, List.replicate_succ, List.replicate_zero, List.cons_append, List.nil_append, List.append_nil, List.getElem?_cons_zero, List.getElem?_cons_succ, List.set_cons_zero, List.set_cons_succ, Nat.reduceAdd, Nat.reduceSub, Nat.sub_self, Nat.reduceLeDiff, List.all_cons, List.all_nil, np_fr, np_int, np_bl, np_tup, np_lst, np_str, np_non, Bool.and_self, Bool.and_true, if_true_, if_false_, zero_add', if_tt, if_ff, decide_true, decide_false, Nat.le_refl, oItS_lst, oItS_tup, oTupOf_lst, oTupOf_tup, oLstOf_lst, oLstOf_tup, oRv_lst, oRv_tup, oAdd_tup, dChain_ap, asTru_bl, asTru_tup, asTru_lst, oIsN_ap, oNotN_ap, asI_ap, oSl_tup, oSl_lst, oZip_tup, oZip_lst, oAddI_ap, oEqS_ap, oNeS_ap, oNe_nil, mx, e, oDiv_int dk, tp]
/-! what the law draws -/
theorem ten_1400 : (10 : Nat) ^ 400 < 2 ^ 1400 := by decide +kernel
theorem figs_loop {m : Nat} {st : Int} {S0 S1 : Option D} (s0 : 0 ≤ st) (s1 : st < 2 ^ 10) (M : Mem) : ∀ (ks : List Nat) (v e : Nat) (o4 : Option D), (∀ k ∈ ks, k < 400) → 0 < v → v < 10 ^ e → e + ks.length ≤ 400 → ∃ (v' : Nat) (p4 : Option D), forF (gNm 4) den__law_figures_L1 (ks.map fun (k : Nat) => D.int (k : Int)) [S0, S1, some (.int st), some (.int (v : Int)), o4] M = some (.nx [S0, S1, some (.int st), some (.int (v' : Int)), p4], M) ∧ 0 < v' ∧ v' < 10 ^ (e + ks.length)
  | [], v, e, o4, _, v0, v1, _ => ⟨v, o4, rfl, v0, v1⟩
  | k :: ks, v, e, o4, hk, v0, v1, he => by
    rw [List.length_cons] at he
    have k4 := hk k (List.mem_cons_self ..)
    have vb : v < 2 ^ 1400 := Nat.lt_trans (Nat.lt_of_lt_of_le v1 (Nat.pow_le_pow_right (by decide) (by omega))) ten_1400
    have k1 : MulOk 10 (v : Int) := MulOk.of (a := 4) (b := 1400) (by decide) (by rw [Int.natAbs_natCast]; exact vb)
    have k2 : MulOk st (k : Int) := MulOk.of (a := 10) (b := 10) (natAbs_lt_of s0 s1) (by rw [Int.natAbs_natCast]; omega)
    have d7 : DivOk 7 := DivOk.of (b := 4) (by decide) (by decide)
    have z10 : (10 : Int) ≠ 0 := by decide
    have f10 := fmod_pos (i := st * (k : Int) + (k : Int).fdiv 7 + st) (m := 10) (by decide)
    obtain ⟨w, ew, w9⟩ : ∃ w : Nat, (st * (k : Int) + (k : Int).fdiv 7 + st).fmod 10 = (w : Int) ∧ w ≤ 9 := ⟨((st * (k : Int) + (k : Int).fdiv 7 + st).fmod 10).toNat, by omega, by omega⟩
    obtain ⟨v', p4, e2, a0, a1⟩ := figs_loop (m := m) (S0 := S0) (S1 := S1) s0 s1 M ks (10 * v + w) (e + 1) (some (.int (k : Int))) (fun x hx => hk x (List.mem_cons_of_mem _ hx)) (by omega) (by rw [Nat.pow_succ]; omega) (by omega)
    refine ⟨v', p4, ?_, a0, by rw [List.length_cons, show e + (ks.length + 1) = e + 1 + ks.length from by omega]; exact a1⟩
    have ec : ((10 * v + w : Nat) : Int) = 10 * (v : Int) + (w : Int) := by push_cast; rfl
    rw [ec] at e2
    rw [List.map_cons, forF_cons]
    simp -implicitDefEqProofs only [den__law_figures_L1, sSeq_ap, sAsg_ap, sPar_ap, sRet_ap, sIf_ap, sExpr_ap, sNext_ap, bnd_ap, ret_ap, bindR_ok, thenR_ok, dVar_ap, varR_ok, seqR_nx, seqR_rt, asgR_ok, gNm_ap, gCn_ap, gcnR_ok, gNl_ap, gTp_fr, gTp_ap, gLs_ap, dCons_ap, dNil_ap, asB_ap, dOr_ap, dAnd_ap, dNot_ap, dAndV_ap, dOrV_ap, dNotV_ap, dIf_ap, oAdd_int, oSub_int, oLt_int, oLe_int, oGt_int, oGe_int, oNeg_int, oEq_int, oNe_int, oEq_fr, oNe_fr, oEq_bl, oNe_bl, oTup_ap, oLst_ap, oCall_ap, oAbs_ap, oMax_ap, oMin_ap, oToInt_b, oToInt_i, oLen_lst, oLen_scr, oLen_tup, oIx_lst, oIx_scr, oAdd_lst, oIx_tup, oIx_fr0, oIx_fr1, ixR_ok, oItL_ap, oItT_ap, sFor_ap, startD, List.map_cons, List.map_nil, List.length_cons, List.length_nil, List.replicate_succ, List.replicate_zero, List.cons_append, List.nil_append, List.append_nil, List.getElem?_cons_zero, List.getElem?_cons_succ, List.set_cons_zero, List.set_cons_succ, Nat.reduceAdd, Nat.reduceSub, Nat.sub_self, Nat.reduceLeDiff, List.all_cons, List.all_nil, np_fr, np_int, np_bl, np_tup, np_lst, np_str, np_non, Bool.and_self, Bool.and_true, if_true_, if_false_, zero_add', if_tt, if_ff, decide_true, decide_false, Nat.le_refl, oItS_lst, oItS_tup, oTupOf_lst, oTupOf_tup, oLstOf_lst, oLstOf_tup, oRv_lst, oRv_tup, oAdd_tup, dChain_ap, asTru_bl, asTru_tup, asTru_lst, oIsN_ap, oNotN_ap, asI_ap, oSl_tup, oSl_lst, oZip_tup, oZip_lst, oAddI_ap, oEqS_ap, oNeS_ap, oNe_nil, forB_ok, oMul_int k1, oMul_int k2, oDiv_int d7, oMod_int z10, ew, ofR_nx] at e2 ⊢
    exact e2
section
variable {c n : Nat} {M : Mem}
theorem figs_eq (hr : HasBag c n M) (hc : c + 2 < 2 ^ 20) {m : Nat} (m0 : 0 < m) (m1 : m ≤ 400) : ∃ (v : Nat) (M' : Mem), F__law_figures [.ptr n, .int (m : Int)] M = some (.ok (.int (v : Int)), M') ∧ 0 < v ∧ v < 10 ^ m ∧ Dbag (c + 2) n M M' := by
  obtain ⟨a, M1, e1, a0, a1, t1⟩ := bdraw_eq hr (by omega) (m := 9) (by decide) (by decide)
  obtain ⟨b, M2, e2, b0, b1, t2⟩ := bdraw_eq t1.has (by omega) (m := 9) (by decide) (by decide)
  obtain ⟨b', rfl⟩ : ∃ b' : Nat, b = (b' : Int) := ⟨b.toNat, by omega⟩
  have ln : (List.range (m - 1)).length = m - 1 := List.length_range
  obtain ⟨v, p4, e3, v0, v1⟩ := figs_loop (m := m) (st := 1 + a) (S0 := some (.ptr n)) (S1 := some (.int (m : Int))) (by omega) (by omega) M2 (List.range (m - 1)) (1 + b') 1 none (fun k hk => by have := List.mem_range.mp hk; omega) (by omega) (by omega) (by rw [ln]; omega)
  have rg : ∀ ρ M, oRng1 [.int ((m : Int) - 1)] ρ M = some (.ok ((List.range (m - 1)).map fun (k : Nat) => D.int (k : Int)), M) := fun ρ M => by
    have : (m : Int) - 1 = ((m - 1 : Nat) : Int) := by omega
    rw [this, oRng1_ap _ _ _ (by omega) (by omega), Int.toNat_natCast]
  refine ⟨v, M2, run_b ?_ (t1.trans t2) rfl, v0, Nat.lt_of_lt_of_le v1 (Nat.pow_le_pow_right (by decide) (by rw [ln]; omega)), t1.trans t2⟩
  have ec : ((1 + b' : Nat) : Int) = 1 + (b' : Int) := by push_cast; rfl
  rw [ec] at e3
  generalize (List.range (m - 1)).map (fun (k : Nat) => D.int (k : Int)) = DS at *
  simp -implicitDefEqProofs only [den__law_figures, sSeq_ap, sAsg_ap, sPar_ap, sRet_ap, sIf_ap, sExpr_ap, sNext_ap, bnd_ap, ret_ap, bindR_ok, thenR_ok, dVar_ap, varR_ok, seqR_nx, seqR_rt, asgR_ok, gNm_ap, gCn_ap, gcnR_ok, gNl_ap, gTp_fr, gTp_ap, gLs_ap, dCons_ap, dNil_ap, asB_ap, dOr_ap, dAnd_ap, dNot_ap, dAndV_ap, dOrV_ap, dNotV_ap, dIf_ap, oAdd_int, oSub_int, oLt_int, oLe_int, oGt_int, oGe_int, oNeg_int, oEq_int, oNe_int, oEq_fr, oNe_fr, oEq_bl, oNe_bl, oTup_ap, oLst_ap, oCall_ap, oAbs_ap, oMax_ap, oMin_ap, oToInt_b, oToInt_i, oLen_lst, oLen_scr, oLen_tup, oIx_lst, oIx_scr, oAdd_lst, oIx_tup, oIx_fr0, oIx_fr1, ixR_ok, oItL_ap, oItT_ap, sFor_ap, startD, List.map_cons, List.map_nil, List.length_cons, List.length_nil, List.replicate_succ, List.replicate_zero, List.cons_append, List.nil_append, List.append_nil, List.getElem?_cons_zero, List.getElem?_cons_succ, List.set_cons_zero, List.set_cons_succ, Nat.reduceAdd, Nat.reduceSub, Nat.sub_self, Nat.reduceLeDiff, List.all_cons, List.all_nil, np_fr, np_int, np_bl, np_tup, np_lst, np_str, np_non, Bool.and_self, Bool.and_true, if_true_, if_false_, zero_add', if_tt, if_ff, decide_true, decide_false, Nat.le_refl, oItS_lst, oItS_tup, oTupOf_lst, oTupOf_tup, oLstOf_lst, oLstOf_tup, oRv_lst, oRv_tup, oAdd_tup, dChain_ap, asTru_bl, asTru_tup, asTru_lst, oIsN_ap, oNotN_ap, asI_ap, oSl_tup, oSl_lst, oZip_tup, oZip_lst, oAddI_ap, oEqS_ap, oNeS_ap, oNe_nil, e1, e2, rg, e3]
theorem small_400 {x : Nat} (h : x ≤ 10 ^ 7) : x < 10 ^ 400 := Nat.lt_of_le_of_lt h (by decide +kernel)
theorem sz_zero : SzT 0 := ⟨by show (0 : Nat) < _; exact small_400 (by decide), by show (1 : Nat) < _; exact small_400 (by decide)⟩
end
/-! a brine written -/
def lyL (p : Rat × Rat) : List Nat := fL p.1 ++ 58 :: fL p.2
def lyT (p : Rat × Rat) : Str := ⟨(lyL p).toArray⟩
def bT (L : List (Rat × Rat)) : Str := match L with
  | [] => Str.ofString "none"
  | L => Txt.join (Str.ofString " ") (L.map lyT)
theorem bT_cons (p : Rat × Rat) (L : List (Rat × Rat)) : bT (p :: L) = Txt.join (Str.ofString " ") ((p :: L).map lyT) := rfl
structure SzP (p : Rat × Rat) : Prop where
  w : SzT p.1
  s : SzT p.2
theorem lyT_cps (p : Rat × Rat) : (lyT p).cps.toList = lyL p := by simp [lyT]
theorem fT_cps' (q : Rat) : (fT q).cps.toList = fL q := by simp [fT]
theorem fL_len {q : Rat} (h : SzT q) : (fL q).length ≤ 802 := by
  have := fT_len h
  rwa [len_cps, fT_cps'] at this
theorem lyT_len {p : Rat × Rat} (h : SzP p) : (lyT p).length ≤ 1605 := by
  have h1 := fL_len h.w
  have h2 := fL_len h.s
  rw [len_cps, lyT_cps]
  unfold lyL
  rw [List.length_append, List.length_cons]
  omega
theorem cps_c : (Str.ofString ":").cps.toList = [58] := by decide +kernel
theorem cps_b : (Str.ofString " ").cps.toList = [32] := by decide +kernel
def unF : D → Rat
  | .tup [.int a, .int b] => mkRat a b.toNat
  | _ => 0
theorem unF_fr (q : Rat) : unF (frQ q) = q := by
  show mkRat q.num (Int.toNat (q.den : Int)) = q
  rw [Int.toNat_natCast]
  exact Rat.mkRat_self q
def unL : D → Rat × Rat
  | .tup [a, b] => (unF a, unF b)
  | _ => (0, 0)
theorem unL_ly (p : Rat × Rat) : unL (lyQ p) = p := by
  show (unF (frQ p.1), unF (frQ p.2)) = p
  rw [unF_fr, unF_fr]
theorem lyT_eq {p : Rat × Rat} {CO : Str} (hc : CO.cps.toList = [58]) : fT p.1 ++ CO ++ fT p.2 = lyT p := by
  refine str_eq ?_
  rw [app_cps, app_cps, hc, fT_cps', fT_cps', lyT_cps]
  unfold lyL
  rw [List.append_assoc]; rfl
theorem btext_eq {L : List (Rat × Rat)} (h : ∀ p ∈ L, SzP p) (hl : L.length ≤ 1000) (M : Mem) : F_brine_text [.tup (L.map lyQ)] M = some (.ok (.str (bT L)), M) := by
  refine runF_pure ?_ rfl
  have cc := cps_c
  have cb := cps_b
  generalize hC : Str.ofString ":" = CO at cc
  have lc := fun (M : Mem) => oLc_pf (ρ := [some (.tup (L.map lyQ)), none, none, none]) (M := M) (b := gTp 2 (gCn (gNm 2) (gCn (gNm 3) gNl))) (tt := ret true) (te := bnd (bnd (bnd (dCons (dVar 2) dNil) (oCall 1 F_fraction_text)) fun d => bnd (ret (.str CO)) fun e => oAddS d e) fun d => bnd (bnd (dCons (dVar 3) dNil) (oCall 1 F_fraction_text)) fun e => oAddS d e) (vs := [2, 3]) (p := fun _ => true) (g := fun d => D.str (lyT (unL d))) (ds := L.map lyQ) (fun d hd => by
    obtain ⟨p, hp, rfl⟩ := List.mem_map.mp hd
    have sz := h p hp
    refine ⟨[some (.tup (L.map lyQ)), none, some (frQ p.1), some (frQ p.2)], by rw [gTp_ly]; rfl, fun _ => rfl, fun _ => ⟨rfl, fun M => ?_⟩⟩
    have e1 := ftext_eq sz.w M
    have e2 := ftext_eq sz.s M
    have f1 := fT_len sz.w
    have f2 := fT_len sz.s
    have cl : CO.length = 1 := by rw [len_cps, cc]; rfl
    have a1 := fun ρ => oAddS_ap (a := fT p.1) (b := CO) (by omega) ρ M
    have al : (fT p.1 ++ CO).length = (fT p.1).length + 1 := by rw [len_cps, app_cps, cc, List.length_append, len_cps]; rfl
    have a2 := fun ρ => oAddS_ap (a := fT p.1 ++ CO) (b := fT p.2) (by omega) ρ M
    rw [lyT_eq cc] at a2
    rw [unL_ly]
    simp -implicitDefEqProofs only [sSeq_ap, sAsg_ap, sPar_ap, sRet_ap, sIf_ap, sExpr_ap, sNext_ap, bnd_ap, ret_ap, bindR_ok, thenR_ok, dVar_ap, varR_ok, seqR_nx, seqR_rt, asgR_ok, gNm_ap, gCn_ap, gcnR_ok, gNl_ap, gTp_fr, gTp_ap, gLs_ap, dCons_ap, dNil_ap, asB_ap, dOr_ap, dAnd_ap, dNot_ap, dAndV_ap, dOrV_ap, dNotV_ap, dIf_ap, oAdd_int, oSub_int, oLt_int, oLe_int, oGt_int, oGe_int, oNeg_int, oEq_int, oNe_int, oEq_fr, oNe_fr, oEq_bl, oNe_bl, oTup_ap, oLst_ap, oCall_ap, oAbs_ap, oMax_ap, oMin_ap, oToInt_b, oToInt_i, oLen_lst, oLen_scr, oLen_tup, oIx_lst, oIx_scr, oAdd_lst, oIx_tup, oIx_fr0, oIx_fr1, ixR_ok, oItL_ap, oItT_ap, sFor_ap, startD, List.map_cons, List.map_nil, List.length_cons, List.length_nil, List.replicate_succ, List.replicate_zero, List.cons_append, List.nil_append, List.append_nil, List.getElem?_cons_zero, List.getElem?_cons_succ, List.set_cons_zero, List.set_cons_succ, Nat.reduceAdd, Nat.reduceSub, Nat.sub_self, Nat.reduceLeDiff, List.all_cons, List.all_nil, np_fr, np_int, np_bl, np_tup, np_lst, np_str, np_non, Bool.and_self, Bool.and_true, if_true_, if_false_, zero_add', if_tt, if_ff, decide_true, decide_false, Nat.le_refl, oItS_lst, oItS_tup, oTupOf_lst, oTupOf_tup, oLstOf_lst, oLstOf_tup, oRv_lst, oRv_tup, oAdd_tup, dChain_ap, asTru_bl, asTru_tup, asTru_lst, oIsN_ap, oNotN_ap, asI_ap, oSl_tup, oSl_lst, oZip_tup, oZip_lst, oAddI_ap, oEqS_ap, oNeS_ap, oNe_nil, e1, e2, a1, a2]) (by rw [List.length_map]; omega)
  have fm : ((L.map lyQ).filter fun _ => true).map (fun d => D.str (lyT (unL d))) = (L.map lyT).map D.str := by
    rw [List.filter_eq_self.mpr (fun _ _ => rfl), List.map_map, List.map_map]
    refine List.map_congr_left fun p _ => ?_
    show D.str (lyT (unL (lyQ p))) = _
    rw [unL_ly]; rfl
  rw [fm] at lc
  have at_ : ∀ ρ M, asTru (.lst ((L.map lyT).map D.str)) ρ M = some (.ok (!L.isEmpty), M) := fun ρ M => by
    unfold asTru seqOf
    dsimp only
    cases L <;> rfl
  have oks : ∀ (z : Str) ρ M, okStr (.str z) ρ M = some (.ok z, M) := fun _ _ _ => rfl
  have bl : (Str.ofString " ").length = 1 := by rw [len_cps, cb]; rfl
  have jn : ∀ ρ M, oJn (Str.ofString " ") (.lst ((L.map lyT).map D.str)) ρ M = some (.ok (.str (Txt.join (Str.ofString " ") (L.map lyT))), M) := fun ρ M => by
    unfold oJn seqOf
    dsimp only
    rw [strsOf_map]
    dsimp only
    rw [if_pos]
    rw [bl]
    have : ∀ l : List (Rat × Rat), (∀ p ∈ l, SzP p) → ((l.map lyT).map fun x => x.length).sum ≤ 1605 * l.length := fun l => by
      induction l with
      | nil => exact fun _ => Nat.le_refl _
      | cons a l ih =>
        intro hh
        rw [List.map_cons, List.map_cons, List.sum_cons, List.length_cons]
        have := ih fun p hp => hh p (List.mem_cons_of_mem _ hp)
        have := lyT_len (hh a (List.mem_cons_self ..))
        omega
    have := this L h
    rw [List.length_map]
    show _ ≤ 16777216
    omega
  generalize hB : Str.ofString " " = SP at *
  cases L with
  | nil =>
    have lc' := lc M
    have at' := at_
    simp -implicitDefEqProofs only [List.map_nil] at lc' at' ⊢
    simp -implicitDefEqProofs only [den_brine_text, sSeq_ap, sAsg_ap, sPar_ap, sRet_ap, sIf_ap, sExpr_ap, sNext_ap, bnd_ap, ret_ap, bindR_ok, thenR_ok, dVar_ap, varR_ok, seqR_nx, seqR_rt, asgR_ok, gNm_ap, gCn_ap, gcnR_ok, gNl_ap, gTp_fr, gTp_ap, gLs_ap, dCons_ap, dNil_ap, asB_ap, dOr_ap, dAnd_ap, dNot_ap, dAndV_ap, dOrV_ap, dNotV_ap, dIf_ap, oAdd_int, oSub_int, oLt_int, oLe_int, oGt_int, oGe_int, oNeg_int, oEq_int, oNe_int, oEq_fr, oNe_fr, oEq_bl, oNe_bl, oTup_ap, oLst_ap, oCall_ap, oAbs_ap, oMax_ap, oMin_ap, oToInt_b, oToInt_i, oLen_lst, oLen_scr, oLen_tup, oIx_lst, oIx_scr, oAdd_lst, oIx_tup, oIx_fr0, oIx_fr1, ixR_ok, oItL_ap, oItT_ap, sFor_ap, startD, List.map_cons, List.map_nil, List.length_cons, List.length_nil, List.replicate_succ, List.replicate_zero, List.cons_append, List.nil_append, List.append_nil, List.getElem?_cons_zero, List.getElem?_cons_succ, List.set_cons_zero, List.set_cons_succ, Nat.reduceAdd, Nat.reduceSub, Nat.sub_self, Nat.reduceLeDiff, List.all_cons, List.all_nil, np_fr, np_int, np_bl, np_tup, np_lst, np_str, np_non, Bool.and_self, Bool.and_true, if_true_, if_false_, zero_add', if_tt, if_ff, decide_true, decide_false, Nat.le_refl, oItS_lst, oItS_tup, oTupOf_lst, oTupOf_tup, oLstOf_lst, oLstOf_tup, oRv_lst, oRv_tup, oAdd_tup, dChain_ap, asTru_bl, asTru_tup, asTru_lst, oIsN_ap, oNotN_ap, asI_ap, oSl_tup, oSl_lst, oZip_tup, oZip_lst, oAddI_ap, oEqS_ap, oNeS_ap, oNe_nil, hC, hB, lc', at', List.isEmpty_nil, Bool.not_true, Bool.false_eq_true]
    rfl
  | cons p L =>
    rw [bT_cons, hB]
    generalize (p :: L).map lyQ = LQ at *
    generalize hS : ((p :: L).map lyT).map D.str = LS at *
    generalize Txt.join SP ((p :: L).map lyT) = JJ at *
    simp -implicitDefEqProofs only [den_brine_text, sSeq_ap, sAsg_ap, sPar_ap, sRet_ap, sIf_ap, sExpr_ap, sNext_ap, bnd_ap, ret_ap, bindR_ok, thenR_ok, dVar_ap, varR_ok, seqR_nx, seqR_rt, asgR_ok, gNm_ap, gCn_ap, gcnR_ok, gNl_ap, gTp_fr, gTp_ap, gLs_ap, dCons_ap, dNil_ap, asB_ap, dOr_ap, dAnd_ap, dNot_ap, dAndV_ap, dOrV_ap, dNotV_ap, dIf_ap, oAdd_int, oSub_int, oLt_int, oLe_int, oGt_int, oGe_int, oNeg_int, oEq_int, oNe_int, oEq_fr, oNe_fr, oEq_bl, oNe_bl, oTup_ap, oLst_ap, oCall_ap, oAbs_ap, oMax_ap, oMin_ap, oToInt_b, oToInt_i, oLen_lst, oLen_scr, oLen_tup, oIx_lst, oIx_scr, oAdd_lst, oIx_tup, oIx_fr0, oIx_fr1, ixR_ok, oItL_ap, oItT_ap, sFor_ap, startD, List.map_cons, List.map_nil, List.length_cons, List.length_nil, List.replicate_succ, List.replicate_zero, List.cons_append, List.nil_append, List.append_nil, List.getElem?_cons_zero, List.getElem?_cons_succ, List.set_cons_zero, List.set_cons_succ, Nat.reduceAdd, Nat.reduceSub, Nat.sub_self, Nat.reduceLeDiff, List.all_cons, List.all_nil, np_fr, np_int, np_bl, np_tup, np_lst, np_str, np_non, Bool.and_self, Bool.and_true, if_true_, if_false_, zero_add', if_tt, if_ff, decide_true, decide_false, Nat.le_refl, oItS_lst, oItS_tup, oTupOf_lst, oTupOf_tup, oLstOf_lst, oLstOf_tup, oRv_lst, oRv_tup, oAdd_tup, dChain_ap, asTru_bl, asTru_tup, asTru_lst, oIsN_ap, oNotN_ap, asI_ap, oSl_tup, oSl_lst, oZip_tup, oZip_lst, oAddI_ap, oEqS_ap, oNeS_ap, oNe_nil, hC, hB, lc, at_, oks, jn, List.isEmpty_cons, Bool.not_false, Bool.false_eq_true]
/-! the law's own text -/
theorem atxt_loop : ∀ (L : List (Rat × Rat)) (z : Str) (B o2 o3 : Option D) (M : Mem), (∀ p ∈ L, SzP p) → z.length + 2000 * L.length ≤ 10000000 → ∃ (z' : Str) (p2 p3 : Option D), forF (gTp 2 (gCn (gNm 2) (gCn (gNm 3) gNl))) den__law_a_text_L1 (L.map lyQ) [B, some (.str z), o2, o3] M = some (.nx [B, some (.str z'), p2, p3], M) ∧ z'.cps.toList = z.cps.toList ++ (L.map fun p => 32 :: lyL p).flatten
  | [], z, B, o2, o3, M, _, _ => ⟨z, o2, o3, rfl, by simp⟩
  | p :: L, z, B, o2, o3, M, h, hz => by
    rw [List.length_cons] at hz
    have sz := h p (List.mem_cons_self ..)
    have cc := cps_c
    have cb := cps_b
    have e1 := written_eq sz.w M
    have e2 := written_eq sz.s M
    have f1 := fT_len sz.w
    have f2 := fT_len sz.s
    generalize hC : Str.ofString ":" = CO at cc
    generalize hB : Str.ofString " " = SP at cb
    have cl : CO.length = 1 := by rw [len_cps, cc]; rfl
    have bl : SP.length = 1 := by rw [len_cps, cb]; rfl
    have lap : ∀ a b : Str, (a ++ b).length = a.length + b.length := fun a b => by rw [len_cps, app_cps, List.length_append, len_cps, len_cps]
    have a1 := fun ρ => oAddS_ap (a := z) (b := SP) (by omega) ρ M
    have a2 := fun ρ => oAddS_ap (a := z ++ SP) (b := fT p.1) (by rw [lap]; omega) ρ M
    have a3 := fun ρ => oAddS_ap (a := z ++ SP ++ fT p.1) (b := CO) (by rw [lap, lap]; omega) ρ M
    have a4 := fun ρ => oAddS_ap (a := z ++ SP ++ fT p.1 ++ CO) (b := fT p.2) (by rw [lap, lap, lap]; omega) ρ M
    have zc : (z ++ SP ++ fT p.1 ++ CO ++ fT p.2).cps.toList = z.cps.toList ++ 32 :: lyL p := by
      rw [app_cps, app_cps, app_cps, app_cps, cb, cc, fT_cps', fT_cps']
      unfold lyL
      simp
    have zl : (z ++ SP ++ fT p.1 ++ CO ++ fT p.2).length ≤ z.length + 2000 := by rw [lap, lap, lap, lap]; omega
    generalize z ++ SP ++ fT p.1 ++ CO ++ fT p.2 = z1 at a4 zc zl
    generalize z ++ SP ++ fT p.1 ++ CO = z2 at *
    generalize z ++ SP ++ fT p.1 = z3 at *
    generalize z ++ SP = z4 at *
    obtain ⟨z', p2, p3, e, hz'⟩ := atxt_loop L z1 B (some (frQ p.1)) (some (frQ p.2)) M (fun q hq => h q (List.mem_cons_of_mem _ hq)) (by omega)
    refine ⟨z', p2, p3, ?_, by rw [hz', zc, List.map_cons, List.flatten_cons, List.append_assoc]⟩
    rw [List.map_cons, forF_cons, gTp_ly]
    generalize fT p.1 = T1 at *
    generalize fT p.2 = T2 at *
    simp -implicitDefEqProofs only [sSeq_ap, sAsg_ap, sPar_ap, sRet_ap, sIf_ap, sExpr_ap, sNext_ap, bnd_ap, ret_ap, bindR_ok, thenR_ok, dVar_ap, varR_ok, seqR_nx, seqR_rt, asgR_ok, gNm_ap, gCn_ap, gcnR_ok, gNl_ap, gTp_fr, gTp_ap, gLs_ap, dCons_ap, dNil_ap, asB_ap, dOr_ap, dAnd_ap, dNot_ap, dAndV_ap, dOrV_ap, dNotV_ap, dIf_ap, oAdd_int, oSub_int, oLt_int, oLe_int, oGt_int, oGe_int, oNeg_int, oEq_int, oNe_int, oEq_fr, oNe_fr, oEq_bl, oNe_bl, oTup_ap, oLst_ap, oCall_ap, oAbs_ap, oMax_ap, oMin_ap, oToInt_b, oToInt_i, oLen_lst, oLen_scr, oLen_tup, oIx_lst, oIx_scr, oAdd_lst, oIx_tup, oIx_fr0, oIx_fr1, ixR_ok, oItL_ap, oItT_ap, sFor_ap, startD, List.map_cons, List.map_nil, List.length_cons, List.length_nil, List.replicate_succ, List.replicate_zero, List.cons_append, List.nil_append, List.append_nil, List.getElem?_cons_zero, List.getElem?_cons_succ, List.set_cons_zero, List.set_cons_succ, Nat.reduceAdd, Nat.reduceSub, Nat.sub_self, Nat.reduceLeDiff, List.all_cons, List.all_nil, np_fr, np_int, np_bl, np_tup, np_lst, np_str, np_non, Bool.and_self, Bool.and_true, if_true_, if_false_, zero_add', if_tt, if_ff, decide_true, decide_false, Nat.le_refl, oItS_lst, oItS_tup, oTupOf_lst, oTupOf_tup, oLstOf_lst, oLstOf_tup, oRv_lst, oRv_tup, oAdd_tup, dChain_ap, asTru_bl, asTru_tup, asTru_lst, oIsN_ap, oNotN_ap, asI_ap, oSl_tup, oSl_lst, oZip_tup, oZip_lst, oAddI_ap, oEqS_ap, oNeS_ap, oNe_nil, forB_ok]
    have st : den__law_a_text_L1 [B, some (.str z), some (frQ p.1), some (frQ p.2)] M = some (.nx [B, some (.str z1), some (frQ p.1), some (frQ p.2)], M) := by
      simp -implicitDefEqProofs only [den__law_a_text_L1, sSeq_ap, sAsg_ap, sPar_ap, sRet_ap, sIf_ap, sExpr_ap, sNext_ap, bnd_ap, ret_ap, bindR_ok, thenR_ok, dVar_ap, varR_ok, seqR_nx, seqR_rt, asgR_ok, gNm_ap, gCn_ap, gcnR_ok, gNl_ap, gTp_fr, gTp_ap, gLs_ap, dCons_ap, dNil_ap, asB_ap, dOr_ap, dAnd_ap, dNot_ap, dAndV_ap, dOrV_ap, dNotV_ap, dIf_ap, oAdd_int, oSub_int, oLt_int, oLe_int, oGt_int, oGe_int, oNeg_int, oEq_int, oNe_int, oEq_fr, oNe_fr, oEq_bl, oNe_bl, oTup_ap, oLst_ap, oCall_ap, oAbs_ap, oMax_ap, oMin_ap, oToInt_b, oToInt_i, oLen_lst, oLen_scr, oLen_tup, oIx_lst, oIx_scr, oAdd_lst, oIx_tup, oIx_fr0, oIx_fr1, ixR_ok, oItL_ap, oItT_ap, sFor_ap, startD, List.map_cons, List.map_nil, List.length_cons, List.length_nil, List.replicate_succ, List.replicate_zero, List.cons_append, List.nil_append, List.append_nil, List.getElem?_cons_zero, List.getElem?_cons_succ, List.set_cons_zero, List.set_cons_succ, Nat.reduceAdd, Nat.reduceSub, Nat.sub_self, Nat.reduceLeDiff, List.all_cons, List.all_nil, np_fr, np_int, np_bl, np_tup, np_lst, np_str, np_non, Bool.and_self, Bool.and_true, if_true_, if_false_, zero_add', if_tt, if_ff, decide_true, decide_false, Nat.le_refl, oItS_lst, oItS_tup, oTupOf_lst, oTupOf_tup, oLstOf_lst, oLstOf_tup, oRv_lst, oRv_tup, oAdd_tup, dChain_ap, asTru_bl, asTru_tup, asTru_lst, oIsN_ap, oNotN_ap, asI_ap, oSl_tup, oSl_lst, oZip_tup, oZip_lst, oAddI_ap, oEqS_ap, oNeS_ap, oNe_nil, hC, hB, e1, e2, a1, a2, a3, a4]
    simp -implicitDefEqProofs only [sSeq_ap, sAsg_ap, sPar_ap, sRet_ap, sIf_ap, sExpr_ap, sNext_ap, bnd_ap, ret_ap, bindR_ok, thenR_ok, dVar_ap, varR_ok, seqR_nx, seqR_rt, asgR_ok, gNm_ap, gCn_ap, gcnR_ok, gNl_ap, gTp_fr, gTp_ap, gLs_ap, dCons_ap, dNil_ap, asB_ap, dOr_ap, dAnd_ap, dNot_ap, dAndV_ap, dOrV_ap, dNotV_ap, dIf_ap, oAdd_int, oSub_int, oLt_int, oLe_int, oGt_int, oGe_int, oNeg_int, oEq_int, oNe_int, oEq_fr, oNe_fr, oEq_bl, oNe_bl, oTup_ap, oLst_ap, oCall_ap, oAbs_ap, oMax_ap, oMin_ap, oToInt_b, oToInt_i, oLen_lst, oLen_scr, oLen_tup, oIx_lst, oIx_scr, oAdd_lst, oIx_tup, oIx_fr0, oIx_fr1, ixR_ok, oItL_ap, oItT_ap, sFor_ap, startD, List.map_cons, List.map_nil, List.length_cons, List.length_nil, List.replicate_succ, List.replicate_zero, List.cons_append, List.nil_append, List.append_nil, List.getElem?_cons_zero, List.getElem?_cons_succ, List.set_cons_zero, List.set_cons_succ, Nat.reduceAdd, Nat.reduceSub, Nat.sub_self, Nat.reduceLeDiff, List.all_cons, List.all_nil, np_fr, np_int, np_bl, np_tup, np_lst, np_str, np_non, Bool.and_self, Bool.and_true, if_true_, if_false_, zero_add', if_tt, if_ff, decide_true, decide_false, Nat.le_refl, oItS_lst, oItS_tup, oTupOf_lst, oTupOf_tup, oLstOf_lst, oLstOf_tup, oRv_lst, oRv_tup, oAdd_tup, dChain_ap, asTru_bl, asTru_tup, asTru_lst, oIsN_ap, oNotN_ap, asI_ap, oSl_tup, oSl_lst, oZip_tup, oZip_lst, oAddI_ap, oEqS_ap, oNeS_ap, oNe_nil, st, ofR_nx, e]
theorem joinL_eq (x : List Nat) : ∀ r : List (List Nat), TL.joinL [32] (x :: r) = x ++ (r.map fun y => 32 :: y).flatten := by
  intro r
  induction r generalizing x with
  | nil => simp [TL.joinL]
  | cons y r ih =>
    show x ++ ([32] ++ TL.joinL [32] (y :: r)) = _
    rw [ih y]
    simp
theorem join_sp (p : Rat × Rat) (L : List (Rat × Rat)) : (Txt.join (Str.ofString " ") ((p :: L).map lyT)).cps.toList = lyL p ++ (L.map fun q => 32 :: lyL q).flatten := by
  have h : TL.tl (Txt.join (Str.ofString " ") ((p :: L).map lyT)) = TL.joinL (TL.tl (Str.ofString " ")) (((p :: L).map lyT).map TL.tl) := by
    rw [TL.join_eq]; exact TL.tl_join _ _
  have e : TL.tl (Str.ofString " ") = [32] := cps_b
  rw [e, List.map_cons, List.map_cons, joinL_eq] at h
  show TL.tl _ = _
  rw [List.map_cons, h]
  have h1 : TL.tl (lyT p) = lyL p := lyT_cps p
  rw [h1, List.map_map, List.map_map]
  congr 2
theorem cut1 {z : Str} {c : Nat} {r : List Nat} (h : z.cps.toList = c :: r) : (cutS z (some 1) none).cps.toList = r := by
  have l : z.length = r.length + 1 := by rw [len_cps, h]; rfl
  show ((z.cps.toList.drop (HT.sIx z.length 0 (some 1))).take (HT.sIx z.length z.length none - HT.sIx z.length 0 (some 1))).toArray.toList = r
  rw [show (some (1 : Int)) = some (((1 : Nat)) : Int) from rfl, HT.sIx_nat, HT.sIx_none, h, l, Nat.min_eq_left (by omega)]
  simp
theorem neT_lys (L : List (Rat × Rat)) (ρ : Env) (M : Mem) : oNe (.tup (L.map lyQ)) (.tup []) ρ M = some (.ok (.bl (!L.isEmpty)), M) := by
  unfold oNe
  rw [if_pos ⟨plL_lys L, rfl, (shaped_lys L).2, rfl⟩]
  cases L <;> rfl
theorem atxt_eq {L : List (Rat × Rat)} (h : ∀ p ∈ L, SzP p) (hl : L.length ≤ 1000) (M : Mem) : F__law_a_text [.tup (L.map lyQ)] M = some (.ok (.str (bT L)), M) := by
  refine runF_pure ?_ rfl
  have c0 := cps_0
  generalize h0 : Str.ofString "" = S0 at c0
  have s0 : S0.length = 0 := by rw [len_cps, c0]; rfl
  obtain ⟨z, p2, p3, e, hz⟩ := atxt_loop L S0 (some (.tup (L.map lyQ))) none none M h (by omega)
  rw [c0, List.nil_append] at hz
  have ne := neT_lys L
  have ot : ∀ ρ M, oTup [] ρ M = some (.ok (.tup []), M) := fun _ _ => rfl
  cases L with
  | nil =>
    simp -implicitDefEqProofs only [List.map_nil, List.isEmpty_nil, Bool.not_true] at e ne ⊢
    simp -implicitDefEqProofs only [den__law_a_text, sSeq_ap, sAsg_ap, sPar_ap, sRet_ap, sIf_ap, sExpr_ap, sNext_ap, bnd_ap, ret_ap, bindR_ok, thenR_ok, dVar_ap, varR_ok, seqR_nx, seqR_rt, asgR_ok, gNm_ap, gCn_ap, gcnR_ok, gNl_ap, gTp_fr, gTp_ap, gLs_ap, dCons_ap, dNil_ap, asB_ap, dOr_ap, dAnd_ap, dNot_ap, dAndV_ap, dOrV_ap, dNotV_ap, dIf_ap, oAdd_int, oSub_int, oLt_int, oLe_int, oGt_int, oGe_int, oNeg_int, oEq_int, oNe_int, oEq_fr, oNe_fr, oEq_bl, oNe_bl, oTup_ap, oLst_ap, oCall_ap, oAbs_ap, oMax_ap, oMin_ap, oToInt_b, oToInt_i, oLen_lst, oLen_scr, oLen_tup, oIx_lst, oIx_scr, oAdd_lst, oIx_tup, oIx_fr0, oIx_fr1, ixR_ok, oItL_ap, oItT_ap, sFor_ap, startD, List.map_cons, List.map_nil, List.length_cons, List.length_nil, List.replicate_succ, List.replicate_zero, List.cons_append, List.nil_append, List.append_nil, List.getElem?_cons_zero, List.getElem?_cons_succ, List.set_cons_zero, List.set_cons_succ, Nat.reduceAdd, Nat.reduceSub, Nat.sub_self, Nat.reduceLeDiff, List.all_cons, List.all_nil, np_fr, np_int, np_bl, np_tup, np_lst, np_str, np_non, Bool.and_self, Bool.and_true, if_true_, if_false_, zero_add', if_tt, if_ff, decide_true, decide_false, Nat.le_refl, oItS_lst, oItS_tup, oTupOf_lst, oTupOf_tup, oLstOf_lst, oLstOf_tup, oRv_lst, oRv_tup, oAdd_tup, dChain_ap, asTru_bl, asTru_tup, asTru_lst, oIsN_ap, oNotN_ap, asI_ap, oSl_tup, oSl_lst, oZip_tup, oZip_lst, oAddI_ap, oEqS_ap, oNeS_ap, oNe_nil, h0, e, ot, ne, Bool.false_eq_true]
    rfl
  | cons p L =>
    have zl : z.length ≤ 16777216 := by
      rw [len_cps, hz]
      have : ∀ l : List (Rat × Rat), (∀ p ∈ l, SzP p) → ((l.map fun p => 32 :: lyL p).flatten).length ≤ 1606 * l.length := fun l => by
        induction l with
        | nil => exact fun _ => Nat.le_refl _
        | cons a l ih =>
          intro hh
          rw [List.map_cons, List.flatten_cons, List.length_append, List.length_cons, List.length_cons]
          have := ih fun p hp => hh p (List.mem_cons_of_mem _ hp)
          have := lyT_len (hh a (List.mem_cons_self ..))
          rw [len_cps, lyT_cps] at this
          omega
      have := this _ h
      omega
    have sl := oSlT_ap zl (some 1) none
    have ce : cutS z (some 1) none = bT (p :: L) := by
      refine str_eq ?_
      rw [bT_cons, join_sp, cut1 (c := 32) (r := lyL p ++ (L.map fun q => 32 :: lyL q).flatten) (by rw [hz]; simp)]
    rw [ce] at sl
    generalize bT (p :: L) = BT at *
    simp -implicitDefEqProofs only [List.isEmpty_cons, Bool.not_false] at ne
    generalize (p :: L).map lyQ = LQ at *
    simp -implicitDefEqProofs only [den__law_a_text, sSeq_ap, sAsg_ap, sPar_ap, sRet_ap, sIf_ap, sExpr_ap, sNext_ap, bnd_ap, ret_ap, bindR_ok, thenR_ok, dVar_ap, varR_ok, seqR_nx, seqR_rt, asgR_ok, gNm_ap, gCn_ap, gcnR_ok, gNl_ap, gTp_fr, gTp_ap, gLs_ap, dCons_ap, dNil_ap, asB_ap, dOr_ap, dAnd_ap, dNot_ap, dAndV_ap, dOrV_ap, dNotV_ap, dIf_ap, oAdd_int, oSub_int, oLt_int, oLe_int, oGt_int, oGe_int, oNeg_int, oEq_int, oNe_int, oEq_fr, oNe_fr, oEq_bl, oNe_bl, oTup_ap, oLst_ap, oCall_ap, oAbs_ap, oMax_ap, oMin_ap, oToInt_b, oToInt_i, oLen_lst, oLen_scr, oLen_tup, oIx_lst, oIx_scr, oAdd_lst, oIx_tup, oIx_fr0, oIx_fr1, ixR_ok, oItL_ap, oItT_ap, sFor_ap, startD, List.map_cons, List.map_nil, List.length_cons, List.length_nil, List.replicate_succ, List.replicate_zero, List.cons_append, List.nil_append, List.append_nil, List.getElem?_cons_zero, List.getElem?_cons_succ, List.set_cons_zero, List.set_cons_succ, Nat.reduceAdd, Nat.reduceSub, Nat.sub_self, Nat.reduceLeDiff, List.all_cons, List.all_nil, np_fr, np_int, np_bl, np_tup, np_lst, np_str, np_non, Bool.and_self, Bool.and_true, if_true_, if_false_, zero_add', if_tt, if_ff, decide_true, decide_false, Nat.le_refl, oItS_lst, oItS_tup, oTupOf_lst, oTupOf_tup, oLstOf_lst, oLstOf_tup, oRv_lst, oRv_tup, oAdd_tup, dChain_ap, asTru_bl, asTru_tup, asTru_lst, oIsN_ap, oNotN_ap, asI_ap, oSl_tup, oSl_lst, oZip_tup, oZip_lst, oAddI_ap, oEqS_ap, oNeS_ap, oNe_nil, h0, e, ot, ne, sl]
/-! a brine read -/
theorem SzT.bd {q : Rat} (h : SzT q) : Bd 1400 q := ⟨Nat.lt_trans h.n ten_1400, Nat.lt_trans h.d ten_1400⟩
theorem nought_Q : C_NOUGHT = frQ 0 := rfl
def LyK (f : Rat) (p : Rat × Rat) : Prop := 0 ≤ p.1 ∧ 0 ≤ p.2 ∧ (p.1 = 0 → p.2 ≠ 0) ∧ p.2 ≤ f * p.1 ∨ (p.1 = 0 ∧ 0 < p.2)
structure LyG (f : Rat) (p : Rat × Rat) : Prop where
  w0 : 0 ≤ p.1
  s0 : 0 ≤ p.2
  z : p.1 = 0 → p.2 ≠ 0
  le : p.1 ≠ 0 → p.2 ≤ f * p.1
theorem islay_eq {f : Rat} {p : Rat × Rat} (bf : Bd 1400 f) (sz : SzP p) (g : LyG f p) (M : Mem) : F_is_layer [frQ f, lyQ p] M = some (.ok (.bl true), M) := by
  refine runF_pure ?_ rfl
  obtain ⟨w, s⟩ := p
  have it : ∀ ρ M, oIsi (fun a => kitB a "tuple") (fun _ => none) (lyQ (w, s)) ρ M = some (.ok (.bl true), M) := fun ρ M => oIsi_tup (np_ly _) _ ρ M
  have ln : ∀ ρ M, oLen [lyQ (w, s)] ρ M = some (.ok (.int 2), M) := fun _ _ => rfl
  have n2 : decide ((2 : Int) = 2) = true := rfl
  have f1 := isfr_fr w M
  have f2 := isfr_fr s M
  have bz : Bd 4000 (0 : Rat) := Bd.zero.mpr (by decide)
  have bw := sz.w.bd
  have bs := sz.s.bd
  have l1 := isless_eq (bw.mono (n := 4000) (by decide)) bz M
  have l2 := isless_eq (bs.mono (n := 4000) (by decide)) bz M
  have d1 : decide (w < 0) = false := decide_eq_false (Rat.not_lt.mpr g.w0)
  have d2 : decide (s < 0) = false := decide_eq_false (Rat.not_lt.mpr g.s0)
  rw [d1] at l1
  rw [d2] at l2
  have nq := nought_Q
  have tp := gTp_ly
  by_cases c : w = 0
  · have dc : decide (w = 0) = true := decide_eq_true c
    have ds : decide (s = 0) = false := decide_eq_false (g.z c)
    simp -implicitDefEqProofs only [den_is_layer, sSeq_ap, sAsg_ap, sPar_ap, sRet_ap, sIf_ap, sExpr_ap, sNext_ap, bnd_ap, ret_ap, bindR_ok, thenR_ok, dVar_ap, varR_ok, seqR_nx, seqR_rt, asgR_ok, gNm_ap, gCn_ap, gcnR_ok, gNl_ap, gTp_fr, gTp_ap, gLs_ap, dCons_ap, dNil_ap, asB_ap, dOr_ap, dAnd_ap, dNot_ap, dAndV_ap, dOrV_ap, dNotV_ap, dIf_ap, oAdd_int, oSub_int, oLt_int, oLe_int, oGt_int, oGe_int, oNeg_int, oEq_int, oNe_int, oEq_fr, oNe_fr, oEq_bl, oNe_bl, oTup_ap, oLst_ap, oCall_ap, oAbs_ap, oMax_ap, oMin_ap, oToInt_b, oToInt_i, oLen_lst, oLen_scr, oLen_tup, oIx_lst, oIx_scr, oAdd_lst, oIx_tup, oIx_fr0, oIx_fr1, ixR_ok, oItL_ap, oItT_ap, sFor_ap, startD, List.map_cons, List.map_nil, List.length_cons, List.length_nil, List.replicate_succ, List.replicate_zero, List.cons_append, List.nil_append, List.append_nil, List.getElem?_cons_zero, List.getElem?_cons_succ, List.set_cons_zero, List.set_cons_succ, Nat.reduceAdd, Nat.reduceSub, Nat.sub_self, Nat.reduceLeDiff, List.all_cons, List.all_nil, np_fr, np_int, np_bl, np_tup, np_lst, np_str, np_non, Bool.and_self, Bool.and_true, if_true_, if_false_, zero_add', if_tt, if_ff, decide_true, decide_false, Nat.le_refl, oItS_lst, oItS_tup, oTupOf_lst, oTupOf_tup, oLstOf_lst, oLstOf_tup, oRv_lst, oRv_tup, oAdd_tup, dChain_ap, asTru_bl, asTru_tup, asTru_lst, oIsN_ap, oNotN_ap, asI_ap, oSl_tup, oSl_lst, oZip_tup, oZip_lst, oAddI_ap, oEqS_ap, oNeS_ap, oNe_nil, it, ln, n2, tp, f1, f2, nq, l1, l2, dc, ds, Bool.not_true, Bool.not_false, Bool.false_eq_true]
  · have dc : decide (w = 0) = false := decide_eq_false c
    have t1 := times_eq (bf.mono (n := 4000) (by decide)) (bw.mono (n := 4000) (by decide)) M
    have l3 := isless_eq ((bf.mul bw).mono (n := 4000) (by decide)) (bs.mono (n := 4000) (by decide)) M
    have d3 : decide (f * w < s) = false := decide_eq_false (Rat.not_lt.mpr (g.le c))
    rw [d3] at l3
    simp -implicitDefEqProofs only [den_is_layer, sSeq_ap, sAsg_ap, sPar_ap, sRet_ap, sIf_ap, sExpr_ap, sNext_ap, bnd_ap, ret_ap, bindR_ok, thenR_ok, dVar_ap, varR_ok, seqR_nx, seqR_rt, asgR_ok, gNm_ap, gCn_ap, gcnR_ok, gNl_ap, gTp_fr, gTp_ap, gLs_ap, dCons_ap, dNil_ap, asB_ap, dOr_ap, dAnd_ap, dNot_ap, dAndV_ap, dOrV_ap, dNotV_ap, dIf_ap, oAdd_int, oSub_int, oLt_int, oLe_int, oGt_int, oGe_int, oNeg_int, oEq_int, oNe_int, oEq_fr, oNe_fr, oEq_bl, oNe_bl, oTup_ap, oLst_ap, oCall_ap, oAbs_ap, oMax_ap, oMin_ap, oToInt_b, oToInt_i, oLen_lst, oLen_scr, oLen_tup, oIx_lst, oIx_scr, oAdd_lst, oIx_tup, oIx_fr0, oIx_fr1, ixR_ok, oItL_ap, oItT_ap, sFor_ap, startD, List.map_cons, List.map_nil, List.length_cons, List.length_nil, List.replicate_succ, List.replicate_zero, List.cons_append, List.nil_append, List.append_nil, List.getElem?_cons_zero, List.getElem?_cons_succ, List.set_cons_zero, List.set_cons_succ, Nat.reduceAdd, Nat.reduceSub, Nat.sub_self, Nat.reduceLeDiff, List.all_cons, List.all_nil, np_fr, np_int, np_bl, np_tup, np_lst, np_str, np_non, Bool.and_self, Bool.and_true, if_true_, if_false_, zero_add', if_tt, if_ff, decide_true, decide_false, Nat.le_refl, oItS_lst, oItS_tup, oTupOf_lst, oTupOf_tup, oLstOf_lst, oLstOf_tup, oRv_lst, oRv_tup, oAdd_tup, dChain_ap, asTru_bl, asTru_tup, asTru_lst, oIsN_ap, oNotN_ap, asI_ap, oSl_tup, oSl_lst, oZip_tup, oZip_lst, oAddI_ap, oEqS_ap, oNeS_ap, oNe_nil, it, ln, n2, tp, f1, f2, nq, l1, l2, dc, t1, l3, Bool.not_true, Bool.not_false, Bool.false_eq_true]
def Bnth (p q : Rat × Rat) : Prop := q.2 * p.1 < p.2 * q.1
theorem bnth_eq {p q : Rat × Rat} (sp : SzP p) (sq : SzP q) (h : Bnth p q) (M : Mem) : F_is_beneath [lyQ p, lyQ q] M = some (.ok (.bl true), M) := by
  refine runF_pure ?_ rfl
  have t1 := times_eq (sq.s.bd.mono (n := 4000) (by decide)) (sp.w.bd.mono (n := 4000) (by decide)) M
  have t2 := times_eq (sp.s.bd.mono (n := 4000) (by decide)) (sq.w.bd.mono (n := 4000) (by decide)) M
  have l := isless_eq ((sq.s.bd.mul sp.w.bd).mono (n := 4000) (by decide)) ((sp.s.bd.mul sq.w.bd).mono (n := 4000) (by decide)) M
  have d : decide (q.2 * p.1 < p.2 * q.1) = true := decide_eq_true h
  rw [d] at l
  simp -implicitDefEqProofs only [den_is_beneath, sSeq_ap, sAsg_ap, sPar_ap, sRet_ap, sIf_ap, sExpr_ap, sNext_ap, bnd_ap, ret_ap, bindR_ok, thenR_ok, dVar_ap, varR_ok, seqR_nx, seqR_rt, asgR_ok, gNm_ap, gCn_ap, gcnR_ok, gNl_ap, gTp_fr, gTp_ap, gLs_ap, dCons_ap, dNil_ap, asB_ap, dOr_ap, dAnd_ap, dNot_ap, dAndV_ap, dOrV_ap, dNotV_ap, dIf_ap, oAdd_int, oSub_int, oLt_int, oLe_int, oGt_int, oGe_int, oNeg_int, oEq_int, oNe_int, oEq_fr, oNe_fr, oEq_bl, oNe_bl, oTup_ap, oLst_ap, oCall_ap, oAbs_ap, oMax_ap, oMin_ap, oToInt_b, oToInt_i, oLen_lst, oLen_scr, oLen_tup, oIx_lst, oIx_scr, oAdd_lst, oIx_tup, oIx_fr0, oIx_fr1, ixR_ok, oItL_ap, oItT_ap, sFor_ap, startD, List.map_cons, List.map_nil, List.length_cons, List.length_nil, List.replicate_succ, List.replicate_zero, List.cons_append, List.nil_append, List.append_nil, List.getElem?_cons_zero, List.getElem?_cons_succ, List.set_cons_zero, List.set_cons_succ, Nat.reduceAdd, Nat.reduceSub, Nat.sub_self, Nat.reduceLeDiff, List.all_cons, List.all_nil, np_fr, np_int, np_bl, np_tup, np_lst, np_str, np_non, Bool.and_self, Bool.and_true, if_true_, if_false_, zero_add', if_tt, if_ff, decide_true, decide_false, Nat.le_refl, oItS_lst, oItS_tup, oTupOf_lst, oTupOf_tup, oLstOf_lst, oLstOf_tup, oRv_lst, oRv_tup, oAdd_tup, dChain_ap, asTru_bl, asTru_tup, asTru_lst, oIsN_ap, oNotN_ap, asI_ap, oSl_tup, oSl_lst, oZip_tup, oZip_lst, oAddI_ap, oEqS_ap, oNeS_ap, oNe_nil, oIx_ly0, oIx_ly1, t1, t2, l]
theorem oPt_ap2 {c : Nat} {z b x y w : Str} (hb : b.cps.toList = [c]) (h : z.length ≤ 16777216) (e : Txt.partition z b = (x, y, w)) (ρ : Env) (M : Mem) : oPt z (.str b) ρ M = some (.ok (.tup [.str x, .str y, .str w]), M) := by
  have l1 : b.length = 1 := by rw [len_cps, hb]; rfl
  unfold oPt
  show (if (b.length == 0) = false ∧ z.length ≤ tLim then _ else _ : Ev D) ρ M = _
  rw [if_pos ⟨by rw [l1]; rfl, h⟩, e]; rfl
theorem fL_sign {q : Rat} {c : Nat} (h : c ∈ fL q) : c = 45 ∨ c = 47 ∨ (48 ≤ c ∧ c ≤ 57) := by
  unfold fL at h
  rcases List.mem_append.mp h with h | h
  · rcases List.mem_append.mp h with h | h
    · unfold sgL at h
      split at h
      · simp at h; exact .inl h
      · simp at h
    · exact .inr (.inr (dg_all _ _ h))
  · split at h
    · simp at h
    · rcases List.mem_cons.mp h with h | h
      · exact .inr (.inl h)
      · exact .inr (.inr (dg_all _ _ h))
theorem layin_eq {p : Rat × Rat} (sz : SzP p) (M : Mem) : F_layer_in [.str (lyT p)] M = some (.ok (lyQ p), M) := by
  refine runF_pure ?_ rfl
  have cc := cps_c
  generalize hC : Str.ofString ":" = CO at cc
  have ll := lyT_len sz
  have pt := TL.partition_app (y := CO) (s := 58) (S := []) cc (a := fT p.1) (b := fT p.2) (by
    show 58 ∉ (fT p.1).cps.toList
    rw [fT_cps']
    intro h
    have := fL_sign h
    omega)
  rw [lyT_eq cc] at pt
  have po := fun ρ => oPt_ap2 cc (by omega) pt ρ M
  have e1 := frin_eq sz.w M
  have e2 := frin_eq sz.s M
  have oks : ∀ (z : Str) ρ M, okStr (.str z) ρ M = some (.ok z, M) := fun _ _ _ => rfl
  have tp : ∀ (a b c : D) k ρ, gTp 3 k (.tup [a, b, c]) ρ = k [a, b, c] ρ := fun _ _ _ _ _ => rfl
  have fq : D.tup [frQ p.1, frQ p.2] = lyQ p := rfl
  generalize fT p.1 = T1 at *
  generalize fT p.2 = T2 at *
  generalize lyT p = T0 at *
  simp -implicitDefEqProofs only [den_layer_in, sSeq_ap, sAsg_ap, sPar_ap, sRet_ap, sIf_ap, sExpr_ap, sNext_ap, bnd_ap, ret_ap, bindR_ok, thenR_ok, dVar_ap, varR_ok, seqR_nx, seqR_rt, asgR_ok, gNm_ap, gCn_ap, gcnR_ok, gNl_ap, gTp_fr, gTp_ap, gLs_ap, dCons_ap, dNil_ap, asB_ap, dOr_ap, dAnd_ap, dNot_ap, dAndV_ap, dOrV_ap, dNotV_ap, dIf_ap, oAdd_int, oSub_int, oLt_int, oLe_int, oGt_int, oGe_int, oNeg_int, oEq_int, oNe_int, oEq_fr, oNe_fr, oEq_bl, oNe_bl, oTup_ap, oLst_ap, oCall_ap, oAbs_ap, oMax_ap, oMin_ap, oToInt_b, oToInt_i, oLen_lst, oLen_scr, oLen_tup, oIx_lst, oIx_scr, oAdd_lst, oIx_tup, oIx_fr0, oIx_fr1, ixR_ok, oItL_ap, oItT_ap, sFor_ap, startD, List.map_cons, List.map_nil, List.length_cons, List.length_nil, List.replicate_succ, List.replicate_zero, List.cons_append, List.nil_append, List.append_nil, List.getElem?_cons_zero, List.getElem?_cons_succ, List.set_cons_zero, List.set_cons_succ, Nat.reduceAdd, Nat.reduceSub, Nat.sub_self, Nat.reduceLeDiff, List.all_cons, List.all_nil, np_fr, np_int, np_bl, np_tup, np_lst, np_str, np_non, Bool.and_self, Bool.and_true, if_true_, if_false_, zero_add', if_tt, if_ff, decide_true, decide_false, Nat.le_refl, oItS_lst, oItS_tup, oTupOf_lst, oTupOf_tup, oLstOf_lst, oLstOf_tup, oRv_lst, oRv_tup, oAdd_tup, dChain_ap, asTru_bl, asTru_tup, asTru_lst, oIsN_ap, oNotN_ap, asI_ap, oSl_tup, oSl_lst, oZip_tup, oZip_lst, oAddI_ap, oEqS_ap, oNeS_ap, oNe_nil, hC, oks, po, tp, e1, e2, fq]
structure GdB (f : Rat) (L : List (Rat × Rat)) : Prop where
  sz : ∀ p ∈ L, SzP p
  ly : ∀ p ∈ L, LyG f p
  pw : L.Pairwise Bnth
  ln : L.length ≤ 1000
theorem rd_turn {f : Rat} {T : Option D} {r k : Nat} {pre : List (Rat × Rat)} {p : Rat × Rat} {M : Mem} (bf : Bd 1400 f) (sz : SzP p) (g : LyG f p) (hs : ∀ x ∈ pre, SzP x ∧ Bnth x p) (hM : M[r]? = some (some (pre.map lyQ))) (hl : pre.length ≤ 1000) (o5 : Option D) : den_read_brine_L1 [some (frQ f), T, some (.ptr r), some (.int (k : Int)), some (.str (lyT p)), o5] M = some (.nx [some (frQ f), T, some (.ptr r), some (.int (k : Int)), some (.str (lyT p)), some (lyQ p)], M.set r (some ((pre ++ [p]).map lyQ))) := by
  have e1 := layin_eq sz M
  have e2 := islay_eq bf sz g M
  have ok := fun ρ => okPtr_ap ρ hM
  have ap := fun ρ => oApp_ap (d := lyQ p) ρ hM rfl (by rw [List.length_map]; omega)
  have at_ : ∀ ρ, asTru (.ptr r) ρ M = some (.ok (!(pre.map lyQ).isEmpty), M) := fun ρ => by
    unfold asTru seqOf
    dsimp only
    rw [hM]
  have em : (pre ++ [p]).map lyQ = pre.map lyQ ++ [lyQ p] := by rw [List.map_append]; rfl
  rw [em]
  generalize lyT p = TP at *
  rcases List.eq_nil_or_concat pre with h | ⟨pre', x, h⟩
  · subst h
    simp -implicitDefEqProofs only [List.map_nil, List.isEmpty_nil, Bool.not_true] at at_
    simp -implicitDefEqProofs only [den_read_brine_L1, sSeq_ap, sAsg_ap, sPar_ap, sRet_ap, sIf_ap, sExpr_ap, sNext_ap, bnd_ap, ret_ap, bindR_ok, thenR_ok, dVar_ap, varR_ok, seqR_nx, seqR_rt, asgR_ok, gNm_ap, gCn_ap, gcnR_ok, gNl_ap, gTp_fr, gTp_ap, gLs_ap, dCons_ap, dNil_ap, asB_ap, dOr_ap, dAnd_ap, dNot_ap, dAndV_ap, dOrV_ap, dNotV_ap, dIf_ap, oAdd_int, oSub_int, oLt_int, oLe_int, oGt_int, oGe_int, oNeg_int, oEq_int, oNe_int, oEq_fr, oNe_fr, oEq_bl, oNe_bl, oTup_ap, oLst_ap, oCall_ap, oAbs_ap, oMax_ap, oMin_ap, oToInt_b, oToInt_i, oLen_lst, oLen_scr, oLen_tup, oIx_lst, oIx_scr, oAdd_lst, oIx_tup, oIx_fr0, oIx_fr1, ixR_ok, oItL_ap, oItT_ap, sFor_ap, startD, List.map_cons, List.map_nil, List.length_cons, List.length_nil, List.replicate_succ, List.replicate_zero, List.cons_append, List.nil_append, List.append_nil, List.getElem?_cons_zero, List.getElem?_cons_succ, List.set_cons_zero, List.set_cons_succ, Nat.reduceAdd, Nat.reduceSub, Nat.sub_self, Nat.reduceLeDiff, List.all_cons, List.all_nil, np_fr, np_int, np_bl, np_tup, np_lst, np_str, np_non, Bool.and_self, Bool.and_true, if_true_, if_false_, zero_add', if_tt, if_ff, decide_true, decide_false, Nat.le_refl, oItS_lst, oItS_tup, oTupOf_lst, oTupOf_tup, oLstOf_lst, oLstOf_tup, oRv_lst, oRv_tup, oAdd_tup, dChain_ap, asTru_bl, asTru_tup, asTru_lst, oIsN_ap, oNotN_ap, asI_ap, oSl_tup, oSl_lst, oZip_tup, oZip_lst, oAddI_ap, oEqS_ap, oNeS_ap, oNe_nil, e1, e2, at_, ok, ap, Bool.not_true, Bool.false_eq_true]
  · rw [List.concat_eq_append] at h
    subst h
    obtain ⟨sx, bx⟩ := hs x (by simp)
    have e3 := bnth_eq sx sz bx M
    have ix : atI ((pre' ++ [x]).map lyQ) (-1) = some (lyQ x) := by rw [List.map_append]; exact ix_last _ _
    have ne : ((pre' ++ [x]).map lyQ).isEmpty = false := by simp
    rw [ne] at at_
    have oi := fun ρ => oIx_ptr (-1) ρ hM
    rw [ix] at oi
    simp -implicitDefEqProofs only [den_read_brine_L1, sSeq_ap, sAsg_ap, sPar_ap, sRet_ap, sIf_ap, sExpr_ap, sNext_ap, bnd_ap, ret_ap, bindR_ok, thenR_ok, dVar_ap, varR_ok, seqR_nx, seqR_rt, asgR_ok, gNm_ap, gCn_ap, gcnR_ok, gNl_ap, gTp_fr, gTp_ap, gLs_ap, dCons_ap, dNil_ap, asB_ap, dOr_ap, dAnd_ap, dNot_ap, dAndV_ap, dOrV_ap, dNotV_ap, dIf_ap, oAdd_int, oSub_int, oLt_int, oLe_int, oGt_int, oGe_int, oNeg_int, oEq_int, oNe_int, oEq_fr, oNe_fr, oEq_bl, oNe_bl, oTup_ap, oLst_ap, oCall_ap, oAbs_ap, oMax_ap, oMin_ap, oToInt_b, oToInt_i, oLen_lst, oLen_scr, oLen_tup, oIx_lst, oIx_scr, oAdd_lst, oIx_tup, oIx_fr0, oIx_fr1, ixR_ok, oItL_ap, oItT_ap, sFor_ap, startD, List.map_cons, List.map_nil, List.length_cons, List.length_nil, List.replicate_succ, List.replicate_zero, List.cons_append, List.nil_append, List.append_nil, List.getElem?_cons_zero, List.getElem?_cons_succ, List.set_cons_zero, List.set_cons_succ, Nat.reduceAdd, Nat.reduceSub, Nat.sub_self, Nat.reduceLeDiff, List.all_cons, List.all_nil, np_fr, np_int, np_bl, np_tup, np_lst, np_str, np_non, Bool.and_self, Bool.and_true, if_true_, if_false_, zero_add', if_tt, if_ff, decide_true, decide_false, Nat.le_refl, oItS_lst, oItS_tup, oTupOf_lst, oTupOf_tup, oLstOf_lst, oLstOf_tup, oRv_lst, oRv_tup, oAdd_tup, dChain_ap, asTru_bl, asTru_tup, asTru_lst, oIsN_ap, oNotN_ap, asI_ap, oSl_tup, oSl_lst, oZip_tup, oZip_lst, oAddI_ap, oEqS_ap, oNeS_ap, oNe_nil, e1, e2, at_, oi, e3, ok, ap, Bool.not_true, Bool.not_false, Bool.false_eq_true]
theorem rd_loop {f : Rat} {T : Option D} {r : Nat} (bf : Bd 1400 f) : ∀ (rest pre : List (Rat × Rat)) (k : Nat) (M : Mem) (o3 o4 o5 : Option D), GdB f (pre ++ rest) → M[r]? = some (some (pre.map lyQ)) → ∃ (p3 p4 p5 : Option D) (M' : Mem), forF (gTp 2 (gCn (gNm 3) (gCn (gNm 4) gNl))) den_read_brine_L1 (enumFrom k (rest.map fun p => D.str (lyT p))) [some (frQ f), T, some (.ptr r), o3, o4, o5] M = some (.nx [some (frQ f), T, some (.ptr r), p3, p4, p5], M') ∧ M'.length = M.length ∧ (∀ j, j ≠ r → M'[j]? = M[j]?) ∧ M'[r]? = some (some ((pre ++ rest).map lyQ))
  | [], pre, k, M, o3, o4, o5, g, hM => ⟨o3, o4, o5, M, rfl, rfl, fun _ _ => rfl, by rw [List.append_nil]; exact hM⟩
  | p :: rest, pre, k, M, o3, o4, o5, g, hM => by
    have mp : p ∈ pre ++ p :: rest := by simp
    have hl := g.ln
    rw [List.length_append, List.length_cons] at hl
    have pw := List.pairwise_append.mp g.pw
    have st := rd_turn (T := T) (k := k) bf (g.sz p mp) (g.ly p mp) (fun x hx => ⟨g.sz x (by simp [hx]), pw.2.2 x hx p (by simp)⟩) hM (by omega) o5
    have rl : r < M.length := (List.getElem?_eq_some_iff.mp hM).1
    obtain ⟨p3, p4, p5, M', e, l1, ot, h1⟩ := rd_loop (T := T) bf rest (pre ++ [p]) (k + 1) (M.set r (some ((pre ++ [p]).map lyQ))) (some (.int (k : Int))) (some (.str (lyT p))) (some (lyQ p)) (by rw [List.append_assoc]; exact g) (List.getElem?_set_self rl)
    refine ⟨p3, p4, p5, M', ?_, by rw [l1, List.length_set], fun j hj => by rw [ot j hj, List.getElem?_set_ne (Ne.symm hj)], by rw [h1, List.append_assoc]; rfl⟩
    have gx : gTp 2 (gCn (gNm 3) (gCn (gNm 4) gNl)) (.tup [.int (k : Int), .str (lyT p)]) [some (frQ f), T, some (.ptr r), o3, o4, o5] = some [some (frQ f), T, some (.ptr r), some (.int (k : Int)), some (.str (lyT p)), o5] := rfl
    rw [List.map_cons, show enumFrom k (D.str (lyT p) :: rest.map fun p => D.str (lyT p)) = .tup [.int (k : Int), .str (lyT p)] :: enumFrom (k + 1) (rest.map fun p => D.str (lyT p)) from rfl, forF_cons, gx, forB_ok, st, ofR_nx, e]
theorem bT_ne {p : Rat × Rat} {L : List (Rat × Rat)} : bT (p :: L) ≠ Str.ofString "none" := by
  intro e
  have h : (bT (p :: L)).cps.toList = (Str.ofString "none").cps.toList := congrArg (fun x : Str => x.cps.toList) e
  have h2 : (Str.ofString "none").cps.toList = [110, 111, 110, 101] := by decide +kernel
  rw [bT_cons, join_sp, h2] at h
  have m : 110 ∈ lyL p ++ (L.map fun q => 32 :: lyL q).flatten := by rw [h]; simp
  have hd : ∃ c r, lyL p = c :: r ∧ c ≠ 110 := by
    unfold lyL
    cases hf : fL p.1 with
    | nil => exact ⟨58, _, rfl, by decide⟩
    | cons c r =>
      have := fL_sign (q := p.1) (c := c) (by rw [hf]; simp)
      exact ⟨c, _, rfl, by omega⟩
  obtain ⟨c, r, e1, e2⟩ := hd
  rw [e1] at h
  injection h with h _
  exact e2 h
theorem no32 (p : Rat × Rat) : 32 ∉ lyL p := by
  intro h
  unfold lyL at h
  rcases List.mem_append.mp h with h | h
  · have := fL_sign h; omega
  · rcases List.mem_cons.mp h with h | h
    · omega
    · have := fL_sign h; omega
theorem bT_len {L : List (Rat × Rat)} (h : ∀ p ∈ L, SzP p) (hl : L.length ≤ 1000) : (bT L).length ≤ 2000000 := by
  cases L with
  | nil => decide +kernel
  | cons p L =>
    rw [len_cps, bT_cons, join_sp, List.length_append]
    have : ∀ l : List (Rat × Rat), (∀ p ∈ l, SzP p) → ((l.map fun p => 32 :: lyL p).flatten).length ≤ 1606 * l.length := fun l => by
      induction l with
      | nil => exact fun _ => Nat.le_refl _
      | cons a l ih =>
        intro hh
        rw [List.map_cons, List.flatten_cons, List.length_append, List.length_cons, List.length_cons]
        have := ih fun p hp => hh p (List.mem_cons_of_mem _ hp)
        have := lyT_len (hh a (List.mem_cons_self ..))
        rw [len_cps, lyT_cps] at this
        omega
    have h1 := this L fun q hq => h q (List.mem_cons_of_mem _ hq)
    have h2 := lyT_len (h p (List.mem_cons_self ..))
    rw [len_cps, lyT_cps] at h2
    rw [List.length_cons] at hl
    omega
theorem readb_eq {f : Rat} {L : List (Rat × Rat)} (bf : Bd 1400 f) (g : GdB f L) (M : Mem) : F_read_brine [frQ f, .str (bT L)] M = some (.ok (.tup (L.map lyQ)), M) := by
  have ot : ∀ ρ M, oTup [] ρ M = some (.ok (.tup []), M) := fun _ _ => rfl
  cases L with
  | nil =>
    refine runF_pure ?_ rfl
    have d : decide (bT [] = Str.ofString "none") = true := decide_eq_true rfl
    generalize hN : Str.ofString "none" = NN at *
    generalize bT [] = BT at *
    simp -implicitDefEqProofs only [den_read_brine, sSeq_ap, sAsg_ap, sPar_ap, sRet_ap, sIf_ap, sExpr_ap, sNext_ap, bnd_ap, ret_ap, bindR_ok, thenR_ok, dVar_ap, varR_ok, seqR_nx, seqR_rt, asgR_ok, gNm_ap, gCn_ap, gcnR_ok, gNl_ap, gTp_fr, gTp_ap, gLs_ap, dCons_ap, dNil_ap, asB_ap, dOr_ap, dAnd_ap, dNot_ap, dAndV_ap, dOrV_ap, dNotV_ap, dIf_ap, oAdd_int, oSub_int, oLt_int, oLe_int, oGt_int, oGe_int, oNeg_int, oEq_int, oNe_int, oEq_fr, oNe_fr, oEq_bl, oNe_bl, oTup_ap, oLst_ap, oCall_ap, oAbs_ap, oMax_ap, oMin_ap, oToInt_b, oToInt_i, oLen_lst, oLen_scr, oLen_tup, oIx_lst, oIx_scr, oAdd_lst, oIx_tup, oIx_fr0, oIx_fr1, ixR_ok, oItL_ap, oItT_ap, sFor_ap, startD, List.map_cons, List.map_nil, List.length_cons, List.length_nil, List.replicate_succ, List.replicate_zero, List.cons_append, List.nil_append, List.append_nil, List.getElem?_cons_zero, List.getElem?_cons_succ, List.set_cons_zero, List.set_cons_succ, Nat.reduceAdd, Nat.reduceSub, Nat.sub_self, Nat.reduceLeDiff, List.all_cons, List.all_nil, np_fr, np_int, np_bl, np_tup, np_lst, np_str, np_non, Bool.and_self, Bool.and_true, if_true_, if_false_, zero_add', if_tt, if_ff, decide_true, decide_false, Nat.le_refl, oItS_lst, oItS_tup, oTupOf_lst, oTupOf_tup, oLstOf_lst, oLstOf_tup, oRv_lst, oRv_tup, oAdd_tup, dChain_ap, asTru_bl, asTru_tup, asTru_lst, oIsN_ap, oNotN_ap, asI_ap, oSl_tup, oSl_lst, oZip_tup, oZip_lst, oAddI_ap, oEqS_ap, oNeS_ap, oNe_nil, hN, d, ot, List.map_nil]
  | cons p L =>
    have bl := bT_len g.sz g.ln
    have d : decide (bT (p :: L) = Str.ofString "none") = false := decide_eq_false bT_ne
    have cb := cps_b
    have spl : Txt.split (bT (p :: L)) (Str.ofString " ") = (p :: L).map lyT := by
      rw [bT_cons]
      refine TL.split_join (s := 32) (S := []) cb (by decide +kernel) (by simp) fun z hz => ?_
      obtain ⟨q, hq, rfl⟩ := List.mem_map.mp hz
      show 32 ∉ (lyT q).cps.toList
      rw [lyT_cps]
      exact no32 q
    have so : ∀ ρ M, oSpl (bT (p :: L)) (.str (Str.ofString " ")) ρ M = some (.ok (.lst (((p :: L).map lyT).map D.str)), M) := fun ρ M => by
      have l1 : (Str.ofString " ").length = 1 := by rw [len_cps, cb]; rfl
      unfold oSpl
      show (if ((Str.ofString " ").length == 0) = false ∧ (bT (p :: L)).length + 2 ≤ tLim then _ else _ : Ev D) ρ M = _
      rw [if_pos ⟨by rw [l1]; rfl, by show _ ≤ 16777216; omega⟩, spl]; rfl
    have em : ((p :: L).map lyT).map D.str = (p :: L).map fun q => D.str (lyT q) := by rw [List.map_map]; rfl
    rw [em] at so
    have nw : ∀ ρ, oNew [] ρ M = some (.ok (.ptr M.length), M ++ [some []]) := fun _ => rfl
    obtain ⟨p3, p4, p5, M', e, l1, o1, h1⟩ := rd_loop (T := some (.str (bT (p :: L)))) (r := M.length) bf (p :: L) [] 0 (M ++ [some []]) none none none g (last_cell M _)
    have tp := fun ρ => oTupOf_ptr (ρ := ρ) h1
    have oks : ∀ (z : Str) ρ M, okStr (.str z) ρ M = some (.ok z, M) := fun _ _ _ => rfl
    refine run_cut (es := ([] ++ (p :: L)).map lyQ) (M' := M') (c := some []) ?_ ⟨l1, h1, o1⟩ rfl
    generalize hB : Str.ofString " " = SP at *
    generalize hN : Str.ofString "none" = NN at *
    generalize bT (p :: L) = BT at *
    simp -implicitDefEqProofs only [List.nil_append] at h1 tp ⊢
    generalize (p :: L).map lyQ = LQ at *
    generalize (p :: L).map (fun q => D.str (lyT q)) = WL at *
    simp -implicitDefEqProofs only [den_read_brine, sSeq_ap, sAsg_ap, sPar_ap, sRet_ap, sIf_ap, sExpr_ap, sNext_ap, bnd_ap, ret_ap, bindR_ok, thenR_ok, dVar_ap, varR_ok, seqR_nx, seqR_rt, asgR_ok, gNm_ap, gCn_ap, gcnR_ok, gNl_ap, gTp_fr, gTp_ap, gLs_ap, dCons_ap, dNil_ap, asB_ap, dOr_ap, dAnd_ap, dNot_ap, dAndV_ap, dOrV_ap, dNotV_ap, dIf_ap, oAdd_int, oSub_int, oLt_int, oLe_int, oGt_int, oGe_int, oNeg_int, oEq_int, oNe_int, oEq_fr, oNe_fr, oEq_bl, oNe_bl, oTup_ap, oLst_ap, oCall_ap, oAbs_ap, oMax_ap, oMin_ap, oToInt_b, oToInt_i, oLen_lst, oLen_scr, oLen_tup, oIx_lst, oIx_scr, oAdd_lst, oIx_tup, oIx_fr0, oIx_fr1, ixR_ok, oItL_ap, oItT_ap, sFor_ap, startD, List.map_cons, List.map_nil, List.length_cons, List.length_nil, List.replicate_succ, List.replicate_zero, List.cons_append, List.nil_append, List.append_nil, List.getElem?_cons_zero, List.getElem?_cons_succ, List.set_cons_zero, List.set_cons_succ, Nat.reduceAdd, Nat.reduceSub, Nat.sub_self, Nat.reduceLeDiff, List.all_cons, List.all_nil, np_fr, np_int, np_bl, np_tup, np_lst, np_str, np_non, Bool.and_self, Bool.and_true, if_true_, if_false_, zero_add', if_tt, if_ff, decide_true, decide_false, Nat.le_refl, oItS_lst, oItS_tup, oTupOf_lst, oTupOf_tup, oLstOf_lst, oLstOf_tup, oRv_lst, oRv_tup, oAdd_tup, dChain_ap, asTru_bl, asTru_tup, asTru_lst, oIsN_ap, oNotN_ap, asI_ap, oSl_tup, oSl_lst, oZip_tup, oZip_lst, oAddI_ap, oEqS_ap, oNeS_ap, oNe_nil, hB, hN, d, nw, oks, so, oEnum_lst, e, tp, Bool.false_eq_true]
/-! found as due -/
theorem inD_trues {α : Type} (l : List α) (ρ : Env) (M : Mem) : oInD true (.bl false) (.lst (l.map fun _ => D.bl true)) ρ M = some (.ok (.bl true), M) := by
  unfold oInD
  rw [if_pos ⟨rfl, plL_of fun d hd => by
    obtain ⟨x, _, rfl⟩ := List.mem_map.mp hd
    rfl, rfl, (shaped_row fun d hd => by
    obtain ⟨x, _, rfl⟩ := List.mem_map.mp hd
    exact ⟨rfl, by decide⟩).1⟩]
  dsimp only
  rw [if_pos rfl, toPys_map]
  have : ((l.map fun _ => toPy (D.bl true)).any fun z => PyData.eqv z (toPy (.bl false))) = false := by
    rw [List.any_eq_false]
    intro x hx
    obtain ⟨y, _, rfl⟩ := List.mem_map.mp hx
    decide
  rw [this]
  rfl
theorem sm_int (n : Nat) (i : Int) (M : Mem) : Fn__law_same (n + 1) [.int i, .int i] M = some (.ok (.bl true), M) := by
  unfold Fn__law_same
  refine runF_pure ?_ rfl
  have it : ∀ (i : Int) ρ M, oIsi (fun a => kitB a "tuple") (fun _ => none) (.int i) ρ M = some (.ok (.bl false), M) := fun i ρ M => oIsi_tup (np_int i) _ ρ M
  have ib : ∀ (i : Int) ρ M, oIsi (fun a => kitB a "bool") (fun _ => none) (.int i) ρ M = some (.ok (.bl false), M) := fun i ρ M => oIsi_bool (np_int i) _ ρ M
  have ii : ∀ (i : Int) ρ M, oIsi (fun a => kitB a "int") (fun _ => none) (.int i) ρ M = some (.ok (.bl true), M) := fun i ρ M => oIsi_int (np_int i) _ ρ M
  have di : decide (i = i) = true := decide_eq_true rfl
  simp -implicitDefEqProofs only [den__law_same, sSeq_ap, sAsg_ap, sPar_ap, sRet_ap, sIf_ap, sExpr_ap, sNext_ap, bnd_ap, ret_ap, bindR_ok, thenR_ok, dVar_ap, varR_ok, seqR_nx, seqR_rt, asgR_ok, gNm_ap, gCn_ap, gcnR_ok, gNl_ap, gTp_fr, gTp_ap, gLs_ap, dCons_ap, dNil_ap, asB_ap, dOr_ap, dAnd_ap, dNot_ap, dAndV_ap, dOrV_ap, dNotV_ap, dIf_ap, oAdd_int, oSub_int, oLt_int, oLe_int, oGt_int, oGe_int, oNeg_int, oEq_int, oNe_int, oEq_fr, oNe_fr, oEq_bl, oNe_bl, oTup_ap, oLst_ap, oCall_ap, oAbs_ap, oMax_ap, oMin_ap, oToInt_b, oToInt_i, oLen_lst, oLen_scr, oLen_tup, oIx_lst, oIx_scr, oAdd_lst, oIx_tup, oIx_fr0, oIx_fr1, ixR_ok, oItL_ap, oItT_ap, sFor_ap, startD, List.map_cons, List.map_nil, List.length_cons, List.length_nil, List.replicate_succ, List.replicate_zero, List.cons_append, List.nil_append, List.append_nil, List.getElem?_cons_zero, List.getElem?_cons_succ, List.set_cons_zero, List.set_cons_succ, Nat.reduceAdd, Nat.reduceSub, Nat.sub_self, Nat.reduceLeDiff, List.all_cons, List.all_nil, np_fr, np_int, np_bl, np_tup, np_lst, np_str, np_non, Bool.and_self, Bool.and_true, if_true_, if_false_, zero_add', if_tt, if_ff, decide_true, decide_false, Nat.le_refl, oItS_lst, oItS_tup, oTupOf_lst, oTupOf_tup, oLstOf_lst, oLstOf_tup, oRv_lst, oRv_tup, oAdd_tup, dChain_ap, asTru_bl, asTru_tup, asTru_lst, oIsN_ap, oNotN_ap, asI_ap, oSl_tup, oSl_lst, oZip_tup, oZip_lst, oAddI_ap, oEqS_ap, oNeS_ap, oNe_nil, it, ib, ii, di, Bool.not_true, Bool.not_false, Bool.false_eq_true]
theorem zipD_self : ∀ ds : List D, zipD ds ds = ds.map fun d => .tup [d, d]
  | [] => rfl
  | d :: ds => by
    show D.tup [d, d] :: zipD ds ds = _
    rw [zipD_self ds]; rfl
theorem sm_tup (n : Nat) {ds : List D} (hl : ds.length ≤ 100000) (h : ∀ d ∈ ds, ∀ M, Fn__law_same n [d, d] M = some (.ok (.bl true), M)) (M : Mem) : Fn__law_same (n + 1) [.tup ds, .tup ds] M = some (.ok (.bl true), M) := by
  unfold Fn__law_same
  refine runF_pure ?_ rfl
  generalize Fn__law_same n = FR at h ⊢
  have it : ∀ ρ M, oIsi (fun a => kitB a "tuple") (fun _ => none) (.tup ds) ρ M = some (.ok (.bl true), M) := fun ρ M => oIsi_tup (np_tup ds) _ ρ M
  have kl : decide ((ds.length : Int) = ds.length) = true := decide_eq_true rfl
  have lc := fun (M : Mem) => oLc_pf (ρ := [some (.tup ds), some (.tup ds), none, none]) (M := M) (b := gTp 2 (gCn (gNm 2) (gCn (gNm 3) gNl))) (tt := ret true) (te := bnd (dCons (dVar 2) (dCons (dVar 3) dNil)) (oCall 2 FR)) (vs := [2, 3]) (p := fun _ => true) (g := fun _ => D.bl true) (ds := ds.map fun d => .tup [d, d]) (fun x hx => by
    obtain ⟨d, hd, rfl⟩ := List.mem_map.mp hx
    refine ⟨[some (.tup ds), some (.tup ds), some d, some d], rfl, fun _ => rfl, fun _ => ⟨rfl, fun M => ?_⟩⟩
    have e := h d hd M
    simp -implicitDefEqProofs only [sSeq_ap, sAsg_ap, sPar_ap, sRet_ap, sIf_ap, sExpr_ap, sNext_ap, bnd_ap, ret_ap, bindR_ok, thenR_ok, dVar_ap, varR_ok, seqR_nx, seqR_rt, asgR_ok, gNm_ap, gCn_ap, gcnR_ok, gNl_ap, gTp_fr, gTp_ap, gLs_ap, dCons_ap, dNil_ap, asB_ap, dOr_ap, dAnd_ap, dNot_ap, dAndV_ap, dOrV_ap, dNotV_ap, dIf_ap, oAdd_int, oSub_int, oLt_int, oLe_int, oGt_int, oGe_int, oNeg_int, oEq_int, oNe_int, oEq_fr, oNe_fr, oEq_bl, oNe_bl, oTup_ap, oLst_ap, oCall_ap, oAbs_ap, oMax_ap, oMin_ap, oToInt_b, oToInt_i, oLen_lst, oLen_scr, oLen_tup, oIx_lst, oIx_scr, oAdd_lst, oIx_tup, oIx_fr0, oIx_fr1, ixR_ok, oItL_ap, oItT_ap, sFor_ap, startD, List.map_cons, List.map_nil, List.length_cons, List.length_nil, List.replicate_succ, List.replicate_zero, List.cons_append, List.nil_append, List.append_nil, List.getElem?_cons_zero, List.getElem?_cons_succ, List.set_cons_zero, List.set_cons_succ, Nat.reduceAdd, Nat.reduceSub, Nat.sub_self, Nat.reduceLeDiff, List.all_cons, List.all_nil, np_fr, np_int, np_bl, np_tup, np_lst, np_str, np_non, Bool.and_self, Bool.and_true, if_true_, if_false_, zero_add', if_tt, if_ff, decide_true, decide_false, Nat.le_refl, oItS_lst, oItS_tup, oTupOf_lst, oTupOf_tup, oLstOf_lst, oLstOf_tup, oRv_lst, oRv_tup, oAdd_tup, dChain_ap, asTru_bl, asTru_tup, asTru_lst, oIsN_ap, oNotN_ap, asI_ap, oSl_tup, oSl_lst, oZip_tup, oZip_lst, oAddI_ap, oEqS_ap, oNeS_ap, oNe_nil, e]) (by rw [List.length_map]; exact hl)
  have fm : (((ds.map fun d => D.tup [d, d]).filter fun _ => true).map fun _ => D.bl true) = ds.map fun _ => D.bl true := by
    rw [List.filter_eq_self.mpr (fun _ _ => rfl), List.map_map]; rfl
  rw [fm] at lc
  have zp := zipD_self ds
  have al := inD_trues ds
  generalize ds.map (fun d => D.tup [d, d]) = ZZ at *
  generalize ds.map (fun _ => D.bl true) = TT at *
  simp -implicitDefEqProofs only [den__law_same, sSeq_ap, sAsg_ap, sPar_ap, sRet_ap, sIf_ap, sExpr_ap, sNext_ap, bnd_ap, ret_ap, bindR_ok, thenR_ok, dVar_ap, varR_ok, seqR_nx, seqR_rt, asgR_ok, gNm_ap, gCn_ap, gcnR_ok, gNl_ap, gTp_fr, gTp_ap, gLs_ap, dCons_ap, dNil_ap, asB_ap, dOr_ap, dAnd_ap, dNot_ap, dAndV_ap, dOrV_ap, dNotV_ap, dIf_ap, oAdd_int, oSub_int, oLt_int, oLe_int, oGt_int, oGe_int, oNeg_int, oEq_int, oNe_int, oEq_fr, oNe_fr, oEq_bl, oNe_bl, oTup_ap, oLst_ap, oCall_ap, oAbs_ap, oMax_ap, oMin_ap, oToInt_b, oToInt_i, oLen_lst, oLen_scr, oLen_tup, oIx_lst, oIx_scr, oAdd_lst, oIx_tup, oIx_fr0, oIx_fr1, ixR_ok, oItL_ap, oItT_ap, sFor_ap, startD, List.map_cons, List.map_nil, List.length_cons, List.length_nil, List.replicate_succ, List.replicate_zero, List.cons_append, List.nil_append, List.append_nil, List.getElem?_cons_zero, List.getElem?_cons_succ, List.set_cons_zero, List.set_cons_succ, Nat.reduceAdd, Nat.reduceSub, Nat.sub_self, Nat.reduceLeDiff, List.all_cons, List.all_nil, np_fr, np_int, np_bl, np_tup, np_lst, np_str, np_non, Bool.and_self, Bool.and_true, if_true_, if_false_, zero_add', if_tt, if_ff, decide_true, decide_false, Nat.le_refl, oItS_lst, oItS_tup, oTupOf_lst, oTupOf_tup, oLstOf_lst, oLstOf_tup, oRv_lst, oRv_tup, oAdd_tup, dChain_ap, asTru_bl, asTru_tup, asTru_lst, oIsN_ap, oNotN_ap, asI_ap, oSl_tup, oSl_lst, oZip_tup, oZip_lst, oAddI_ap, oEqS_ap, oNeS_ap, oNe_nil, it, kl, zp, lc, al, Bool.not_true, Bool.false_eq_true]
theorem sameb_eq {L : List (Rat × Rat)} (hl : L.length ≤ 1000) (M : Mem) : F__law_same [.tup (L.map lyQ), .tup (L.map lyQ)] M = some (.ok (.bl true), M) := by
  have hf : ∀ (n : Nat) (q : Rat) M, Fn__law_same (n + 2) [frQ q, frQ q] M = some (.ok (.bl true), M) := fun n q M => sm_tup (n + 1) (ds := [.int q.num, .int (q.den : Int)]) (by simp) (fun d hd M => by
    simp -implicitDefEqProofs only [List.mem_cons, List.not_mem_nil, or_false] at hd
    rcases hd with h | h <;> subst h <;> exact sm_int n _ M) M
  unfold F__law_same
  refine sm_tup 11 (by rw [List.length_map]; omega) (fun d hd M => ?_) M
  obtain ⟨p, _, rfl⟩ := List.mem_map.mp hd
  refine sm_tup 10 (ds := [frQ p.1, frQ p.2]) (by simp) (fun d hd M => ?_) M
  simp -implicitDefEqProofs only [List.mem_cons, List.not_mem_nil, or_false] at hd
  rcases hd with h | h <;> subst h <;> exact hf 8 _ M
/-! the law's own arithmetic -/
theorem dv_le {a : Int} {b : Nat} (b0 : 0 < b) : (Rat.divInt a (b : Int)).num.natAbs ≤ a.natAbs ∧ (Rat.divInt a (b : Int)).den ≤ b := by
  have e := made_tup (a := a) b0
  unfold frQ at e
  injection e with e
  injection e with e1 e2
  injection e1 with e1
  injection e2 with e2 _
  injection e2 with e2
  refine ⟨by rw [← e1]; exact fdiv_le, ?_⟩
  have h := fdiv_le (a := (b : Int)) (g := Nat.gcd a.natAbs b)
  rw [e2, Int.natAbs_natCast, Int.natAbs_natCast] at h
  exact h
/-- a fraction of fewer than 10 ^ k above and below -/
structure SzN (k : Nat) (q : Rat) : Prop where
  n : q.num.natAbs < 10 ^ k
  d : q.den < 10 ^ k
theorem SzN.mono {j k : Nat} {q : Rat} (h : SzN j q) (l : j ≤ k) : SzN k q := ⟨Nat.lt_of_lt_of_le h.n (Nat.pow_le_pow_right (by decide) l), Nat.lt_of_lt_of_le h.d (Nat.pow_le_pow_right (by decide) l)⟩
theorem SzN.t {q : Rat} (h : SzN 400 q) : SzT q := ⟨h.n, h.d⟩
theorem szn_div {k : Nat} {a : Int} {b : Nat} (b0 : 0 < b) (ha : a.natAbs < 10 ^ k) (hb : b < 10 ^ k) : SzN k (Rat.divInt a (b : Int)) := ⟨Nat.lt_of_le_of_lt (dv_le b0).1 ha, Nat.lt_of_le_of_lt (dv_le b0).2 hb⟩
theorem mul_10 {a b j k : Nat} (ha : a < 10 ^ j) (hb : b < 10 ^ k) : a * b < 10 ^ (j + k) := by
  rw [Nat.pow_add]
  exact Nat.mul_lt_mul'' ha hb
theorem SzN.mul {j k : Nat} {x y : Rat} (hx : SzN j x) (hy : SzN k y) : SzN (j + k) (x * y) := by
  have e := mul_divInt x y
  have ed : (x.den : Int) * (y.den : Int) = ((x.den * y.den : Nat) : Int) := by push_cast; rfl
  rw [e, ed]
  exact szn_div (Nat.mul_pos x.den_pos y.den_pos) (by rw [Int.natAbs_mul]; exact mul_10 hx.n hy.n) (mul_10 hx.d hy.d)
theorem ltimes_eq {j k : Nat} {x y : Rat} (hx : SzN j x) (hy : SzN k y) (h : j + k ≤ 400) (M : Mem) : F__law_times [frQ x, frQ y] M = some (.ok (frQ (x * y)), M) := by
  refine runF_pure ?_ rfl
  have e := mul_divInt x y
  have ed : (x.den : Int) * (y.den : Int) = ((x.den * y.den : Nat) : Int) := by push_cast; rfl
  have md := made_eq (a := x.num * y.num) (b := x.den * y.den) (Nat.mul_pos x.den_pos y.den_pos) (Nat.lt_of_lt_of_le (mul_10 hx.d hy.d) (Nat.pow_le_pow_right (by decide) h)) M
  rw [← ed, ← e] at md
  have up : ∀ {j : Nat}, j ≤ 400 → (10 : Nat) ^ j ≤ 10 ^ 400 := fun h => Nat.pow_le_pow_right (by decide) h
  have bd : ∀ {n j : Nat}, j ≤ 400 → n < 10 ^ j → n < 2 ^ 1400 := fun h l => Nat.lt_trans (Nat.lt_of_lt_of_le l (up h)) ten_1400
  have k1 : MulOk x.num y.num := MulOk.of (a := 1400) (b := 1400) (bd (j := j) (by omega) hx.n) (bd (j := k) (by omega) hy.n)
  have k2 : MulOk (x.den : Int) (y.den : Int) := MulOk.of (a := 1400) (b := 1400) (by rw [Int.natAbs_natCast]; exact bd (j := j) (by omega) hx.d) (by rw [Int.natAbs_natCast]; exact bd (j := k) (by omega) hy.d)
  simp -implicitDefEqProofs only [den__law_times, sSeq_ap, sAsg_ap, sPar_ap, sRet_ap, sIf_ap, sExpr_ap, sNext_ap, bnd_ap, ret_ap, bindR_ok, thenR_ok, dVar_ap, varR_ok, seqR_nx, seqR_rt, asgR_ok, gNm_ap, gCn_ap, gcnR_ok, gNl_ap, gTp_fr, gTp_ap, gLs_ap, dCons_ap, dNil_ap, asB_ap, dOr_ap, dAnd_ap, dNot_ap, dAndV_ap, dOrV_ap, dNotV_ap, dIf_ap, oAdd_int, oSub_int, oLt_int, oLe_int, oGt_int, oGe_int, oNeg_int, oEq_int, oNe_int, oEq_fr, oNe_fr, oEq_bl, oNe_bl, oTup_ap, oLst_ap, oCall_ap, oAbs_ap, oMax_ap, oMin_ap, oToInt_b, oToInt_i, oLen_lst, oLen_scr, oLen_tup, oIx_lst, oIx_scr, oAdd_lst, oIx_tup, oIx_fr0, oIx_fr1, ixR_ok, oItL_ap, oItT_ap, sFor_ap, startD, List.map_cons, List.map_nil, List.length_cons, List.length_nil, List.replicate_succ, List.replicate_zero, List.cons_append, List.nil_append, List.append_nil, List.getElem?_cons_zero, List.getElem?_cons_succ, List.set_cons_zero, List.set_cons_succ, Nat.reduceAdd, Nat.reduceSub, Nat.sub_self, Nat.reduceLeDiff, List.all_cons, List.all_nil, np_fr, np_int, np_bl, np_tup, np_lst, np_str, np_non, Bool.and_self, Bool.and_true, if_true_, if_false_, zero_add', if_tt, if_ff, decide_true, decide_false, Nat.le_refl, oItS_lst, oItS_tup, oTupOf_lst, oTupOf_tup, oLstOf_lst, oLstOf_tup, oRv_lst, oRv_tup, oAdd_tup, dChain_ap, asTru_bl, asTru_tup, asTru_lst, oIsN_ap, oNotN_ap, asI_ap, oSl_tup, oSl_lst, oZip_tup, oZip_lst, oAddI_ap, oEqS_ap, oNeS_ap, oNe_nil, oMul_int k1, oMul_int k2, md]
/-! drawn brines -/
theorem HasBag.app {c n : Nat} {M : Mem} {x : Option (List D)} (h : HasBag c n M) : HasBag c n (M ++ [x]) := by
  have l := h.lt
  obtain ⟨a, r, t, e, q⟩ := h
  exact ⟨a, r, t, by rw [List.getElem?_append_left l]; exact e, q⟩
theorem HasBag.set {c n r : Nat} {M : Mem} {x : Option (List D)} (h : HasBag c n M) (hn : n ≠ r) : HasBag c n (M.set r x) := by
  obtain ⟨a, b, t, e, q⟩ := h
  exact ⟨a, b, t, by rw [List.getElem?_set_ne (Ne.symm hn)]; exact e, q⟩
theorem bag_cut {c d n : Nat} {M M' : Mem} (h0 : HasBag d n M) (h : HasBag c n M') (hl : M.length ≤ M'.length) (ot : ∀ j, j < M.length → j ≠ n → M'[j]? = M[j]?) : Dbag c n M (M'.take M.length) := by
  have l := h0.lt
  refine ⟨by rw [List.length_take]; omega, fun j hj => ?_, ?_⟩
  · by_cases q : j < M.length
    · rw [List.getElem?_take_of_lt q, ot j q hj]
    · rw [List.getElem?_eq_none (by rw [List.length_take]; omega), List.getElem?_eq_none (by omega)]
  · obtain ⟨a, b, t, e, q⟩ := h
    exact ⟨a, b, t, by rw [List.getElem?_take_of_lt l]; exact e, q⟩
theorem szn_int {i : Int} {k : Nat} (h : i.natAbs < 10 ^ k) (hk : 0 < k) : SzN k (i : Rat) := ⟨h, by show 1 < 10 ^ k; exact Nat.one_lt_pow (by omega) (by decide)⟩
section
variable {c n : Nat} {M : Mem}
theorem pos_eq (hr : HasBag c n M) (hc : c + 2 < 2 ^ 20) : ∃ (q : Rat) (M' : Mem), F__law_a_positive [.ptr n] M = some (.ok (frQ q), M') ∧ 0 < q ∧ SzN 2 q ∧ Dbag (c + 2) n M M' := by
  obtain ⟨x, M1, e1, a0, a1, t1⟩ := bdraw_eq hr (by omega) (m := 9) (by decide) (by decide)
  obtain ⟨b, eb, b0, b1⟩ := atI_lit (l := [.int 1, .int 1, .int 2, .int 3, .int 4, .int 6, .int 12, .int 5, .int 7]) (P := fun v => 0 < v ∧ v ≤ 12) a0 a1 (fun d hd => by
    simp -implicitDefEqProofs only [List.mem_cons, List.not_mem_nil, or_false] at hd
    rcases hd with h | h | h | h | h | h | h | h | h <;> exact ⟨_, h, by decide, by decide⟩)
  obtain ⟨b, rfl⟩ : ∃ r : Nat, b = (r : Int) := ⟨b.toNat, by omega⟩
  obtain ⟨y, M2, e2, c0, c1, t2⟩ := bdraw_eq t1.has (by omega) (m := 18) (by decide) (by decide)
  have md := made_eq (a := 1 + y) (b := b) (by omega) (small_400 (by omega)) M2
  refine ⟨Rat.divInt (1 + y) (b : Int), M2, run_b ?_ (t1.trans t2) rfl, divInt_pos (by omega) (by omega), szn_div (by omega) (by omega) (by omega), t1.trans t2⟩
  simp -implicitDefEqProofs only [den__law_a_positive, sSeq_ap, sAsg_ap, sPar_ap, sRet_ap, sIf_ap, sExpr_ap, sNext_ap, bnd_ap, ret_ap, bindR_ok, thenR_ok, dVar_ap, varR_ok, seqR_nx, seqR_rt, asgR_ok, gNm_ap, gCn_ap, gcnR_ok, gNl_ap, gTp_fr, gTp_ap, gLs_ap, dCons_ap, dNil_ap, asB_ap, dOr_ap, dAnd_ap, dNot_ap, dAndV_ap, dOrV_ap, dNotV_ap, dIf_ap, oAdd_int, oSub_int, oLt_int, oLe_int, oGt_int, oGe_int, oNeg_int, oEq_int, oNe_int, oEq_fr, oNe_fr, oEq_bl, oNe_bl, oTup_ap, oLst_ap, oCall_ap, oAbs_ap, oMax_ap, oMin_ap, oToInt_b, oToInt_i, oLen_lst, oLen_scr, oLen_tup, oIx_lst, oIx_scr, oAdd_lst, oIx_tup, oIx_fr0, oIx_fr1, ixR_ok, oItL_ap, oItT_ap, sFor_ap, startD, List.map_cons, List.map_nil, List.length_cons, List.length_nil, List.replicate_succ, List.replicate_zero, List.cons_append, List.nil_append, List.append_nil, List.getElem?_cons_zero, List.getElem?_cons_succ, List.set_cons_zero, List.set_cons_succ, Nat.reduceAdd, Nat.reduceSub, Nat.sub_self, Nat.reduceLeDiff, List.all_cons, List.all_nil, np_fr, np_int, np_bl, np_tup, np_lst, np_str, np_non, Bool.and_self, Bool.and_true, if_true_, if_false_, zero_add', if_tt, if_ff, decide_true, decide_false, Nat.le_refl, oItS_lst, oItS_tup, oTupOf_lst, oTupOf_tup, oLstOf_lst, oLstOf_tup, oRv_lst, oRv_tup, oAdd_tup, dChain_ap, asTru_bl, asTru_tup, asTru_lst, oIsN_ap, oNotN_ap, asI_ap, oSl_tup, oSl_lst, oZip_tup, oZip_lst, oAddI_ap, oEqS_ap, oNeS_ap, oNe_nil, e1, eb, e2, md]
theorem full_eq (hr : HasBag c n M) (hc : c + 4 < 2 ^ 20) : ∃ (f : Rat) (M' : Mem), F__law_a_full [.ptr n] M = some (.ok (frQ f), M') ∧ 0 < f ∧ SzN 3 f ∧ Dbag (c + 3) n M M' := by
  obtain ⟨x, M1, e1, a0, a1, t1⟩ := bdraw_eq hr (by omega) (m := 6) (by decide) (by decide)
  by_cases z : x = 0
  · have k0 : decide (x = 0) = true := decide_eq_true z
    obtain ⟨i, M2, e2, b0, b1, t2⟩ := bdraw_eq t1.has (by omega) (m := 4) (by decide) (by decide)
    obtain ⟨p, ep, hp⟩ := atI_lit (l := [.int 7, .int 101, .int 499, .int 997]) (P := fun v => v ∈ [7, 101, 499, 997, (1 : Int)]) b0 b1 (fun d hd => by
      simp -implicitDefEqProofs only [List.mem_cons, List.not_mem_nil, or_false] at hd
      rcases hd with h | h | h | h <;> exact ⟨_, h, by decide⟩)
    obtain ⟨j, M3, e3, c0, c1, t3⟩ := bdraw_eq t2.has (by omega) (m := 4) (by decide) (by decide)
    obtain ⟨q, eq, hq⟩ := atI_lit (l := [.int 11, .int 89, .int 503, .int 991]) (P := fun v => v ∈ [11, 89, 503, 991, (1000 : Int)] ∧ v < 1000) c0 c1 (fun d hd => by
      simp -implicitDefEqProofs only [List.mem_cons, List.not_mem_nil, or_false] at hd
      rcases hd with h | h | h | h <;> exact ⟨_, h, by decide, by decide⟩)
    have pb : ∀ v ∈ [7, 101, 499, 997, (1 : Int)], 0 < v ∧ v < 1000 := by decide
    have qb : ∀ v ∈ [11, 89, 503, 991, (1000 : Int)], 0 < v := by decide
    have p1 := pb p hp
    have q1 := qb q hq.1
    have fr := low_of (coprime_full p hp q hq.1) q1
    obtain ⟨q, rfl⟩ : ∃ r : Nat, q = (r : Int) := ⟨q.toNat, by omega⟩
    refine ⟨Rat.divInt p (q : Int), M3, run_b ?_ (t1.trans (t2.trans t3)) rfl, divInt_pos (by omega) (by omega), szn_div (by omega) (by omega) (by have := hq.2; omega), (t1.trans (t2.trans t3)).mono (by omega)⟩
    simp -implicitDefEqProofs only [den__law_a_full, sSeq_ap, sAsg_ap, sPar_ap, sRet_ap, sIf_ap, sExpr_ap, sNext_ap, bnd_ap, ret_ap, bindR_ok, thenR_ok, dVar_ap, varR_ok, seqR_nx, seqR_rt, asgR_ok, gNm_ap, gCn_ap, gcnR_ok, gNl_ap, gTp_fr, gTp_ap, gLs_ap, dCons_ap, dNil_ap, asB_ap, dOr_ap, dAnd_ap, dNot_ap, dAndV_ap, dOrV_ap, dNotV_ap, dIf_ap, oAdd_int, oSub_int, oLt_int, oLe_int, oGt_int, oGe_int, oNeg_int, oEq_int, oNe_int, oEq_fr, oNe_fr, oEq_bl, oNe_bl, oTup_ap, oLst_ap, oCall_ap, oAbs_ap, oMax_ap, oMin_ap, oToInt_b, oToInt_i, oLen_lst, oLen_scr, oLen_tup, oIx_lst, oIx_scr, oAdd_lst, oIx_tup, oIx_fr0, oIx_fr1, ixR_ok, oItL_ap, oItT_ap, sFor_ap, startD, List.map_cons, List.map_nil, List.length_cons, List.length_nil, List.replicate_succ, List.replicate_zero, List.cons_append, List.nil_append, List.append_nil, List.getElem?_cons_zero, List.getElem?_cons_succ, List.set_cons_zero, List.set_cons_succ, Nat.reduceAdd, Nat.reduceSub, Nat.sub_self, Nat.reduceLeDiff, List.all_cons, List.all_nil, np_fr, np_int, np_bl, np_tup, np_lst, np_str, np_non, Bool.and_self, Bool.and_true, if_true_, if_false_, zero_add', if_tt, if_ff, decide_true, decide_false, Nat.le_refl, oItS_lst, oItS_tup, oTupOf_lst, oTupOf_tup, oLstOf_lst, oLstOf_tup, oRv_lst, oRv_tup, oAdd_tup, dChain_ap, asTru_bl, asTru_tup, asTru_lst, oIsN_ap, oNotN_ap, asI_ap, oSl_tup, oSl_lst, oZip_tup, oZip_lst, oAddI_ap, oEqS_ap, oNeS_ap, oNe_nil, e1, k0, e2, ep, e3, eq, fr]
  · have k0 : decide (x = 0) = false := decide_eq_false z
    obtain ⟨p, M2, e2, b0, b1, t2⟩ := bdraw_eq t1.has (by omega) (m := 9) (by decide) (by decide)
    obtain ⟨q, M3, e3, c0, c1, t3⟩ := bdraw_eq t2.has (by omega) (m := 4) (by decide) (by decide)
    obtain ⟨q, rfl⟩ : ∃ r : Nat, q = (r : Int) := ⟨q.toNat, by omega⟩
    have md := made_eq (a := 1 + p) (b := 1 + q) (by omega) (small_400 (by omega)) M3
    have eq : ((1 + q : Nat) : Int) = 1 + (q : Int) := by push_cast; rfl
    rw [eq] at md
    have sd := szn_div (k := 3) (a := 1 + p) (b := 1 + q) (by omega) (by omega) (by omega)
    rw [eq] at sd
    refine ⟨Rat.divInt (1 + p) (1 + (q : Int)), M3, run_b ?_ (t1.trans (t2.trans t3)) rfl, divInt_pos (by omega) (by omega), sd, (t1.trans (t2.trans t3)).mono (by omega)⟩
    simp -implicitDefEqProofs only [den__law_a_full, sSeq_ap, sAsg_ap, sPar_ap, sRet_ap, sIf_ap, sExpr_ap, sNext_ap, bnd_ap, ret_ap, bindR_ok, thenR_ok, dVar_ap, varR_ok, seqR_nx, seqR_rt, asgR_ok, gNm_ap, gCn_ap, gcnR_ok, gNl_ap, gTp_fr, gTp_ap, gLs_ap, dCons_ap, dNil_ap, asB_ap, dOr_ap, dAnd_ap, dNot_ap, dAndV_ap, dOrV_ap, dNotV_ap, dIf_ap, oAdd_int, oSub_int, oLt_int, oLe_int, oGt_int, oGe_int, oNeg_int, oEq_int, oNe_int, oEq_fr, oNe_fr, oEq_bl, oNe_bl, oTup_ap, oLst_ap, oCall_ap, oAbs_ap, oMax_ap, oMin_ap, oToInt_b, oToInt_i, oLen_lst, oLen_scr, oLen_tup, oIx_lst, oIx_scr, oAdd_lst, oIx_tup, oIx_fr0, oIx_fr1, ixR_ok, oItL_ap, oItT_ap, sFor_ap, startD, List.map_cons, List.map_nil, List.length_cons, List.length_nil, List.replicate_succ, List.replicate_zero, List.cons_append, List.nil_append, List.append_nil, List.getElem?_cons_zero, List.getElem?_cons_succ, List.set_cons_zero, List.set_cons_succ, Nat.reduceAdd, Nat.reduceSub, Nat.sub_self, Nat.reduceLeDiff, List.all_cons, List.all_nil, np_fr, np_int, np_bl, np_tup, np_lst, np_str, np_non, Bool.and_self, Bool.and_true, if_true_, if_false_, zero_add', if_tt, if_ff, decide_true, decide_false, Nat.le_refl, oItS_lst, oItS_tup, oTupOf_lst, oTupOf_tup, oLstOf_lst, oLstOf_tup, oRv_lst, oRv_tup, oAdd_tup, dChain_ap, asTru_bl, asTru_tup, asTru_lst, oIsN_ap, oNotN_ap, asI_ap, oSl_tup, oSl_lst, oZip_tup, oZip_lst, oAddI_ap, oEqS_ap, oNeS_ap, oNe_nil, e1, k0, e2, e3, md, Bool.false_eq_true]
theorem water_eq {f : Rat} (sf : SzN 3 f) (hr : HasBag c n M) (hc : c + 2 < 2 ^ 20) : ∃ (q : Rat) (M' : Mem), F__law_some_water [.ptr n, frQ f, .int 20] M = some (.ok (frQ q), M') ∧ 0 < q ∧ SzN 6 q ∧ Dbag (c + 2) n M M' := by
  by_cases z : (f.den : Int) > 9
  · have k0 : decide ((f.den : Int) > 9) = true := decide_eq_true z
    obtain ⟨x, M1, e1, a0, a1, t1⟩ := bdraw_eq hr (by omega) (m := 20) (by decide) (by decide)
    have fd := sf.d
    have k1 : MulOk 12 (f.den : Int) := MulOk.of (a := 4) (b := 10) (by decide) (by rw [Int.natAbs_natCast]; omega)
    have k2 : MulOk (12 * (f.den : Int)) (1 + x) := MulOk.of (a := 14) (b := 10) (by omega) (by omega)
    have b1 : 0 < 12 * (f.den : Int) * (1 + x) := Int.mul_pos (by omega) (by omega)
    have b2 : 12 * (f.den : Int) * (1 + x) ≤ 12 * (f.den : Int) * 20 := Int.mul_le_mul_of_nonneg_left (by omega) (by omega)
    generalize hv : 12 * (f.den : Int) * (1 + x) = v at *
    have fr := int_fr v
    refine ⟨(v : Rat), M1, run_b ?_ t1 rfl, Rat.intCast_pos.mpr b1, szn_int (by omega) (by decide), t1.mono (by omega)⟩
    simp -implicitDefEqProofs only [den__law_some_water, sSeq_ap, sAsg_ap, sPar_ap, sRet_ap, sIf_ap, sExpr_ap, sNext_ap, bnd_ap, ret_ap, bindR_ok, thenR_ok, dVar_ap, varR_ok, seqR_nx, seqR_rt, asgR_ok, gNm_ap, gCn_ap, gcnR_ok, gNl_ap, gTp_fr, gTp_ap, gLs_ap, dCons_ap, dNil_ap, asB_ap, dOr_ap, dAnd_ap, dNot_ap, dAndV_ap, dOrV_ap, dNotV_ap, dIf_ap, oAdd_int, oSub_int, oLt_int, oLe_int, oGt_int, oGe_int, oNeg_int, oEq_int, oNe_int, oEq_fr, oNe_fr, oEq_bl, oNe_bl, oTup_ap, oLst_ap, oCall_ap, oAbs_ap, oMax_ap, oMin_ap, oToInt_b, oToInt_i, oLen_lst, oLen_scr, oLen_tup, oIx_lst, oIx_scr, oAdd_lst, oIx_tup, oIx_fr0, oIx_fr1, ixR_ok, oItL_ap, oItT_ap, sFor_ap, startD, List.map_cons, List.map_nil, List.length_cons, List.length_nil, List.replicate_succ, List.replicate_zero, List.cons_append, List.nil_append, List.append_nil, List.getElem?_cons_zero, List.getElem?_cons_succ, List.set_cons_zero, List.set_cons_succ, Nat.reduceAdd, Nat.reduceSub, Nat.sub_self, Nat.reduceLeDiff, List.all_cons, List.all_nil, np_fr, np_int, np_bl, np_tup, np_lst, np_str, np_non, Bool.and_self, Bool.and_true, if_true_, if_false_, zero_add', if_tt, if_ff, decide_true, decide_false, Nat.le_refl, oItS_lst, oItS_tup, oTupOf_lst, oTupOf_tup, oLstOf_lst, oLstOf_tup, oRv_lst, oRv_tup, oAdd_tup, dChain_ap, asTru_bl, asTru_tup, asTru_lst, oIsN_ap, oNotN_ap, asI_ap, oSl_tup, oSl_lst, oZip_tup, oZip_lst, oAddI_ap, oEqS_ap, oNeS_ap, oNe_nil, k0, oMul_int k1, e1, oMul_int k2, hv, fr]
  · have k0 : decide ((f.den : Int) > 9) = false := decide_eq_false z
    obtain ⟨q, M1, e1, q0, q1, t1⟩ := pos_eq hr hc
    refine ⟨q, M1, run_b ?_ t1 rfl, q0, q1.mono (by decide), t1⟩
    simp -implicitDefEqProofs only [den__law_some_water, sSeq_ap, sAsg_ap, sPar_ap, sRet_ap, sIf_ap, sExpr_ap, sNext_ap, bnd_ap, ret_ap, bindR_ok, thenR_ok, dVar_ap, varR_ok, seqR_nx, seqR_rt, asgR_ok, gNm_ap, gCn_ap, gcnR_ok, gNl_ap, gTp_fr, gTp_ap, gLs_ap, dCons_ap, dNil_ap, asB_ap, dOr_ap, dAnd_ap, dNot_ap, dAndV_ap, dOrV_ap, dNotV_ap, dIf_ap, oAdd_int, oSub_int, oLt_int, oLe_int, oGt_int, oGe_int, oNeg_int, oEq_int, oNe_int, oEq_fr, oNe_fr, oEq_bl, oNe_bl, oTup_ap, oLst_ap, oCall_ap, oAbs_ap, oMax_ap, oMin_ap, oToInt_b, oToInt_i, oLen_lst, oLen_scr, oLen_tup, oIx_lst, oIx_scr, oAdd_lst, oIx_tup, oIx_fr0, oIx_fr1, ixR_ok, oItL_ap, oItT_ap, sFor_ap, startD, List.map_cons, List.map_nil, List.length_cons, List.length_nil, List.replicate_succ, List.replicate_zero, List.cons_append, List.nil_append, List.append_nil, List.getElem?_cons_zero, List.getElem?_cons_succ, List.set_cons_zero, List.set_cons_succ, Nat.reduceAdd, Nat.reduceSub, Nat.sub_self, Nat.reduceLeDiff, List.all_cons, List.all_nil, np_fr, np_int, np_bl, np_tup, np_lst, np_str, np_non, Bool.and_self, Bool.and_true, if_true_, if_false_, zero_add', if_tt, if_ff, decide_true, decide_false, Nat.le_refl, oItS_lst, oItS_tup, oTupOf_lst, oTupOf_tup, oLstOf_lst, oLstOf_tup, oRv_lst, oRv_tup, oAdd_tup, dChain_ap, asTru_bl, asTru_tup, asTru_lst, oIsN_ap, oNotN_ap, asI_ap, oSl_tup, oSl_lst, oZip_tup, oZip_lst, oAddI_ap, oEqS_ap, oNeS_ap, oNe_nil, k0, e1, Bool.false_eq_true]
end
/-- a brine on the way: every layer over strength f c -/
structure Bru (f c : Rat) (T : List (Rat × Rat)) : Prop where
  sz : ∀ p ∈ T, SzP p
  ly : ∀ p ∈ T, LyG f p
  st : ∀ p ∈ T, 0 < p.2 ∧ f * c * p.1 < p.2
  pw : T.Pairwise Bnth
theorem Bru.add {f c c1 w : Rat} {T : List (Rat × Rat)} (h : Bru f c T) (f0 : 0 < f) (c1c : c1 < c) (c10 : 0 ≤ c1) (cl : c ≤ 1) (w0 : 0 < w) (sz : SzP (w, f * c * w)) : Bru f c1 (T ++ [(w, f * c * w)]) := by
  have c0 : 0 < c := by grind
  have fw : 0 < f * w := Rat.mul_pos f0 w0
  have s0 : 0 < f * c * w := Rat.mul_pos (Rat.mul_pos f0 c0) w0
  refine ⟨fun p hp => ?_, fun p hp => ?_, fun p hp => ?_, ?_⟩
  · rcases List.mem_append.mp hp with hp | hp
    · exact h.sz p hp
    · rw [List.mem_singleton.mp hp]; exact sz
  · rcases List.mem_append.mp hp with hp | hp
    · exact h.ly p hp
    · rw [List.mem_singleton.mp hp]
      refine ⟨Rat.le_of_lt w0, Rat.le_of_lt s0, fun z => absurd z (Rat.ne_of_gt w0), fun _ => ?_⟩
      show f * c * w ≤ f * w
      have := Rat.mul_le_mul_of_nonneg_left cl (Rat.le_of_lt fw)
      grind
  · rcases List.mem_append.mp hp with hp | hp
    · obtain ⟨a, b⟩ := h.st p hp
      refine ⟨a, ?_⟩
      have := Rat.mul_le_mul_of_nonneg_left (Rat.le_of_lt c1c) (Rat.mul_nonneg (Rat.le_of_lt f0) (h.ly p hp).w0)
      grind
    · rw [List.mem_singleton.mp hp]
      refine ⟨s0, ?_⟩
      show f * c1 * w < f * c * w
      have := Rat.mul_lt_mul_of_pos_left c1c fw
      grind
  · refine List.pairwise_append.mpr ⟨h.pw, List.pairwise_singleton _ _, fun p hp q hq => ?_⟩
    rw [List.mem_singleton.mp hq]
    show f * c * w * p.1 < p.2 * w
    have := Rat.mul_lt_mul_of_pos_right (h.st p hp).2 w0
    grind
theorem Bru.less {f c c1 : Rat} {T : List (Rat × Rat)} (h : Bru f c T) (f0 : 0 < f) (c1c : c1 < c) : Bru f c1 T := ⟨h.sz, h.ly, fun p hp => by
  obtain ⟨a, b⟩ := h.st p hp
  refine ⟨a, ?_⟩
  have := Rat.mul_le_mul_of_nonneg_left (Rat.le_of_lt c1c) (Rat.mul_nonneg (Rat.le_of_lt f0) (h.ly p hp).w0)
  grind, h.pw⟩
/-- shares downward, then nought -/
def Dwn : Rat → List Rat → Prop
  | c, [] => c = 0
  | c, c0 :: cs => c = c0 ∧ 0 < c0 ∧ c0 ≤ 1 ∧ SzN 2 c0 ∧ ∃ c1, 0 ≤ c1 ∧ c1 < c0 ∧ Dwn c1 cs
theorem shr_turn {f s : Rat} {c n r : Nat} {T : List (Rat × Rat)} {M : Mem} {o2 o3 : Option D} (f0 : 0 < f) (sf : SzN 3 f) (ss : SzN 2 s) (hr : HasBag c n M) (hc : c + 3 < 2 ^ 20) (hn : n ≠ r) (hM : M[r]? = some (some (T.map lyQ))) (hT : T.length ≤ 100) (o6 : Option D) :
    ∃ (T' : List (Rat × Rat)) (p6 : Option D) (M' : Mem), den__law_a_brine_L1 [some (.ptr n), some (frQ f), o2, o3, some (.ptr r), some (frQ s), o6] M = some (.nx [some (.ptr n), some (frQ f), o2, o3, some (.ptr r), some (frQ s), p6], M') ∧ (T' = T ∨ ∃ w : Rat, 0 < w ∧ SzN 6 w ∧ T' = T ++ [(w, f * s * w)]) ∧ HasBag (c + 3) n M' ∧ M'.length = M.length ∧ (∀ j, j ≠ n → j ≠ r → M'[j]? = M[j]?) ∧ M'[r]? = some (some (T'.map lyQ)) := by
  obtain ⟨x, M1, e1, a0, a1, t1⟩ := bdraw_eq hr (by omega) (m := 3) (by decide) (by decide)
  have h1 : M1[r]? = some (some (T.map lyQ)) := by rw [t1.oth r (Ne.symm hn)]; exact hM
  by_cases z : x = 0
  · have k0 : decide (x = 0) = true := decide_eq_true z
    obtain ⟨w, M2, e2, w0, sw, t2⟩ := water_eq sf t1.has (by omega)
    have h2 : M2[r]? = some (some (T.map lyQ)) := by rw [t2.oth r (Ne.symm hn)]; exact h1
    have e3 := ltimes_eq sf ss (by decide) M2
    have e4 := ltimes_eq (sf.mul ss) sw (by decide) M2
    have ok := fun ρ => okPtr_ap ρ h2
    have ap := fun ρ => oApp_ap (d := lyQ (w, f * s * w)) ρ h2 rfl (by rw [List.length_map]; omega)
    have rl : r < M2.length := (List.getElem?_eq_some_iff.mp h2).1
    refine ⟨T ++ [(w, f * s * w)], some (frQ w), M2.set r (some (T.map lyQ ++ [lyQ (w, f * s * w)])), ?_, .inr ⟨w, w0, sw, rfl⟩, t2.has.set hn, by rw [List.length_set, t2.len, t1.len], fun j a b => by rw [List.getElem?_set_ne (Ne.symm b), t2.oth j a, t1.oth j a], by rw [List.getElem?_set_self rl, List.map_append]; rfl⟩
    have fq : D.tup [frQ w, frQ (f * s * w)] = lyQ (w, f * s * w) := rfl
    simp -implicitDefEqProofs only [den__law_a_brine_L1, sSeq_ap, sAsg_ap, sPar_ap, sRet_ap, sIf_ap, sExpr_ap, sNext_ap, bnd_ap, ret_ap, bindR_ok, thenR_ok, dVar_ap, varR_ok, seqR_nx, seqR_rt, asgR_ok, gNm_ap, gCn_ap, gcnR_ok, gNl_ap, gTp_fr, gTp_ap, gLs_ap, dCons_ap, dNil_ap, asB_ap, dOr_ap, dAnd_ap, dNot_ap, dAndV_ap, dOrV_ap, dNotV_ap, dIf_ap, oAdd_int, oSub_int, oLt_int, oLe_int, oGt_int, oGe_int, oNeg_int, oEq_int, oNe_int, oEq_fr, oNe_fr, oEq_bl, oNe_bl, oTup_ap, oLst_ap, oCall_ap, oAbs_ap, oMax_ap, oMin_ap, oToInt_b, oToInt_i, oLen_lst, oLen_scr, oLen_tup, oIx_lst, oIx_scr, oAdd_lst, oIx_tup, oIx_fr0, oIx_fr1, ixR_ok, oItL_ap, oItT_ap, sFor_ap, startD, List.map_cons, List.map_nil, List.length_cons, List.length_nil, List.replicate_succ, List.replicate_zero, List.cons_append, List.nil_append, List.append_nil, List.getElem?_cons_zero, List.getElem?_cons_succ, List.set_cons_zero, List.set_cons_succ, Nat.reduceAdd, Nat.reduceSub, Nat.sub_self, Nat.reduceLeDiff, List.all_cons, List.all_nil, np_fr, np_int, np_bl, np_tup, np_lst, np_str, np_non, Bool.and_self, Bool.and_true, if_true_, if_false_, zero_add', if_tt, if_ff, decide_true, decide_false, Nat.le_refl, oItS_lst, oItS_tup, oTupOf_lst, oTupOf_tup, oLstOf_lst, oLstOf_tup, oRv_lst, oRv_tup, oAdd_tup, dChain_ap, asTru_bl, asTru_tup, asTru_lst, oIsN_ap, oNotN_ap, asI_ap, oSl_tup, oSl_lst, oZip_tup, oZip_lst, oAddI_ap, oEqS_ap, oNeS_ap, oNe_nil, e1, k0, e2, e3, e4, fq, ok, ap]
  · have k0 : decide (x = 0) = false := decide_eq_false z
    refine ⟨T, o6, M1, ?_, .inl rfl, t1.has.mono (by omega), t1.len, fun j a _ => t1.oth j a, h1⟩
    simp -implicitDefEqProofs only [den__law_a_brine_L1, sSeq_ap, sAsg_ap, sPar_ap, sRet_ap, sIf_ap, sExpr_ap, sNext_ap, bnd_ap, ret_ap, bindR_ok, thenR_ok, dVar_ap, varR_ok, seqR_nx, seqR_rt, asgR_ok, gNm_ap, gCn_ap, gcnR_ok, gNl_ap, gTp_fr, gTp_ap, gLs_ap, dCons_ap, dNil_ap, asB_ap, dOr_ap, dAnd_ap, dNot_ap, dAndV_ap, dOrV_ap, dNotV_ap, dIf_ap, oAdd_int, oSub_int, oLt_int, oLe_int, oGt_int, oGe_int, oNeg_int, oEq_int, oNe_int, oEq_fr, oNe_fr, oEq_bl, oNe_bl, oTup_ap, oLst_ap, oCall_ap, oAbs_ap, oMax_ap, oMin_ap, oToInt_b, oToInt_i, oLen_lst, oLen_scr, oLen_tup, oIx_lst, oIx_scr, oAdd_lst, oIx_tup, oIx_fr0, oIx_fr1, ixR_ok, oItL_ap, oItT_ap, sFor_ap, startD, List.map_cons, List.map_nil, List.length_cons, List.length_nil, List.replicate_succ, List.replicate_zero, List.cons_append, List.nil_append, List.append_nil, List.getElem?_cons_zero, List.getElem?_cons_succ, List.set_cons_zero, List.set_cons_succ, Nat.reduceAdd, Nat.reduceSub, Nat.sub_self, Nat.reduceLeDiff, List.all_cons, List.all_nil, np_fr, np_int, np_bl, np_tup, np_lst, np_str, np_non, Bool.and_self, Bool.and_true, if_true_, if_false_, zero_add', if_tt, if_ff, decide_true, decide_false, Nat.le_refl, oItS_lst, oItS_tup, oTupOf_lst, oTupOf_tup, oLstOf_lst, oLstOf_tup, oRv_lst, oRv_tup, oAdd_tup, dChain_ap, asTru_bl, asTru_tup, asTru_lst, oIsN_ap, oNotN_ap, asI_ap, oSl_tup, oSl_lst, oZip_tup, oZip_lst, oAddI_ap, oEqS_ap, oNeS_ap, oNe_nil, e1, k0, Bool.false_eq_true]
theorem shr_loop {f : Rat} {n r : Nat} {o2 o3 : Option D} (f0 : 0 < f) (sf : SzN 3 f) (hn : n ≠ r) : ∀ (cs : List Rat) (b : Rat) (c : Nat) (T : List (Rat × Rat)) (M : Mem) (o5 o6 : Option D), Dwn b cs → Bru f b T → HasBag c n M → c + 3 * cs.length < 2 ^ 20 → M[r]? = some (some (T.map lyQ)) → T.length + cs.length ≤ 100 →
    ∃ (T' : List (Rat × Rat)) (p5 p6 : Option D) (M' : Mem), forF (gNm 5) den__law_a_brine_L1 (cs.map frQ) [some (.ptr n), some (frQ f), o2, o3, some (.ptr r), o5, o6] M = some (.nx [some (.ptr n), some (frQ f), o2, o3, some (.ptr r), p5, p6], M') ∧ Bru f 0 T' ∧ T'.length ≤ 100 ∧ HasBag (c + 3 * cs.length) n M' ∧ M'.length = M.length ∧ (∀ j, j ≠ n → j ≠ r → M'[j]? = M[j]?) ∧ M'[r]? = some (some (T'.map lyQ))
  | [], b, c, T, M, o5, o6, dw, h, hr, hc, hM, hT => ⟨T, o5, o6, M, rfl, by have : b = 0 := dw; rw [← this]; exact h, by simpa using hT, hr, rfl, fun _ _ _ => rfl, hM⟩
  | c0 :: cs, b, c, T, M, o5, o6, dw, h, hr, hc, hM, hT => by
    rw [List.length_cons] at hc hT
    obtain ⟨rfl, d0, d1, ds, c1, c10, c1c, dn⟩ := dw
    obtain ⟨T1, p6, M1, e1, hT1, b1, l1, ot1, g1⟩ := shr_turn (o2 := o2) (o3 := o3) f0 sf ds hr (by omega) hn hM (by omega) o6
    have h1 : Bru f c1 T1 ∧ T1.length ≤ T.length + 1 := by
      rcases hT1 with e | ⟨w, w0, sw, e⟩
      · subst e; exact ⟨h.less f0 c1c, by omega⟩
      · subst e
        exact ⟨h.add f0 c1c c10 d1 w0 ⟨(sw.mono (by decide)).t, (((sf.mul ds).mul sw).mono (by decide)).t⟩, by simp⟩
    obtain ⟨T2, p5, p6', M2, e2, h2, l2, b2, len2, ot2, g2⟩ := shr_loop (o2 := o2) (o3 := o3) f0 sf hn cs c1 (c + 3) T1 M1 (some (frQ b)) p6 dn h1.1 b1 (by omega) g1 (by omega)
    refine ⟨T2, p5, p6', M2, ?_, h2, l2, b2.mono (by rw [List.length_cons]; omega), by rw [len2, l1], fun j a b => by rw [ot2 j a b, ot1 j a b], g2⟩
    rw [List.map_cons, forF_cons]
    simp -implicitDefEqProofs only [sSeq_ap, sAsg_ap, sPar_ap, sRet_ap, sIf_ap, sExpr_ap, sNext_ap, bnd_ap, ret_ap, bindR_ok, thenR_ok, dVar_ap, varR_ok, seqR_nx, seqR_rt, asgR_ok, gNm_ap, gCn_ap, gcnR_ok, gNl_ap, gTp_fr, gTp_ap, gLs_ap, dCons_ap, dNil_ap, asB_ap, dOr_ap, dAnd_ap, dNot_ap, dAndV_ap, dOrV_ap, dNotV_ap, dIf_ap, oAdd_int, oSub_int, oLt_int, oLe_int, oGt_int, oGe_int, oNeg_int, oEq_int, oNe_int, oEq_fr, oNe_fr, oEq_bl, oNe_bl, oTup_ap, oLst_ap, oCall_ap, oAbs_ap, oMax_ap, oMin_ap, oToInt_b, oToInt_i, oLen_lst, oLen_scr, oLen_tup, oIx_lst, oIx_scr, oAdd_lst, oIx_tup, oIx_fr0, oIx_fr1, ixR_ok, oItL_ap, oItT_ap, sFor_ap, startD, List.map_cons, List.map_nil, List.length_cons, List.length_nil, List.replicate_succ, List.replicate_zero, List.cons_append, List.nil_append, List.append_nil, List.getElem?_cons_zero, List.getElem?_cons_succ, List.set_cons_zero, List.set_cons_succ, Nat.reduceAdd, Nat.reduceSub, Nat.sub_self, Nat.reduceLeDiff, List.all_cons, List.all_nil, np_fr, np_int, np_bl, np_tup, np_lst, np_str, np_non, Bool.and_self, Bool.and_true, if_true_, if_false_, zero_add', if_tt, if_ff, decide_true, decide_false, Nat.le_refl, oItS_lst, oItS_tup, oTupOf_lst, oTupOf_tup, oLstOf_lst, oLstOf_tup, oRv_lst, oRv_tup, oAdd_tup, dChain_ap, asTru_bl, asTru_tup, asTru_lst, oIsN_ap, oNotN_ap, asI_ap, oSl_tup, oSl_lst, oZip_tup, oZip_lst, oAddI_ap, oEqS_ap, oNeS_ap, oNe_nil, forB_ok, e1, ofR_nx, e2]
/-! the law's brines -/
def shR : List Rat := [1, Rat.divInt 11 12, Rat.divInt 3 4, Rat.divInt 2 3, Rat.divInt 1 2, Rat.divInt 1 3, Rat.divInt 1 4, Rat.divInt 1 12]
theorem dwn_sh : Dwn 1 shR := by
  refine ⟨rfl, by decide +kernel, by decide +kernel, ⟨by decide +kernel, by decide +kernel⟩, Rat.divInt 11 12, by decide +kernel, by decide +kernel, ?_⟩
  refine ⟨rfl, by decide +kernel, by decide +kernel, ⟨by decide +kernel, by decide +kernel⟩, Rat.divInt 3 4, by decide +kernel, by decide +kernel, ?_⟩
  refine ⟨rfl, by decide +kernel, by decide +kernel, ⟨by decide +kernel, by decide +kernel⟩, Rat.divInt 2 3, by decide +kernel, by decide +kernel, ?_⟩
  refine ⟨rfl, by decide +kernel, by decide +kernel, ⟨by decide +kernel, by decide +kernel⟩, Rat.divInt 1 2, by decide +kernel, by decide +kernel, ?_⟩
  refine ⟨rfl, by decide +kernel, by decide +kernel, ⟨by decide +kernel, by decide +kernel⟩, Rat.divInt 1 3, by decide +kernel, by decide +kernel, ?_⟩
  refine ⟨rfl, by decide +kernel, by decide +kernel, ⟨by decide +kernel, by decide +kernel⟩, Rat.divInt 1 4, by decide +kernel, by decide +kernel, ?_⟩
  refine ⟨rfl, by decide +kernel, by decide +kernel, ⟨by decide +kernel, by decide +kernel⟩, Rat.divInt 1 12, by decide +kernel, by decide +kernel, ?_⟩
  exact ⟨rfl, by decide +kernel, by decide +kernel, ⟨by decide +kernel, by decide +kernel⟩, 0, by decide +kernel, by decide +kernel, rfl⟩
theorem cutN {ds : List D} {k : Nat} (h : ds.length ≤ k) : cutD ds none (some (k : Int)) = ds := by
  unfold cutD
  rw [HT.sIx_nat, HT.sIx_none, Nat.min_eq_right h, List.drop_zero, Nat.sub_zero, List.take_length]
theorem Bru.good {f b : Rat} {T : List (Rat × Rat)} (h : Bru f b T) (l : T.length ≤ 1000) : GdB f T := ⟨h.sz, h.ly, h.pw, l⟩
theorem brine_eq {c n : Nat} {M : Mem} {f : Rat} (f0 : 0 < f) (sf : SzN 3 f) (hr : HasBag c n M) (hc : c + 50 < 2 ^ 20) : ∃ (L : List (Rat × Rat)) (M' : Mem), F__law_a_brine [.ptr n, frQ f, .int 8] M = some (.ok (.tup (L.map lyQ)), M') ∧ GdB f L ∧ Dbag (c + 40) n M M' := by
  have hn := hr.lt
  have ha := hr.app (x := some [])
  have n1 : ∀ ρ, oNew [] ρ M = some (.ok (.ptr M.length), M ++ [some []]) := fun _ => rfl
  obtain ⟨x, M1, e1, a0, a1, t1⟩ := bdraw_eq ha (by omega) (m := 3) (by decide) (by decide)
  have g1 : M1[M.length]? = some (some (([] : List (Rat × Rat)).map lyQ)) := by rw [t1.oth _ (by omega), last_cell]; rfl
  have s1 := one_fr
  have s2 := low_of (a := 11) (b := 12) (by decide) (by decide)
  have s3 := low_of (a := 3) (b := 4) (by decide) (by decide)
  have s4 := low_of (a := 2) (b := 3) (by decide) (by decide)
  have s5 := low_of (a := 1) (b := 2) (by decide) (by decide)
  have s6 := low_of (a := 1) (b := 3) (by decide) (by decide)
  have s7 := low_of (a := 1) (b := 4) (by decide) (by decide)
  have s8 := low_of (a := 1) (b := 12) (by decide) (by decide)
  have sh : D.lst [frQ 1, frQ (Rat.divInt 11 12), frQ (Rat.divInt 3 4), frQ (Rat.divInt 2 3), frQ (Rat.divInt 1 2), frQ (Rat.divInt 1 3), frQ (Rat.divInt 1 4), frQ (Rat.divInt 1 12)] = .lst (shR.map frQ) := rfl
  have ls : shR.length = 8 := rfl
  have zf : D.tup [.int 0, .int 1] = frQ 0 := rfl
  obtain ⟨T0, M2, st2, b0, lT, h2, l2, ot2, g2⟩ : ∃ (T : List (Rat × Rat)) (M2 : Mem), (sIf (bnd (bnd (bnd (dCons (dVar 0) (dCons (ret (.int 3)) dNil)) (oCall 2 F__law_draw)) fun d => bnd (ret (.int 0)) fun e => oEq d e) asB) (sExpr (bnd (dVar 4) fun d => bnd (okPtr d) fun d => bnd (bnd (dCons (bnd (dCons (ret (.int 0)) (dCons (ret (.int 1)) dNil)) oTup) (dCons (bnd (dCons (dVar 0) dNil) (oCall 1 F__law_a_positive)) dNil)) oTup) fun y => oApp d y)) sNext) [some (.ptr n), some (frQ f), some (.int 8), some (.lst (shR.map frQ)), some (.ptr M.length), none, none] (M ++ [some []]) = some (.nx [some (.ptr n), some (frQ f), some (.int 8), some (.lst (shR.map frQ)), some (.ptr M.length), none, none], M2) ∧ Bru f 1 T ∧ T.length ≤ 1 ∧ HasBag (c + 3) n M2 ∧ M2.length = M.length + 1 ∧ (∀ j, j < M.length → j ≠ n → M2[j]? = M[j]?) ∧ M2[M.length]? = some (some (T.map lyQ)) := by
    by_cases z : x = 0
    · have k0 : decide (x = 0) = true := decide_eq_true z
      obtain ⟨q, M3, e3, q0, sq, t3⟩ := pos_eq t1.has (by omega)
      have g3 : M3[M.length]? = some (some (([] : List (Rat × Rat)).map lyQ)) := by rw [t3.oth _ (by omega)]; exact g1
      have ok1 := fun ρ => okPtr_ap ρ g1
      have ap := fun ρ => oApp_ap (d := lyQ (0, q)) ρ g3 rfl (by simp)
      have fq : D.tup [frQ 0, frQ q] = lyQ (0, q) := rfl
      have rl : M.length < M3.length := (List.getElem?_eq_some_iff.mp g3).1
      refine ⟨[(0, q)], M3.set M.length (some ([] ++ [lyQ (0, q)])), ?_, ⟨fun p hp => ?_, fun p hp => ?_, fun p hp => ?_, List.pairwise_singleton _ _⟩, by simp, (t3.has.mono (by omega)).set (by omega), by rw [List.length_set, t3.len, t1.len]; simp, fun j hj a => by rw [List.getElem?_set_ne (by omega), t3.oth j a, t1.oth j a, List.getElem?_append_left hj], by rw [List.getElem?_set_self rl]; rfl⟩
      · generalize shR.map frQ = SH at *
        simp -implicitDefEqProofs only [sSeq_ap, sAsg_ap, sPar_ap, sRet_ap, sIf_ap, sExpr_ap, sNext_ap, bnd_ap, ret_ap, bindR_ok, thenR_ok, dVar_ap, varR_ok, seqR_nx, seqR_rt, asgR_ok, gNm_ap, gCn_ap, gcnR_ok, gNl_ap, gTp_fr, gTp_ap, gLs_ap, dCons_ap, dNil_ap, asB_ap, dOr_ap, dAnd_ap, dNot_ap, dAndV_ap, dOrV_ap, dNotV_ap, dIf_ap, oAdd_int, oSub_int, oLt_int, oLe_int, oGt_int, oGe_int, oNeg_int, oEq_int, oNe_int, oEq_fr, oNe_fr, oEq_bl, oNe_bl, oTup_ap, oLst_ap, oCall_ap, oAbs_ap, oMax_ap, oMin_ap, oToInt_b, oToInt_i, oLen_lst, oLen_scr, oLen_tup, oIx_lst, oIx_scr, oAdd_lst, oIx_tup, oIx_fr0, oIx_fr1, ixR_ok, oItL_ap, oItT_ap, sFor_ap, startD, List.map_cons, List.map_nil, List.length_cons, List.length_nil, List.replicate_succ, List.replicate_zero, List.cons_append, List.nil_append, List.append_nil, List.getElem?_cons_zero, List.getElem?_cons_succ, List.set_cons_zero, List.set_cons_succ, Nat.reduceAdd, Nat.reduceSub, Nat.sub_self, Nat.reduceLeDiff, List.all_cons, List.all_nil, np_fr, np_int, np_bl, np_tup, np_lst, np_str, np_non, Bool.and_self, Bool.and_true, if_true_, if_false_, zero_add', if_tt, if_ff, decide_true, decide_false, Nat.le_refl, oItS_lst, oItS_tup, oTupOf_lst, oTupOf_tup, oLstOf_lst, oLstOf_tup, oRv_lst, oRv_tup, oAdd_tup, dChain_ap, asTru_bl, asTru_tup, asTru_lst, oIsN_ap, oNotN_ap, asI_ap, oSl_tup, oSl_lst, oZip_tup, oZip_lst, oAddI_ap, oEqS_ap, oNeS_ap, oNe_nil, e1, k0, ok1, e3, zf, fq, ap]
      · rw [List.mem_singleton.mp hp]
        exact ⟨sz_zero, (sq.mono (by decide)).t⟩
      · rw [List.mem_singleton.mp hp]
        exact ⟨Rat.le_refl, Rat.le_of_lt q0, fun _ => Rat.ne_of_gt q0, fun h => absurd rfl h⟩
      · rw [List.mem_singleton.mp hp]
        exact ⟨q0, by show f * 1 * 0 < q; rw [Rat.mul_zero]; exact q0⟩
    · have k0 : decide (x = 0) = false := decide_eq_false z
      refine ⟨[], M1, ?_, ⟨fun p hp => absurd hp (by simp), fun p hp => absurd hp (by simp), fun p hp => absurd hp (by simp), List.Pairwise.nil⟩, by simp, t1.has.mono (by omega), by rw [t1.len]; simp, fun j hj a => by rw [t1.oth j a, List.getElem?_append_left hj], g1⟩
      simp -implicitDefEqProofs only [sSeq_ap, sAsg_ap, sPar_ap, sRet_ap, sIf_ap, sExpr_ap, sNext_ap, bnd_ap, ret_ap, bindR_ok, thenR_ok, dVar_ap, varR_ok, seqR_nx, seqR_rt, asgR_ok, gNm_ap, gCn_ap, gcnR_ok, gNl_ap, gTp_fr, gTp_ap, gLs_ap, dCons_ap, dNil_ap, asB_ap, dOr_ap, dAnd_ap, dNot_ap, dAndV_ap, dOrV_ap, dNotV_ap, dIf_ap, oAdd_int, oSub_int, oLt_int, oLe_int, oGt_int, oGe_int, oNeg_int, oEq_int, oNe_int, oEq_fr, oNe_fr, oEq_bl, oNe_bl, oTup_ap, oLst_ap, oCall_ap, oAbs_ap, oMax_ap, oMin_ap, oToInt_b, oToInt_i, oLen_lst, oLen_scr, oLen_tup, oIx_lst, oIx_scr, oAdd_lst, oIx_tup, oIx_fr0, oIx_fr1, ixR_ok, oItL_ap, oItT_ap, sFor_ap, startD, List.map_cons, List.map_nil, List.length_cons, List.length_nil, List.replicate_succ, List.replicate_zero, List.cons_append, List.nil_append, List.append_nil, List.getElem?_cons_zero, List.getElem?_cons_succ, List.set_cons_zero, List.set_cons_succ, Nat.reduceAdd, Nat.reduceSub, Nat.sub_self, Nat.reduceLeDiff, List.all_cons, List.all_nil, np_fr, np_int, np_bl, np_tup, np_lst, np_str, np_non, Bool.and_self, Bool.and_true, if_true_, if_false_, zero_add', if_tt, if_ff, decide_true, decide_false, Nat.le_refl, oItS_lst, oItS_tup, oTupOf_lst, oTupOf_tup, oLstOf_lst, oLstOf_tup, oRv_lst, oRv_tup, oAdd_tup, dChain_ap, asTru_bl, asTru_tup, asTru_lst, oIsN_ap, oNotN_ap, asI_ap, oSl_tup, oSl_lst, oZip_tup, oZip_lst, oAddI_ap, oEqS_ap, oNeS_ap, oNe_nil, e1, k0, Bool.false_eq_true]
  obtain ⟨T, p5, p6, M3, e3, bT0, lT0, h3, l3, ot3, g3⟩ := shr_loop (o2 := some (.int 8)) (o3 := some (.lst (shR.map frQ))) f0 sf (by omega : n ≠ M.length) shR 1 (c + 3) T0 M2 none none dwn_sh b0 h2 (by rw [ls]; omega) g2 (by rw [ls]; omega)
  rw [ls] at h3
  obtain ⟨y, M4, e4, y0, y1, t4⟩ := bdraw_eq h3 (by omega) (m := 4) (by decide) (by decide)
  have g4 : M4[M.length]? = some (some (T.map lyQ)) := by rw [t4.oth _ (by omega)]; exact g3
  obtain ⟨T1, M5, st5, gT, h5, l5, ot5, g5⟩ : ∃ (T1 : List (Rat × Rat)) (M5 : Mem), (sIf (bnd (bnd (bnd (dCons (dVar 0) (dCons (ret (.int 4)) dNil)) (oCall 2 F__law_draw)) fun d => bnd (ret (.int 0)) fun e => oEq d e) asB) (sExpr (bnd (dVar 4) fun d => bnd (okPtr d) fun d => bnd (bnd (dCons (bnd (dCons (dVar 0) dNil) (oCall 1 F__law_a_positive)) (dCons (bnd (dCons (ret (.int 0)) (dCons (ret (.int 1)) dNil)) oTup) dNil)) oTup) fun y => oApp d y)) sNext) [some (.ptr n), some (frQ f), some (.int 8), some (.lst (shR.map frQ)), some (.ptr M.length), p5, p6] M3 = some (.nx [some (.ptr n), some (frQ f), some (.int 8), some (.lst (shR.map frQ)), some (.ptr M.length), p5, p6], M5) ∧ GdB f T1 ∧ HasBag (c + 40) n M5 ∧ M5.length = M.length + 1 ∧ (∀ j, j < M.length → j ≠ n → M5[j]? = M[j]?) ∧ M5[M.length]? = some (some (T1.map lyQ)) := by
    by_cases z : y = 0
    · have k0 : decide (y = 0) = true := decide_eq_true z
      obtain ⟨q, M5, e5, q0, sq, t5⟩ := pos_eq t4.has (by omega)
      have g5 : M5[M.length]? = some (some (T.map lyQ)) := by rw [t5.oth _ (by omega)]; exact g4
      have ok1 := fun ρ => okPtr_ap ρ g4
      have ap := fun ρ => oApp_ap (d := lyQ (q, 0)) ρ g5 rfl (by rw [List.length_map]; omega)
      have fq : D.tup [frQ q, frQ 0] = lyQ (q, 0) := rfl
      have rl : M.length < M5.length := (List.getElem?_eq_some_iff.mp g5).1
      refine ⟨T ++ [(q, 0)], M5.set M.length (some (T.map lyQ ++ [lyQ (q, 0)])), ?_, ⟨fun p hp => ?_, fun p hp => ?_, ?_, by simp; omega⟩, (t5.has.mono (by omega)).set (by omega), by rw [List.length_set, t5.len, t4.len, l3, l2], fun j hj a => by rw [List.getElem?_set_ne (by omega), t5.oth j a, t4.oth j a, ot3 j a (by omega), ot2 j hj a], by rw [List.getElem?_set_self rl, List.map_append]; rfl⟩
      · generalize shR.map frQ = SH at *
        simp -implicitDefEqProofs only [sSeq_ap, sAsg_ap, sPar_ap, sRet_ap, sIf_ap, sExpr_ap, sNext_ap, bnd_ap, ret_ap, bindR_ok, thenR_ok, dVar_ap, varR_ok, seqR_nx, seqR_rt, asgR_ok, gNm_ap, gCn_ap, gcnR_ok, gNl_ap, gTp_fr, gTp_ap, gLs_ap, dCons_ap, dNil_ap, asB_ap, dOr_ap, dAnd_ap, dNot_ap, dAndV_ap, dOrV_ap, dNotV_ap, dIf_ap, oAdd_int, oSub_int, oLt_int, oLe_int, oGt_int, oGe_int, oNeg_int, oEq_int, oNe_int, oEq_fr, oNe_fr, oEq_bl, oNe_bl, oTup_ap, oLst_ap, oCall_ap, oAbs_ap, oMax_ap, oMin_ap, oToInt_b, oToInt_i, oLen_lst, oLen_scr, oLen_tup, oIx_lst, oIx_scr, oAdd_lst, oIx_tup, oIx_fr0, oIx_fr1, ixR_ok, oItL_ap, oItT_ap, sFor_ap, startD, List.map_cons, List.map_nil, List.length_cons, List.length_nil, List.replicate_succ, List.replicate_zero, List.cons_append, List.nil_append, List.append_nil, List.getElem?_cons_zero, List.getElem?_cons_succ, List.set_cons_zero, List.set_cons_succ, Nat.reduceAdd, Nat.reduceSub, Nat.sub_self, Nat.reduceLeDiff, List.all_cons, List.all_nil, np_fr, np_int, np_bl, np_tup, np_lst, np_str, np_non, Bool.and_self, Bool.and_true, if_true_, if_false_, zero_add', if_tt, if_ff, decide_true, decide_false, Nat.le_refl, oItS_lst, oItS_tup, oTupOf_lst, oTupOf_tup, oLstOf_lst, oLstOf_tup, oRv_lst, oRv_tup, oAdd_tup, dChain_ap, asTru_bl, asTru_tup, asTru_lst, oIsN_ap, oNotN_ap, asI_ap, oSl_tup, oSl_lst, oZip_tup, oZip_lst, oAddI_ap, oEqS_ap, oNeS_ap, oNe_nil, e4, k0, ok1, e5, zf, fq, ap]
      · rcases List.mem_append.mp hp with hp | hp
        · exact bT0.sz p hp
        · rw [List.mem_singleton.mp hp]
          exact ⟨(sq.mono (by decide)).t, sz_zero⟩
      · rcases List.mem_append.mp hp with hp | hp
        · exact bT0.ly p hp
        · rw [List.mem_singleton.mp hp]
          exact ⟨Rat.le_of_lt q0, Rat.le_refl, fun h => absurd h (Rat.ne_of_gt q0), fun _ => Rat.mul_nonneg (Rat.le_of_lt f0) (Rat.le_of_lt q0)⟩
      · refine List.pairwise_append.mpr ⟨bT0.pw, List.pairwise_singleton _ _, fun p hp r hr => ?_⟩
        rw [List.mem_singleton.mp hr]
        show 0 * p.1 < p.2 * q
        rw [Rat.zero_mul]
        exact Rat.mul_pos (bT0.st p hp).1 q0
    · have k0 : decide (y = 0) = false := decide_eq_false z
      refine ⟨T, M4, ?_, bT0.good (by omega), t4.has.mono (by omega), by rw [t4.len, l3, l2], fun j hj a => by rw [t4.oth j a, ot3 j a (by omega), ot2 j hj a], g4⟩
      simp -implicitDefEqProofs only [sSeq_ap, sAsg_ap, sPar_ap, sRet_ap, sIf_ap, sExpr_ap, sNext_ap, bnd_ap, ret_ap, bindR_ok, thenR_ok, dVar_ap, varR_ok, seqR_nx, seqR_rt, asgR_ok, gNm_ap, gCn_ap, gcnR_ok, gNl_ap, gTp_fr, gTp_ap, gLs_ap, dCons_ap, dNil_ap, asB_ap, dOr_ap, dAnd_ap, dNot_ap, dAndV_ap, dOrV_ap, dNotV_ap, dIf_ap, oAdd_int, oSub_int, oLt_int, oLe_int, oGt_int, oGe_int, oNeg_int, oEq_int, oNe_int, oEq_fr, oNe_fr, oEq_bl, oNe_bl, oTup_ap, oLst_ap, oCall_ap, oAbs_ap, oMax_ap, oMin_ap, oToInt_b, oToInt_i, oLen_lst, oLen_scr, oLen_tup, oIx_lst, oIx_scr, oAdd_lst, oIx_tup, oIx_fr0, oIx_fr1, ixR_ok, oItL_ap, oItT_ap, sFor_ap, startD, List.map_cons, List.map_nil, List.length_cons, List.length_nil, List.replicate_succ, List.replicate_zero, List.cons_append, List.nil_append, List.append_nil, List.getElem?_cons_zero, List.getElem?_cons_succ, List.set_cons_zero, List.set_cons_succ, Nat.reduceAdd, Nat.reduceSub, Nat.sub_self, Nat.reduceLeDiff, List.all_cons, List.all_nil, np_fr, np_int, np_bl, np_tup, np_lst, np_str, np_non, Bool.and_self, Bool.and_true, if_true_, if_false_, zero_add', if_tt, if_ff, decide_true, decide_false, Nat.le_refl, oItS_lst, oItS_tup, oTupOf_lst, oTupOf_tup, oLstOf_lst, oLstOf_tup, oRv_lst, oRv_tup, oAdd_tup, dChain_ap, asTru_bl, asTru_tup, asTru_lst, oIsN_ap, oNotN_ap, asI_ap, oSl_tup, oSl_lst, oZip_tup, oZip_lst, oAddI_ap, oEqS_ap, oNeS_ap, oNe_nil, e4, k0, Bool.false_eq_true]
  have dc := bag_cut (M' := M5) hr h5 (by omega) ot5
  have tp := fun ρ => oTupOf_ptr (ρ := ρ) g5
  have c8 := cutN (ds := shR.map frQ) (k := 8) (by simp [shR])
  have c8' : cutD (shR.map frQ) none (some 8) = shR.map frQ := c8
  refine ⟨T1, M5.take M.length, runF_rt ?_ (by omega) rfl, gT, dc⟩
  rw [show startD ["bag", "full", "most", "shares", "found", "share", "water"] [D.ptr n, frQ f, .int 8] = [some (.ptr n), some (frQ f), some (.int 8), none, none, none, none] from rfl]
  unfold den__law_a_brine
  rw [seq_step (ρ1 := [some (.ptr n), some (frQ f), some (.int 8), some (.lst (shR.map frQ)), none, none, none]) (M1 := M) (by simp -implicitDefEqProofs only [sSeq_ap, sAsg_ap, sPar_ap, sRet_ap, sIf_ap, sExpr_ap, sNext_ap, bnd_ap, ret_ap, bindR_ok, thenR_ok, dVar_ap, varR_ok, seqR_nx, seqR_rt, asgR_ok, gNm_ap, gCn_ap, gcnR_ok, gNl_ap, gTp_fr, gTp_ap, gLs_ap, dCons_ap, dNil_ap, asB_ap, dOr_ap, dAnd_ap, dNot_ap, dAndV_ap, dOrV_ap, dNotV_ap, dIf_ap, oAdd_int, oSub_int, oLt_int, oLe_int, oGt_int, oGe_int, oNeg_int, oEq_int, oNe_int, oEq_fr, oNe_fr, oEq_bl, oNe_bl, oTup_ap, oLst_ap, oCall_ap, oAbs_ap, oMax_ap, oMin_ap, oToInt_b, oToInt_i, oLen_lst, oLen_scr, oLen_tup, oIx_lst, oIx_scr, oAdd_lst, oIx_tup, oIx_fr0, oIx_fr1, ixR_ok, oItL_ap, oItT_ap, sFor_ap, startD, List.map_cons, List.map_nil, List.length_cons, List.length_nil, List.replicate_succ, List.replicate_zero, List.cons_append, List.nil_append, List.append_nil, List.getElem?_cons_zero, List.getElem?_cons_succ, List.set_cons_zero, List.set_cons_succ, Nat.reduceAdd, Nat.reduceSub, Nat.sub_self, Nat.reduceLeDiff, List.all_cons, List.all_nil, np_fr, np_int, np_bl, np_tup, np_lst, np_str, np_non, Bool.and_self, Bool.and_true, if_true_, if_false_, zero_add', if_tt, if_ff, decide_true, decide_false, Nat.le_refl, oItS_lst, oItS_tup, oTupOf_lst, oTupOf_tup, oLstOf_lst, oLstOf_tup, oRv_lst, oRv_tup, oAdd_tup, dChain_ap, asTru_bl, asTru_tup, asTru_lst, oIsN_ap, oNotN_ap, asI_ap, oSl_tup, oSl_lst, oZip_tup, oZip_lst, oAddI_ap, oEqS_ap, oNeS_ap, oNe_nil, s1, s2, s3, s4, s5, s6, s7, s8, sh])]
  rw [seq_step (ρ1 := [some (.ptr n), some (frQ f), some (.int 8), some (.lst (shR.map frQ)), some (.ptr M.length), none, none]) (M1 := M ++ [some []]) (by simp -implicitDefEqProofs only [sSeq_ap, sAsg_ap, sPar_ap, sRet_ap, sIf_ap, sExpr_ap, sNext_ap, bnd_ap, ret_ap, bindR_ok, thenR_ok, dVar_ap, varR_ok, seqR_nx, seqR_rt, asgR_ok, gNm_ap, gCn_ap, gcnR_ok, gNl_ap, gTp_fr, gTp_ap, gLs_ap, dCons_ap, dNil_ap, asB_ap, dOr_ap, dAnd_ap, dNot_ap, dAndV_ap, dOrV_ap, dNotV_ap, dIf_ap, oAdd_int, oSub_int, oLt_int, oLe_int, oGt_int, oGe_int, oNeg_int, oEq_int, oNe_int, oEq_fr, oNe_fr, oEq_bl, oNe_bl, oTup_ap, oLst_ap, oCall_ap, oAbs_ap, oMax_ap, oMin_ap, oToInt_b, oToInt_i, oLen_lst, oLen_scr, oLen_tup, oIx_lst, oIx_scr, oAdd_lst, oIx_tup, oIx_fr0, oIx_fr1, ixR_ok, oItL_ap, oItT_ap, sFor_ap, startD, List.map_cons, List.map_nil, List.length_cons, List.length_nil, List.replicate_succ, List.replicate_zero, List.cons_append, List.nil_append, List.append_nil, List.getElem?_cons_zero, List.getElem?_cons_succ, List.set_cons_zero, List.set_cons_succ, Nat.reduceAdd, Nat.reduceSub, Nat.sub_self, Nat.reduceLeDiff, List.all_cons, List.all_nil, np_fr, np_int, np_bl, np_tup, np_lst, np_str, np_non, Bool.and_self, Bool.and_true, if_true_, if_false_, zero_add', if_tt, if_ff, decide_true, decide_false, Nat.le_refl, oItS_lst, oItS_tup, oTupOf_lst, oTupOf_tup, oLstOf_lst, oLstOf_tup, oRv_lst, oRv_tup, oAdd_tup, dChain_ap, asTru_bl, asTru_tup, asTru_lst, oIsN_ap, oNotN_ap, asI_ap, oSl_tup, oSl_lst, oZip_tup, oZip_lst, oAddI_ap, oEqS_ap, oNeS_ap, oNe_nil, n1])]
  rw [seq_step st2]
  rw [seq_step (ρ1 := [some (.ptr n), some (frQ f), some (.int 8), some (.lst (shR.map frQ)), some (.ptr M.length), p5, p6]) (M1 := M3) (by
    generalize shR.map frQ = SH at *
    simp -implicitDefEqProofs only [sSeq_ap, sAsg_ap, sPar_ap, sRet_ap, sIf_ap, sExpr_ap, sNext_ap, bnd_ap, ret_ap, bindR_ok, thenR_ok, dVar_ap, varR_ok, seqR_nx, seqR_rt, asgR_ok, gNm_ap, gCn_ap, gcnR_ok, gNl_ap, gTp_fr, gTp_ap, gLs_ap, dCons_ap, dNil_ap, asB_ap, dOr_ap, dAnd_ap, dNot_ap, dAndV_ap, dOrV_ap, dNotV_ap, dIf_ap, oAdd_int, oSub_int, oLt_int, oLe_int, oGt_int, oGe_int, oNeg_int, oEq_int, oNe_int, oEq_fr, oNe_fr, oEq_bl, oNe_bl, oTup_ap, oLst_ap, oCall_ap, oAbs_ap, oMax_ap, oMin_ap, oToInt_b, oToInt_i, oLen_lst, oLen_scr, oLen_tup, oIx_lst, oIx_scr, oAdd_lst, oIx_tup, oIx_fr0, oIx_fr1, ixR_ok, oItL_ap, oItT_ap, sFor_ap, startD, List.map_cons, List.map_nil, List.length_cons, List.length_nil, List.replicate_succ, List.replicate_zero, List.cons_append, List.nil_append, List.append_nil, List.getElem?_cons_zero, List.getElem?_cons_succ, List.set_cons_zero, List.set_cons_succ, Nat.reduceAdd, Nat.reduceSub, Nat.sub_self, Nat.reduceLeDiff, List.all_cons, List.all_nil, np_fr, np_int, np_bl, np_tup, np_lst, np_str, np_non, Bool.and_self, Bool.and_true, if_true_, if_false_, zero_add', if_tt, if_ff, decide_true, decide_false, Nat.le_refl, oItS_lst, oItS_tup, oTupOf_lst, oTupOf_tup, oLstOf_lst, oLstOf_tup, oRv_lst, oRv_tup, oAdd_tup, dChain_ap, asTru_bl, asTru_tup, asTru_lst, oIsN_ap, oNotN_ap, asI_ap, oSl_tup, oSl_lst, oZip_tup, oZip_lst, oAddI_ap, oEqS_ap, oNeS_ap, oNe_nil, c8', e3])]
  rw [seq_step st5]
  generalize T1.map lyQ = TT at *
  simp -implicitDefEqProofs only [sSeq_ap, sAsg_ap, sPar_ap, sRet_ap, sIf_ap, sExpr_ap, sNext_ap, bnd_ap, ret_ap, bindR_ok, thenR_ok, dVar_ap, varR_ok, seqR_nx, seqR_rt, asgR_ok, gNm_ap, gCn_ap, gcnR_ok, gNl_ap, gTp_fr, gTp_ap, gLs_ap, dCons_ap, dNil_ap, asB_ap, dOr_ap, dAnd_ap, dNot_ap, dAndV_ap, dOrV_ap, dNotV_ap, dIf_ap, oAdd_int, oSub_int, oLt_int, oLe_int, oGt_int, oGe_int, oNeg_int, oEq_int, oNe_int, oEq_fr, oNe_fr, oEq_bl, oNe_bl, oTup_ap, oLst_ap, oCall_ap, oAbs_ap, oMax_ap, oMin_ap, oToInt_b, oToInt_i, oLen_lst, oLen_scr, oLen_tup, oIx_lst, oIx_scr, oAdd_lst, oIx_tup, oIx_fr0, oIx_fr1, ixR_ok, oItL_ap, oItT_ap, sFor_ap, startD, List.map_cons, List.map_nil, List.length_cons, List.length_nil, List.replicate_succ, List.replicate_zero, List.cons_append, List.nil_append, List.append_nil, List.getElem?_cons_zero, List.getElem?_cons_succ, List.set_cons_zero, List.set_cons_succ, Nat.reduceAdd, Nat.reduceSub, Nat.sub_self, Nat.reduceLeDiff, List.all_cons, List.all_nil, np_fr, np_int, np_bl, np_tup, np_lst, np_str, np_non, Bool.and_self, Bool.and_true, if_true_, if_false_, zero_add', if_tt, if_ff, decide_true, decide_false, Nat.le_refl, oItS_lst, oItS_tup, oTupOf_lst, oTupOf_tup, oLstOf_lst, oLstOf_tup, oRv_lst, oRv_tup, oAdd_tup, dChain_ap, asTru_bl, asTru_tup, asTru_lst, oIsN_ap, oNotN_ap, asI_ap, oSl_tup, oSl_lst, oZip_tup, oZip_lst, oAddI_ap, oEqS_ap, oNeS_ap, oNe_nil, tp]
/-! the long brine -/
def KS : List Int := [1, 2, 3, 4, 5, 6, 7, 8, 9, 10, 11, 12, 13, 14, 15, 16, 17, 18, 19, 20, 21, 22, 23, 24, 25, 26, 27, 28, 29, 30]
def KT : List Int := [4, 8, 12, 16, 20, 24, 28, 1, 5, 9, 13, 17, 21, 25, 29, 2, 6, 10, 14, 18, 22, 26, 30, 3, 7, 11, 15, 19, 23, 27]
def kyL (k : Int) : Int := (k * 100).fmod 397
def kwL (k : Int) : Int := 1 + k.fmod 7
def lay (F k : Int) : Rat × Rat := ((kwL k : Rat), Rat.divInt (F * kwL k * kyL k) 397)
def tri (F k : Int) : D := .tup [.int (kyL k), frQ (lay F k).1, frQ (lay F k).2]
theorem ks_b : ∀ k ∈ KS, 1 ≤ k ∧ k ≤ 30 ∧ 1 ≤ kwL k ∧ kwL k ≤ 7 ∧ 1 ≤ kyL k ∧ kyL k ≤ 396 := by decide +kernel
theorem kt_perm : KT.Perm KS := by decide +kernel
theorem kt_le : KT.Pairwise fun a b => kyL a < kyL b := by decide +kernel
theorem ks_nd : (KS.map kyL).Nodup := by decide +kernel
theorem srt_tri (F : Int) : srt3 (KS.map (tri F)) = KT.map (tri F) := by
  have nd : ((KT.map (tri F)).map k3).Nodup := by
    rw [List.map_map]
    show (KT.map kyL).Nodup
    exact (kt_perm.map kyL).nodup_iff.mpr ks_nd
  refine (srt3_uniq nd ((kt_perm.map (tri F)).trans (srt3_perm _).symm) ?_ (srt3_le _)).symm
  rw [List.pairwise_map]
  exact kt_le.imp fun h => Int.le_of_lt h
theorem long_turn {F k : Int} {n r : Nat} {ps : List Int} {M : Mem} (F0 : 1 ≤ F) (F1 : F ≤ 9) (hk : k ∈ KS) (hM : M[r]? = some (some (ps.map (tri F)))) (hl : ps.length ≤ 100) (o4 o5 o6 : Option D) : den__law_long_brine_L1 [some (.ptr n), some (frQ (F : Rat)), some (.ptr r), some (.int k), o4, o5, o6] M = some (.nx [some (.ptr n), some (frQ (F : Rat)), some (.ptr r), some (.int k), some (frQ (kwL k : Rat)), o5, o6], M.set r (some ((ps ++ [k]).map (tri F)))) := by
  obtain ⟨a1, a2, b1, b2, c1, c2⟩ := ks_b k hk
  have z7 : (7 : Int) ≠ 0 := by decide
  have z397 : (397 : Int) ≠ 0 := by decide
  have k1 : MulOk k 100 := MulOk.of (a := 10) (b := 10) (by omega) (by decide)
  have k2 : MulOk F (kwL k) := MulOk.of (a := 10) (b := 10) (by omega) (by omega)
  have fw0 : 0 ≤ F * kwL k := Int.mul_nonneg (by omega) (by omega)
  have fw1 : F * kwL k ≤ 9 * 7 := Int.mul_le_mul F1 b2 (by omega) (by decide)
  have k3' : MulOk (F * kwL k) (kyL k) := MulOk.of (a := 10) (b := 10) (by omega) (by omega)
  have md := made_eq (a := F * kwL k * kyL k) (b := 397) (by decide) (small_400 (by decide)) M
  have fi := int_fr (kwL k)
  have ek : 1 + k.fmod 7 = kwL k := rfl
  have ey : (k * 100).fmod 397 = kyL k := rfl
  have n1 : ((kwL k : Int) : Rat).num = kwL k := rfl
  have n2 : ((F : Int) : Rat).num = F := rfl
  have md' : F__law_made [.int (F * kwL k * kyL k), .int 397] M = some (.ok (frQ (Rat.divInt (F * kwL k * kyL k) 397)), M) := md
  have ok := fun ρ => okPtr_ap ρ hM
  have ap := fun ρ => oApp_ap (d := tri F k) ρ hM rfl (by rw [List.length_map]; omega)
  have et : D.tup [.int (kyL k), frQ (kwL k : Rat), frQ (Rat.divInt (F * kwL k * kyL k) 397)] = tri F k := rfl
  have em : (ps ++ [k]).map (tri F) = ps.map (tri F) ++ [tri F k] := by rw [List.map_append]; rfl
  rw [em]
  simp -implicitDefEqProofs only [den__law_long_brine_L1, sSeq_ap, sAsg_ap, sPar_ap, sRet_ap, sIf_ap, sExpr_ap, sNext_ap, bnd_ap, ret_ap, bindR_ok, thenR_ok, dVar_ap, varR_ok, seqR_nx, seqR_rt, asgR_ok, gNm_ap, gCn_ap, gcnR_ok, gNl_ap, gTp_fr, gTp_ap, gLs_ap, dCons_ap, dNil_ap, asB_ap, dOr_ap, dAnd_ap, dNot_ap, dAndV_ap, dOrV_ap, dNotV_ap, dIf_ap, oAdd_int, oSub_int, oLt_int, oLe_int, oGt_int, oGe_int, oNeg_int, oEq_int, oNe_int, oEq_fr, oNe_fr, oEq_bl, oNe_bl, oTup_ap, oLst_ap, oCall_ap, oAbs_ap, oMax_ap, oMin_ap, oToInt_b, oToInt_i, oLen_lst, oLen_scr, oLen_tup, oIx_lst, oIx_scr, oAdd_lst, oIx_tup, oIx_fr0, oIx_fr1, ixR_ok, oItL_ap, oItT_ap, sFor_ap, startD, List.map_cons, List.map_nil, List.length_cons, List.length_nil, List.replicate_succ, List.replicate_zero, List.cons_append, List.nil_append, List.append_nil, List.getElem?_cons_zero, List.getElem?_cons_succ, List.set_cons_zero, List.set_cons_succ, Nat.reduceAdd, Nat.reduceSub, Nat.sub_self, Nat.reduceLeDiff, List.all_cons, List.all_nil, np_fr, np_int, np_bl, np_tup, np_lst, np_str, np_non, Bool.and_self, Bool.and_true, if_true_, if_false_, zero_add', if_tt, if_ff, decide_true, decide_false, Nat.le_refl, oItS_lst, oItS_tup, oTupOf_lst, oTupOf_tup, oLstOf_lst, oLstOf_tup, oRv_lst, oRv_tup, oAdd_tup, dChain_ap, asTru_bl, asTru_tup, asTru_lst, oIsN_ap, oNotN_ap, asI_ap, oSl_tup, oSl_lst, oZip_tup, oZip_lst, oAddI_ap, oEqS_ap, oNeS_ap, oNe_nil, ok, oMod_int z7, ek, fi, oMul_int k1, oMod_int z397, ey, n1, n2, oMul_int k2, oMul_int k3', md', et, ap]
theorem long_loop {F : Int} {n r : Nat} (F0 : 1 ≤ F) (F1 : F ≤ 9) : ∀ (ks ps : List Int) (M : Mem) (o3 o4 o5 o6 : Option D), (∀ k ∈ ks, k ∈ KS) → M[r]? = some (some (ps.map (tri F))) → ps.length + ks.length ≤ 100 → ∃ (p3 p4 p5 p6 : Option D) (M' : Mem), forF (gNm 3) den__law_long_brine_L1 (ks.map D.int) [some (.ptr n), some (frQ (F : Rat)), some (.ptr r), o3, o4, o5, o6] M = some (.nx [some (.ptr n), some (frQ (F : Rat)), some (.ptr r), p3, p4, p5, p6], M') ∧ M'.length = M.length ∧ (∀ j, j ≠ r → M'[j]? = M[j]?) ∧ M'[r]? = some (some ((ps ++ ks).map (tri F)))
  | [], ps, M, o3, o4, o5, o6, _, hM, _ => ⟨o3, o4, o5, o6, M, rfl, rfl, fun _ _ => rfl, by rw [List.append_nil]; exact hM⟩
  | k :: ks, ps, M, o3, o4, o5, o6, hk, hM, hl => by
    rw [List.length_cons] at hl
    have st := long_turn (n := n) F0 F1 (hk k (by simp)) hM (by omega) o4 o5 o6
    have rl : r < M.length := (List.getElem?_eq_some_iff.mp hM).1
    obtain ⟨p3, p4, p5, p6, M', e, l1, ot, g⟩ := long_loop (n := n) F0 F1 ks (ps ++ [k]) (M.set r (some ((ps ++ [k]).map (tri F)))) (some (.int k)) (some (frQ (kwL k : Rat))) o5 o6 (fun x hx => hk x (by simp [hx])) (List.getElem?_set_self rl) (by simp; omega)
    refine ⟨p3, p4, p5, p6, M', ?_, by rw [l1, List.length_set], fun j hj => by rw [ot j hj, List.getElem?_set_ne (Ne.symm hj)], by rw [g, List.append_assoc]; rfl⟩
    rw [List.map_cons, forF_cons]
    simp -implicitDefEqProofs only [sSeq_ap, sAsg_ap, sPar_ap, sRet_ap, sIf_ap, sExpr_ap, sNext_ap, bnd_ap, ret_ap, bindR_ok, thenR_ok, dVar_ap, varR_ok, seqR_nx, seqR_rt, asgR_ok, gNm_ap, gCn_ap, gcnR_ok, gNl_ap, gTp_fr, gTp_ap, gLs_ap, dCons_ap, dNil_ap, asB_ap, dOr_ap, dAnd_ap, dNot_ap, dAndV_ap, dOrV_ap, dNotV_ap, dIf_ap, oAdd_int, oSub_int, oLt_int, oLe_int, oGt_int, oGe_int, oNeg_int, oEq_int, oNe_int, oEq_fr, oNe_fr, oEq_bl, oNe_bl, oTup_ap, oLst_ap, oCall_ap, oAbs_ap, oMax_ap, oMin_ap, oToInt_b, oToInt_i, oLen_lst, oLen_scr, oLen_tup, oIx_lst, oIx_scr, oAdd_lst, oIx_tup, oIx_fr0, oIx_fr1, ixR_ok, oItL_ap, oItT_ap, sFor_ap, startD, List.map_cons, List.map_nil, List.length_cons, List.length_nil, List.replicate_succ, List.replicate_zero, List.cons_append, List.nil_append, List.append_nil, List.getElem?_cons_zero, List.getElem?_cons_succ, List.set_cons_zero, List.set_cons_succ, Nat.reduceAdd, Nat.reduceSub, Nat.sub_self, Nat.reduceLeDiff, List.all_cons, List.all_nil, np_fr, np_int, np_bl, np_tup, np_lst, np_str, np_non, Bool.and_self, Bool.and_true, if_true_, if_false_, zero_add', if_tt, if_ff, decide_true, decide_false, Nat.le_refl, oItS_lst, oItS_tup, oTupOf_lst, oTupOf_tup, oLstOf_lst, oLstOf_tup, oRv_lst, oRv_tup, oAdd_tup, dChain_ap, asTru_bl, asTru_tup, asTru_lst, oIsN_ap, oNotN_ap, asI_ap, oSl_tup, oSl_lst, oZip_tup, oZip_lst, oAddI_ap, oEqS_ap, oNeS_ap, oNe_nil, forB_ok, st, ofR_nx, e]
theorem lyx397 (F k : Int) : (lay F k).2 * 397 = (F : Rat) * (kwL k : Rat) * (kyL k : Rat) := by
  show Rat.divInt (F * kwL k * kyL k) 397 * 397 = _
  rw [Rat.divInt_eq_div, Rat.intCast_mul, Rat.intCast_mul]
  exact Rat.div_mul_cancel (by decide)
theorem long_good {F : Int} (F0 : 1 ≤ F) (F1 : F ≤ 9) : GdB (F : Rat) (KT.reverse.map (lay F)) := by
  have mem : ∀ p ∈ KT.reverse.map (lay F), ∃ k ∈ KS, p = lay F k := fun p hp => by
    obtain ⟨k, hk, rfl⟩ := List.mem_map.mp hp
    exact ⟨k, kt_perm.mem_iff.mp (List.mem_reverse.mp hk), rfl⟩
  have Fp : (0 : Rat) < (F : Rat) := Rat.intCast_pos.mpr (by omega)
  have wp : ∀ k ∈ KS, (0 : Rat) < (kwL k : Rat) := fun k hk => Rat.intCast_pos.mpr (by have := ks_b k hk; omega)
  have s0 : ∀ k ∈ KS, 0 ≤ (lay F k).2 := fun k hk => by
    have b := ks_b k hk
    exact divInt_nn (Int.mul_nonneg (Int.mul_nonneg (by omega) (by omega)) (by omega)) (by decide)
  refine ⟨fun p hp => ?_, fun p hp => ?_, ?_, by simp [KT]⟩
  · obtain ⟨k, hk, rfl⟩ := mem p hp
    have b := ks_b k hk
    have fw0 : 0 ≤ F * kwL k := Int.mul_nonneg (by omega) (by omega)
    have fw1 : F * kwL k ≤ 9 * 7 := Int.mul_le_mul F1 b.2.2.2.1 (by omega) (by decide)
    have fs0 : 0 ≤ F * kwL k * kyL k := Int.mul_nonneg fw0 (by omega)
    have fs1 : F * kwL k * kyL k ≤ 63 * 396 := Int.mul_le_mul fw1 b.2.2.2.2.2 (by omega) (by decide)
    have s1 : SzN 6 (lay F k).1 := szn_int (by omega) (by decide)
    have s2 : SzN 6 (lay F k).2 := szn_div (b := 397) (by decide) (by omega) (by decide)
    exact ⟨(s1.mono (by decide)).t, (s2.mono (by decide)).t⟩
  · obtain ⟨k, hk, rfl⟩ := mem p hp
    have w := wp k hk
    have w' : (0 : Rat) < (lay F k).1 := w
    refine ⟨Rat.le_of_lt w', s0 k hk, fun z => absurd z (Rat.ne_of_gt w'), fun _ => ?_⟩
    show (lay F k).2 ≤ (F : Rat) * (kwL k : Rat)
    have x := lyx397 F k
    have yk0 : (kyL k : Rat) ≤ ((397 : Int) : Rat) := Rat.intCast_le_intCast.mpr (by have := ks_b k hk; omega)
    have e397 : ((397 : Int) : Rat) = 397 := rfl
    have yk : (kyL k : Rat) ≤ 397 := by rw [e397] at yk0; exact yk0
    have m := Rat.mul_le_mul_of_nonneg_left yk (Rat.le_of_lt (Rat.mul_pos Fp w))
    grind
  · rw [List.pairwise_map, List.pairwise_reverse]
    refine List.Pairwise.imp_of_mem (fun {a b} ha hb h => ?_) kt_le
    have wa := wp a (kt_perm.mem_iff.mp ha)
    have wb := wp b (kt_perm.mem_iff.mp hb)
    have xa := lyx397 F a
    have xb := lyx397 F b
    have hy : (kyL a : Rat) < (kyL b : Rat) := Rat.intCast_lt_intCast.mpr h
    have m := Rat.mul_lt_mul_of_pos_left hy (Rat.mul_pos (Rat.mul_pos Fp wa) wb)
    show (lay F a).2 * (kwL b : Rat) < (lay F b).2 * (kwL a : Rat)
    generalize (lay F a).2 = sa at *
    generalize (lay F b).2 = sb at *
    have e1 : sa * (kwL b : Rat) * 397 = (F : Rat) * (kwL a : Rat) * (kwL b : Rat) * (kyL a : Rat) := by
      have := congrArg (· * (kwL b : Rat)) xa
      grind
    have e2 : sb * (kwL a : Rat) * 397 = (F : Rat) * (kwL a : Rat) * (kwL b : Rat) * (kyL b : Rat) := by
      have := congrArg (· * (kwL a : Rat)) xb
      grind
    grind
def pairOf : D → D
  | .tup [_, a, b] => .tup [a, b]
  | _ => .non
theorem longb_eq {c n : Nat} {M : Mem} (hr : HasBag c n M) (hc : c + 5 < 2 ^ 20) : ∃ (F : Int) (M' : Mem), F__law_long_brine [.ptr n] M = some (.ok (.tup [frQ (F : Rat), .tup ((KT.reverse.map (lay F)).map lyQ)]), M') ∧ 1 ≤ F ∧ F ≤ 9 ∧ Dbag (c + 1) n M M' := by
  obtain ⟨x, M1, e1, a0, a1, t1⟩ := bdraw_eq hr (by omega) (m := 9) (by decide) (by decide)
  have hn := t1.has.lt
  have l1 := t1.len
  have n1 : ∀ ρ, oNew [] ρ M1 = some (.ok (.ptr M1.length), M1 ++ [some []]) := fun _ => rfl
  obtain ⟨F, eF⟩ : ∃ F : Int, 1 + x = F := ⟨_, rfl⟩
  have F0 : 1 ≤ F := by omega
  have F1 : F ≤ 9 := by omega
  have fi := int_fr F
  obtain ⟨p3, p4, p5, p6, M2, e2, l2, ot, g⟩ := long_loop (F := F) (n := n) (r := M1.length) F0 F1 KS [] (M1 ++ [some []]) none none none none (fun k hk => hk) (last_cell M1 _) (by simp [KS])
  rw [List.nil_append] at g
  have rg : ∀ ρ M, oRng2 [.int 1, .int 31] ρ M = some (.ok (KS.map D.int), M) := fun ρ M => by
    rw [oRng2_ap 1 31 ρ M (by decide)]; rfl
  have la : lstAt (.ptr M1.length) M2 = some (KS.map (tri F)) := by
    unfold lstAt
    dsimp only
    rw [g]
  have so := fun ρ => oSrt3_ap la (List.all_eq_true.mpr fun d hd => by
    obtain ⟨k, _, rfl⟩ := List.mem_map.mp hd
    rfl) (by rw [List.map_map]; exact ks_nd) ρ
  rw [srt_tri] at so
  have rv : (KT.map (tri F)).reverse = KT.reverse.map (tri F) := List.map_reverse.symm
  have lc := fun (M : Mem) => oLc_pf (ρ := [some (.ptr n), some (frQ (F : Rat)), some (.ptr M1.length), p3, p4, p5, p6]) (M := M) (b := gTp 3 (gCn (gNm 5) (gCn (gNm 4) (gCn (gNm 6) gNl)))) (tt := ret true) (te := bnd (dCons (dVar 4) (dCons (dVar 6) dNil)) oTup) (vs := [5, 4, 6]) (p := fun _ => true) (g := pairOf) (ds := KT.reverse.map (tri F)) (fun d hd => by
    obtain ⟨k, hk, rfl⟩ := List.mem_map.mp hd
    refine ⟨[some (.ptr n), some (frQ (F : Rat)), some (.ptr M1.length), p3, some (frQ (lay F k).1), some (.int (kyL k)), some (frQ (lay F k).2)], rfl, fun _ => rfl, fun _ => ⟨rfl, fun M => ?_⟩⟩
    have e : pairOf (tri F k) = .tup [frQ (lay F k).1, frQ (lay F k).2] := rfl
    rw [e]
    simp -implicitDefEqProofs only [sSeq_ap, sAsg_ap, sPar_ap, sRet_ap, sIf_ap, sExpr_ap, sNext_ap, bnd_ap, ret_ap, bindR_ok, thenR_ok, dVar_ap, varR_ok, seqR_nx, seqR_rt, asgR_ok, gNm_ap, gCn_ap, gcnR_ok, gNl_ap, gTp_fr, gTp_ap, gLs_ap, dCons_ap, dNil_ap, asB_ap, dOr_ap, dAnd_ap, dNot_ap, dAndV_ap, dOrV_ap, dNotV_ap, dIf_ap, oAdd_int, oSub_int, oLt_int, oLe_int, oGt_int, oGe_int, oNeg_int, oEq_int, oNe_int, oEq_fr, oNe_fr, oEq_bl, oNe_bl, oTup_ap, oLst_ap, oCall_ap, oAbs_ap, oMax_ap, oMin_ap, oToInt_b, oToInt_i, oLen_lst, oLen_scr, oLen_tup, oIx_lst, oIx_scr, oAdd_lst, oIx_tup, oIx_fr0, oIx_fr1, ixR_ok, oItL_ap, oItT_ap, sFor_ap, startD, List.map_cons, List.map_nil, List.length_cons, List.length_nil, List.replicate_succ, List.replicate_zero, List.cons_append, List.nil_append, List.append_nil, List.getElem?_cons_zero, List.getElem?_cons_succ, List.set_cons_zero, List.set_cons_succ, Nat.reduceAdd, Nat.reduceSub, Nat.sub_self, Nat.reduceLeDiff, List.all_cons, List.all_nil, np_fr, np_int, np_bl, np_tup, np_lst, np_str, np_non, Bool.and_self, Bool.and_true, if_true_, if_false_, zero_add', if_tt, if_ff, decide_true, decide_false, Nat.le_refl, oItS_lst, oItS_tup, oTupOf_lst, oTupOf_tup, oLstOf_lst, oLstOf_tup, oRv_lst, oRv_tup, oAdd_tup, dChain_ap, asTru_bl, asTru_tup, asTru_lst, oIsN_ap, oNotN_ap, asI_ap, oSl_tup, oSl_lst, oZip_tup, oZip_lst, oAddI_ap, oEqS_ap, oNeS_ap, oNe_nil]) (by rw [List.length_map]; simp [KT])
  have fm : ((KT.reverse.map (tri F)).filter fun _ => true).map pairOf = (KT.reverse.map (lay F)).map lyQ := by
    rw [List.filter_eq_self.mpr (fun _ _ => rfl), List.map_map, List.map_map]; rfl
  rw [fm] at lc
  have dc := bag_cut (M' := M2) t1.has (c := c + 1) (by
    obtain ⟨a, b, t, e, q⟩ := t1.has
    exact ⟨a, b, t, by rw [ot n (by omega), List.getElem?_append_left hn]; exact e, q⟩) (by rw [l2]; simp) (fun j hj a => by rw [ot j (by omega), List.getElem?_append_left hj])
  rw [l1] at dc
  refine ⟨F, M2.take M.length, runF_rt ?_ (by rw [l2, List.length_append, l1]; omega) rfl, F0, F1, t1.trans dc⟩
  rw [show startD ["bag", "full", "some", "k", "water", "share", "salt"] [D.ptr n] = [some (.ptr n), none, none, none, none, none, none] from rfl]
  unfold den__law_long_brine
  rw [seq_step (ρ1 := [some (.ptr n), some (frQ (F : Rat)), none, none, none, none, none]) (M1 := M1) (by simp -implicitDefEqProofs only [sSeq_ap, sAsg_ap, sPar_ap, sRet_ap, sIf_ap, sExpr_ap, sNext_ap, bnd_ap, ret_ap, bindR_ok, thenR_ok, dVar_ap, varR_ok, seqR_nx, seqR_rt, asgR_ok, gNm_ap, gCn_ap, gcnR_ok, gNl_ap, gTp_fr, gTp_ap, gLs_ap, dCons_ap, dNil_ap, asB_ap, dOr_ap, dAnd_ap, dNot_ap, dAndV_ap, dOrV_ap, dNotV_ap, dIf_ap, oAdd_int, oSub_int, oLt_int, oLe_int, oGt_int, oGe_int, oNeg_int, oEq_int, oNe_int, oEq_fr, oNe_fr, oEq_bl, oNe_bl, oTup_ap, oLst_ap, oCall_ap, oAbs_ap, oMax_ap, oMin_ap, oToInt_b, oToInt_i, oLen_lst, oLen_scr, oLen_tup, oIx_lst, oIx_scr, oAdd_lst, oIx_tup, oIx_fr0, oIx_fr1, ixR_ok, oItL_ap, oItT_ap, sFor_ap, startD, List.map_cons, List.map_nil, List.length_cons, List.length_nil, List.replicate_succ, List.replicate_zero, List.cons_append, List.nil_append, List.append_nil, List.getElem?_cons_zero, List.getElem?_cons_succ, List.set_cons_zero, List.set_cons_succ, Nat.reduceAdd, Nat.reduceSub, Nat.sub_self, Nat.reduceLeDiff, List.all_cons, List.all_nil, np_fr, np_int, np_bl, np_tup, np_lst, np_str, np_non, Bool.and_self, Bool.and_true, if_true_, if_false_, zero_add', if_tt, if_ff, decide_true, decide_false, Nat.le_refl, oItS_lst, oItS_tup, oTupOf_lst, oTupOf_tup, oLstOf_lst, oLstOf_tup, oRv_lst, oRv_tup, oAdd_tup, dChain_ap, asTru_bl, asTru_tup, asTru_lst, oIsN_ap, oNotN_ap, asI_ap, oSl_tup, oSl_lst, oZip_tup, oZip_lst, oAddI_ap, oEqS_ap, oNeS_ap, oNe_nil, e1, eF, fi])]
  rw [seq_step (ρ1 := [some (.ptr n), some (frQ (F : Rat)), some (.ptr M1.length), none, none, none, none]) (M1 := M1 ++ [some []]) (by simp -implicitDefEqProofs only [sSeq_ap, sAsg_ap, sPar_ap, sRet_ap, sIf_ap, sExpr_ap, sNext_ap, bnd_ap, ret_ap, bindR_ok, thenR_ok, dVar_ap, varR_ok, seqR_nx, seqR_rt, asgR_ok, gNm_ap, gCn_ap, gcnR_ok, gNl_ap, gTp_fr, gTp_ap, gLs_ap, dCons_ap, dNil_ap, asB_ap, dOr_ap, dAnd_ap, dNot_ap, dAndV_ap, dOrV_ap, dNotV_ap, dIf_ap, oAdd_int, oSub_int, oLt_int, oLe_int, oGt_int, oGe_int, oNeg_int, oEq_int, oNe_int, oEq_fr, oNe_fr, oEq_bl, oNe_bl, oTup_ap, oLst_ap, oCall_ap, oAbs_ap, oMax_ap, oMin_ap, oToInt_b, oToInt_i, oLen_lst, oLen_scr, oLen_tup, oIx_lst, oIx_scr, oAdd_lst, oIx_tup, oIx_fr0, oIx_fr1, ixR_ok, oItL_ap, oItT_ap, sFor_ap, startD, List.map_cons, List.map_nil, List.length_cons, List.length_nil, List.replicate_succ, List.replicate_zero, List.cons_append, List.nil_append, List.append_nil, List.getElem?_cons_zero, List.getElem?_cons_succ, List.set_cons_zero, List.set_cons_succ, Nat.reduceAdd, Nat.reduceSub, Nat.sub_self, Nat.reduceLeDiff, List.all_cons, List.all_nil, np_fr, np_int, np_bl, np_tup, np_lst, np_str, np_non, Bool.and_self, Bool.and_true, if_true_, if_false_, zero_add', if_tt, if_ff, decide_true, decide_false, Nat.le_refl, oItS_lst, oItS_tup, oTupOf_lst, oTupOf_tup, oLstOf_lst, oLstOf_tup, oRv_lst, oRv_tup, oAdd_tup, dChain_ap, asTru_bl, asTru_tup, asTru_lst, oIsN_ap, oNotN_ap, asI_ap, oSl_tup, oSl_lst, oZip_tup, oZip_lst, oAddI_ap, oEqS_ap, oNeS_ap, oNe_nil, n1])]
  rw [seq_step (ρ1 := [some (.ptr n), some (frQ (F : Rat)), some (.ptr M1.length), p3, p4, p5, p6]) (M1 := M2) (by
    generalize KS.map D.int = KD at *
    simp -implicitDefEqProofs only [sSeq_ap, sAsg_ap, sPar_ap, sRet_ap, sIf_ap, sExpr_ap, sNext_ap, bnd_ap, ret_ap, bindR_ok, thenR_ok, dVar_ap, varR_ok, seqR_nx, seqR_rt, asgR_ok, gNm_ap, gCn_ap, gcnR_ok, gNl_ap, gTp_fr, gTp_ap, gLs_ap, dCons_ap, dNil_ap, asB_ap, dOr_ap, dAnd_ap, dNot_ap, dAndV_ap, dOrV_ap, dNotV_ap, dIf_ap, oAdd_int, oSub_int, oLt_int, oLe_int, oGt_int, oGe_int, oNeg_int, oEq_int, oNe_int, oEq_fr, oNe_fr, oEq_bl, oNe_bl, oTup_ap, oLst_ap, oCall_ap, oAbs_ap, oMax_ap, oMin_ap, oToInt_b, oToInt_i, oLen_lst, oLen_scr, oLen_tup, oIx_lst, oIx_scr, oAdd_lst, oIx_tup, oIx_fr0, oIx_fr1, ixR_ok, oItL_ap, oItT_ap, sFor_ap, startD, List.map_cons, List.map_nil, List.length_cons, List.length_nil, List.replicate_succ, List.replicate_zero, List.cons_append, List.nil_append, List.append_nil, List.getElem?_cons_zero, List.getElem?_cons_succ, List.set_cons_zero, List.set_cons_succ, Nat.reduceAdd, Nat.reduceSub, Nat.sub_self, Nat.reduceLeDiff, List.all_cons, List.all_nil, np_fr, np_int, np_bl, np_tup, np_lst, np_str, np_non, Bool.and_self, Bool.and_true, if_true_, if_false_, zero_add', if_tt, if_ff, decide_true, decide_false, Nat.le_refl, oItS_lst, oItS_tup, oTupOf_lst, oTupOf_tup, oLstOf_lst, oLstOf_tup, oRv_lst, oRv_tup, oAdd_tup, dChain_ap, asTru_bl, asTru_tup, asTru_lst, oIsN_ap, oNotN_ap, asI_ap, oSl_tup, oSl_lst, oZip_tup, oZip_lst, oAddI_ap, oEqS_ap, oNeS_ap, oNe_nil, rg, e2])]
  generalize (KT.reverse.map (lay F)).map lyQ = LQ at *
  generalize hA : KT.map (tri F) = TA at *
  generalize KT.reverse.map (tri F) = TB at *
  simp -implicitDefEqProofs only [sSeq_ap, sAsg_ap, sPar_ap, sRet_ap, sIf_ap, sExpr_ap, sNext_ap, bnd_ap, ret_ap, bindR_ok, thenR_ok, dVar_ap, varR_ok, seqR_nx, seqR_rt, asgR_ok, gNm_ap, gCn_ap, gcnR_ok, gNl_ap, gTp_fr, gTp_ap, gLs_ap, dCons_ap, dNil_ap, asB_ap, dOr_ap, dAnd_ap, dNot_ap, dAndV_ap, dOrV_ap, dNotV_ap, dIf_ap, oAdd_int, oSub_int, oLt_int, oLe_int, oGt_int, oGe_int, oNeg_int, oEq_int, oNe_int, oEq_fr, oNe_fr, oEq_bl, oNe_bl, oTup_ap, oLst_ap, oCall_ap, oAbs_ap, oMax_ap, oMin_ap, oToInt_b, oToInt_i, oLen_lst, oLen_scr, oLen_tup, oIx_lst, oIx_scr, oAdd_lst, oIx_tup, oIx_fr0, oIx_fr1, ixR_ok, oItL_ap, oItT_ap, sFor_ap, startD, List.map_cons, List.map_nil, List.length_cons, List.length_nil, List.replicate_succ, List.replicate_zero, List.cons_append, List.nil_append, List.append_nil, List.getElem?_cons_zero, List.getElem?_cons_succ, List.set_cons_zero, List.set_cons_succ, Nat.reduceAdd, Nat.reduceSub, Nat.sub_self, Nat.reduceLeDiff, List.all_cons, List.all_nil, np_fr, np_int, np_bl, np_tup, np_lst, np_str, np_non, Bool.and_self, Bool.and_true, if_true_, if_false_, zero_add', if_tt, if_ff, decide_true, decide_false, Nat.le_refl, oItS_lst, oItS_tup, oTupOf_lst, oTupOf_tup, oLstOf_lst, oLstOf_tup, oRv_lst, oRv_tup, oAdd_tup, dChain_ap, asTru_bl, asTru_tup, asTru_lst, oIsN_ap, oNotN_ap, asI_ap, oSl_tup, oSl_lst, oZip_tup, oZip_lst, oAddI_ap, oEqS_ap, oNeS_ap, oNe_nil, so, rv, lc]
/-! the long text, the law -/
theorem ltx_turn {f s : Rat} {c n r m : Nat} {T : List (Rat × Rat)} {M : Mem} (f0 : 0 < f) (sf : SzN 3 f) (ss : SzN 2 s) (m0 : 0 < m) (m1 : m ≤ 380) (hr : HasBag c n M) (hc : c + 5 < 2 ^ 20) (hn : n ≠ r) (hM : M[r]? = some (some (T.map lyQ))) (hT : T.length ≤ 100) (o5 : Option D) :
    ∃ (w : Rat) (M' : Mem), den__law_long_text_L1 [some (.ptr n), some (frQ f), some (.int (m : Int)), some (.ptr r), some (frQ s), o5] M = some (.nx [some (.ptr n), some (frQ f), some (.int (m : Int)), some (.ptr r), some (frQ s), some (frQ w)], M') ∧ 0 < w ∧ SzN 380 w ∧ HasBag (c + 4) n M' ∧ M'.length = M.length ∧ (∀ j, j ≠ n → j ≠ r → M'[j]? = M[j]?) ∧ M'[r]? = some (some ((T ++ [(w, f * s * w)]).map lyQ)) := by
  obtain ⟨v, M1, e1, v0, v1, t1⟩ := figs_eq hr (by omega) m0 (by omega)
  obtain ⟨u, M2, e2, u0, u1, t2⟩ := figs_eq t1.has (by omega) m0 (by omega)
  have up : (10 : Nat) ^ m ≤ 10 ^ 380 := Nat.pow_le_pow_right (by decide) m1
  have u4 : u < 10 ^ 400 := Nat.lt_of_lt_of_le u1 (Nat.pow_le_pow_right (by decide) (by omega))
  have md := made_eq (a := (v : Int)) u0 u4 M2
  have sw : SzN 380 (Rat.divInt (v : Int) (u : Int)) := szn_div u0 (by rw [Int.natAbs_natCast]; exact Nat.lt_of_lt_of_le v1 up) (Nat.lt_of_lt_of_le u1 up)
  have w0 : 0 < Rat.divInt (v : Int) (u : Int) := divInt_pos (by omega) (by omega)
  generalize Rat.divInt (v : Int) (u : Int) = w at *
  have e3 := ltimes_eq sf ss (by decide) M2
  have e4 := ltimes_eq (sf.mul ss) sw (by decide) M2
  have h2 : M2[r]? = some (some (T.map lyQ)) := by rw [t2.oth r (Ne.symm hn), t1.oth r (Ne.symm hn)]; exact hM
  have ok := fun ρ => okPtr_ap ρ h2
  have ap := fun ρ => oApp_ap (d := lyQ (w, f * s * w)) ρ h2 rfl (by rw [List.length_map]; omega)
  have rl : r < M2.length := (List.getElem?_eq_some_iff.mp h2).1
  have fq : D.tup [frQ w, frQ (f * s * w)] = lyQ (w, f * s * w) := rfl
  refine ⟨w, M2.set r (some (T.map lyQ ++ [lyQ (w, f * s * w)])), ?_, w0, sw, t2.has.set hn, by rw [List.length_set, t2.len, t1.len], fun j a b => by rw [List.getElem?_set_ne (Ne.symm b), t2.oth j a, t1.oth j a], by rw [List.getElem?_set_self rl, List.map_append]; rfl⟩
  simp -implicitDefEqProofs only [den__law_long_text_L1, sSeq_ap, sAsg_ap, sPar_ap, sRet_ap, sIf_ap, sExpr_ap, sNext_ap, bnd_ap, ret_ap, bindR_ok, thenR_ok, dVar_ap, varR_ok, seqR_nx, seqR_rt, asgR_ok, gNm_ap, gCn_ap, gcnR_ok, gNl_ap, gTp_fr, gTp_ap, gLs_ap, dCons_ap, dNil_ap, asB_ap, dOr_ap, dAnd_ap, dNot_ap, dAndV_ap, dOrV_ap, dNotV_ap, dIf_ap, oAdd_int, oSub_int, oLt_int, oLe_int, oGt_int, oGe_int, oNeg_int, oEq_int, oNe_int, oEq_fr, oNe_fr, oEq_bl, oNe_bl, oTup_ap, oLst_ap, oCall_ap, oAbs_ap, oMax_ap, oMin_ap, oToInt_b, oToInt_i, oLen_lst, oLen_scr, oLen_tup, oIx_lst, oIx_scr, oAdd_lst, oIx_tup, oIx_fr0, oIx_fr1, ixR_ok, oItL_ap, oItT_ap, sFor_ap, startD, List.map_cons, List.map_nil, List.length_cons, List.length_nil, List.replicate_succ, List.replicate_zero, List.cons_append, List.nil_append, List.append_nil, List.getElem?_cons_zero, List.getElem?_cons_succ, List.set_cons_zero, List.set_cons_succ, Nat.reduceAdd, Nat.reduceSub, Nat.sub_self, Nat.reduceLeDiff, List.all_cons, List.all_nil, np_fr, np_int, np_bl, np_tup, np_lst, np_str, np_non, Bool.and_self, Bool.and_true, if_true_, if_false_, zero_add', if_tt, if_ff, decide_true, decide_false, Nat.le_refl, oItS_lst, oItS_tup, oTupOf_lst, oTupOf_tup, oLstOf_lst, oLstOf_tup, oRv_lst, oRv_tup, oAdd_tup, dChain_ap, asTru_bl, asTru_tup, asTru_lst, oIsN_ap, oNotN_ap, asI_ap, oSl_tup, oSl_lst, oZip_tup, oZip_lst, oAddI_ap, oEqS_ap, oNeS_ap, oNe_nil, e1, e2, md, e3, e4, fq, ok, ap]
theorem ltx_eq {c n : Nat} {M : Mem} {f : Rat} (f0 : 0 < f) (sf : SzN 3 f) (hr : HasBag c n M) (hc : c + 20 < 2 ^ 20) : ∃ (L : List (Rat × Rat)) (M' : Mem), F__law_long_text [.ptr n, frQ f] M = some (.ok (.str (bT L)), M') ∧ GdB f L ∧ Dbag (c + 10) n M M' := by
  obtain ⟨x, M1, e1, a0, a1, t1⟩ := bdraw_eq hr (by omega) (m := 30) (by decide) (by decide)
  obtain ⟨i, M2, e2, b0, b1, t2⟩ := bdraw_eq t1.has (by omega) (m := 2) (by decide) (by decide)
  obtain ⟨m, em, m0, m1⟩ := atI_lit (l := [.int (12 + x), .int 380]) (P := fun v => 0 < v ∧ v ≤ 380) b0 b1 (fun d hd => by
    simp -implicitDefEqProofs only [List.mem_cons, List.not_mem_nil, or_false] at hd
    rcases hd with h | h
    · exact ⟨_, h, by omega⟩
    · exact ⟨_, h, by omega⟩)
  obtain ⟨m, rfl⟩ : ∃ k : Nat, m = (k : Int) := ⟨m.toNat, by omega⟩
  have tt := t1.trans t2
  have hn := tt.has.lt
  have n1 : ∀ ρ, oNew [] ρ M2 = some (.ok (.ptr M2.length), M2 ++ [some []]) := fun _ => rfl
  have s1 := one_fr
  have s2 := low_of (a := 1) (b := 2) (by decide) (by decide)
  have z1 : SzN 2 (1 : Rat) := ⟨by decide, by decide⟩
  have z2 : SzN 2 (Rat.divInt 1 2) := ⟨by decide +kernel, by decide +kernel⟩
  obtain ⟨w1, M3, e3, p1, q1, h3, l3, ot3, g3⟩ := ltx_turn (T := []) (m := m) (M := M2 ++ [some []]) f0 sf z1 (by omega) (by omega) tt.has.app (by omega) (by omega : n ≠ M2.length) (last_cell M2 _) (by simp) none
  obtain ⟨w2, M4, e4, p2, q2, h4, l4, ot4, g4⟩ := ltx_turn (m := m) f0 sf z2 (by omega) (by omega) h3 (by omega) (by omega : n ≠ M2.length) g3 (by simp) (some (frQ w1))
  have b0' : Bru f 1 [] := ⟨fun p hp => absurd hp (by simp), fun p hp => absurd hp (by simp), fun p hp => absurd hp (by simp), List.Pairwise.nil⟩
  have k1 : SzP (w1, f * 1 * w1) := ⟨(q1.mono (by decide)).t, (((sf.mul z1).mul q1).mono (by decide)).t⟩
  have k2 : SzP (w2, f * Rat.divInt 1 2 * w2) := ⟨(q2.mono (by decide)).t, (((sf.mul z2).mul q2).mono (by decide)).t⟩
  have B1 := b0'.add f0 (c1 := Rat.divInt 1 2) (by decide +kernel) (by decide +kernel) Rat.le_refl p1 k1
  have B2 := B1.add f0 (c1 := 0) (by decide +kernel) Rat.le_refl (by decide +kernel) p2 k2
  have G := B2.good (by simp)
  rw [List.nil_append] at g4 G
  have dc := bag_cut (M' := M4) tt.has h4 (by rw [l4, l3]; simp) (fun j hj a => by rw [ot4 j a (by omega), ot3 j a (by omega), List.getElem?_append_left hj])
  rw [tt.len] at dc
  have tp := fun ρ => oTupOf_ptr (ρ := ρ) g4
  have at_ := atxt_eq G.sz G.ln M4
  refine ⟨[(w1, f * 1 * w1)] ++ [(w2, f * Rat.divInt 1 2 * w2)], M4.take M.length, runF_rt ?_ (by rw [l4, l3, List.length_append, tt.len]; omega) rfl, G, (tt.trans dc).mono (by omega)⟩
  rw [show startD ["bag", "full", "many", "some", "share", "water"] [D.ptr n, frQ f] = [some (.ptr n), some (frQ f), none, none, none, none] from rfl]
  generalize bT ([(w1, f * 1 * w1)] ++ [(w2, f * Rat.divInt 1 2 * w2)]) = BT at *
  generalize ([(w1, f * 1 * w1)] ++ [(w2, f * Rat.divInt 1 2 * w2)]).map lyQ = LQ at *
  unfold den__law_long_text
  rw [seq_step (ρ1 := [some (.ptr n), some (frQ f), some (.int (m : Int)), none, none, none]) (M1 := M2) (by simp -implicitDefEqProofs only [sSeq_ap, sAsg_ap, sPar_ap, sRet_ap, sIf_ap, sExpr_ap, sNext_ap, bnd_ap, ret_ap, bindR_ok, thenR_ok, dVar_ap, varR_ok, seqR_nx, seqR_rt, asgR_ok, gNm_ap, gCn_ap, gcnR_ok, gNl_ap, gTp_fr, gTp_ap, gLs_ap, dCons_ap, dNil_ap, asB_ap, dOr_ap, dAnd_ap, dNot_ap, dAndV_ap, dOrV_ap, dNotV_ap, dIf_ap, oAdd_int, oSub_int, oLt_int, oLe_int, oGt_int, oGe_int, oNeg_int, oEq_int, oNe_int, oEq_fr, oNe_fr, oEq_bl, oNe_bl, oTup_ap, oLst_ap, oCall_ap, oAbs_ap, oMax_ap, oMin_ap, oToInt_b, oToInt_i, oLen_lst, oLen_scr, oLen_tup, oIx_lst, oIx_scr, oAdd_lst, oIx_tup, oIx_fr0, oIx_fr1, ixR_ok, oItL_ap, oItT_ap, sFor_ap, startD, List.map_cons, List.map_nil, List.length_cons, List.length_nil, List.replicate_succ, List.replicate_zero, List.cons_append, List.nil_append, List.append_nil, List.getElem?_cons_zero, List.getElem?_cons_succ, List.set_cons_zero, List.set_cons_succ, Nat.reduceAdd, Nat.reduceSub, Nat.sub_self, Nat.reduceLeDiff, List.all_cons, List.all_nil, np_fr, np_int, np_bl, np_tup, np_lst, np_str, np_non, Bool.and_self, Bool.and_true, if_true_, if_false_, zero_add', if_tt, if_ff, decide_true, decide_false, Nat.le_refl, oItS_lst, oItS_tup, oTupOf_lst, oTupOf_tup, oLstOf_lst, oLstOf_tup, oRv_lst, oRv_tup, oAdd_tup, dChain_ap, asTru_bl, asTru_tup, asTru_lst, oIsN_ap, oNotN_ap, asI_ap, oSl_tup, oSl_lst, oZip_tup, oZip_lst, oAddI_ap, oEqS_ap, oNeS_ap, oNe_nil, e1, e2, em])]
  rw [seq_step (ρ1 := [some (.ptr n), some (frQ f), some (.int (m : Int)), some (.ptr M2.length), none, none]) (M1 := M2 ++ [some []]) (by simp -implicitDefEqProofs only [sSeq_ap, sAsg_ap, sPar_ap, sRet_ap, sIf_ap, sExpr_ap, sNext_ap, bnd_ap, ret_ap, bindR_ok, thenR_ok, dVar_ap, varR_ok, seqR_nx, seqR_rt, asgR_ok, gNm_ap, gCn_ap, gcnR_ok, gNl_ap, gTp_fr, gTp_ap, gLs_ap, dCons_ap, dNil_ap, asB_ap, dOr_ap, dAnd_ap, dNot_ap, dAndV_ap, dOrV_ap, dNotV_ap, dIf_ap, oAdd_int, oSub_int, oLt_int, oLe_int, oGt_int, oGe_int, oNeg_int, oEq_int, oNe_int, oEq_fr, oNe_fr, oEq_bl, oNe_bl, oTup_ap, oLst_ap, oCall_ap, oAbs_ap, oMax_ap, oMin_ap, oToInt_b, oToInt_i, oLen_lst, oLen_scr, oLen_tup, oIx_lst, oIx_scr, oAdd_lst, oIx_tup, oIx_fr0, oIx_fr1, ixR_ok, oItL_ap, oItT_ap, sFor_ap, startD, List.map_cons, List.map_nil, List.length_cons, List.length_nil, List.replicate_succ, List.replicate_zero, List.cons_append, List.nil_append, List.append_nil, List.getElem?_cons_zero, List.getElem?_cons_succ, List.set_cons_zero, List.set_cons_succ, Nat.reduceAdd, Nat.reduceSub, Nat.sub_self, Nat.reduceLeDiff, List.all_cons, List.all_nil, np_fr, np_int, np_bl, np_tup, np_lst, np_str, np_non, Bool.and_self, Bool.and_true, if_true_, if_false_, zero_add', if_tt, if_ff, decide_true, decide_false, Nat.le_refl, oItS_lst, oItS_tup, oTupOf_lst, oTupOf_tup, oLstOf_lst, oLstOf_tup, oRv_lst, oRv_tup, oAdd_tup, dChain_ap, asTru_bl, asTru_tup, asTru_lst, oIsN_ap, oNotN_ap, asI_ap, oSl_tup, oSl_lst, oZip_tup, oZip_lst, oAddI_ap, oEqS_ap, oNeS_ap, oNe_nil, n1])]
  rw [seq_step (ρ1 := [some (.ptr n), some (frQ f), some (.int (m : Int)), some (.ptr M2.length), some (frQ (Rat.divInt 1 2)), some (frQ w2)]) (M1 := M4) (by simp -implicitDefEqProofs only [sSeq_ap, sAsg_ap, sPar_ap, sRet_ap, sIf_ap, sExpr_ap, sNext_ap, bnd_ap, ret_ap, bindR_ok, thenR_ok, dVar_ap, varR_ok, seqR_nx, seqR_rt, asgR_ok, gNm_ap, gCn_ap, gcnR_ok, gNl_ap, gTp_fr, gTp_ap, gLs_ap, dCons_ap, dNil_ap, asB_ap, dOr_ap, dAnd_ap, dNot_ap, dAndV_ap, dOrV_ap, dNotV_ap, dIf_ap, oAdd_int, oSub_int, oLt_int, oLe_int, oGt_int, oGe_int, oNeg_int, oEq_int, oNe_int, oEq_fr, oNe_fr, oEq_bl, oNe_bl, oTup_ap, oLst_ap, oCall_ap, oAbs_ap, oMax_ap, oMin_ap, oToInt_b, oToInt_i, oLen_lst, oLen_scr, oLen_tup, oIx_lst, oIx_scr, oAdd_lst, oIx_tup, oIx_fr0, oIx_fr1, ixR_ok, oItL_ap, oItT_ap, sFor_ap, startD, List.map_cons, List.map_nil, List.length_cons, List.length_nil, List.replicate_succ, List.replicate_zero, List.cons_append, List.nil_append, List.append_nil, List.getElem?_cons_zero, List.getElem?_cons_succ, List.set_cons_zero, List.set_cons_succ, Nat.reduceAdd, Nat.reduceSub, Nat.sub_self, Nat.reduceLeDiff, List.all_cons, List.all_nil, np_fr, np_int, np_bl, np_tup, np_lst, np_str, np_non, Bool.and_self, Bool.and_true, if_true_, if_false_, zero_add', if_tt, if_ff, decide_true, decide_false, Nat.le_refl, oItS_lst, oItS_tup, oTupOf_lst, oTupOf_tup, oLstOf_lst, oLstOf_tup, oRv_lst, oRv_tup, oAdd_tup, dChain_ap, asTru_bl, asTru_tup, asTru_lst, oIsN_ap, oNotN_ap, asI_ap, oSl_tup, oSl_lst, oZip_tup, oZip_lst, oAddI_ap, oEqS_ap, oNeS_ap, oNe_nil, s1, s2, forF_cons, forF_nil, forB_ok, e3, e4, ofR_nx])]
  simp -implicitDefEqProofs only [sSeq_ap, sAsg_ap, sPar_ap, sRet_ap, sIf_ap, sExpr_ap, sNext_ap, bnd_ap, ret_ap, bindR_ok, thenR_ok, dVar_ap, varR_ok, seqR_nx, seqR_rt, asgR_ok, gNm_ap, gCn_ap, gcnR_ok, gNl_ap, gTp_fr, gTp_ap, gLs_ap, dCons_ap, dNil_ap, asB_ap, dOr_ap, dAnd_ap, dNot_ap, dAndV_ap, dOrV_ap, dNotV_ap, dIf_ap, oAdd_int, oSub_int, oLt_int, oLe_int, oGt_int, oGe_int, oNeg_int, oEq_int, oNe_int, oEq_fr, oNe_fr, oEq_bl, oNe_bl, oTup_ap, oLst_ap, oCall_ap, oAbs_ap, oMax_ap, oMin_ap, oToInt_b, oToInt_i, oLen_lst, oLen_scr, oLen_tup, oIx_lst, oIx_scr, oAdd_lst, oIx_tup, oIx_fr0, oIx_fr1, ixR_ok, oItL_ap, oItT_ap, sFor_ap, startD, List.map_cons, List.map_nil, List.length_cons, List.length_nil, List.replicate_succ, List.replicate_zero, List.cons_append, List.nil_append, List.append_nil, List.getElem?_cons_zero, List.getElem?_cons_succ, List.set_cons_zero, List.set_cons_succ, Nat.reduceAdd, Nat.reduceSub, Nat.sub_self, Nat.reduceLeDiff, List.all_cons, List.all_nil, np_fr, np_int, np_bl, np_tup, np_lst, np_str, np_non, Bool.and_self, Bool.and_true, if_true_, if_false_, zero_add', if_tt, if_ff, decide_true, decide_false, Nat.le_refl, oItS_lst, oItS_tup, oTupOf_lst, oTupOf_tup, oLstOf_lst, oLstOf_tup, oRv_lst, oRv_tup, oAdd_tup, dChain_ap, asTru_bl, asTru_tup, asTru_lst, oIsN_ap, oNotN_ap, asI_ap, oSl_tup, oSl_lst, oZip_tup, oZip_lst, oAddI_ap, oEqS_ap, oNeS_ap, oNe_nil, tp, at_]
section
variable {S A C : Option D} {n : Nat}
theorem ask83 {f : Rat} {L : List (Rat × Rat)} (bf : Bd 1400 f) (g : GdB f L) (o3 o7 : Option D) (M : Mem) : den_law_L1 [S, A, C, o3, some (frQ f), some (.tup (L.map lyQ)), some (.str (bT L)), o7] M = some (.nx [S, A, C, o3, some (frQ f), some (.tup (L.map lyQ)), some (.str (bT L)), o7], M) := by
  have e1 := btext_eq g.sz g.ln M
  have e2 := readb_eq bf g M
  have e3 := sameb_eq g.ln M
  have dq : decide (bT L = bT L) = true := decide_eq_true rfl
  generalize bT L = T at *
  generalize L.map lyQ = LQ at *
  simp -implicitDefEqProofs only [den_law_L1, sSeq_ap, sAsg_ap, sPar_ap, sRet_ap, sIf_ap, sExpr_ap, sNext_ap, bnd_ap, ret_ap, bindR_ok, thenR_ok, dVar_ap, varR_ok, seqR_nx, seqR_rt, asgR_ok, gNm_ap, gCn_ap, gcnR_ok, gNl_ap, gTp_fr, gTp_ap, gLs_ap, dCons_ap, dNil_ap, asB_ap, dOr_ap, dAnd_ap, dNot_ap, dAndV_ap, dOrV_ap, dNotV_ap, dIf_ap, oAdd_int, oSub_int, oLt_int, oLe_int, oGt_int, oGe_int, oNeg_int, oEq_int, oNe_int, oEq_fr, oNe_fr, oEq_bl, oNe_bl, oTup_ap, oLst_ap, oCall_ap, oAbs_ap, oMax_ap, oMin_ap, oToInt_b, oToInt_i, oLen_lst, oLen_scr, oLen_tup, oIx_lst, oIx_scr, oAdd_lst, oIx_tup, oIx_fr0, oIx_fr1, ixR_ok, oItL_ap, oItT_ap, sFor_ap, startD, List.map_cons, List.map_nil, List.length_cons, List.length_nil, List.replicate_succ, List.replicate_zero, List.cons_append, List.nil_append, List.append_nil, List.getElem?_cons_zero, List.getElem?_cons_succ, List.set_cons_zero, List.set_cons_succ, Nat.reduceAdd, Nat.reduceSub, Nat.sub_self, Nat.reduceLeDiff, List.all_cons, List.all_nil, np_fr, np_int, np_bl, np_tup, np_lst, np_str, np_non, Bool.and_self, Bool.and_true, if_true_, if_false_, zero_add', if_tt, if_ff, decide_true, decide_false, Nat.le_refl, oItS_lst, oItS_tup, oTupOf_lst, oTupOf_tup, oLstOf_lst, oLstOf_tup, oRv_lst, oRv_tup, oAdd_tup, dChain_ap, asTru_bl, asTru_tup, asTru_lst, oIsN_ap, oNotN_ap, asI_ap, oSl_tup, oSl_lst, oZip_tup, oZip_lst, oAddI_ap, oEqS_ap, oNeS_ap, oNe_nil, e1, e2, e3, dq, Bool.not_true, Bool.false_eq_true]
theorem SzN.b {q : Rat} (h : SzN 3 q) : Bd 1400 q := ((h.mono (by decide : 3 ≤ 400)).t).bd
theorem cell83 (x : Int) {k : Nat} (hk : k < 64) (M : Mem) (o3 o4 o5 o6 o7 : Option D) : ∃ (p3 p4 p5 p6 p7 : Option D) (M' : Mem), den_law_L2 [S, some (.int (k : Int)), some (.int x), o3, o4, o5, o6, o7] M = some (.nx [S, some (.int (k : Int)), some (.int x), p3, p4, p5, p6, p7], M') := by
  obtain ⟨M1, e1, l1, _, h1⟩ := bag_eq x hk M
  obtain ⟨f0, M2, e2, f00, sf0, t2⟩ := full_eq h1 (by decide)
  obtain ⟨L0, M3, e3, g0, t3⟩ := brine_eq f00 sf0 t2.has (by decide)
  obtain ⟨y, M4, e4, y0, y1, t4⟩ := bdraw_eq t3.has (by decide) (m := 12) (by decide) (by decide)
  obtain ⟨f, L, M5, st5, f0', sf, g, h5⟩ : ∃ (f : Rat) (L : List (Rat × Rat)) (M5 : Mem), (sIf (bnd (bnd (bnd (dCons (dVar 3) (dCons (ret (.int 12)) dNil)) (oCall 2 F__law_draw)) fun d => bnd (ret (.int 0)) fun e => oEq d e) asB) (sAsg (bnd (dCons (dVar 3) dNil) (oCall 1 F__law_long_brine)) (gTp 2 (gCn (gNm 4) (gCn (gNm 5) gNl)))) sNext) [S, some (.int (k : Int)), some (.int x), some (.ptr M.length), some (frQ f0), some (.tup (L0.map lyQ)), o6, o7] M3 = some (.nx [S, some (.int (k : Int)), some (.int x), some (.ptr M.length), some (frQ f), some (.tup (L.map lyQ)), o6, o7], M5) ∧ 0 < f ∧ SzN 3 f ∧ GdB f L ∧ HasBag 60 M.length M5 := by
    by_cases z : y = 0
    · have k0 : decide (y = 0) = true := decide_eq_true z
      obtain ⟨F, M5, e5, F0, F1, t5⟩ := longb_eq t4.has (by decide)
      have tp : ∀ (a b : D) c ρ, gTp 2 c (.tup [a, b]) ρ = c [a, b] ρ := fun _ _ _ _ => rfl
      refine ⟨(F : Rat), KT.reverse.map (lay F), M5, ?_, Rat.intCast_pos.mpr (by omega), szn_int (by omega) (by decide), long_good F0 F1, t5.has.mono (by decide)⟩
      generalize (KT.reverse.map (lay F)).map lyQ = LQ at *
      generalize L0.map lyQ = LZ at *
      simp -implicitDefEqProofs only [sSeq_ap, sAsg_ap, sPar_ap, sRet_ap, sIf_ap, sExpr_ap, sNext_ap, bnd_ap, ret_ap, bindR_ok, thenR_ok, dVar_ap, varR_ok, seqR_nx, seqR_rt, asgR_ok, gNm_ap, gCn_ap, gcnR_ok, gNl_ap, gTp_fr, gTp_ap, gLs_ap, dCons_ap, dNil_ap, asB_ap, dOr_ap, dAnd_ap, dNot_ap, dAndV_ap, dOrV_ap, dNotV_ap, dIf_ap, oAdd_int, oSub_int, oLt_int, oLe_int, oGt_int, oGe_int, oNeg_int, oEq_int, oNe_int, oEq_fr, oNe_fr, oEq_bl, oNe_bl, oTup_ap, oLst_ap, oCall_ap, oAbs_ap, oMax_ap, oMin_ap, oToInt_b, oToInt_i, oLen_lst, oLen_scr, oLen_tup, oIx_lst, oIx_scr, oAdd_lst, oIx_tup, oIx_fr0, oIx_fr1, ixR_ok, oItL_ap, oItT_ap, sFor_ap, startD, List.map_cons, List.map_nil, List.length_cons, List.length_nil, List.replicate_succ, List.replicate_zero, List.cons_append, List.nil_append, List.append_nil, List.getElem?_cons_zero, List.getElem?_cons_succ, List.set_cons_zero, List.set_cons_succ, Nat.reduceAdd, Nat.reduceSub, Nat.sub_self, Nat.reduceLeDiff, List.all_cons, List.all_nil, np_fr, np_int, np_bl, np_tup, np_lst, np_str, np_non, Bool.and_self, Bool.and_true, if_true_, if_false_, zero_add', if_tt, if_ff, decide_true, decide_false, Nat.le_refl, oItS_lst, oItS_tup, oTupOf_lst, oTupOf_tup, oLstOf_lst, oLstOf_tup, oRv_lst, oRv_tup, oAdd_tup, dChain_ap, asTru_bl, asTru_tup, asTru_lst, oIsN_ap, oNotN_ap, asI_ap, oSl_tup, oSl_lst, oZip_tup, oZip_lst, oAddI_ap, oEqS_ap, oNeS_ap, oNe_nil, e4, k0, e5, tp]
    · have k0 : decide (y = 0) = false := decide_eq_false z
      refine ⟨f0, L0, M4, ?_, f00, sf0, g0, t4.has.mono (by decide)⟩
      generalize L0.map lyQ = LZ at *
      simp -implicitDefEqProofs only [sSeq_ap, sAsg_ap, sPar_ap, sRet_ap, sIf_ap, sExpr_ap, sNext_ap, bnd_ap, ret_ap, bindR_ok, thenR_ok, dVar_ap, varR_ok, seqR_nx, seqR_rt, asgR_ok, gNm_ap, gCn_ap, gcnR_ok, gNl_ap, gTp_fr, gTp_ap, gLs_ap, dCons_ap, dNil_ap, asB_ap, dOr_ap, dAnd_ap, dNot_ap, dAndV_ap, dOrV_ap, dNotV_ap, dIf_ap, oAdd_int, oSub_int, oLt_int, oLe_int, oGt_int, oGe_int, oNeg_int, oEq_int, oNe_int, oEq_fr, oNe_fr, oEq_bl, oNe_bl, oTup_ap, oLst_ap, oCall_ap, oAbs_ap, oMax_ap, oMin_ap, oToInt_b, oToInt_i, oLen_lst, oLen_scr, oLen_tup, oIx_lst, oIx_scr, oAdd_lst, oIx_tup, oIx_fr0, oIx_fr1, ixR_ok, oItL_ap, oItT_ap, sFor_ap, startD, List.map_cons, List.map_nil, List.length_cons, List.length_nil, List.replicate_succ, List.replicate_zero, List.cons_append, List.nil_append, List.append_nil, List.getElem?_cons_zero, List.getElem?_cons_succ, List.set_cons_zero, List.set_cons_succ, Nat.reduceAdd, Nat.reduceSub, Nat.sub_self, Nat.reduceLeDiff, List.all_cons, List.all_nil, np_fr, np_int, np_bl, np_tup, np_lst, np_str, np_non, Bool.and_self, Bool.and_true, if_true_, if_false_, zero_add', if_tt, if_ff, decide_true, decide_false, Nat.le_refl, oItS_lst, oItS_tup, oTupOf_lst, oTupOf_tup, oLstOf_lst, oLstOf_tup, oRv_lst, oRv_tup, oAdd_tup, dChain_ap, asTru_bl, asTru_tup, asTru_lst, oIsN_ap, oNotN_ap, asI_ap, oSl_tup, oSl_lst, oZip_tup, oZip_lst, oAddI_ap, oEqS_ap, oNeS_ap, oNe_nil, e4, k0, Bool.false_eq_true]
  have e6 := atxt_eq g.sz g.ln M5
  have rg : ∀ ρ M, oRng1 [.int 2] ρ M = some (.ok [.int 0, .int 1], M) := fun _ _ => rfl
  have as := fun (o7 : Option D) => ask83 (S := S) (A := some (.int (k : Int))) (C := some (.int x)) sf.b g (some (.ptr M.length)) o7 M5
  unfold den_law_L2
  by_cases z : (k : Int) < 6
  · have kz : decide ((k : Int) < 6) = true := decide_eq_true z
    obtain ⟨L2, M6, e7, g2, t7⟩ := ltx_eq f0' sf h5 (by decide)
    have e8 := readb_eq sf.b g2 M6
    have e9 := btext_eq g2.sz g2.ln M6
    have dq : decide (bT L2 = bT L2) = true := decide_eq_true rfl
    refine ⟨some (.ptr M.length), some (frQ f), some (.tup (L.map lyQ)), some (.str (bT L2)), some (.int 1), M6, ?_⟩
    generalize bT L2 = T2 at *
    generalize L2.map lyQ = LQ2 at *
    generalize bT L = T1 at *
    generalize L.map lyQ = LQ at *
    generalize L0.map lyQ = LZ at *
    rw [seq_step (ρ1 := [S, some (.int (k : Int)), some (.int x), some (.ptr M.length), o4, o5, o6, o7]) (M1 := M1) (by simp -implicitDefEqProofs only [sSeq_ap, sAsg_ap, sPar_ap, sRet_ap, sIf_ap, sExpr_ap, sNext_ap, bnd_ap, ret_ap, bindR_ok, thenR_ok, dVar_ap, varR_ok, seqR_nx, seqR_rt, asgR_ok, gNm_ap, gCn_ap, gcnR_ok, gNl_ap, gTp_fr, gTp_ap, gLs_ap, dCons_ap, dNil_ap, asB_ap, dOr_ap, dAnd_ap, dNot_ap, dAndV_ap, dOrV_ap, dNotV_ap, dIf_ap, oAdd_int, oSub_int, oLt_int, oLe_int, oGt_int, oGe_int, oNeg_int, oEq_int, oNe_int, oEq_fr, oNe_fr, oEq_bl, oNe_bl, oTup_ap, oLst_ap, oCall_ap, oAbs_ap, oMax_ap, oMin_ap, oToInt_b, oToInt_i, oLen_lst, oLen_scr, oLen_tup, oIx_lst, oIx_scr, oAdd_lst, oIx_tup, oIx_fr0, oIx_fr1, ixR_ok, oItL_ap, oItT_ap, sFor_ap, startD, List.map_cons, List.map_nil, List.length_cons, List.length_nil, List.replicate_succ, List.replicate_zero, List.cons_append, List.nil_append, List.append_nil, List.getElem?_cons_zero, List.getElem?_cons_succ, List.set_cons_zero, List.set_cons_succ, Nat.reduceAdd, Nat.reduceSub, Nat.sub_self, Nat.reduceLeDiff, List.all_cons, List.all_nil, np_fr, np_int, np_bl, np_tup, np_lst, np_str, np_non, Bool.and_self, Bool.and_true, if_true_, if_false_, zero_add', if_tt, if_ff, decide_true, decide_false, Nat.le_refl, oItS_lst, oItS_tup, oTupOf_lst, oTupOf_tup, oLstOf_lst, oLstOf_tup, oRv_lst, oRv_tup, oAdd_tup, dChain_ap, asTru_bl, asTru_tup, asTru_lst, oIsN_ap, oNotN_ap, asI_ap, oSl_tup, oSl_lst, oZip_tup, oZip_lst, oAddI_ap, oEqS_ap, oNeS_ap, oNe_nil, e1])]
    rw [seq_step (ρ1 := [S, some (.int (k : Int)), some (.int x), some (.ptr M.length), some (frQ f0), o5, o6, o7]) (M1 := M2) (by simp -implicitDefEqProofs only [sSeq_ap, sAsg_ap, sPar_ap, sRet_ap, sIf_ap, sExpr_ap, sNext_ap, bnd_ap, ret_ap, bindR_ok, thenR_ok, dVar_ap, varR_ok, seqR_nx, seqR_rt, asgR_ok, gNm_ap, gCn_ap, gcnR_ok, gNl_ap, gTp_fr, gTp_ap, gLs_ap, dCons_ap, dNil_ap, asB_ap, dOr_ap, dAnd_ap, dNot_ap, dAndV_ap, dOrV_ap, dNotV_ap, dIf_ap, oAdd_int, oSub_int, oLt_int, oLe_int, oGt_int, oGe_int, oNeg_int, oEq_int, oNe_int, oEq_fr, oNe_fr, oEq_bl, oNe_bl, oTup_ap, oLst_ap, oCall_ap, oAbs_ap, oMax_ap, oMin_ap, oToInt_b, oToInt_i, oLen_lst, oLen_scr, oLen_tup, oIx_lst, oIx_scr, oAdd_lst, oIx_tup, oIx_fr0, oIx_fr1, ixR_ok, oItL_ap, oItT_ap, sFor_ap, startD, List.map_cons, List.map_nil, List.length_cons, List.length_nil, List.replicate_succ, List.replicate_zero, List.cons_append, List.nil_append, List.append_nil, List.getElem?_cons_zero, List.getElem?_cons_succ, List.set_cons_zero, List.set_cons_succ, Nat.reduceAdd, Nat.reduceSub, Nat.sub_self, Nat.reduceLeDiff, List.all_cons, List.all_nil, np_fr, np_int, np_bl, np_tup, np_lst, np_str, np_non, Bool.and_self, Bool.and_true, if_true_, if_false_, zero_add', if_tt, if_ff, decide_true, decide_false, Nat.le_refl, oItS_lst, oItS_tup, oTupOf_lst, oTupOf_tup, oLstOf_lst, oLstOf_tup, oRv_lst, oRv_tup, oAdd_tup, dChain_ap, asTru_bl, asTru_tup, asTru_lst, oIsN_ap, oNotN_ap, asI_ap, oSl_tup, oSl_lst, oZip_tup, oZip_lst, oAddI_ap, oEqS_ap, oNeS_ap, oNe_nil, e2])]
    rw [seq_step (ρ1 := [S, some (.int (k : Int)), some (.int x), some (.ptr M.length), some (frQ f0), some (.tup LZ), o6, o7]) (M1 := M3) (by simp -implicitDefEqProofs only [sSeq_ap, sAsg_ap, sPar_ap, sRet_ap, sIf_ap, sExpr_ap, sNext_ap, bnd_ap, ret_ap, bindR_ok, thenR_ok, dVar_ap, varR_ok, seqR_nx, seqR_rt, asgR_ok, gNm_ap, gCn_ap, gcnR_ok, gNl_ap, gTp_fr, gTp_ap, gLs_ap, dCons_ap, dNil_ap, asB_ap, dOr_ap, dAnd_ap, dNot_ap, dAndV_ap, dOrV_ap, dNotV_ap, dIf_ap, oAdd_int, oSub_int, oLt_int, oLe_int, oGt_int, oGe_int, oNeg_int, oEq_int, oNe_int, oEq_fr, oNe_fr, oEq_bl, oNe_bl, oTup_ap, oLst_ap, oCall_ap, oAbs_ap, oMax_ap, oMin_ap, oToInt_b, oToInt_i, oLen_lst, oLen_scr, oLen_tup, oIx_lst, oIx_scr, oAdd_lst, oIx_tup, oIx_fr0, oIx_fr1, ixR_ok, oItL_ap, oItT_ap, sFor_ap, startD, List.map_cons, List.map_nil, List.length_cons, List.length_nil, List.replicate_succ, List.replicate_zero, List.cons_append, List.nil_append, List.append_nil, List.getElem?_cons_zero, List.getElem?_cons_succ, List.set_cons_zero, List.set_cons_succ, Nat.reduceAdd, Nat.reduceSub, Nat.sub_self, Nat.reduceLeDiff, List.all_cons, List.all_nil, np_fr, np_int, np_bl, np_tup, np_lst, np_str, np_non, Bool.and_self, Bool.and_true, if_true_, if_false_, zero_add', if_tt, if_ff, decide_true, decide_false, Nat.le_refl, oItS_lst, oItS_tup, oTupOf_lst, oTupOf_tup, oLstOf_lst, oLstOf_tup, oRv_lst, oRv_tup, oAdd_tup, dChain_ap, asTru_bl, asTru_tup, asTru_lst, oIsN_ap, oNotN_ap, asI_ap, oSl_tup, oSl_lst, oZip_tup, oZip_lst, oAddI_ap, oEqS_ap, oNeS_ap, oNe_nil, e3])]
    rw [seq_step st5]
    rw [seq_step (ρ1 := [S, some (.int (k : Int)), some (.int x), some (.ptr M.length), some (frQ f), some (.tup LQ), some (.str T1), o7]) (M1 := M5) (by simp -implicitDefEqProofs only [sSeq_ap, sAsg_ap, sPar_ap, sRet_ap, sIf_ap, sExpr_ap, sNext_ap, bnd_ap, ret_ap, bindR_ok, thenR_ok, dVar_ap, varR_ok, seqR_nx, seqR_rt, asgR_ok, gNm_ap, gCn_ap, gcnR_ok, gNl_ap, gTp_fr, gTp_ap, gLs_ap, dCons_ap, dNil_ap, asB_ap, dOr_ap, dAnd_ap, dNot_ap, dAndV_ap, dOrV_ap, dNotV_ap, dIf_ap, oAdd_int, oSub_int, oLt_int, oLe_int, oGt_int, oGe_int, oNeg_int, oEq_int, oNe_int, oEq_fr, oNe_fr, oEq_bl, oNe_bl, oTup_ap, oLst_ap, oCall_ap, oAbs_ap, oMax_ap, oMin_ap, oToInt_b, oToInt_i, oLen_lst, oLen_scr, oLen_tup, oIx_lst, oIx_scr, oAdd_lst, oIx_tup, oIx_fr0, oIx_fr1, ixR_ok, oItL_ap, oItT_ap, sFor_ap, startD, List.map_cons, List.map_nil, List.length_cons, List.length_nil, List.replicate_succ, List.replicate_zero, List.cons_append, List.nil_append, List.append_nil, List.getElem?_cons_zero, List.getElem?_cons_succ, List.set_cons_zero, List.set_cons_succ, Nat.reduceAdd, Nat.reduceSub, Nat.sub_self, Nat.reduceLeDiff, List.all_cons, List.all_nil, np_fr, np_int, np_bl, np_tup, np_lst, np_str, np_non, Bool.and_self, Bool.and_true, if_true_, if_false_, zero_add', if_tt, if_ff, decide_true, decide_false, Nat.le_refl, oItS_lst, oItS_tup, oTupOf_lst, oTupOf_tup, oLstOf_lst, oLstOf_tup, oRv_lst, oRv_tup, oAdd_tup, dChain_ap, asTru_bl, asTru_tup, asTru_lst, oIsN_ap, oNotN_ap, asI_ap, oSl_tup, oSl_lst, oZip_tup, oZip_lst, oAddI_ap, oEqS_ap, oNeS_ap, oNe_nil, e6])]
    rw [seq_step (ρ1 := [S, some (.int (k : Int)), some (.int x), some (.ptr M.length), some (frQ f), some (.tup LQ), some (.str T1), some (.int 1)]) (M1 := M5) (by simp -implicitDefEqProofs only [sSeq_ap, sAsg_ap, sPar_ap, sRet_ap, sIf_ap, sExpr_ap, sNext_ap, bnd_ap, ret_ap, bindR_ok, thenR_ok, dVar_ap, varR_ok, seqR_nx, seqR_rt, asgR_ok, gNm_ap, gCn_ap, gcnR_ok, gNl_ap, gTp_fr, gTp_ap, gLs_ap, dCons_ap, dNil_ap, asB_ap, dOr_ap, dAnd_ap, dNot_ap, dAndV_ap, dOrV_ap, dNotV_ap, dIf_ap, oAdd_int, oSub_int, oLt_int, oLe_int, oGt_int, oGe_int, oNeg_int, oEq_int, oNe_int, oEq_fr, oNe_fr, oEq_bl, oNe_bl, oTup_ap, oLst_ap, oCall_ap, oAbs_ap, oMax_ap, oMin_ap, oToInt_b, oToInt_i, oLen_lst, oLen_scr, oLen_tup, oIx_lst, oIx_scr, oAdd_lst, oIx_tup, oIx_fr0, oIx_fr1, ixR_ok, oItL_ap, oItT_ap, sFor_ap, startD, List.map_cons, List.map_nil, List.length_cons, List.length_nil, List.replicate_succ, List.replicate_zero, List.cons_append, List.nil_append, List.append_nil, List.getElem?_cons_zero, List.getElem?_cons_succ, List.set_cons_zero, List.set_cons_succ, Nat.reduceAdd, Nat.reduceSub, Nat.sub_self, Nat.reduceLeDiff, List.all_cons, List.all_nil, np_fr, np_int, np_bl, np_tup, np_lst, np_str, np_non, Bool.and_self, Bool.and_true, if_true_, if_false_, zero_add', if_tt, if_ff, decide_true, decide_false, Nat.le_refl, oItS_lst, oItS_tup, oTupOf_lst, oTupOf_tup, oLstOf_lst, oLstOf_tup, oRv_lst, oRv_tup, oAdd_tup, dChain_ap, asTru_bl, asTru_tup, asTru_lst, oIsN_ap, oNotN_ap, asI_ap, oSl_tup, oSl_lst, oZip_tup, oZip_lst, oAddI_ap, oEqS_ap, oNeS_ap, oNe_nil, rg, forF_cons, forF_nil, forB_ok, as, ofR_nx])]
    simp -implicitDefEqProofs only [sSeq_ap, sAsg_ap, sPar_ap, sRet_ap, sIf_ap, sExpr_ap, sNext_ap, bnd_ap, ret_ap, bindR_ok, thenR_ok, dVar_ap, varR_ok, seqR_nx, seqR_rt, asgR_ok, gNm_ap, gCn_ap, gcnR_ok, gNl_ap, gTp_fr, gTp_ap, gLs_ap, dCons_ap, dNil_ap, asB_ap, dOr_ap, dAnd_ap, dNot_ap, dAndV_ap, dOrV_ap, dNotV_ap, dIf_ap, oAdd_int, oSub_int, oLt_int, oLe_int, oGt_int, oGe_int, oNeg_int, oEq_int, oNe_int, oEq_fr, oNe_fr, oEq_bl, oNe_bl, oTup_ap, oLst_ap, oCall_ap, oAbs_ap, oMax_ap, oMin_ap, oToInt_b, oToInt_i, oLen_lst, oLen_scr, oLen_tup, oIx_lst, oIx_scr, oAdd_lst, oIx_tup, oIx_fr0, oIx_fr1, ixR_ok, oItL_ap, oItT_ap, sFor_ap, startD, List.map_cons, List.map_nil, List.length_cons, List.length_nil, List.replicate_succ, List.replicate_zero, List.cons_append, List.nil_append, List.append_nil, List.getElem?_cons_zero, List.getElem?_cons_succ, List.set_cons_zero, List.set_cons_succ, Nat.reduceAdd, Nat.reduceSub, Nat.sub_self, Nat.reduceLeDiff, List.all_cons, List.all_nil, np_fr, np_int, np_bl, np_tup, np_lst, np_str, np_non, Bool.and_self, Bool.and_true, if_true_, if_false_, zero_add', if_tt, if_ff, decide_true, decide_false, Nat.le_refl, oItS_lst, oItS_tup, oTupOf_lst, oTupOf_tup, oLstOf_lst, oLstOf_tup, oRv_lst, oRv_tup, oAdd_tup, dChain_ap, asTru_bl, asTru_tup, asTru_lst, oIsN_ap, oNotN_ap, asI_ap, oSl_tup, oSl_lst, oZip_tup, oZip_lst, oAddI_ap, oEqS_ap, oNeS_ap, oNe_nil, kz, e7, e8, e9, dq, Bool.not_true, Bool.false_eq_true]
  · have kz : decide ((k : Int) < 6) = false := decide_eq_false z
    refine ⟨some (.ptr M.length), some (frQ f), some (.tup (L.map lyQ)), some (.str (bT L)), some (.int 1), M5, ?_⟩
    generalize bT L = T1 at *
    generalize L.map lyQ = LQ at *
    generalize L0.map lyQ = LZ at *
    rw [seq_step (ρ1 := [S, some (.int (k : Int)), some (.int x), some (.ptr M.length), o4, o5, o6, o7]) (M1 := M1) (by simp -implicitDefEqProofs only [sSeq_ap, sAsg_ap, sPar_ap, sRet_ap, sIf_ap, sExpr_ap, sNext_ap, bnd_ap, ret_ap, bindR_ok, thenR_ok, dVar_ap, varR_ok, seqR_nx, seqR_rt, asgR_ok, gNm_ap, gCn_ap, gcnR_ok, gNl_ap, gTp_fr, gTp_ap, gLs_ap, dCons_ap, dNil_ap, asB_ap, dOr_ap, dAnd_ap, dNot_ap, dAndV_ap, dOrV_ap, dNotV_ap, dIf_ap, oAdd_int, oSub_int, oLt_int, oLe_int, oGt_int, oGe_int, oNeg_int, oEq_int, oNe_int, oEq_fr, oNe_fr, oEq_bl, oNe_bl, oTup_ap, oLst_ap, oCall_ap, oAbs_ap, oMax_ap, oMin_ap, oToInt_b, oToInt_i, oLen_lst, oLen_scr, oLen_tup, oIx_lst, oIx_scr, oAdd_lst, oIx_tup, oIx_fr0, oIx_fr1, ixR_ok, oItL_ap, oItT_ap, sFor_ap, startD, List.map_cons, List.map_nil, List.length_cons, List.length_nil, List.replicate_succ, List.replicate_zero, List.cons_append, List.nil_append, List.append_nil, List.getElem?_cons_zero, List.getElem?_cons_succ, List.set_cons_zero, List.set_cons_succ, Nat.reduceAdd, Nat.reduceSub, Nat.sub_self, Nat.reduceLeDiff, List.all_cons, List.all_nil, np_fr, np_int, np_bl, np_tup, np_lst, np_str, np_non, Bool.and_self, Bool.and_true, if_true_, if_false_, zero_add', if_tt, if_ff, decide_true, decide_false, Nat.le_refl, oItS_lst, oItS_tup, oTupOf_lst, oTupOf_tup, oLstOf_lst, oLstOf_tup, oRv_lst, oRv_tup, oAdd_tup, dChain_ap, asTru_bl, asTru_tup, asTru_lst, oIsN_ap, oNotN_ap, asI_ap, oSl_tup, oSl_lst, oZip_tup, oZip_lst, oAddI_ap, oEqS_ap, oNeS_ap, oNe_nil, e1])]
    rw [seq_step (ρ1 := [S, some (.int (k : Int)), some (.int x), some (.ptr M.length), some (frQ f0), o5, o6, o7]) (M1 := M2) (by simp -implicitDefEqProofs only [sSeq_ap, sAsg_ap, sPar_ap, sRet_ap, sIf_ap, sExpr_ap, sNext_ap, bnd_ap, ret_ap, bindR_ok, thenR_ok, dVar_ap, varR_ok, seqR_nx, seqR_rt, asgR_ok, gNm_ap, gCn_ap, gcnR_ok, gNl_ap, gTp_fr, gTp_ap, gLs_ap, dCons_ap, dNil_ap, asB_ap, dOr_ap, dAnd_ap, dNot_ap, dAndV_ap, dOrV_ap, dNotV_ap, dIf_ap, oAdd_int, oSub_int, oLt_int, oLe_int, oGt_int, oGe_int, oNeg_int, oEq_int, oNe_int, oEq_fr, oNe_fr, oEq_bl, oNe_bl, oTup_ap, oLst_ap, oCall_ap, oAbs_ap, oMax_ap, oMin_ap, oToInt_b, oToInt_i, oLen_lst, oLen_scr, oLen_tup, oIx_lst, oIx_scr, oAdd_lst, oIx_tup, oIx_fr0, oIx_fr1, ixR_ok, oItL_ap, oItT_ap, sFor_ap, startD, List.map_cons, List.map_nil, List.length_cons, List.length_nil, List.replicate_succ, List.replicate_zero, List.cons_append, List.nil_append, List.append_nil, List.getElem?_cons_zero, List.getElem?_cons_succ, List.set_cons_zero, List.set_cons_succ, Nat.reduceAdd, Nat.reduceSub, Nat.sub_self, Nat.reduceLeDiff, List.all_cons, List.all_nil, np_fr, np_int, np_bl, np_tup, np_lst, np_str, np_non, Bool.and_self, Bool.and_true, if_true_, if_false_, zero_add', if_tt, if_ff, decide_true, decide_false, Nat.le_refl, oItS_lst, oItS_tup, oTupOf_lst, oTupOf_tup, oLstOf_lst, oLstOf_tup, oRv_lst, oRv_tup, oAdd_tup, dChain_ap, asTru_bl, asTru_tup, asTru_lst, oIsN_ap, oNotN_ap, asI_ap, oSl_tup, oSl_lst, oZip_tup, oZip_lst, oAddI_ap, oEqS_ap, oNeS_ap, oNe_nil, e2])]
    rw [seq_step (ρ1 := [S, some (.int (k : Int)), some (.int x), some (.ptr M.length), some (frQ f0), some (.tup LZ), o6, o7]) (M1 := M3) (by simp -implicitDefEqProofs only [sSeq_ap, sAsg_ap, sPar_ap, sRet_ap, sIf_ap, sExpr_ap, sNext_ap, bnd_ap, ret_ap, bindR_ok, thenR_ok, dVar_ap, varR_ok, seqR_nx, seqR_rt, asgR_ok, gNm_ap, gCn_ap, gcnR_ok, gNl_ap, gTp_fr, gTp_ap, gLs_ap, dCons_ap, dNil_ap, asB_ap, dOr_ap, dAnd_ap, dNot_ap, dAndV_ap, dOrV_ap, dNotV_ap, dIf_ap, oAdd_int, oSub_int, oLt_int, oLe_int, oGt_int, oGe_int, oNeg_int, oEq_int, oNe_int, oEq_fr, oNe_fr, oEq_bl, oNe_bl, oTup_ap, oLst_ap, oCall_ap, oAbs_ap, oMax_ap, oMin_ap, oToInt_b, oToInt_i, oLen_lst, oLen_scr, oLen_tup, oIx_lst, oIx_scr, oAdd_lst, oIx_tup, oIx_fr0, oIx_fr1, ixR_ok, oItL_ap, oItT_ap, sFor_ap, startD, List.map_cons, List.map_nil, List.length_cons, List.length_nil, List.replicate_succ, List.replicate_zero, List.cons_append, List.nil_append, List.append_nil, List.getElem?_cons_zero, List.getElem?_cons_succ, List.set_cons_zero, List.set_cons_succ, Nat.reduceAdd, Nat.reduceSub, Nat.sub_self, Nat.reduceLeDiff, List.all_cons, List.all_nil, np_fr, np_int, np_bl, np_tup, np_lst, np_str, np_non, Bool.and_self, Bool.and_true, if_true_, if_false_, zero_add', if_tt, if_ff, decide_true, decide_false, Nat.le_refl, oItS_lst, oItS_tup, oTupOf_lst, oTupOf_tup, oLstOf_lst, oLstOf_tup, oRv_lst, oRv_tup, oAdd_tup, dChain_ap, asTru_bl, asTru_tup, asTru_lst, oIsN_ap, oNotN_ap, asI_ap, oSl_tup, oSl_lst, oZip_tup, oZip_lst, oAddI_ap, oEqS_ap, oNeS_ap, oNe_nil, e3])]
    rw [seq_step st5]
    rw [seq_step (ρ1 := [S, some (.int (k : Int)), some (.int x), some (.ptr M.length), some (frQ f), some (.tup LQ), some (.str T1), o7]) (M1 := M5) (by simp -implicitDefEqProofs only [sSeq_ap, sAsg_ap, sPar_ap, sRet_ap, sIf_ap, sExpr_ap, sNext_ap, bnd_ap, ret_ap, bindR_ok, thenR_ok, dVar_ap, varR_ok, seqR_nx, seqR_rt, asgR_ok, gNm_ap, gCn_ap, gcnR_ok, gNl_ap, gTp_fr, gTp_ap, gLs_ap, dCons_ap, dNil_ap, asB_ap, dOr_ap, dAnd_ap, dNot_ap, dAndV_ap, dOrV_ap, dNotV_ap, dIf_ap, oAdd_int, oSub_int, oLt_int, oLe_int, oGt_int, oGe_int, oNeg_int, oEq_int, oNe_int, oEq_fr, oNe_fr, oEq_bl, oNe_bl, oTup_ap, oLst_ap, oCall_ap, oAbs_ap, oMax_ap, oMin_ap, oToInt_b, oToInt_i, oLen_lst, oLen_scr, oLen_tup, oIx_lst, oIx_scr, oAdd_lst, oIx_tup, oIx_fr0, oIx_fr1, ixR_ok, oItL_ap, oItT_ap, sFor_ap, startD, List.map_cons, List.map_nil, List.length_cons, List.length_nil, List.replicate_succ, List.replicate_zero, List.cons_append, List.nil_append, List.append_nil, List.getElem?_cons_zero, List.getElem?_cons_succ, List.set_cons_zero, List.set_cons_succ, Nat.reduceAdd, Nat.reduceSub, Nat.sub_self, Nat.reduceLeDiff, List.all_cons, List.all_nil, np_fr, np_int, np_bl, np_tup, np_lst, np_str, np_non, Bool.and_self, Bool.and_true, if_true_, if_false_, zero_add', if_tt, if_ff, decide_true, decide_false, Nat.le_refl, oItS_lst, oItS_tup, oTupOf_lst, oTupOf_tup, oLstOf_lst, oLstOf_tup, oRv_lst, oRv_tup, oAdd_tup, dChain_ap, asTru_bl, asTru_tup, asTru_lst, oIsN_ap, oNotN_ap, asI_ap, oSl_tup, oSl_lst, oZip_tup, oZip_lst, oAddI_ap, oEqS_ap, oNeS_ap, oNe_nil, e6])]
    rw [seq_step (ρ1 := [S, some (.int (k : Int)), some (.int x), some (.ptr M.length), some (frQ f), some (.tup LQ), some (.str T1), some (.int 1)]) (M1 := M5) (by simp -implicitDefEqProofs only [sSeq_ap, sAsg_ap, sPar_ap, sRet_ap, sIf_ap, sExpr_ap, sNext_ap, bnd_ap, ret_ap, bindR_ok, thenR_ok, dVar_ap, varR_ok, seqR_nx, seqR_rt, asgR_ok, gNm_ap, gCn_ap, gcnR_ok, gNl_ap, gTp_fr, gTp_ap, gLs_ap, dCons_ap, dNil_ap, asB_ap, dOr_ap, dAnd_ap, dNot_ap, dAndV_ap, dOrV_ap, dNotV_ap, dIf_ap, oAdd_int, oSub_int, oLt_int, oLe_int, oGt_int, oGe_int, oNeg_int, oEq_int, oNe_int, oEq_fr, oNe_fr, oEq_bl, oNe_bl, oTup_ap, oLst_ap, oCall_ap, oAbs_ap, oMax_ap, oMin_ap, oToInt_b, oToInt_i, oLen_lst, oLen_scr, oLen_tup, oIx_lst, oIx_scr, oAdd_lst, oIx_tup, oIx_fr0, oIx_fr1, ixR_ok, oItL_ap, oItT_ap, sFor_ap, startD, List.map_cons, List.map_nil, List.length_cons, List.length_nil, List.replicate_succ, List.replicate_zero, List.cons_append, List.nil_append, List.append_nil, List.getElem?_cons_zero, List.getElem?_cons_succ, List.set_cons_zero, List.set_cons_succ, Nat.reduceAdd, Nat.reduceSub, Nat.sub_self, Nat.reduceLeDiff, List.all_cons, List.all_nil, np_fr, np_int, np_bl, np_tup, np_lst, np_str, np_non, Bool.and_self, Bool.and_true, if_true_, if_false_, zero_add', if_tt, if_ff, decide_true, decide_false, Nat.le_refl, oItS_lst, oItS_tup, oTupOf_lst, oTupOf_tup, oLstOf_lst, oLstOf_tup, oRv_lst, oRv_tup, oAdd_tup, dChain_ap, asTru_bl, asTru_tup, asTru_lst, oIsN_ap, oNotN_ap, asI_ap, oSl_tup, oSl_lst, oZip_tup, oZip_lst, oAddI_ap, oEqS_ap, oNeS_ap, oNe_nil, rg, forF_cons, forF_nil, forB_ok, as, ofR_nx])]
    simp -implicitDefEqProofs only [sSeq_ap, sAsg_ap, sPar_ap, sRet_ap, sIf_ap, sExpr_ap, sNext_ap, bnd_ap, ret_ap, bindR_ok, thenR_ok, dVar_ap, varR_ok, seqR_nx, seqR_rt, asgR_ok, gNm_ap, gCn_ap, gcnR_ok, gNl_ap, gTp_fr, gTp_ap, gLs_ap, dCons_ap, dNil_ap, asB_ap, dOr_ap, dAnd_ap, dNot_ap, dAndV_ap, dOrV_ap, dNotV_ap, dIf_ap, oAdd_int, oSub_int, oLt_int, oLe_int, oGt_int, oGe_int, oNeg_int, oEq_int, oNe_int, oEq_fr, oNe_fr, oEq_bl, oNe_bl, oTup_ap, oLst_ap, oCall_ap, oAbs_ap, oMax_ap, oMin_ap, oToInt_b, oToInt_i, oLen_lst, oLen_scr, oLen_tup, oIx_lst, oIx_scr, oAdd_lst, oIx_tup, oIx_fr0, oIx_fr1, ixR_ok, oItL_ap, oItT_ap, sFor_ap, startD, List.map_cons, List.map_nil, List.length_cons, List.length_nil, List.replicate_succ, List.replicate_zero, List.cons_append, List.nil_append, List.append_nil, List.getElem?_cons_zero, List.getElem?_cons_succ, List.set_cons_zero, List.set_cons_succ, Nat.reduceAdd, Nat.reduceSub, Nat.sub_self, Nat.reduceLeDiff, List.all_cons, List.all_nil, np_fr, np_int, np_bl, np_tup, np_lst, np_str, np_non, Bool.and_self, Bool.and_true, if_true_, if_false_, zero_add', if_tt, if_ff, decide_true, decide_false, Nat.le_refl, oItS_lst, oItS_tup, oTupOf_lst, oTupOf_tup, oLstOf_lst, oLstOf_tup, oRv_lst, oRv_tup, oAdd_tup, dChain_ap, asTru_bl, asTru_tup, asTru_lst, oIsN_ap, oNotN_ap, asI_ap, oSl_tup, oSl_lst, oZip_tup, oZip_lst, oAddI_ap, oEqS_ap, oNeS_ap, oNe_nil, kz, Bool.false_eq_true]
theorem cells83 : ∀ (cs : List Int) (k : Nat) (M : Mem) (o1 o2 o3 o4 o5 o6 o7 : Option D), k + cs.length ≤ 64 → ∃ (ρ' : Env) (M' : Mem), forF (gTp 2 (gCn (gNm 1) (gCn (gNm 2) gNl))) den_law_L2 (enumFrom k (cs.map D.int)) [S, o1, o2, o3, o4, o5, o6, o7] M = some (.nx ρ', M')
  | [], k, M, o1, o2, o3, o4, o5, o6, o7, _ => ⟨_, M, rfl⟩
  | c :: cs, k, M, o1, o2, o3, o4, o5, o6, o7, h => by
    rw [List.length_cons] at h
    obtain ⟨p3, p4, p5, p6, p7, M1, e1⟩ := cell83 (S := S) c (k := k) (by omega) M o3 o4 o5 o6 o7
    obtain ⟨ρ', M2, e2⟩ := cells83 cs (k + 1) M1 (some (.int (k : Int))) (some (.int c)) p3 p4 p5 p6 p7 (by omega)
    refine ⟨ρ', M2, ?_⟩
    have gx : gTp 2 (gCn (gNm 1) (gCn (gNm 2) gNl)) (.tup [.int (k : Int), .int c]) [S, o1, o2, o3, o4, o5, o6, o7] = some [S, some (.int (k : Int)), some (.int c), o3, o4, o5, o6, o7] := rfl
    rw [List.map_cons, show enumFrom k (.int c :: cs.map D.int) = .tup [.int (k : Int), .int c] :: enumFrom (k + 1) (cs.map D.int) from rfl, forF_cons, gx, forB_ok, e1, ofR_nx, e2]
end
theorem law_true (ns : List Int) (hns : ns.length ≤ 63) : ∃ M', F_law [.scr (ns.map D.int)] [] = some (.ok (.bl true), M') := by
  obtain ⟨ρ', M', e⟩ := cells83 (S := some (.scr (ns.map D.int))) (ns ++ [(ns.length : Int)]) 0 [] none none none none none none none (by simp; omega)
  have sl : ∀ ρ M, oSl (.scr (ns.map D.int)) none (some 63) ρ M = some (.ok (.lst (ns.map D.int)), M) := fun ρ M => by
    show some (Res.ok (D.lst (cutD (ns.map D.int) none (some ((63 : Nat) : Int)))), M) = _
    rw [cutN (by rw [List.length_map]; exact hns)]
  have al := fun ρ M => oAdd_lst (ns.map D.int) [.int (ns.length : Int)] ρ M (by simp; omega)
  rw [List.map_append, List.map_cons, List.map_nil] at e
  have ll : ((ns.map D.int).length : Int) = (ns.length : Int) := by rw [List.length_map]
  have of := one_fr
  have g0 : GdB 1 [] := ⟨fun p hp => absurd hp (by simp), fun p hp => absurd hp (by simp), List.Pairwise.nil, by simp⟩
  have b1 : Bd 1400 (1 : Rat) := ⟨by decide, by decide⟩
  have e1 := readb_eq b1 g0 M'
  have e2 := btext_eq g0.sz g0.ln M'
  have bn : bT [] = Str.ofString "none" := rfl
  rw [bn] at e1 e2
  rw [List.map_nil] at e1 e2
  have ot : ∀ ρ M, oTup [] ρ M = some (.ok (.tup []), M) := fun _ _ => rfl
  have eq0 : ∀ ρ M, oEq (.tup []) (.tup []) ρ M = some (.ok (.bl true), M) := fun _ _ => rfl
  refine ⟨_, runF_rt (M2 := M') ?_ (Nat.zero_le _) rfl⟩
  rw [show startD ["script", "at", "cell", "bag", "full", "brine", "text", "again"] [D.scr (ns.map D.int)] = [some (.scr (ns.map D.int)), none, none, none, none, none, none, none] from rfl]
  generalize hNS : ns.map D.int = NS at *
  generalize hN : Str.ofString "none" = NN at *
  have dn : decide (NN = NN) = true := decide_eq_true rfl
  unfold den_law
  simp -implicitDefEqProofs only [sSeq_ap, sAsg_ap, sPar_ap, sRet_ap, sIf_ap, sExpr_ap, sNext_ap, bnd_ap, ret_ap, bindR_ok, thenR_ok, dVar_ap, varR_ok, seqR_nx, seqR_rt, asgR_ok, gNm_ap, gCn_ap, gcnR_ok, gNl_ap, gTp_fr, gTp_ap, gLs_ap, dCons_ap, dNil_ap, asB_ap, dOr_ap, dAnd_ap, dNot_ap, dAndV_ap, dOrV_ap, dNotV_ap, dIf_ap, oAdd_int, oSub_int, oLt_int, oLe_int, oGt_int, oGe_int, oNeg_int, oEq_int, oNe_int, oEq_fr, oNe_fr, oEq_bl, oNe_bl, oTup_ap, oLst_ap, oCall_ap, oAbs_ap, oMax_ap, oMin_ap, oToInt_b, oToInt_i, oLen_lst, oLen_scr, oLen_tup, oIx_lst, oIx_scr, oAdd_lst, oIx_tup, oIx_fr0, oIx_fr1, ixR_ok, oItL_ap, oItT_ap, sFor_ap, startD, List.map_cons, List.map_nil, List.length_cons, List.length_nil, List.replicate_succ, List.replicate_zero, List.cons_append, List.nil_append, List.append_nil, List.getElem?_cons_zero, List.getElem?_cons_succ, List.set_cons_zero, List.set_cons_succ, Nat.reduceAdd, Nat.reduceSub, Nat.sub_self, Nat.reduceLeDiff, List.all_cons, List.all_nil, np_fr, np_int, np_bl, np_tup, np_lst, np_str, np_non, Bool.and_self, Bool.and_true, if_true_, if_false_, zero_add', if_tt, if_ff, decide_true, decide_false, Nat.le_refl, oItS_lst, oItS_tup, oTupOf_lst, oTupOf_tup, oLstOf_lst, oLstOf_tup, oRv_lst, oRv_tup, oAdd_tup, dChain_ap, asTru_bl, asTru_tup, asTru_lst, oIsN_ap, oNotN_ap, asI_ap, oSl_tup, oSl_lst, oZip_tup, oZip_lst, oAddI_ap, oEqS_ap, oNeS_ap, oNe_nil, hN, sl, ll, al, oEnum_lst, e, of, e1, ot, eq0, e2, dn]
end Bw
open PySem PySem.W PyProof.Rows
set_option maxRecDepth 100000 in
set_option maxHeartbeats 0 in
theorem PySem.Challenge.cw_brineways_k83_brines_written_holds : PySem.Challenge.rw_brineways_k83_brines_written.Holds := by
  w_on; o_law; k_head; (case hw => w_witness2)
  k_fill
  refine Bw.walkG (l := PySem.Challenge.rw_brineways_k83_brines_written) (n := 63) (k := 14) (x := "script") (sp := fun w => Bw.spL _ 1 Bw.F_law) rfl (by decide) rfl ⟨rfl, by decide, by decide⟩ (fun w h Y => by first | exact PySem.W.kIn_of Y | exact PySem.W.km_in_of Y) ?F (fun _ _ a ns hl hS => Bw.law_start hl hS Bw.law_true)
  case F =>
    intro w mg fa h KX G hmg
    refine' Bw.law_end KX G hmg ?a0 ?l0 ?c0 ?k0 ?a1 ?l1 ?c1 ?k1 ?a2 ?l2 ?c2 ?k2 ?a3 ?l3 ?c3 ?k3 ?a4 ?l4 ?c4 ?k4 ?a5 ?l5 ?c5 ?k5 ?a6 ?l6 ?c6 ?k6 ?a7 ?l7 ?c7 ?k7 ?a8 ?l8 ?c8 ?k8 ?a9 ?l9 ?c9 ?k9 ?a10 ?l10 ?c10 ?k10 ?a11 ?l11 ?c11 ?k11 ?a12 ?l12 ?c12 ?k12 ?a13 ?l13 ?c13 ?k13 ?a14 ?l14 ?c14 ?k14 ?a15 ?l15 ?c15 ?k15 ?a16 ?l16 ?c16 ?k16 ?a17 ?l17 ?c17 ?k17 ?a18 ?l18 ?c18 ?k18 ?a19 ?l19 ?c19 ?k19 ?a20 ?l20 ?c20 ?k20 ?a21 ?l21 ?c21 ?k21 ?a22 ?l22 ?c22 ?k22 ?a23 ?l23 ?c23 ?k23 ?a24 ?l24 ?c24 ?k24 ?a25 ?l25 ?c25 ?k25 ?a26 ?l26 ?c26 ?k26 ?a27 ?l27 ?c27 ?k27 ?a28 ?l28 ?c28 ?k28 ?a29 ?l29 ?c29 ?k29 ?z_abs ?z_all ?z_bool ?z_divmod ?z_enumerate ?z_int ?z_isinstance ?z_len ?z_max ?z_range ?z_sorted ?z_str ?z_tuple ?z_zip ?m_CHUNK ?m_MOST_FIGURES ?m_FIGURES ?m_NOUGHT ?l_NOUGHT
    (case a0 => k_is)
    (case l0 => k_is)
    (case c0 => k_is)
    (case k0 => k_is)
    (case a1 => k_is)
    (case l1 => k_is)
    (case c1 => k_is)
    (case k1 => k_is)
    (case a2 => k_is)
    (case l2 => k_is)
    (case c2 => k_is)
    (case k2 => k_is)
    (case a3 => k_is)
    (case l3 => k_is)
    (case c3 => k_is)
    (case k3 => k_is)
    (case a4 => k_is)
    (case l4 => k_is)
    (case c4 => k_is)
    (case k4 => k_is)
    (case a5 => k_is)
    (case l5 => k_is)
    (case c5 => k_is)
    (case k5 => k_is)
    (case a6 => k_is)
    (case l6 => k_is)
    (case c6 => k_is)
    (case k6 => k_is)
    (case a7 => k_is)
    (case l7 => k_is)
    (case c7 => k_is)
    (case k7 => k_is)
    (case a8 => k_is)
    (case l8 => k_is)
    (case c8 => k_is)
    (case k8 => k_is)
    (case a9 => k_is)
    (case l9 => k_is)
    (case c9 => k_is)
    (case k9 => k_is)
    (case a10 => k_is)
    (case l10 => k_is)
    (case c10 => k_is)
    (case k10 => k_is)
    (case a11 => k_is)
    (case l11 => k_is)
    (case c11 => k_is)
    (case k11 => k_is)
    (case a12 => k_is)
    (case l12 => k_is)
    (case c12 => k_is)
    (case k12 => k_is)
    (case a13 => k_is)
    (case l13 => k_is)
    (case c13 => k_is)
    (case k13 => k_is)
    (case a14 => k_is)
    (case l14 => k_is)
    (case c14 => k_is)
    (case k14 => k_is)
    (case a15 => k_is)
    (case l15 => k_is)
    (case c15 => k_is)
    (case k15 => k_is)
    (case a16 => k_is)
    (case l16 => k_is)
    (case c16 => k_is)
    (case k16 => k_is)
    (case a17 => k_is)
    (case l17 => k_is)
    (case c17 => k_is)
    (case k17 => k_is)
    (case a18 => k_is)
    (case l18 => k_is)
    (case c18 => k_is)
    (case k18 => k_is)
    (case a19 => k_is)
    (case l19 => k_is)
    (case c19 => k_is)
    (case k19 => k_is)
    (case a20 => k_is)
    (case l20 => k_is)
    (case c20 => k_is)
    (case k20 => k_is)
    (case a21 => k_is)
    (case l21 => k_is)
    (case c21 => k_is)
    (case k21 => k_is)
    (case a22 => k_is)
    (case l22 => k_is)
    (case c22 => k_is)
    (case k22 => k_is)
    (case a23 => k_is)
    (case l23 => k_is)
    (case c23 => k_is)
    (case k23 => k_is)
    (case a24 => k_is)
    (case l24 => k_is)
    (case c24 => k_is)
    (case k24 => k_is)
    (case a25 => k_is)
    (case l25 => k_is)
    (case c25 => k_is)
    (case k25 => k_is)
    (case a26 => k_is)
    (case l26 => k_is)
    (case c26 => k_is)
    (case k26 => k_is)
    (case a27 => k_is)
    (case l27 => k_is)
    (case c27 => k_is)
    (case k27 => k_is)
    (case a28 => k_is)
    (case l28 => k_is)
    (case c28 => k_is)
    (case k28 => k_is)
    (case a29 => k_is)
    (case l29 => k_is)
    (case c29 => k_is)
    (case k29 => k_is)
    (case z_abs => k_is)
    (case z_all => k_is)
    (case z_bool => k_is)
    (case z_divmod => k_is)
    (case z_enumerate => k_is)
    (case z_int => k_is)
    (case z_isinstance => k_is)
    (case z_len => k_is)
    (case z_max => k_is)
    (case z_range => k_is)
    (case z_sorted => k_is)
    (case z_str => k_is)
    (case z_tuple => k_is)
    (case z_zip => k_is)
    (case m_CHUNK => k_is)
    (case m_MOST_FIGURES => k_is)
    (case m_FIGURES => k_is)
    (case m_NOUGHT => k_is)
    (case l_NOUGHT => k_is)
