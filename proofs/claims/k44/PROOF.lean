import PyProof.Rows.All
import Wide.All
import OpenK.AllK
import Wide.FinOn
import HandS.Iter
import KE.KeyNested
import PyProof.DictRoadsH
import HandS.ForMost
import HandS.ForExc
import HandS.Wide
import HandS.TupAny
import HandS.SetFor
import HandS.ExcIs
import HandS.IsInst
import HandS.RaiseMore
import HandS.Style
import HandS.Zip
import HandS.Deep
import PyProof.Rows.ReprR
import KE.GoesNew
import KE.GoesEnum
import HandS.TupMul
import PySem.Challenge.RW_brineways_k44_pans_and_their_clamps
set_option Elab.async false
set_option linter.all false
set_option maxRecDepth 100000
/-! dicts whose keys are None, ints and tuples of ints, together -/
namespace Bw
open PySem PySem.Spec PyProof.Rows L2
abbrev NK := PySem.NestedKey
/-- the keys that are served -/
inductive KyIs (h : Heap) : NK → Value → Prop
  | non : KyIs h .none .none
  | int (i : Int) (t : Tok) : KyIs h (.num i) (.int i t)
  | tup {is : List Int} {a : Addr} (n : NestedIs h (.tup (is.map .num)) (.ref a)) : KyIs h (.tup (is.map .num)) (.ref a)
/-- the hash, without the world -/
def hN : NK → Int
  | .none => reduceHash 0xFCA86420
  | .num i => hashInt i
  | .text _ => 0
  | .tup ks => reduceHash (Builtin.Tuple.tupleHashOf (ks.map fun k => match k with | .num i => hashInt i | _ => 0))
theorem hashes_nums (w : World) : ∀ is : List Int, NestedKey.hashes w (is.map .num) = (is.map NestedKey.num).map (fun k => match k with | .num i => hashInt i | _ => 0)
  | [] => rfl
  | i :: is => by
    rw [List.map_cons, NestedKey.hashes, NestedKey.hash, hashes_nums w is]
    rfl
theorem depth_nums : ∀ is : List Int, NestedKey.depthAll (is.map .num) = 0
  | [] => rfl
  | i :: is => by rw [List.map_cons, NestedKey.depthAll, depth_nums is]; rfl
section
variable {h h' : Heap} {k k2 : NK} {v : Value}
theorem KyIs.nest (x : KyIs h k v) : NestedIs h k v := by
  cases x with
  | non => exact .none
  | int i t => exact .int i t
  | tup n => exact n
theorem KyIs.deep (x : KyIs h k v) : k.depth ≤ 1 := by
  cases x with
  | non => exact Nat.zero_le _
  | int i t => exact Nat.zero_le _
  | tup n => rw [NestedKey.depth, depth_nums]; exact Nat.le_refl _
theorem KyIs.hash (x : KyIs h k v) (w : World) : k.hash w = hN k := by
  cases x with
  | non => rw [NestedKey.hash]; rfl
  | int i t => rw [NestedKey.hash]; rfl
  | tup n => rw [NestedKey.hash, hashes_nums]; rfl
theorem KyIs.inj (x : KyIs h k v) (y : KyIs h k2 v) : k = k2 := NestedIs.inj _ _ _ x.nest y.nest
theorem KyIs.stay (x : KyIs h k v) (q : ∀ b o vs n, h.get? b = some o → o.data = .seq vs n → h'.get? b = some o) : KyIs h' k v := by
  cases x with
  | non => exact .non
  | int i t => exact .int i t
  | tup n => exact .tup (NestedIs.at q _ _ n)
end
abbrev R3 := List (NK × Value × Value)
def ent3 (x : NK × Value × Value) : DictEntry := ⟨hN x.1, x.2.1, x.2.2⟩
def look3 (xs : R3) (k : NK) : Option (Value × Value) := (xs.find? fun x => decide (x.1 = k)).map (·.2)
def put3 (xs : R3) (k : NK) (kv v : Value) : R3 := if (look3 xs k).isSome = true then xs.map (fun x => if x.1 = k then (x.1, x.2.1, v) else x) else xs ++ [(k, kv, v)]
theorem look3_at : ∀ {xs : R3}, (xs.map (·.1)).Nodup → ∀ {i : Nat} {k : NK} {p : Value × Value}, xs[i]? = some (k, p) → look3 xs k = some p
  | [], _, i, k, p, e => by simp at e
  | x :: r, nd, i, k, p, e => by
    rw [List.map_cons, List.nodup_cons] at nd
    unfold look3
    cases i with
    | zero =>
      simp only [List.getElem?_cons_zero, Option.some.injEq] at e
      subst e
      simp
    | succ j =>
      simp only [List.getElem?_cons_succ] at e
      have ne : ¬ x.1 = k := fun z => nd.1 (List.mem_map.mpr ⟨(k, p), List.mem_of_getElem? e, z.symm⟩)
      rw [List.find?_cons_of_neg (by simpa using ne)]
      exact look3_at nd.2 e
theorem look3_no {xs : R3} {k : NK} (q : ∀ (j : Nat) (p : Value × Value), xs[j]? ≠ some (k, p)) : look3 xs k = none ∧ k ∉ xs.map (·.1) := by
  have nm : k ∉ xs.map (·.1) := fun m => by
    obtain ⟨x, hx, e⟩ := List.mem_map.mp m
    obtain ⟨j, hj⟩ := List.mem_iff_getElem?.mp hx
    exact q j x.2 (by rw [hj, ← e])
  refine ⟨?_, nm⟩
  unfold look3
  rw [List.find?_eq_none.mpr fun x hx hk => nm (List.mem_map.mpr ⟨x, hx, of_decide_eq_true hk⟩)]
  rfl
theorem one3 {xs : R3} (nd : (xs.map (·.1)).Nodup) {i j : Nat} {k : NK} {p q : Value × Value} (a : xs[i]? = some (k, p)) (b : xs[j]? = some (k, q)) : i = j := by
  have a' : (xs.map (·.1))[i]? = some k := by rw [List.getElem?_map, a]; rfl
  have b' : (xs.map (·.1))[j]? = some k := by rw [List.getElem?_map, b]; rfl
  exact (List.getElem?_inj (List.getElem?_eq_some_iff.mp a').1 nd).mp (a'.trans b'.symm)
/-- the dict at d -/
def Dic3 (h : Heap) (d : Addr) (xs : R3) : Prop := ∃ o es ep, h.get? d = some o ∧ o.ExactDict ∧ o.data = .dict es ep ∧ es.toList = xs.map ent3 ∧ (xs.map (·.1)).Nodup
theorem ent3_at {es : Array DictEntry} {xs : R3} (q : es.toList = xs.map ent3) (j : Nat) : es[j]? = (xs[j]?).map ent3 := by rw [← Array.getElem?_toList, q, List.getElem?_map]
theorem ent3_size {es : Array DictEntry} {xs : R3} (q : es.toList = xs.map ent3) : es.size = xs.length := by rw [← Array.length_toList, q, List.length_map]
theorem Dic3.ty {s : Shared} {d : Addr} {xs : R3} (m : Dic3 s.heap d xs) : s.TypeIs (.ref d) "dict" := by
  obtain ⟨o, _, _, g, c, _⟩ := m
  exact ⟨o, g, c.1⟩
section
variable {P : Program} {w : World} {A : Around} {E : Value → Shared → Prop} {s : Shared}
theorem eq3 {k k2 : NK} {u v : Value} {Q : Bool → Shared → Prop} (hu : A.units + 8 < cLine) (x : KyIs s.heap k u) (y : KyIs s.heap k2 v) (q : Q (decide (k = k2)) s) : wpAny (model P w) A (eqBool u v) Q E s := by
  have d1 := x.deep
  have d2 := y.deep
  exact eqAt_key k k2 A s _ _ x.nest y.nest (by omega) _ _ _ _ (by rw [← NestedKey.decide_eq]; exact q)
theorem hash3 {k : NK} {u : Value} {Q : Int → Shared → Prop} (hu : A.units + 8 < cLine) (x : KyIs s.heap k u) (q : Q (hN k) { s with toks := s.toks + k.draws }) : wpAny (model P w) A (pyHash u) Q E s := by
  have d1 := x.deep
  exact pyHash_key _ _ _ _ _ x.nest (by omega) (by rw [x.hash w]; exact q)
theorem quiet3 {k : NK} {u : Value} {Q : Bool → Shared → Prop} (x : KyIs s.heap k u) (q : Q true s) : wpAny (model P w) A (eqIsQuiet 8 u) Q E s := by
  have d1 := x.deep
  exact quiet_key k _ 8 s x.nest (by omega) A E Q q
theorem tells3 {u : Value} {k : NK} {st : List Value} {Q : Bool → Shared → Prop} (x : KyIs s.heap k u) (y : ∀ v ∈ st, ∃ k2, KyIs s.heap k2 v) (q : Q false s) : wpAny (model P w) A (tableMayTell u st) Q E s := by
  unfold tableMayTell
  split
  · exact wpAny_pure q
  · refine wpAny_bind (quiet3 x ?_)
    simp only [Bool.not_true, Bool.false_eq_true, if_false]
    refine wpAny_bind (wpAny_forIn_list _ (fun rest r s1 => s1 = s ∧ r = (none, ()) ∧ ∀ v ∈ rest, ∃ k2, KyIs s.heap k2 v) _ ?_ ?_ _ _ ⟨rfl, rfl, y⟩)
    · rintro z rest r s1 ⟨rfl, rfl, m⟩
      obtain ⟨k2, z2⟩ := m z List.mem_cons_self
      refine wpAny_bind (quiet3 z2 ?_)
      simp only [Bool.not_true, Bool.false_eq_true, if_false]
      exact wpAny_pure ⟨rfl, rfl, fun v m2 => m v (List.mem_cons_of_mem _ m2)⟩
    · rintro r s1 ⟨rfl, rfl, _⟩
      exact wpAny_pure q
end
end Bw
namespace Bw
open PySem PySem.Spec PyProof.Rows L2
/-- which places have the hash -/
def hp3 (es : Array DictEntry) (k : NK) (i : Nat) : Bool := (es[i]?.map (·.hash)) == some (hN k)
/-- none of the first i is the key -/
def No3 (xs : R3) (k : NK) (i : Nat) : Prop := ∀ j p, j < i → xs[j]? ≠ some (k, p)
section
variable {P : Program} {w : World} {A : Around} {E : Value → Shared → Prop} {s : Shared} {es : Array DictEntry} {xs : R3} {k : NK}
theorem hp3_of (q : es.toList = xs.map ent3) {j : Nat} {p : Value × Value} (e : xs[j]? = some (k, p)) : hp3 es k j = true := by
  unfold hp3
  rw [ent3_at q j, e]
  simp [ent3]
theorem No3.skip (q : es.toList = xs.map ent3) {i x : Nat} (a : No3 xs k i) (sk : ∀ j, i ≤ j → j < x → hp3 es k j = false) : No3 xs k x := fun j p hj e => by
  rcases Nat.lt_or_ge j i with z | z
  · exact a j p z e
  · have := sk j z hj
    rw [hp3_of q e] at this
    cases this
theorem No3.next {x : Nat} {k2 : NK} {p2 : Value × Value} (a : No3 xs k x) (e2 : xs[x]? = some (k2, p2)) (ne : ¬ k2 = k) : No3 xs k (x + 1) := fun j p hj e => by
  rcases Nat.lt_or_ge j x with z | z
  · exact a j p z e
  · have : j = x := by omega
    subst this
    rw [e2] at e
    injection e with e
    injection e with e
    exact ne e
theorem No3.all (q : es.toList = xs.map ent3) {i : Nat} (a : No3 xs k i) (hr : [] = (List.range' i (es.size - i)).filter (hp3 es k)) (j : Nat) (p : Value × Value) : xs[j]? ≠ some (k, p) := fun e => by
  have hj : j < es.size := by
    rw [ent3_size q]
    rcases Nat.lt_or_ge j xs.length with z | z
    · exact z
    · rw [List.getElem?_eq_none z] at e; cases e
  rcases Nat.lt_or_ge j i with z | z
  · exact a j p z e
  · have := List.filter_eq_nil_iff.mp hr.symm j (List.mem_range'_1.mpr ⟨z, by omega⟩)
    rw [hp3_of q e] at this
    exact this rfl
theorem places3 : placesWithHash es.size (fun i => es[i]?.map (·.hash)) (hN k) = (List.range' 0 (es.size - 0)).filter (hp3 es k) := by
  rw [placesWithHash, List.range_eq_range', Nat.sub_zero]
  rfl
theorem step3 (q : es.toList = xs.map ent3) {i x : Nat} {rest : List Nat} (hi : i ≤ es.size) (hr : x :: rest = (List.range' i (es.size - i)).filter (hp3 es k)) :
    i ≤ x ∧ x < es.size ∧ (∀ j, i ≤ j → j < x → hp3 es k j = false) ∧ rest = (List.range' (x + 1) (es.size - (x + 1))).filter (hp3 es k) ∧ ∃ k2 u v, xs[x]? = some (k2, u, v) ∧ es[x]? = some ⟨hN k2, u, v⟩ := by
  obtain ⟨h1, h2, h3, h4, h5⟩ := filter_range'_cons _ _ _ _ _ hr.symm
  have lt : x < es.size := by omega
  refine ⟨h1, lt, h4, by rw [h5]; congr 2; omega, ?_⟩
  obtain ⟨⟨k2, u, v⟩, e⟩ : ∃ y, xs[x]? = some y := ⟨xs[x]'(by rw [← ent3_size q]; exact lt), List.getElem?_eq_getElem _⟩
  exact ⟨k2, u, v, e, by rw [ent3_at q x, e]; rfl⟩
theorem walk3 {d : Addr} {key : Value} {o : Obj} {ep : Nat} {Q : Option Nat → Shared → Prop} (hu : A.units + 8 < cLine) (ky : KyIs s.heap k key) (go : s.heap.get? d = some o) (dd : o.data = .dict es ep) (q : es.toList = xs.map ent3) (ks : ∀ x ∈ xs, KyIs s.heap x.1 x.2.1)
    (no : (∀ (j : Nat) (p : Value × Value), xs[j]? ≠ some (k, p)) → Q none s) (yes : ∀ (j : Nat) (p : Value × Value), xs[j]? = some (k, p) → Q (some j) s) :
    wpAny (model P w) A (dictWalkPlain d key (hN k) es ((List.range' 0 (es.size - 0)).filter (hp3 es k))) Q E s := by
  unfold dictWalkPlain
  refine wpAny_bind (wpAny_forIn_list _ (fun rest b s1 => s1 = s ∧ b = (none, ()) ∧ ∃ i, rest = (List.range' i (es.size - i)).filter (hp3 es k) ∧ i ≤ es.size ∧ No3 xs k i) _ ?_ ?_ _ _ ⟨rfl, rfl, 0, rfl, Nat.zero_le _, fun _ _ z => absurd z (Nat.not_lt_zero _)⟩)
  · rintro x rest b s1 ⟨rfl, rfl, i, hr, hi, a⟩
    obtain ⟨ix, lt, sk, hrest, k2, u, v, e2, ee⟩ := step3 q hi hr
    have a2 := a.skip q sk
    have nxt : ¬ k2 = k → ∃ i, rest = (List.range' i (es.size - i)).filter (hp3 es k) ∧ i ≤ es.size ∧ No3 xs k i := fun ne => ⟨x + 1, hrest, lt, a2.next e2 ne⟩
    have ky2 := ks _ (List.mem_of_getElem? e2)
    rw [ee]
    dsimp only
    by_cases hh : (hN k2 == hN k) = true
    · rw [if_pos hh]
      refine wpAny_bind (wpAny_dictEpoch go dd (wpAny_bind (eq3 hu ky2 ky (wpAny_bind (wpAny_dictEpoch go dd ?_)))))
      rw [if_neg (show ¬ ((ep != ep) = true) by simp)]
      by_cases kk : k2 = k
      · rw [decide_eq_true kk]
        subst kk
        exact wpAny_bind (wpAny_rule (wpAny_pure (wpAny_pure (yes x _ e2))))
      · rw [decide_eq_false kk]
        exact wpAny_bind (wpAny_rule (wpAny_pure ⟨rfl, rfl, nxt kk⟩))
    · rw [if_neg hh]
      exact wpAny_pure ⟨rfl, rfl, nxt fun z => hh (by rw [z]; exact beq_self_eq_true _)⟩
  · rintro b s1 ⟨rfl, rfl, i, hr, hi, a⟩
    exact wpAny_pure (no (a.all q hr))
theorem find3 {d : Addr} {key : Value} {o : Obj} {ep : Nat} {Q : Option Nat → Shared → Prop} (hu : A.units + 8 < cLine) (ky : KyIs s.heap k key) (go : s.heap.get? d = some o) (dd : o.data = .dict es ep) (q : es.toList = xs.map ent3) (ks : ∀ x ∈ xs, KyIs s.heap x.1 x.2.1) (nd : (xs.map (·.1)).Nodup)
    (no : (∀ (j : Nat) (p : Value × Value), xs[j]? ≠ some (k, p)) → Q none s) (yes : ∀ (j : Nat) (p : Value × Value), xs[j]? = some (k, p) → Q (some j) s) : wpAny (model P w) A (dictFind d key (hN k)) Q E s := by
  have mem : ∀ e ∈ es, ∃ x ∈ xs, e = ent3 x := fun e m => by
    have : e ∈ xs.map ent3 := q ▸ Array.mem_toList_iff.mpr m
    obtain ⟨x, hx, z⟩ := List.mem_map.mp this
    exact ⟨x, hx, z.symm⟩
  have same : ¬ (es.any fun e => e.key == key && e.hash != hN k) = true := by
    rw [← Array.any_toList, List.any_eq_true]
    rintro ⟨e, m, c⟩
    obtain ⟨x, hx, rfl⟩ := mem e (Array.mem_toList_iff.mp m)
    simp only [ent3, Bool.and_eq_true, beq_iff_eq, bne_iff_ne, ne_eq] at c
    obtain ⟨c1, c2⟩ := c
    have := ks x hx
    rw [c1] at this
    exact c2 (by rw [this.inj ky])
  have stored : ∀ v ∈ ((List.range' 0 (es.size - 0)).filter (hp3 es k)).filterMap (fun i => es[i]?.map (·.key)), ∃ k2, KyIs s.heap k2 v := by
    intro v m
    obtain ⟨i, _, hi⟩ := List.mem_filterMap.mp m
    cases ei : es[i]? with
    | none => rw [ei] at hi; cases hi
    | some e =>
      rw [ei] at hi
      obtain rfl : e.key = v := by simpa using hi
      obtain ⟨x, hx, rfl⟩ := mem e (Array.mem_of_getElem? ei)
      exact ⟨x.1, ks x hx⟩
  have turn : ∀ (x : Nat) (k2 : NK) (u v : Value) (hit : Option Nat), xs[x]? = some (k2, u, v) → ((hit = none ∧ No3 xs k x) ∨ ∃ j p, hit = some j ∧ j < x ∧ xs[j]? = some (k, p)) → ¬ k2 = k → ((hit = none ∧ No3 xs k (x + 1)) ∨ ∃ j p, hit = some j ∧ j < x + 1 ∧ xs[j]? = some (k, p)) := by
    intro x k2 u v hit e2 hh ne
    rcases hh with ⟨h1, h2⟩ | ⟨j, p, h1, h2, h3⟩
    · exact .inl ⟨h1, h2.next e2 ne⟩
    · exact .inr ⟨j, p, h1, by omega, h3⟩
  unfold dictFind
  try with_reducible refine wpAny_holding ?_
  refine wpAny_bind (wpAny_dictEntries go dd ?_)
  have pl := places3 (es := es) (k := k)
  have lp : ∀ (B : Nat → Option (Option Nat) × Option Nat → Sem (ForInStep (Option (Option Nat) × Option Nat))) (R : Option (Option Nat) × Option Nat → Shared → Prop),
      (∀ (x : Nat) (k2 : NK) (u v : Value) (hit : Option Nat) (T : ForInStep (Option (Option Nat) × Option Nat) → Shared → Prop), xs[x]? = some (k2, u, v) → KyIs s.heap k2 u → es[x]? = some ⟨hN k2, u, v⟩ → (k2 = k → hit = none) →
        (k2 = k → T (.done (some (some x), none)) s) → (k2 = k → T (.yield (none, some x)) s) → (¬ k2 = k → T (.yield (none, hit)) s) → wpAny (model P w) A (B x (none, hit)) T E s) →
      (∀ x p, xs[x]? = some (k, p) → R (some (some x), none) s) → (∀ x p, xs[x]? = some (k, p) → R (none, some x) s) → ((∀ (j : Nat) (p : Value × Value), xs[j]? ≠ some (k, p)) → R (none, none) s) →
      wpAny (model P w) A (forIn ((List.range' 0 (es.size - 0)).filter (hp3 es k)) (none, none) B) R E s := by
    intro B R hB r1 r2 r3
    refine wpAny_forIn_list _ (fun rest b s1 => s1 = s ∧ ∃ i hit, b = (none, hit) ∧ rest = (List.range' i (es.size - i)).filter (hp3 es k) ∧ i ≤ es.size ∧ ((hit = none ∧ No3 xs k i) ∨ ∃ j p, hit = some j ∧ j < i ∧ xs[j]? = some (k, p))) _ ?_ ?_ _ _
      ⟨rfl, 0, none, rfl, rfl, Nat.zero_le _, .inl ⟨rfl, fun _ _ z => absurd z (Nat.not_lt_zero _)⟩⟩
    · rintro x rest b s1 ⟨rfl, i, hit, rfl, hr, hi, hh⟩
      obtain ⟨ix, lt, sk, hrest, k2, u, v, e2, ee⟩ := step3 q hi hr
      have hh2 : (hit = none ∧ No3 xs k x) ∨ ∃ j p, hit = some j ∧ j < x ∧ xs[j]? = some (k, p) := by
        rcases hh with ⟨h1, h2⟩ | ⟨j, p, h1, h2, h3⟩
        · exact .inl ⟨h1, h2.skip q sk⟩
        · exact .inr ⟨j, p, h1, by omega, h3⟩
      have hn : k2 = k → hit = none := fun z => by
        subst z
        rcases hh2 with ⟨h1, _⟩ | ⟨j, p, h1, h2, h3⟩
        · exact h1
        · exact absurd (one3 nd h3 e2) (by omega)
      refine hB x k2 u v hit _ e2 (ks _ (List.mem_of_getElem? e2)) ee hn (fun z => ?_) (fun z => ?_) fun z => ?_
      · subst z
        exact r1 x _ e2
      · subst z
        exact ⟨rfl, x + 1, some x, rfl, hrest, lt, .inr ⟨x, _, rfl, Nat.lt_succ_self x, e2⟩⟩
      · exact ⟨rfl, x + 1, hit, rfl, hrest, lt, turn x k2 u v hit e2 hh2 z⟩
    · rintro b s1 ⟨rfl, i, hit, rfl, hr, hi, hh⟩
      rcases hh with ⟨h1, h2⟩ | ⟨j, p, h1, h2, h3⟩
      · subst h1
        exact r3 (h2.all q hr)
      · subst h1
        exact r2 j p h3
  have plain : ∀ key2, key2 = key → wpAny (model P w) A (dictWalkPlain d key2 (hN k) es ((List.range' 0 (es.size - 0)).filter (hp3 es k))) Q E s := fun key2 e => by
    subst e
    exact walk3 hu ky go dd q ks no yes
  have ky' := ky
  cases ky' with
  | non =>
    dsimp only
    rw [pl]
    refine wpAny_ite_split (fun _ => plain _ rfl) fun _ => ?_
    refine wpAny_ite_split (fun _ => ?_) fun _ => ?_
    all_goals first | refine wpAny_bind (wpAny_pure ?_) | refine wpAny_bind (tells3 ky stored ?_)
    all_goals
      rw [if_neg (by simp)]
      refine wpAny_bind (lp _ _ (fun x k2 u v hit T e2 ky2 ee hn t1 t2 t3 => ?_) (fun x p e => wpAny_pure (yes x p e)) (fun x p e => wpAny_pure (yes x p e)) fun z => wpAny_pure (no z))
      rw [ee]
      dsimp only
      refine wpAny_ite_split (fun _ => ?_) fun hh => wpAny_pure (t3 fun z => hh (by rw [z]; exact beq_self_eq_true _))
      refine wpAny_bind (wpAny_dictEpoch go dd (wpAny_bind (eq3 hu ky2 ky (wpAny_bind (wpAny_dictEpoch go dd ?_)))))
      rw [if_neg (show ¬ ((ep != ep) = true) by simp)]
      by_cases kk : k2 = NestedKey.none
      · rw [decide_eq_true kk, hn kk]
        simp only [Option.isSome_none, Bool.false_eq_true, if_false, if_true]
        exact wpAny_bind (wpAny_rule (wpAny_ite_split (fun _ => wpAny_pure (t1 kk)) fun _ => wpAny_pure (t2 kk)))
      · rw [decide_eq_false kk]
        simp only [Bool.false_eq_true, if_false]
        refine wpAny_bind (wpAny_rule ?_)
        first | rw [if_neg (by simp)] | skip
        first | exact wpAny_pure (t3 kk) | exact wpAny_bind (wpAny_pure (wpAny_pure (t3 kk)))
  | int i t =>
    dsimp only
    rw [pl]
    refine wpAny_ite_split (fun _ => plain _ rfl) fun _ => ?_
    refine wpAny_ite_split (fun _ => ?_) fun _ => ?_
    all_goals first | refine wpAny_bind (wpAny_pure ?_) | refine wpAny_bind (tells3 ky stored ?_)
    all_goals
      rw [if_neg (by simp)]
      refine wpAny_bind (lp _ _ (fun x k2 u v hit T e2 ky2 ee hn t1 t2 t3 => ?_) (fun x p e => wpAny_pure (yes x p e)) (fun x p e => wpAny_pure (yes x p e)) fun z => wpAny_pure (no z))
      rw [ee]
      dsimp only
      refine wpAny_ite_split (fun _ => ?_) fun hh => wpAny_pure (t3 fun z => hh (by rw [z]; exact beq_self_eq_true _))
      refine wpAny_bind (wpAny_dictEpoch go dd (wpAny_bind (eq3 hu ky2 ky (wpAny_bind (wpAny_dictEpoch go dd ?_)))))
      rw [if_neg (show ¬ ((ep != ep) = true) by simp)]
      by_cases kk : k2 = NestedKey.num i
      · rw [decide_eq_true kk, hn kk]
        simp only [Option.isSome_none, Bool.false_eq_true, if_false, if_true]
        exact wpAny_bind (wpAny_rule (wpAny_ite_split (fun _ => wpAny_pure (t1 kk)) fun _ => wpAny_pure (t2 kk)))
      · rw [decide_eq_false kk]
        simp only [Bool.false_eq_true, if_false]
        refine wpAny_bind (wpAny_rule ?_)
        first | rw [if_neg (by simp)] | skip
        first | exact wpAny_pure (t3 kk) | exact wpAny_bind (wpAny_pure (wpAny_pure (t3 kk)))
  | @tup is a n =>
    dsimp only
    rw [pl]
    refine wpAny_ite_split (fun _ => plain _ rfl) fun _ => ?_
    rw [if_neg same]
    refine wpAny_ite_split (fun _ => ?_) fun _ => ?_
    all_goals first | refine wpAny_bind (wpAny_pure ?_) | refine wpAny_bind (tells3 ky stored ?_)
    all_goals
      rw [if_neg (by simp)]
      refine wpAny_bind (lp _ _ (fun x k2 u v hit T e2 ky2 ee hn t1 t2 t3 => ?_) (fun x p e => wpAny_pure (yes x p e)) (fun x p e => wpAny_pure (yes x p e)) fun z => wpAny_pure (no z))
      rw [ee]
      dsimp only
      refine wpAny_ite_split (fun _ => ?_) fun hh => wpAny_pure (t3 fun z => hh (by rw [z]; exact beq_self_eq_true _))
      refine wpAny_bind (wpAny_dictEpoch go dd (wpAny_bind (eq3 hu ky2 ky (wpAny_bind (wpAny_dictEpoch go dd ?_)))))
      rw [if_neg (show ¬ ((ep != ep) = true) by simp)]
      by_cases kk : k2 = NestedKey.tup (is.map .num)
      · rw [decide_eq_true kk, hn kk]
        simp only [Option.isSome_none, Bool.false_eq_true, if_false, if_true]
        exact wpAny_bind (wpAny_rule (wpAny_ite_split (fun _ => wpAny_pure (t1 kk)) fun _ => wpAny_pure (t2 kk)))
      · rw [decide_eq_false kk]
        simp only [Bool.false_eq_true, if_false]
        refine wpAny_bind (wpAny_rule ?_)
        first | rw [if_neg (by simp)] | skip
        first | exact wpAny_pure (t3 kk) | exact wpAny_bind (wpAny_pure (wpAny_pure (t3 kk)))
end
end Bw
namespace Bw
open PySem PySem.Spec PyProof.Rows L2
theorem put3_keys (xs : R3) (k : NK) (v : Value) : (xs.map (fun x => if x.1 = k then (x.1, x.2.1, v) else x)).map (·.1) = xs.map (·.1) := by
  rw [List.map_map]
  refine List.map_congr_left fun x _ => ?_
  show (if x.1 = k then (x.1, x.2.1, v) else x).1 = x.1
  split <;> rfl
theorem put3_mod : ∀ {xs : R3} {j : Nat} {k : NK} {p : Value × Value} (v : Value), (xs.map (·.1)).Nodup → xs[j]? = some (k, p) → (xs.map ent3).modify j (fun e => { e with val := v }) = (xs.map (fun x => if x.1 = k then (x.1, x.2.1, v) else x)).map ent3
  | [], j, k, p, v, _, e => by simp at e
  | x :: r, j, k, p, v, nd, e => by
    rw [List.map_cons, List.nodup_cons] at nd
    cases j with
    | zero =>
      simp only [List.getElem?_cons_zero, Option.some.injEq] at e
      subst e
      have rest : r.map (fun x => if x.1 = k then (x.1, x.2.1, v) else x) = r := by
        conv => rhs; rw [← List.map_id r]
        refine List.map_congr_left fun y hy => if_neg fun z => nd.1 ?_
        exact List.mem_map.mpr ⟨y, hy, z⟩
      rw [List.map_cons, List.map_cons, List.map_cons, rest, if_pos rfl]
      rfl
    | succ j =>
      simp only [List.getElem?_cons_succ] at e
      have ne : ¬ x.1 = k := fun z => nd.1 (List.mem_map.mpr ⟨(k, p), List.mem_of_getElem? e, z.symm⟩)
      rw [List.map_cons, List.map_cons, List.map_cons, if_neg ne, ← put3_mod v nd.2 e]
      rfl
section
variable {P : Program} {w : World} {A : Around} {E : Value → Shared → Prop} {s : Shared} {xs : R3} {k : NK} {d : Addr} {key : Value}
theorem get3 {Q : Option Value → Shared → Prop} (hu : A.units + 8 < cLine) (ky : KyIs s.heap k key) (m : Dic3 s.heap d xs) (ks : ∀ x ∈ xs, KyIs s.heap x.1 x.2.1) (q : Q ((look3 xs k).map (·.2)) { s with toks := s.toks + k.draws }) : wpAny (model P w) A (dictGet d key) Q E s := by
  obtain ⟨o, es, ep, go, _, dd, qe, nd⟩ := m
  unfold dictGet
  try with_reducible refine wpAny_holding ?_
  refine wpAny_bind (hash3 hu ky (wpAny_bind (find3 (s := { s with toks := s.toks + k.draws }) hu ky go dd qe ks nd (fun no => ?_) fun j p e => ?_)))
  · rw [(look3_no no).1] at q
    exact wpAny_pure q
  · rw [look3_at nd e] at q
    refine wpAny_bind (wpAny_dictEntries (s := { s with toks := s.toks + k.draws }) go dd ?_)
    rw [ent3_at qe j, e]
    exact wpAny_pure q
theorem set3 {v : Value} {Q : Unit → Shared → Prop} (hu : A.units + 8 < cLine) (ky : KyIs s.heap k key) (m : Dic3 s.heap d xs) (ks : ∀ x ∈ xs, KyIs s.heap x.1 x.2.1) (sz : xs.length ≤ sizeLine)
    (q : ∀ h', Dic3 h' d (put3 xs k key v) → Heap.SameBut d s.heap h' → Q () { s with heap := h', toks := s.toks + k.draws }) : wpAny (model P w) A (dictSet d key v) Q E s := by
  obtain ⟨o, es, ep, go, ex, dd, qe, nd⟩ := m
  unfold dictSet
  try with_reducible refine wpAny_holding ?_
  refine wpAny_bind (hash3 hu ky ?_)
  unfold dictSetHashed
  try with_reducible refine wpAny_holding ?_
  refine wpAny_bind (find3 (s := { s with toks := s.toks + k.draws }) hu ky go dd qe ks nd (fun no => ?_) fun j p e => ?_)
  · obtain ⟨n1, n2⟩ := look3_no no
    have e1 : put3 xs k key v = xs ++ [(k, key, v)] := by unfold put3; rw [n1]; rfl
    refine wpAny_bind (wpAny_rule (wpAny_updateDictKeys (hz := by have := ent3_size qe; omega) (s := { s with toks := s.toks + k.draws }) go dd (q _ ⟨_, _, ep + 1, Heap.get?_update_self _ go (Obj.isFreed_of_dict (Obj.data_mapDictKeys dd _)), ex.mapDictKeys _, Obj.data_mapDictKeys dd _, ?_, ?_⟩ (Heap.SameBut.update ..))))
    · rw [e1]
      simp [qe, ent3]
    · rw [e1, List.map_append, List.nodup_append]
      refine ⟨nd, by simp, fun x hx y hy => ?_⟩
      simp only [List.map_cons, List.map_nil, List.mem_singleton] at hy
      subst hy
      exact fun z => n2 (z ▸ hx)
  · have e1 : put3 xs k key v = xs.map (fun x => if x.1 = k then (x.1, x.2.1, v) else x) := by unfold put3; rw [look3_at nd e]; rfl
    refine wpAny_bind (wpAny_rule (wpAny_bind (wpAny_updateDict (s := { s with toks := s.toks + k.draws }) go dd (wpAny_point (q _ ⟨_, _, ep, Heap.get?_update_self _ go (Obj.isFreed_of_dict (Obj.data_mapDict dd _)), ex.mapDict _, Obj.data_mapDict dd _, ?_, ?_⟩ (Heap.SameBut.update ..))))))
    · rw [e1]
      have := put3_mod v nd e
      rw [← qe] at this
      obtain ⟨l⟩ := es
      simpa using this
    · rw [e1, put3_keys]; exact nd
theorem in3 {Q : Value → Shared → Prop} (hu : A.in1.units + 8 < cLine) (ky : KyIs s.heap k key) (hd : (d == sysModules) = false) (m : Dic3 s.heap d xs) (ks : ∀ x ∈ xs, KyIs s.heap x.1 x.2.1) (q : Q (.bool (look3 xs k).isSome) { s with toks := s.toks + k.draws }) :
    wpAny (model P w) A (compareOp .In key (.ref d)) Q E s := by
  show wpAny _ _ (do return .bool (← contains (.ref d) key)) Q E s
  refine wpAny_bind ?_
  unfold contains
  try with_reducible refine wpAny_holding ?_
  refine wpAny_bind (wpAny_specialOf m.ty slot_dict_contains.lookup ?_)
  show wpAny _ _ (if (some (Value.builtin "dict.__contains__") == some Value.none) = true then _ else _) _ E s
  rw [if_neg (show ¬ ((some (Value.builtin "dict.__contains__") == some Value.none) = true) by rw [beq_builtin_none]; exact Bool.false_ne_true)]
  refine wpAny_bind (wpAny_callSpecialUnlessNone?_slot (name := Str.ofString "__contains__") m.ty slot_dict_contains (wpAny_call_entry slot_dict_contains m.ty entry_dict_contains ?_ (args_dict_contains _ _)))
  show wpAny _ _ (dictGet d key >>= _) _ _ s
  refine wpAny_bind (get3 hu ky m ks ?_)
  cases hf : look3 xs k with
  | some p =>
    rw [hf] at q
    show wpAny _ _ (ret (.bool true)) _ _ _
    exact wpAny_pure ⟨_, rfl, wpAny_truthy_bool (wpAny_pure q)⟩
  | none =>
    rw [hf] at q
    show wpAny _ _ (Builtin.Dict.pendingKey? d key >>= _) _ _ _
    exact wpAny_bind (wpAny_pendingKey_other hd (wpAny_pure ⟨_, rfl, wpAny_truthy_bool (wpAny_pure q)⟩))
theorem item3 {p : Value × Value} {Q : Value → Shared → Prop} (hu : A.in1.units + 8 < cLine) (ky : KyIs s.heap k key) (m : Dic3 s.heap d xs) (ks : ∀ x ∈ xs, KyIs s.heap x.1 x.2.1) (hp : look3 xs k = some p) (q : Q p.2 { s with toks := s.toks + k.draws }) :
    wpAny (model P w) A (getItem (.ref d) key) Q E s := by
  unfold getItem
  try with_reducible refine wpAny_holding ?_
  refine wpAny_bind (wpAny_sequenceKey m.ty (by decide) ?_)
  refine wpAny_bind (wpAny_callSpecial?_slot (name := Str.ofString "__getitem__") m.ty slot_dict_getitem (wpAny_call_entry slot_dict_getitem m.ty entry_dict_getitem ?_ (args_dict_getitem _ _)))
  show wpAny _ _ (dictGet d key >>= _) _ _ s
  refine wpAny_bind (get3 hu ky m ks ?_)
  rw [hp]
  exact wpAny_pure ⟨p.2, rfl, wpAny_pure q⟩
theorem setItem3 {v : Value} {Q : Unit → Shared → Prop} (hu : A.in1.units + 8 < cLine) (ky : KyIs s.heap k key) (m : Dic3 s.heap d xs) (ks : ∀ x ∈ xs, KyIs s.heap x.1 x.2.1) (sz : xs.length ≤ sizeLine)
    (q : ∀ h', Dic3 h' d (put3 xs k key v) → Heap.SameBut d s.heap h' → Q () { s with heap := h', toks := s.toks + k.draws }) : wpAny (model P w) A (setItem (.ref d) key v) Q E s := by
  unfold setItem
  try with_reducible refine wpAny_holding ?_
  refine wpAny_bind (wpAny_sequenceKey m.ty (by decide) ?_)
  refine wpAny_bind (wpAny_callSpecial?_slot (name := Str.ofString "__setitem__") m.ty slot_dict_setitem (wpAny_call_entry slot_dict_setitem m.ty entry_dict_setitem ?_ (args_dict_setitem _ _ _)))
  show wpAny _ _ (Builtin.Dict.notOrdered "__setitem__" ⟨[.ref d, key, v], []⟩ >>= _) _ _ s
  refine wpAny_bind (wpAny_notOrdered_dict m.ty ?_)
  show wpAny _ _ (dictSet d key v >>= _) _ _ s
  exact wpAny_bind (set3 hu ky m ks sz fun h' m' b => wpAny_pure ⟨.none, rfl, wpAny_pure (q h' m' b)⟩)
end
theorem meets3_get {P : Program} {w : World} (d : Addr) (key : Value) (hd : (d == sysModules) = false) (dflt : Value) :
    MeetsIn P w (Builtin.«dict.get» ⟨[.ref d, key, dflt], []⟩) (fun A R s => A.in1.units + 8 < cLine ∧ ∃ k xs, KyIs s.heap k key ∧ Dic3 s.heap d xs ∧ (∀ x ∈ xs, KyIs s.heap x.1 x.2.1) ∧ R (.ok (.ret (((look3 xs k).map (·.2)).getD dflt))) { s with toks := s.toks + k.draws }) :=
  .of_wp fun A R s ⟨hu, k, xs, ky, m, ks, q⟩ => by
    show wpAny _ _ (dictGet d key >>= _) _ _ s
    refine wpAny_bind (get3 hu ky m ks ?_)
    cases hf : (look3 xs k).map (·.2) with
    | some v =>
      rw [hf] at q
      exact wpAny_pure ⟨v, rfl, q⟩
    | none =>
      rw [hf] at q
      show wpAny _ _ (Builtin.Dict.missed d key >>= _) _ _ _
      exact wpAny_bind (wpAny_missed_other hd (wpAny_pure ⟨dflt, rfl, q⟩))
theorem get3_call {P : Program} {w : World} {A : Around} {E : Value → Shared → Prop} {s : Shared} {d : Addr} {pos : Pos} {x y : Sem Value} {Q : Value → Shared → Prop} (hu : A.in1.units + 8 < cLine) (hd : (d == sysModules) = false)
    (q : wpAny (model P w) A x (fun key s1 => wpAny (model P w) A y (fun dflt s2 => ∃ k xs, KyIs s2.heap k key ∧ Dic3 s2.heap d xs ∧ (∀ x ∈ xs, KyIs s2.heap x.1 x.2.1) ∧ Q (((look3 xs k).map (·.2)).getD dflt) { s2 with toks := s2.toks + k.draws }) E s1) E s) :
    wpAny (model P w) A (callWith pos (.builtin "dict.get") [.ref d] [(false, x), (false, y)] []) Q E s :=
  method2_meetsIn F.slot_dict_get F.entry_dict_get (wpAny_mono q (fun key _ h1 => wpAny_mono h1 (fun dflt _ h2 => by
    obtain ⟨k, xs, ky, m, ks, z⟩ := h2
    exact ⟨m.ty, F.args_dict_get_3 _ _ _, _, meets3_get d key hd dflt, hu, k, xs, ky, m, ks, z⟩) fun _ _ e => e) fun _ _ e => e)
end Bw
/-! data-level readings -/
namespace Bw
open PySem PySem.Spec PyProof.Rows L2
inductive D where
  | non | bl (b : Bool) | int (i : Int) | str (z : Str) | tup (ds : List D) | lst (ds : List D) | ptr (n : Nat) | exv (x : Str) | scr (ds : List D) | emp | dpt (n : Nat) | npt (n : Nat)
/-- what stands at a numbered address: a list, a dict -/
inductive Kd where
  | lst | dic | nst
abbrev Th := Addr × Kd
abbrev Mem := List (Option (List D))
abbrev Env := List (Option D)
inductive Rp (K : PySem.W.Frag) (G : Hp) : V → D → Prop
  | non : Rp K G .non .non
  | bl (b : Bool) : Rp K G (.bl b) (.bl b)
  | int (i : Int) : Rp K G (.int i) (.int i)
  | str (z : Str) : Rp K G (.str z) (.str z)
  | tup {a : Addr} {xs : List V} {ds : List D} (h : SqT K G a xs) (l : xs.length = ds.length) (e : ∀ (i : Nat) (v : V) (d : D), xs[i]? = some v → ds[i]? = some d → Rp K G v d) : Rp K G (.ref a) (.tup ds)
  | emp {a : Addr} (h : G a = some (.dK [])) : Rp K G (.ref a) .emp
  | scr {a : Addr} {xs : List V} {ds : List D} (h : SqL K G a xs) (l : xs.length = ds.length) (e : ∀ (i : Nat) (v : V) (d : D), xs[i]? = some v → ds[i]? = some d → Rp K G v d) : Rp K G (.ref a) (.scr ds)
  | lst {a : Addr} {xs : List V} {ds : List D} (h : G a = some (.lst xs)) (l : xs.length = ds.length) (e : ∀ (i : Nat) (v : V) (d : D), xs[i]? = some v → ds[i]? = some d → Rp K G v d) : Rp K G (.ref a) (.lst ds)
theorem seqT {K : PySem.W.Frag} {H H' : Hp} {a : Addr} {xs : List V} (e : Same H H') (h : SqT K H a xs) : SqT K H' a xs := by
  rcases h with (h | ⟨o, h⟩) | h
  · exact .inl (.inl (e _ _ h))
  · exact .inl (.inr ⟨o, e _ _ h⟩)
  · exact .inr h
theorem Rp.mono {K : PySem.W.Frag} {G G' : Hp} (s : Same G G') {v : V} {d : D} (h : Rp K G v d) : Rp K G' v d := by
  induction h with
  | non => exact .non
  | bl b => exact .bl b
  | int i => exact .int i
  | str z => exact .str z
  | tup h l e ih => exact .tup (seqT s h) l ih
  | lst h l e ih => exact .lst (s _ _ h) l ih
  | scr h l e ih => exact .scr (s.seq h) l ih
  | emp h => exact .emp (s _ _ h)
/-- lists of values and data -/
structure RpL (K : PySem.W.Frag) (G : Hp) (xs : List V) (ds : List D) : Prop where
  len : xs.length = ds.length
  get : ∀ (i : Nat) (v : V) (d : D), xs[i]? = some v → ds[i]? = some d → Rp K G v d
theorem RpL.mono {K : PySem.W.Frag} {G G' : Hp} (s : Same G G') {xs : List V} {ds : List D} (h : RpL K G xs ds) : RpL K G' xs ds := ⟨h.len, fun i v d a b => (h.get i v d a b).mono s⟩
theorem RpL.nil {K : PySem.W.Frag} {G : Hp} : RpL K G [] [] := ⟨rfl, fun i v d h => by simp at h⟩
theorem RpL.cons {K : PySem.W.Frag} {G : Hp} {v : V} {d : D} {xs : List V} {ds : List D} (h : Rp K G v d) (r : RpL K G xs ds) : RpL K G (v :: xs) (d :: ds) := by
  refine ⟨by simp [r.len], fun i w e h1 h2 => ?_⟩
  cases i with
  | zero => simp at h1 h2; subst h1; subst h2; exact h
  | succ i => exact r.get i w e (by simpa using h1) (by simpa using h2)
theorem RpL.uncons {K : PySem.W.Frag} {G : Hp} {xs : List V} {d : D} {ds : List D} (r : RpL K G xs (d :: ds)) : ∃ v ys, xs = v :: ys ∧ Rp K G v d ∧ RpL K G ys ds := by
  cases xs with
  | nil => exact absurd r.len (by simp)
  | cons v ys => exact ⟨v, ys, rfl, r.get 0 v d rfl rfl, by have := r.len; simpa using this, fun i w e h1 h2 => r.get (i + 1) w e (by simpa using h1) (by simpa using h2)⟩
theorem RpL.nil_of {K : PySem.W.Frag} {G : Hp} {xs : List V} (r : RpL K G xs []) : xs = [] := by
  cases xs with
  | nil => rfl
  | cons v ys => exact absurd r.len (by simp)
theorem RpL.append {K : PySem.W.Frag} {G : Hp} {xs ys : List V} {ds es : List D} (h : RpL K G xs ds) (r : RpL K G ys es) : RpL K G (xs ++ ys) (ds ++ es) := by
  refine ⟨by simp [h.len, r.len], fun i w e h1 h2 => ?_⟩
  by_cases hi : i < xs.length
  · rw [List.getElem?_append_left hi] at h1
    rw [List.getElem?_append_left (by rw [← h.len]; exact hi)] at h2
    exact h.get i w e h1 h2
  · rw [List.getElem?_append_right (by omega)] at h1
    rw [List.getElem?_append_right (by rw [← h.len]; omega), ← h.len] at h2
    exact r.get _ w e h1 h2
theorem RpL.at {K : PySem.W.Frag} {G : Hp} {xs : List V} {ds : List D} (r : RpL K G xs ds) {i : Nat} {d : D} (h : ds[i]? = some d) : ∃ v, xs[i]? = some v ∧ Rp K G v d := by
  have hi : i < ds.length := by
    rcases Nat.lt_or_ge i ds.length with q | q
    · exact q
    · rw [List.getElem?_eq_none q] at h; cases h
  have hx : i < xs.length := by rw [r.len]; exact hi
  exact ⟨xs[i], List.getElem?_eq_getElem hx, r.get i _ d (List.getElem?_eq_getElem hx) h⟩
theorem RpL.set {K : PySem.W.Frag} {G : Hp} {xs : List V} {ds : List D} (r : RpL K G xs ds) {j : Nat} {v : V} {d : D} (h : Rp K G v d) : RpL K G (xs.set j v) (ds.set j d) := by
  refine ⟨by simp [r.len], fun i w e h1 h2 => ?_⟩
  by_cases hj : j = i
  · subst hj
    rw [List.getElem?_set_self'] at h1 h2
    cases e1 : xs[j]? with
    | none => rw [e1] at h1; cases h1
    | some a =>
      cases e2 : ds[j]? with
      | none => rw [e2] at h2; cases h2
      | some b =>
        rw [e1] at h1; rw [e2] at h2
        simp at h1 h2; subst h1; subst h2; exact h
  · rw [List.getElem?_set_ne hj] at h1 h2
    exact r.get i w e h1 h2
/-- at a an error of the class cls, without a dict of its own -/
def ExQ (cls : Value) (a : Addr) : HO := .ext fun h => ∃ (oe : Obj) (vs : Array Value), h.get? a = some oe ∧ Zc cls none oe ∧ oe.data = .fields vs
/-- a value: data, or a mutable list by its number, or an error by its class's name -/
inductive Rv (K : PySem.W.Frag) (θ : List Th) (G : Hp) : V → D → Prop
  | dat {v : V} {d : D} (h : Rp K G v d) : Rv K θ G v d
  | ptr {n : Nat} {a : Addr} (h : θ[n]? = some (a, .lst)) : Rv K θ G (.ref a) (.ptr n)
  | dpt {n : Nat} {a : Addr} (h : θ[n]? = some (a, .dic)) : Rv K θ G (.ref a) (.dpt n)
  | npt {n : Nat} {a : Addr} (h : θ[n]? = some (a, .nst)) : Rv K θ G (.ref a) (.npt n)
  | exv {x : Str} {a C : Addr} (hn : PySem.W.nsIn K mainGlobals x = some (some (.ref C))) (h : G a = some (ExQ (.ref C) a)) : Rv K θ G (.ref a) (.exv x)
theorem pre_get {θ θ' : List Th} (p : θ <+: θ') {n : Nat} {a : Th} (h : θ[n]? = some a) : θ'[n]? = some a := by
  obtain ⟨r, rfl⟩ := p
  have hn : n < θ.length := by
    rcases Nat.lt_or_ge n θ.length with q | q
    · exact q
    · rw [List.getElem?_eq_none q] at h; cases h
  rw [List.getElem?_append_left hn]; exact h
theorem Rv.mono {K : PySem.W.Frag} {θ θ' : List Th} {G G' : Hp} (p : θ <+: θ') (s : Same G G') {v : V} {d : D} (h : Rv K θ G v d) : Rv K θ' G' v d := by
  cases h with
  | dat h => exact .dat (h.mono s)
  | ptr h => exact .ptr (pre_get p h)
  | dpt h => exact .dpt (pre_get p h)
  | npt h => exact .npt (pre_get p h)
  | exv hn h => exact .exv hn (s _ _ h)
structure RvL (K : PySem.W.Frag) (θ : List Th) (G : Hp) (xs : List V) (ds : List D) : Prop where
  len : xs.length = ds.length
  get : ∀ (i : Nat) (v : V) (d : D), xs[i]? = some v → ds[i]? = some d → Rv K θ G v d
theorem RvL.mono {K : PySem.W.Frag} {θ θ' : List Th} {G G' : Hp} (p : θ <+: θ') (s : Same G G') {xs : List V} {ds : List D} (h : RvL K θ G xs ds) : RvL K θ' G' xs ds := ⟨h.len, fun i v d a b => (h.get i v d a b).mono p s⟩
theorem RvL.same {K : PySem.W.Frag} {θ : List Th} {G G' : Hp} (s : Same G G') {xs : List V} {ds : List D} (h : RvL K θ G xs ds) : RvL K θ G' xs ds := h.mono (List.prefix_refl _) s
/-- keys of dicts, as data -/
def intsD : List D → Option (List Int)
  | [] => some []
  | .int i :: r => (intsD r).map (i :: ·)
  | _ :: _ => none
def keyN : D → Option NK
  | .non => some .none
  | .int i => some (.num i)
  | .tup ds => (intsD ds).map fun is => .tup (is.map .num)
  | _ => none
abbrev VE := List (NK × V × V)
abbrev DEs := List (D × D)
/-- a dict of these keys and values stands at a -/
def DH (a : Addr) (es : VE) : HO := .ext fun h => (a == sysModules) = false ∧ es.length ≤ sizeLine ∧ ∃ rows : R3, Paired (fun (p : NK × V × V) (q : NK × Value × Value) => p.1 = q.1 ∧ RelV p.2.1 q.2.1 ∧ RelV p.2.2 q.2.2) es rows ∧ Dic3 h a rows
def RpE (K : PySem.W.Frag) (G : Hp) : VE → DEs → Prop := Paired fun (p : NK × V × V) (q : D × D) => keyN q.1 = some p.1 ∧ Rp K G p.2.1 q.1 ∧ Rp K G p.2.2 q.2
theorem RpE.mono {K : PySem.W.Frag} {G G' : Hp} (s : Same G G') {xs : VE} {es : DEs} (h : RpE K G xs es) : RpE K G' xs es := Paired.mapP h fun p q z => ⟨z.1, z.2.1.mono s, z.2.2.mono s⟩
/-- a dict's cell: whether it is locked, its pairs -/
def enc (b : Bool) (es : DEs) : List D := .bl b :: es.map fun q => .tup [q.1, q.2]
/-- a locked dict is known for good, another one stands in the heap alone -/
def DicAt (G H : Hp) (a : Addr) (b : Bool) (xs : VE) : Prop := if b = true then ∃ o, G a = some (.frz o (DH a xs)) else G a = none ∧ H a = some (DH a xs)
theorem DicAt.keep {G G' H H' : Hp} {a : Addr} {b : Bool} {xs : VE} (h : DicAt G H a b xs) (s : Same G G') (g : G a = none → G' a = none) (e : H' a = H a) : DicAt G' H' a b xs := by
  unfold DicAt at h ⊢
  cases b with
  | true => obtain ⟨o, h⟩ := h; exact ⟨o, s _ _ h⟩
  | false => exact ⟨g h.1, e.trans h.2⟩
/-- the heap -/
structure Rs (K : PySem.W.Frag) (θ : List Th) (G H : Hp) (M : Mem) : Prop where
  sub : Same G H
  len : θ.length = M.length
  nd : (θ.map (·.1)).Nodup
  live : ∀ (n : Nat) (t : Th), θ[n]? = some t → H t.1 ≠ none
  mem : ∀ (n : Nat) (a : Addr) (ds : List D), θ[n]? = some (a, .lst) → M[n]? = some (some ds) → G a = none ∧ ∃ xs, H a = some (.lst xs) ∧ RpL K G xs ds
  dic : ∀ (n : Nat) (a : Addr) (b : Bool) (es : DEs), θ[n]? = some (a, .dic) → M[n]? = some (some (enc b es)) → ∃ xs, DicAt G H a b xs ∧ RpE K G xs es
  nst : ∀ (n : Nat) (a : Addr) (ds : List D), θ[n]? = some (a, .nst) → M[n]? = some (some ds) → G a = none ∧ ∃ xs, H a = some (.lst xs) ∧ RvL K (θ.take n) G xs ds
theorem Rs.inj {K : PySem.W.Frag} {θ : List Th} {G H : Hp} {M : Mem} (r : Rs K θ G H M) {n m : Nat} {t u : Th} (h1 : θ[n]? = some t) (h2 : θ[m]? = some u) (e : t.1 = u.1) : n = m := by
  have a1 : (θ.map (·.1))[n]? = some t.1 := by rw [List.getElem?_map, h1]; rfl
  have a2 : (θ.map (·.1))[m]? = some u.1 := by rw [List.getElem?_map, h2]; rfl
  exact (List.getElem?_inj (List.getElem?_eq_some_iff.mp a1).1 r.nd).mp (a1.trans (e ▸ a2.symm))
theorem enc_inj {b b2 : Bool} {es es2 : DEs} (e : enc b es = enc b2 es2) : b = b2 ∧ es = es2 := by
  unfold enc at e
  injection e with e1 e2
  injection e1 with e1
  refine ⟨e1, ?_⟩
  have inj : ∀ p q : D × D, D.tup [p.1, p.2] = D.tup [q.1, q.2] → p = q := fun p q z => by
    injection z with z
    injection z with z1 z
    injection z with z2 z
    exact Prod.ext z1 z2
  have : ∀ l l2 : DEs, l.map (fun q => D.tup [q.1, q.2]) = l2.map (fun q => D.tup [q.1, q.2]) → l = l2 := by
    intro l
    induction l with
    | nil => intro l2 z; cases l2 with
      | nil => rfl
      | cons => cases z
    | cons p l ih => intro l2 z; cases l2 with
      | nil => cases z
      | cons q l2 =>
        rw [List.map_cons, List.map_cons] at z
        injection z with z1 z2
        rw [inj p q z1, ih l2 z2]
  exact this es es2 e2
/-- the slots -/
structure Rσ (K : PySem.W.Frag) (θ : List Th) (G : Hp) (σ : L2.St) (ρ : Env) : Prop where
  len : σ.length = ρ.length
  get : ∀ (i : Nat) (d : D), ρ[i]? = some (some d) → ∃ v, σ[i]? = some (some v) ∧ Rv K θ G v d
theorem Rσ.mono {K : PySem.W.Frag} {θ θ' : List Th} {G G' : Hp} (p : θ <+: θ') (s : Same G G') {σ : L2.St} {ρ : Env} (h : Rσ K θ G σ ρ) : Rσ K θ' G' σ ρ :=
  ⟨h.len, fun i d e => by obtain ⟨v, a, b⟩ := h.get i d e; exact ⟨v, a, b.mono p s⟩⟩
theorem Rσ.set {K : PySem.W.Frag} {θ : List Th} {G : Hp} {σ : L2.St} {ρ : Env} (h : Rσ K θ G σ ρ) {i : Nat} {v : V} {d : D} (r : Rv K θ G v d) : Rσ K θ G (σ.set i (some v)) (ρ.set i (some d)) := by
  refine ⟨by simp [h.len], fun j e hj => ?_⟩
  by_cases hij : i = j
  · subst hij
    rw [List.getElem?_set_self'] at hj ⊢
    cases e1 : ρ[i]? with
    | none => rw [e1] at hj; cases hj
    | some a =>
      rw [e1] at hj
      simp at hj; subst hj
      have hi : i < σ.length := by
        rw [h.len]
        rcases Nat.lt_or_ge i ρ.length with q | q
        · exact q
        · rw [List.getElem?_eq_none q] at e1; cases e1
      rw [List.getElem?_eq_getElem hi]
      exact ⟨v, rfl, r⟩
  · rw [List.getElem?_set_ne hij] at hj ⊢
    exact h.get j e hj
theorem Rσ.start {K : PySem.W.Frag} {θ : List Th} {G : Hp} {N : List Str} {vs : List V} {ds : List D} (l : vs.length = ds.length) (h : ∀ (i : Nat) (v : V) (d : D), vs[i]? = some v → ds[i]? = some d → Rv K θ G v d) (k : Nat) (hk : k = N.length - ds.length) :
    Rσ K θ G (L2.start N vs) (ds.map some ++ List.replicate k none) := by
  unfold L2.start
  refine ⟨by simp [l, hk], fun i d hi => ?_⟩
  by_cases q : i < ds.length
  · rw [List.getElem?_append_left (by simpa using q)] at hi
    rw [List.getElem?_append_left (by simpa [l] using q)]
    rw [List.getElem?_map, List.getElem?_eq_getElem q] at hi
    rw [List.getElem?_map, List.getElem?_eq_getElem (by rw [l]; exact q)]
    simp at hi; subst hi
    exact ⟨_, rfl, h i _ _ (List.getElem?_eq_getElem (by rw [l]; exact q)) (List.getElem?_eq_getElem q)⟩
  · rw [List.getElem?_append_right (by simpa using q), List.getElem?_replicate] at hi
    split at hi <;> cases hi
/-! ### a new object, a store -/
theorem Rs.fresh {K : PySem.W.Frag} {θ : List Th} {G H : Hp} {M : Mem} (r : Rs K θ G H M) {p : Addr} (hp : H p = none) : G p = none := by
  cases e : G p with
  | none => rfl
  | some o => rw [r.sub _ _ e] at hp; cases hp
theorem same_upd {H : Hp} {p : Addr} {o : HO} (h : H p = none) : Same H (upd H p o) := fun b x e => by
  rw [upd_ne (ne_of_none e h)]
  exact e
theorem live_upd {H : Hp} {a p : Addr} {o : HO} (h : H a ≠ none) : (upd H p o) a ≠ none := by
  by_cases q : a = p
  · subst q; rw [upd_same]; exact fun z => by cases z
  · rw [upd_ne q]; exact h
/-- an immutable thing laid -/
theorem Rs.laid {K : PySem.W.Frag} {θ : List Th} {G H : Hp} {M : Mem} (r : Rs K θ G H M) {p : Addr} (hp : H p = none) (o : HO) : Rs K θ (upd G p o) (upd H p o) M := by
  have ne : ∀ (n : Nat) (t : Th), θ[n]? = some t → t.1 ≠ p := fun n t h z => r.live n t h (by rw [z]; exact hp)
  refine ⟨fun b x e => ?_, r.len, r.nd, fun n a h => live_upd (r.live n a h), fun n a ds h1 h2 => ?_, fun n a b es h1 h2 => ?_, fun n a ds h1 h2 => ?_⟩
  · by_cases hb : b = p
    · subst hb; rw [upd_same] at e ⊢; exact e
    · rw [upd_ne hb] at e ⊢; exact r.sub _ _ e
  · obtain ⟨g, xs, hx, rl⟩ := r.mem n a ds h1 h2
    have ha : a ≠ p := ne n _ h1
    refine ⟨by rw [upd_ne ha]; exact g, xs, by rw [upd_ne ha]; exact hx, rl.mono (same_upd (r.fresh hp))⟩
  · obtain ⟨xs, hx, rl⟩ := r.dic n a b es h1 h2
    have ha : a ≠ p := ne n _ h1
    exact ⟨xs, hx.keep (same_upd (r.fresh hp)) (fun g => by rw [upd_ne ha]; exact g) (upd_ne ha), rl.mono (same_upd (r.fresh hp))⟩
  · obtain ⟨g, xs, hx, rl⟩ := r.nst n a ds h1 h2
    have ha : a ≠ p := ne n _ h1
    exact ⟨by rw [upd_ne ha]; exact g, xs, by rw [upd_ne ha]; exact hx, rl.same (same_upd (r.fresh hp))⟩
/-- a numbered thing laid -/
theorem Rs.laidT {K : PySem.W.Frag} {θ : List Th} {G H : Hp} {M : Mem} (r : Rs K θ G H M) {p : Addr} (hp : H p = none) {k : Kd} {o : HO} {c : Option (List D)}
    (hm : ∀ ds, k = .lst → c = some ds → ∃ xs, o = .lst xs ∧ RpL K G xs ds) (hd : ∀ b es, k = .dic → c = some (enc b es) → b = false ∧ ∃ xs, o = DH p xs ∧ RpE K G xs es) (hn : ∀ ds, k = .nst → c = some ds → ∃ xs, o = .lst xs ∧ RvL K θ G xs ds) :
    Rs K (θ ++ [(p, k)]) G (upd H p o) (M ++ [c]) := by
  have ne : ∀ (n : Nat) (t : Th), θ[n]? = some t → t.1 ≠ p := fun n t h z => r.live n t h (by rw [z]; exact hp)
  have at_ : ∀ (n : Nat) (t : Th), (θ ++ [(p, k)])[n]? = some t → θ[n]? = some t ∨ (n = θ.length ∧ t = (p, k)) := fun n t h => by
    by_cases hn : n < θ.length
    · rw [List.getElem?_append_left hn] at h; exact .inl h
    · rw [List.getElem?_append_right (by omega)] at h
      have : n - θ.length = 0 := by
        rcases Nat.eq_zero_or_pos (n - θ.length) with q | q
        · exact q
        · rw [List.getElem?_eq_none (by simp; omega)] at h; cases h
      rw [this] at h
      simp at h
      exact .inr ⟨by omega, h.symm⟩
  have inM : ∀ (n : Nat) (t : Th), θ[n]? = some t → (M ++ [c])[n]? = M[n]? := fun n t h => List.getElem?_append_left (by rw [← r.len]; exact (List.getElem?_eq_some_iff.mp h).1)
  have lastM : (M ++ [c])[θ.length]? = some c := by rw [r.len, List.getElem?_append_right (Nat.le_refl _), Nat.sub_self]; rfl
  refine ⟨fun b x e => same_upd hp _ _ (r.sub _ _ e), by simp [r.len], ?_, fun n t h => ?_, fun n a es h1 h2 => ?_, fun n a b es h1 h2 => ?_, fun n a es h1 h2 => ?_⟩
  · rw [List.map_append, List.nodup_append]
    refine ⟨r.nd, by simp, fun a ha b hb => ?_⟩
    simp at hb; subst hb
    rintro rfl
    obtain ⟨t, ht, e⟩ := List.mem_map.mp ha
    obtain ⟨n, hn⟩ := List.mem_iff_getElem?.mp ht
    exact ne n t hn e
  · rcases at_ n t h with h | ⟨_, h⟩
    · exact live_upd (r.live n t h)
    · subst h
      show upd H p o p ≠ none
      rw [upd_same]; exact fun z => by cases z
  · rcases at_ n _ h1 with h | ⟨hn, h⟩
    · rw [inM n _ h] at h2
      obtain ⟨g, ys, hy, rl⟩ := r.mem n a es h h2
      exact ⟨g, ys, by rw [upd_ne (ne n _ h)]; exact hy, rl⟩
    · injection h with e1 e2
      subst e1; subst hn
      rw [lastM] at h2
      obtain ⟨xs, e3, rl⟩ := hm es e2.symm (Option.some.inj h2)
      exact ⟨r.fresh hp, xs, by rw [upd_same, e3], rl⟩
  · rcases at_ n _ h1 with h | ⟨hn, h⟩
    · rw [inM n _ h] at h2
      obtain ⟨ys, hy, rl⟩ := r.dic n a b es h h2
      exact ⟨ys, hy.keep (Same.refl _) (fun g => g) (upd_ne (ne n _ h)), rl⟩
    · injection h with e1 e2
      subst e1; subst hn
      rw [lastM] at h2
      obtain ⟨e4, xs, e3, rl⟩ := hd b es e2.symm (Option.some.inj h2)
      subst e4
      exact ⟨xs, ⟨r.fresh hp, by rw [upd_same, e3]⟩, rl⟩
  · have tk : ∀ n, n ≤ θ.length → (θ ++ [(p, k)]).take n = θ.take n := fun n h => List.take_append_of_le_length h
    rcases at_ n _ h1 with h | ⟨hn', h⟩
    · rw [inM n _ h] at h2
      obtain ⟨g, ys, hy, rl⟩ := r.nst n a es h h2
      refine ⟨g, ys, by rw [upd_ne (ne n _ h)]; exact hy, ?_⟩
      rw [tk n (Nat.le_of_lt (List.getElem?_eq_some_iff.mp h).1)]; exact rl
    · injection h with e1 e2
      subst e1; subst hn'
      rw [lastM] at h2
      obtain ⟨xs, e3, rl⟩ := hn es e2.symm (Option.some.inj h2)
      refine ⟨r.fresh hp, xs, by rw [upd_same, e3], ?_⟩
      rw [tk _ (Nat.le_refl _), List.take_length]; exact rl
/-- a mutable list laid -/
theorem Rs.laidM {K : PySem.W.Frag} {θ : List Th} {G H : Hp} {M : Mem} (r : Rs K θ G H M) {p : Addr} (hp : H p = none) {xs : List V} {ds : List D} (h : RpL K G xs ds) :
    Rs K (θ ++ [(p, .lst)]) G (upd H p (.lst xs)) (M ++ [some ds]) := r.laidT hp (fun es _ e => ⟨xs, rfl, by cases e; exact h⟩) (fun b es e _ => by cases e) fun ds e _ => by cases e
/-- a dict laid -/
theorem Rs.laidD {K : PySem.W.Frag} {θ : List Th} {G H : Hp} {M : Mem} (r : Rs K θ G H M) {p : Addr} (hp : H p = none) : Rs K (θ ++ [(p, .dic)]) G (upd H p (DH p [])) (M ++ [some (enc false [])]) :=
  r.laidT hp (fun es e _ => by cases e) (fun b es _ e => by
    obtain ⟨e1, e2⟩ := enc_inj (Option.some.inj e)
    subst e1; subst e2
    exact ⟨rfl, [], rfl, .nil⟩) fun ds e _ => by cases e
/-- a list that holds lists, laid -/
theorem Rs.laidN {K : PySem.W.Frag} {θ : List Th} {G H : Hp} {M : Mem} (r : Rs K θ G H M) {p : Addr} (hp : H p = none) {xs : List V} {ds : List D} (h : RvL K θ G xs ds) :
    Rs K (θ ++ [(p, .nst)]) G (upd H p (.lst xs)) (M ++ [some ds]) := r.laidT hp (fun es e _ => by cases e) (fun b es e _ => by cases e) fun es _ e => ⟨xs, rfl, by cases e; exact h⟩
end Bw
namespace Bw
open PySem PySem.Spec PyProof.Rows L2
/-- a wish of an error, by its class's name -/
abbrev WN := Str → L2.St → Hp → Prop
inductive Res (α : Type) where
  | ok (a : α) | exc (C : Str)
abbrev Ev (α : Type) := Env → Mem → Option (Res α × Mem)
def ret {α : Type} (a : α) : Ev α := fun _ M => some (.ok a, M)
def stk {α : Type} : Ev α := fun _ _ => none
def bnd {α β : Type} (f : Ev α) (g : α → Ev β) : Ev β := fun ρ M =>
  match f ρ M with
  | some (.ok a, M1) => g a ρ M1
  | some (.exc C, M1) => some (.exc C, M1)
  | none => none
abbrev Rd' (A B : Type) := List Th → Hp → A → B → Prop
/-- a reading t and what it gives, f, from θ0, G0 on -/
def Snd (K : PySem.W.Frag) (W : WN) {A α : Type} (R : List Th → Hp → A → α → Prop) (θ0 : List Th) (G0 : Hp) (t : L2.St → Hp → (A → Hp → Prop) → Prop) (f : Ev α) : Prop :=
  ∀ (ρ : Env) (M : Mem) (r : Res α) (M' : Mem) (θ : List Th) (G : Hp) (σ : L2.St) (H : Hp) (Q : A → Hp → Prop), θ0 <+: θ → Same G0 G → f ρ M = some (r, M') → Rs K θ G H M → Rσ K θ G σ ρ →
    (∀ (θ' : List Th) (G' H' : Hp), θ <+: θ' → Same G G' → Rs K θ' G' H' M' → (∀ C, r = .exc C → W C σ H') ∧ (∀ d v, r = .ok d → R θ' G' v d → Q v H')) → t σ H Q
section
variable {K : PySem.W.Frag} {W : WN} {A B α β : Type} {R : List Th → Hp → A → α → Prop} {R2 : List Th → Hp → B → β → Prop} {θ0 θ1 : List Th} {G0 G1 : Hp}
theorem Snd.mono {t : L2.St → Hp → (A → Hp → Prop) → Prop} {f : Ev α} (h : Snd K W R θ0 G0 t f) (p : θ0 <+: θ1) (s : Same G0 G1) : Snd K W R θ1 G1 t f :=
  fun ρ M r M' θ G σ H Q p' s' e rs rv k => h ρ M r M' θ G σ H Q (p.trans p') (s.trans s') e rs rv k
theorem Snd.bind {t : L2.St → Hp → (A → Hp → Prop) → Prop} {f : Ev α} {k : A → L2.St → Hp → (B → Hp → Prop) → Prop} {g : α → Ev β} (h : Snd K W R θ0 G0 t f)
    (h2 : ∀ θ G v d, θ0 <+: θ → Same G0 G → R θ G v d → Snd K W R2 θ G (k v) (g d)) : Snd K W R2 θ0 G0 (fun σ H Q => t σ H fun v H1 => k v σ H1 Q) (bnd f g) := by
  intro ρ M r M' θ G σ H Q p s e rs rv kk
  unfold bnd at e
  cases q : f ρ M with
  | none => rw [q] at e; cases e
  | some z =>
    obtain ⟨r1, M1⟩ := z
    rw [q] at e
    refine h ρ M r1 M1 θ G σ H _ p s q rs rv fun θ' G' H' p' s' rs' => ?_
    cases r1 with
    | exc C =>
      simp at e
      obtain ⟨e1, e2⟩ := e
      subst e1; subst e2
      exact ⟨fun C' h => (kk θ' G' H' p' s' rs').1 C' (by cases h; rfl), fun d v h => by cases h⟩
    | ok a =>
      refine ⟨fun C' h => (by cases h), fun d v h rel => ?_⟩
      cases h
      exact h2 θ' G' v a (p.trans p') (s.trans s') rel ρ M1 r M' θ' G' σ H' Q (List.prefix_refl _) (Same.refl _) e rs' (rv.mono p' s')
        fun θ2 G2 H2 p2 s2 rs2 => kk θ2 G2 H2 (p'.trans p2) (s'.trans s2) rs2
theorem Snd.ret {v : A} {d : α} (h : ∀ θ G, θ0 <+: θ → Same G0 G → R θ G v d) : Snd K W R θ0 G0 (fun _ H Q => Q v H) (ret d) := by
  intro ρ M r M' θ G σ H Q p s e rs rv kk
  unfold Bw.ret at e
  simp at e
  obtain ⟨e1, e2⟩ := e
  subst e1; subst e2
  exact (kk θ G H (List.prefix_refl _) (Same.refl _) rs).2 d v rfl (h θ G p s)
theorem Snd.stk {t : L2.St → Hp → (A → Hp → Prop) → Prop} : Snd K W R θ0 G0 t (stk (α := α)) := by
  intro ρ M r M' θ G σ H Q p s e
  cases e
theorem Snd.of_eq {t t' : L2.St → Hp → (A → Hp → Prop) → Prop} {f : Ev α} (h : Snd K W R θ0 G0 t f) (e : t = t') : Snd K W R θ0 G0 t' f := e ▸ h
end
/-! ### the relations -/
abbrev RV (K : PySem.W.Frag) : List Th → Hp → V → D → Prop := fun θ G v d => Rv K θ G v d
abbrev RB : List Th → Hp → Bool → Bool → Prop := fun _ _ b c => b = c
abbrev RL (K : PySem.W.Frag) : List Th → Hp → List V → List D → Prop := fun θ G v d => RvL K θ G v d
theorem RvL.nil {K : PySem.W.Frag} {θ : List Th} {G : Hp} : RvL K θ G [] [] := ⟨rfl, fun i v d h => by simp at h⟩
theorem RvL.cons {K : PySem.W.Frag} {θ : List Th} {G : Hp} {v : V} {d : D} {xs : List V} {ds : List D} (h : Rv K θ G v d) (r : RvL K θ G xs ds) : RvL K θ G (v :: xs) (d :: ds) := by
  refine ⟨by simp [r.len], fun i w e h1 h2 => ?_⟩
  cases i with
  | zero => simp at h1 h2; subst h1; subst h2; exact h
  | succ i => exact r.get i w e (by simpa using h1) (by simpa using h2)
theorem RvL.uncons {K : PySem.W.Frag} {θ : List Th} {G : Hp} {xs : List V} {d : D} {ds : List D} (r : RvL K θ G xs (d :: ds)) : ∃ v ys, xs = v :: ys ∧ Rv K θ G v d ∧ RvL K θ G ys ds := by
  cases xs with
  | nil => exact absurd r.len (by simp)
  | cons v ys => exact ⟨v, ys, rfl, r.get 0 v d rfl rfl, by have := r.len; simpa using this, fun i w e h1 h2 => r.get (i + 1) w e (by simpa using h1) (by simpa using h2)⟩
theorem RvL.nil_of {K : PySem.W.Frag} {θ : List Th} {G : Hp} {xs : List V} (r : RvL K θ G xs []) : xs = [] := by
  cases xs with
  | nil => rfl
  | cons v ys => exact absurd r.len (by simp)
/-- no pointers -/
def D.np : D → Bool
  | .ptr _ => false
  | .exv _ => false
  | .dpt _ => false
  | .npt _ => false
  | _ => true
theorem Rv.rp {K : PySem.W.Frag} {θ : List Th} {G : Hp} {v : V} {d : D} (h : Rv K θ G v d) (n : d.np = true) : Rp K G v d := by
  cases h with
  | dat h => exact h
  | ptr h => cases n
  | exv _ h => cases n
  | dpt h => cases n
  | npt h => cases n
theorem RvL.rp {K : PySem.W.Frag} {θ : List Th} {G : Hp} {xs : List V} {ds : List D} (h : RvL K θ G xs ds) (n : ds.all D.np = true) : RpL K G xs ds :=
  ⟨h.len, fun i v d a b => (h.get i v d a b).rp (by rw [List.all_eq_true] at n; exact n d (List.mem_of_getElem? b))⟩
/-! ### expressions -/
def DE (X : Cx) (W : WN) (e : Expr) (f : Ev D) : Prop := ∃ t, PE X e t ∧ ∀ θ G, Snd X.K W (RV X.K) θ G t f
def DT (X : Cx) (W : WN) (e : Expr) (f : Ev Bool) : Prop := ∃ t, PT X e t ∧ ∀ θ G, Snd X.K W RB θ G t f
def DW (X : Cx) (W : WN) (e : Expr) (f : Ev Bool) : Prop := ∃ t, PW X e t ∧ ∀ θ G, Snd X.K W RB θ G t f
def DA (X : Cx) (W : WN) (es : List Expr) (f : Ev (List D)) : Prop := ∃ t, PA X es t ∧ ∀ θ G, Snd X.K W (RL X.K) θ G t f
section
variable {X : Cx} {W : WN} {pos : Pos}
def dVar (i : Nat) : Ev D := fun ρ M => match ρ[i]? with
  | some (some d) => some (.ok d, M)
  | _ => none
theorem de_var (i : Nat) {x : Str} (hN : X.N[i]? = some x := by rfl) (hv : Vis X.env.scope x := by first | exact Or.inl rfl | exact Or.inr (Or.inl rfl) | exact Or.inr (Or.inr rfl)) (hd : (x == ("__debug__" : Str)) = false := by decide)
    (hcd : (x == ("__classdict__" : Str)) = false := by decide) : DE X W (.Name x pos) (dVar i) := by
  refine ⟨tVar i, pe_var hN hv hd hcd, fun θ0 G0 ρ M r M' θ G σ H Q p s e rs rv kk => ?_⟩
  unfold dVar at e
  cases q : ρ[i]? with
  | none => rw [q] at e; cases e
  | some z =>
    cases z with
    | none => rw [q] at e; cases e
    | some d =>
      rw [q] at e
      simp at e
      obtain ⟨e1, e2⟩ := e
      subst e1; subst e2
      obtain ⟨v, hv, r⟩ := rv.get i d q
      exact ⟨v, hv, (kk θ G H (List.prefix_refl _) (Same.refl _) rs).2 d v rfl r⟩
theorem snd_c {K : PySem.W.Frag} {θ : List Th} {G : Hp} {v : V} {d : D} (h : ∀ G, Rp K G v d) : Snd K W (RV K) θ G (tC v) (ret d) := Snd.ret fun _ G _ _ => .dat (h G)
theorem de_int {i : Int} {j : Nat} : DE X W (.Constant (.int i) j pos) (ret (.int i)) := ⟨_, pe_int, fun _ _ => snd_c fun _ => .int i⟩
theorem de_bl {b : Bool} {j : Nat} : DE X W (.Constant (.bool b) j pos) (ret (.bl b)) := ⟨_, pe_bl, fun _ _ => snd_c fun _ => .bl b⟩
theorem de_non {j : Nat} : DE X W (.Constant .none j pos) (ret .non) := ⟨_, pe_non, fun _ _ => snd_c fun _ => .non⟩
theorem de_str {z : Str} {j : Nat} : DE X W (.Constant (.str z) j pos) (ret (.str z)) := ⟨_, pe_str, fun _ _ => snd_c fun _ => .str z⟩
/-- by two values -/
def SndO (K : PySem.W.Frag) (W : WN) (r : R2) (o : D → D → Ev D) : Prop := ∀ θ G x y d e, Rv K θ G x d → Rv K θ G y e → Snd K W (RV K) θ G (fun _ H Q => r x y H Q) (o d e)
theorem snd_op {K : PySem.W.Frag} {r : R2} {o : D → D → Ev D} {ta tb : TE} {f g : Ev D} (h : SndO K W r o) {θ : List Th} {G : Hp} (ha : ∀ θ G, Snd K W (RV K) θ G ta f) (hb : ∀ θ G, Snd K W (RV K) θ G tb g) :
    Snd K W (RV K) θ G (tOp r ta tb) (bnd f fun d => bnd g fun e => o d e) :=
  (ha θ G).bind (k := fun x σ H1 Q => tb σ H1 fun y H2 => r x y H2 Q) fun θ1 G1 v d _ _ hv => (hb θ1 G1).bind (k := fun y σ H2 Q => r v y H2 Q) fun θ2 G2 u e p s hu => h θ2 G2 v u d e (hv.mono p s) hu
theorem de_op {op : Operator} {r : R2} {o : D → D → Ev D} {a b : Expr} {f g : Ev D} (ho : OpR X (binaryOp op) r) (so : SndO X.K W r o) (ha : DE X W a f) (hb : DE X W b g) : DE X W (.BinOp a op b pos) (bnd f fun d => bnd g fun e => o d e) := by
  obtain ⟨ta, pa, sa⟩ := ha
  obtain ⟨tb, pb, sb⟩ := hb
  exact ⟨_, pe_op ho pa pb, fun θ G => snd_op so sa sb⟩
theorem de_cmp {op : CmpOp} {r : R2} {o : D → D → Ev D} {a b : Expr} {f g : Ev D} (ho : OpR X (compareOp op) r) (so : SndO X.K W r o) (ha : DE X W a f) (hb : DE X W b g) (hm : behindInMarks op b = false) : DE X W (.Compare a [op] [b] pos) (bnd f fun d => bnd g fun e => o d e) := by
  obtain ⟨ta, pa, sa⟩ := ha
  obtain ⟨tb, pb, sb⟩ := hb
  exact ⟨_, pe_cmpR ho pa pb hm, fun θ G => snd_op so sa sb⟩
/-- a bool as a test -/
def asB (d : D) : Ev Bool := match d with
  | .bl b => ret b
  | _ => stk
theorem snd_tB {K : PySem.W.Frag} {t : TE} {f : Ev D} (h : ∀ θ G, Snd K W (RV K) θ G t f) (θ : List Th) (G : Hp) : Snd K W RB θ G (tB t) (bnd f asB) := by
  refine (h θ G).bind (k := fun x _ H1 Q => ∃ c, x = .bl c ∧ Q c H1) fun θ1 G1 v d _ _ hv => ?_
  cases d with
  | bl b =>
    cases hv with
    | dat hv =>
      cases hv
      intro ρ M r M' θ G σ H Q p s e rs rv kk
      exact ⟨b, rfl, Snd.ret (K := K) (W := W) (R := RB) (θ0 := θ1) (G0 := G1) (v := b) (d := b) (fun _ _ _ _ => rfl) ρ M r M' θ G σ H Q p s e rs rv kk⟩
  | _ => exact Snd.stk
theorem dt_val {e : Expr} {f : Ev D} (h : DE X W e f) (he : ∀ whole, isTrue e X.env whole = (do let v ← whole; standAt e.pos; holding [v] (truthy v)) := by intro _; rfl) : DT X W e (bnd f asB) := by
  obtain ⟨t, p, s⟩ := h
  exact ⟨_, pt_val p he, snd_tB s⟩
theorem dt_cmp {op : CmpOp} {r : R2} {o : D → D → Ev D} {a b : Expr} {f g : Ev D} (ho : OpR X (compareOp op) r) (so : SndO X.K W r o) (ha : DE X W a f) (hb : DE X W b g) (hm : behindInMarks op b = false) : DT X W (.Compare a [op] [b] pos) (bnd (bnd f fun d => bnd g fun e => o d e) asB) := by
  obtain ⟨ta, pa, sa⟩ := ha
  obtain ⟨tb, pb, sb⟩ := hb
  exact ⟨_, pt_cmpR ho pa pb hm, snd_tB fun θ G => snd_op so sa sb⟩
/-! tests -/
def dAnd (f g : Ev Bool) : Ev Bool := bnd f fun c => if c = true then g else ret false
def dOr (f g : Ev Bool) : Ev Bool := bnd f fun c => if c = true then ret true else g
def dNot (f : Ev Bool) : Ev Bool := bnd f fun c => ret (!c)
theorem snd_b {K : PySem.W.Frag} {θ : List Th} {G : Hp} {b : Bool} : Snd K W RB θ G (fun _ H Q => Q b H) (ret b) := Snd.ret fun _ _ _ _ => rfl
theorem dw_and1 {a : Expr} {f : Ev Bool} (h : DT X W a f) : DW X W (.BoolOp .And [a] pos) f := by obtain ⟨t, p, s⟩ := h; exact ⟨_, pw_and1 p, s⟩
theorem dw_or1 {a : Expr} {f : Ev Bool} (h : DT X W a f) : DW X W (.BoolOp .Or [a] pos) f := by obtain ⟨t, p, s⟩ := h; exact ⟨_, pw_or1 p, s⟩
theorem dw_and {a b : Expr} {rest : List Expr} {f g : Ev Bool} (h : DT X W a f) (h2 : DW X W (.BoolOp .And (b :: rest) pos) g) : DW X W (.BoolOp .And (a :: b :: rest) pos) (dAnd f g) := by
  obtain ⟨t, p, s⟩ := h
  obtain ⟨u, p2, s2⟩ := h2
  refine ⟨_, pw_and p p2, fun θ G => (s θ G).bind (k := fun c σ H1 Q => if c = true then u σ H1 Q else Q false H1) fun θ1 G1 v d _ _ hv => ?_⟩
  cases hv
  cases v with
  | true => simpa using s2 θ1 G1
  | false => simpa using snd_b (K := X.K) (W := W) (θ := θ1) (G := G1) (b := false)
theorem dw_or {a b : Expr} {rest : List Expr} {f g : Ev Bool} (h : DT X W a f) (h2 : DW X W (.BoolOp .Or (b :: rest) pos) g) : DW X W (.BoolOp .Or (a :: b :: rest) pos) (dOr f g) := by
  obtain ⟨t, p, s⟩ := h
  obtain ⟨u, p2, s2⟩ := h2
  refine ⟨_, pw_or p p2, fun θ G => (s θ G).bind (k := fun c σ H1 Q => if c = true then Q true H1 else u σ H1 Q) fun θ1 G1 v d _ _ hv => ?_⟩
  cases hv
  cases v with
  | false => simpa using s2 θ1 G1
  | true => simpa using snd_b (K := X.K) (W := W) (θ := θ1) (G := G1) (b := true)
theorem DW.dt {e : Expr} {f : Ev Bool} (h : DW X W e f) : DT X W e f := by obtain ⟨t, p, s⟩ := h; exact ⟨t, p.pt, s⟩
theorem dt_not {a : Expr} {f : Ev Bool} (h : DT X W a f) : DT X W (.UnaryOp .Not a pos) (dNot f) := by
  obtain ⟨t, p, s⟩ := h
  refine ⟨_, pt_not p, fun θ G => (s θ G).bind (k := fun c σ H1 Q => Q (!c) H1) fun θ1 G1 v d _ _ hv => ?_⟩
  cases hv
  exact snd_b
/-! as values -/
def dAndV (f g : Ev D) : Ev D := bnd f fun d => bnd (asB d) fun c => if c = true then g else ret (.bl false)
def dOrV (f g : Ev D) : Ev D := bnd f fun d => bnd (asB d) fun c => if c = true then ret (.bl true) else g
def dNotV (f : Ev D) : Ev D := bnd f fun d => bnd (asB d) fun c => ret (.bl (!c))
theorem bnd_ret {α β : Type} (a : α) (g : α → Ev β) : bnd (ret a) g = g a := rfl
theorem bnd_stk {α β : Type} (g : α → Ev β) : bnd stk g = stk := rfl
theorem rv_bl {K : PySem.W.Frag} {θ : List Th} {G : Hp} {b : Bool} : Rv K θ G (.bl b) (.bl b) := .dat (.bl b)
theorem snd_asB {K : PySem.W.Frag} {A α : Type} {R : List Th → Hp → A → α → Prop} {θ : List Th} {G : Hp} {v : V} {d : D} {k : Bool → L2.St → Hp → (A → Hp → Prop) → Prop} {g : Bool → Ev α} (hv : Rv K θ G v d) (h : ∀ c, Snd K W R θ G (k c) (g c)) :
    Snd K W R θ G (fun σ H1 Q => ∃ c, v = .bl c ∧ k c σ H1 Q) (bnd (asB d) g) := by
  cases d with
  | bl b =>
    cases hv with
    | dat hv =>
      cases hv
      intro ρ M r M' θ G σ H Q p s e rs rv kk
      exact ⟨b, rfl, h b ρ M r M' θ G σ H Q p s e rs rv kk⟩
  | _ => exact Snd.stk
theorem de_one {op : BoolOp} {a : Expr} {f : Ev D} (h : DE X W a f) : DE X W (.BoolOp op [a] pos) f := by obtain ⟨t, p, s⟩ := h; exact ⟨_, pe_one p, s⟩
theorem de_and {a b : Expr} {rest : List Expr} {f g : Ev D} (h : DE X W a f) (h2 : DE X W (.BoolOp .And (b :: rest) pos) g) : DE X W (.BoolOp .And (a :: b :: rest) pos) (dAndV f g) := by
  obtain ⟨t, p, s⟩ := h
  obtain ⟨u, p2, s2⟩ := h2
  refine ⟨_, pe_and p p2, fun θ G => (s θ G).bind (k := fun x σ H1 Q => ∃ c, x = .bl c ∧ if c = true then u σ H1 Q else Q (.bl false) H1) fun θ1 G1 v d _ _ hv => snd_asB hv fun c => ?_⟩
  cases c with
  | true => simpa using s2 θ1 G1
  | false => simpa using Snd.ret (K := X.K) (W := W) (R := RV X.K) (θ0 := θ1) (G0 := G1) (v := .bl false) (d := .bl false) fun _ _ _ _ => rv_bl
theorem de_or {a b : Expr} {rest : List Expr} {f g : Ev D} (h : DE X W a f) (h2 : DE X W (.BoolOp .Or (b :: rest) pos) g) : DE X W (.BoolOp .Or (a :: b :: rest) pos) (dOrV f g) := by
  obtain ⟨t, p, s⟩ := h
  obtain ⟨u, p2, s2⟩ := h2
  refine ⟨_, pe_or p p2, fun θ G => (s θ G).bind (k := fun x σ H1 Q => ∃ c, x = .bl c ∧ if c = true then Q (.bl true) H1 else u σ H1 Q) fun θ1 G1 v d _ _ hv => snd_asB hv fun c => ?_⟩
  cases c with
  | false => simpa using s2 θ1 G1
  | true => simpa using Snd.ret (K := X.K) (W := W) (R := RV X.K) (θ0 := θ1) (G0 := G1) (v := .bl true) (d := .bl true) fun _ _ _ _ => rv_bl
theorem de_not {a : Expr} {f : Ev D} (h : DE X W a f) : DE X W (.UnaryOp .Not a pos) (dNotV f) := by
  obtain ⟨t, p, s⟩ := h
  refine ⟨_, pe_not p, fun θ G => (s θ G).bind (R2 := RV X.K) (k := fun (x : V) (σ : L2.St) (H1 : Hp) (Q : V → Hp → Prop) => ∃ c, x = .bl c ∧ Q (.bl (!c)) H1) fun θ1 G1 v d _ _ hv => snd_asB (k := fun (c : Bool) (_ : L2.St) (H1 : Hp) (Q : V → Hp → Prop) => Q (V.bl (!c)) H1) hv fun c => Snd.ret fun _ _ _ _ => rv_bl⟩
def dIf (c : Ev Bool) (f g : Ev D) : Ev D := bnd c fun b => if b = true then f else g
theorem de_if {c a b : Expr} {h : Ev Bool} {f g : Ev D} (hc : DT X W c h) (ha : DE X W a f) (hb : DE X W b g) : DE X W (.IfExp c a b pos) (dIf h f g) := by
  obtain ⟨t, p, s⟩ := hc
  obtain ⟨u, p2, s2⟩ := ha
  obtain ⟨z, p3, s3⟩ := hb
  refine ⟨_, pe_ifExp p p2 p3, fun θ G => (s θ G).bind (k := fun c σ H1 Q => if c = true then u σ H1 Q else z σ H1 Q) fun θ1 G1 v d _ _ hv => ?_⟩
  cases hv
  cases v with
  | true => simpa using s2 θ1 G1
  | false => simpa using s3 θ1 G1
/-! arguments -/
def dNil : Ev (List D) := ret []
def dCons (f : Ev D) (g : Ev (List D)) : Ev (List D) := bnd f fun d => bnd g fun ds => ret (d :: ds)
theorem da_nil : DA X W [] dNil := ⟨_, pa_nil, fun _ _ => Snd.ret fun _ _ _ _ => RvL.nil⟩
theorem da_cons {e : Expr} {es : List Expr} {f : Ev D} {g : Ev (List D)} (ha : DE X W e f) (hr : DA X W es g) (hs : starEach (e :: es) X.env = (false, eval e X.env) :: starEach es X.env := by rfl) : DA X W (e :: es) (dCons f g) := by
  obtain ⟨t, p, s⟩ := ha
  obtain ⟨u, p2, s2⟩ := hr
  exact ⟨_, pa_cons p p2 hs, fun θ G => (s θ G).bind (k := fun x σ H1 Q => u σ H1 fun xs H2 => Q (x :: xs) H2) fun θ1 G1 v d _ _ hv => (s2 θ1 G1).bind (k := fun xs σ H2 Q => Q (v :: xs) H2) fun θ2 G2 vs ds p s hvs => Snd.ret fun θ3 G3 p3 s3 => RvL.cons (hv.mono (p.trans p3) (s.trans s3)) (hvs.mono p3 s3)⟩
/-- by a list of values -/
def SndC (K : PySem.W.Frag) (W : WN) (r : List V → Hp → VK → Prop) (o : List D → Ev D) : Prop := ∀ θ G xs ds, RvL K θ G xs ds → Snd K W (RV K) θ G (fun _ H Q => r xs H Q) (o ds)
theorem snd_args {K : PySem.W.Frag} {r : List V → Hp → VK → Prop} {o : List D → Ev D} (h : SndC K W r o) {t : TA} {f : Ev (List D)} (s : ∀ θ G, Snd K W (RL K) θ G t f) (θ : List Th) (G : Hp) : Snd K W (RV K) θ G (fun σ H Q => t σ H fun vs H1 => r vs H1 Q) (bnd f o) :=
  (s θ G).bind (k := fun vs _ H1 Q => r vs H1 Q) fun θ1 G1 v d _ _ hv => h θ1 G1 v d hv
/-- a tuple, a list that stays as it is -/
def oTup (ds : List D) : Ev D := if ds.all D.np = true ∧ ds.length ≤ 16777216 then ret (.tup ds) else stk
def oLst (ds : List D) : Ev D := if ds.all D.np = true ∧ ds.length ≤ 16777216 then ret (.lst ds) else stk
theorem snd_new {K : PySem.W.Frag} {θ : List Th} {G : Hp} {o : HO} {d : D} (h : ∀ G p, G p = some o → Rp K G (.ref p) d ∨ True) : True := trivial
theorem rp_tup {K : PySem.W.Frag} {G : Hp} {p : Addr} {xs : List V} {ds : List D} (h : G p = some (.tup xs)) (r : RpL K G xs ds) : Rp K G (.ref p) (.tup ds) := .tup (.inl (.inl h)) r.len r.get
theorem rp_lst {K : PySem.W.Frag} {G : Hp} {p : Addr} {xs : List V} {ds : List D} (h : G p = some (.lst xs)) (r : RpL K G xs ds) : Rp K G (.ref p) (.lst ds) := .lst h r.len r.get
theorem snd_tup {K : PySem.W.Frag} : SndC K W (fun xs H1 Q => xs.length ≤ sizeLine ∧ ∀ p, H1 p = none → Q (.ref p) (upd H1 p (.tup xs))) oTup := by
  intro θ0 G0 xs ds hx
  unfold oTup
  split
  · rename_i hc
    have hp := hx.rp hc.1
    intro ρ M r M' θ G σ H Q p s e rs rv kk
    unfold ret at e
    simp at e
    obtain ⟨e1, e2⟩ := e
    subst e1; subst e2
    refine ⟨by rw [hp.len, sizeLine_eq]; exact hc.2, fun a ha => ?_⟩
    have g := rs.fresh ha
    exact (kk θ (upd G a (.tup xs)) _ (List.prefix_refl _) (same_upd g) (rs.laid ha _)).2 _ _ rfl (.dat (rp_tup upd_same (hp.mono (s.trans (same_upd g)))))
  · exact Snd.stk
theorem snd_lst {K : PySem.W.Frag} : SndC K W (fun xs H1 Q => xs.length ≤ sizeLine ∧ ∀ p, H1 p = none → Q (.ref p) (upd H1 p (.lst xs))) oLst := by
  intro θ0 G0 xs ds hx
  unfold oLst
  split
  · rename_i hc
    have hp := hx.rp hc.1
    intro ρ M r M' θ G σ H Q p s e rs rv kk
    unfold ret at e
    simp at e
    obtain ⟨e1, e2⟩ := e
    subst e1; subst e2
    refine ⟨by rw [hp.len, sizeLine_eq]; exact hc.2, fun a ha => ?_⟩
    have g := rs.fresh ha
    exact (kk θ (upd G a (.lst xs)) _ (List.prefix_refl _) (same_upd g) (rs.laid ha _)).2 _ _ rfl (.dat (rp_lst upd_same (hp.mono (s.trans (same_upd g)))))
  · exact Snd.stk
/-- a list that will change -/
def oNew (ds : List D) : Ev D := fun _ M => if ds.all D.np = true ∧ ds.length ≤ 16777216 then some (.ok (.ptr M.length), M ++ [some ds]) else none
theorem snd_lstM {K : PySem.W.Frag} : SndC K W (fun xs H1 Q => xs.length ≤ sizeLine ∧ ∀ p, H1 p = none → Q (.ref p) (upd H1 p (.lst xs))) oNew := by
  intro θ0 G0 xs ds hx ρ M r M' θ G σ H Q p s e rs rv kk
  unfold oNew at e
  split at e
  · rename_i hc
    have hp := hx.rp hc.1
    simp at e
    obtain ⟨e1, e2⟩ := e
    subst e1; subst e2
    refine ⟨by rw [hp.len, sizeLine_eq]; exact hc.2, fun a ha => ?_⟩
    refine (kk (θ ++ [(a, .lst)]) G _ (List.prefix_append _ _) (Same.refl _) (rs.laidM ha (hp.mono s))).2 _ _ rfl (.ptr ?_)
    rw [← rs.len, List.getElem?_append_right (Nat.le_refl _), Nat.sub_self]
    rfl
  · cases e
theorem de_tup {es : List Expr} {f : Ev (List D)} {x1 : Nat} (h : DA X W es f) : DE X W (.Tuple es x1 pos) (bnd f oTup) := by
  obtain ⟨t, p, s⟩ := h
  exact ⟨_, pe_tup p, snd_args snd_tup s⟩
theorem de_lst {es : List Expr} {f : Ev (List D)} (h : DA X W es f) : DE X W (.List es pos) (bnd f oLst) := by
  obtain ⟨t, p, s⟩ := h
  exact ⟨_, pe_lst p, snd_args snd_lst s⟩
theorem de_lstM {es : List Expr} {f : Ev (List D)} (h : DA X W es f) : DE X W (.List es pos) (bnd f oNew) := by
  obtain ⟨t, p, s⟩ := h
  exact ⟨_, pe_lst p, snd_args snd_lstM s⟩
end
end Bw
namespace Bw
open PySem PySem.Spec PyProof.Rows L2
section
variable {X : Cx} {W : WN} {pos : Pos}
/-! ### numbers -/
def oI (C : Int → Int → Bool) (g : Int → Int → D) (d e : D) : Ev D := match d, e with
  | .int i, .int j => if C i j = true then ret (g i j) else stk
  | _, _ => stk
theorem snd_rI {K : PySem.W.Frag} {C : Int → Int → Prop} {C' : Int → Int → Bool} {g : Int → Int → V} {g' : Int → Int → D} (hC : ∀ i j, C' i j = true → C i j) (hg : ∀ i j G, Rp K G (g i j) (g' i j)) : SndO K W (rI C g) (oI C' g') := by
  intro θ G x y d e hx hy
  unfold oI
  split
  · rename_i i j
    split
    · rename_i c
      cases hx with
      | dat hx =>
        cases hy with
        | dat hy =>
          cases hx; cases hy
          intro ρ M r M' θ1 G1 σ H Q p s e rs rv kk
          exact ⟨i, j, rfl, rfl, hC i j c, Snd.ret (K := K) (W := W) (R := RV K) (θ0 := θ) (G0 := G) (v := g i j) (d := g' i j) (fun _ G _ _ => .dat (hg i j G)) ρ M r M' θ1 G1 σ H Q p s e rs rv kk⟩
    · exact Snd.stk
  · exact Snd.stk
theorem snd_rI0 {K : PySem.W.Frag} {g : Int → Int → V} {g' : Int → Int → D} (hg : ∀ i j G, Rp K G (g i j) (g' i j)) : SndO K W (rI0 g) (oI (fun _ _ => true) g') := by
  intro θ G x y d e hx hy
  have h := snd_rI (K := K) (W := W) (C := fun _ _ => True) (C' := fun _ _ => true) (g := g) (g' := g') (fun _ _ _ => trivial) hg θ G x y d e hx hy
  intro ρ M r M' θ1 G1 σ H Q p s e rs rv kk
  obtain ⟨i, j, a, b, _, q⟩ := h ρ M r M' θ1 G1 σ H Q p s e rs rv kk
  exact ⟨i, j, a, b, q⟩
def oAdd (d e : D) : Ev D := match d, e with
  | .int i, .int j => ret (.int (i + j))
  | .lst a, .lst b => if a.length + b.length ≤ 16777216 then ret (.lst (a ++ b)) else stk
  | .tup a, .tup b => if a.length + b.length ≤ 16777216 then ret (.tup (a ++ b)) else stk
  | _, _ => stk
def rAdd2 (K : PySem.W.Frag) : R2 := fun x y H Q => rI0 (fun i j => .int (i + j)) x y H Q ∨ rCat x y H Q ∨ rCatA K x y H Q
theorem op_add2 : OpR X (binaryOp .Add) (rAdd2 X.K) := by
  intro pins s σ H x y v u Q I rx ry h
  rcases h with h | h | h
  · exact op_add pins s σ H x y v u Q I rx ry h
  · exact op_cat pins s σ H x y v u Q I rx ry h
  · exact op_catA pins s σ H x y v u Q I rx ry h
theorem RpL.nil_iff {K : PySem.W.Frag} {G : Hp} {xs : List V} {ds : List D} (r : RpL K G xs ds) : xs = [] ↔ ds = [] := by
  constructor
  · intro e; subst e; exact List.eq_nil_of_length_eq_zero r.len.symm
  · intro e; subst e; exact r.nil_of
theorem snd_add {K : PySem.W.Frag} : SndO K W (rAdd2 K) oAdd := by
  intro θ G x y d e hx hy
  unfold oAdd
  split
  · rename_i i j
    intro ρ M r M' θ1 G1 σ H Q p s e rs rv kk
    exact .inl (snd_rI0 (K := K) (W := W) (g := fun i j => .int (i + j)) (g' := fun i j => .int (i + j)) (fun i j _ => .int _) θ G x y (.int i) (.int j) hx hy ρ M r M' θ1 G1 σ H Q p s e rs rv kk)
  · rename_i a b
    split
    · rename_i hl
      cases hx with
      | dat hx =>
        cases hy with
        | dat hy =>
          cases hx with
          | lst h1 l1 g1 =>
            cases hy with
            | lst h2 l2 g2 =>
              rename_i pa xs pb ys
              intro ρ M r M' θ1 G1 σ H Q p s e rs rv kk
              unfold ret at e
              cases e
              refine .inr (.inl ⟨pa, pb, xs, ys, rfl, rfl, rs.sub _ _ (s _ _ h1), rs.sub _ _ (s _ _ h2), by rw [l1, l2, sizeLine_eq]; exact hl, fun q hq => ?_⟩)
              have g := rs.fresh hq
              have r12 : RpL K G (xs ++ ys) (a ++ b) := RpL.append ⟨l1, g1⟩ ⟨l2, g2⟩
              exact (kk θ1 (upd G1 q (.lst (xs ++ ys))) _ (List.prefix_refl _) (same_upd g) (rs.laid hq _)).2 _ _ rfl (.dat (rp_lst upd_same (r12.mono (s.trans (same_upd g)))))
    · exact Snd.stk
  · rename_i a b
    split
    · rename_i hl
      cases hx with
      | dat hx =>
        cases hy with
        | dat hy =>
          cases hx with
          | tup h1 l1 g1 =>
            cases hy with
            | tup h2 l2 g2 =>
              rename_i pa xs pb ys
              intro ρ M r M' θ1 G1 σ H Q p s e rs rv kk
              unfold ret at e
              cases e
              have r1 : RpL K G xs a := ⟨l1, g1⟩
              have r2 : RpL K G ys b := ⟨l2, g2⟩
              refine .inr (.inr ⟨pa, pb, xs, ys, rfl, rfl, seqT rs.sub (seqT s h1), seqT rs.sub (seqT s h2), by rw [l1, l2, sizeLine_eq]; exact hl, fun z => ?_, fun _ z => ?_, fun _ _ q hq => ?_⟩)
              · rw [r1.nil_iff.mp z, List.nil_append] at kk
                exact (kk θ1 G1 H (List.prefix_refl _) (Same.refl _) rs).2 _ _ rfl (.dat ((Rp.tup h2 l2 g2).mono s))
              · rw [r2.nil_iff.mp z, List.append_nil] at kk
                exact (kk θ1 G1 H (List.prefix_refl _) (Same.refl _) rs).2 _ _ rfl (.dat ((Rp.tup h1 l1 g1).mono s))
              · have g := rs.fresh hq
                exact (kk θ1 (upd G1 q (.tup (xs ++ ys))) _ (List.prefix_refl _) (same_upd g) (rs.laid hq _)).2 _ _ rfl (.dat (rp_tup upd_same ((r1.append r2).mono (s.trans (same_upd g)))))
    · exact Snd.stk
  · exact Snd.stk
def oSub : D → D → Ev D := oI (fun _ _ => true) fun i j => .int (i - j)
def oMul : D → D → Ev D := oI (fun i j => decide (i.natAbs.log2 + j.natAbs.log2 < 1000000)) fun i j => .int (i * j)
def oDiv : D → D → Ev D := oI (fun i j => decide (j ≠ 0 ∧ j.natAbs.log2 < 9000)) fun i j => .int (i.fdiv j)
def oMod : D → D → Ev D := oI (fun i j => decide (j ≠ 0)) fun i j => .int (i.fmod j)
def oPow : D → D → Ev D := oI (fun i j => decide (0 ≤ j ∧ j ≤ 1000000 ∧ i.natAbs < 2 ^ 64)) fun i j => .int (i ^ j.toNat)
def CDivZ (_ j : Int) : Prop := j ≠ 0 ∧ j.natAbs.log2 < 9000
theorem op_fdivZ : OpR X (binaryOp .FloorDiv) (rI CDivZ fun i j => .int (i.fdiv j)) := opI fun i j _ _ _ _ _ hc q => floordiv_int hc.1 q (.inl (PyProof.noPylong_of_log2 hc.2))
variable {a b : Expr} {f g : Ev D}
theorem de_add (ha : DE X W a f) (hb : DE X W b g) : DE X W (.BinOp a .Add b pos) (bnd f fun d => bnd g fun e => oAdd d e) := de_op op_add2 snd_add ha hb
theorem de_sub (ha : DE X W a f) (hb : DE X W b g) : DE X W (.BinOp a .Sub b pos) (bnd f fun d => bnd g fun e => oSub d e) := de_op op_sub (snd_rI0 fun i j _ => .int _) ha hb
theorem de_mul (ha : DE X W a f) (hb : DE X W b g) : DE X W (.BinOp a .Mult b pos) (bnd f fun d => bnd g fun e => oMul d e) := de_op op_mulW (snd_rI (fun i j h => by unfold CMulW; exact of_decide_eq_true h) fun i j _ => .int _) ha hb
theorem de_div (ha : DE X W a f) (hb : DE X W b g) : DE X W (.BinOp a .FloorDiv b pos) (bnd f fun d => bnd g fun e => oDiv d e) := de_op op_fdivZ (snd_rI (fun i j h => by unfold CDivZ; exact of_decide_eq_true h) fun i j _ => .int _) ha hb
theorem de_mod (ha : DE X W a f) (hb : DE X W b g) : DE X W (.BinOp a .Mod b pos) (bnd f fun d => bnd g fun e => oMod d e) := de_op op_modN (snd_rI (fun i j h => of_decide_eq_true h) fun i j _ => .int _) ha hb
theorem de_pow (ha : DE X W a f) (hb : DE X W b g) : DE X W (.BinOp a .Pow b pos) (bnd f fun d => bnd g fun e => oPow d e) := de_op op_pow (snd_rI (fun i j h => by unfold CPow; exact of_decide_eq_true h) fun i j _ => .int _) ha hb
def oLt : D → D → Ev D := oI (fun _ _ => true) fun i j => .bl (decide (i < j))
def oLe : D → D → Ev D := oI (fun _ _ => true) fun i j => .bl (decide (i ≤ j))
def oGt : D → D → Ev D := oI (fun _ _ => true) fun i j => .bl (decide (j < i))
def oGe : D → D → Ev D := oI (fun _ _ => true) fun i j => .bl (decide (j ≤ i))
theorem de_lt (ha : DE X W a f) (hb : DE X W b g) : DE X W (.Compare a [.Lt] [b] pos) (bnd f fun d => bnd g fun e => oLt d e) := de_cmp op_lt (snd_rI0 fun i j _ => .bl _) ha hb (nomark _)
theorem de_le (ha : DE X W a f) (hb : DE X W b g) : DE X W (.Compare a [.LtE] [b] pos) (bnd f fun d => bnd g fun e => oLe d e) := de_cmp op_le (snd_rI0 fun i j _ => .bl _) ha hb (nomark _)
theorem de_gt (ha : DE X W a f) (hb : DE X W b g) : DE X W (.Compare a [.Gt] [b] pos) (bnd f fun d => bnd g fun e => oGt d e) := de_cmp op_gt (snd_rI0 fun i j _ => .bl _) ha hb (nomark _)
theorem de_ge (ha : DE X W a f) (hb : DE X W b g) : DE X W (.Compare a [.GtE] [b] pos) (bnd f fun d => bnd g fun e => oGe d e) := de_cmp op_ge (snd_rI0 fun i j _ => .bl _) ha hb (nomark _)
theorem dt_lt (ha : DE X W a f) (hb : DE X W b g) : DT X W (.Compare a [.Lt] [b] pos) (bnd (bnd f fun d => bnd g fun e => oLt d e) asB) := dt_cmp op_lt (snd_rI0 fun i j _ => .bl _) ha hb (nomark _)
theorem dt_le (ha : DE X W a f) (hb : DE X W b g) : DT X W (.Compare a [.LtE] [b] pos) (bnd (bnd f fun d => bnd g fun e => oLe d e) asB) := dt_cmp op_le (snd_rI0 fun i j _ => .bl _) ha hb (nomark _)
theorem dt_gt (ha : DE X W a f) (hb : DE X W b g) : DT X W (.Compare a [.Gt] [b] pos) (bnd (bnd f fun d => bnd g fun e => oGt d e) asB) := dt_cmp op_gt (snd_rI0 fun i j _ => .bl _) ha hb (nomark _)
theorem dt_ge (ha : DE X W a f) (hb : DE X W b g) : DT X W (.Compare a [.GtE] [b] pos) (bnd (bnd f fun d => bnd g fun e => oGe d e) asB) := dt_cmp op_ge (snd_rI0 fun i j _ => .bl _) ha hb (nomark _)
/-! ### equality of data -/
mutual
def toPy : D → PyData
  | .non => .none
  | .bl b => .bool b
  | .int i => .int i
  | .str z => .str z
  | .tup ds => .tuple (toPys ds)
  | .lst ds => .list (toPys ds)
  | .ptr _ => .none
  | .exv _ => .none
  | .dpt _ => .none
  | .npt _ => .none
  | .emp => .none
  | .scr ds => .list (toPys ds)
def toPys : List D → List PyData
  | [] => []
  | d :: ds => toPy d :: toPys ds
end
theorem toPys_get : ∀ (ds : List D) (i : Nat), (toPys ds)[i]? = (ds[i]?).map toPy
  | [], i => by simp [toPys]
  | d :: ds, 0 => by simp [toPys]
  | d :: ds, i + 1 => by simpa [toPys] using toPys_get ds i
theorem dpAll_of {K : PySem.W.Frag} {H : Hp} : ∀ {xs : List V} {ds : List D}, xs.length = ds.length → (∀ (i : Nat) (v : V) (d : D), xs[i]? = some v → ds[i]? = some d → Dp K H v (toPy d)) → DpAll K H xs (toPys ds)
  | [], [], _, _ => .nil
  | v :: xs, d :: ds, l, h => .cons (h 0 v d rfl rfl) (dpAll_of (by simpa using l) fun i v d a b => h (i + 1) v d (by simpa using a) (by simpa using b))
  | [], _ :: _, l, _ => absurd l (by simp)
  | _ :: _, [], l, _ => absurd l (by simp)
mutual
/-- data that may be compared -/
def D.pl : D → Bool
  | .ptr _ => false
  | .dpt _ => false
  | .npt _ => false
  | .exv _ => false
  | .emp => false
  | .tup ds => plL ds
  | .lst ds => plL ds
  | .scr ds => plL ds
  | _ => true
def plL : List D → Bool
  | [] => true
  | d :: ds => D.pl d && plL ds
end
theorem plL_get : ∀ (ds : List D) (i : Nat) (d : D), plL ds = true → ds[i]? = some d → d.pl = true
  | [], i, d, _, h => by simp at h
  | e :: ds, 0, d, h, h2 => by
    simp at h2; subst h2
    unfold plL at h
    exact (Bool.and_eq_true_iff.mp h).1
  | e :: ds, i + 1, d, h, h2 => by
    unfold plL at h
    exact plL_get ds i d (Bool.and_eq_true_iff.mp h).2 (by simpa using h2)
theorem pl_np {d : D} (h : d.pl = true) : d.np = true := by
  cases d <;> first | rfl | (unfold D.pl at h; cases h)
theorem Rp.dp {K : PySem.W.Frag} {G : Hp} {v : V} {d : D} (h : Rp K G v d) (pl : d.pl = true) : Dp K G v (toPy d) := by
  induction h with
  | non => exact .non
  | bl b => exact .bl b
  | int i => exact .int i
  | str z => exact .str z
  | emp h => unfold D.pl at pl; cases pl
  | tup h l e ih => exact .tup h (dpAll_of l fun i v d a b => ih i v d a b (plL_get _ i d (by unfold D.pl at pl; exact pl) b))
  | lst h l e ih => exact .lst (.inl (.inl h)) (dpAll_of l fun i v d a b => ih i v d a b (plL_get _ i d (by unfold D.pl at pl; exact pl) b))
  | scr h l e ih => exact .lst h (dpAll_of l fun i v d a b => ih i v d a b (plL_get _ i d (by unfold D.pl at pl; exact pl) b))
def oEq (d e : D) : Ev D := if d.pl = true ∧ e.pl = true ∧ SeqAt.shaped (toPy d) = true ∧ SeqAt.shaped (toPy e) = true then ret (.bl (PyData.eqv (toPy d) (toPy e))) else stk
def oNe (d e : D) : Ev D := if d.pl = true ∧ e.pl = true ∧ SeqAt.shaped (toPy d) = true ∧ SeqAt.shaped (toPy e) = true then ret (.bl (!PyData.eqv (toPy d) (toPy e))) else stk
theorem snd_eqD {K : PySem.W.Frag} : SndO K W (rEqD K) oEq := by
  intro θ G x y d e hx hy
  unfold oEq
  split
  · rename_i c
    intro ρ M r M' θ1 G1 σ H Q p s e1 rs rv kk
    exact ⟨_, _, (((hx.rp (pl_np c.1)).mono s).mono rs.sub).dp c.1, (((hy.rp (pl_np c.2.1)).mono s).mono rs.sub).dp c.2.1, c.2.2.1, c.2.2.2, Snd.ret (K := K) (W := W) (R := RV K) (θ0 := θ) (G0 := G) (fun _ _ _ _ => rv_bl) ρ M r M' θ1 G1 σ H Q p s e1 rs rv kk⟩
  · exact Snd.stk
theorem snd_neD {K : PySem.W.Frag} : SndO K W (rNeD K) oNe := by
  intro θ G x y d e hx hy
  unfold oNe
  split
  · rename_i c
    intro ρ M r M' θ1 G1 σ H Q p s e1 rs rv kk
    exact ⟨_, _, (((hx.rp (pl_np c.1)).mono s).mono rs.sub).dp c.1, (((hy.rp (pl_np c.2.1)).mono s).mono rs.sub).dp c.2.1, c.2.2.1, c.2.2.2, Snd.ret (K := K) (W := W) (R := RV K) (θ0 := θ) (G0 := G) (fun _ _ _ _ => rv_bl) ρ M r M' θ1 G1 σ H Q p s e1 rs rv kk⟩
  · exact Snd.stk
theorem de_eq (hu : X.A.units + 64 < cLine) (ha : DE X W a f) (hb : DE X W b g) : DE X W (.Compare a [.Eq] [b] pos) (bnd f fun d => bnd g fun e => oEq d e) := de_cmp (op_eqD hu) snd_eqD ha hb (nomark _)
theorem de_ne (hu : X.A.units + 64 < cLine) (ha : DE X W a f) (hb : DE X W b g) : DE X W (.Compare a [.NotEq] [b] pos) (bnd f fun d => bnd g fun e => oNe d e) := de_cmp (op_neD hu) snd_neD ha hb (nomark _)
theorem dt_eq (hu : X.A.units + 64 < cLine) (ha : DE X W a f) (hb : DE X W b g) : DT X W (.Compare a [.Eq] [b] pos) (bnd (bnd f fun d => bnd g fun e => oEq d e) asB) := dt_cmp (op_eqD hu) snd_eqD ha hb (nomark _)
theorem dt_ne (hu : X.A.units + 64 < cLine) (ha : DE X W a f) (hb : DE X W b g) : DT X W (.Compare a [.NotEq] [b] pos) (bnd (bnd f fun d => bnd g fun e => oNe d e) asB) := dt_cmp (op_neD hu) snd_neD ha hb (nomark _)
/-! ### -x, abs, max, min, int, len -/
def oNeg (d : D) : Ev D := match d with
  | .int i => ret (.int (-i))
  | _ => stk
theorem de_neg (ha : DE X W a f) : DE X W (.UnaryOp .USub a pos) (bnd f oNeg) := by
  obtain ⟨t, p, s⟩ := ha
  refine ⟨_, pe_un un_neg p, fun θ G => (s θ G).bind (R2 := RV X.K) (k := fun (x : V) (_ : L2.St) (H : Hp) (Q : V → Hp → Prop) => rU (fun i => .int (-i)) x H Q) fun θ1 G1 v d _ _ hv => ?_⟩
  unfold oNeg
  split
  · rename_i i
    cases hv with
    | dat hv =>
      cases hv
      intro ρ M r M' θ2 G2 σ H Q p s e rs rv kk
      exact ⟨i, rfl, Snd.ret (K := X.K) (W := W) (R := RV X.K) (θ0 := θ1) (G0 := G1) (d := .int (-i)) (fun _ G _ _ => .dat (.int _)) ρ M r M' θ2 G2 σ H Q p s e rs rv kk⟩
  · exact Snd.stk
theorem de_callB {id : String} {r : List V → Hp → VK → Prop} {o : List D → Ev D} {x : Str} {p : Pos} {e : Expr} {es : List Expr} {h : Ev (List D)} (hc : CallR X (.builtin id) r) (so : SndC X.K W r o) (hm : X.mg x = none) (hv : bootBuiltins x = some (.builtin id)) (ha : DA X W (e :: es) h) (hg : Gl X x := by rfl) (hn : x ≠ "__name__" := by decide) (hdb : (x == ("__debug__" : Str)) = false := by decide)
    (he : starEach (e :: es) X.env = (false, eval e X.env) :: starEach es X.env := by rfl) (hpl : (backTo pos (starEach es X.env)).any (·.1) = false := by rfl) : DE X W (.Call (.Name x p) (e :: es) [] pos) (bnd h o) := by
  obtain ⟨t, q, s⟩ := ha
  exact ⟨_, pe_callB hc hg hm hv q hn hdb he hpl, snd_args so s⟩
theorem de_callTy {T : String} {r : List V → Hp → VK → Prop} {o : List D → Ev D} {x : Str} {p : Pos} {e : Expr} {es : List Expr} {h : Ev (List D)} (hc : CallR X (.type T) r) (so : SndC X.K W r o) (hm : X.mg x = none) (hv : bootBuiltins x = some (.type T)) (ha : DA X W (e :: es) h) (hg : Gl X x := by rfl) (hn : x ≠ "__name__" := by decide) (hdb : (x == ("__debug__" : Str)) = false := by decide)
    (he : starEach (e :: es) X.env = (false, eval e X.env) :: starEach es X.env := by rfl) (hpl : (backTo pos (starEach es X.env)).any (·.1) = false := by rfl) : DE X W (.Call (.Name x p) (e :: es) [] pos) (bnd h o) := by
  obtain ⟨t, q, s⟩ := ha
  exact ⟨_, pe_callTy hc hg hm hv q hn hdb he hpl, snd_args so s⟩
def o1I (h : Int → D) (ds : List D) : Ev D := match ds with
  | [.int i] => ret (h i)
  | _ => stk
def o2I (h : Int → Int → D) (ds : List D) : Ev D := match ds with
  | [.int i, .int j] => ret (h i j)
  | _ => stk
theorem vals1 {K : PySem.W.Frag} {θ : List Th} {G : Hp} {xs : List V} {d : D} (h : RvL K θ G xs [d]) : ∃ v, xs = [v] ∧ Rv K θ G v d := by
  obtain ⟨v, ys, rfl, hv, r⟩ := h.uncons
  rw [r.nil_of]
  exact ⟨v, rfl, hv⟩
theorem vals2 {K : PySem.W.Frag} {θ : List Th} {G : Hp} {xs : List V} {d e : D} (h : RvL K θ G xs [d, e]) : ∃ v u, xs = [v, u] ∧ Rv K θ G v d ∧ Rv K θ G u e := by
  obtain ⟨v, ys, rfl, hv, r⟩ := h.uncons
  obtain ⟨u, rfl, hu⟩ := vals1 r
  exact ⟨v, u, rfl, hv, hu⟩
theorem Rv.int_of {K : PySem.W.Frag} {θ : List Th} {G : Hp} {v : V} {i : Int} (h : Rv K θ G v (.int i)) : v = .int i := by
  cases h with
  | dat h => cases h; rfl
theorem Rv.bl_of {K : PySem.W.Frag} {θ : List Th} {G : Hp} {v : V} {i : Bool} (h : Rv K θ G v (.bl i)) : v = .bl i := by
  cases h with
  | dat h => cases h; rfl
theorem snd_1I {K : PySem.W.Frag} {r : List V → Hp → VK → Prop} {h : Int → D} {h' : Int → V} (hr : ∀ i H Q, Q (h' i) H → r [.int i] H Q) (hh : ∀ i G, Rp K G (h' i) (h i)) : SndC K W r (o1I h) := by
  intro θ0 G0 xs ds hx
  unfold o1I
  split
  · rename_i i
    obtain ⟨v, rfl, hv⟩ := vals1 hx
    rw [hv.int_of]
    intro ρ M r M' θ G σ H Q p s e rs rv kk
    exact hr i H Q (Snd.ret (K := K) (W := W) (R := RV K) (θ0 := θ0) (G0 := G0) (d := h i) (fun _ G _ _ => .dat (hh i G)) ρ M r M' θ G σ H Q p s e rs rv kk)
  · exact Snd.stk
theorem snd_2I {K : PySem.W.Frag} {r : List V → Hp → VK → Prop} {h : Int → Int → D} {h' : Int → Int → V} (hr : ∀ i j H Q, Q (h' i j) H → r [.int i, .int j] H Q) (hh : ∀ i j G, Rp K G (h' i j) (h i j)) : SndC K W r (o2I h) := by
  intro θ0 G0 xs ds hx
  unfold o2I
  split
  · rename_i i j
    obtain ⟨v, u, rfl, hv, hu⟩ := vals2 hx
    rw [hv.int_of, hu.int_of]
    intro ρ M r M' θ G σ H Q p s e rs rv kk
    exact hr i j H Q (Snd.ret (K := K) (W := W) (R := RV K) (θ0 := θ0) (G0 := G0) (d := h i j) (fun _ G _ _ => .dat (hh i j G)) ρ M r M' θ G σ H Q p s e rs rv kk)
  · exact Snd.stk
def oAbs : List D → Ev D := o1I fun i => .int (if i < 0 then -i else i)
def oMax : List D → Ev D := o2I fun i j => .int (if j > i then j else i)
def oMin : List D → Ev D := o2I fun i j => .int (if j < i then j else i)
def oToInt (ds : List D) : Ev D := match ds with
  | [.int i] => ret (.int i)
  | [.bl b] => ret (.int (if b then 1 else 0))
  | _ => stk
variable {p : Pos} {e : Expr} {es : List Expr} {h : Ev (List D)}
theorem de_abs (hm : X.mg "abs" = none) (ha : DA X W (e :: es) h) (hg : Gl X "abs" := by rfl) (he : starEach (e :: es) X.env = (false, eval e X.env) :: starEach es X.env := by rfl) (hpl : (backTo pos (starEach es X.env)).any (·.1) = false := by rfl) : DE X W (.Call (.Name "abs" p) (e :: es) [] pos) (bnd h oAbs) :=
  de_callB call_abs (snd_1I (h' := fun i => .int (if i < 0 then -i else i)) (fun i H Q q => ⟨i, rfl, q⟩) fun i G => .int _) hm (by decide +kernel) ha hg (by decide) (by decide) he hpl
theorem de_max (hc : X.calm = true) (hm : X.mg "max" = none) (ha : DA X W (e :: es) h) (hg : Gl X "max" := by rfl) (he : starEach (e :: es) X.env = (false, eval e X.env) :: starEach es X.env := by rfl) (hpl : (backTo pos (starEach es X.env)).any (·.1) = false := by rfl) : DE X W (.Call (.Name "max" p) (e :: es) [] pos) (bnd h oMax) :=
  de_callB (call_max2 hc) (snd_2I (h' := fun i j => .int (if j > i then j else i)) (fun i j H Q q => ⟨i, j, rfl, q⟩) fun i j G => .int _) hm (by decide +kernel) ha hg (by decide) (by decide) he hpl
theorem de_min (hc : X.calm = true) (hm : X.mg "min" = none) (ha : DA X W (e :: es) h) (hg : Gl X "min" := by rfl) (he : starEach (e :: es) X.env = (false, eval e X.env) :: starEach es X.env := by rfl) (hpl : (backTo pos (starEach es X.env)).any (·.1) = false := by rfl) : DE X W (.Call (.Name "min" p) (e :: es) [] pos) (bnd h oMin) :=
  de_callB (call_min2 hc) (snd_2I (h' := fun i j => .int (if j < i then j else i)) (fun i j H Q q => ⟨i, j, rfl, q⟩) fun i j G => .int _) hm (by decide +kernel) ha hg (by decide) (by decide) he hpl
theorem snd_toInt {K : PySem.W.Frag} : SndC K W (fun xs H Q => (∃ i, xs = [.int i] ∧ Q (.int i) H) ∨ ∃ k, xs = [.bl k] ∧ Q (.int (if k then 1 else 0)) H) oToInt := by
  intro θ0 G0 xs ds hx
  unfold oToInt
  split
  · rename_i i
    obtain ⟨v, rfl, hv⟩ := vals1 hx
    rw [hv.int_of]
    intro ρ M r M' θ G σ H Q p s e rs rv kk
    exact .inl ⟨i, rfl, Snd.ret (K := K) (W := W) (R := RV K) (θ0 := θ0) (G0 := G0) (d := .int i) (fun _ G _ _ => .dat (.int _)) ρ M r M' θ G σ H Q p s e rs rv kk⟩
  · rename_i i
    obtain ⟨v, rfl, hv⟩ := vals1 hx
    rw [hv.bl_of]
    intro ρ M r M' θ G σ H Q p s e rs rv kk
    exact .inr ⟨i, rfl, Snd.ret (K := K) (W := W) (R := RV K) (θ0 := θ0) (G0 := G0) (d := .int (if i then 1 else 0)) (fun _ G _ _ => .dat (.int _)) ρ M r M' θ G σ H Q p s e rs rv kk⟩
  · exact Snd.stk
theorem de_toInt (hm : X.mg "int" = none) (ha : DA X W (e :: es) h) (hg : Gl X "int" := by rfl) (he : starEach (e :: es) X.env = (false, eval e X.env) :: starEach es X.env := by rfl) (hpl : (backTo pos (starEach es X.env)).any (·.1) = false := by rfl) : DE X W (.Call (.Name "int" p) (e :: es) [] pos) (bnd h oToInt) :=
  de_callTy call_int1 snd_toInt hm (by decide +kernel) ha hg (by decide) (by decide) he hpl
/-! sequences -/
def seqOf (d : D) (M : Mem) : Option (List D) := match d with
  | .tup ds => some ds
  | .lst ds => some ds
  | .scr ds => some ds
  | .ptr n => match M[n]? with
    | some (some ds) => some ds
    | _ => none
  | _ => none
theorem seq_of {K : PySem.W.Frag} {θ : List Th} {G H : Hp} {M : Mem} {v : V} {d : D} {ds : List D} (rs : Rs K θ G H M) (hv : Rv K θ G v d) (h : seqOf d M = some ds) : ∃ a xs, v = .ref a ∧ (SqL K H a xs ∨ SqT K H a xs) ∧ RpL K G xs ds := by
  unfold seqOf at h
  split at h
  · cases h
    cases hv with
    | dat hv =>
      cases hv with
      | tup q l e => exact ⟨_, _, rfl, .inr (seqT rs.sub q), l, e⟩
  · cases h
    cases hv with
    | dat hv =>
      cases hv with
      | lst q l e => exact ⟨_, _, rfl, .inl (.inl (.inl (rs.sub _ _ q))), l, e⟩
  · cases h
    cases hv with
    | dat hv =>
      cases hv with
      | scr q l e => exact ⟨_, _, rfl, .inl (rs.sub.seq q), l, e⟩
  · rename_i n
    split at h
    · rename_i es hm
      cases h
      cases hv with
      | dat hv => cases hv
      | ptr hn =>
        obtain ⟨g, xs, hx, rl⟩ := rs.mem n _ _ hn hm
        exact ⟨_, xs, rfl, .inl (.inl (.inl hx)), rl⟩
    · cases h
  · cases h
def oLen (ds : List D) : Ev D := fun ρ M => match ds with
  | [d] => match seqOf d M with
    | some es => some (.ok (.int es.length), M)
    | none => none
  | _ => none
theorem snd_len {K : PySem.W.Frag} : SndC K W (fun xs H Q => ∃ p ys, xs = [.ref p] ∧ (SqL K H p ys ∨ SqT K H p ys) ∧ Q (.int ys.length) H) oLen := by
  intro θ0 G0 xs ds hx ρ M r M' θ G σ H Q p s e rs rv kk
  unfold oLen at e
  split at e
  · rename_i d
    split at e
    · rename_i es he
      cases e
      obtain ⟨v, rfl, hv⟩ := vals1 hx
      obtain ⟨a, xs, rfl, q, rl⟩ := seq_of rs (hv.mono p s) he
      refine ⟨a, xs, rfl, q, (kk θ G H (List.prefix_refl _) (Same.refl _) rs).2 _ _ rfl ?_⟩
      rw [rl.len]
      exact .dat (.int _)
    · cases e
  · cases e
theorem de_len (hm : X.mg "len" = none) (ha : DA X W (e :: es) h) (hg : Gl X "len" := by rfl) (he : starEach (e :: es) X.env = (false, eval e X.env) :: starEach es X.env := by rfl) (hpl : (backTo pos (starEach es X.env)).any (·.1) = false := by rfl) : DE X W (.Call (.Name "len" p) (e :: es) [] pos) (bnd h oLen) :=
  de_callB call_len_seq snd_len hm PySem.boot_len ha hg (by decide) (by decide) he hpl
/-! x[i] -/
def oIx (d e : D) : Ev D := fun ρ M => match e, seqOf d M with
  | .int i, some ds => match atI ds i with
    | some x => some (.ok x, M)
    | none => none
  | _, _ => none
theorem atI_of {K : PySem.W.Frag} {G : Hp} {xs : List V} {ds : List D} (r : RpL K G xs ds) {i : Int} {d : D} (h : atI ds i = some d) : ∃ v, atI xs i = some v ∧ Rp K G v d := by
  unfold atI at h ⊢
  rw [r.len]
  cases q : ixN ds.length i with
  | none => rw [q] at h; cases h
  | some j =>
    rw [q] at h
    exact r.at h
def rIxLT (K : PySem.W.Frag) : R2 := fun x y H Q => rIxL K x y H Q ∨ rIxT K x y H Q
theorem ix_LT : IxR X (rIxLT X.K) := ix_list.or ix_tup
theorem snd_ix {K : PySem.W.Frag} : SndO K W (rIxLT K) oIx := by
  intro θ0 G0 x y d e hx hy ρ M r M' θ G σ H Q p s e1 rs rv kk
  unfold oIx at e1
  split at e1
  · rename_i i ds hd
    split at e1
    · rename_i z hz
      cases e1
      have hi := hy.int_of
      subst hi
      obtain ⟨a, xs, rfl, q, rl⟩ := seq_of rs (hx.mono p s) hd
      obtain ⟨v, ev, rz⟩ := atI_of rl hz
      have fin := (kk θ G H (List.prefix_refl _) (Same.refl _) rs).2 _ v rfl (.dat rz)
      rcases q with q | q
      · exact .inl ⟨a, xs, i, v, rfl, rfl, q, ev, fin⟩
      · exact .inr ⟨a, xs, i, v, rfl, rfl, q, ev, fin⟩
    · cases e1
  · cases e1
theorem de_ix (ha : DE X W a f) (hb : DE X W b g) (hs : PlainIx b := by exact fun _ _ => rfl) : DE X W (.Subscript a b pos) (bnd f fun d => bnd g fun e => oIx d e) := by
  obtain ⟨ta, pa, sa⟩ := ha
  obtain ⟨tb, pb, sb⟩ := hb
  exact ⟨_, pe_ix ix_LT pa pb hs, fun θ G => snd_op snd_ix sa sb⟩
end
end Bw
namespace Bw
open PySem PySem.Spec PyProof.Rows L2
inductive Out where
  | nx (ρ : Env) | rt (d : D) | bk (ρ : Env) | ct (ρ : Env) | ex (C : Str) (ρ : Env)
abbrev Sv := Env → Mem → Option (Out × Mem)
/-- what the ends ask -/
structure Cont (K : PySem.W.Frag) (W : WN) (Dn : Ends) (o : Out) (θ : List Th) (G H : Hp) : Prop where
  nx : ∀ ρ σ, o = .nx ρ → Rσ K θ G σ ρ → Dn.nx σ H
  bk : ∀ ρ σ, o = .bk ρ → Rσ K θ G σ ρ → Dn.bk σ H
  ct : ∀ ρ σ, o = .ct ρ → Rσ K θ G σ ρ → Dn.ct σ H
  rt : ∀ d v, o = .rt d → Rv K θ G v d → Dn.rt v H
  ex : ∀ C ρ σ, o = .ex C ρ → Rσ K θ G σ ρ → W C σ H
def SndS (K : PySem.W.Frag) (W : WN) (t : TS) (f : Sv) : Prop :=
  ∀ (ρ : Env) (M : Mem) (o : Out) (M' : Mem) (θ : List Th) (G : Hp) (σ : L2.St) (H : Hp) (Dn : Ends), f ρ M = some (o, M') → Rs K θ G H M → Rσ K θ G σ ρ →
    (∀ (θ' : List Th) (G' H' : Hp), θ <+: θ' → Same G G' → Rs K θ' G' H' M' → Cont K W Dn o θ' G' H') → t Dn σ H
def DS (X : Cx) (W : WN) (st : Stmt) (f : Sv) : Prop := ∃ t, PS X st t ∧ SndS X.K W t f
def DSs (X : Cx) (W : WN) (st : List Stmt) (f : Sv) : Prop := ∃ t, PSs X st t ∧ SndS X.K W t f
/-- an expression, then a statement by its value -/
def thenS {α : Type} (f : Ev α) (g : α → Sv) : Sv := fun ρ M => match f ρ M with
  | some (.ok a, M1) => g a ρ M1
  | some (.exc C, M1) => some (.ex C ρ, M1)
  | none => none
def sNext : Sv := fun ρ M => some (.nx ρ, M)
def sSeq (f g : Sv) : Sv := fun ρ M => match f ρ M with
  | some (.nx ρ1, M1) => g ρ1 M1
  | r => r
section
variable {X : Cx} {W : WN} {pos : Pos} {K : PySem.W.Frag}
theorem snd_then {A α : Type} {R : List Th → Hp → A → α → Prop} {t : L2.St → Hp → (A → Hp → Prop) → Prop} {f : Ev α} {k : A → TS} {g : α → Sv} (h : ∀ θ G, Snd K W R θ G t f)
    (h2 : ∀ θ G v d, R θ G v d → ∀ (ρ : Env) (M : Mem) (o : Out) (M' : Mem) (σ : L2.St) (H : Hp) (Dn : Ends), g d ρ M = some (o, M') → Rs K θ G H M → Rσ K θ G σ ρ →
      (∀ (θ' : List Th) (G' H' : Hp), θ <+: θ' → Same G G' → Rs K θ' G' H' M' → Cont K W Dn o θ' G' H') → k v Dn σ H) :
    SndS K W (fun Dn σ H => t σ H fun v H1 => k v Dn σ H1) (thenS f g) := by
  intro ρ M o M' θ G σ H Dn e rs rv kk
  unfold thenS at e
  cases q : f ρ M with
  | none => rw [q] at e; cases e
  | some z =>
    obtain ⟨r1, M1⟩ := z
    rw [q] at e
    refine h θ G ρ M r1 M1 θ G σ H _ (List.prefix_refl _) (Same.refl _) q rs rv fun θ' G' H' p' s' rs' => ?_
    cases r1 with
    | exc C =>
      simp at e
      obtain ⟨e1, e2⟩ := e
      subst e1; subst e2
      exact ⟨fun C' h => by cases h; exact (kk θ' G' H' p' s' rs').ex C ρ σ rfl (rv.mono p' s'), fun d v h => (by cases h)⟩
    | ok a =>
      refine ⟨fun C' h => (by cases h), fun d v h rel => ?_⟩
      cases h
      exact h2 θ' G' v a rel ρ M1 o M' σ H' Dn e rs' (rv.mono p' s') fun θ2 G2 H2 p2 s2 rs2 => kk θ2 G2 H2 (p'.trans p2) (s'.trans s2) rs2
theorem dss_nil : DSs X W [] sNext := by
  refine ⟨_, pss_nil, fun ρ M o M' θ G σ H Dn e rs rv kk => ?_⟩
  unfold sNext at e
  cases e
  exact (kk θ G H (List.prefix_refl _) (Same.refl _) rs).nx ρ σ rfl rv
theorem snd_seq {t u : TS} {f g : Sv} (s1 : SndS K W t f) (s2 : SndS K W u g) : SndS K W (tSeq t u) (sSeq f g) := by
  intro ρ M o M' θ G σ H Dn e rs rv kk
  unfold sSeq at e
  cases q : f ρ M with
  | none => rw [q] at e; cases e
  | some z =>
    obtain ⟨o1, M1⟩ := z
    rw [q] at e
    refine s1 ρ M o1 M1 θ G σ H _ q rs rv fun θ' G' H' p' s' rs' => ?_
    cases o1 with
    | nx ρ1 =>
      refine ⟨fun ρ2 σ2 h r2 => ?_, fun ρ2 σ2 h => (by cases h), fun ρ2 σ2 h => (by cases h), fun d v h => (by cases h), fun C ρ2 σ2 h => (by cases h)⟩
      cases h
      exact s2 ρ1 M1 o M' θ' G' σ2 H' Dn e rs' r2 fun θ2 G2 H2 p2 s2 rs2 => kk θ2 G2 H2 (p'.trans p2) (s'.trans s2) rs2
    | bk ρ1 =>
      cases e
      have c := kk θ' G' H' p' s' rs'
      exact ⟨fun ρ2 σ2 h => (by cases h), c.bk, c.ct, c.rt, c.ex⟩
    | ct ρ1 =>
      cases e
      have c := kk θ' G' H' p' s' rs'
      exact ⟨fun ρ2 σ2 h => (by cases h), c.bk, c.ct, c.rt, c.ex⟩
    | rt d =>
      cases e
      have c := kk θ' G' H' p' s' rs'
      exact ⟨fun ρ2 σ2 h => (by cases h), c.bk, c.ct, c.rt, c.ex⟩
    | ex C ρ1 =>
      cases e
      have c := kk θ' G' H' p' s' rs'
      exact ⟨fun ρ2 σ2 h => (by cases h), c.bk, c.ct, c.rt, c.ex⟩
theorem dss_cons {st : Stmt} {rest : List Stmt} {f g : Sv} (h1 : DS X W st f) (h2 : DSs X W rest g) : DSs X W (st :: rest) (sSeq f g) := by
  obtain ⟨t, p, s⟩ := h1
  obtain ⟨u, p2, s2⟩ := h2
  exact ⟨_, pss_cons p p2, snd_seq s s2⟩
theorem dss_one {st : Stmt} {f : Sv} (h1 : DS X W st f) : DSs X W [st] f := by
  obtain ⟨t, p, s⟩ := h1
  exact ⟨_, pss_one p, s⟩
/-! ### targets -/
abbrev Tg := D → Env → Option Env
/-- which slots a target writes -/
def Wr (sl : List Nat) (σ σ' : L2.St) : Prop := ∀ vs : List Nat, (∀ i ∈ sl, i ∈ vs) → wipe σ' vs = wipe σ vs
theorem wipe_set {σ : L2.St} {i : Nat} {x : Option V} : ∀ vs : List Nat, wipe (σ.set i x) vs = if i ∈ vs then wipe σ vs else (wipe σ vs).set i x
  | [] => by simp [wipe]
  | v :: vs => by
    unfold wipe
    rw [wipe_set vs]
    by_cases h : i ∈ vs
    · simp [h]
    · by_cases hv : i = v
      · subst hv; simp [h]
      · simp [h, hv, List.set_comm _ _ hv]
theorem Wr.refl {sl : List Nat} {σ : L2.St} : Wr sl σ σ := fun _ _ => rfl
def SndG (K : PySem.W.Frag) (g : TG) (b : Tg) (sl : List Nat) : Prop := ∀ (d : D) (ρ ρ' : Env) (θ : List Th) (G : Hp) (σ : L2.St) (H : Hp) (M : Mem) (Q : L2.St → Hp → Prop) (v : V), b d ρ = some ρ' → Rs K θ G H M → Rσ K θ G σ ρ → Rv K θ G v d → (∀ σ', Rσ K θ G σ' ρ' → Wr sl σ σ' → Q σ' H) → g v σ H Q
def SndGs (K : PySem.W.Frag) (g : TGs) (b : List D → Env → Option Env) (sl : List Nat) : Prop := ∀ (ds : List D) (ρ ρ' : Env) (θ : List Th) (G : Hp) (σ : L2.St) (H : Hp) (M : Mem) (Q : L2.St → Hp → Prop) (vs : List V), b ds ρ = some ρ' → Rs K θ G H M → Rσ K θ G σ ρ → RpL K G vs ds → (∀ σ', Rσ K θ G σ' ρ' → Wr sl σ σ' → Q σ' H) → g vs σ H Q
def DG (X : Cx) (tg : Expr) (b : Tg) (sl : List Nat) : Prop := ∃ g, PG X tg g ∧ SndG X.K g b sl
def DGs (X : Cx) (tg : List Expr) (b : List D → Env → Option Env) (sl : List Nat) : Prop := ∃ g, PGs X tg g ∧ SndGs X.K g b sl
def gNm (i : Nat) : Tg := fun d ρ => some (ρ.set i (some d))
def gNl : List D → Env → Option Env := fun ds ρ => match ds with
  | [] => some ρ
  | _ => none
def gCn (b : Tg) (c : List D → Env → Option Env) : List D → Env → Option Env := fun ds ρ => match ds with
  | d :: r => match b d ρ with
    | some ρ1 => c r ρ1
    | none => none
  | [] => none
def gTp (n : Nat) (c : List D → Env → Option Env) : Tg := fun d ρ => match d with
  | .tup ds => if ds.length = n then c ds ρ else none
  | _ => none
def gLs (n : Nat) (c : List D → Env → Option Env) : Tg := fun d ρ => match d with
  | .lst ds => if ds.length = n then c ds ρ else none
  | _ => none
theorem dg_name (i : Nat) {x : Str} (hN : X.N.Nodup) (hi : X.N[i]? = some x := by rfl) (hx : Loc X.env.scope x := by first | exact .inl rfl | exact .inr rfl) (hf : X.fn x = true ∨ X.env.scope.names.lookup x = some .local := by first | exact .inl rfl | exact .inr rfl) : DG X (.Name x pos) (gNm i) [i] := by
  refine ⟨_, pg_name hN hi hx hf, fun d ρ ρ' θ G σ H M Q v e rs rv hv k => ?_⟩
  unfold gNm at e
  cases e
  exact k _ (rv.set hv) fun vs h => by rw [wipe_set, if_pos (h i (by simp))]
theorem dgs_nil : DGs X [] gNl [] := by
  refine ⟨_, pgs_nil, fun ds ρ ρ' θ G σ H M Q vs e rs rv hv k => ?_⟩
  unfold gNl at e
  split at e
  · cases e
    exact ⟨hv.nil_of, k _ rv Wr.refl⟩
  · cases e
theorem dgs_cons {e : Expr} {es : List Expr} {b : Tg} {c : List D → Env → Option Env} {sl sl2 : List Nat} (h1 : DG X e b sl) (h2 : DGs X es c sl2) (hs : (assignEach (e :: es) X.env).map (·.2) = assign e X.env :: (assignEach es X.env).map (·.2) := by rfl) : DGs X (e :: es) (gCn b c) (sl ++ sl2) := by
  obtain ⟨g, p, s⟩ := h1
  obtain ⟨u, p2, s2⟩ := h2
  refine ⟨_, pgs_cons p p2 hs, fun ds ρ ρ' θ G σ H M Q vs e rs rv hv k => ?_⟩
  unfold gCn at e
  split at e
  · rename_i d r
    split at e
    · rename_i ρ1 h1
      obtain ⟨v, ys, rfl, hv1, hvs⟩ := hv.uncons
      exact ⟨v, ys, rfl, s d ρ ρ1 θ G σ H M _ v h1 rs rv (.dat hv1) fun σ1 r1 w1 => s2 r ρ1 ρ' θ G σ1 H M Q ys e rs r1 hvs fun σ2 r2 w2 => k σ2 r2 fun vs h => (w2 vs fun i hi => h i (by simp [hi])).trans (w1 vs fun i hi => h i (by simp [hi]))⟩
    · cases e
  · cases e
theorem dg_tup {es : List Expr} {k n : Nat} {c : List D → Env → Option Env} {sl : List Nat} (hc : X.calm = true) (h : DGs X es c sl) (hn : (assignEach es X.env).length = n := by rfl) (hst : (assignEach es X.env).findIdx? (·.1) = none := by rfl) : DG X (.Tuple es k pos) (gTp n c) sl := by
  obtain ⟨g, p, s⟩ := h
  refine ⟨_, pg_tup hc p hn hst, fun d ρ ρ' θ G σ H M Q v e rs rv hv k => ?_⟩
  unfold gTp at e
  split at e
  · rename_i ds
    split at e
    · rename_i hl
      cases hv with
      | dat hv =>
        cases hv with
        | tup q l g => exact ⟨_, _, rfl, seqT rs.sub q, l.trans hl, s ds ρ ρ' θ G σ H M Q _ e rs rv ⟨l, g⟩ k⟩
    · cases e
  · cases e
theorem dg_lst {es : List Expr} {k n : Nat} {c : List D → Env → Option Env} {sl : List Nat} (hc : X.calm = true) (h : DGs X es c sl) (hn : (assignEach es X.env).length = n := by rfl) (hst : (assignEach es X.env).findIdx? (·.1) = none := by rfl) : DG X (.Tuple es k pos) (gLs n c) sl := by
  obtain ⟨g, p, s⟩ := h
  refine ⟨_, pg_lst hc p hn hst, fun d ρ ρ' θ G σ H M Q v e rs rv hv k => ?_⟩
  unfold gLs at e
  split at e
  · rename_i ds
    split at e
    · rename_i hl
      cases hv with
      | dat hv =>
        cases hv with
        | lst q l g => exact ⟨_, _, rfl, .inl (.inl (rs.sub _ _ q)), l.trans hl, s ds ρ ρ' θ G σ H M Q _ e rs rv ⟨l, g⟩ k⟩
    · cases e
  · cases e
/-! ### statements -/
def sAsg (f : Ev D) (b : Tg) : Sv := thenS f fun d ρ M => match b d ρ with
  | some ρ1 => some (.nx ρ1, M)
  | none => none
theorem snd_asg {t : TE} {g : TG} {f : Ev D} {b : Tg} {sl : List Nat} (s : ∀ θ G, Snd K W (RV K) θ G t f) (s2 : SndG K g b sl) : SndS K W (tAsg t g) (sAsg f b) := by
  refine snd_then (k := fun v (Dn : Ends) σ H1 => g v σ H1 Dn.nx) s fun θ G v d hv ρ M o M' σ H Dn e rs rv kk => ?_
  split at e
  · rename_i ρ1 h1
    cases e
    exact s2 d ρ ρ1 θ G σ H M _ v h1 rs rv hv fun σ' r' _ => (kk θ G H (List.prefix_refl _) (Same.refl _) rs).nx ρ1 σ' rfl r'
  · cases e
theorem ds_set (i : Nat) {x : Str} {e : Expr} {f : Ev D} {pos' : Pos} (hN : X.N.Nodup) (he : DE X W e f) (hi : X.N[i]? = some x := by rfl) (hx : Loc X.env.scope x := by first | exact .inl rfl | exact .inr rfl) (hs : swapsWith e (some (.Name x pos')) pos.line X.env = pure false := by rfl) (hf : X.fn x = true ∨ X.env.scope.names.lookup x = some .local := by first | exact .inl rfl | exact .inr rfl) :
    DS X W (.Assign [.Name x pos'] e pos) (sAsg f (gNm i)) := by
  obtain ⟨t, p, s⟩ := he
  refine ⟨_, ps_set hN hi hx p hs hf, snd_asg (sl := [i]) s fun d ρ ρ' θ G σ H M Q v e rs rv hv k => ?_⟩
  unfold gNm at e
  cases e
  exact k _ (rv.set hv) fun vs h => by rw [wipe_set, if_pos (h i (by simp))]
theorem ds_asg {tg e : Expr} {f : Ev D} {b : Tg} {sl : List Nat} (he : DE X W e f) (hg : DG X tg b sl) (hs : swapsWithSole [tg] e pos.line X.env = pure false := by rfl) (hw : swappedStores [tg] e X.env = pure none := by rfl)
    (h1 : (assignEach [tg] X.env).map (·.2) = [assign tg X.env] := by rfl) : DS X W (.Assign [tg] e pos) (sAsg f b) := by
  obtain ⟨t, p, s⟩ := he
  obtain ⟨g, p2, s2⟩ := hg
  exact ⟨_, ps_asg p p2 hs hw h1, snd_asg s s2⟩
/-- a, b = x, y -/
def sPar (i j : Nat) (f : Ev (List D)) : Sv := thenS f fun ds ρ M => match ds with
  | [d, e] => some (.nx ((ρ.set i (some d)).set j (some e)), M)
  | _ => none
theorem ds_par (i j : Nat) {x y : Str} {a b : Expr} {f : Ev (List D)} {px py pt : Pos} {kt k2 : Nat} {pt2 : Pos} (hN : X.N.Nodup) (ha : DA X W [a, b] f) (hc : X.calm = true := by rfl) (hi : X.N[i]? = some x := by rfl) (hj : X.N[j]? = some y := by rfl) (hij : i ≠ j := by decide)
    (hx : X.env.scope.names.lookup x = some .local := by rfl) (hy : X.env.scope.names.lookup y = some .local := by rfl)
    (hw : swappedStores [.Tuple [.Name x px, .Name y py] kt pt] (.Tuple [a, b] k2 pt2) X.env = pure (some [x, y]) := by rfl)
    (hs : swapsWithSole [.Tuple [.Name x px, .Name y py] kt pt] (.Tuple [a, b] k2 pt2) pos.line X.env = pure false := by rfl) :
    DS X W (.Assign [.Tuple [.Name x px, .Name y py] kt pt] (.Tuple [a, b] k2 pt2) pos) (sPar i j f) := by
  obtain ⟨t, p, s⟩ := ha
  refine ⟨_, ps_par hc hN hi hj hij hx hy p hw hs, ?_⟩
  refine snd_then (k := fun vs (Dn : Ends) σ H1 => ∃ v w, vs = [v, w] ∧ Dn.nx ((σ.set i (some v)).set j (some w)) H1) s fun θ G vs ds hv ρ M o M' σ H Dn e rs rv kk => ?_
  split at e
  · rename_i d e'
    cases e
    obtain ⟨v, u, rfl, h1, h2⟩ := vals2 hv
    exact ⟨v, u, rfl, (kk θ G H (List.prefix_refl _) (Same.refl _) rs).nx _ _ rfl ((rv.set h1).set h2)⟩
  · cases e
def sRet (f : Ev D) : Sv := thenS f fun d _ M => some (.rt d, M)
theorem ds_ret {e : Expr} {f : Ev D} (he : DE X W e f) : DS X W (.Return (some e) pos) (sRet f) := by
  obtain ⟨t, p, s⟩ := he
  refine ⟨_, ps_ret p, ?_⟩
  refine snd_then (k := fun v (Dn : Ends) σ H1 => Dn.rt v H1) s fun θ G v d hv ρ M o M' σ H Dn e rs rv kk => ?_
  cases e
  exact (kk θ G H (List.prefix_refl _) (Same.refl _) rs).rt d v rfl hv
def sExpr (f : Ev D) : Sv := thenS f fun _ ρ M => some (.nx ρ, M)
theorem ds_expr {e : Expr} {f : Ev D} (he : DE X W e f) (hs : swapsWith e none pos.line X.env = pure false := by rfl) : DS X W (.Expr e pos) (sExpr f) := by
  obtain ⟨t, p, s⟩ := he
  refine ⟨_, ps_expr p hs, ?_⟩
  refine snd_then (k := fun v (Dn : Ends) σ H1 => Dn.nx σ H1) s fun θ G v d hv ρ M o M' σ H Dn e rs rv kk => ?_
  cases e
  exact (kk θ G H (List.prefix_refl _) (Same.refl _) rs).nx ρ σ rfl rv
def sIf (c : Ev Bool) (f g : Sv) : Sv := thenS c fun b => if b = true then f else g
theorem ds_if {c : Expr} {a b : List Stmt} {h : Ev Bool} {f g : Sv} (hc : DT X W c h) (ha : DSs X W a f) (hb : DSs X W b g) : DS X W (.If c a b pos) (sIf h f g) := by
  obtain ⟨t, p, s⟩ := hc
  obtain ⟨u, p2, s2⟩ := ha
  obtain ⟨z, p3, s3⟩ := hb
  refine ⟨_, ps_if p p2 p3, ?_⟩
  refine snd_then (k := fun (b : Bool) (Dn : Ends) σ H1 => if b = true then u Dn σ H1 else z Dn σ H1) s fun θ G v d hv ρ M o M' σ H Dn e rs rv kk => ?_
  cases hv
  cases v with
  | true =>
    rw [if_pos rfl] at e ⊢
    exact s2 ρ M o M' θ G σ H Dn e rs rv kk
  | false =>
    rw [if_neg Bool.false_ne_true] at e ⊢
    exact s3 ρ M o M' θ G σ H Dn e rs rv kk
def sNever : Sv := fun _ _ => none
theorem ds_never {st : Stmt} : DS X W st sNever := ⟨_, ps_never, fun ρ M o M' θ G σ H Dn e => by cases e⟩
theorem dss_never {st : List Stmt} : DSs X W st sNever := ⟨_, pss_never, fun ρ M o M' θ G σ H Dn e => by cases e⟩
theorem ds_pass : DS X W (.Pass pos) sNext := by
  refine ⟨_, ps_pass, fun ρ M o M' θ G σ H Dn e rs rv kk => ?_⟩
  unfold sNext at e
  cases e
  exact (kk θ G H (List.prefix_refl _) (Same.refl _) rs).nx ρ σ rfl rv
/-! ### while -/
def whileF (c : Ev Bool) (b : Sv) : Nat → Sv
  | 0 => fun _ _ => none
  | n + 1 => fun ρ M => match c ρ M with
    | some (.ok true, M1) => match b ρ M1 with
      | some (.nx ρ2, M2) => whileF c b n ρ2 M2
      | some (.ct ρ2, M2) => whileF c b n ρ2 M2
      | some (.bk ρ2, M2) => some (.nx ρ2, M2)
      | r => r
    | some (.ok false, M1) => some (.nx ρ, M1)
    | some (.exc C, M1) => some (.ex C ρ, M1)
    | none => none
theorem whileF_succ {c : Ev Bool} {b : Sv} : ∀ {n : Nat} {ρ : Env} {M : Mem} {r : Out × Mem}, whileF c b n ρ M = some r → whileF c b (n + 1) ρ M = some r
  | 0, ρ, M, r, h => by cases h
  | n + 1, ρ, M, r, h => by
    unfold whileF at h ⊢
    cases q : c ρ M with
    | none => rw [q] at h; cases h
    | some z =>
      obtain ⟨x, M1⟩ := z
      rw [q] at h
      cases x with
      | exc C => exact h
      | ok k =>
        cases k with
        | false => exact h
        | true =>
          dsimp only at h ⊢
          cases q2 : b ρ M1 with
          | none => rw [q2] at h; cases h
          | some z2 =>
            obtain ⟨o, M2⟩ := z2
            rw [q2] at h
            cases o with
            | nx ρ2 => exact whileF_succ h
            | ct ρ2 => exact whileF_succ h
            | bk ρ2 => exact h
            | rt d => exact h
            | ex C ρ2 => exact h
theorem whileF_le {c : Ev Bool} {b : Sv} {m n : Nat} (h : m ≤ n) {ρ : Env} {M : Mem} {r : Out × Mem} (e : whileF c b m ρ M = some r) : whileF c b n ρ M = some r := by
  induction h with
  | refl => exact e
  | step _ ih => exact whileF_succ ih
open Classical in
noncomputable def sWhile (c : Ev Bool) (b : Sv) : Sv := fun ρ M => if h : ∃ r n, whileF c b n ρ M = some r then some (Classical.choose h) else none
theorem sWhile_eq {c : Ev Bool} {b : Sv} {n : Nat} {ρ : Env} {M : Mem} {r : Out × Mem} (e : whileF c b n ρ M = some r) : sWhile c b ρ M = some r := by
  have h : ∃ r n, whileF c b n ρ M = some r := ⟨r, n, e⟩
  unfold sWhile
  rw [dif_pos h]
  obtain ⟨m, hm⟩ := Classical.choose_spec h
  have e1 := whileF_le (Nat.le_max_left m n) hm
  have e2 := whileF_le (Nat.le_max_right m n) e
  rw [e1] at e2
  exact e2
theorem sWhile_of {c : Ev Bool} {b : Sv} {ρ : Env} {M : Mem} {r : Out × Mem} (e : sWhile c b ρ M = some r) : ∃ n, whileF c b n ρ M = some r := by
  unfold sWhile at e
  split at e
  · rename_i h
    obtain ⟨m, hm⟩ := Classical.choose_spec h
    exact ⟨m, by rw [hm]; exact e⟩
  · cases e
theorem ds_while {c : Expr} {body : List Stmt} {h : Ev Bool} {f : Sv} (hp : PassesOwn (model X.prog X.w) X.A X.env X.xe) (hc : DT X W c h) (hb : DSs X W body f) : DS X W (.While c body [] pos) (sWhile h f) := by
  obtain ⟨tc, p, s⟩ := hc
  obtain ⟨tb, p2, s2⟩ := hb
  refine ⟨_, ps_while hp p p2, fun ρ M o M' θ G σ H Dn e rs rv kk => ?_⟩
  obtain ⟨n, hn⟩ := sWhile_of e
  refine ⟨fun m σ1 H1 => ∃ ρ1 M1 θ1 G1, θ <+: θ1 ∧ Same G G1 ∧ Rs X.K θ1 G1 H1 M1 ∧ Rσ X.K θ1 G1 σ1 ρ1 ∧ whileF h f m ρ1 M1 = some (o, M'), ⟨n, ρ, M, θ, G, List.prefix_refl _, Same.refl _, rs, rv, hn⟩, ?_⟩
  rintro m σ1 H1 ⟨ρ1, M1, θ1, G1, pr, sa, rs1, rv1, w⟩
  cases m with
  | zero => cases w
  | succ m =>
    unfold whileF at w
    cases q : h ρ1 M1 with
    | none => rw [q] at w; cases w
    | some z =>
      obtain ⟨x, M2⟩ := z
      rw [q] at w
      refine s θ1 G1 ρ1 M1 x M2 θ1 G1 σ1 H1 _ (List.prefix_refl _) (Same.refl _) q rs1 rv1 fun θ2 G2 H2 p2 sa2 rs2 => ?_
      cases x with
      | exc C =>
        cases w
        exact ⟨fun C' h => by cases h; exact (kk θ2 G2 H2 (pr.trans p2) (sa.trans sa2) rs2).ex C ρ1 σ1 rfl (rv1.mono p2 sa2), fun d v h => (by cases h)⟩
      | ok k =>
        refine ⟨fun C' h => (by cases h), fun d v h hv => ?_⟩
        cases h
        cases hv
        cases k with
        | false =>
          cases w
          rw [if_neg Bool.false_ne_true]
          exact (kk θ2 G2 H2 (pr.trans p2) (sa.trans sa2) rs2).nx ρ1 σ1 rfl (rv1.mono p2 sa2)
        | true =>
          rw [if_pos rfl]
          dsimp only at w
          refine ⟨fun σ3 H3 => ∃ ρ3 M3 θ3 G3, θ <+: θ3 ∧ Same G G3 ∧ Rs X.K θ3 G3 H3 M3 ∧ Rσ X.K θ3 G3 σ3 ρ3 ∧ whileF h f m ρ3 M3 = some (o, M'), fun σ' H' hN => ⟨m, Nat.lt_succ_self m, hN⟩, ?_⟩
          cases q2 : f ρ1 M2 with
          | none => rw [q2] at w; cases w
          | some z2 =>
            obtain ⟨o2, M3⟩ := z2
            rw [q2] at w
            refine s2 ρ1 M2 o2 M3 θ2 G2 σ1 H2 _ q2 rs2 (rv1.mono p2 sa2) fun θ3 G3 H3 p3 sa3 rs3 => ?_
            have pr3 := (pr.trans p2).trans p3
            have sm3 := (sa.trans sa2).trans sa3
            cases o2 with
            | nx ρ3 => exact ⟨fun ρ4 σ4 h r4 => by cases h; exact ⟨ρ3, M3, θ3, G3, pr3, sm3, rs3, r4, w⟩, fun _ _ h => (by cases h), fun _ _ h => (by cases h), fun _ _ h => (by cases h), fun _ _ _ h => (by cases h)⟩
            | ct ρ3 => exact ⟨fun _ _ h => (by cases h), fun _ _ h => (by cases h), fun ρ4 σ4 h r4 => by cases h; exact ⟨ρ3, M3, θ3, G3, pr3, sm3, rs3, r4, w⟩, fun _ _ h => (by cases h), fun _ _ _ h => (by cases h)⟩
            | bk ρ3 =>
              cases w
              exact ⟨fun _ _ h => (by cases h), fun ρ4 σ4 h r4 => by cases h; exact (kk θ3 G3 H3 pr3 sm3 rs3).nx ρ3 σ4 rfl r4, fun _ _ h => (by cases h), fun _ _ h => (by cases h), fun _ _ _ h => (by cases h)⟩
            | rt d =>
              cases w
              exact ⟨fun _ _ h => (by cases h), fun _ _ h => (by cases h), fun _ _ h => (by cases h), (kk θ3 G3 H3 pr3 sm3 rs3).rt, fun _ _ _ h => (by cases h)⟩
            | ex C ρ3 =>
              cases w
              exact ⟨fun _ _ h => (by cases h), fun _ _ h => (by cases h), fun _ _ h => (by cases h), fun _ _ h => (by cases h), (kk θ3 G3 H3 pr3 sm3 rs3).ex⟩
/-! ### for -/
def forF (b : Tg) (f : Sv) : List D → Sv
  | [] => fun ρ M => some (.nx ρ, M)
  | d :: ds => fun ρ M => match b d ρ with
    | none => none
    | some ρ1 => match f ρ1 M with
      | some (.nx ρ2, M2) => forF b f ds ρ2 M2
      | some (.ct ρ2, M2) => forF b f ds ρ2 M2
      | some (.bk ρ2, M2) => some (.nx ρ2, M2)
      | r => r
/-- what an iterator yields, from θ, G on -/
structure RI (K : PySem.W.Frag) (θ0 : List Th) (G0 : Hp) (J : It) (ds : List D) : Prop where
  go : ∀ (i : Nat) (θ : List Th) (G H : Hp) (M : Mem), θ0 <+: θ → Same G0 G → Rs K θ G H M → i < ds.length → J.go i H
  stop : ∀ (θ : List Th) (G H : Hp) (M : Mem), θ0 <+: θ → Same G0 G → Rs K θ G H M → J.stop ds.length H
  yld : ∀ (i : Nat) (d : D) (θ : List Th) (G H : Hp) (M : Mem) (x : V) (H' : Hp), θ0 <+: θ → Same G0 G → Rs K θ G H M → ds[i]? = some d → J.yld i H x H' → ∃ G', Same G G' ∧ Rs K θ G' H' M ∧ Rv K θ G' x d
def DI (X : Cx) (W : WN) (tg iter : Expr) (f : Ev (List D)) : Prop := ∃ wi, PI X tg iter wi ∧ ∀ θ G, Snd X.K W (RI X.K) θ G wi f
def sFor (h : Ev (List D)) (b : Tg) (f : Sv) : Sv := thenS h fun ds => forF b f ds
theorem ds_for {tg iter : Expr} {body : List Stmt} {h : Ev (List D)} {b : Tg} {f : Sv} {sl : List Nat} (hp : PassesOwn (model X.prog X.w) X.A X.env X.xe) (hi : DI X W tg iter h) (hg : DG X tg b sl) (hb : DSs X W body f) (hc : X.calm = true := by rfl)
    (hs : ∀ x, foldedSetIterable iter X.env x = pure x := by intro _; rfl) : DS X W (.For tg iter body [] pos) (sFor h b f) := by
  obtain ⟨wi, p, s⟩ := hi
  obtain ⟨g, pg, sg⟩ := hg
  obtain ⟨tb, p2, s2⟩ := hb
  refine ⟨_, ps_for hp hc p pg p2 hs, ?_⟩
  refine snd_then (R := RI X.K) (k := fun (J : It) (Dn : Ends) σ H1 => ∃ W : Nat → Nat → L2.St → Hp → Prop, (∃ m, W 0 m σ H1) ∧ ∀ i m σ H, W i m σ H →
    (J.stop i H ∧ Dn.nx σ H) ∨ (J.go i H ∧ ∃ N : L2.St → Hp → Prop, (∀ σ' H', N σ' H' → ∃ m', m' < m ∧ W (i + 1) m' σ' H') ∧ ∀ x H', J.yld i H x H' → g x σ H' fun σ2 H2 => tb { Dn with nx := N, ct := N, bk := Dn.nx } σ2 H2)) s ?_
  intro θ G J ds hJ ρ M o M' σ H Dn e rs rv kk
  refine ⟨fun i m σ1 H1 => ∃ ρ1 M1 θ1 G1, m + i = ds.length ∧ θ <+: θ1 ∧ Same G G1 ∧ Rs X.K θ1 G1 H1 M1 ∧ Rσ X.K θ1 G1 σ1 ρ1 ∧ forF b f (ds.drop i) ρ1 M1 = some (o, M'), ⟨ds.length, ρ, M, θ, G, rfl, List.prefix_refl _, Same.refl _, rs, rv, e⟩, ?_⟩
  rintro i m σ1 H1 ⟨ρ1, M1, θ1, G1, hm, pr, sa, rs1, rv1, w⟩
  by_cases hi : i < ds.length
  · right
    have hd : ds.drop i = ds[i] :: ds.drop (i + 1) := List.drop_eq_getElem_cons hi
    rw [hd] at w
    unfold forF at w
    refine ⟨hJ.go i θ1 G1 H1 M1 pr sa rs1 hi, fun σ3 H3 => ∃ ρ3 M3 θ3 G3, θ <+: θ3 ∧ Same G G3 ∧ Rs X.K θ3 G3 H3 M3 ∧ Rσ X.K θ3 G3 σ3 ρ3 ∧ forF b f (ds.drop (i + 1)) ρ3 M3 = some (o, M'), fun σ' H' hN => ?_, fun x H' hy => ?_⟩
    · obtain ⟨ρ3, M3, θ3, G3, a1, a2, a3, a4, a5⟩ := hN
      exact ⟨m - 1, by omega, ρ3, M3, θ3, G3, by omega, a1, a2, a3, a4, a5⟩
    · obtain ⟨G2, sa2, rs2, rx⟩ := hJ.yld i ds[i] θ1 G1 H1 M1 x H' pr sa rs1 (List.getElem?_eq_getElem hi) hy
      cases q : b ds[i] ρ1 with
      | none => rw [q] at w; cases w
      | some ρ2 =>
        rw [q] at w
        dsimp only at w
        refine sg ds[i] ρ1 ρ2 θ1 G2 σ1 H' M1 _ x q rs2 (rv1.mono (List.prefix_refl _) sa2) rx fun σ2 r2 _ => ?_
        cases q2 : f ρ2 M1 with
        | none => rw [q2] at w; cases w
        | some z2 =>
          obtain ⟨o2, M3⟩ := z2
          rw [q2] at w
          refine s2 ρ2 M1 o2 M3 θ1 G2 σ2 H' _ q2 rs2 r2 fun θ3 G3 H3 p3 sa3 rs3 => ?_
          have pr3 := pr.trans p3
          have sm3 := (sa.trans sa2).trans sa3
          cases o2 with
          | nx ρ3 => exact ⟨fun ρ4 σ4 h r4 => by cases h; exact ⟨ρ3, M3, θ3, G3, pr3, sm3, rs3, r4, w⟩, fun _ _ h => (by cases h), fun _ _ h => (by cases h), fun _ _ h => (by cases h), fun _ _ _ h => (by cases h)⟩
          | ct ρ3 => exact ⟨fun _ _ h => (by cases h), fun _ _ h => (by cases h), fun ρ4 σ4 h r4 => by cases h; exact ⟨ρ3, M3, θ3, G3, pr3, sm3, rs3, r4, w⟩, fun _ _ h => (by cases h), fun _ _ _ h => (by cases h)⟩
          | bk ρ3 =>
            cases w
            exact ⟨fun _ _ h => (by cases h), fun ρ4 σ4 h r4 => by cases h; exact (kk θ3 G3 H3 pr3 sm3 rs3).nx ρ3 σ4 rfl r4, fun _ _ h => (by cases h), fun _ _ h => (by cases h), fun _ _ _ h => (by cases h)⟩
          | rt d =>
            cases w
            exact ⟨fun _ _ h => (by cases h), fun _ _ h => (by cases h), fun _ _ h => (by cases h), (kk θ3 G3 H3 pr3 sm3 rs3).rt, fun _ _ _ h => (by cases h)⟩
          | ex C ρ3 =>
            cases w
            exact ⟨fun _ _ h => (by cases h), fun _ _ h => (by cases h), fun _ _ h => (by cases h), fun _ _ h => (by cases h), (kk θ3 G3 H3 pr3 sm3 rs3).ex⟩
  · left
    have hd : ds.drop i = [] := List.drop_eq_nil_of_le (by omega)
    rw [hd] at w
    cases w
    have hi2 : i = ds.length := by omega
    subst hi2
    exact ⟨hJ.stop θ1 G1 H1 _ pr sa rs1, (kk θ1 G1 H1 pr sa rs1).nx ρ1 σ1 rfl rv1⟩
end
end Bw
namespace Bw
open PySem PySem.Spec PyProof.Rows L2
/-! ### the heap once more -/
theorem Rs.take {K : PySem.W.Frag} {θ : List Th} {G H : Hp} {M : Mem} (r : Rs K θ G H M) (n : Nat) : Rs K (θ.take n) G H (M.take n) := by
  have gt : ∀ (m : Nat) (a : Th), (θ.take n)[m]? = some a → θ[m]? = some a := fun m a h => by
    rw [List.getElem?_take] at h
    split at h
    · exact h
    · cases h
  have gm : ∀ (m : Nat) (c : Option (List D)), (M.take n)[m]? = some c → M[m]? = some c := fun m a h => by
    rw [List.getElem?_take] at h
    split at h
    · exact h
    · cases h
  refine ⟨r.sub, by simp [r.len], r.nd.sublist ((List.take_sublist _ _).map _), fun m a h => r.live m a (gt m a h), fun m a ds h1 h2 => r.mem m a ds (gt m _ h1) (gm m _ h2), fun m a b es h1 h2 => r.dic m a b es (gt m _ h1) (gm m _ h2), fun m a ds h1 h2 => ?_⟩
  obtain ⟨g, xs, hx, rl⟩ := r.nst m a ds (gt m _ h1) (gm m _ h2)
  have hm : m < n := by
    rw [List.getElem?_take] at h1
    split at h1
    · assumption
    · cases h1
  refine ⟨g, xs, hx, ?_⟩
  rw [List.take_take, Nat.min_eq_left (Nat.le_of_lt hm)]; exact rl
theorem Rs.freeze {K : PySem.W.Frag} {θ : List Th} {G H : Hp} {M : Mem} (r : Rs K θ G H M) {n : Nat} {a : Addr} {ds : List D} (h1 : θ[n]? = some (a, .lst)) (h2 : M[n]? = some (some ds)) :
    ∃ G', Same G G' ∧ Rp K G' (.ref a) (.lst ds) ∧ Rs K θ G' H (M.set n none) := by
  obtain ⟨g, xs, hx, rl⟩ := r.mem n a ds h1 h2
  have sm : Same G (upd G a (.lst xs)) := same_upd g
  have old : ∀ (m : Nat) (c : List D), (M.set n none)[m]? = some (some c) → n ≠ m ∧ M[m]? = some (some c) := fun m c e2 => by
    by_cases hm : n = m
    · subst hm
      rw [List.getElem?_set_self'] at e2
      cases q : M[n]? with
      | none => rw [q] at e2; cases e2
      | some z => rw [q] at e2; cases e2
    · rw [List.getElem?_set_ne hm] at e2
      exact ⟨hm, e2⟩
  refine ⟨upd G a (.lst xs), sm, rp_lst upd_same (rl.mono sm), fun b o e => ?_, by simp [r.len], r.nd, r.live, fun m b es e1 e2 => ?_, fun m b z es e1 e2 => ?_, fun m b es e1 e2 => ?_⟩
  · by_cases hb : b = a
    · subst hb; rw [upd_same] at e; cases e; exact hx
    · rw [upd_ne hb] at e; exact r.sub _ _ e
  · obtain ⟨hm, e2⟩ := old m es e2
    obtain ⟨g2, ys, hy, rl2⟩ := r.mem m b es e1 e2
    have hb : b ≠ a := fun z => hm (r.inj h1 e1 z.symm)
    exact ⟨by rw [upd_ne hb]; exact g2, ys, hy, rl2.mono sm⟩
  · obtain ⟨hm, e2⟩ := old m _ e2
    obtain ⟨ys, hy, rl2⟩ := r.dic m b z es e1 e2
    have hb : b ≠ a := fun z => hm (r.inj h1 e1 z.symm)
    exact ⟨ys, hy.keep sm (fun g => by rw [upd_ne hb]; exact g) rfl, rl2.mono sm⟩
  · obtain ⟨hm, e2⟩ := old m es e2
    obtain ⟨g2, ys, hy, rl2⟩ := r.nst m b es e1 e2
    have hb : b ≠ a := fun z => hm (r.inj h1 e1 z.symm)
    exact ⟨by rw [upd_ne hb]; exact g2, ys, hy, rl2.same sm⟩
/-- a numbered thing is changed -/
theorem Rs.putT {K : PySem.W.Frag} {θ : List Th} {G H : Hp} {M : Mem} (r : Rs K θ G H M) {n : Nat} {a : Addr} {k : Kd} {o : HO} {c : Option (List D)} (h1 : θ[n]? = some (a, k)) (g : G a = none)
    (hm : ∀ ds, k = .lst → c = some ds → ∃ xs, o = .lst xs ∧ RpL K G xs ds) (hd : ∀ b es, k = .dic → c = some (enc b es) → b = false ∧ ∃ xs, o = DH a xs ∧ RpE K G xs es) (hn : ∀ ds, k = .nst → c = some ds → ∃ xs, o = .lst xs ∧ RvL K (θ.take n) G xs ds) :
    Rs K θ G (upd H a o) (M.set n c) := by
  have i1 : n < θ.length := (List.getElem?_eq_some_iff.mp h1).1
  have cell : ∀ (m : Nat) (b : Addr) (k2 : Kd) (z : Option (List D)), θ[m]? = some (b, k2) → (M.set n c)[m]? = some z → (n ≠ m ∧ b ≠ a ∧ M[m]? = some z) ∨ (n = m ∧ b = a ∧ k2 = k ∧ c = z) := fun m b k2 z e1 e2 => by
    by_cases hm : n = m
    · subst hm
      rw [h1] at e1
      injection e1 with e1
      injection e1 with e1 e3
      rw [List.getElem?_set_self (by rw [← r.len]; exact i1)] at e2
      exact .inr ⟨rfl, e1.symm, e3.symm, Option.some.inj e2⟩
    · rw [List.getElem?_set_ne hm] at e2
      exact .inl ⟨hm, fun z => hm (r.inj h1 e1 z.symm), e2⟩
  refine ⟨fun b o e => ?_, by simp [r.len], r.nd, fun m b h => live_upd (r.live m b h), fun m b es e1 e2 => ?_, fun m b z es e1 e2 => ?_, fun m b es e1 e2 => ?_⟩
  · have hb : b ≠ a := ne_of_none e g
    rw [upd_ne hb]; exact r.sub _ _ e
  · rcases cell m b _ _ e1 e2 with ⟨_, hb, e2⟩ | ⟨_, hb, hk, e2⟩
    · obtain ⟨g2, ys, hy, rl2⟩ := r.mem m b es e1 e2
      exact ⟨g2, ys, by rw [upd_ne hb]; exact hy, rl2⟩
    · subst hb
      obtain ⟨xs, e3, rl⟩ := hm es hk.symm e2
      exact ⟨g, xs, by rw [upd_same, e3], rl⟩
  · rcases cell m b _ _ e1 e2 with ⟨_, hb, e2⟩ | ⟨_, hb, hk, e2⟩
    · obtain ⟨ys, hy, rl2⟩ := r.dic m b z es e1 e2
      exact ⟨ys, hy.keep (Same.refl _) (fun g => g) (upd_ne hb), rl2⟩
    · subst hb
      obtain ⟨e4, xs, e3, rl⟩ := hd z es hk.symm e2
      subst e4
      exact ⟨xs, ⟨g, by rw [upd_same, e3]⟩, rl⟩
  · rcases cell m b _ _ e1 e2 with ⟨_, hb, e2⟩ | ⟨hm', hb, hk, e5⟩
    · obtain ⟨g2, ys, hy, rl2⟩ := r.nst m b es e1 e2
      exact ⟨g2, ys, by rw [upd_ne hb]; exact hy, rl2⟩
    · subst hb; subst hm'
      obtain ⟨xs, e3, rl⟩ := hn es hk.symm e5
      exact ⟨g, xs, by rw [upd_same, e3], rl⟩
/-- a mutable list is changed -/
theorem Rs.put {K : PySem.W.Frag} {θ : List Th} {G H : Hp} {M : Mem} (r : Rs K θ G H M) {n : Nat} {a : Addr} {ds : List D} {xs : List V} (h1 : θ[n]? = some (a, .lst)) (g : G a = none) (rl : RpL K G xs ds) :
    Rs K θ G (upd H a (.lst xs)) (M.set n (some ds)) := r.putT h1 g (fun es _ e => ⟨xs, rfl, by cases e; exact rl⟩) (fun b es e _ => by cases e) fun ds e _ => by cases e
theorem pre_take {θ θ' : List Th} (p : θ <+: θ') {n : Nat} (h : θ.length ≤ n) : θ <+: θ'.take n := by
  obtain ⟨r, rfl⟩ := p
  rw [List.take_append]
  rw [List.take_of_length_le h]
  exact List.prefix_append _ _
section
variable {X : Cx} {W : WN} {pos : Pos} {K : PySem.W.Frag}
/-! ### what a for walks -/
def oRng1 (ds : List D) : Ev (List D) := match ds with
  | [.int j] => if -(2 ^ 62) ≤ j ∧ j < 2 ^ 62 then ret ((List.range j.toNat).map fun (i : Nat) => D.int (i : Int)) else stk
  | _ => stk
theorem ri_range {θ : List Th} {G : Hp} {n : Nat} : RI K θ G (Itr 0 n) ((List.range n).map fun (i : Nat) => D.int (i : Int)) := by
  refine ⟨fun i θ G H M _ _ _ h => by simpa [Itr] using h, fun θ G H M _ _ _ => by simp [Itr], fun i d θ G H M x H' _ _ rs h y => ?_⟩
  obtain ⟨rfl, rfl⟩ := y
  refine ⟨G, Same.refl _, rs, ?_⟩
  rw [List.getElem?_map] at h
  have hi : i < n := by
    rcases Nat.lt_or_ge i n with q | q
    · exact q
    · rw [List.getElem?_eq_none (by simpa using q)] at h; cases h
  rw [List.getElem?_range hi] at h
  cases h
  rw [Int.zero_add]
  exact .dat (.int _)
theorem di_range1 {tg : Expr} {a : Expr} {p : Pos} {h : Ev (List D)} (hm : X.mg "range" = none) (ha : DA X W [a] h) (hg : Gl X "range" := by rfl) (hs : starEach [a] X.env = [(false, eval a X.env)] := by rfl) : DI X W tg (.Call (.Name "range" p) [a] [] pos) (bnd h oRng1) := by
  obtain ⟨t, q, s⟩ := ha
  refine ⟨_, pi_range1 hg hm q hs, fun θ G => (s θ G).bind (R2 := RI X.K) (k := fun (vs : List V) (_ : L2.St) (H1 : Hp) (R : It → Hp → Prop) => ∃ j : Int, vs = [.int j] ∧ -(2 ^ 62) ≤ j ∧ j < 2 ^ 62 ∧ R (Itr 0 j.toNat) H1) fun θ1 G1 v d _ _ hv => ?_⟩
  unfold oRng1
  split
  · rename_i j
    split
    · rename_i hj
      obtain ⟨u, rfl, hu⟩ := vals1 hv
      rw [hu.int_of]
      intro ρ M r M' θ2 G2 σ H Q p s e rs rv kk
      exact ⟨j, rfl, hj.1, hj.2, Snd.ret (K := X.K) (W := W) (R := RI X.K) (θ0 := θ1) (G0 := G1) (fun _ _ _ _ => ri_range) ρ M r M' θ2 G2 σ H Q p s e rs rv kk⟩
    · exact Snd.stk
  · exact Snd.stk
def oItL (d : D) : Ev (List D) := match d with
  | .lst ds => ret ds
  | _ => stk
def oItT (d : D) : Ev (List D) := match d with
  | .tup ds => ret ds
  | _ => stk
theorem ri_list {θ : List Th} {G : Hp} {a : Addr} {xs : List V} {ds : List D} (h : SqL K G a xs) (r : RpL K G xs ds) : RI K θ G (Itl K a) ds := by
  refine ⟨fun i θ1 G1 H M _ s rs hi => ?_, fun θ1 G1 H M _ s rs => ?_, fun i d θ1 G1 H M x H' _ s rs hd y => ?_⟩
  · obtain ⟨v, hv, _⟩ := r.at (List.getElem?_eq_getElem hi)
    exact ⟨xs, v, rs.sub.seq (s.seq h), hv⟩
  · exact ⟨xs, rs.sub.seq (s.seq h), by rw [r.len]; exact Nat.le_refl _⟩
  · obtain ⟨rfl, y⟩ := y
    have := y xs (rs.sub.seq (s.seq h))
    exact ⟨G1, Same.refl _, rs, .dat ((r.get i x d this hd).mono s)⟩
theorem ri_tup {θ : List Th} {G : Hp} {a : Addr} {xs : List V} {ds : List D} (h : SqT K G a xs) (r : RpL K G xs ds) : RI K θ G (Itt K a) ds := by
  refine ⟨fun i θ1 G1 H M _ s rs hi => ?_, fun θ1 G1 H M _ s rs => ?_, fun i d θ1 G1 H M x H' _ s rs hd y => ?_⟩
  · obtain ⟨v, hv, _⟩ := r.at (List.getElem?_eq_getElem hi)
    exact ⟨xs, v, seqT rs.sub (seqT s h), hv⟩
  · exact ⟨xs, seqT rs.sub (seqT s h), by rw [r.len]; exact Nat.le_refl _⟩
  · obtain ⟨rfl, y⟩ := y
    have := y xs (seqT rs.sub (seqT s h))
    exact ⟨G1, Same.refl _, rs, .dat ((r.get i x d this hd).mono s)⟩
theorem RI.mono {θ0 θ1 : List Th} {G0 G1 : Hp} {J : It} {ds : List D} (h : RI K θ0 G0 J ds) (p : θ0 <+: θ1) (s : Same G0 G1) : RI K θ1 G1 J ds :=
  ⟨fun i θ G H M p1 s1 => h.go i θ G H M (p.trans p1) (s.trans s1), fun θ G H M p1 s1 => h.stop θ G H M (p.trans p1) (s.trans s1), fun i d θ G H M x H' p1 s1 => h.yld i d θ G H M x H' (p.trans p1) (s.trans s1)⟩
theorem di_list {tg e : Expr} {f : Ev D} (h : DE X W e f) : DI X W tg e (bnd f oItL) := by
  obtain ⟨t, q, s⟩ := h
  refine ⟨_, pi_list q, fun θ G => (s θ G).bind (R2 := RI X.K) (k := fun (x : V) (_ : L2.St) (H1 : Hp) (R : It → Hp → Prop) => ∃ a, x = .ref a ∧ (∃ xs, SqL X.K H1 a xs) ∧ R (Itl X.K a) H1) fun θ1 G1 v d _ _ hv => ?_⟩
  unfold oItL
  split
  · rename_i ds
    cases hv with
    | dat hv =>
      cases hv with
      | lst hq l g =>
        rename_i a xs
        intro ρ M r M' θ2 G2 σ H Q p s e rs rv kk
        exact ⟨a, rfl, ⟨xs, .inl (.inl (rs.sub _ _ (s _ _ hq)))⟩, Snd.ret (K := X.K) (W := W) (R := RI X.K) (θ0 := θ1) (G0 := G1) (fun _ _ p s => (ri_list (.inl (.inl hq)) ⟨l, g⟩).mono p s) ρ M r M' θ2 G2 σ H Q p s e rs rv kk⟩
  · exact Snd.stk
theorem di_tup {tg e : Expr} {f : Ev D} (h : DE X W e f) : DI X W tg e (bnd f oItT) := by
  obtain ⟨t, q, s⟩ := h
  refine ⟨_, pi_tup q, fun θ G => (s θ G).bind (R2 := RI X.K) (k := fun (x : V) (_ : L2.St) (H1 : Hp) (R : It → Hp → Prop) => ∃ a, x = .ref a ∧ (∃ xs, SqT X.K H1 a xs) ∧ R (Itt X.K a) H1) fun θ1 G1 v d _ _ hv => ?_⟩
  unfold oItT
  split
  · rename_i ds
    cases hv with
    | dat hv =>
      cases hv with
      | tup hq l g =>
        rename_i a xs
        intro ρ M r M' θ2 G2 σ H Q p s e rs rv kk
        exact ⟨a, rfl, ⟨xs, seqT rs.sub (seqT s hq)⟩, Snd.ret (K := X.K) (W := W) (R := RI X.K) (θ0 := θ1) (G0 := G1) (fun _ _ p s => (ri_tup hq ⟨l, g⟩).mono p s) ρ M r M' θ2 G2 σ H Q p s e rs rv kk⟩
  · exact Snd.stk
/-! ### x[i] = e -/
def sStore (f fo fi : Ev D) : Sv := thenS f fun d => thenS fo fun o => thenS fi fun i => fun ρ M => match o, i with
  | .ptr n, .int k => match M[n]? with
    | some (some ds) => match ixN ds.length k with
      | some j => if d.np = true then some (.nx ρ, M.set n (some (ds.set j d))) else none
      | none => none
    | _ => none
  | _, _ => none
theorem snd_then' {A α : Type} {R : List Th → Hp → A → α → Prop} {t : L2.St → Hp → (A → Hp → Prop) → Prop} {f : Ev α} {k : A → TS} {g : α → Sv} {θ0 : List Th} {G0 : Hp} (h : ∀ θ G, Snd K W R θ G t f)
    (h2 : ∀ θ G v d, θ0 <+: θ → Same G0 G → R θ G v d → ∀ (ρ : Env) (M : Mem) (o : Out) (M' : Mem) (σ : L2.St) (H : Hp) (Dn : Ends), g d ρ M = some (o, M') → Rs K θ G H M → Rσ K θ G σ ρ →
      (∀ (θ' : List Th) (G' H' : Hp), θ <+: θ' → Same G G' → Rs K θ' G' H' M' → Cont K W Dn o θ' G' H') → k v Dn σ H) :
    ∀ (ρ : Env) (M : Mem) (o : Out) (M' : Mem) (θ : List Th) (G : Hp) (σ : L2.St) (H : Hp) (Dn : Ends), θ0 <+: θ → Same G0 G → thenS f g ρ M = some (o, M') → Rs K θ G H M → Rσ K θ G σ ρ →
      (∀ (θ' : List Th) (G' H' : Hp), θ <+: θ' → Same G G' → Rs K θ' G' H' M' → Cont K W Dn o θ' G' H') → t σ H fun v H1 => k v Dn σ H1 := by
  intro ρ M o M' θ G σ H Dn p0 s0 e rs rv kk
  unfold thenS at e
  cases q : f ρ M with
  | none => rw [q] at e; cases e
  | some z =>
    obtain ⟨r1, M1⟩ := z
    rw [q] at e
    refine h θ G ρ M r1 M1 θ G σ H _ (List.prefix_refl _) (Same.refl _) q rs rv fun θ' G' H' p' s' rs' => ?_
    cases r1 with
    | exc C =>
      simp at e
      obtain ⟨e1, e2⟩ := e
      subst e1; subst e2
      exact ⟨fun C' h => by cases h; exact (kk θ' G' H' p' s' rs').ex C ρ σ rfl (rv.mono p' s'), fun d v h => (by cases h)⟩
    | ok a =>
      refine ⟨fun C' h => (by cases h), fun d v h rel => ?_⟩
      cases h
      exact h2 θ' G' v a (p0.trans p') (s0.trans s') rel ρ M1 o M' σ H' Dn e rs' (rv.mono p' s') fun θ2 G2 H2 p2 s2 rs2 => kk θ2 G2 H2 (p'.trans p2) (s'.trans s2) rs2
theorem ds_store {o i e : Expr} {f fo fi : Ev D} {spos : Pos} (he : DE X W e f) (ho : DE X W o fo) (hi : DE X W i fi)
    (ha : ∀ v, assign (.Subscript o i pos) X.env v = (do
      let ov ← holding [v] (eval o X.env)
      let iv ← holding [v, ov] (eval i X.env)
      standAt pos
      holding [v, ov, iv] (setItem ov iv v)
      release [v, ov, iv] []) := by intro _; rfl)
    (hs : swapsWithSole [.Subscript o i pos] e spos.line X.env = pure false := by rfl) (hw : swappedStores [.Subscript o i pos] e X.env = pure none := by rfl)
    (h1 : (assignEach [.Subscript o i pos] X.env).map (·.2) = [assign (.Subscript o i pos) X.env] := by rfl) : DS X W (.Assign [.Subscript o i pos] e spos) (sStore f fo fi) := by
  obtain ⟨t, p, s⟩ := he
  obtain ⟨to, po, so⟩ := ho
  obtain ⟨ti, pi, si⟩ := hi
  refine ⟨_, ps_asg p (pg_sub po pi set_list ha) hs hw h1, ?_⟩
  unfold sStore
  refine snd_then (k := fun v (Dn : Ends) σ H1 => to σ H1 fun o H1 => ti σ H1 fun i H2 => rSetL o i v H2 fun H3 => Dn.nx σ H3) s fun θ G v d hv ρ M o M' σ H Dn e rs rv kk => ?_
  refine snd_then' (θ0 := θ) (G0 := G) (k := fun o (Dn : Ends) σ H1 => ti σ H1 fun i H2 => rSetL o i v H2 fun H3 => Dn.nx σ H3) so (fun θ1 G1 vo do' p1 s1 hvo ρ M o M' σ H Dn e rs rv kk => ?_) ρ M o M' θ G σ H Dn (List.prefix_refl _) (Same.refl _) e rs rv kk
  refine snd_then' (θ0 := θ1) (G0 := G1) (k := fun i (Dn : Ends) σ H2 => rSetL vo i v H2 fun H3 => Dn.nx σ H3) si (fun θ2 G2 vi di p2 s2 hvi ρ M o M' σ H Dn e rs rv kk => ?_) ρ M o M' θ1 G1 σ H Dn (List.prefix_refl _) (Same.refl _) e rs rv kk
  split at e
  · rename_i n k hyp
    split at e
    · rename_i ds hm
      split at e
      · rename_i j hj
        split at e
        · rename_i hnp
          simp at e
          obtain ⟨e1, e2⟩ := e
          subst e1; subst e2
          have hvi' := hvi.int_of
          subst hvi'
          cases hvo with
          | dat hvo => cases hvo
          | ptr hn =>
            have hn2 := pre_get p2 hn
            obtain ⟨g, xs, hx, rl⟩ := rs.mem n _ ds hn2 hm
            refine ⟨_, xs, k, j, rfl, rfl, hx, by rw [rl.len]; exact hj, ?_⟩
            have rd := (hv.rp hnp).mono (s1.trans s2)
            exact (kk θ2 G2 _ (List.prefix_refl _) (Same.refl _) (rs.put hn2 g (rl.set (j := j) rd))).nx ρ σ rfl rv
        · cases e
      · cases e
    · cases e
  · cases e
/-! ### x.append(e) -/
def oApp (o d : D) : Ev D := fun ρ M => match o with
  | .ptr n => match M[n]? with
    | some (some ds) => if d.np = true ∧ ds.length < 16777216 then some (.ok .non, M.set n (some (ds ++ [d]))) else none
    | _ => none
  | _ => none
def okPtr (o : D) : Ev D := fun ρ M => match o with
  | .ptr n => match M[n]? with
    | some (some _) => some (.ok o, M)
    | _ => none
  | _ => none
/-! ### comprehensions -/
def wipeD (ρ : Env) : List Nat → Env
  | [] => ρ
  | v :: vs => (wipeD ρ vs).set v none
theorem rσ_none {θ : List Th} {G : Hp} {σ : L2.St} {ρ : Env} (r : Rσ K θ G σ ρ) (i : Nat) : Rσ K θ G (σ.set i none) (ρ.set i none) := by
  refine ⟨by simp [r.len], fun j d h => ?_⟩
  by_cases hij : i = j
  · subst hij
    rw [List.getElem?_set_self'] at h
    cases q : ρ[i]? with
    | none => rw [q] at h; cases h
    | some z => rw [q] at h; simp at h
  · rw [List.getElem?_set_ne hij] at h ⊢
    exact r.get j d h
theorem rσ_wipe {θ : List Th} {G : Hp} {σ : L2.St} {ρ : Env} (r : Rσ K θ G σ ρ) : ∀ vs : List Nat, Rσ K θ G (wipe σ vs) (wipeD ρ vs)
  | [] => r
  | v :: vs => rσ_none (rσ_wipe r vs) v
theorem wipe_wipe {σ : L2.St} : ∀ {vs : List Nat}, (∀ us : List Nat, (∀ i ∈ vs, i ∈ us) → wipe (wipe σ vs) us = wipe σ us)
  | [] => fun us h => rfl
  | v :: vs => fun us h => by
    show wipe ((wipe σ vs).set v none) us = wipe σ us
    rw [wipe_set, if_pos (h v (by simp))]
    exact wipe_wipe us fun i hi => h i (by simp [hi])
def lcGo (b : Tg) (tt : Ev Bool) (te : Ev D) (n0 : Nat) (ρw : Env) : List D → Mem → Option Mem
  | [], M => some M
  | d :: ds, M => match b d ρw with
    | none => none
    | some ρ1 => match tt ρ1 M with
      | some (.ok true, M1) => match te ρ1 M1 with
        | some (.ok y, M2) => match M2[n0]? with
          | some (some acc) => if y.np = true ∧ acc.length < 16777216 then lcGo b tt te n0 ρw ds (M2.set n0 (some (acc ++ [y]))) else none
          | _ => none
        | _ => none
      | some (.ok false, M1) => lcGo b tt te n0 ρw ds M1
      | _ => none
def lcEnd (n0 : Nat) (M' : Mem) : Option (Res D × Mem) := match M'[n0]? with
  | some (some acc) => some (.ok (.lst acc), if M'.length = n0 + 1 then M'.take n0 else M'.set n0 none)
  | _ => none
def oLc (b : Tg) (tt : Ev Bool) (te : Ev D) (vs : List Nat) (ds : List D) : Ev D := fun ρ M => match lcGo b tt te M.length (wipeD ρ vs) ds (M ++ [some []]) with
  | some M' => lcEnd M.length M'
  | none => none
def W0 : WN := fun _ _ _ => False
theorem snd_lc {wi : TI} {g : TG} {tt : TT} {te : TE} {vs : List Nat} {h : Ev (List D)} {b : Tg} {ft : Ev Bool} {fe : Ev D} {sl : List Nat} (hsl : ∀ i ∈ sl, i ∈ vs) (s : ∀ θ G, Snd K W (RI K) θ G wi h) (sg : SndG K g b sl) (st : ∀ θ G, Snd K W0 RB θ G tt ft) (se : ∀ θ G, Snd K W0 (RV K) θ G te fe) (θ : List Th) (G : Hp) :
    Snd K W (RV K) θ G (tLc wi g tt te vs) (bnd h (oLc b ft fe vs)) := by
  refine (s θ G).bind (R2 := RV K) (k := fun (J : It) (σ : L2.St) (H1 : Hp) (Q : V → Hp → Prop) => ∀ D, H1 D = none → ∃ W : Nat → Nat → Hp → Prop, (∃ m, W 0 m (upd H1 D (.lst []))) ∧ ∀ i m H, W i m H →
    (J.stop i H ∧ Q (.ref D) H) ∨ (J.go i H ∧ ∃ Nx : Hp → Prop, (∀ H', Nx H' → ∃ m', m' < m ∧ W (i + 1) m' H') ∧ ∀ x H', J.yld i H x H' → g x (wipe σ vs) H' fun σ2 H2 => wipe σ2 vs = wipe σ vs ∧ tt σ2 H2 fun b H3 =>
      if b = true then te σ2 H3 fun y H4 => ∃ acc, H4 D = some (.lst acc) ∧ acc.length < sizeLine ∧ Nx (upd H4 D (.lst (acc ++ [y]))) else Nx H3)) fun θ1 G1 J ds _ _ hJ => ?_
  intro ρ M r M' θ2 G2 σ H Q p2 s2 e rs rv kk a ha
  unfold oLc at e
  cases q : lcGo b ft fe M.length (wipeD ρ vs) ds (M ++ [some []]) with
  | none => rw [q] at e; cases e
  | some Me =>
    rw [q] at e
    have rs0 : Rs K (θ2 ++ [(a, Kd.lst)]) G2 (upd H a (.lst [])) (M ++ [some []]) := rs.laidM ha RpL.nil
    have hN0 : (θ2 ++ [(a, Kd.lst)])[M.length]? = some (a, Kd.lst) := by
      rw [← rs.len, List.getElem?_append_right (Nat.le_refl _), Nat.sub_self]; rfl
    refine ⟨fun i m H3 => ∃ M3 θ3 G3, m + i = ds.length ∧ (θ2 ++ [(a, Kd.lst)]) <+: θ3 ∧ Same G2 G3 ∧ Rs K θ3 G3 H3 M3 ∧ lcGo b ft fe M.length (wipeD ρ vs) (ds.drop i) M3 = some Me, ⟨ds.length, _, _, G2, rfl, List.prefix_refl _, Same.refl _, rs0, q⟩, ?_⟩
    rintro i m H3 ⟨M3, θ3, G3, hm, p3, s3, rs3, w⟩
    have p23 : θ2 <+: θ3 := (List.prefix_append _ _).trans p3
    by_cases hi : i < ds.length
    · right
      have hd : ds.drop i = ds[i] :: ds.drop (i + 1) := List.drop_eq_getElem_cons hi
      rw [hd] at w
      unfold lcGo at w
      refine ⟨hJ.go i θ3 G3 H3 M3 (p2.trans p23) (s2.trans s3) rs3 hi, fun H4 => ∃ M4 θ4 G4, (θ2 ++ [(a, Kd.lst)]) <+: θ4 ∧ Same G2 G4 ∧ Rs K θ4 G4 H4 M4 ∧ lcGo b ft fe M.length (wipeD ρ vs) (ds.drop (i + 1)) M4 = some Me, fun H4 hN => ?_, fun x H4 hy => ?_⟩
      · obtain ⟨M4, θ4, G4, a1, a2, a3, a4⟩ := hN
        exact ⟨m - 1, by omega, M4, θ4, G4, by omega, a1, a2, a3, a4⟩
      · obtain ⟨G4, s4, rs4, rx⟩ := hJ.yld i ds[i] θ3 G3 H3 M3 x H4 (p2.trans p23) (s2.trans s3) rs3 (List.getElem?_eq_getElem hi) hy
        cases qb : b ds[i] (wipeD ρ vs) with
        | none => rw [qb] at w; cases w
        | some ρ1 =>
          rw [qb] at w
          dsimp only at w
          refine sg ds[i] (wipeD ρ vs) ρ1 θ3 G4 (wipe σ vs) H4 M3 _ x qb rs4 (rσ_wipe (rv.mono p23 (s3.trans s4)) vs) rx fun σ5 r5 w5 => ?_
          refine ⟨by rw [w5 vs hsl]; exact wipe_wipe vs fun i hi => hi, ?_⟩
          cases qt : ft ρ1 M3 with
          | none => rw [qt] at w; cases w
          | some zt =>
            obtain ⟨rt, M5⟩ := zt
            rw [qt] at w
            refine st θ3 G4 ρ1 M3 rt M5 θ3 G4 σ5 H4 _ (List.prefix_refl _) (Same.refl _) qt rs4 r5 fun θ6 G6 H6 p6 s6 rs6 => ?_
            cases rt with
            | exc C => cases w
            | ok c =>
              refine ⟨fun C h => (by cases h), fun d v hd hv => ?_⟩
              cases hd
              cases hv
              cases c with
              | false =>
                rw [if_neg Bool.false_ne_true]
                exact ⟨M5, θ6, G6, p3.trans p6, (s3.trans s4).trans s6, rs6, w⟩
              | true =>
                rw [if_pos rfl]
                dsimp only at w
                cases qe : fe ρ1 M5 with
                | none => rw [qe] at w; cases w
                | some ze =>
                  obtain ⟨re, M7⟩ := ze
                  rw [qe] at w
                  refine se θ6 G6 ρ1 M5 re M7 θ6 G6 σ5 H6 _ (List.prefix_refl _) (Same.refl _) qe rs6 (r5.mono p6 s6) fun θ8 G8 H8 p8 s8 rs8 => ?_
                  cases re with
                  | exc C => cases w
                  | ok y =>
                    refine ⟨fun C h => (by cases h), fun d v hd hv => ?_⟩
                    cases hd
                    dsimp only at w
                    split at w
                    · rename_i acc hacc
                      split at w
                      · rename_i hc
                        have h8 : θ8[M.length]? = some (a, Kd.lst) := pre_get ((p3.trans p6).trans p8) hN0
                        obtain ⟨g8, xs, hx, rl⟩ := rs8.mem _ _ _ h8 hacc
                        refine ⟨xs, hx, by rw [rl.len, sizeLine_eq]; exact hc.2, _, θ8, G8, (p3.trans p6).trans p8, ((s3.trans s4).trans s6).trans s8, rs8.put h8 g8 (rl.append (RpL.cons (hv.rp hc.1) RpL.nil)), w⟩
                      · cases w
                    · cases w
    · left
      have hd : ds.drop i = [] := List.drop_eq_nil_of_le (by omega)
      rw [hd] at w
      unfold lcGo at w
      cases w
      have hi2 : i = ds.length := by omega
      subst hi2
      refine ⟨hJ.stop θ3 G3 H3 _ (p2.trans p23) (s2.trans s3) rs3, ?_⟩
      unfold lcEnd at e
      dsimp only at e
      split at e
      · rename_i acc hacc
        simp at e
        obtain ⟨e1, e2⟩ := e
        subst e1
        have h3 : θ3[M.length]? = some (a, Kd.lst) := pre_get p3 hN0
        obtain ⟨G9, s9, rp9, rs9⟩ := rs3.freeze h3 hacc
        split at e2
        · rename_i hl
          subst e2
          have rs10 := rs9.take M.length
          rw [List.take_set_of_le (Nat.le_refl _)] at rs10
          exact (kk (θ3.take M.length) G9 H3 (pre_take p23 (by rw [rs.len]; exact Nat.le_refl _)) (s3.trans s9) rs10).2 _ _ rfl (.dat rp9)
        · subst e2
          exact (kk θ3 G9 H3 p23 (s3.trans s9) rs9).2 _ _ rfl (.dat rp9)
      · cases e
end
end Bw
namespace Bw
open PySem PySem.Spec PyProof.Rows L2
/-! ### xs.count(True) -/
def eqkB (k : Bool) (v : Value) : Bool := match v with
  | .bool n => n == k
  | _ => false
section
variable {X : Cx} {W : WN} {pos : Pos} {K : PySem.W.Frag}
def rCntB (K : PySem.W.Frag) : V → List V → Hp → VK → Prop := fun x xs H Q => ∃ (p : Addr) (ns : List Bool) (k : Bool), x = .ref p ∧ xs = [.bl k] ∧ SqL K H p (ns.map V.bl) ∧ Q (.int (ns.count k : Nat)) H
theorem bls_of : ∀ {ns : List Bool} {its : List Value}, Vals (ns.map V.bl) its → its = ns.map Value.bool
  | [], _, h => by cases h; rfl
  | n :: ns, _, h => by
    cases h with
    | cons a b => rw [bls_of b]; cases a; rfl
theorem cntB (k : Bool) : ∀ ns : List Bool, (ns.map Value.bool).countP (eqkB k) = ns.count k
  | [] => rfl
  | n :: ns => by rw [List.map_cons, List.countP_cons, List.count_cons, cntB k ns] <;> rfl
theorem mt_bcount : MtR X "list.count" (rCntB X.K) := by
  intro pins s σ H x xs v us Q I rx rxs h
  obtain ⟨p, ns, k, rfl, rfl, hs, q⟩ := h
  cases rx
  obtain ⟨u, rfl, ru⟩ := rxs.one
  cases ru
  obtain ⟨its, rv, ⟨⟨cls, dd, data, sl⟩, n, ho, hc, hdn, hd⟩, hlen⟩ := I.list hs
  simp only at hc hd
  subst hc hd
  have hi := bls_of rv
  subst hi
  refine call_meets PySem.F.slot_list_count ⟨_, ho, rfl⟩ PySem.F.entry_list_count (PySem.F.args_list_count_2 _ _)
    (SeqAt.list_countAt p (ns.map Value.bool).toArray n dd sl (.bool k) (eqkB k)) ⟨ho, fun y hy => ?_, ?_⟩
  · simp at hy
    rcases hy with ⟨hy, rfl⟩ | ⟨hy, rfl⟩ <;> exact SeqAt.EqAt.bool_bool _ k
  · have ec : (ns.map Value.bool).toArray.toList.countP (eqkB k) = ns.count k := cntB k ns
    refine ⟨.int (ns.count k : Nat), H, I.tok _, ⟨s.toks, ?_⟩, q⟩
    show Value.int (((ns.map Value.bool).toArray.toList.countP (eqkB k) : Nat) : Int) s.toks = Value.int ((ns.count k : Nat) : Int) s.toks
    rw [ec]
def blsOf : List D → Option (List Bool)
  | [] => some []
  | .bl b :: r => (blsOf r).map (b :: ·)
  | _ => none
def oCntB (d : D) (es : List D) : Ev D := match d, es with
  | .lst ds, [.bl k] => match blsOf ds with
    | some ns => ret (.int (ns.count k : Nat))
    | none => stk
  | _, _ => stk
theorem rpl_bls {G : Hp} : ∀ {ds : List D} {xs : List V} {ns : List Bool}, blsOf ds = some ns → RpL K G xs ds → xs = ns.map V.bl
  | [], xs, ns, h, r => by cases h; rw [r.nil_of]; rfl
  | d :: ds, xs, ns, h, r => by
    cases d with
    | bl b =>
      simp only [blsOf] at h
      cases q : blsOf ds with
      | none => rw [q] at h; cases h
      | some ms =>
        rw [q] at h
        cases h
        obtain ⟨v, ys, rfl, hv, rs⟩ := r.uncons
        rw [rpl_bls q rs]
        cases hv; rfl
    | _ => cases h
/-- o.m(e, ..) of a list that stays as it is -/
theorem de_cntB {o e : Expr} {es : List Expr} {apos : Pos} {f : Ev D} {h : Ev (List D)} (ho : DE X W o f) (ha : DA X W (e :: es) h)
    (hbase : attributeBase o "count" X.env (eval o X.env) = eval o X.env := by rfl)
    (hfew : ((backTo pos (starEach (e :: es) X.env)).all (fun x => !x.1) && (backToKw pos (keywordEach [] X.env)).all (fun x => x.1.isSome)
      && decide ((e :: es).length + ([] : List Keyword).length + (if ([] : List Keyword).isEmpty then 0 else 1) < 30)) = true := by rfl)
    (hline : (apos.endLine == pos.line) = true := by rfl) (hs : starEach (e :: es) X.env = (false, eval e X.env) :: starEach es X.env := by rfl) (hplain : (backTo pos (starEach es X.env)).any (·.1) = false := by rfl) :
    DE X W (.Call (.Attribute o "count" apos) (e :: es) [] pos) (bnd f fun d => bnd (oItL d) fun _ => bnd h fun es => oCntB d es) := by
  obtain ⟨to, po, so⟩ := ho
  obtain ⟨t, p, s⟩ := ha
  refine ⟨_, pe_bm PySem.F.plainAttrs_list PySem.F.slot_list_count PySem.F.type_list_count mt_bcount po p hbase hfew hline hs hplain, fun θ G => ?_⟩
  refine (so θ G).bind (R2 := RV X.K) (k := fun (x : V) (σ : L2.St) (H1 : Hp) (Q : V → Hp → Prop) => tyV X.K "list" x H1 ∧ t σ H1 fun xs H2 => rCntB X.K x xs H2 Q) fun θ1 G1 v d _ _ hv => ?_
  unfold oItL
  split
  · rename_i ds
    cases hv with
    | dat hv =>
      cases hv with
      | lst hq l g =>
        rename_i a xs
        intro ρ M r M' θ2 G2 σ H Q p s1 e rs rv kk
        refine ⟨.inl ⟨rfl, xs, .inl (.inl (rs.sub _ _ (s1 _ _ hq)))⟩, ?_⟩
        refine (s θ1 G1).bind (R2 := RV X.K) (k := fun (ys : List V) (_ : L2.St) (H2 : Hp) (Q : V → Hp → Prop) => rCntB X.K (.ref a) ys H2 Q) (g := fun es => oCntB (.lst ds) es) (fun θ3 G3 ys es _ s3 hy => ?_) ρ M r M' θ2 G2 σ H Q p s1 e rs rv kk
        unfold oCntB
        split
        · rename_i d1 d2 k e1
          split
          · rename_i ns hns
            cases e1
            obtain ⟨u, rfl, hu⟩ := vals1 hy
            rw [hu.bl_of]
            have ex := rpl_bls hns ⟨l, g⟩
            subst ex
            intro ρ M r M' θ4 G4 σ H Q p4 s4 e rs rv kk
            exact ⟨a, ns, k, rfl, rfl, .inl (.inl (rs.sub _ _ (s4 _ _ (s3 _ _ hq)))), Snd.ret (K := X.K) (W := W) (R := RV X.K) (θ0 := θ3) (G0 := G3) (fun _ _ _ _ => .dat (.int _)) ρ M r M' θ4 G4 σ H Q p4 s4 e rs rv kk⟩
          · exact Snd.stk
        · exact Snd.stk
  · exact Snd.stk
/-- xs.append(e) -/
theorem de_append {o e : Expr} {apos : Pos} {f fe : Ev D} (ho : DE X W o f) (ha : DE X W e fe)
    (hbase : attributeBase o "append" X.env (eval o X.env) = eval o X.env := by rfl)
    (hfew : ((backTo pos (starEach [e] X.env)).all (fun x => !x.1) && (backToKw pos (keywordEach [] X.env)).all (fun x => x.1.isSome)
      && decide ([e].length + ([] : List Keyword).length + (if ([] : List Keyword).isEmpty then 0 else 1) < 30)) = true := by rfl)
    (hline : (apos.endLine == pos.line) = true := by rfl) (hs : starEach [e] X.env = (false, eval e X.env) :: starEach [] X.env := by rfl) (hplain : (backTo pos (starEach [] X.env)).any (·.1) = false := by rfl) :
    DE X W (.Call (.Attribute o "append" apos) [e] [] pos) (bnd f fun d => bnd (okPtr d) fun d => bnd fe fun y => oApp d y) := by
  obtain ⟨to, po, so⟩ := ho
  obtain ⟨t, p, s⟩ := ha
  refine ⟨_, pe_bm PySem.F.plainAttrs_list PySem.F.slot_list_append PySem.F.type_list_append mt_append po (pa_cons p pa_nil hs) hbase hfew hline hs hplain, fun θ G => ?_⟩
  refine (so θ G).bind (R2 := RV X.K) (k := fun (x : V) (σ : L2.St) (H1 : Hp) (Q : V → Hp → Prop) => tyV X.K "list" x H1 ∧ (tCons t tNil) σ H1 fun xs H2 => rAppend x xs H2 Q) fun θ1 G1 v d _ _ hv => ?_
  intro ρ M r M' θ2 G2 σ H Q p2 s1 e rs rv kk
  unfold bnd at e
  unfold okPtr at e
  cases hv with
  | dat hv => cases hv <;> cases e
  | exv _ _ => cases e
  | dpt _ => cases e
  | npt _ => cases e
  | ptr hn =>
    rename_i n a
    dsimp only at e
    cases q : M[n]? with
    | none => rw [q] at e; cases e
    | some z =>
      cases z with
      | none => rw [q] at e; cases e
      | some ds0 =>
        rw [q] at e
        dsimp only at e
        obtain ⟨g0, xs0, hx0, rl0⟩ := rs.mem n a ds0 (pre_get p2 hn) q
        refine ⟨.inl ⟨rfl, xs0, .inl (.inl hx0)⟩, ?_⟩
        show t σ H fun x H1 => rAppend (.ref a) [x] H1 Q
        cases qe : fe ρ M with
        | none => rw [qe] at e; cases e
        | some ze =>
          obtain ⟨re, M3⟩ := ze
          rw [qe] at e
          refine s θ2 G2 ρ M re M3 θ2 G2 σ H _ (List.prefix_refl _) (Same.refl _) qe rs rv fun θ4 G4 H4 p4 s4 rs4 => ?_
          cases re with
          | exc C =>
            dsimp only at e
            simp at e
            obtain ⟨e1, e2⟩ := e
            subst e1; subst e2
            exact ⟨fun C' h => (kk θ4 G4 H4 p4 s4 rs4).1 C' (by cases h; rfl), fun d v h => (by cases h)⟩
          | ok y =>
            refine ⟨fun C h => (by cases h), fun d v hd hv => ?_⟩
            cases hd
            unfold oApp at e
            dsimp only at e
            split at e
            · rename_i ds hds
              split at e
              · rename_i hc
                simp at e
                obtain ⟨e1, e2⟩ := e
                subst e1; subst e2
                have h4 := pre_get (p2.trans p4) hn
                obtain ⟨g, xs, hx, rl⟩ := rs4.mem n a ds h4 hds
                exact ⟨a, xs, v, rfl, rfl, hx, by rw [rl.len, sizeLine_eq]; exact hc.2, (kk θ4 G4 _ p4 s4 (rs4.put h4 g (rl.append (RpL.cons (hv.rp hc.1) RpL.nil)))).2 _ _ rfl (.dat .non)⟩
              · cases e
            · cases e
/-! ### comprehension rules -/
def DTs (X : Cx) (W : WN) (es : List Expr) (f : Ev Bool) : Prop := ∃ t, PTs X es t ∧ ∀ θ G, Snd X.K W RB θ G t f
theorem dts_nil : DTs X W [] (ret true) := ⟨_, pts_nil, fun _ _ => snd_b⟩
theorem dts_one {c : Expr} {f : Ev Bool} (h : DT X W c f) : DTs X W [c] f := by obtain ⟨t, p, s⟩ := h; exact ⟨_, pts_one p, s⟩
/-- the reading of what is given -/
def tOf (K : PySem.W.Frag) (W : WN) {A α : Type} (R : List Th → Hp → A → α → Prop) (f : Ev α) : L2.St → Hp → (A → Hp → Prop) → Prop := fun σ H Q => ∃ (ρ : Env) (M : Mem) (r : Res α) (M' : Mem) (θ : List Th) (G : Hp), f ρ M = some (r, M') ∧ Rs K θ G H M ∧ Rσ K θ G σ ρ ∧
  ∀ (θ' : List Th) (G' H' : Hp), θ <+: θ' → Same G G' → Rs K θ' G' H' M' → (∀ C, r = .exc C → W C σ H') ∧ (∀ d v, r = .ok d → R θ' G' v d → Q v H')
theorem snd_of {A α : Type} {R : List Th → Hp → A → α → Prop} {f : Ev α} (θ : List Th) (G : Hp) : Snd K W R θ G (tOf K W R f) f :=
  fun ρ M r M' θ1 G1 σ H Q _ _ e rs rv kk => ⟨ρ, M, r, M', θ1, G1, e, rs, rv, kk⟩
theorem Snd.can {A α : Type} {R : List Th → Hp → A → α → Prop} {f : Ev α} {t : L2.St → Hp → (A → Hp → Prop) → Prop} (s : ∀ θ G, Snd K W R θ G t f) {σ : L2.St} {H : Hp} {Q : A → Hp → Prop} (h : tOf K W R f σ H Q) : t σ H Q := by
  obtain ⟨ρ, M, r, M', θ, G, e, rs, rv, kk⟩ := h
  exact s θ G ρ M r M' θ G σ H Q (List.prefix_refl _) (Same.refl _) e rs rv kk
theorem DE.can {e : Expr} {f : Ev D} (h : DE X W e f) : PE X e (tOf X.K W (RV X.K) f) := by
  obtain ⟨t, p, s⟩ := h
  exact ⟨fun pins s1 σ H Q I q => p.run pins s1 σ H Q I (Snd.can s q)⟩
theorem DTs.can {es : List Expr} {f : Ev Bool} (h : DTs X W es f) : PTs X es (tOf X.K W RB f) := by
  obtain ⟨t, p, s⟩ := h
  exact ⟨fun pins s1 σ H Q I q => p.run pins s1 σ H Q I (Snd.can s q)⟩
def gOf (K : PySem.W.Frag) (b : Tg) (sl : List Nat) : TG := fun v σ H Q => ∃ (d : D) (ρ ρ' : Env) (θ : List Th) (G : Hp) (M : Mem), b d ρ = some ρ' ∧ Rs K θ G H M ∧ Rσ K θ G σ ρ ∧ Rv K θ G v d ∧ ∀ σ', Rσ K θ G σ' ρ' → Wr sl σ σ' → Q σ' H
theorem sndG_of {b : Tg} {sl : List Nat} : SndG K (gOf K b sl) b sl := fun d ρ ρ' θ G σ H M Q v e rs rv hv k => ⟨d, ρ, ρ', θ, G, M, e, rs, rv, hv, k⟩
theorem DG.can {tg : Expr} {b : Tg} {sl : List Nat} (h : DG X tg b sl) : PG X tg (gOf X.K b sl) := by
  obtain ⟨t, p, s⟩ := h
  refine ⟨fun pins s1 σ H v u Q I r q => p.run pins s1 σ H v u Q I r ?_⟩
  obtain ⟨d, ρ, ρ', θ, G, M, e, rs, rv, hv, k⟩ := q
  exact s d ρ ρ' θ G σ H M Q v e rs rv hv k
theorem de_lc {elt tg iter : Expr} {ifs : List Expr} {scope : Scope} (own : List (Str × Nat)) {h : Ev (List D)} {b : Tg} {ft : Ev Bool} {fe : Ev D} {sl : List Nat} (hN : X.N.Nodup) (ok : BlkOk X.N X.env.scope scope own) (hi : DI X W tg iter h)
    (hg : ∀ (s : Shared) (H : Hp) (C : Addr) (cl : List (Str × Addr)) (fp : List Addr), DG (X.blk s H scope (compEnvC scope cl C X.env) fp) tg b sl)
    (ht : ∀ (s : Shared) (H : Hp) (C : Addr) (cl : List (Str × Addr)) (fp : List Addr), DTs (X.blk s H scope (compEnvC scope cl C X.env) fp) W0 ifs ft)
    (he : ∀ (s : Shared) (H : Hp) (C : Addr) (cl : List (Str × Addr)) (fp : List Addr), DE (X.blk s H scope (compEnvC scope cl C X.env) fp) W0 elt fe)
    (hsl : ∀ i ∈ sl, i ∈ own.map (·.2) := by decide)
    (hc : X.calm = true := by rfl) (hs : ∀ x, foldedSetIterable iter X.env x = pure x := by intro _; rfl) : DE X W (.ListComp elt [⟨tg, iter, ifs, 0⟩] scope pos) (bnd h (oLc b ft fe (own.map (·.2)))) := by
  obtain ⟨wi, pi, si⟩ := hi
  exact ⟨_, pe_lc (g := gOf X.K b sl) (tt := tOf X.K W0 RB ft) (te := tOf X.K W0 (RV X.K) fe) hc hN pi ok (fun s H C cl fp => (hg s H C cl fp).can) (fun s H C cl fp => (ht s H C cl fp).can) (fun s H C cl fp => (he s H C cl fp).can) hs, snd_lc hsl si sndG_of (fun θ G => snd_of θ G) fun θ G => snd_of θ G⟩
/-- y = [..] -/
theorem ds_setLc (i : Nat) {y : Str} {py : Pos} {spos : Pos} {elt tg iter : Expr} {ifs : List Expr} {scope : Scope} (own : List (Str × Nat)) {h : Ev (List D)} {b : Tg} {ft : Ev Bool} {fe : Ev D} {sl : List Nat} (hN : X.N.Nodup) (ok : BlkOk X.N X.env.scope scope own) (hsw : swapsWith (.ListComp elt [⟨tg, iter, ifs, 0⟩] scope pos) (some (.Name y py)) spos.line X.env = pure true) (hi : DI X W tg iter h)
    (hg : ∀ (s : Shared) (H : Hp) (C : Addr) (cl : List (Str × Addr)) (fp : List Addr), DG (X.blk s H scope (compEnvC scope cl C X.env) fp) tg b sl)
    (ht : ∀ (s : Shared) (H : Hp) (C : Addr) (cl : List (Str × Addr)) (fp : List Addr), DTs (X.blk s H scope (compEnvC scope cl C X.env) fp) W0 ifs ft)
    (he : ∀ (s : Shared) (H : Hp) (C : Addr) (cl : List (Str × Addr)) (fp : List Addr), DE (X.blk s H scope (compEnvC scope cl C X.env) fp) W0 elt fe)
    (hy : X.N[i]? = some y := by rfl) (hyl : X.env.scope.names.lookup y = some .local := by rfl)
    (hsl : ∀ i ∈ sl, i ∈ own.map (·.2) := by decide)
    (hc : X.calm = true := by rfl) (hs : ∀ x, foldedSetIterable iter X.env x = pure x := by intro _; rfl) : DS X W (.Assign [.Name y py] (.ListComp elt [⟨tg, iter, ifs, 0⟩] scope pos) spos) (sAsg (bnd h (oLc b ft fe (own.map (·.2)))) (gNm i)) := by
  obtain ⟨wi, pi, si⟩ := hi
  refine ⟨_, ps_setLc (g := gOf X.K b sl) (tt := tOf X.K W0 RB ft) (te := tOf X.K W0 (RV X.K) fe) hc hN hy hyl hsw pi ok (fun s H C cl fp => (hg s H C cl fp).can) (fun s H C cl fp => (ht s H C cl fp).can) (fun s H C cl fp => (he s H C cl fp).can) hs, ?_⟩
  refine snd_asg (sl := [i]) (snd_lc hsl si sndG_of (fun θ G => snd_of θ G) fun θ G => snd_of θ G) fun d ρ ρ' θ G σ H M Q v e rs rv hv k => ?_
  unfold gNm at e
  cases e
  exact k _ (rv.set hv) fun vs h => by rw [wipe_set, if_pos (h i (by simp))]
/-! ### calls of defs -/
abbrev Fd := List D → Mem → Option (Res D × Mem)
def spF (K : PySem.W.Frag) (mg : Str → Option Value) (n : Nat) (F : Fd) : Sp := fun vs H Q E => ∃ (θ : List Th) (G : Hp) (ds : List D) (M : Mem) (r : Res D) (M' : Mem), Rs K θ G H M ∧ RvL K θ G vs ds ∧ ds.length = n ∧ F ds M = some (r, M') ∧
  ∀ (θ' : List Th) (G' H' : Hp), θ <+: θ' → Same G G' → Rs K θ' G' H' M' → (∀ x C, r = .exc x → mg x = some (.ref C) → E (.ref C) none H') ∧ (∀ d v, r = .ok d → Rv K θ' G' v d → Q v H')
def oCall (n : Nat) (F : Fd) (ds : List D) : Ev D := fun _ M => if ds.length = n then F ds M else none
/-- how the wishes by names and by classes go together -/
def WOk (mg : Str → Option Value) (WC : WX) (W : WN) : Prop := ∀ x σ H, W x σ H → ∀ C, mg x = some (.ref C) → WC (.ref C) none σ H
theorem de_call {CX : CXT} {WC : WX} {k n : Nat} {f : Addr} {fd : FuncData} {ps : List Str} {F : Fd} {x : Str} {p : Pos} {e : Expr} {es : List Expr} {h : Ev (List D)} (hw : WOk X.mg WC W) (FO : FnOk X.prog X.w X.K X.mg X.base CX k f fd ps (spF X.K X.mg n F)) (hr : Room k X.A) (hm : X.mg x = some (.ref f)) (hk : PySem.W.keepIn X.K (.ref f) = true) (hb : Binds X.K fd ps []) (hx : ∀ σ, PassesAt CX X σ (WE WC σ))
    (ha : DA X W (e :: es) h) (hg : Gl X x := by rfl) (hdb : (x == ("__debug__" : Str)) = false := by decide) (he : starEach (e :: es) X.env = (false, eval e X.env) :: starEach es X.env := by rfl) (hpl : (backTo pos (starEach es X.env)).any (·.1) = false := by rfl) :
    DE X W (.Call (.Name x p) (e :: es) [] pos) (bnd h (oCall n F)) := by
  obtain ⟨t, q, s⟩ := ha
  refine ⟨_, pe_callS FO hr hg hm hk hb hx q hdb he hpl, fun θ G => ?_⟩
  refine (s θ G).bind (R2 := RV X.K) (k := fun (vs : List V) (σ : L2.St) (H1 : Hp) (Q : V → Hp → Prop) => spF X.K X.mg n F vs H1 Q (WE WC σ)) fun θ1 G1 vs ds _ _ hv => ?_
  intro ρ M r M' θ2 G2 σ H Q p2 s2 e rs rv kk
  unfold oCall at e
  split at e
  · rename_i hl
    exact ⟨θ2, G2, ds, M, r, M', rs, hv.mono p2 s2, hl, e, fun θ' G' H' a b c => ⟨fun x C h1 h2 => hw _ _ _ ((kk θ' G' H' a b c).1 x h1) C h2, (kk θ' G' H' a b c).2⟩⟩
  · cases e
theorem wok0 {mg : Str → Option Value} : WOk mg (fun _ _ _ _ => False) W0 := fun _ _ _ h => h.elim
theorem pass_0 {σ : L2.St} {E : XK} : PassesAt CX0 X σ E := fun _ _ _ _ _ _ h => h.elim
/-- how a body's end is the call's -/
inductive Exit : Out → Mem → Res D → Mem → Prop
  | rt {d : D} {M' g : Mem} (h : ∀ n, d = .ptr n ∨ d = .npt n → n < M'.length) (h2 : ∀ n, d ≠ .dpt n) : Exit (.rt d) (M' ++ g) (.ok d) M'
  | nx {ρ : Env} {M' g : Mem} : Exit (.nx ρ) (M' ++ g) (.ok .non) M'
  | ex {C : Str} {ρ : Env} {M' g : Mem} : Exit (.ex C ρ) (M' ++ g) (.exc C) M'
def startD (N : List Str) (ds : List D) : Env := ds.map some ++ List.replicate (N.length - ds.length) none
theorem body_ok {mg : Str → Option Value} {N : List Str} {n : Nat} {F : Fd} {t : TS} {fb : Sv} {W : WN} {vs : List V} {H : Hp} {Q : VK} {E : XK} (hW : ∀ x σ H, (∀ C, mg x = some (.ref C) → E (.ref C) none H) → W x σ H) (s : SndS K W t fb)
    (hF : ∀ ds M r M', ds.length = n → F ds M = some (r, M') → M.length ≤ M'.length ∧ ∃ o M2, fb (startD N ds) M = some (o, M2) ∧ Exit o M2 r M') (h : spF K mg n F vs H Q E) : t { nx := fun _ H' => Q .non H', rt := Q } (L2.start N vs) H := by
  obtain ⟨θ, G, ds, M, r, M', rs, rv, hl, e, kk⟩ := h
  obtain ⟨hle, o, M2, e2, ex⟩ := hF ds M r M' hl e
  refine s (startD N ds) M o M2 θ G (L2.start N vs) H _ e2 rs (Rσ.start rv.len rv.get _ rfl) fun θ' G' H' p' s' rs' => ?_
  have tk : ∀ {g : Mem}, M2 = M' ++ g → Rs K (θ'.take M'.length) G' H' M' ∧ θ <+: θ'.take M'.length := fun {g} h => by
    subst h
    have := rs'.take M'.length
    rw [List.take_left] at this
    exact ⟨this, pre_take p' (by rw [rs.len]; exact hle)⟩
  cases ex with
  | rt hp hq =>
    obtain ⟨r1, r2⟩ := tk rfl
    refine ⟨fun ρ σ h => (by cases h), fun ρ σ h => (by cases h), fun ρ σ h => (by cases h), fun d v h hv => ?_, fun C ρ σ h => (by cases h)⟩
    cases h
    refine (kk _ G' H' r2 s' r1).2 _ v rfl ?_
    cases hv with
    | dat hv => exact .dat hv
    | exv hn h => exact .exv hn h
    | dpt hn => exact absurd rfl (hq _)
    | ptr hn =>
      refine .ptr ?_
      rw [List.getElem?_take_of_lt (hp _ (.inl rfl))]
      exact hn
    | npt hn =>
      refine .npt ?_
      rw [List.getElem?_take_of_lt (hp _ (.inr rfl))]
      exact hn
  | nx =>
    obtain ⟨r1, r2⟩ := tk rfl
    refine ⟨fun ρ σ h _ => ?_, fun ρ σ h => (by cases h), fun ρ σ h => (by cases h), fun d v h => (by cases h), fun C ρ σ h => (by cases h)⟩
    exact (kk _ G' H' r2 s' r1).2 .non .non rfl (.dat .non)
  | ex =>
    obtain ⟨r1, r2⟩ := tk rfl
    refine ⟨fun ρ σ h => (by cases h), fun ρ σ h => (by cases h), fun ρ σ h => (by cases h), fun d v h => (by cases h), fun C ρ σ h _ => ?_⟩
    cases h
    exact hW _ _ _ fun C hC => (kk _ G' H' r2 s' r1).1 _ C rfl hC
theorem spF_len {mg : Str → Option Value} {n : Nat} {F : Fd} {vs : List V} {H : Hp} {Q : VK} {E : XK} (h : spF K mg n F vs H Q E) : vs.length = n := by
  obtain ⟨θ, G, ds, M, r, M', rs, rv, hl, e, kk⟩ := h
  rw [rv.len]; exact hl
/-- a def out of which nothing is raised -/
theorem fn_ok {P : Program} {w : World} {mg : Str → Option Value} {base : Heap} {x qual : Str} {st : Stmt} {f : Addr} {fd : FuncData} {N ps : List Str} {k n : Nat} {F : Fd} {fb : Sv} (FU : Fun K x qual st f fd) (S : FnScope N ps (defScope st)) (hn : ps.length = n)
    (body : ∀ (cdv : Value) (A : Around) (outer : List PySem.Env) (s : Shared) (H : Hp) (E : XK), Room k (A.deeper (envOfC qual (defScope st) s.heap.objs.size f cdv)) → DSs (cxOf CX0 P w K mg base N qual (defScope st) f cdv A outer s H E).nox W0 (defBody st) fb)
    (hF : ∀ ds M r M', ds.length = n → F ds M = some (r, M') → M.length ≤ M'.length ∧ ∃ o M2, fb (startD N ds) M = some (o, M2) ∧ Exit o M2 r M')
    (hx : ∀ ds M C M', F ds M ≠ some (.exc C, M')) : FnOk P w K mg base CX0 (k + 1) f fd ps (spF K mg n F) := by
  refine FU.ok S (fun vs H Q E h => (spF_len h).trans hn.symm) fun cdv A outer s H vs Q E hr h => ?_
  obtain ⟨t, p, sn⟩ := body cdv A outer s H E hr
  refine ⟨t, p, ?_⟩
  obtain ⟨θ, G, ds, M, r, M', rs, rv, hl, e, kk⟩ := h
  obtain ⟨hle, o, M2, e2, ex⟩ := hF ds M r M' hl e
  cases r with
  | exc C => exact absurd e (hx ds M C M')
  | ok d =>
    exact body_ok (mg := fun _ => some (.ref 0)) (W := W0) (E := fun _ _ _ => False) (fun _ _ _ h => h 0 rfl) sn hF ⟨θ, G, ds, M, .ok d, M', rs, rv, hl, e, fun θ' G' H' p' s' rs' => ⟨fun x C hC => (by cases hC), (kk θ' G' H' p' s' rs').2⟩⟩
/-- a def that may raise -/
theorem fn_okX {P : Program} {w : World} {mg : Str → Option Value} {base : Heap} {x qual : Str} {st : Stmt} {f : Addr} {fd : FuncData} {N ps : List Str} {k n : Nat} {F : Fd} {fb : Sv} (FU : Fun K x qual st f fd) (S : FnScope N ps (defScope st)) (hn : ps.length = n)
    (body : ∀ (cdv : Value) (A : Around) (outer : List PySem.Env) (s : Shared) (H : Hp) (E : XK), Room k (A.deeper (envOfC qual (defScope st) s.heap.objs.size f cdv)) → DSs (cxOf (L2.CX P w) P w K mg base N qual (defScope st) f cdv A outer s H E) (fun x _ H => ∀ C, mg x = some (.ref C) → E (.ref C) none H) (defBody st) fb)
    (hF : ∀ ds M r M', ds.length = n → F ds M = some (r, M') → M.length ≤ M'.length ∧ ∃ o M2, fb (startD N ds) M = some (o, M2) ∧ Exit o M2 r M') : FnOk P w K mg base (L2.CX P w) (k + 1) f fd ps (spF K mg n F) := by
  refine FU.okX S (fun vs H Q E h => (spF_len h).trans hn.symm) fun cdv A outer s H vs Q E hr h => ?_
  obtain ⟨t, p, sn⟩ := body cdv A outer s H E hr
  exact ⟨t, p, body_ok (fun _ _ _ h => h) sn hF h⟩
theorem wokX {mg : Str → Option Value} {E : XK} : WOk mg (fun cls d _ H => E cls d H) (fun x _ H => ∀ C, mg x = some (.ref C) → E (.ref C) none H) := fun _ _ _ h C hC => h C hC
end
end Bw
namespace Bw
open PySem PySem.Spec PyProof.Rows L2
def D.ptLt (d : D) (k : Nat) : Bool := match d with
  | .ptr n => decide (n < k)
  | .npt n => decide (n < k)
  | .dpt _ => false
  | _ => true
/-- a def's worth, from its body; so many new lists stay -/
def runF (keep : Nat) (N : List Str) (fb : Sv) : Fd := fun ds M => match fb (startD N ds) M with
  | some (.rt d, M2) => if M.length + keep ≤ M2.length ∧ d.ptLt (M.length + keep) = true then some (.ok d, M2.take (M.length + keep)) else none
  | some (.nx _, M2) => if M.length + keep ≤ M2.length then some (.ok .non, M2.take (M.length + keep)) else none
  | _ => none
theorem runF_ok {keep n : Nat} {N : List Str} {fb : Sv} : ∀ ds M r M', ds.length = n → runF keep N fb ds M = some (r, M') → M.length ≤ M'.length ∧ ∃ o M2, fb (startD N ds) M = some (o, M2) ∧ Exit o M2 r M' := by
  intro ds M r M' _ h
  unfold runF at h
  split at h
  · rename_i d M2 e
    split at h
    · rename_i hc
      cases h
      refine ⟨by rw [List.length_take]; omega, _, _, e, ?_⟩
      have e2 : M2 = M2.take (M.length + keep) ++ M2.drop (M.length + keep) := (List.take_append_drop _ _).symm
      have ex := Exit.rt (d := d) (M' := M2.take (M.length + keep)) (g := M2.drop (M.length + keep)) (fun n hn => by
        rw [List.length_take]
        rcases hn with hn | hn
        · subst hn
          have := of_decide_eq_true hc.2
          omega
        · subst hn
          have := of_decide_eq_true hc.2
          omega) fun n hn => by subst hn; cases hc.2
      rw [← e2] at ex
      exact ex
    · cases h
  · rename_i ρ M2 e
    split at h
    · rename_i hc
      cases h
      refine ⟨by rw [List.length_take]; omega, _, _, e, ?_⟩
      have e2 : M2 = M2.take (M.length + keep) ++ M2.drop (M.length + keep) := (List.take_append_drop _ _).symm
      have ex := Exit.nx (ρ := ρ) (M' := M2.take (M.length + keep)) (g := M2.drop (M.length + keep))
      rw [← e2] at ex
      exact ex
    · cases h
  · cases h
theorem runF_nx {keep : Nat} {N : List Str} {fb : Sv} : ∀ ds M C M', runF keep N fb ds M ≠ some (.exc C, M') := by
  intro ds M C M' h
  unfold runF at h
  split at h
  · split at h <;> cases h
  · split at h <;> cases h
  · cases h
/-- what a body gives, as the def's worth -/
theorem runF_rt {N : List Str} {fb : Sv} {ds : List D} {M M2 : Mem} {d : D} (h : fb (startD N ds) M = some (.rt d, M2)) (hl : M.length ≤ M2.length) (hp : d.np = true) : runF 0 N fb ds M = some (.ok d, M2.take M.length) := by
  unfold runF
  rw [h]
  dsimp only
  rw [if_pos]
  · rfl
  · refine ⟨hl, ?_⟩
    cases d <;> first | rfl | cases hp
theorem runF_pure {N : List Str} {fb : Sv} {ds : List D} {M : Mem} {d : D} (h : fb (startD N ds) M = some (.rt d, M)) (hp : d.np = true) : runF 0 N fb ds M = some (.ok d, M) := by
  rw [runF_rt h (Nat.le_refl _) hp, List.take_length]
/-- the law's promise: no error -/
def spL (K : PySem.W.Frag) (n : Nat) (F : Fd) : Sp := fun vs H Q _ => ∃ (θ : List Th) (G : Hp) (ds : List D) (M : Mem) (d : D) (M' : Mem), Rs K θ G H M ∧ RvL K θ G vs ds ∧ ds.length = n ∧ F ds M = some (.ok d, M') ∧
  ∀ (θ' : List Th) (G' H' : Hp), θ <+: θ' → Same G G' → Rs K θ' G' H' M' → ∀ v, Rv K θ' G' v d → Q v H'
theorem spL_imp {K : PySem.W.Frag} {mg : Str → Option Value} {n : Nat} {F : Fd} (vs : List V) (H : Hp) (Q : VK) (E : XK) (h : spL K n F vs H Q E) : spF K mg n F vs H Q E := by
  obtain ⟨θ, G, ds, M, d, M', rs, rv, hl, e, kk⟩ := h
  exact ⟨θ, G, ds, M, .ok d, M', rs, rv, hl, e, fun θ' G' H' p s rs' => ⟨fun x C h => (by cases h), fun d' v h hv => by cases h; exact kk θ' G' H' p s rs' v hv⟩⟩
/-- the law's start -/
theorem law_start {K : PySem.W.Frag} {F : Fd} {H : Hp} {a : Addr} {ns : List Int} (hl : ns.length ≤ 63) (hS : SqL K H a (ns.map V.int)) (hF : ∀ ns : List Int, ns.length ≤ 63 → ∃ M', F [.scr (ns.map D.int)] [] = some (.ok (.bl true), M')) : spL K 1 F [.ref a] H (fun v _ => v = .bl true) fun _ _ _ => False := by
  obtain ⟨M', e⟩ := hF ns hl
  refine ⟨[], H, _, [], _, M', ⟨Same.refl _, rfl, List.nodup_nil, fun n a h => by simp at h, fun n a ds h => by simp at h, fun n a b es h => by simp at h, fun n a ds h => by simp at h⟩, RvL.cons (.dat (.scr hS (by simp) fun i v d h1 h2 => ?_)) RvL.nil, rfl, e, fun θ' G' H' p s rs v hv => hv.bl_of⟩
  rw [List.getElem?_map] at h1 h2
  cases q : ns[i]? with
  | none => rw [q] at h1; cases h1
  | some n =>
    rw [q] at h1 h2
    cases h1; cases h2
    exact .int n
end Bw
namespace Bw
open PySem PySem.Spec PyProof.Rows L2
/-! ### an error that was caught, kept as a value -/
theorem exq_ok {P : Program} {w : World} {H : Hp} {h : Heap} {a : Addr} {cls : Value} {oe : Obj} {vs : Array Value} (e : h.get? a = some oe) (z : Zc cls none oe) (d : oe.data = .fields vs) : ObjOk P w H h a (ExQ cls a) :=
  ⟨⟨oe, vs, e, z, d⟩, ⟨oe, e⟩, fun _ h2 ⟨o1, v1, e1, z1, d1⟩ k => ⟨o1, v1, k o1 e1, z1, d1⟩⟩
section
variable {X : Cx} {pins : List (Addr × Obj)} {σ : L2.St} {H : Hp} {s : Shared}
/-- an object that is there and is not tracked, new since the entry, is tracked from here on -/
theorem inv_track {a : Addr} {oe : Obj} {vs : Array Value} {cls : Value} (I : Inv X pins σ H s) (new : X.s_0.heap.get? a = none) (np : ∀ p ∈ X.pn ++ pins, p.1 ≠ a) (e : s.heap.get? a = some oe) (d : oe.data = .fields vs) (z : Zc cls none oe) (na : H a = none) (nL : a ≠ X.env.locals) :
    Inv X pins σ (upd H a (ExQ cls a)) s := by
  have ne : ∀ {b : Addr} {o : HO}, H b = some o → b ≠ a := fun q => ne_of_none q na
  obtain ⟨hok, hos, hbare, hbase, hloc, hcell, hfree, hfreeC, hpin, hh, hlen⟩ := I
  refine ⟨hok, hos, hbare, ⟨hbase.keep, hbase.slot, fun b o q n x => ?_, hbase.there, fun b xs q => ?_, fun b o u q => ?_, fun b ps q => ?_⟩, hloc, hcell, ?_, fun x c q => ?_, fun p hp => ?_, ?_, hlen⟩
  · rw [upd_ne (fun t => by rw [t, new] at q; cases q)]
    exact hbase.free b o q n x
  · have q2 := hbase.tups b xs q
    rw [upd_ne (ne q2)]; exact q2
  · have q2 := hbase.frzs b o u q
    rw [upd_ne (ne q2)]; exact q2
  · obtain ⟨more, q2⟩ := hbase.tbls b ps q
    exact ⟨more, by rw [upd_ne (ne q2)]; exact q2⟩
  · rw [upd_ne (Ne.symm nL)]; exact hfree
  · have nc : c ≠ a := fun t => by
      obtain ⟨v, ⟨o, eo, ho⟩⟩ := hcell x c q
      rw [t, e] at eo
      cases eo
      first
        | (rw [d] at ho; cases ho)
        | (obtain ⟨_, ho⟩ := ho; rw [d] at ho; cases ho)
    rw [upd_ne nc]; exact hfreeC x c q
  · obtain ⟨p1, p2, p3⟩ := hpin p hp
    exact ⟨p1, by rw [upd_ne (np p hp)]; exact p2, p3⟩
  · intro b u q
    by_cases hb : b = a
    · subst hb
      rw [upd_same] at q
      cases q
      exact exq_ok e z d
    · rw [upd_ne hb] at q
      exact (hh b u q).stay (fun _ _ _ t => t) (fun c t => by rw [upd_ne (ne t)]; exact t) fun c xs t => by rw [upd_ne (ne t)]; exact t
end
end Bw
namespace Bw
open PySem PySem.Spec PyProof.Rows L2
/-- the wish of the body of a try whose one clause is «except c as n», n in slot i; behind the suite the error stands as a value -/
def wK (K : PySem.W.Frag) (c : Value) (i : Nat) (ts : Addr → Value → Option Addr → TS) (Wo : WX) (Dn : Ends) : WX := fun cls d σ H =>
  d = none ∧ ∃ b, PySem.W.exmOne K cls c = some b ∧ (b = false → Wo cls d σ H) ∧
    (b = true → ∀ a, H a = none → ts a cls d { nx := fun σ1 H1 => Dn.nx (σ1.set i none) (upd H1 a (ExQ cls a)), rt := fun v H1 => Dn.rt v (upd H1 a (ExQ cls a)), bk := fun σ1 H1 => Dn.bk (σ1.set i none) (upd H1 a (ExQ cls a)), ct := fun σ1 H1 => Dn.ct (σ1.set i none) (upd H1 a (ExQ cls a)) } (σ.set i (some (.ref a))) H)
section
variable {X : Cx} {x n : Str} {c : Value} {i : Nat} {body more : List Stmt} {first : Stmt} {np pos hpos : Pos} {tb : WX → TS} {ts : Addr → Value → Option Addr → TS} {Wo : WX}
theorem ps_tryK (hst : X.stack = X.env :: X.outer) (hfr : X.env.frame = some X.env.locals) (hex : X.ex = []) (nd : X.N.Nodup) (hi : X.N[i]? = some n) (hl : X.env.kindOf n = some .local) (hc : Names X x c) (tk : Takes X Wo)
    (hb : ∀ (W : WX) (pn : List (Addr × Obj)) (xe : Value → Shared → Prop), Takes (X.tr pn xe) W → PassesOwn (model X.prog X.w) X.A X.env xe → PSs (X.tr pn xe) body (tb W))
    (hsu : ∀ (a : Addr) (oe : Obj) (cls : Value) (d : Option Addr) (pn : List (Addr × Obj)), Zc cls d oe → (∃ vs, oe.data = .fields vs) → PSs (X.suite a ((a, oe) :: pn)) (first :: more) (ts a cls d)) :
    PS X (.Try body [.ExceptHandler (some (.Name x np)) (some n) (first :: more) hpos] [] [] pos) (fun Dn σ H => tb (wK X.K c i ts Wo Dn) Dn σ H) := by
  refine ⟨fun pins s σ H Dn I rd => ?_⟩
  have ok := I.ok
  have frs' : X.A.frames = some (X.env :: X.outer) := ok.frames.trans (by rw [hst])
  refine wpAny_Try_except (wpAny_mono ((hb (wK X.K c i ts Wo Dn) (X.pn ++ pins) _ (fun u t air => ?_) PassesOwn.looking).run [] s σ H Dn (I.toTry _) rd) (fun fl t r => ?_) fun _ _ z => z)
  · obtain ⟨a, B, t0, pins0, σ1, H1, cls, d, rfl, I0, nb, up, sky, na, os, ag, rfl, b, hm, hno, hyes⟩ := air
    have J : Inv X pins σ1 H1 t0 := I0.ofTry ok
    rw [hst] at sky
    -- the error comes to this frame
    refine Sky.land Zc.steady frs' hfr sky fun g3 fly3 up3 => ?_
    have J3 : Inv X pins σ1 H1 { t with heap := g3 } := J.landed nb fly3.1 (up.trans up3) os ag
    have apart : ∀ {g : Heap} {o : Obj} {v : Array Value}, g.FunFrames B (X.env :: X.outer) → g.get? a = some o → o.data = .fields v → a ∉ frs (X.env :: X.outer) := by
      intro g o v ff e dd hin
      obtain ⟨_, o2, e2, nf⟩ := ff.mem hin
      exact nf v (by rw [e] at e2; cases e2; exact dd)
    obtain ⟨o3, v3, e3, z3, d3⟩ := fly3.there
    have out := apart fly3.2.2.1 e3 d3
    have nL : a ≠ X.env.locals := by
      intro q
      exact out (List.mem_filterMap.mpr ⟨X.env, by simp, by rw [hfr, q]⟩)
    have nF : a ∉ X.fs := by
      intro q
      obtain ⟨env', m1, m2⟩ := List.mem_filterMap.mp q
      exact out (List.mem_filterMap.mpr ⟨env', by simp [m1], m2⟩)
    -- it is new
    have gone0 : t0.heap.get? a = none := by
      cases q : t0.heap.get? a with
      | none => rfl
      | some o =>
        have : a ∉ frs X.stack := by rw [hst]; exact out
        have q2 := nb a o q this
        rw [fly3.2.1] at q2
        cases q2
    have new : X.s_0.heap.get? a = none := by
      cases q : X.s_0.heap.get? a with
      | none => rfl
      | some o =>
        obtain ⟨o2, q2⟩ := J.base.there a o q (by rw [hex]; simp)
        rw [gone0] at q2; cases q2
    have npin : ∀ p ∈ X.pn ++ pins, p.1 ≠ a := by
      intro p hp q
      have q2 := (J.pin p hp).1
      rw [q, gone0] at q2
      cases q2
    refine wpAny_handleBy_cons (codeAny_handlers_test ?_) (fun q => by cases q)
    have inS := J3.suite e3 d3 na nL nF
    have kind : PySem.W.Looks (model X.prog X.w) g3 (typeOf (.ref a)) cls := by
      intro A' Q' E' s' k q
      exact wpAny_typeOf_ref (k _ _ e3) (by rw [z3.1]; exact q)
    have match_ := PySem.W.exm_one (M := model X.prog X.w) J3.kIn kind hm
    have named : ∀ {Q : Value → Shared → Prop} {E : Value → Shared → Prop}, Q c { t with heap := g3 } → wpAny (model X.prog X.w) (X.A.mark (some (.ref a))) (eval (.Name x np) X.env) Q E { t with heap := g3 } := by
      intro Q E q
      obtain ⟨gl, nodbg, h1⟩ := hc
      rcases h1 with h1 | ⟨h1, h2, h3⟩
      · exact ld_glob (X := X.suite a ((a, o3) :: (X.pn ++ pins))) inS gl h1 q nodbg
      · exact ld_blt (X := X.suite a ((a, o3) :: (X.pn ++ pins))) inS gl h1 h2 q h3 nodbg
    refine named (match_.here ?_)
    cases b with
    | false =>
      -- another class: it goes on
      show wpAny _ X.A (handleBy (.ref a) X.env []) _ _ _
      refine wpAny_handleBy_nil ?_
      obtain ⟨_, _, _, o, v, T, oT, w1, he, hz, hd, h1, hr⟩ := id fly3
      unfold PySem.passOn
      refine wpAny_bind (wpAny_field he hd h1 ?_)
      rw [if_neg (by simp : ¬ ((Value.ref T == Value.none) = true))]
      have go : wpAny (model X.prog X.w) X.A (setFlight (.ref a) X.env.frame) (fun _ t4 => wpAny (model X.prog X.w) X.A (throw (.ref a) : Sem Flow) (SP X pins Dn) X.xe t4) X.xe { t with heap := g3 } := by
        rw [hfr]
        refine HandSPX.setFlight_upZ fly3 fun g4 hh4 up4 => wpAny_throw (tk _ _ ⟨a, B, t0, pins, σ1, H1, cls, none, rfl, J, nb, (up.trans up3).trans up4, .inr (.inr ?_), na, os, ag, hno rfl⟩)
        rw [hst]; exact hh4
      first
        | exact wpAny_bind (wpAny_pure (wpAny_bind go))
        | exact wpAny_bind go
    | true =>
      refine codeAny_handlers_suite_as (HandSPX.lands_againZ fly3 fun g4 fly4 up4 => ?_)
      have J4 : Inv X pins σ1 H1 { t with heap := g4 } := J.landed nb fly4.1 ((up.trans up3).trans up4) os ag
      obtain ⟨o4, v4, e4, z4, d4⟩ := fly4.there
      refine store_ok (X := X.suite a ((a, o4) :: (X.pn ++ pins))) (v := .ref a) (J4.suite e4 d4 na nL nF) nd hi (.inl hl) rfl (fun t5 S5 => ?_) (.inr hl)
      refine wpAny_mono ((hsu a o4 cls none (X.pn ++ pins) z4 ⟨_, d4⟩).run [] t5 _ H1 _ S5 (hyes rfl a na)) (fun fl t6 r6 => ?_) fun _ _ z => z.elim
      have fin : ∀ {σ6 : L2.St} {H6 : Hp} {Q : Shared → Prop}, Inv (X.suite a ((a, o4) :: (X.pn ++ pins))) [] σ6 H6 t6 → (∀ t7, Inv X pins (σ6.set i none) (upd H6 a (ExQ cls a)) t7 → Q t7) → wpAny (model X.prog X.w) X.A (do bindName X.env n .none; unbindBehindTheSuite X.env n hpos) (fun _ t7 => Q t7) X.xe t6 := by
        intro σ6 H6 Q S6 hq
        obtain ⟨e6, n6, _⟩ := S6.pin (a, o4) (by simp)
        exact gone_ok (inv_track (S6.unsuite ok) new npin e6 d4 z4 n6 nL) nd hi hl hq
      cases fl with
      | next => obtain ⟨σ6, H6, S6, q6⟩ := r6; exact fin S6 fun t7 J7 => ⟨_, _, J7, q6⟩
      | brk => obtain ⟨σ6, H6, S6, q6⟩ := r6; exact fin S6 fun t7 J7 => ⟨_, _, J7, q6⟩
      | cont => obtain ⟨σ6, H6, S6, q6⟩ := r6; exact fin S6 fun t7 J7 => ⟨_, _, J7, q6⟩
      | ret u => obtain ⟨v6, σ6, H6, S6, rr, q6⟩ := r6; exact fin S6 fun t7 J7 => ⟨_, _, _, J7, rr, q6⟩
  · cases fl with
    | next => obtain ⟨σ1, H1, J1, q⟩ := r; exact wpAny_execs_nil ⟨σ1, H1, J1.ofTry ok, q⟩
    | brk => obtain ⟨σ1, H1, J1, q⟩ := r; exact ⟨σ1, H1, J1.ofTry ok, q⟩
    | cont => obtain ⟨σ1, H1, J1, q⟩ := r; exact ⟨σ1, H1, J1.ofTry ok, q⟩
    | ret u => obtain ⟨v, σ1, H1, J1, rr, q⟩ := r; exact ⟨v, σ1, H1, J1.ofTry ok, rr, q⟩
end
end Bw
namespace Bw
open PySem PySem.Spec PyProof.Rows L2
section
variable {X : Cx} {W : WN} {pos : Pos} {K : PySem.W.Frag}
/-! ### isinstance -/
/-- a value's kind, errors that were caught too -/
def TyQ (K : PySem.W.Frag) (H : Hp) (x : V) (t : Value) : Prop := TyX K H x t ∨ ∃ a C, x = .ref a ∧ t = .ref C ∧ H a = some (ExQ (.ref C) a) ∧ ExcC K C
theorem kitq {pins : List (Addr × Obj)} {σ : L2.St} {H : Hp} {s : Shared} {x : V} {u t : Value} (I : Inv X pins σ H s) (rx : RelV x u) (ty : TyQ X.K H x t) : ∃ P : Heap → Prop, PySem.W.KitX X.K u t P ∧ P s.heap ∧ u ≠ .builtin "__main__.__loader__#opaque" := by
  rcases ty with ty | ⟨a, C, rfl, rfl, ha, c⟩
  · exact kit_of I rx ty
  · cases rx
    obtain ⟨⟨⟨oc, od, oda, osl⟩, vs, e, ⟨z1, z2⟩, d⟩, _, _⟩ := I.hok a _ ha
    dsimp only at z1 z2 d
    subst z1 z2 d
    exact ⟨_, PySem.W.handS_kitx_exc c.hg c.hk c.hs c.hd c.ha c.hn c.ht c.hm, ⟨e, rfl, rfl, trivial⟩, fun z => nomatch z⟩
def rQ1 (K : PySem.W.Frag) (c : V) (u : Value) : List V → Hp → VK → Prop := fun xs H Q => ∃ (x : V) (t : Value) (b : Bool), xs = [x, c] ∧ TyQ K H x t ∧ PySem.W.kitOne K t u = some b ∧ Q (.bl b) H
theorem call_Q1 {c : V} {u : Value} (k : ClsV c u) : CallR X (.builtin "isinstance") (rQ1 X.K c u) := by
  intro pins s σ H xs us Q I r h
  obtain ⟨x, t, b, rfl, ty, e, q⟩ := h
  obtain ⟨u1, u2, rfl, r1, r2⟩ := L2.vals2 r
  cases k.eq r2
  obtain ⟨P, Z, p, hx⟩ := kitq I r1 ty
  exact PySem.W.kia_one Z I.kIn p e hx fun tk => ⟨.bl b, H, I.tok tk, rfl, q⟩
def rQT (K : PySem.W.Frag) (cs : List V) (ws : List Value) : List V → Hp → VK → Prop := fun xs H Q => ∃ (x : V) (tp : Addr) (t : Value) (b : Bool), xs = [x, .ref tp] ∧ H tp = some (.tup cs) ∧ TyQ K H x t ∧ PySem.W.kitAny K t ws = some b ∧ Q (.bl b) H
theorem call_QT {cs : List V} {ws : List Value} (k : Paired ClsV cs ws) : CallR X (.builtin "isinstance") (rQT X.K cs ws) := by
  intro pins s σ H xs us Q I r h
  obtain ⟨x, tp, t, b, rfl, hT, ty, e, q⟩ := h
  obtain ⟨u1, u2, rfl, r1, r2⟩ := L2.vals2 r
  cases r2
  obtain ⟨P, Z, p, hx⟩ := kitq I r1 ty
  obtain ⟨_, its, rv, ⟨oc, od, dt, sl⟩, h1, h2, n, h3⟩ := I.hok tp _ hT
  cases ClsV.all k rv
  dsimp only at h2 h3
  subst h2 h3
  exact PySem.W.kia_tup Z I.kIn p h1 e hx fun tk => ⟨.bl b, H, I.tok tk, rfl, q⟩
/-- the answer, by the kind: tb of a built-in type, tx of an error's class -/
def oIsi (tb : String → Option Bool) (tx : Str → Option Bool) (d : D) : Ev D := fun _ M =>
  let o : Option Bool := match d with
    | .non => tb "NoneType"
    | .bl _ => tb "bool"
    | .int _ => tb "int"
    | .str _ => tb "str"
    | .tup _ => tb "tuple"
    | .lst _ => tb "list"
    | .scr _ => tb "list"
    | .emp => tb "dict"
    | .ptr n => match M[n]? with
      | some (some _) => tb "list"
      | _ => none
    | .exv x => tx x
    | .dpt _ => none
    | .npt _ => none
  match o with
  | some b => some (.ok (.bl b), M)
  | none => none
/-- what is to be known of the classes that are asked for -/
structure IsiOk (K : PySem.W.Frag) (ask : Value → Option Bool) (tb : String → Option Bool) (tx : Str → Option Bool) : Prop where
  tb : ∀ a b, tb a = some b → ask (.type a) = some b
  tx : ∀ x C b, tx x = some b → PySem.W.nsIn K mainGlobals x = some (some (.ref C)) → ask (.ref C) = some b ∧ ExcC K C
theorem tyq_of {θ : List Th} {G H : Hp} {M : Mem} {v : V} {d : D} {ask : Value → Option Bool} {tb : String → Option Bool} {tx : Str → Option Bool} (rs : Rs K θ G H M) (hv : Rv K θ G v d) (ok : IsiOk K ask tb tx) {ρ : Env} {r : Res D} {M' : Mem} (e : oIsi tb tx d ρ M = some (r, M')) : ∃ b t, r = .ok (.bl b) ∧ M' = M ∧ TyQ K H v t ∧ ask t = some b := by
  have sqT : ∀ {a xs}, SqT K G a xs → TyX K H (.ref a) (.type "tuple") := fun {a xs} h => by
    rcases seqT rs.sub h with (h | ⟨o, h⟩) | ⟨o, its, n, h1, h2, _⟩
    · exact .base (.tup h)
    · exact .fTuple h
    · exact .kTuple h1 h2
  have sqL : ∀ {a xs}, SqL K H a xs → TyX K H (.ref a) (.type "list") := fun {a xs} h => by
    rcases h with (h | ⟨o, h⟩) | ⟨o, its, n, h1, h2, _⟩
    · exact .base (.lst h)
    · exact .base (.frz h)
    · exact .kList h1 h2
  have go : ∀ {o : Option Bool} {t : Value}, (match o with | some b => some (Res.ok (D.bl b), M) | none => none) = some (r, M') → TyQ K H v t → (∀ b, o = some b → ask t = some b) → ∃ b t, r = .ok (.bl b) ∧ M' = M ∧ TyQ K H v t ∧ ask t = some b := by
    intro o t h1 h2 h3
    cases o with
    | none => cases h1
    | some b => cases h1; exact ⟨b, t, rfl, rfl, h2, h3 b rfl⟩
  unfold oIsi at e
  cases hv with
  | dat hv =>
    cases hv with
    | non => exact go e (.inl (.base .non)) fun b h => ok.tb _ b h
    | bl _ => exact go e (.inl (.base (.bl _))) fun b h => ok.tb _ b h
    | int _ => exact go e (.inl (.base (.int _))) fun b h => ok.tb _ b h
    | str _ => exact go e (.inl (.base (.str _))) fun b h => ok.tb _ b h
    | tup h _ _ => exact go e (.inl (sqT h)) fun b h => ok.tb _ b h
    | lst h _ _ => exact go e (.inl (.base (.lst (rs.sub _ _ h)))) fun b h => ok.tb _ b h
    | scr h _ _ => exact go e (.inl (sqL (rs.sub.seq h))) fun b h => ok.tb _ b h
    | emp h => exact go e (.inl (.base (.dK (rs.sub _ _ h)))) fun b h => ok.tb _ b h
  | @ptr n a hn =>
    cases q : M[n]? with
    | none => dsimp only at e; rw [q] at e; cases e
    | some z =>
      cases z with
      | none => dsimp only at e; rw [q] at e; cases e
      | some ds =>
        dsimp only at e
        rw [q] at e
        obtain ⟨_, xs, hx, _⟩ := rs.mem n a ds hn q
        exact go e (.inl (sqL (.inl (.inl hx)))) fun b h => ok.tb _ b h
  | dpt _ => cases e
  | npt _ => cases e
  | @exv x a C hn h =>
    dsimp only at e
    cases q : tx x with
    | none => rw [q] at e; cases e
    | some b =>
      rw [q] at e
      obtain ⟨q1, q2⟩ := ok.tx x C b q hn
      exact go (o := some b) e (.inr ⟨a, C, rfl, rfl, rs.sub _ _ h, q2⟩) fun b' h' => by cases h'; exact q1
variable {p p2 : Pos} {e : Expr} {f : Ev D}
/-- isinstance(e, c), c by its name -/
theorem de_isi {cx : Str} {c : V} {u : Value} {tb : String → Option Bool} {tx : Str → Option Bool} (hc : PE X (.Name cx p2) (tC c)) (k : ClsV c u) (ok : IsiOk X.K (fun t => PySem.W.kitOne X.K t u) tb tx) (hm : X.mg "isinstance" = none) (he : DE X W e f) (hg : Gl X "isinstance" := by rfl)
    (hs : starEach [e, .Name cx p2] X.env = (false, eval e X.env) :: starEach [.Name cx p2] X.env := by rfl) (hs2 : starEach [.Name cx p2] X.env = (false, eval (.Name cx p2) X.env) :: starEach [] X.env := by rfl) (hpl : (backTo pos (starEach [.Name cx p2] X.env)).any (·.1) = false := by rfl) :
    DE X W (.Call (.Name "isinstance" p) [e, .Name cx p2] [] pos) (bnd f (oIsi tb tx)) := by
  obtain ⟨t, q, s⟩ := he
  refine ⟨_, pe_callB (call_Q1 k) hg hm (by decide +kernel) (pa_cons q (pa_cons hc pa_nil hs2) hs) (by decide) (by decide) hs hpl, fun θ G => ?_⟩
  refine (s θ G).bind (R2 := RV X.K) (k := fun (x : V) (_ : L2.St) (H1 : Hp) (Q : V → Hp → Prop) => rQ1 X.K c u [x, c] H1 Q) fun θ1 G1 v d _ _ hv => ?_
  intro ρ M r M' θ2 G2 σ H Q p2 s2 e rs rv kk
  obtain ⟨b, t, rfl, rfl, ty, q2⟩ := tyq_of rs (hv.mono p2 s2) ok e
  exact ⟨v, t, b, rfl, ty, q2, (kk θ2 G2 H (List.prefix_refl _) (Same.refl _) rs).2 _ _ rfl rv_bl⟩
/-- isinstance(e, (c, ..)) -/
theorem de_isiT {es : List Expr} {k1 : Nat} {cs : List V} {ws : List Value} {tb : String → Option Bool} {tx : Str → Option Bool} (hc : PA X es (fun _ H Q => Q cs H)) (k : Paired ClsV cs ws) (hlen : cs.length ≤ 16777216) (ok : IsiOk X.K (fun t => PySem.W.kitAny X.K t ws) tb tx) (hm : X.mg "isinstance" = none) (he : DE X W e f) (hg : Gl X "isinstance" := by rfl)
    (hs : starEach [e, .Tuple es k1 p2] X.env = (false, eval e X.env) :: starEach [.Tuple es k1 p2] X.env := by rfl) (hs2 : starEach [.Tuple es k1 p2] X.env = (false, eval (.Tuple es k1 p2) X.env) :: starEach [] X.env := by rfl) (hpl : (backTo pos (starEach [.Tuple es k1 p2] X.env)).any (·.1) = false := by rfl) :
    DE X W (.Call (.Name "isinstance" p) [e, .Tuple es k1 p2] [] pos) (bnd f (oIsi tb tx)) := by
  obtain ⟨t, q, s⟩ := he
  refine ⟨_, pe_callB (call_QT k) hg hm (by decide +kernel) (pa_cons q (pa_cons (pe_tup hc) pa_nil hs2) hs) (by decide) (by decide) hs hpl, fun θ G => ?_⟩
  refine (s θ G).bind (R2 := RV X.K) (k := fun (x : V) (_ : L2.St) (H1 : Hp) (Q : V → Hp → Prop) => cs.length ≤ sizeLine ∧ ∀ tp, H1 tp = none → rQT X.K cs ws [x, .ref tp] (upd H1 tp (.tup cs)) Q) fun θ1 G1 v d _ _ hv => ?_
  intro ρ M r M' θ2 G2 σ H Q p2 s2 e rs rv kk
  refine ⟨by rw [sizeLine_eq]; exact hlen, fun tp htp => ?_⟩
  have g := rs.fresh htp
  have rs' := rs.laid htp (.tup cs)
  obtain ⟨b, t, rfl, rfl, ty, q2⟩ := tyq_of rs' (hv.mono p2 (s2.trans (same_upd g))) ok e
  exact ⟨v, tp, t, b, rfl, upd_same, ty, q2, (kk θ2 _ _ (List.prefix_refl _) (same_upd g) rs').2 _ _ rfl rv_bl⟩
theorem pa_cls_nil : PA X [] (fun _ H Q => Q [] H) := pa_nil
theorem pa_cls {cx : Expr} {es : List Expr} {c : V} {cs : List V} (hc : PE X cx (tC c)) (hr : PA X es (fun _ H Q => Q cs H)) (hs : starEach (cx :: es) X.env = (false, eval cx X.env) :: starEach es X.env := by rfl) : PA X (cx :: es) (fun _ H Q => Q (c :: cs) H) := pa_cons hc hr hs
/-! ### repr of a truth -/
def oRepr (ds : List D) : Ev D := match ds with
  | [.bl b] => ret (.str (if b then "True" else "False"))
  | _ => stk
theorem call_reprB : CallR X (.builtin "repr") (fun xs H Q => ∃ b : Bool, xs = [.bl b] ∧ Q (.str (if b then "True" else "False")) H) := by
  intro pins s σ H xs us Q I r h
  obtain ⟨b, rfl, q⟩ := h
  obtain ⟨u, rfl, hu⟩ := L2.vals1 r
  cases hu
  exact PySem.P.repr_of_bool ⟨.str _, H, I.tok _, ⟨_, rfl⟩, q⟩
theorem snd_repr : SndC K W (fun xs H Q => ∃ b : Bool, xs = [.bl b] ∧ Q (.str (if b then "True" else "False")) H) oRepr := by
  intro θ0 G0 xs ds hx
  unfold oRepr
  split
  · rename_i b
    obtain ⟨v, rfl, hv⟩ := vals1 hx
    rw [hv.bl_of]
    intro ρ M r M' θ G σ H Q p s e rs rv kk
    exact ⟨b, rfl, Snd.ret (K := K) (W := W) (R := RV K) (θ0 := θ0) (G0 := G0) (d := .str (if b then "True" else "False")) (fun _ G _ _ => .dat (.str _)) ρ M r M' θ G σ H Q p s e rs rv kk⟩
  · exact Snd.stk
theorem de_repr {es : List Expr} {h : Ev (List D)} (hm : X.mg "repr" = none) (ha : DA X W (e :: es) h) (hg : Gl X "repr" := by rfl) (he : starEach (e :: es) X.env = (false, eval e X.env) :: starEach es X.env := by rfl) (hpl : (backTo pos (starEach es X.env)).any (·.1) = false := by rfl) : DE X W (.Call (.Name "repr" p) (e :: es) [] pos) (bnd h oRepr) :=
  de_callB call_reprB snd_repr hm (by decide +kernel) ha hg (by decide) (by decide) he hpl
/-! ### x in a list of truths; is True, is False -/
def oInB (d e : D) : Ev D := match d, e with
  | .bl b, .lst ds => match blsOf ds with
    | some bs => ret (.bl (bs.contains b))
    | none => stk
  | _, _ => stk
theorem inV_bl (b : Bool) : ∀ bs : List Bool, inV (.bl b) (bs.map V.bl) = bs.contains b
  | [] => rfl
  | c :: bs => by
    have ih := inV_bl b bs
    unfold inV at ih ⊢
    rw [List.map_cons, List.any_cons, ih, List.contains_cons]
    congr 1
    cases b <;> cases c <;> rfl
theorem flat_bl : ∀ bs : List Bool, (bs.map V.bl).all flatV = true
  | [] => rfl
  | c :: bs => by rw [List.map_cons, List.all_cons, flat_bl bs]; rfl
theorem snd_inB : SndO K W (rIn K false) oInB := by
  intro θ G x y d e hx hy
  unfold oInB
  split
  · rename_i b ds
    split
    · rename_i bs hbs
      have hx' := hx.bl_of
      subst hx'
      cases hy with
      | dat hy =>
        cases hy with
        | lst hq l g =>
          rename_i a xs
          have ex := rpl_bls hbs ⟨l, g⟩
          subst ex
          intro ρ M r M' θ1 G1 σ H Q p s e rs rv kk
          refine ⟨a, _, rfl, .inl (.inl (.inl (rs.sub _ _ (s _ _ hq)))), rfl, flat_bl bs, ?_⟩
          rw [inV_bl]
          exact Snd.ret (K := K) (W := W) (R := RV K) (θ0 := θ) (G0 := G) (fun _ _ _ _ => rv_bl) ρ M r M' θ1 G1 σ H Q p s e rs rv kk
    · exact Snd.stk
  · exact Snd.stk
variable {a b : Expr} {g : Ev D}
theorem de_inB (ha : DE X W a f) (hb : DE X W b g) (hm : behindInMarks .In b = false := by rfl) : DE X W (.Compare a [.In] [b] pos) (bnd f fun d => bnd g fun e => oInB d e) := de_cmp op_in_seq snd_inB ha hb hm
theorem dt_inB (ha : DE X W a f) (hb : DE X W b g) (hm : behindInMarks .In b = false := by rfl) : DT X W (.Compare a [.In] [b] pos) (bnd (bnd f fun d => bnd g fun e => oInB d e) asB) := dt_cmp op_in_seq snd_inB ha hb hm
/-! ### raise, try -/
def sRaise (x : Str) : Sv := fun ρ M => some (.ex x ρ, M)
theorem ds_raise {WC : WX} {x : Str} {C : Addr} {m : Str} {j : Nat} {p3 pos2 : Pos} (hw : WOk X.mg WC W) (hc : X.calm = true) (tk : Takes X WC) (q : PySem.W.excIn X.K C [.type "ValueError", .type "Exception", .type "BaseException", .type "object"] "ValueError.__new__" = true) (gC : X.mg x = some (.ref C)) (kC : PySem.W.keepIn X.K (.ref C) = true) (r : Raises X (.ref C)) (hg : Gl X x := by rfl) (hdb : (x == ("__debug__" : Str)) = false := by decide) :
    DS X W (.Raise (some (.Call (.Name x p) [.Constant (.str m) j p3] [] pos)) none pos2) (sRaise x) := by
  refine ⟨_, ps_raise hc tk (pmk_own PySem.F.excBase_ValueError q gC kC r hg hdb), fun ρ M o M' θ G σ H Dn e rs rv kk => ?_⟩
  unfold sRaise at e
  cases e
  exact hw x σ H ((kk θ G H (List.prefix_refl _) (Same.refl _) rs).ex x ρ σ rfl rv) C gC
end
end Bw
namespace Bw
open PySem PySem.Spec PyProof.Rows L2
section
variable {X : Cx} {W : WN} {pos : Pos} {K : PySem.W.Frag}
/-- the reading of a body's worth -/
def tSOf (K : PySem.W.Frag) (W : WN) (f : Sv) : TS := fun Dn σ H => ∃ (ρ : Env) (M : Mem) (o : Out) (M' : Mem) (θ : List Th) (G : Hp), f ρ M = some (o, M') ∧ Rs K θ G H M ∧ Rσ K θ G σ ρ ∧
  ∀ (θ' : List Th) (G' H' : Hp), θ <+: θ' → Same G G' → Rs K θ' G' H' M' → Cont K W Dn o θ' G' H'
theorem DSs.can {sts : List Stmt} {f : Sv} (h : DSs X W sts f) : PSs X sts (tSOf X.K W f) := by
  obtain ⟨t, p, s⟩ := h
  refine ⟨fun pins s1 σ H Dn I q => p.run pins s1 σ H Dn I ?_⟩
  obtain ⟨ρ, M, o, M', θ, G, e, rs, rv, kk⟩ := q
  exact s ρ M o M' θ G σ H Dn e rs rv kk
/-- wishes by names, out of wishes by classes -/
def wnOf (mg : Str → Option Value) (WC : WX) : WN := fun x σ H => ∀ C, mg x = some (.ref C) → WC (.ref C) none σ H
theorem wokT {mg : Str → Option Value} {WC : WX} : WOk mg WC (wnOf mg WC) := fun _ _ _ h C hC => h C hC
/-- try: .. except c as n: m = n; mt: which classes the clause takes -/
def sTry (mt : Str → Option Bool) (i j : Nat) (f : Sv) : Sv := fun ρ M => match f ρ M with
  | some (.ex x ρ1, M1) => match mt x with
    | some true => if i < ρ1.length then some (.nx (((ρ1.set i (some (.exv x))).set j (some (.exv x))).set i none), M1) else none
    | some false => some (.ex x ρ1, M1)
    | none => none
  | r => r
theorem ds_try {i j : Nat} {n m bx : Str} {cB : Addr} {body : List Stmt} {np hpos pm pn pa : Pos} {f : Sv} {WC : WX} {mt : Str → Option Bool} (hw : WOk X.mg WC W) (tk : Takes X WC) (nd : X.N.Nodup) (hc : X.mg bx = some (.ref cB))
    (hmt : ∀ x b, mt x = some b → ∃ C, X.mg x = some (.ref C) ∧ PySem.W.nsIn X.K mainGlobals x = some (some (.ref C)) ∧ PySem.W.exmOne X.K (.ref C) (.ref cB) = some b)
    (hb : ∀ (WC' : WX) (pl : List (Addr × Obj)) (xe : Value → Shared → Prop), Takes (X.tr pl xe) WC' → PassesOwn (model X.prog X.w) X.A X.env xe → DSs (X.tr pl xe) (wnOf X.mg WC') body f)
    (hi : X.N[i]? = some n := by rfl) (hl : X.env.kindOf n = some .local := by rfl) (hj : X.N[j]? = some m := by rfl) (hlj : X.env.scope.names.lookup m = some .local := by rfl) (hv : Vis X.env.scope n := by exact Or.inl rfl)
    (hst : X.stack = X.env :: X.outer := by rfl) (hfr : X.env.frame = some X.env.locals := by rfl) (hex : X.ex = [] := by rfl) (hg : Gl X bx := by rfl) (hdb : (bx == ("__debug__" : Str)) = false := by decide)
    (hd1 : (n == ("__debug__" : Str)) = false := by decide) (hd2 : (n == ("__classdict__" : Str)) = false := by decide)
    (hsw : swapsWith (.Name n pn) (some (.Name m pm)) pa.line X.env = pure false := by rfl) :
    DS X W (.Try body [.ExceptHandler (some (.Name bx np)) (some n) [.Assign [.Name m pm] (.Name n pn) pa] hpos] [] [] pos) (sTry mt i j f) := by
  refine ⟨_, ps_tryK (i := i) (Wo := WC) (tb := fun WC' => tSOf X.K (wnOf X.mg WC') f) (ts := fun _ _ _ => tAsg (tVar i) (gName j)) hst hfr hex nd hi hl ⟨hg, hdb, .inl hc⟩ tk (fun WC' pl xe tk' po => (hb WC' pl xe tk' po).can) (fun a oe cls d pl z hf => pss_one (ps_set (X := X.suite a ((a, oe) :: pl)) (i := j) nd hj (.inl hlj) (pe_var hi hv hd1 hd2) hsw (.inr hlj))), fun ρ M o M' θ G σ H Dn e rs rv kk => ?_⟩
  unfold sTry at e
  cases q : f ρ M with
  | none => rw [q] at e; cases e
  | some z =>
    obtain ⟨o1, M1⟩ := z
    rw [q] at e
    refine ⟨ρ, M, o1, M1, θ, G, q, rs, rv, fun θ' G' H' p' s' rs' => ?_⟩
    cases o1 with
    | ex x ρ1 =>
      refine ⟨fun ρ2 σ2 h => (by cases h), fun ρ2 σ2 h => (by cases h), fun ρ2 σ2 h => (by cases h), fun d v h => (by cases h), fun x' ρ2 σ2 h r2 C hC => ?_⟩
      cases h
      dsimp only at e
      cases qm : mt x with
      | none => rw [qm] at e; cases e
      | some b =>
        rw [qm] at e
        obtain ⟨C2, g2, n2, m2⟩ := hmt x b qm
        have eC : C = C2 := by rw [hC] at g2; cases g2; rfl
        subst eC
        refine ⟨rfl, b, m2, fun hb0 => ?_, fun hb1 a ha => ?_⟩
        · subst hb0
          cases e
          exact hw x σ2 H' ((kk θ' G' H' p' s' rs').ex x ρ1 σ2 rfl r2) C hC
        · subst hb1
          dsimp only at e
          split at e
          · rename_i hlt
            cases e
            have hi2 : i < σ2.length := by rw [r2.len]; exact hlt
            refine ⟨.ref a, List.getElem?_set_self hi2, ?_⟩
            have g := rs'.fresh ha
            have rs2 := rs'.laid ha (ExQ (.ref C) a)
            have rel : Rv X.K θ' (upd G' a (ExQ (.ref C) a)) (.ref a) (.exv x) := .exv n2 upd_same
            exact (kk θ' _ _ p' (s'.trans (same_upd g)) rs2).nx _ _ rfl (rσ_none (((r2.mono (List.prefix_refl _) (same_upd g)).set rel).set rel) i)
          · cases e
    | nx ρ1 => cases e; exact ⟨(kk θ' G' H' p' s' rs').nx, (kk θ' G' H' p' s' rs').bk, (kk θ' G' H' p' s' rs').ct, (kk θ' G' H' p' s' rs').rt, fun _ _ _ h => (by cases h)⟩
    | bk ρ1 => cases e; exact ⟨(kk θ' G' H' p' s' rs').nx, (kk θ' G' H' p' s' rs').bk, (kk θ' G' H' p' s' rs').ct, (kk θ' G' H' p' s' rs').rt, fun _ _ _ h => (by cases h)⟩
    | ct ρ1 => cases e; exact ⟨(kk θ' G' H' p' s' rs').nx, (kk θ' G' H' p' s' rs').bk, (kk θ' G' H' p' s' rs').ct, (kk θ' G' H' p' s' rs').rt, fun _ _ _ h => (by cases h)⟩
    | rt d => cases e; exact ⟨(kk θ' G' H' p' s' rs').nx, (kk θ' G' H' p' s' rs').bk, (kk θ' G' H' p' s' rs').ct, (kk θ' G' H' p' s' rs').rt, fun _ _ _ h => (by cases h)⟩
end
/-- a def's worth, errors too -/
def runX (N : List Str) (fb : Sv) : Fd := fun ds M => match fb (startD N ds) M with
  | some (.rt d, M2) => if M.length ≤ M2.length ∧ d.ptLt M.length = true then some (.ok d, M2.take M.length) else none
  | some (.nx _, M2) => if M.length ≤ M2.length then some (.ok .non, M2.take M.length) else none
  | some (.ex x _, M2) => if M.length ≤ M2.length then some (.exc x, M2.take M.length) else none
  | _ => none
theorem runX_ok {n : Nat} {N : List Str} {fb : Sv} : ∀ ds M r M', ds.length = n → runX N fb ds M = some (r, M') → M.length ≤ M'.length ∧ ∃ o M2, fb (startD N ds) M = some (o, M2) ∧ Exit o M2 r M' := by
  intro ds M r M' _ h
  unfold runX at h
  have cut : ∀ M2 : Mem, M2 = M2.take M.length ++ M2.drop M.length := fun M2 => (List.take_append_drop _ _).symm
  split at h
  · rename_i d M2 e
    split at h
    · rename_i hc
      cases h
      refine ⟨by rw [List.length_take]; omega, _, _, e, ?_⟩
      have ex := Exit.rt (d := d) (M' := M2.take M.length) (g := M2.drop M.length) (fun n hn => by
        rw [List.length_take]
        rcases hn with hn | hn
        · subst hn
          have := of_decide_eq_true hc.2
          omega
        · subst hn
          have := of_decide_eq_true hc.2
          omega) fun n hn => by subst hn; cases hc.2
      rw [← cut M2] at ex
      exact ex
    · cases h
  · rename_i ρ M2 e
    split at h
    · cases h
      refine ⟨by rw [List.length_take]; omega, _, _, e, ?_⟩
      have ex := Exit.nx (ρ := ρ) (M' := M2.take M.length) (g := M2.drop M.length)
      rw [← cut M2] at ex
      exact ex
    · cases h
  · rename_i x ρ M2 e
    split at h
    · cases h
      refine ⟨by rw [List.length_take]; omega, _, _, e, ?_⟩
      have ex := Exit.ex (C := x) (ρ := ρ) (M' := M2.take M.length) (g := M2.drop M.length)
      rw [← cut M2] at ex
      exact ex
    · cases h
  · cases h
theorem runX_rt {N : List Str} {fb : Sv} {ds : List D} {M : Mem} {d : D} (h : fb (startD N ds) M = some (.rt d, M)) (hp : d.np = true) : runX N fb ds M = some (.ok d, M) := by
  unfold runX
  rw [h]
  dsimp only
  rw [if_pos ⟨Nat.le_refl _, by cases d <;> first | rfl | cases hp⟩, List.take_length]
theorem runX_ex {N : List Str} {fb : Sv} {ds : List D} {M : Mem} {x : Str} {ρ : Env} (h : fb (startD N ds) M = some (.ex x ρ, M)) : runX N fb ds M = some (.exc x, M) := by
  unfold runX
  rw [h]
  dsimp only
  rw [if_pos (Nat.le_refl _), List.take_length]
theorem isi_ty {K : PySem.W.Frag} {T : String} : IsiOk K (fun t => PySem.W.kitOne K t (.type T)) (fun a => kitB a T) (fun _ => none) := ⟨fun a b h => kit_ty h, fun x C b h => (by cases h)⟩
/-- x is True, x is False -/
def oIsB (d e : D) : Ev D := match d, e with
  | .bl a, .bl b => ret (.bl (decide (a = b)))
  | _, _ => stk
theorem snd_isB {K : PySem.W.Frag} {W : WN} : SndO K W rIsB oIsB := by
  intro θ G x y d e hx hy
  unfold oIsB
  split
  · rename_i a b
    rw [hx.bl_of, hy.bl_of]
    intro ρ M r M' θ1 G1 σ H Q p s e rs rv kk
    exact ⟨a, b, rfl, rfl, Snd.ret (K := K) (W := W) (R := RV K) (θ0 := θ) (G0 := G) (fun _ _ _ _ => rv_bl) ρ M r M' θ1 G1 σ H Q p s e rs rv kk⟩
  · exact Snd.stk
section
variable {X : Cx} {W : WN} {pos : Pos} {a b : Expr} {f g : Ev D}
theorem de_isB (ha : DE X W a f) (hb : DE X W b g) : DE X W (.Compare a [.Is] [b] pos) (bnd f fun d => bnd g fun e => oIsB d e) := de_cmp op_isBl snd_isB ha hb (nomark _)
theorem dt_isB (ha : DE X W a f) (hb : DE X W b g) : DT X W (.Compare a [.Is] [b] pos) (bnd (bnd f fun d => bnd g fun e => oIsB d e) asB) := dt_cmp op_isBl snd_isB ha hb (nomark _)
end
theorem kit_own {K : PySem.W.Frag} {E C : Addr} {b : Bool} (hd : PySem.W.hasDictIn K C = true) (ht : PySem.W.typeIn K (.ref C) = some (.type "type")) (hs : PySem.W.subIn K (.ref E) (.ref C) = some b) (he : PySem.W.subIn K (.ref E) (.ref E) = some true) : PySem.W.kitOne K (.ref E) (.ref C) = some b := by
  unfold PySem.W.kitOne
  split
  · rename_i h
    have e : Value.ref E = Value.ref C := by simpa using h
    cases e
    rw [he] at hs
    exact hs
  · obtain ⟨cd, hc, _⟩ := PySem.W.any_some hd
    unfold PySem.W.kitCls
    dsimp only
    rw [if_pos (by rw [hc, ht]; rfl)]
    exact hs
theorem kit_type {K : PySem.W.Frag} {E : Addr} {T : String} {b : Bool} (hm : PySem.W.kitMeta T = true) (hs : PySem.W.subIn K (.ref E) (.type T) = some b) : PySem.W.kitOne K (.ref E) (.type T) = some b := by
  unfold PySem.W.kitOne
  rw [if_neg (by simp)]
  unfold PySem.W.kitCls
  dsimp only
  rw [if_pos hm]
  exact hs
/-- x is not True, x is not False -/
def oIsnB (d e : D) : Ev D := match d, e with
  | .bl a, .bl b => ret (.bl (!decide (a = b)))
  | _, _ => stk
theorem snd_isnB {K : PySem.W.Frag} {W : WN} : SndO K W rNotB oIsnB := by
  intro θ G x y d e hx hy
  unfold oIsnB
  split
  · rename_i a b
    rw [hx.bl_of, hy.bl_of]
    intro ρ M r M' θ1 G1 σ H Q p s e rs rv kk
    exact ⟨a, b, rfl, rfl, Snd.ret (K := K) (W := W) (R := RV K) (θ0 := θ) (G0 := G) (fun _ _ _ _ => rv_bl) ρ M r M' θ1 G1 σ H Q p s e rs rv kk⟩
  · exact Snd.stk
section
variable {X : Cx} {W : WN} {pos : Pos} {a b : Expr} {f g : Ev D}
theorem de_isnB (ha : DE X W a f) (hb : DE X W b g) : DE X W (.Compare a [.IsNot] [b] pos) (bnd f fun d => bnd g fun e => oIsnB d e) := de_cmp op_notBl snd_isnB ha hb (nomark _)
theorem dt_isnB (ha : DE X W a f) (hb : DE X W b g) : DT X W (.Compare a [.IsNot] [b] pos) (bnd (bnd f fun d => bnd g fun e => oIsnB d e) asB) := dt_cmp op_notBl snd_isnB ha hb (nomark _)
/-- {} -/
theorem de_emp : DE X W (.Dict [] [] pos) (ret .emp) := by
  refine ⟨_, pe_dnewK, fun θ0 G0 ρ M r M' θ G σ H Q p s e rs rv kk => ?_⟩
  unfold ret at e
  cases e
  intro a ha
  have g := rs.fresh ha
  exact (kk θ _ _ (List.prefix_refl _) (same_upd g) (rs.laid ha _)).2 _ _ rfl (.dat (.emp upd_same))
end
end Bw
namespace Bw
open PySem PySem.Spec PyProof.Rows L2
/-! ### fractions as rationals -/
def frQ (q : Rat) : D := .tup [.int q.num, .int (q.den : Int)]
def Bd (n : Nat) (q : Rat) : Prop := q.num.natAbs < 2 ^ n ∧ q.den < 2 ^ n
theorem Bd.mono {m n : Nat} {q : Rat} (h : Bd m q) (l : m ≤ n) : Bd n q := ⟨Nat.lt_of_lt_of_le h.1 (Nat.pow_le_pow_right (by decide) l), Nat.lt_of_lt_of_le h.2 (Nat.pow_le_pow_right (by decide) l)⟩
def MulOk (i j : Int) : Prop := i.natAbs.log2 + j.natAbs.log2 < 1000000
def DivOk (j : Int) : Prop := j ≠ 0 ∧ j.natAbs.log2 < 9000
theorem log2_le_of {n a : Nat} (h : n < 2 ^ a) : n.log2 ≤ a := by
  rcases Nat.eq_zero_or_pos n with rfl | hp
  · simp
  · exact Nat.le_of_lt ((Nat.log2_lt (by omega)).mpr h)
theorem MulOk.of {i j : Int} {a b : Nat} (hi : i.natAbs < 2 ^ a) (hj : j.natAbs < 2 ^ b) (h : a + b < 1000000 := by decide) : MulOk i j := by
  have := log2_le_of hi
  have := log2_le_of hj
  unfold MulOk; omega
theorem DivOk.of {j : Int} {b : Nat} (h0 : j ≠ 0) (hj : j.natAbs < 2 ^ b) (h : b < 9000 := by decide) : DivOk j := ⟨h0, Nat.lt_of_le_of_lt (log2_le_of hj) h⟩
theorem oMul_int {i j : Int} (h : MulOk i j) (ρ : Env) (M : Mem) : oMul (.int i) (.int j) ρ M = some (.ok (.int (i * j)), M) := by
  unfold oMul oI
  dsimp only
  rw [if_pos (decide_eq_true (show i.natAbs.log2 + j.natAbs.log2 < 1000000 from h))]; rfl
theorem oDiv_int {i j : Int} (h : DivOk j) (ρ : Env) (M : Mem) : oDiv (.int i) (.int j) ρ M = some (.ok (.int (i.fdiv j)), M) := by
  unfold oDiv oI
  dsimp only
  rw [if_pos (decide_eq_true (show j ≠ 0 ∧ j.natAbs.log2 < 9000 from h))]; rfl
theorem oMod_int {i j : Int} (h : j ≠ 0) (ρ : Env) (M : Mem) : oMod (.int i) (.int j) ρ M = some (.ok (.int (i.fmod j)), M) := by
  unfold oMod oI
  dsimp only
  rw [if_pos (decide_eq_true h)]; rfl
theorem oAdd_int {i j : Int} (ρ : Env) (M : Mem) : oAdd (.int i) (.int j) ρ M = some (.ok (.int (i + j)), M) := rfl
theorem oSub_int {i j : Int} (ρ : Env) (M : Mem) : oSub (.int i) (.int j) ρ M = some (.ok (.int (i - j)), M) := rfl
theorem oLt_int {i j : Int} (ρ : Env) (M : Mem) : oLt (.int i) (.int j) ρ M = some (.ok (.bl (decide (i < j))), M) := rfl
theorem oLe_int {i j : Int} (ρ : Env) (M : Mem) : oLe (.int i) (.int j) ρ M = some (.ok (.bl (decide (i ≤ j))), M) := rfl
theorem oGt_int {i j : Int} (ρ : Env) (M : Mem) : oGt (.int i) (.int j) ρ M = some (.ok (.bl (decide (j < i))), M) := rfl
theorem oGe_int {i j : Int} (ρ : Env) (M : Mem) : oGe (.int i) (.int j) ρ M = some (.ok (.bl (decide (j ≤ i))), M) := rfl
theorem oNeg_int {i : Int} (ρ : Env) (M : Mem) : oNeg (.int i) ρ M = some (.ok (.int (-i)), M) := rfl
theorem oEq_int {i j : Int} (ρ : Env) (M : Mem) : oEq (.int i) (.int j) ρ M = some (.ok (.bl (decide (i = j))), M) := by
  unfold oEq
  rw [if_pos ⟨rfl, rfl, by rfl, by rfl⟩]
  show some (Res.ok (D.bl (PyData.eqv (.int i) (.int j))), M) = _
  simp only [PyData.eqv]
  congr
theorem oNe_int {i j : Int} (ρ : Env) (M : Mem) : oNe (.int i) (.int j) ρ M = some (.ok (.bl (!decide (i = j))), M) := by
  unfold oNe
  rw [if_pos ⟨rfl, rfl, by rfl, by rfl⟩]
  show some (Res.ok (D.bl (!PyData.eqv (.int i) (.int j))), M) = _
  simp only [PyData.eqv]
  congr
theorem eqv_fr (x y : Rat) : PyData.eqv (toPy (frQ x)) (toPy (frQ y)) = decide (x = y) := by
  simp only [frQ, toPy, toPys, PyData.eqv, PyData.eqvAll, Bool.and_true]
  rw [Bool.eq_iff_iff]
  simp only [Bool.and_eq_true, beq_iff_eq, decide_eq_true_eq]
  constructor
  · rintro ⟨a, b⟩
    exact Rat.ext a (by exact_mod_cast b)
  · rintro rfl; exact ⟨rfl, rfl⟩
theorem shaped_fr (x : Rat) : SeqAt.shaped (toPy (frQ x)) = true := by rfl
theorem oEq_fr (x y : Rat) (ρ : Env) (M : Mem) : oEq (frQ x) (frQ y) ρ M = some (.ok (.bl (decide (x = y))), M) := by
  unfold oEq
  rw [if_pos ⟨rfl, rfl, shaped_fr x, shaped_fr y⟩, eqv_fr]; rfl
theorem oNe_fr (x y : Rat) (ρ : Env) (M : Mem) : oNe (frQ x) (frQ y) ρ M = some (.ok (.bl (!decide (x = y))), M) := by
  unfold oNe
  rw [if_pos ⟨rfl, rfl, shaped_fr x, shaped_fr y⟩, eqv_fr]; rfl
theorem oEq_bl {i j : Bool} (ρ : Env) (M : Mem) : oEq (.bl i) (.bl j) ρ M = some (.ok (.bl (decide (i = j))), M) := by
  cases i <;> cases j <;> rfl
theorem oNe_bl {i j : Bool} (ρ : Env) (M : Mem) : oNe (.bl i) (.bl j) ρ M = some (.ok (.bl (!decide (i = j))), M) := by
  cases i <;> cases j <;> rfl
theorem np_fr (x : Rat) : (frQ x).np = true := rfl
/-! uniqueness of lowest terms -/
theorem rat_uniq {q : Rat} {n : Int} {d : Nat} (hd : d ≠ 0) (hc : n.natAbs.Coprime d) (h : n * (q.den : Int) = q.num * (d : Int)) : q.num = n ∧ q.den = d := by
  have e : mkRat n d = q := by
    rw [← Rat.mkRat_self q, Rat.mkRat_eq_iff hd q.den_nz]; exact h
  have e2 : mkRat n d = ⟨n, d, hd, hc⟩ := by
    rw [← Rat.normalize_eq_mkRat hd, Rat.normalize_eq]
    have g : n.natAbs.gcd d = 1 := hc
    simp [g]
  rw [e2] at e
  subst e
  exact ⟨rfl, rfl⟩
theorem fr_of {q : Rat} {n d : Int} (hd : 0 < d) (hc : Int.gcd n d = 1) (h : n * (q.den : Int) = q.num * d) : D.tup [.int n, .int d] = frQ q := by
  obtain ⟨k, rfl⟩ : ∃ k : Nat, d = k := ⟨d.toNat, by omega⟩
  have hk : k ≠ 0 := by omega
  obtain ⟨a, b⟩ := rat_uniq (q := q) hk (by simpa [Nat.Coprime, Int.gcd] using hc) h
  unfold frQ
  rw [a, b]
theorem fdiv_nat (i : Int) (n : Nat) : i.fdiv (n : Int) = i / (n : Int) := Int.fdiv_eq_ediv_of_nonneg i (Int.natCast_nonneg n)
theorem fmod_nat (i : Int) (n : Nat) : i.fmod (n : Int) = i % (n : Int) := Int.fmod_eq_emod_of_nonneg i (Int.natCast_nonneg n)
theorem gcd_fmod (a b : Int) : Int.gcd b (a.fmod b) = Int.gcd a b := by
  have h : a.fmod b = a - b * (a.fdiv b) := by have := Int.mul_fdiv_add_fmod a b; omega
  rw [h, Int.gcd_sub_mul_left_right, Int.gcd_comm]
theorem natAbs_fmod_lt (a : Int) {b : Int} (h : b ≠ 0) : (a.fmod b).natAbs < b.natAbs := by
  rcases Int.lt_or_gt_of_ne h with hb | hb
  · have h3 := Int.fmod_eq_emod (a := a) (b := b)
    have h1 := Int.emod_nonneg a h
    have h2 := Int.emod_lt_of_neg a hb
    have h4 : ¬ (0 ≤ b) := by omega
    simp only [h4, false_or] at h3
    split at h3
    · rename_i hd
      have := Int.emod_eq_zero_of_dvd hd
      omega
    · rename_i hd
      have : a % b ≠ 0 := fun z => hd (Int.dvd_of_emod_eq_zero z)
      omega
  · have h1 := Int.fmod_nonneg_of_pos a hb
    have h2 := Int.fmod_lt_of_pos a hb
    omega
end Bw
namespace Bw
open PySem PySem.Spec PyProof.Rows L2
/-! ### evaluation, step by step -/
section
variable {α β : Type}
def bindR (x : Option (Res α × Mem)) (k : α → Mem → Option (Res β × Mem)) : Option (Res β × Mem) := match x with
  | some (.ok a, M) => k a M
  | some (.exc C, M) => some (.exc C, M)
  | none => none
theorem bindR_ok (a : α) (M : Mem) (k : α → Mem → Option (Res β × Mem)) : bindR (some (.ok a, M)) k = k a M := rfl
theorem bindR_exc (C : Str) (M : Mem) (k : α → Mem → Option (Res β × Mem)) : bindR (some (.exc C, M)) k = some (.exc C, M) := rfl
def thenR (x : Option (Res α × Mem)) (ρ : Env) (k : α → Mem → Option (Out × Mem)) : Option (Out × Mem) := match x with
  | some (.ok a, M) => k a M
  | some (.exc C, M) => some (.ex C ρ, M)
  | none => none
theorem thenR_ok (a : α) (M : Mem) (ρ : Env) (k : α → Mem → Option (Out × Mem)) : thenR (some (.ok a, M)) ρ k = k a M := rfl
theorem thenR_exc (C : Str) (M : Mem) (ρ : Env) (k : α → Mem → Option (Out × Mem)) : thenR (some (.exc C, M)) ρ k = some (.ex C ρ, M) := rfl
theorem bnd_ap (f : Ev α) (g : α → Ev β) (ρ : Env) (M : Mem) : bnd f g ρ M = bindR (f ρ M) fun a M1 => g a ρ M1 := rfl
theorem ret_ap (a : α) (ρ : Env) (M : Mem) : ret a ρ M = some (.ok a, M) := rfl
theorem thenS_ap (f : Ev α) (g : α → Sv) (ρ : Env) (M : Mem) : thenS f g ρ M = thenR (f ρ M) ρ fun a M1 => g a ρ M1 := rfl
def varR (x : Option (Option D)) (M : Mem) : Option (Res D × Mem) := match x with
  | some (some d) => some (.ok d, M)
  | _ => none
theorem varR_ok (d : D) (M : Mem) : varR (some (some d)) M = some (.ok d, M) := rfl
theorem dVar_ap (i : Nat) (ρ : Env) (M : Mem) : dVar i ρ M = varR ρ[i]? M := by
  unfold dVar varR
  rfl
def seqR (x : Option (Out × Mem)) (g : Sv) : Option (Out × Mem) := match x with
  | some (.nx ρ1, M1) => g ρ1 M1
  | r => r
theorem seqR_nx (ρ : Env) (M : Mem) (g : Sv) : seqR (some (.nx ρ, M)) g = g ρ M := rfl
theorem seqR_rt (d : D) (M : Mem) (g : Sv) : seqR (some (.rt d, M)) g = some (.rt d, M) := rfl
theorem seqR_bk (d : Env) (M : Mem) (g : Sv) : seqR (some (.bk d, M)) g = some (.bk d, M) := rfl
theorem seqR_ct (d : Env) (M : Mem) (g : Sv) : seqR (some (.ct d, M)) g = some (.ct d, M) := rfl
theorem seqR_ex (C : Str) (d : Env) (M : Mem) (g : Sv) : seqR (some (.ex C d, M)) g = some (.ex C d, M) := rfl
theorem sSeq_ap (f g : Sv) (ρ : Env) (M : Mem) : sSeq f g ρ M = seqR (f ρ M) g := by
  unfold sSeq seqR
  rfl
def asgR (x : Option Env) (M : Mem) : Option (Out × Mem) := match x with
  | some ρ => some (.nx ρ, M)
  | none => none
theorem asgR_ok (ρ : Env) (M : Mem) : asgR (some ρ) M = some (.nx ρ, M) := rfl
theorem sAsg_ap (f : Ev D) (b : Tg) (ρ : Env) (M : Mem) : sAsg f b ρ M = thenR (f ρ M) ρ fun d M1 => asgR (b d ρ) M1 := by
  unfold sAsg
  rw [thenS_ap]
  congr
theorem gNm_ap (i : Nat) (d : D) (ρ : Env) : gNm i d ρ = some (ρ.set i (some d)) := rfl
def gcnR (x : Option Env) (k : Env → Option Env) : Option Env := match x with
  | some ρ => k ρ
  | none => none
theorem gcnR_ok (ρ : Env) (k : Env → Option Env) : gcnR (some ρ) k = k ρ := rfl
theorem gCn_ap (b : Tg) (c : List D → Env → Option Env) (d : D) (r : List D) (ρ : Env) : gCn b c (d :: r) ρ = gcnR (b d ρ) fun ρ1 => c r ρ1 := by
  unfold gCn gcnR
  rfl
theorem gNl_ap (ρ : Env) : gNl [] ρ = some ρ := rfl
theorem gTp_ap (n : Nat) (c : List D → Env → Option Env) (ds : List D) (ρ : Env) (h : ds.length = n) : gTp n c (.tup ds) ρ = c ds ρ := by
  unfold gTp
  dsimp only
  rw [if_pos h]
theorem gTp_fr (c : List D → Env → Option Env) (q : Rat) (ρ : Env) : gTp 2 c (frQ q) ρ = c [.int q.num, .int (q.den : Int)] ρ := rfl
theorem gLs_ap (n : Nat) (c : List D → Env → Option Env) (ds : List D) (ρ : Env) (h : ds.length = n) : gLs n c (.lst ds) ρ = c ds ρ := by
  unfold gLs
  dsimp only
  rw [if_pos h]
theorem sPar_ap (i j : Nat) (f : Ev (List D)) (ρ : Env) (M : Mem) : sPar i j f ρ M = thenR (f ρ M) ρ fun ds M1 => match ds with
  | [d, e] => some (.nx ((ρ.set i (some d)).set j (some e)), M1)
  | _ => none := rfl
theorem sRet_ap (f : Ev D) (ρ : Env) (M : Mem) : sRet f ρ M = thenR (f ρ M) ρ fun d M1 => some (.rt d, M1) := rfl
theorem sExpr_ap (f : Ev D) (ρ : Env) (M : Mem) : sExpr f ρ M = thenR (f ρ M) ρ fun d M1 => some (.nx ρ, M1) := rfl
theorem sNext_ap (ρ : Env) (M : Mem) : sNext ρ M = some (.nx ρ, M) := rfl
theorem sIf_ap (c : Ev Bool) (f g : Sv) (ρ : Env) (M : Mem) : sIf c f g ρ M = thenR (c ρ M) ρ fun b M1 => if b = true then f ρ M1 else g ρ M1 := by
  unfold sIf
  rw [thenS_ap]
  congr
  funext b M1
  split <;> rfl
theorem dNil_ap (ρ : Env) (M : Mem) : dNil ρ M = some (.ok [], M) := rfl
theorem dCons_ap (f : Ev D) (g : Ev (List D)) (ρ : Env) (M : Mem) : dCons f g ρ M = bindR (f ρ M) fun d M1 => bindR (g ρ M1) fun ds M2 => some (.ok (d :: ds), M2) := rfl
theorem oTup_ap (ds : List D) (ρ : Env) (M : Mem) (h : ds.all D.np = true) (l : ds.length ≤ 16777216) : oTup ds ρ M = some (.ok (.tup ds), M) := by
  unfold oTup
  rw [if_pos ⟨h, l⟩]; rfl
theorem oLst_ap (ds : List D) (ρ : Env) (M : Mem) (h : ds.all D.np = true) (l : ds.length ≤ 16777216) : oLst ds ρ M = some (.ok (.lst ds), M) := by
  unfold oLst
  rw [if_pos ⟨h, l⟩]; rfl
theorem oNew_ap (ds : List D) (ρ : Env) (M : Mem) (h : ds.all D.np = true) (l : ds.length ≤ 16777216) : oNew ds ρ M = some (.ok (.ptr M.length), M ++ [some ds]) := by
  unfold oNew
  rw [if_pos ⟨h, l⟩]
theorem oCall_ap (n : Nat) (F : Fd) (ds : List D) (ρ : Env) (M : Mem) (h : ds.length = n) : oCall n F ds ρ M = F ds M := by
  unfold oCall
  rw [if_pos h]
theorem asB_ap (b : Bool) (ρ : Env) (M : Mem) : asB (.bl b) ρ M = some (.ok b, M) := rfl
theorem dAnd_ap (f g : Ev Bool) (ρ : Env) (M : Mem) : dAnd f g ρ M = bindR (f ρ M) fun c M1 => if c = true then g ρ M1 else some (.ok false, M1) := by
  unfold dAnd
  rw [bnd_ap]
  congr
  funext b M1
  split <;> rfl
theorem dOr_ap (f g : Ev Bool) (ρ : Env) (M : Mem) : dOr f g ρ M = bindR (f ρ M) fun c M1 => if c = true then some (.ok true, M1) else g ρ M1 := by
  unfold dOr
  rw [bnd_ap]
  congr
  funext b M1
  split <;> rfl
theorem dNot_ap (f : Ev Bool) (ρ : Env) (M : Mem) : dNot f ρ M = bindR (f ρ M) fun c M1 => some (.ok (!c), M1) := rfl
theorem dAndV_ap (f g : Ev D) (ρ : Env) (M : Mem) : dAndV f g ρ M = bindR (f ρ M) fun d M1 => bindR (asB d ρ M1) fun c M1 => if c = true then g ρ M1 else some (.ok (.bl false), M1) := by
  unfold dAndV
  rw [bnd_ap]
  congr
  funext b M1
  rw [bnd_ap]
  congr
  funext b M1
  split <;> rfl
theorem dOrV_ap (f g : Ev D) (ρ : Env) (M : Mem) : dOrV f g ρ M = bindR (f ρ M) fun d M1 => bindR (asB d ρ M1) fun c M1 => if c = true then some (.ok (.bl true), M1) else g ρ M1 := by
  unfold dOrV
  rw [bnd_ap]
  congr
  funext b M1
  rw [bnd_ap]
  congr
  funext b M1
  split <;> rfl
theorem dNotV_ap (f : Ev D) (ρ : Env) (M : Mem) : dNotV f ρ M = bindR (f ρ M) fun d M1 => bindR (asB d ρ M1) fun c M1 => some (.ok (.bl (!c)), M1) := rfl
theorem dIf_ap (c : Ev Bool) (f g : Ev D) (ρ : Env) (M : Mem) : dIf c f g ρ M = bindR (c ρ M) fun b M1 => if b = true then f ρ M1 else g ρ M1 := by
  unfold dIf
  rw [bnd_ap]
  congr
  funext b M1
  split <;> rfl
theorem oPow_ap (i : Int) (n : Nat) (ρ : Env) (M : Mem) (h : n ≤ 1000000) (hi : i.natAbs < 2 ^ 64) : oPow (.int i) (.int (n : Int)) ρ M = some (.ok (.int (i ^ n)), M) := by
  unfold oPow oI
  dsimp only
  rw [if_pos (decide_eq_true ⟨by omega, by omega, hi⟩)]; rfl
theorem oAdd_lst (a b : List D) (ρ : Env) (M : Mem) (h : a.length + b.length ≤ 16777216) : oAdd (.lst a) (.lst b) ρ M = some (.ok (.lst (a ++ b)), M) := by
  unfold oAdd
  dsimp only
  rw [if_pos h]; rfl
theorem oAbs_ap (i : Int) (ρ : Env) (M : Mem) : oAbs [.int i] ρ M = some (.ok (.int (if i < 0 then -i else i)), M) := rfl
theorem oMax_ap (i j : Int) (ρ : Env) (M : Mem) : oMax [.int i, .int j] ρ M = some (.ok (.int (if j > i then j else i)), M) := rfl
theorem oMin_ap (i j : Int) (ρ : Env) (M : Mem) : oMin [.int i, .int j] ρ M = some (.ok (.int (if j < i then j else i)), M) := rfl
theorem oToInt_b (b : Bool) (ρ : Env) (M : Mem) : oToInt [.bl b] ρ M = some (.ok (.int (if b then 1 else 0)), M) := rfl
theorem oToInt_i (b : Int) (ρ : Env) (M : Mem) : oToInt [.int b] ρ M = some (.ok (.int b), M) := rfl
theorem oLen_lst (ds : List D) (ρ : Env) (M : Mem) : oLen [.lst ds] ρ M = some (.ok (.int ds.length), M) := rfl
theorem oLen_scr (ds : List D) (ρ : Env) (M : Mem) : oLen [.scr ds] ρ M = some (.ok (.int ds.length), M) := rfl
theorem oLen_tup (ds : List D) (ρ : Env) (M : Mem) : oLen [.tup ds] ρ M = some (.ok (.int ds.length), M) := rfl
def ixR (x : Option D) (M : Mem) : Option (Res D × Mem) := match x with
  | some d => some (.ok d, M)
  | none => none
theorem ixR_ok (d : D) (M : Mem) : ixR (some d) M = some (.ok d, M) := rfl
theorem oIx_lst (ds : List D) (i : Int) (ρ : Env) (M : Mem) : oIx (.lst ds) (.int i) ρ M = ixR (atI ds i) M := by
  unfold oIx ixR seqOf
  dsimp only
  all_goals (split <;> rename_i h <;> rw [h])
theorem oIx_scr (ds : List D) (i : Int) (ρ : Env) (M : Mem) : oIx (.scr ds) (.int i) ρ M = ixR (atI ds i) M := by
  unfold oIx ixR seqOf
  dsimp only
  all_goals (split <;> rename_i h <;> rw [h])
theorem oIx_tup (ds : List D) (i : Int) (ρ : Env) (M : Mem) : oIx (.tup ds) (.int i) ρ M = ixR (atI ds i) M := by
  unfold oIx ixR seqOf
  dsimp only
  all_goals (split <;> rename_i h <;> rw [h])
theorem oIx_ptr {n : Nat} {ds : List D} (i : Int) (ρ : Env) {M : Mem} (h : M[n]? = some (some ds)) : oIx (.ptr n) (.int i) ρ M = ixR (atI ds i) M := by
  unfold oIx ixR seqOf
  dsimp only
  rw [h]
  all_goals (try dsimp only)
  all_goals (split <;> rename_i h <;> rw [h])
theorem oIx_fr0 (q : Rat) (ρ : Env) (M : Mem) : oIx (frQ q) (.int 0) ρ M = some (.ok (.int q.num), M) := rfl
theorem oIx_fr1 (q : Rat) (ρ : Env) (M : Mem) : oIx (frQ q) (.int 1) ρ M = some (.ok (.int (q.den : Int)), M) := rfl
theorem oRng1_ap (j : Int) (ρ : Env) (M : Mem) (h1 : 0 ≤ j) (h : j < 2 ^ 62) : oRng1 [.int j] ρ M = some (.ok ((List.range j.toNat).map fun (i : Nat) => D.int (i : Int)), M) := by
  unfold oRng1
  dsimp only
  rw [if_pos ⟨by omega, h⟩]; rfl
theorem oItL_ap (ds : List D) (ρ : Env) (M : Mem) : oItL (.lst ds) ρ M = some (.ok ds, M) := rfl
theorem oItT_ap (ds : List D) (ρ : Env) (M : Mem) : oItT (.tup ds) ρ M = some (.ok ds, M) := rfl
theorem sFor_ap (h : Ev (List D)) (b : Tg) (f : Sv) (ρ : Env) (M : Mem) : sFor h b f ρ M = thenR (h ρ M) ρ fun ds M1 => forF b f ds ρ M1 := rfl
def ofR (x : Option (Out × Mem)) (k : Env → Mem → Option (Out × Mem)) : Option (Out × Mem) := match x with
  | some (.nx ρ2, M2) => k ρ2 M2
  | some (.ct ρ2, M2) => k ρ2 M2
  | some (.bk ρ2, M2) => some (.nx ρ2, M2)
  | r => r
theorem ofR_nx (ρ : Env) (M : Mem) (k : Env → Mem → Option (Out × Mem)) : ofR (some (.nx ρ, M)) k = k ρ M := rfl
theorem ofR_rt (d : D) (M : Mem) (k : Env → Mem → Option (Out × Mem)) : ofR (some (.rt d, M)) k = some (.rt d, M) := rfl
theorem ofR_bk (ρ : Env) (M : Mem) (k : Env → Mem → Option (Out × Mem)) : ofR (some (.bk ρ, M)) k = some (.nx ρ, M) := rfl
def forB (x : Option Env) (k : Env → Option (Out × Mem)) : Option (Out × Mem) := match x with
  | none => none
  | some ρ => k ρ
theorem forB_ok (ρ : Env) (k : Env → Option (Out × Mem)) : forB (some ρ) k = k ρ := rfl
theorem forF_nil (b : Tg) (f : Sv) (ρ : Env) (M : Mem) : forF b f [] ρ M = some (.nx ρ, M) := rfl
theorem forF_cons (b : Tg) (f : Sv) (d : D) (ds : List D) (ρ : Env) (M : Mem) : forF b f (d :: ds) ρ M = forB (b d ρ) fun ρ1 => ofR (f ρ1 M) fun ρ2 M2 => forF b f ds ρ2 M2 := by
  conv => lhs; unfold forF
  unfold forB ofR
  rfl
/-- x[i] = e -/
theorem sStore_ap (f fo fi : Ev D) (ρ : Env) (M : Mem) : sStore f fo fi ρ M = thenR (f ρ M) ρ fun d M1 => thenR (fo ρ M1) ρ fun o M2 => thenR (fi ρ M2) ρ fun i M3 => match o, i with
  | .ptr n, .int k => match M3[n]? with
    | some (some ds) => match ixN ds.length k with
      | some j => if d.np = true then some (.nx ρ, M3.set n (some (ds.set j d))) else none
      | none => none
    | _ => none
  | _, _ => none := rfl
end
theorem atI_0 {α : Type} (a : α) (l : List α) : atI (a :: l) 0 = some a := by
  unfold atI ixN
  simp
theorem atI_nat' {α : Type} (l : List α) (n : Nat) : atI l (n : Int) = l[n]? := by
  unfold atI ixN
  rw [if_pos (by omega)]
  by_cases h : n < l.length
  · rw [if_pos (by omega)]; simp
  · rw [if_neg (by omega)]; simp; omega
end Bw
/-! calls where no repr is under way -/
namespace Bw
open PySem PySem.Spec PyProof.Rows L2
structure Rg (k : Nat) (A : Around) : Prop where
  r : Room k A
  g : A.guards = some []
theorem Rg.mono {j k : Nat} {A : Around} (h : Rg k A) (l : j ≤ k) : Rg j A := ⟨h.r.mono l, h.g⟩
theorem Rg.units {k : Nat} {A : Around} (h : Rg k A) : A.units + 64 < cLine := h.r.units
theorem Rg.un200 {k : Nat} {A : Around} (h : Rg k A) : A.units + 200 < cLine := by have := h.r.un; omega
/-- a def's promise, no repr under way -/
structure GOk (P : Program) (w : World) (K : PySem.W.Frag) (mg : Str → Option Value) (base : Heap) (C : CXT) (k : Nat) (f : Addr) (fd : FuncData) (ps : List Str) (sp : Sp) : Prop where
  n : ∀ vs H Q E, sp vs H Q E → vs.length = ps.length
  go : ∀ (A : Around) (ou : List PySem.Env) (s : Shared) (H : Hp) (ar : Args) (us : List Value) (vs : List V) (Q : VK) (E : XK), Rg k A → Env0 P w K mg base A ou s H → BindsTo s fd ar (ps.zip us) → Vals vs us → sp vs H Q E → codeAny (model P w) A (.call (.ref f) ar) (CR C ou P w H s Q E) s
section
variable {P : Program} {w : World} {K : PySem.W.Frag} {mg : Str → Option Value} {base : Heap} {C : CXT} {k : Nat} {f : Addr} {fd : FuncData} {ps : List Str} {sp : Sp}
theorem GOk.mono {j : Nat} (F : GOk P w K mg base C j f fd ps sp) (l : j ≤ k) : GOk P w K mg base C k f fd ps sp := ⟨F.n, fun A ou s H ar us vs Q E hr => F.go A ou s H ar us vs Q E (hr.mono l)⟩
theorem GOk.imp {sp' : Sp} (F : GOk P w K mg base C k f fd ps sp) (h : ∀ vs H Q E, sp' vs H Q E → sp vs H Q E) : GOk P w K mg base C k f fd ps sp' :=
  ⟨fun vs H Q E q => F.n vs H Q E (h vs H Q E q), fun A ou s H ar us vs Q E hr he hb hv hs => F.go A ou s H ar us vs Q E hr he hb hv (h vs H Q E hs)⟩
/-- by its body -/
theorem gok_of {x qual : Str} {st : Stmt} {N : List Str} (FU : Fun K x qual st f fd) (S : FnScope N ps (defScope st)) (hn : ∀ vs H Q E, sp vs H Q E → vs.length = ps.length)
    (hbody : ∀ (cdv : Value) (A : Around) (ou : List PySem.Env) (s : Shared) (H : Hp) (vs : List V) (Q : VK) (E : XK), Rg k (A.deeper (envOfC qual (defScope st) s.heap.objs.size f cdv)) → sp vs H Q E →
      ∃ t, PSs (cxOf C P w K mg base N qual (defScope st) f cdv A ou s H E) (defBody st) t ∧ t { nx := fun _ H' => Q .non H', rt := Q } (L2.start N vs) H) : GOk P w K mg base C (k + 1) f fd ps sp := by
  obtain ⟨oc, od, kV, doc, pm, an, cdv, ct, osl, e, lk, hcd⟩ := FU.ex
  subst e
  refine ⟨hn, fun A ou s H ar us vs Q E hr e0 hb rv hsp => ?_⟩
  have stay := fun (b : Addr) (o : Obj) (q : base.get? b = some o) => (e0.bs b o q).1
  have KX : K.In s.heap := e0.mod.kin.keeps stay
  have lim : s.heap.NoLimit := e0.mod.nolimit.keeps stay
  refine codeAny_call_function hr.r.depth (KX _ _ lk) rfl S.co S.gen rfl (PySem.W.codeRec_of KX hcd) (hb _ _ _ _ (wpAny_newFunctionEnv_cells S.kind (fun z hz => ?_) fun env he s1 ic => ?_))
  · rcases S.par z.1 (List.of_mem_zip hz).1 with q | q
    · exact Or.inl q
    · exact Or.inr ⟨q, PySem.W.cellsFrom_some _ _ _ (Or.inl q)⟩
  · subst he
    refine ⟨lim.keeps ic.toInCall.keep, codeAny_func ?_⟩
    obtain ⟨t, ht, hq⟩ := hbody cdv A ou s H vs Q E ⟨hr.r.deeper _, hr.g⟩ hsp
    refine wpAny_mono (ht.run [] s1 (L2.start N vs) H _ (inv_start S hr.r.hd e0 (hn _ _ _ _ hsp) rv ic) hq) (fun fl s2 hs => ?_) fun _ _ z => z
    cases fl with
    | brk => obtain ⟨_, _, _, z⟩ := hs; exact z.elim
    | cont => obtain ⟨_, _, _, z⟩ := hs; exact z.elim
    | next => obtain ⟨σ2, H2, J, z⟩ := hs; exact ⟨.non, H2, J.os, J.bare, J.base, J.hok, rfl, z⟩
    | ret u => obtain ⟨v, σ2, H2, J, ru, z⟩ := hs; exact ⟨v, H2, J.os, J.bare, J.base, J.hok, ru, z⟩
end
/-- g(e, ..) of a def -/
theorem pe_callG {X : Cx} {C : CXT} {k : Nat} {f : Addr} {fd : FuncData} {ps : List Str} {sp : Sp} {x : Str} {p pos : Pos} {e : Expr} {es : List Expr} {ta : TA} {E : L2.St → XK} (F : GOk X.prog X.w X.K X.mg X.base C k f fd ps sp) (hr : Rg k X.A) (hg : Gl X x) (hm : X.mg x = some (.ref f)) (hk : PySem.W.keepIn X.K (.ref f) = true) (hb : Binds X.K fd ps []) (hx : ∀ σ, PassesAt C X σ (E σ))
    (hargs : PA X (e :: es) ta) (hdb : (x == ("__debug__" : Str)) = false := by decide) (he : starEach (e :: es) X.env = (false, eval e X.env) :: starEach es X.env := by rfl) (hpl : (backTo pos (starEach es X.env)).any (·.1) = false := by rfl) :
    PE X (.Call (.Name x p) (e :: es) [] pos) (tCallS sp E ta) := by
  refine ⟨fun pins s σ H Q I h => wpAny_Call_Name_kw (ld_glob I hg hm (PySem.W.callWith_K (h₀ := X.base) I.ok.mod.kin hk (thn (hargs.run pos pins s σ H _ I h) fun us s1 z => ?_) he hpl) hdb)⟩
  obtain ⟨vs, H1, I1, rv, q⟩ := z
  have hl : us.length = ps.length := rv.length.symm.trans (F.n _ _ _ _ q)
  have b := hb s1 us I1.kIn (by rw [List.append_nil]; exact hl)
  rw [List.append_nil] at b
  refine ⟨I1.kIn, wpAny_call (codeAny_mono (F.go X.A X.stack s1 H1 ⟨us, []⟩ us vs Q (E σ) hr I1.env0 b rv q) fun res s2 hq => ?_)⟩
  rcases res with er | fl
  · exact hx σ pins H1 s1 er s2 I1 hq
  · cases fl <;> first | exact I1.after hq | exact False.elim hq
/-- the head: the law's promise at the heap behind the top -/
theorem headG {P : Program} {w : World} {K : PySem.W.Frag} {mg mb : Str → Option Value} {k : Nat} {fa sa : Addr} {fd : FuncData} {x : Str} {sp : Sp} {st : Shared} {us : List Value} {ns : List Int} (KX : K.In st.heap) (nsG : st.heap.Ns mainGlobals mg) (nsB : st.heap.Ns builtinsNs mb) (bbt : ∀ y : Str, y ≠ "__name__" → mb y = bootBuiltins y) (lim : st.heap.NoLimit) (ng : st.gens = #[])
    (hs : st.heap.get? sa = some { cls := .type "list", data := .seq us.toArray }) (ii : IntsAre us ns) (hl : ns.length ≤ sizeLine) (hr : Room k callerA) (F : ∀ b : Heap, K.In b → b.Ns mainGlobals mg → GOk P w K mg b CX0 k fa fd [x] sp) (bi : ∀ (s : Shared) (u : Value), BindsTo s fd ⟨[u], []⟩ [(x, u)])
    (hsp : ∀ H : Hp, SqL K H sa (ns.map V.int) → sp [.ref sa] H (fun v _ => v = .bl true) fun _ _ _ => False) : codeAny (model P w) callerA (.call (.ref fa) ⟨[.ref sa], []⟩) (fun r s' => r = .ok (.ret (.bool true)) ∧ OldK st.heap s'.heap ∧ s'.os = st.os ∧ AllBare s'.gens) st := by
  have main : ∀ H : Hp, Only H → SqL K H sa (ns.map V.int) → HOk P w H st.heap → (∀ b, H b ≠ none → b = sa ∧ K.lookup sa = none) → codeAny (model P w) callerA (.call (.ref fa) ⟨[.ref sa], []⟩) (fun r s' => r = .ok (.ret (.bool true)) ∧ OldK st.heap s'.heap ∧ s'.os = st.os ∧ AllBare s'.gens) st := by
    intro H oH sH kH only
    have offD : ∀ {b : Addr} {o : Obj} {es : Array DictEntry} {ep : Nat}, st.heap.get? b = some o → o.data = .dict es ep → H b = none := by
      intro b o es ep e d
      by_cases z : H b = none
      · exact z
      · have zz := (only b z).1
        rw [zz, hs] at e
        cases e
        cases d
    have back : ∀ {b : Addr} {m : Str → Option Value}, st.heap.Ns b m → (hidT st.heap H).Ns b m := by
      rintro b m ⟨o, es, ep, e, d, rest⟩
      exact ⟨o, es, ep, hidT_get e (offD e d), d, rest⟩
    have kin : K.In (hidT st.heap H) := by
      intro b o e
      refine hidT_get (KX b o e) ?_
      by_cases z : H b = none
      · exact z
      · obtain ⟨z1, z2⟩ := only b z
        rw [z1, z2] at e
        cases e
    obtain ⟨ml, nl, ql⟩ := lim
    have md : Mod K mg (hidT st.heap H) := ⟨kin, back nsG, ⟨mb, back nsB, bbt⟩, ml, back nl, ql⟩
    have en : Env0 P w K mg (hidT st.heap H) callerA [] st H := ⟨rfl, md, fun b o e => of_hidT e, Nat.le_of_eq (hidT_size _ _), trivial, fun b hb => (by cases hb), kH, .of_eq ng⟩
    refine codeAny_mono ((F _ kin (back nsG)).go callerA [] st H ⟨[.ref sa], []⟩ [.ref sa] [.ref sa] _ _ ⟨hr, rfl⟩ en (bi st (.ref sa)) (.cons rfl .nil) (hsp H sH)) fun r s' h => ?_
    rcases r with er | fl
    · exact False.elim h
    · cases fl with
      | ret u =>
        obtain ⟨v, H2, os, bare, un, k2, ru, q⟩ := h
        have qv : v = .bl true := q
        subst qv
        have eu : u = Value.bool true := ru
        subst eu
        refine ⟨rfl, OldK.of_keep fun b o e => ?_, os, bare⟩
        by_cases z : H b = none
        · exact un.keep b o e z (fun y => by cases y) (fun y => by cases y)
        · rcases oH b with y | ⟨ob, xs, y⟩
          · exact absurd y z
          · have e1 := (kH b _ y).1
            have e2 := (k2 b _ (un.frzs b ob _ y)).1
            rw [e] at e1
            cases e1
            exact e2
      | _ => exact False.elim h
  have rv := vals_ints ii
  cases hk : K.lookup sa with
  | some o =>
    have e := KX sa o hk
    rw [hs] at e
    cases e
    exact main (fun _ => none) (fun _ => Or.inl rfl) (.inr ⟨_, us.toArray, _, hk, rfl, rfl, rfl, by rw [List.size_toArray, ii.length]; exact hl, by simpa using rv⟩) (fun b u z => by cases z) fun b z => absurd rfl z
  | none =>
    let Hs : Hp := fun b => if b = sa then some (.frz { cls := .type "list", data := .seq us.toArray } (.lst (ns.map V.int))) else none
    have at_ : Hs sa = some (.frz { cls := .type "list", data := .seq us.toArray } (.lst (ns.map V.int))) := if_pos rfl
    have off : ∀ b, b ≠ sa → Hs b = none := fun b z => if_neg z
    refine main Hs (fun b => ?_) (.inl (.inr ⟨_, at_⟩)) (fun b u z => ?_) fun b z => ?_
    · by_cases y : b = sa
      · subst y; exact Or.inr ⟨_, _, at_⟩
      · exact Or.inl (off b y)
    · by_cases y : b = sa
      · subst y
        rw [at_] at z
        cases z
        exact ⟨hs, by rw [List.length_map]; exact hl, us, _, rv, hs⟩
      · rw [off b y] at z; cases z
    · by_cases y : b = sa
      · exact ⟨y, hk⟩
      · exact absurd (off b y) z
theorem walkG {l : PySem.W.OpenLaw} {n k : Nat} {q : Program} {loose : List Str} {XP : (Str → Option Value) → Heap → Prop} {YP : World → Heap → Prop} {d : DefRec} {K : Params → PySem.W.Frag} {sp : World → Sp} {x : Str} (mo : l.most = some n) (hz : n ≤ sizeLine) (df : d.params.defaults = []) (hr : Room k callerA) (hY : ∀ (w : World) (h : Heap), YP w h → (K w.params).In h)
    (F : ∀ (w : World) (mg : Str → Option Value) (fa : Addr) (h : Heap), (K w.params).In h → h.Ns mainGlobals mg → mg d.name = some (.ref fa) → ∃ fd : FuncData, (∀ (s : Shared) (u : Value), BindsTo s fd ⟨[u], []⟩ [(x, u)]) ∧ ∀ b : Heap, (K w.params).In b → b.Ns mainGlobals mg → GOk l.prog w (K w.params) mg b CX0 k fa fd [x] (sp w))
    (hsp : ∀ (w : World) (H : Hp) (a : Addr) (ns : List Int), ns.length ≤ n → SqL (K w.params) H a (ns.map V.int) → sp w [.ref a] H (fun v _ => v = .bl true) fun _ _ _ => False) : PySem.W.WalkO q loose XP YP l.row.toRowW d [] (fun f vs => PySem.call f vs) := by
  refine Att.attach_call mo df fun w s0 s1 mg mb fa o pm cd doc a vs ns G Y ho hd hcd hmg hobj hints hlen hgen => ?_
  have KX := hY w _ Y
  obtain ⟨fd, b, hF⟩ := F w mg fa _ KX G.T.g hmg
  exact headG KX G.T.g G.T.b G.T.builtins G.T.nolimit hgen hobj hints (Nat.le_trans hlen hz) hr hF b fun H hS => hsp w H a ns hlen hS
end Bw
set_option maxHeartbeats 4000000
/-! t[::-1] of a tuple; x in a tuple; repr of data -/
namespace Bw
open PySem PySem.Spec PyProof.Rows L2 HT
section
variable {prog : Program} {w : World} {A : Around} {E : Value → Shared → Prop} {s : Shared}
theorem adj_rev (n : Nat) : Builtin.Slice.sliceAdjust none none (-1) (n : Int) = ((n : Int) - 1, -1) := by
  unfold Builtin.Slice.sliceAdjust
  simp
theorem places_rev (n : Nat) : Builtin.Slice.slicePlaces ((n : Int) - 1) (-1) (-1) = n := by
  unfold Builtin.Slice.slicePlaces
  simp
  omega
theorem applied_rev {sl : Addr} {vk : Value} {n : Nat} {Q : Int × Int × Nat → Shared → Prop} (hs : s.heap.IsSliceOf sl .none .none vk) (pk : IsPart vk (some (-1))) (h : Q ((n : Int) - 1, -1, n) s) : wpAny (model prog w) A (Builtin.Slice.sliceApplied (.ref sl) (pure (n : Int))) Q E s := by
  obtain ⟨os, hos, hcs, hds⟩ := id hs
  unfold Builtin.Slice.sliceApplied Builtin.Slice.sliceFields
  refine wpAny_bind (wpAny_bind (wpAny_field hos hds (x := .none) rfl (wpAny_bind (wpAny_field hos hds (x := .none) rfl (wpAny_bind (wpAny_field hos hds (x := vk) rfl (wpAny_pure ?z)))))))
  case z =>
    refine wpAny_bind (slicePart_ pk ?_)
    show wpAny _ _ (if ((-1 : Int) == 0) = true then _ else _) _ _ s
    rw [if_neg (by decide)]
    refine wpAny_bind (slicePart_ .none (wpAny_bind (slicePart_ .none (wpAny_bind (wpAny_pure ?_)))))
    show wpAny _ _ (match Builtin.Slice.sliceAdjust none none (-1) (n : Int) with | (lo, hi) => pure (lo, (-1 : Int), Builtin.Slice.slicePlaces lo hi (-1))) _ _ s
    rw [adj_rev]
    show wpAny _ _ (pure ((n : Int) - 1, (-1 : Int), Builtin.Slice.slicePlaces ((n : Int) - 1) (-1) (-1))) _ _ s
    rw [places_rev]
    exact wpAny_pure h
theorem pick_rev (xs : Array Value) : ((List.range xs.size).filterMap fun (m : Nat) => xs[(((xs.size : Int) - 1) + (m : Int) * -1).toNat]?).toArray = xs.toList.reverse.toArray := by
  congr 1
  have e : ∀ k : Nat, k ≤ xs.size → ((List.range k).filterMap fun (m : Nat) => xs[(((xs.size : Int) - 1) + (m : Int) * -1).toNat]?) = xs.toList.reverse.take k := by
    intro k
    induction k with
    | zero => intro _; simp
    | succ k ih =>
      intro hk
      rw [List.range_succ, List.filterMap_append, ih (by omega), List.take_succ]
      congr 1
      have e1 : (((xs.size : Int) - 1) + (k : Int) * -1).toNat = xs.size - 1 - k := by omega
      have e2 : xs.size - 1 - k < xs.size := by omega
      rw [List.getElem?_reverse (by rw [Array.length_toList]; omega)]
      simp only [List.filterMap_cons, List.filterMap_nil, e1, Array.getElem?_toList, Array.length_toList]
      rw [Array.getElem?_eq_getElem e2]
      rfl
  rw [e _ (Nat.le_refl _), List.take_of_length_le (by simp)]
theorem getItem_tuple_rev {t sl : Addr} {items : Array Value} {vk : Value} {Q : Value → Shared → Prop} (ht : IsTup s.heap t items) (hs : s.heap.IsSliceOf sl .none .none vk) (pk : IsPart vk (some (-1)))
    (h : Q (.ref s.heap.objs.size) { s with heap := s.heap.push { cls := .type "tuple", data := .seq items.toList.reverse.toArray } }) (hz : items.size ≤ sizeLine) : wpAny (model prog w) A (getItem (.ref t) (.ref sl)) Q E s := by
  have ok : sizeOk (.seq items.toList.reverse.toArray) := by
    show items.toList.reverse.toArray.size ≤ sizeLine
    simpa using hz
  obtain ⟨os, hos, hcs, hds⟩ := id hs
  have ty : s.TypeIs (.ref sl) "slice" := ⟨os, hos, hcs⟩
  unfold getItem
  try with_reducible refine wpAny_holding ?_
  first | refine wpAny_bind (wpAny_pure ?_) | skip
  refine wpAny_bind (wpAny_sequenceKey ht.typeIs (by decide) (wpAny_bind (wpAny_callSpecial?_slot (name := Str.ofString "__getitem__") ht.typeIs PyProof.Rows.slot_tuple_getitem (wpAny_call_entry PyProof.Rows.slot_tuple_getitem ht.typeIs entry_tuple_getitem ?z (args_tuple_getitem _ _)))))
  case z =>
    show wpAny _ _ (Builtin.Tuple.tupleItemsOf (.ref t) >>= _) _ _ s
    refine wpAny_bind (tupleItemsOf_ ht (wpAny_bind (wpAny_typeOf ty ?_)))
    rw [if_pos (by decide)]
    refine wpAny_bind (applied_rev hs pk ?_)
    have no : ¬ ((((items.size : Int) - 1) == 0 && (-1 : Int) == 1 && items.size == items.size) = true) := by simp
    show wpAny _ _ (if (((items.size : Int) - 1) == 0 && (-1 : Int) == 1 && items.size == items.size) = true then _ else _) _ _ s
    rw [if_neg no, pick_rev]
    first
      | exact wpAny_bind (m := Builtin.Tuple.tupleExact _) (wpAny_newObj_type (wpAny_pure ⟨_, rfl, wpAny_pure h⟩) ok)
      | exact wpAny_bind (m := Builtin.Tuple.tupleExact _) (wpAny_newObj_type (wpAny_bind (wpAny_pure (wpAny_pure ⟨_, rfl, wpAny_pure h⟩))) ok)
      | exact wpAny_bind (wpAny_bind (m := Builtin.Tuple.tupleExact _) (wpAny_newObj_type (wpAny_pure (wpAny_pure ⟨_, rfl, wpAny_pure h⟩)) ok))
      | exact wpAny_bind (wpAny_bind (m := Builtin.Tuple.tupleExact _) (wpAny_newObj_type (wpAny_pure ⟨_, rfl, wpAny_pure h⟩) ok))
end
section
variable {X : Cx}
/-- x[::-1] of a list or a tuple -/
def tRv (K : PySem.W.Frag) (te : TE) : TE := fun σ H Q => te σ H fun x H1 => ∃ a xs, x = .ref a ∧ ((SqL K H1 a xs ∧ ∀ p, H1 p = none → Q (.ref p) (upd H1 p (.lst xs.reverse))) ∨ (SqT K H1 a xs ∧ ∀ p, H1 p = none → Q (.ref p) (upd H1 p (.tup xs.reverse))))
theorem pe_rv {e : Expr} {te : TE} {k : Nat} {p1 p2 p3 pos : Pos} (he : PE X e te) : PE X (.Subscript e (.Slice none none (some (.UnaryOp .USub (.Constant (.int 1) k p1) p2)) p3) pos) (tRv X.K te) := by
  refine ⟨fun pins s σ H Q I h => Subscript_ (thn (he.run pins s σ H _ I h) fun v s1 z1 => ?_)⟩
  obtain ⟨x, H1, I1, r1, a, xs, ex, q⟩ := z1
  subst ex
  cases r1
  have step : PO X (some (.UnaryOp .USub (.Constant (.int 1) k p1) p2)) (tPart (tUn (rU fun i => .int (-i)) (tC (.int 1)))) := po_some (pe_un un_neg pe_int)
  refine wpAny_Slice (thn (po_none.run pins s1 σ H1 (fun o H2 => o = none ∧ H2 = H1) I1 ⟨rfl, rfl⟩) fun vl s2 z2 => ?_)
  obtain ⟨l, H2, I2, pl, el, e2⟩ := z2
  subst el e2
  refine thn (po_none.run pins s2 σ H2 (fun o H3 => o = none ∧ H3 = H2) I2 ⟨rfl, rfl⟩) fun vu s3 z3 => ?_
  obtain ⟨u, H3, I3, pu, eu, e3⟩ := z3
  subst eu e3
  refine thn (step.run pins s3 σ H3 (fun o H4 => o = some (-1) ∧ H4 = H3) I3 ⟨1, rfl, -1, rfl, rfl, rfl⟩) fun vk s4 z4 => ?_
  obtain ⟨o, H4, I4, pk, eo, e4⟩ := z4
  subst eo e4
  have I5 : Inv X pins σ H4 { s4 with heap := s4.heap.push { cls := .type "slice", data := .fields #[vl, vu, vk] } } := I4.kept (t' := s4.toks) fun b ob q => Heap.get?_push_of_some _ q
  show wpAny (model X.prog X.w) X.A (subscriptTail e (.Slice none none (some (.UnaryOp .USub (.Constant (.int 1) k p1) p2)) p3) (.ref a) (.ref s4.heap.objs.size)) (EP X pins σ Q) X.xe _
  rcases q with ⟨hx, q⟩ | ⟨hx, q⟩
  · obtain ⟨its, r, ht, hz⟩ := I5.list hx
    have hn := r.length
    refine tail_any (ops := [.ref a, .ref s4.heap.objs.size]) ht.isList.typeIs (PySem.slot_list_getitem.lookup) (wpAny_getItem_list_slice ht.isList (Heap.IsSliceOf.new _ vl vu vk) pl pu pk (by decide) ?_ (by rw [List.size_toArray]; omega)) (by with_unfolding_all rfl)
    rw [PySem.W.krv_pick]
    exact ⟨.ref _, _, I5.laid (t' := s4.toks) (o := .lst xs.reverse) (fun b ob q => Heap.get?_push_of_some _ q) (Nat.le_refl _) ⟨by rw [List.length_reverse]; exact hz, _, 0, r.reverse, Heap.get?_push_size _ rfl⟩, rfl, q _ (I5.hok.fresh (Nat.le_refl _))⟩
  · obtain ⟨its, r, ht, hz⟩ := I5.tuple hx
    have hn := r.length
    cases pl
    cases pu
    refine tail_any (ops := [.ref a, .ref s4.heap.objs.size]) ht.typeIs (PyProof.Rows.slot_tuple_getitem.lookup) (getItem_tuple_rev ht (Heap.IsSliceOf.new _ .none .none vk) pk ?_ (by rw [List.size_toArray]; omega)) (by with_unfolding_all rfl)
    exact ⟨.ref _, _, I5.laid (t' := s4.toks) (o := .tup xs.reverse) (fun b ob q => Heap.get?_push_of_some _ q) (Nat.le_refl _) ⟨by rw [List.length_reverse]; exact hz, _, r.reverse, IsTup.new _ _⟩, rfl, q _ (I5.hok.fresh (Nat.le_refl _))⟩
/-- x in t, x not in t -/
def rInT (K : PySem.W.Frag) (neg : Bool) : R2 := fun x y H Q => ∃ d ds, Dp K H x d ∧ Dp K H y (.tuple ds) ∧ SeqAt.shaped d = true ∧ SeqAt.shaped (.tuple ds) = true ∧ Q (.bl (if neg then !ds.any fun z => PyData.eqv z d else ds.any fun z => PyData.eqv z d)) H
theorem op_inT (hu : X.A.units + 65 < cLine) : OpR X (compareOp .In) (rInT X.K false) := by
  intro pins s σ H x y v u Q I rx ry h
  obtain ⟨d, ds, hd, he, sd, se, q⟩ := h
  obtain ⟨_, r1⟩ := Dp.reads I d x v hd rx
  obtain ⟨_, r2⟩ := Dp.reads I (.tuple ds) y u he ry
  exact SeqAt.in_tuple_reads r2 r1 (SeqAt.canLay_of_shaped se) (SeqAt.canLay_of_shaped sd) (room_in_shaped sd hu) ⟨.bl _, H, I, rfl, q⟩
theorem op_notInT (hu : X.A.units + 65 < cLine) : OpR X (compareOp .NotIn) (rInT X.K true) := by
  intro pins s σ H x y v u Q I rx ry h
  obtain ⟨d, ds, hd, he, sd, se, q⟩ := h
  obtain ⟨_, r1⟩ := Dp.reads I d x v hd rx
  obtain ⟨_, r2⟩ := Dp.reads I (.tuple ds) y u he ry
  exact SeqAt.notIn_tuple_reads r2 r1 (SeqAt.canLay_of_shaped se) (SeqAt.canLay_of_shaped sd) (room_in_shaped sd hu) ⟨.bl _, H, I, rfl, q⟩
/-- repr of data -/
def rRepr (K : PySem.W.Frag) : List V → Hp → VK → Prop := fun xs H Q => ∃ x d, xs = [x] ∧ Dp K H x d ∧ d.showable = true ∧ d.hasDict = false ∧ d.depth ≤ 100 ∧ d.shown.length ≤ sizeLine ∧ Q (.str d.shown) H
theorem call_reprD (hg : X.A.guards = some []) (hu : X.A.units + 200 < cLine) : CallR X (.builtin "repr") (rRepr X.K) := by
  intro pins s σ H xs us Q I r h
  obtain ⟨x, d, rfl, hd, hs, hn, hp, hz, q⟩ := h
  obtain ⟨u, rfl, ru⟩ := L2.vals1 r
  obtain ⟨as, rd⟩ := Dp.reads I d x u hd ru
  cases rd with
  | none => exact PySem.P.repr_of_none ⟨.str _, H, I.tok _, ⟨_, rfl⟩, q⟩
  | bool b => exact PySem.P.repr_of_bool ⟨.str _, H, I.tok _, ⟨_, by cases b <;> rfl⟩, q⟩
  | int i t => exact PySem.P.repr_of_int (by simpa [PyData.showable] using hs) ⟨.str _, H, I.tok _, ⟨_, rfl⟩, q⟩
  | str z t => exact PySem.P.repr_of_str ⟨.str _, H, I.tok _, ⟨_, rfl⟩, q⟩ hz
  | list a b c e => exact repr_of_reads' (Reads.list a b c e) hs (PyData.noDict_hsm hn) hg (by omega) (fun _ _ z => z) (fun h' v tk k => ⟨.str _, H, I.kept (t' := tk) k, ⟨_, rfl⟩, q⟩) hz
  | tuple a b c e => exact repr_of_reads' (Reads.tuple a b c e) hs (PyData.noDict_hsm hn) hg (by omega) (fun _ _ z => z) (fun h' v tk k => ⟨.str _, H, I.kept (t' := tk) k, ⟨_, rfl⟩, q⟩) hz
  | dict _ _ _ _ _ => cases hn
end
end Bw
namespace Bw
open PySem PySem.Spec PyProof.Rows L2 RZ
section
variable {X : Cx} {W : WN} {pos : Pos} {K : PySem.W.Frag}
/-! ### calls of defs, no repr under way -/
theorem de_callG {C : CXT} {WC : WX} {k n : Nat} {f : Addr} {fd : FuncData} {ps : List Str} {F : Fd} {x : Str} {p : Pos} {e : Expr} {es : List Expr} {h : Ev (List D)} (hw : WOk X.mg WC W) (FO : GOk X.prog X.w X.K X.mg X.base C k f fd ps (spF X.K X.mg n F)) (hr : Rg k X.A) (hm : X.mg x = some (.ref f)) (hk : PySem.W.keepIn X.K (.ref f) = true) (hb : Binds X.K fd ps []) (hx : ∀ σ, PassesAt C X σ (WE WC σ))
    (hargs : DA X W (e :: es) h) (hg : Gl X x := by rfl) (hdb : (x == ("__debug__" : Str)) = false := by decide) (he : starEach (e :: es) X.env = (false, eval e X.env) :: starEach es X.env := by rfl) (hpl : (backTo pos (starEach es X.env)).any (·.1) = false := by rfl) :
    DE X W (.Call (.Name x p) (e :: es) [] pos) (bnd h (oCall n F)) := by
  obtain ⟨t, q, s⟩ := hargs
  refine ⟨_, pe_callG FO hr hg hm hk hb hx q hdb he hpl, fun θ G => ?_⟩
  refine (s θ G).bind (R2 := RV X.K) (k := fun (vs : List V) (σ : L2.St) (H1 : Hp) (Q : V → Hp → Prop) => spF X.K X.mg n F vs H1 Q (WE WC σ)) fun θ1 G1 vs ds _ _ hv => ?_
  intro ρ M r M' θ2 G2 σ H Q p2 s2 e rs rv kk
  unfold oCall at e
  split at e
  · rename_i hl
    exact ⟨θ2, G2, ds, M, r, M', rs, hv.mono p2 s2, hl, e, fun θ' G' H' a b c => ⟨fun x C h1 h2 => hw _ _ _ ((kk θ' G' H' a b c).1 x h1) C h2, (kk θ' G' H' a b c).2⟩⟩
  · cases e
/-! ### repr of data -/
def oReprD (ds : List D) : Ev D := match ds with
  | [d] => if d.pl = true ∧ (toPy d).showable = true ∧ (toPy d).hasDict = false ∧ (toPy d).depth ≤ 100 ∧ (toPy d).shown.length ≤ 16777216 then ret (.str (toPy d).shown) else stk
  | _ => stk
theorem snd_reprD : SndC K W (rRepr K) oReprD := by
  intro θ0 G0 xs ds hx
  unfold oReprD
  split
  · rename_i d
    split
    · rename_i c
      obtain ⟨v, rfl, hv⟩ := vals1 hx
      intro ρ M r M' θ G σ H Q p s e rs rv kk
      exact ⟨v, toPy d, rfl, (((hv.rp (pl_np c.1)).mono s).mono rs.sub).dp c.1, c.2.1, c.2.2.1, c.2.2.2.1, by rw [sizeLine_eq]; exact c.2.2.2.2, Snd.ret (K := K) (W := W) (R := RV K) (θ0 := θ0) (G0 := G0) (fun _ _ _ _ => .dat (.str _)) ρ M r M' θ G σ H Q p s e rs rv kk⟩
    · exact Snd.stk
  · exact Snd.stk
variable {p p2 : Pos} {e : Expr} {es : List Expr} {h : Ev (List D)} {f g : Ev D} {a b c : Expr}
theorem de_reprD (hr : ∃ k, Rg k X.A) (hm : X.mg "repr" = none) (ha : DA X W (e :: es) h) (hg : Gl X "repr" := by rfl) (he : starEach (e :: es) X.env = (false, eval e X.env) :: starEach es X.env := by rfl) (hpl : (backTo pos (starEach es X.env)).any (·.1) = false := by rfl) : DE X W (.Call (.Name "repr" p) (e :: es) [] pos) (bnd h oReprD) := by
  obtain ⟨k, hr⟩ := hr
  exact de_callB (call_reprD hr.g hr.un200) snd_reprD hm (by decide +kernel) ha hg (by decide) (by decide) he hpl
/-! ### tuple(..), list(..) -/
theorem seqL_of {θ : List Th} {G H : Hp} {M : Mem} {v : V} {d : D} {ds : List D} (rs : Rs K θ G H M) (hv : Rv K θ G v d) (h : seqOf d M = some ds) : (∃ a xs, v = .ref a ∧ SqL K H a xs ∧ RpL K G xs ds) ∨ ∃ a xs, v = .ref a ∧ SqT K H a xs ∧ RpL K G xs ds ∧ Rp K G v (.tup ds) := by
  cases hv with
  | dat q =>
    cases q with
    | tup h1 l g => cases h; exact .inr ⟨_, _, rfl, seqT rs.sub h1, ⟨l, g⟩, .tup h1 l g⟩
    | lst h1 l g => cases h; exact .inl ⟨_, _, rfl, .inl (.inl (rs.sub _ _ h1)), l, g⟩
    | scr h1 l g => cases h; exact .inl ⟨_, _, rfl, rs.sub.seq h1, l, g⟩
    | _ => cases h
  | ptr hn =>
    rename_i n a
    unfold seqOf at h
    dsimp only at h
    split at h
    · rename_i es hm
      cases h
      obtain ⟨g, xs, hx, rl⟩ := rs.mem n _ _ hn hm
      exact .inl ⟨_, xs, rfl, .inl (.inl hx), rl⟩
    · cases h
  | dpt _ => cases h
  | npt _ => cases h
  | exv _ _ => cases h
def oSq (k : List D → D) (ds : List D) : Ev D := fun ρ M => match ds with
  | [d] => match seqOf d M with
    | some es => some (.ok (k es), M)
    | none => none
  | _ => none
def oTupOf : List D → Ev D := oSq .tup
def oLstOf : List D → Ev D := oSq .lst
theorem snd_tupOf : SndC K W (fun xs H Q => ∃ p ys, xs = [.ref p] ∧ ((SqL K H p ys ∧ ∀ l, H l = none → Q (.ref l) (upd H l (.tup ys))) ∨ (SqT K H p ys ∧ Q (.ref p) H))) oTupOf := by
  intro θ0 G0 xs ds hx ρ M r M' θ G σ H Q p s e rs rv kk
  unfold oTupOf oSq at e
  split at e
  · rename_i d
    split at e
    · rename_i es he
      cases e
      obtain ⟨v, rfl, hv⟩ := vals1 hx
      rcases seqL_of rs (hv.mono p s) he with ⟨a, xs, rfl, q, rl⟩ | ⟨a, xs, rfl, q, rl, rp⟩
      · refine ⟨a, xs, rfl, .inl ⟨q, fun l hl => ?_⟩⟩
        have g := rs.fresh hl
        exact (kk θ (upd G l (.tup xs)) _ (List.prefix_refl _) (same_upd g) (rs.laid hl _)).2 _ _ rfl (.dat (rp_tup upd_same (rl.mono (same_upd g))))
      · exact ⟨a, xs, rfl, .inr ⟨q, (kk θ G H (List.prefix_refl _) (Same.refl _) rs).2 _ _ rfl (.dat rp)⟩⟩
    · cases e
  · cases e
theorem snd_lstOf : SndC K W (fun xs H Q => ∃ p ys, xs = [.ref p] ∧ (SqL K H p ys ∨ SqT K H p ys) ∧ ∀ l, H l = none → Q (.ref l) (upd H l (.lst ys))) oLstOf := by
  intro θ0 G0 xs ds hx ρ M r M' θ G σ H Q p s e rs rv kk
  unfold oLstOf oSq at e
  split at e
  · rename_i d
    split at e
    · rename_i es he
      cases e
      obtain ⟨v, rfl, hv⟩ := vals1 hx
      obtain ⟨a, xs, rfl, q, rl⟩ := seq_of rs (hv.mono p s) he
      refine ⟨a, xs, rfl, q, fun l hl => ?_⟩
      have g := rs.fresh hl
      exact (kk θ (upd G l (.lst xs)) _ (List.prefix_refl _) (same_upd g) (rs.laid hl _)).2 _ _ rfl (.dat (rp_lst upd_same (rl.mono (same_upd g))))
    · cases e
  · cases e
theorem de_tupOf (hm : X.mg "tuple" = none) (ha : DA X W (e :: es) h) (hg : Gl X "tuple" := by rfl) (he : starEach (e :: es) X.env = (false, eval e X.env) :: starEach es X.env := by rfl) (hpl : (backTo pos (starEach es X.env)).any (·.1) = false := by rfl) : DE X W (.Call (.Name "tuple" p) (e :: es) [] pos) (bnd h oTupOf) :=
  de_callTy call_tuple_of snd_tupOf hm (by decide +kernel) ha hg (by decide) (by decide) he hpl
theorem de_lstOf (hm : X.mg "list" = none) (ha : DA X W (e :: es) h) (hg : Gl X "list" := by rfl) (he : starEach (e :: es) X.env = (false, eval e X.env) :: starEach es X.env := by rfl) (hpl : (backTo pos (starEach es X.env)).any (·.1) = false := by rfl) : DE X W (.Call (.Name "list" p) (e :: es) [] pos) (bnd h oLstOf) :=
  de_callTy call_list_of snd_lstOf hm (by decide +kernel) ha hg (by decide) (by decide) he hpl
/-! ### any, all -/
def oBs (k : List Bool → Bool) (ds : List D) : Ev D := match ds with
  | [.lst es] => match blsOf es with
    | some bs => ret (.bl (k bs))
    | none => stk
  | _ => stk
def oAny : List D → Ev D := oBs fun bs => bs.any id
def oAll : List D → Ev D := oBs fun bs => bs.all id
theorem snd_bs {k : List Bool → Bool} : SndC K W (fun vs H Q => ∃ (a : Addr) (bs : List Bool), vs = [V.ref a] ∧ SqL K H a (bs.map V.bl) ∧ Q (.bl (k bs)) H) (oBs k) := by
  intro θ0 G0 xs ds hx
  unfold oBs
  split
  · rename_i es
    split
    · rename_i bs hb
      obtain ⟨v, rfl, hv⟩ := vals1 hx
      cases hv with
      | dat q =>
        cases q with
        | lst h1 l g1 =>
          rename_i a ys
          have ey := rpl_bls hb ⟨l, g1⟩
          subst ey
          intro ρ M r M' θ G σ H Q p s e rs rv kk
          exact ⟨a, bs, rfl, .inl (.inl (rs.sub _ _ (s _ _ h1))), Snd.ret (K := K) (W := W) (R := RV K) (θ0 := θ0) (G0 := G0) (fun _ _ _ _ => rv_bl) ρ M r M' θ G σ H Q p s e rs rv kk⟩
    · exact Snd.stk
  · exact Snd.stk
theorem de_any (hc : X.calm = true) (hm : X.mg "any" = none) (ha : DA X W (e :: es) h) (hg : Gl X "any" := by rfl) (he : starEach (e :: es) X.env = (false, eval e X.env) :: starEach es X.env := by rfl) (hpl : (backTo pos (starEach es X.env)).any (·.1) = false := by rfl) : DE X W (.Call (.Name "any" p) (e :: es) [] pos) (bnd h oAny) :=
  de_callB (cr_any hc) snd_bs hm (by decide +kernel) ha hg (by decide) (by decide) he hpl
theorem de_all (hc : X.calm = true) (hm : X.mg "all" = none) (ha : DA X W (e :: es) h) (hg : Gl X "all" := by rfl) (he : starEach (e :: es) X.env = (false, eval e X.env) :: starEach es X.env := by rfl) (hpl : (backTo pos (starEach es X.env)).any (·.1) = false := by rfl) : DE X W (.Call (.Name "all" p) (e :: es) [] pos) (bnd h oAll) :=
  de_callB (cr_all hc) snd_bs hm (by decide +kernel) ha hg (by decide) (by decide) he hpl
/-! ### constants of the module -/
theorem de_const {x : Str} {ca : Addr} {d : D} (hm : X.mg x = some (.ref ca)) (hd : ∀ G, Rp X.K G (.ref ca) d) (hg : Gl X x := by rfl) (hdb : (x == ("__debug__" : Str)) = false := by decide) : DE X W (.Name x pos) (ret d) := ⟨_, pe_glob (v := .ref ca) hg hm rfl (hd := hdb), fun _ _ => snd_c hd⟩
theorem rp_const {ca : Addr} {o : Obj} {its : Array Value} {n : Nat} {xs : List V} {ds : List D} (hl : K.lookup ca = some o) (hc : o.cls = .type "tuple") (hd : o.data = .seq its n) (hz : its.size ≤ 16777216) (hv : Vals xs its.toList) (r : ∀ G, RpL K G xs ds) (hq : ∀ G, SqT K G ca xs) (G : Hp) : Rp K G (.ref ca) (.tup ds) := .tup (hq G) (r G).len (r G).get
/-! ### is None -/
def D.isN : D → Bool
  | .non => true
  | _ => false
theorem Rv.isN {θ : List Th} {G : Hp} {v : V} {d : D} (h : Rv K θ G v d) : decide (v = .non) = d.isN := by
  cases h with
  | dat h => cases h <;> first | rfl | exact decide_eq_false (fun z => by cases z)
  | ptr h => exact decide_eq_false (fun z => by cases z)
  | exv _ h => exact decide_eq_false (fun z => by cases z)
  | dpt h => exact decide_eq_false (fun z => by cases z)
  | npt h => exact decide_eq_false (fun z => by cases z)
def oIsN (d e : D) : Ev D := match e with
  | .non => ret (.bl d.isN)
  | _ => stk
def oNotN (d e : D) : Ev D := match e with
  | .non => ret (.bl (!d.isN))
  | _ => stk
theorem snd_isN : SndO K W (fun x y H Q => y = .non ∧ Q (.bl (decide (x = .non))) H) oIsN := by
  intro θ G x y d e hx hy
  unfold oIsN
  split
  · cases hy with
    | dat q =>
      cases q
      intro ρ M r M' θ1 G1 σ H Q p s e rs rv kk
      refine ⟨rfl, ?_⟩
      rw [hx.isN]
      exact Snd.ret (K := K) (W := W) (R := RV K) (θ0 := θ) (G0 := G) (fun _ _ _ _ => rv_bl) ρ M r M' θ1 G1 σ H Q p s e rs rv kk
  · exact Snd.stk
theorem snd_notN : SndO K W (fun x y H Q => y = .non ∧ Q (.bl (!decide (x = .non))) H) oNotN := by
  intro θ G x y d e hx hy
  unfold oNotN
  split
  · cases hy with
    | dat q =>
      cases q
      intro ρ M r M' θ1 G1 σ H Q p s e rs rv kk
      refine ⟨rfl, ?_⟩
      rw [hx.isN]
      exact Snd.ret (K := K) (W := W) (R := RV K) (θ0 := θ) (G0 := G) (fun _ _ _ _ => rv_bl) ρ M r M' θ1 G1 σ H Q p s e rs rv kk
  · exact Snd.stk
theorem de_isN (ha : DE X W a f) (hb : DE X W b g) : DE X W (.Compare a [.Is] [b] pos) (bnd f fun d => bnd g fun e => oIsN d e) := de_cmp op_isN snd_isN ha hb (nomark _)
theorem dt_isN (ha : DE X W a f) (hb : DE X W b g) : DT X W (.Compare a [.Is] [b] pos) (bnd (bnd f fun d => bnd g fun e => oIsN d e) asB) := dt_cmp op_isN snd_isN ha hb (nomark _)
theorem de_notN (ha : DE X W a f) (hb : DE X W b g) : DE X W (.Compare a [.IsNot] [b] pos) (bnd f fun d => bnd g fun e => oNotN d e) := de_cmp op_notN snd_notN ha hb (nomark _)
theorem dt_notN (ha : DE X W a f) (hb : DE X W b g) : DT X W (.Compare a [.IsNot] [b] pos) (bnd (bnd f fun d => bnd g fun e => oNotN d e) asB) := dt_cmp op_notN snd_notN ha hb (nomark _)
/-! ### truth of a sequence -/
def asTru (d : D) : Ev Bool := fun ρ M => match d with
  | .bl b => some (.ok b, M)
  | d => match seqOf d M with
    | some es => some (.ok (!es.isEmpty), M)
    | none => none
theorem dt_tru (h : DE X W e f) (he : ∀ whole, isTrue e X.env whole = (do let v ← whole; standAt e.pos; holding [v] (truthy v)) := by intro _; rfl) : DT X W e (bnd f asTru) := by
  obtain ⟨t, q, s⟩ := h
  refine ⟨_, pt_truth q he, fun θ G => (s θ G).bind (R2 := RB) (k := fun (x : V) (_ : L2.St) (H : Hp) (Q : Bool → Hp → Prop) => ∃ k, TruV X.K x H k ∧ Q k H) fun θ1 G1 v d _ _ hv => ?_⟩
  intro ρ M r M' θ2 G2 σ H Q p s e rs rv kk
  unfold asTru at e
  split at e
  · rename_i b
    cases e
    rw [hv.bl_of]
    exact ⟨b, rfl, (kk θ2 G2 H (List.prefix_refl _) (Same.refl _) rs).2 _ _ rfl rfl⟩
  · split at e
    · rename_i es he
      cases e
      obtain ⟨a, xs, rfl, q, rl⟩ := seq_of rs (hv.mono p s) he
      have ee : xs.isEmpty = es.isEmpty := by
        have := rl.len
        cases xs <;> cases es <;> simp_all
      refine ⟨!es.isEmpty, ?_, (kk θ2 G2 H (List.prefix_refl _) (Same.refl _) rs).2 _ _ rfl rfl⟩
      rw [← ee]
      rcases q with q | q
      · exact .inl ⟨xs, q, rfl⟩
      · exact .inr (.inl ⟨xs, q, rfl⟩)
    · cases e
/-! ### a < b < c -/
def dChain (f g h : Ev D) (o o' : D → D → Ev D) : Ev D := bnd f fun x => bnd g fun y => bnd (o x y) fun z => bnd (asB z) fun k => if k = true then bnd h fun w => o' y w else ret (.bl false)
theorem snd_chain {r r' : R2} {o o' : D → D → Ev D} {ta tb tc : TE} {f g h : Ev D} (so : SndO K W r o) (so' : SndO K W r' o') (sa : ∀ θ G, Snd K W (RV K) θ G ta f) (sb : ∀ θ G, Snd K W (RV K) θ G tb g) (sc : ∀ θ G, Snd K W (RV K) θ G tc h) (θ : List Th) (G : Hp) : Snd K W (RV K) θ G (tChain r r' ta tb tc) (dChain f g h o o') := by
  refine (sa θ G).bind (R2 := RV K) (k := fun x σ H1 (Q : V → Hp → Prop) => tb σ H1 fun y H2 => r x y H2 fun z H3 => ∃ k, z = .bl k ∧ (if k = true then tc σ H3 fun w' H4 => r' y w' H4 Q else Q (.bl false) H3)) fun θ1 G1 v d _ _ hv => ?_
  refine (sb θ1 G1).bind (R2 := RV K) (k := fun y σ H2 (Q : V → Hp → Prop) => r v y H2 fun z H3 => ∃ k, z = .bl k ∧ (if k = true then tc σ H3 fun w' H4 => r' y w' H4 Q else Q (.bl false) H3)) fun θ2 G2 u e p2 s2 hu => ?_
  refine (so θ2 G2 v u d e (hv.mono p2 s2) hu).bind (R2 := RV K) (k := fun z σ H3 (Q : V → Hp → Prop) => ∃ k, z = .bl k ∧ (if k = true then tc σ H3 fun w' H4 => r' u w' H4 Q else Q (.bl false) H3)) fun θ3 G3 z dz p3 s3 hz => ?_
  refine snd_asB (k := fun (k : Bool) σ H3 (Q : V → Hp → Prop) => if k = true then tc σ H3 fun w' H4 => r' u w' H4 Q else Q (.bl false) H3) hz fun k => ?_
  cases k with
  | true => simpa using (sc θ3 G3).bind (R2 := RV K) (k := fun w' (_ : L2.St) H4 (Q : V → Hp → Prop) => r' u w' H4 Q) (g := fun w => o' e w) fun θ4 G4 w dw p4 s4 hw => so' θ4 G4 u w e dw (hu.mono (p3.trans p4) (s3.trans s4)) hw
  | false => simpa using Snd.ret (K := K) (W := W) (R := RV K) (θ0 := θ3) (G0 := G3) (v := .bl false) (d := .bl false) fun _ _ _ _ => rv_bl
theorem de_chain {op op' : CmpOp} {r r' : R2} {o o' : D → D → Ev D} {hh : Ev D} (ho : OpR X (compareOp op) r) (ho' : OpR X (compareOp op') r') (so : SndO X.K W r o) (so' : SndO X.K W r' o') (ha : DE X W a f) (hb : DE X W b g) (hc : DE X W c hh) (hm : lastMarks [op, op'] [b, c] = false := by with_unfolding_all rfl) : DE X W (.Compare a [op, op'] [b, c] pos) (dChain f g hh o o') := by
  obtain ⟨ta, pa, sa⟩ := ha
  obtain ⟨tb, pb, sb⟩ := hb
  obtain ⟨tc, pc, sc⟩ := hc
  exact ⟨_, pe_chain ho ho' pa pb pc hm, snd_chain so so' sa sb sc⟩
theorem dt_chain {op op' : CmpOp} {r r' : R2} {o o' : D → D → Ev D} {hh : Ev D} (ho : OpR X (compareOp op) r) (ho' : OpR X (compareOp op') r') (so : SndO X.K W r o) (so' : SndO X.K W r' o') (ha : DE X W a f) (hb : DE X W b g) (hc : DE X W c hh) (hm : lastMarks [op, op'] [b, c] = false := by with_unfolding_all rfl) : DT X W (.Compare a [op, op'] [b, c] pos) (bnd (dChain f g hh o o') asB) := by
  obtain ⟨ta, pa, sa⟩ := ha
  obtain ⟨tb, pb, sb⟩ := hb
  obtain ⟨tc, pc, sc⟩ := hc
  exact ⟨_, pt_chain ho ho' pa pb pc hm, snd_tB fun θ G => snd_chain so so' sa sb sc θ G⟩
theorem slt : SndO K W (rI0 fun i j => .bl (decide (i < j))) oLt := snd_rI0 fun i j _ => .bl _
theorem sle : SndO K W (rI0 fun i j => .bl (decide (i ≤ j))) oLe := snd_rI0 fun i j _ => .bl _
theorem sgt : SndO K W (rI0 fun i j => .bl (decide (j < i))) oGt := snd_rI0 fun i j _ => .bl _
theorem sge : SndO K W (rI0 fun i j => .bl (decide (j ≤ i))) oGe := snd_rI0 fun i j _ => .bl _
/-! ### == of lists that change -/
def frz (M : Mem) (d : D) : D := match d with
  | .ptr n => match M[n]? with
    | some (some ds) => .lst ds
    | _ => d
  | _ => d
def oEqM (d e : D) : Ev D := fun ρ M => oEq (frz M d) (frz M e) ρ M
def oNeM (d e : D) : Ev D := fun ρ M => oNe (frz M d) (frz M e) ρ M
theorem frz_dp {θ : List Th} {G H : Hp} {M : Mem} {v : V} {d : D} (rs : Rs K θ G H M) (hv : Rv K θ G v d) (pl : (frz M d).pl = true) : Dp K H v (toPy (frz M d)) := by
  have base : ∀ {d : D}, Rv K θ G v d → d.pl = true → Dp K H v (toPy d) := fun hv pl => ((hv.rp (pl_np pl)).mono rs.sub).dp pl
  cases hv with
  | dat q =>
    have ef : frz M d = d := by cases q <;> rfl
    rw [ef] at pl ⊢
    exact base (.dat q) pl
  | exv hn q => exact base (.exv hn q) pl
  | dpt q => exact base (.dpt q) pl
  | npt q => exact base (.npt q) pl
  | ptr hn =>
    rename_i n a
    unfold frz at pl ⊢
    dsimp only at pl ⊢
    split at pl
    · rename_i ds hm
      obtain ⟨g, xs, hx, rl⟩ := rs.mem n _ _ hn hm
      exact .lst (.inl (.inl hx)) (dpAll_of rl.len fun i v d a b => ((rl.get i v d a b).mono rs.sub).dp (plL_get _ i d (by unfold D.pl at pl; exact pl) b))
    · cases pl
theorem snd_eqM : SndO K W (rEqD K) oEqM := by
  intro θ G x y d e hx hy ρ M r M' θ1 G1 σ H Q p s e1 rs rv kk
  unfold oEqM oEq at e1
  split at e1
  · rename_i c
    exact ⟨_, _, frz_dp rs (hx.mono p s) c.1, frz_dp rs (hy.mono p s) c.2.1, c.2.2.1, c.2.2.2, Snd.ret (K := K) (W := W) (R := RV K) (θ0 := θ) (G0 := G) (fun _ _ _ _ => rv_bl) ρ M r M' θ1 G1 σ H Q p s e1 rs rv kk⟩
  · cases e1
theorem snd_neM : SndO K W (rNeD K) oNeM := by
  intro θ G x y d e hx hy ρ M r M' θ1 G1 σ H Q p s e1 rs rv kk
  unfold oNeM oNe at e1
  split at e1
  · rename_i c
    exact ⟨_, _, frz_dp rs (hx.mono p s) c.1, frz_dp rs (hy.mono p s) c.2.1, c.2.2.1, c.2.2.2, Snd.ret (K := K) (W := W) (R := RV K) (θ0 := θ) (G0 := G) (fun _ _ _ _ => rv_bl) ρ M r M' θ1 G1 σ H Q p s e1 rs rv kk⟩
  · cases e1
theorem de_eqM (hu : X.A.units + 64 < cLine) (ha : DE X W a f) (hb : DE X W b g) : DE X W (.Compare a [.Eq] [b] pos) (bnd f fun d => bnd g fun e => oEqM d e) := de_cmp (op_eqD hu) snd_eqM ha hb (nomark _)
theorem de_neM (hu : X.A.units + 64 < cLine) (ha : DE X W a f) (hb : DE X W b g) : DE X W (.Compare a [.NotEq] [b] pos) (bnd f fun d => bnd g fun e => oNeM d e) := de_cmp (op_neD hu) snd_neM ha hb (nomark _)
theorem dt_eqM (hu : X.A.units + 64 < cLine) (ha : DE X W a f) (hb : DE X W b g) : DT X W (.Compare a [.Eq] [b] pos) (bnd (bnd f fun d => bnd g fun e => oEqM d e) asB) := dt_cmp (op_eqD hu) snd_eqM ha hb (nomark _)
theorem dt_neM (hu : X.A.units + 64 < cLine) (ha : DE X W a f) (hb : DE X W b g) : DT X W (.Compare a [.NotEq] [b] pos) (bnd (bnd f fun d => bnd g fun e => oNeM d e) asB) := dt_cmp (op_neD hu) snd_neM ha hb (nomark _)
/-! ### x in a row -/
def oInD (neg : Bool) (d e : D) : Ev D :=
  if d.pl = true ∧ e.pl = true ∧ SeqAt.shaped (toPy d) = true ∧ SeqAt.shaped (toPy e) = true then match e with
    | .tup es => ret (.bl (if neg then !(toPys es).any fun z => PyData.eqv z (toPy d) else (toPys es).any fun z => PyData.eqv z (toPy d)))
    | .lst es => ret (.bl (if neg then !(toPys es).any fun z => PyData.eqv z (toPy d) else (toPys es).any fun z => PyData.eqv z (toPy d)))
    | _ => stk
  else stk
def rInLT (K : PySem.W.Frag) (neg : Bool) : R2 := fun x y H Q => rInT K neg x y H Q ∨ ∃ d ds, Dp K H x d ∧ Dp K H y (.list ds) ∧ SeqAt.shaped d = true ∧ SeqAt.shaped (.list ds) = true ∧ Q (.bl (if neg then !ds.any fun z => PyData.eqv z d else ds.any fun z => PyData.eqv z d)) H
theorem op_inLT (hu : X.A.units + 65 < cLine) : OpR X (compareOp .In) (rInLT X.K false) := by
  intro pins s σ H x y v u Q I rx ry h
  rcases h with h | h
  · exact op_inT hu pins s σ H x y v u Q I rx ry h
  · exact op_inD hu pins s σ H x y v u Q I rx ry h
theorem op_notInLT (hu : X.A.units + 65 < cLine) : OpR X (compareOp .NotIn) (rInLT X.K true) := by
  intro pins s σ H x y v u Q I rx ry h
  rcases h with h | h
  · exact op_notInT hu pins s σ H x y v u Q I rx ry h
  · exact op_notInD hu pins s σ H x y v u Q I rx ry h
theorem snd_inD {neg : Bool} : SndO K W (rInLT K neg) (oInD neg) := by
  intro θ G x y d e hx hy
  unfold oInD
  split
  · rename_i c
    split
    · rename_i es
      intro ρ M r M' θ1 G1 σ H Q p s e1 rs rv kk
      exact .inl ⟨_, _, (((hx.rp (pl_np c.1)).mono s).mono rs.sub).dp c.1, (((hy.rp (pl_np c.2.1)).mono s).mono rs.sub).dp c.2.1, c.2.2.1, c.2.2.2, Snd.ret (K := K) (W := W) (R := RV K) (θ0 := θ) (G0 := G) (fun _ _ _ _ => rv_bl) ρ M r M' θ1 G1 σ H Q p s e1 rs rv kk⟩
    · rename_i es
      intro ρ M r M' θ1 G1 σ H Q p s e1 rs rv kk
      exact .inr ⟨_, _, (((hx.rp (pl_np c.1)).mono s).mono rs.sub).dp c.1, (((hy.rp (pl_np c.2.1)).mono s).mono rs.sub).dp c.2.1, c.2.2.1, c.2.2.2, Snd.ret (K := K) (W := W) (R := RV K) (θ0 := θ) (G0 := G) (fun _ _ _ _ => rv_bl) ρ M r M' θ1 G1 σ H Q p s e1 rs rv kk⟩
    · exact Snd.stk
  · exact Snd.stk
theorem de_inD (hr : ∃ k, Rg k X.A) (ha : DE X W a f) (hb : DE X W b g) (hm : behindInMarks .In b = false := by rfl) : DE X W (.Compare a [.In] [b] pos) (bnd f fun d => bnd g fun e => oInD false d e) := by
  obtain ⟨k, hr⟩ := hr
  exact de_cmp (op_inLT (by have := hr.un200; omega)) snd_inD ha hb hm
theorem dt_inD (hr : ∃ k, Rg k X.A) (ha : DE X W a f) (hb : DE X W b g) (hm : behindInMarks .In b = false := by rfl) : DT X W (.Compare a [.In] [b] pos) (bnd (bnd f fun d => bnd g fun e => oInD false d e) asB) := by
  obtain ⟨k, hr⟩ := hr
  exact dt_cmp (op_inLT (by have := hr.un200; omega)) snd_inD ha hb hm
theorem de_ninD (hr : ∃ k, Rg k X.A) (ha : DE X W a f) (hb : DE X W b g) (hm : behindInMarks .NotIn b = false := by rfl) : DE X W (.Compare a [.NotIn] [b] pos) (bnd f fun d => bnd g fun e => oInD true d e) := by
  obtain ⟨k, hr⟩ := hr
  exact de_cmp (op_notInLT (by have := hr.un200; omega)) snd_inD ha hb hm
theorem dt_ninD (hr : ∃ k, Rg k X.A) (ha : DE X W a f) (hb : DE X W b g) (hm : behindInMarks .NotIn b = false := by rfl) : DT X W (.Compare a [.NotIn] [b] pos) (bnd (bnd f fun d => bnd g fun e => oInD true d e) asB) := by
  obtain ⟨k, hr⟩ := hr
  exact dt_cmp (op_notInLT (by have := hr.un200; omega)) snd_inD ha hb hm
/-! ### slices -/
abbrev RO : List Th → Hp → Option Int → Option Int → Prop := fun _ _ x y => x = y
def DO (X : Cx) (W : WN) (e : Option Expr) (g : Ev (Option Int)) : Prop := ∃ t, PO X e t ∧ ∀ θ G, Snd X.K W RO θ G t g
def asI (d : D) : Ev (Option Int) := match d with
  | .int i => ret (some i)
  | _ => stk
theorem do_none : DO X W none (ret none) := ⟨_, po_none, fun _ _ => Snd.ret fun _ _ _ _ => rfl⟩
theorem do_some (h : DE X W e f) : DO X W (some e) (bnd f asI) := by
  obtain ⟨t, q, s⟩ := h
  refine ⟨_, po_some q, fun θ G => (s θ G).bind (R2 := RO) (k := fun (x : V) (_ : L2.St) (H : Hp) (Q : Option Int → Hp → Prop) => ∃ i, x = .int i ∧ Q (some i) H) fun θ1 G1 v d _ _ hv => ?_⟩
  unfold asI
  split
  · rename_i i
    rw [hv.int_of]
    intro ρ M r M' θ2 G2 σ H Q p s e rs rv kk
    exact ⟨i, rfl, Snd.ret (K := X.K) (W := W) (R := RO) (θ0 := θ1) (G0 := G1) (fun _ _ _ _ => rfl) ρ M r M' θ2 G2 σ H Q p s e rs rv kk⟩
  · exact Snd.stk
def cutD (ds : List D) (lo hi : Option Int) : List D := (ds.drop (HT.sIx ds.length 0 lo)).take (HT.sIx ds.length ds.length hi - HT.sIx ds.length 0 lo)
theorem RpL.drop {G : Hp} {xs : List V} {ds : List D} (r : RpL K G xs ds) (n : Nat) : RpL K G (xs.drop n) (ds.drop n) := ⟨by simp [r.len], fun i v d h1 h2 => r.get (n + i) v d (by simpa using h1) (by simpa using h2)⟩
theorem RpL.take {G : Hp} {xs : List V} {ds : List D} (r : RpL K G xs ds) (n : Nat) : RpL K G (xs.take n) (ds.take n) := by
  refine ⟨by simp [r.len], fun i v d h1 h2 => ?_⟩
  rw [List.getElem?_take] at h1 h2
  split at h1
  · rename_i hi
    rw [if_pos hi] at h2
    exact r.get i v d h1 h2
  · cases h1
theorem RpL.cut {G : Hp} {xs : List V} {ds : List D} (r : RpL K G xs ds) (lo hi : Option Int) : RpL K G (cutV xs lo hi) (cutD ds lo hi) := by
  unfold cutV cutD
  rw [r.len]
  exact (r.drop _).take _
theorem RpL.reverse {G : Hp} {xs : List V} {ds : List D} (r : RpL K G xs ds) : RpL K G xs.reverse ds.reverse := by
  refine ⟨by simp [r.len], fun i v d h1 h2 => ?_⟩
  have hi : i < xs.length := by
    rcases Nat.lt_or_ge i xs.length with q | q
    · exact q
    · rw [List.getElem?_eq_none (by simpa using q)] at h1; cases h1
  rw [List.getElem?_reverse hi] at h1
  rw [List.getElem?_reverse (by rw [← r.len]; exact hi), ← r.len] at h2
  exact r.get _ v d h1 h2
/-- a list's items -/
def lseq (d : D) (M : Mem) : Option (List D) := match d with
  | .tup _ => none
  | d => seqOf d M
theorem lseq_of {θ : List Th} {G H : Hp} {M : Mem} {v : V} {d : D} {ds : List D} (rs : Rs K θ G H M) (hv : Rv K θ G v d) (h : lseq d M = some ds) : ∃ a xs, v = .ref a ∧ SqL K H a xs ∧ RpL K G xs ds := by
  cases hv with
  | dat q =>
    cases q with
    | lst h1 l g => cases h; exact ⟨_, _, rfl, .inl (.inl (rs.sub _ _ h1)), l, g⟩
    | scr h1 l g => cases h; exact ⟨_, _, rfl, rs.sub.seq h1, l, g⟩
    | _ => cases h
  | ptr hn =>
    rename_i n a
    unfold lseq seqOf at h
    dsimp only at h
    split at h
    · rename_i es hm
      cases h
      obtain ⟨g, xs, hx, rl⟩ := rs.mem n _ _ hn hm
      exact ⟨_, xs, rfl, .inl (.inl hx), rl⟩
    · cases h
  | dpt _ => cases h
  | npt _ => cases h
  | exv _ _ => cases h
def oSl (d : D) (lo hi : Option Int) : Ev D := fun ρ M => match d with
  | .tup ds => some (.ok (.tup (cutD ds lo hi)), M)
  | d => match lseq d M with
    | some ds => some (.ok (.lst (cutD ds lo hi)), M)
    | none => none
theorem de_slice {lo hi : Option Expr} {gl gh : Ev (Option Int)} (ha : DE X W a f) (hl : DO X W lo gl) (hh : DO X W hi gh) : DE X W (.Subscript a (.Slice lo hi none p2) pos) (bnd f fun d => bnd gl fun l => bnd gh fun u => oSl d l u) := by
  obtain ⟨t, q, s⟩ := ha
  obtain ⟨tl, pl, sl⟩ := hl
  obtain ⟨th, ph, sh⟩ := hh
  refine ⟨_, pe_slice (sl_tupA.or sl_list) q pl ph, fun θ G => ?_⟩
  refine (s θ G).bind (R2 := RV X.K) (k := fun (x : V) (σ : L2.St) (H1 : Hp) (Q : V → Hp → Prop) => tl σ H1 fun l H2 => th σ H2 fun u H3 => rSlA X.K x l u H3 Q ∨ rSlL X.K x l u H3 Q) fun θ1 G1 v d _ _ hv => ?_
  refine (sl θ1 G1).bind (R2 := RV X.K) (k := fun (l : Option Int) (σ : L2.St) (H2 : Hp) (Q : V → Hp → Prop) => th σ H2 fun u H3 => rSlA X.K v l u H3 Q ∨ rSlL X.K v l u H3 Q) fun θ2 G2 l l' p2 s2 hl => ?_
  cases hl
  refine (sh θ2 G2).bind (R2 := RV X.K) (k := fun (u : Option Int) (_ : L2.St) (H3 : Hp) (Q : V → Hp → Prop) => rSlA X.K v l u H3 Q ∨ rSlL X.K v l u H3 Q) fun θ3 G3 u u' p3 s3 hu => ?_
  cases hu
  intro ρ M r M' θ4 G4 σ H Q p4 s4 e rs rv kk
  have hv4 := hv.mono ((p2.trans p3).trans p4) ((s2.trans s3).trans s4)
  have lay : ∀ {xs : List V} {ds : List D}, RpL X.K G4 xs ds → ∀ q, H q = none → (r = .ok (.lst (cutD ds l u))) → M' = M → Q (.ref q) (upd H q (.lst (cutV xs l u))) := by
    intro xs ds rl q hq e1 e2
    subst e1; subst e2
    have g := rs.fresh hq
    exact (kk θ4 (upd G4 q (.lst (cutV xs l u))) _ (List.prefix_refl _) (same_upd g) (rs.laid hq _)).2 _ _ rfl (.dat (rp_lst upd_same ((rl.cut l u).mono (same_upd g))))
  unfold oSl at e
  split at e
  · rename_i ds
    cases e
    cases hv4 with
    | dat hd =>
      cases hd with
      | tup h1 l1 g1 =>
        rename_i a xs
        have rl : RpL X.K G4 xs ds := ⟨l1, g1⟩
        refine .inl ⟨a, xs, rfl, seqT rs.sub h1, fun hw => ?_, fun _ q hq => ?_⟩
        · have ec : cutD ds l u = ds := by
            unfold cutD
            rw [rl.len] at hw
            rw [hw.1, hw.2]
            simp
          rw [ec] at kk
          exact (kk θ4 G4 H (List.prefix_refl _) (Same.refl _) rs).2 _ _ rfl (.dat (.tup h1 l1 g1))
        · have g := rs.fresh hq
          exact (kk θ4 (upd G4 q (.tup (cutV xs l u))) _ (List.prefix_refl _) (same_upd g) (rs.laid hq _)).2 _ _ rfl (.dat (rp_tup upd_same ((rl.cut l u).mono (same_upd g))))
  · split at e
    · rename_i ds hd
      cases e
      obtain ⟨a, xs, rfl, q, rl⟩ := lseq_of rs hv4 hd
      exact .inr ⟨a, xs, rfl, q, fun q hq => lay rl q hq rfl rfl⟩
    · cases e
/-! ### x[::-1] -/
def oRv (d : D) : Ev D := fun ρ M => match d with
  | .tup ds => some (.ok (.tup ds.reverse), M)
  | d => match lseq d M with
    | some ds => some (.ok (.lst ds.reverse), M)
    | none => none
theorem de_rv {k : Nat} {p1 p3 p4 : Pos} (ha : DE X W a f) : DE X W (.Subscript a (.Slice none none (some (.UnaryOp .USub (.Constant (.int 1) k p1) p3)) p4) pos) (bnd f oRv) := by
  obtain ⟨t, q, s⟩ := ha
  refine ⟨_, pe_rv q, fun θ G => ?_⟩
  refine (s θ G).bind (R2 := RV X.K) (k := fun (x : V) (σ : L2.St) (H1 : Hp) (Q : V → Hp → Prop) => ∃ a xs, x = .ref a ∧ ((SqL X.K H1 a xs ∧ ∀ p, H1 p = none → Q (.ref p) (upd H1 p (.lst xs.reverse))) ∨ (SqT X.K H1 a xs ∧ ∀ p, H1 p = none → Q (.ref p) (upd H1 p (.tup xs.reverse))))) fun θ1 G1 v d _ _ hv => ?_
  intro ρ M r M' θ4 G4 σ H Q p4 s4 e rs rv kk
  have hv4 := hv.mono p4 s4
  unfold oRv at e
  split at e
  · rename_i ds
    cases e
    cases hv4 with
    | dat hd =>
      cases hd with
      | tup h1 l1 g1 =>
        rename_i a xs
        have rl : RpL X.K G4 xs ds := ⟨l1, g1⟩
        refine ⟨a, xs, rfl, .inr ⟨seqT rs.sub h1, fun q hq => ?_⟩⟩
        have g := rs.fresh hq
        exact (kk θ4 (upd G4 q (.tup xs.reverse)) _ (List.prefix_refl _) (same_upd g) (rs.laid hq _)).2 _ _ rfl (.dat (rp_tup upd_same (rl.reverse.mono (same_upd g))))
  · split at e
    · rename_i ds hd
      cases e
      obtain ⟨a, xs, rfl, q, rl⟩ := lseq_of rs hv4 hd
      refine ⟨a, xs, rfl, .inl ⟨q, fun q hq => ?_⟩⟩
      have g := rs.fresh hq
      exact (kk θ4 (upd G4 q (.lst xs.reverse)) _ (List.prefix_refl _) (same_upd g) (rs.laid hq _)).2 _ _ rfl (.dat (rp_lst upd_same (rl.reverse.mono (same_upd g))))
    · cases e
/-! ### for over a list or a tuple -/
def iSeq (K : PySem.W.Frag) (tl : TE) : TI := fun σ H R => tl σ H fun x H1 => (∃ a, x = .ref a ∧ (∃ xs, SqL K H1 a xs) ∧ R (Itl K a) H1) ∨ ∃ a, x = .ref a ∧ (∃ xs, SqT K H1 a xs) ∧ R (Itt K a) H1
theorem pi_seq {tg l : Expr} {tl : TE} (hl : PE X l tl) : PI X tg l (iSeq X.K tl) := by
  refine ⟨fun pins s σ H R I h => thn (hl.run pins s σ H _ I h) fun v s1 z => ?_⟩
  obtain ⟨x, H1, I1, r1, q1⟩ := z
  have new : ∀ b, b ∈ [s1.heap.objs.size] → b = s1.heap.objs.size := fun b hb => by simpa using hb
  rcases q1 with ⟨a, e, ⟨xs, hq⟩, q⟩ | ⟨a, e, ⟨xs, hq⟩, q⟩
  · subst e
    cases r1
    obtain ⟨its, _, pl, _⟩ := I1.list hq
    refine wpAny_pyIter_list pl.isList ⟨_, [s1.heap.objs.size], _, _, H1, rfl, I1.kept (t' := s1.toks) fun b o e => Heap.get?_push_of_some _ e, turn_list a _, ⟨_, Heap.get?_push_size _ rfl, rfl, rfl⟩, fun b hb => ?_, q⟩
    rw [new b hb]
    exact I1.fpOk (Nat.le_refl _) (I1.hok.fresh (Nat.le_refl _))
  · subst e
    cases r1
    obtain ⟨its, _, pl, _⟩ := I1.tuple hq
    refine wpAny_pyIter_tuple (show s1.heap.IsTuple a its.toArray from pl) ⟨_, [s1.heap.objs.size], _, _, H1, rfl, I1.kept (t' := s1.toks) fun b o e => Heap.get?_push_of_some _ e, turn_tuple a _, ⟨_, Heap.get?_push_size _ rfl, rfl, rfl⟩, fun b hb => ?_, q⟩
    rw [new b hb]
    exact I1.fpOk (Nat.le_refl _) (I1.hok.fresh (Nat.le_refl _))
def oItS (d : D) : Ev (List D) := match d with
  | .lst ds => ret ds
  | .tup ds => ret ds
  | _ => stk
theorem di_seq {tg : Expr} (h : DE X W e f) : DI X W tg e (bnd f oItS) := by
  obtain ⟨t, q, s⟩ := h
  refine ⟨_, pi_seq q, fun θ G => (s θ G).bind (R2 := RI X.K) (k := fun (x : V) (_ : L2.St) (H1 : Hp) (R : It → Hp → Prop) => (∃ a, x = .ref a ∧ (∃ xs, SqL X.K H1 a xs) ∧ R (Itl X.K a) H1) ∨ ∃ a, x = .ref a ∧ (∃ xs, SqT X.K H1 a xs) ∧ R (Itt X.K a) H1) fun θ1 G1 v d _ _ hv => ?_⟩
  unfold oItS
  split
  · rename_i ds
    cases hv with
    | dat hv =>
      cases hv with
      | lst hq l g =>
        rename_i a xs
        intro ρ M r M' θ2 G2 σ H Q p s e rs rv kk
        exact .inl ⟨a, rfl, ⟨xs, .inl (.inl (rs.sub _ _ (s _ _ hq)))⟩, Snd.ret (K := X.K) (W := W) (R := RI X.K) (θ0 := θ1) (G0 := G1) (fun _ _ p s => (ri_list (.inl (.inl hq)) ⟨l, g⟩).mono p s) ρ M r M' θ2 G2 σ H Q p s e rs rv kk⟩
  · rename_i ds
    cases hv with
    | dat hv =>
      cases hv with
      | tup hq l g =>
        rename_i a xs
        intro ρ M r M' θ2 G2 σ H Q p s e rs rv kk
        exact .inr ⟨a, rfl, ⟨xs, seqT rs.sub (seqT s hq)⟩, Snd.ret (K := X.K) (W := W) (R := RI X.K) (θ0 := θ1) (G0 := G1) (fun _ _ p s => (ri_tup hq ⟨l, g⟩).mono p s) ρ M r M' θ2 G2 σ H Q p s e rs rv kk⟩
  · exact Snd.stk
/-! ### zip of two tuples, of two lists -/
def zipD (a b : List D) : List D := (a.zip b).map fun q => .tup [q.1, q.2]
def oZip (ds : List D) : Ev (List D) := match ds with
  | [.tup a, .tup b] => ret (zipD a b)
  | [.lst a, .lst b] => ret (zipD a b)
  | _ => stk
theorem zip_get {a b : List D} {i : Nat} {d : D} (h : (zipD a b)[i]? = some d) : ∃ u v, a[i]? = some u ∧ b[i]? = some v ∧ d = .tup [u, v] := by
  unfold zipD at h
  rw [List.getElem?_map] at h
  cases q : (a.zip b)[i]? with
  | none => rw [q] at h; cases h
  | some z =>
    rw [q] at h
    cases h
    rw [List.getElem?_zip_eq_some] at q
    exact ⟨z.1, z.2, q.1, q.2, rfl⟩
theorem zip_len (a b : List D) : (zipD a b).length = min a.length b.length := by simp [zipD]
theorem rp_pair {G : Hp} {q : Addr} {x y : V} {u v : D} (h : G q = some (.tup [x, y])) (hx : Rp K G x u) (hy : Rp K G y v) : Rp K G (.ref q) (.tup [u, v]) := rp_tup h (RpL.cons hx (RpL.cons hy RpL.nil))
theorem ri_zipT {θ : List Th} {G : Hp} {a b : Addr} {xs ys : List V} {ds es : List D} (ha : SqT K G a xs) (hb : SqT K G b ys) (r1 : RpL K G xs ds) (r2 : RpL K G ys es) : RI K θ G (ItzT K a b) (zipD ds es) := by
  refine ⟨fun i θ1 G1 H M _ s rs hi => ?_, fun θ1 G1 H M _ s rs => ?_, fun i d θ1 G1 H M x H' _ s rs hd y => ?_⟩
  · rw [zip_len] at hi
    obtain ⟨v, hv, _⟩ := r1.at (List.getElem?_eq_getElem (show i < ds.length by omega))
    obtain ⟨u, hu, _⟩ := r2.at (List.getElem?_eq_getElem (show i < es.length by omega))
    exact ⟨xs, ys, v, u, seqT rs.sub (seqT s ha), seqT rs.sub (seqT s hb), hv, hu⟩
  · refine ⟨xs, ys, seqT rs.sub (seqT s ha), seqT rs.sub (seqT s hb), ?_⟩
    rw [zip_len, r1.len, r2.len]
    omega
  · obtain ⟨T, x1, y1, rfl, hT, rfl, h1, h2⟩ := y
    obtain ⟨u, v, hu, hv, rfl⟩ := zip_get hd
    have g := rs.fresh hT
    have e1 := h1 xs (seqT rs.sub (seqT s ha))
    have e2 := h2 ys (seqT rs.sub (seqT s hb))
    exact ⟨upd G1 T (.tup [x1, y1]), same_upd g, rs.laid hT _, .dat (rp_pair upd_same (((r1.get i _ _ e1 hu).mono s).mono (same_upd g)) (((r2.get i _ _ e2 hv).mono s).mono (same_upd g)))⟩
theorem ri_zipL {θ : List Th} {G : Hp} {a b : Addr} {xs ys : List V} {ds es : List D} (ha : SqL K G a xs) (hb : SqL K G b ys) (r1 : RpL K G xs ds) (r2 : RpL K G ys es) : RI K θ G (Itz K a b) (zipD ds es) := by
  refine ⟨fun i θ1 G1 H M _ s rs hi => ?_, fun θ1 G1 H M _ s rs => ?_, fun i d θ1 G1 H M x H' _ s rs hd y => ?_⟩
  · rw [zip_len] at hi
    obtain ⟨v, hv, _⟩ := r1.at (List.getElem?_eq_getElem (show i < ds.length by omega))
    obtain ⟨u, hu, _⟩ := r2.at (List.getElem?_eq_getElem (show i < es.length by omega))
    exact ⟨xs, ys, v, u, rs.sub.seq (s.seq ha), rs.sub.seq (s.seq hb), hv, hu⟩
  · refine ⟨xs, ys, rs.sub.seq (s.seq ha), rs.sub.seq (s.seq hb), ?_⟩
    rw [zip_len, r1.len, r2.len]
    omega
  · obtain ⟨T, x1, y1, rfl, hT, rfl, h1, h2⟩ := y
    obtain ⟨u, v, hu, hv, rfl⟩ := zip_get hd
    have g := rs.fresh hT
    have e1 := h1 xs (rs.sub.seq (s.seq ha))
    have e2 := h2 ys (rs.sub.seq (s.seq hb))
    exact ⟨upd G1 T (.tup [x1, y1]), same_upd g, rs.laid hT _, .dat (rp_pair upd_same (((r1.get i _ _ e1 hu).mono s).mono (same_upd g)) (((r2.get i _ _ e2 hv).mono s).mono (same_upd g)))⟩
theorem di_zip {elts : List Expr} {kk : Nat} {tpos : Pos} {e2 : Expr} (hm : X.mg "zip" = none) (ha : DA X W [e, e2] h) (hg : Gl X "zip" := by rfl) (hs : starEach [e, e2] X.env = (false, eval e X.env) :: starEach [e2] X.env := by rfl) (hpl : (backTo pos (starEach [e2] X.env)).any (·.1) = false := by rfl) :
    DI X W (.Tuple elts kk tpos) (.Call (.Name "zip" p) [e, e2] [] pos) (bnd h oZip) := by
  obtain ⟨t, q, s⟩ := ha
  refine ⟨_, pi_zipA hg hm q hs hpl, fun θ G => (s θ G).bind (R2 := RI X.K) (k := fun (vs : List V) (_ : L2.St) (H1 : Hp) (R : It → Hp → Prop) => ∃ a b xs ys, vs = [.ref a, .ref b] ∧ ((SqL X.K H1 a xs ∧ SqL X.K H1 b ys ∧ R (Itz X.K a b) H1) ∨ (SqT X.K H1 a xs ∧ SqT X.K H1 b ys ∧ R (ItzT X.K a b) H1))) fun θ1 G1 vs ds _ _ hv => ?_⟩
  unfold oZip
  split
  · rename_i da db
    obtain ⟨v, u, rfl, h1, h2⟩ := vals2 hv
    cases h1 with
    | dat h1 =>
      cases h2 with
      | dat h2 =>
        cases h1 with
        | tup q1 l1 g1 =>
          cases h2 with
          | tup q2 l2 g2 =>
            intro ρ M r M' θ2 G2 σ H Q p s e rs rv kk
            exact ⟨_, _, _, _, rfl, .inr ⟨seqT rs.sub (seqT s q1), seqT rs.sub (seqT s q2), Snd.ret (K := X.K) (W := W) (R := RI X.K) (θ0 := θ1) (G0 := G1) (fun _ _ p s => (ri_zipT q1 q2 ⟨l1, g1⟩ ⟨l2, g2⟩).mono p s) ρ M r M' θ2 G2 σ H Q p s e rs rv kk⟩⟩
  · rename_i da db
    obtain ⟨v, u, rfl, h1, h2⟩ := vals2 hv
    cases h1 with
    | dat h1 =>
      cases h2 with
      | dat h2 =>
        cases h1 with
        | lst q1 l1 g1 =>
          cases h2 with
          | lst q2 l2 g2 =>
            intro ρ M r M' θ2 G2 σ H Q p s e rs rv kk
            exact ⟨_, _, _, _, rfl, .inl ⟨.inl (.inl (rs.sub _ _ (s _ _ q1))), .inl (.inl (rs.sub _ _ (s _ _ q2))), Snd.ret (K := X.K) (W := W) (R := RI X.K) (θ0 := θ1) (G0 := G1) (fun _ _ p s => (ri_zipL (.inl (.inl q1)) (.inl (.inl q2)) ⟨l1, g1⟩ ⟨l2, g2⟩).mono p s) ρ M r M' θ2 G2 σ H Q p s e rs rv kk⟩⟩
  · exact Snd.stk
/-! ### x += e of numbers -/
def sAug (i : Nat) (f : Ev D) (o : D → D → Ev D) : Sv := fun ρ M => match ρ[i]? with
  | some (some d) => thenS f (fun e => thenS (o d e) fun z ρ M => some (.nx (ρ.set i (some z)), M)) ρ M
  | _ => none
theorem snd_aug {t : TE} {i : Nat} {w : Int → Int → Int} {f : Ev D} {o : D → D → Ev D} (s : ∀ θ G, Snd K W (RV K) θ G t f) (ho : ∀ x y ρ M r M', o x y ρ M = some (r, M') → ∃ i j, x = .int i ∧ y = .int j ∧ r = .ok (.int (w i j)) ∧ M' = M) : SndS K W (tAug i t (ipI w)) (sAug i f o) := by
  intro ρ M ou M' θ G σ H Dn e rs rv kk
  unfold sAug at e
  split at e
  · rename_i d hd
    obtain ⟨v, hv, rd⟩ := rv.get i d hd
    refine ⟨v, hv, ?_⟩
    unfold thenS at e
    cases q : f ρ M with
    | none => rw [q] at e; cases e
    | some z =>
      obtain ⟨r1, M1⟩ := z
      rw [q] at e
      refine s θ G ρ M r1 M1 θ G σ H _ (List.prefix_refl _) (Same.refl _) q rs rv fun θ' G' H' p' s' rs' => ?_
      cases r1 with
      | exc C =>
        cases e
        exact ⟨fun C' h => by cases h; exact (kk θ' G' H' p' s' rs').ex C ρ σ rfl (rv.mono p' s'), fun d v h => (by cases h)⟩
      | ok y =>
        refine ⟨fun C' h => (by cases h), fun d2 v2 h2 rel => ?_⟩
        cases h2
        dsimp only at e
        try unfold thenS at e
        cases q2 : o d y ρ M1 with
        | none => rw [q2] at e; cases e
        | some z2 =>
          obtain ⟨r2, M2⟩ := z2
          rw [q2] at e
          obtain ⟨a, b, rfl, rfl, rfl, rfl⟩ := ho d y ρ M1 r2 M2 q2
          cases e
          have e1 := rd.int_of
          have e2 := rel.int_of
          subst e1; subst e2
          exact ⟨a, b, rfl, rfl, (kk θ' G' H' p' s' rs').nx _ _ rfl ((rv.mono p' s').set (.dat (.int _)))⟩
  · cases e
def oAddI (d e : D) : Ev D := match d, e with
  | .int i, .int j => ret (.int (i + j))
  | _, _ => stk
def oSubI (d e : D) : Ev D := match d, e with
  | .int i, .int j => ret (.int (i - j))
  | _, _ => stk
theorem ds_augAdd (i : Nat) {x : Str} {px : Pos} (hN : X.N.Nodup) (he : DE X W e f) (hi : X.N[i]? = some x := by rfl) (hx : Loc X.env.scope x := by first | exact .inl rfl | exact .inr rfl) (hf : X.fn x = true ∨ X.env.scope.names.lookup x = some .local := by first | exact .inl rfl | exact .inr rfl) : DS X W (.AugAssign (.Name x px) .Add e pos) (sAug i f oAddI) := by
  obtain ⟨t, q, s⟩ := he
  refine ⟨_, ps_aug hN hi hx q ip_add hf, snd_aug s fun x y ρ M r M' h => ?_⟩
  unfold oAddI at h
  split at h
  · cases h; exact ⟨_, _, rfl, rfl, rfl, rfl⟩
  · cases h
theorem ds_augSub (i : Nat) {x : Str} {px : Pos} (hN : X.N.Nodup) (he : DE X W e f) (hi : X.N[i]? = some x := by rfl) (hx : Loc X.env.scope x := by first | exact .inl rfl | exact .inr rfl) (hf : X.fn x = true ∨ X.env.scope.names.lookup x = some .local := by first | exact .inl rfl | exact .inr rfl) : DS X W (.AugAssign (.Name x px) .Sub e pos) (sAug i f oSubI) := by
  obtain ⟨t, q, s⟩ := he
  refine ⟨_, ps_aug hN hi hx q ip_sub hf, snd_aug s fun x y ρ M r M' h => ?_⟩
  unfold oSubI at h
  split at h
  · cases h; exact ⟨_, _, rfl, rfl, rfl, rfl⟩
  · cases h
end
/-! ### defs -/
section
variable {K : PySem.W.Frag} {P : Program} {w : World} {mg : Str → Option Value} {base : Heap} {x qual : Str} {st : Stmt} {f : Addr} {fd : FuncData} {N ps : List Str} {k n : Nat} {F : Fd} {fb : Sv}
theorem fn_okG (FU : Fun K x qual st f fd) (S : FnScope N ps (defScope st)) (hn : ps.length = n)
    (body : ∀ (cdv : Value) (A : Around) (outer : List PySem.Env) (s : Shared) (H : Hp) (E : XK), Rg k (A.deeper (envOfC qual (defScope st) s.heap.objs.size f cdv)) → DSs (cxOf CX0 P w K mg base N qual (defScope st) f cdv A outer s H E).nox W0 (defBody st) fb)
    (hF : ∀ ds M r M', ds.length = n → F ds M = some (r, M') → M.length ≤ M'.length ∧ ∃ o M2, fb (startD N ds) M = some (o, M2) ∧ Exit o M2 r M')
    (hx : ∀ ds M C M', F ds M ≠ some (.exc C, M')) : GOk P w K mg base CX0 (k + 1) f fd ps (spF K mg n F) := by
  refine gok_of FU S (fun vs H Q E h => (spF_len h).trans hn.symm) fun cdv A outer s H vs Q E hr h => ?_
  obtain ⟨t, p, sn⟩ := body cdv A outer s H E hr
  refine ⟨t, p.nox, ?_⟩
  obtain ⟨θ, G, ds, M, r, M', rs, rv, hl, e, kk⟩ := h
  obtain ⟨hle, o, M2, e2, ex⟩ := hF ds M r M' hl e
  cases r with
  | exc C => exact absurd e (hx ds M C M')
  | ok d =>
    exact body_ok (mg := fun _ => some (.ref 0)) (W := W0) (E := fun _ _ _ => False) (fun _ _ _ h => h 0 rfl) sn hF ⟨θ, G, ds, M, .ok d, M', rs, rv, hl, e, fun θ' G' H' p' s' rs' => ⟨fun x C hC => (by cases hC), (kk θ' G' H' p' s' rs').2⟩⟩
theorem fn_okXG (FU : Fun K x qual st f fd) (S : FnScope N ps (defScope st)) (hn : ps.length = n)
    (body : ∀ (cdv : Value) (A : Around) (outer : List PySem.Env) (s : Shared) (H : Hp) (E : XK), Rg k (A.deeper (envOfC qual (defScope st) s.heap.objs.size f cdv)) → DSs (cxOf (L2.CX P w) P w K mg base N qual (defScope st) f cdv A outer s H E) (fun x _ H => ∀ C, mg x = some (.ref C) → E (.ref C) none H) (defBody st) fb)
    (hF : ∀ ds M r M', ds.length = n → F ds M = some (r, M') → M.length ≤ M'.length ∧ ∃ o M2, fb (startD N ds) M = some (o, M2) ∧ Exit o M2 r M') : GOk P w K mg base (L2.CX P w) (k + 1) f fd ps (spF K mg n F) := by
  refine gok_of FU S (fun vs H Q E h => (spF_len h).trans hn.symm) fun cdv A outer s H vs Q E hr h => ?_
  obtain ⟨t, p, sn⟩ := body cdv A outer s H E hr
  exact ⟨t, p, body_ok (fun _ _ _ h => h) sn hF h⟩
end
end Bw
namespace Bw
open PySem PySem.Spec PyProof.Rows L2
theorem rp_c2 {K : PySem.W.Frag} {a : Addr} {od : Option Addr} {n : Nat} {sl : Array (Option Value)} {t0 t1 : Tok} {i j : Int} (l : K.lookup a = some ⟨.type "tuple", od, .seq #[.int i t0, .int j t1] n, sl⟩) (G : Hp) : Rp K G (.ref a) (.tup [.int i, .int j]) := by
  have r : RpL K G [V.int i, V.int j] [.int i, .int j] := RpL.cons (.int i) (RpL.cons (.int j) RpL.nil)
  have v : Vals [V.int i, V.int j] [Value.int i t0, Value.int j t1] := .cons ⟨t0, rfl⟩ (.cons ⟨t1, rfl⟩ .nil)
  have z : (#[Value.int i t0, Value.int j t1] : Array Value).size ≤ sizeLine := by rw [sizeLine_eq]; simp
  exact .tup (.inr ⟨_, _, n, l, rfl, rfl, z, v⟩) r.len r.get
end Bw
namespace Bw
open PySem PySem.Spec PyProof.Rows L2
/-! ### == of texts -/
def oEqS (d e : D) : Ev D := match d, e with
  | .str a, .str b => ret (.bl (decide (a = b)))
  | _, _ => stk
def oNeS (d e : D) : Ev D := match d, e with
  | .str a, .str b => ret (.bl (!decide (a = b)))
  | _, _ => stk
section
variable {X : Cx} {W : WN} {pos : Pos} {K : PySem.W.Frag} {a b : Expr} {f g : Ev D}
theorem Rv.str_of {θ : List Th} {G : Hp} {v : V} {z : Str} (h : Rv K θ G v (.str z)) : v = .str z := by
  cases h with
  | dat h => cases h; rfl
theorem dec_str (a b : Str) : decide (V.str a = V.str b) = decide (a = b) := by
  by_cases h : a = b
  · subst h; simp
  · rw [decide_eq_false h, decide_eq_false fun z => h (by cases z; rfl)]
theorem snd_eqS : SndO K W rEq oEqS := by
  intro θ G x y d e hx hy
  unfold oEqS
  split
  · rename_i a b
    rw [hx.str_of, hy.str_of]
    intro ρ M r M' θ1 G1 σ H Q p s e rs rv kk
    refine ⟨rfl, ?_⟩
    rw [dec_str]
    exact Snd.ret (K := K) (W := W) (R := RV K) (θ0 := θ) (G0 := G) (fun _ _ _ _ => rv_bl) ρ M r M' θ1 G1 σ H Q p s e rs rv kk
  · exact Snd.stk
theorem snd_neS : SndO K W rNe oNeS := by
  intro θ G x y d e hx hy
  unfold oNeS
  split
  · rename_i a b
    rw [hx.str_of, hy.str_of]
    intro ρ M r M' θ1 G1 σ H Q p s e rs rv kk
    refine ⟨rfl, ?_⟩
    rw [dec_str]
    exact Snd.ret (K := K) (W := W) (R := RV K) (θ0 := θ) (G0 := G) (fun _ _ _ _ => rv_bl) ρ M r M' θ1 G1 σ H Q p s e rs rv kk
  · exact Snd.stk
theorem de_eqS (ha : DE X W a f) (hb : DE X W b g) : DE X W (.Compare a [.Eq] [b] pos) (bnd f fun d => bnd g fun e => oEqS d e) := de_cmp op_eq snd_eqS ha hb (nomark _)
theorem de_neS (ha : DE X W a f) (hb : DE X W b g) : DE X W (.Compare a [.NotEq] [b] pos) (bnd f fun d => bnd g fun e => oNeS d e) := de_cmp op_ne snd_neS ha hb (nomark _)
theorem dt_eqS (ha : DE X W a f) (hb : DE X W b g) : DT X W (.Compare a [.Eq] [b] pos) (bnd (bnd f fun d => bnd g fun e => oEqS d e) asB) := dt_cmp op_eq snd_eqS ha hb (nomark _)
theorem dt_neS (ha : DE X W a f) (hb : DE X W b g) : DT X W (.Compare a [.NotEq] [b] pos) (bnd (bnd f fun d => bnd g fun e => oNeS d e) asB) := dt_cmp op_ne snd_neS ha hb (nomark _)
end
theorem oEqS_ap (a b : Str) (ρ : Env) (M : Mem) : oEqS (.str a) (.str b) ρ M = some (.ok (.bl (decide (a = b))), M) := rfl
theorem oNeS_ap (a b : Str) (ρ : Env) (M : Mem) : oNeS (.str a) (.str b) ρ M = some (.ok (.bl (!decide (a = b))), M) := rfl
/-! ### what is shown -/
structure Sh (k n : Nat) (d : D) : Prop where
  pl : d.pl = true
  sh : (toPy d).showable = true
  nd : (toPy d).hasDict = false
  dp : (toPy d).depth ≤ k
  ln : (toPy d).shown.length ≤ 2000 * n
theorem Sh.mono {k n k' n' : Nat} {d : D} (h : Sh k n d) (hk : k ≤ k') (hn : n ≤ n') : Sh k' n' d := ⟨h.pl, h.sh, h.nd, Nat.le_trans h.dp hk, Nat.le_trans h.ln (Nat.mul_le_mul_left _ hn)⟩
theorem Sh.int {i : Int} (h : i.natAbs.log2 < 1920) : Sh 0 1 (.int i) := ⟨rfl, by simpa [toPy, PyData.showable] using h, rfl, by simp [toPy, PyData.depth], by
  have := int_text_len_1921 h
  simp only [toPy, PyData.shown]
  omega⟩
theorem Sh.non : Sh 0 1 .non := ⟨rfl, rfl, rfl, by simp [toPy, PyData.depth], by show (PySem.Str.ofString "None").length ≤ _; decide⟩
theorem Sh.bl (b : Bool) : Sh 0 1 (.bl b) := ⟨rfl, rfl, rfl, by simp [toPy, PyData.depth], by cases b <;> simp only [toPy, PyData.shown] <;> decide⟩
theorem plL_of : ∀ {ds : List D}, (∀ d ∈ ds, d.pl = true) → plL ds = true
  | [], _ => rfl
  | d :: ds, h => by
    unfold plL
    rw [h d (by simp), plL_of fun e he => h e (by simp [he])]
    rfl
theorem shL_of : ∀ {ds : List D}, (∀ d ∈ ds, (toPy d).showable = true) → PyData.showableAll (toPys ds) = true
  | [], _ => rfl
  | d :: ds, h => by
    simp only [toPys, PyData.showableAll]
    rw [h d (by simp), shL_of fun e he => h e (by simp [he])]
    rfl
theorem ndL_of : ∀ {ds : List D}, (∀ d ∈ ds, (toPy d).hasDict = false) → PyData.hasDictAll (toPys ds) = false
  | [], _ => rfl
  | d :: ds, h => by
    simp only [toPys, PyData.hasDictAll]
    rw [h d (by simp), ndL_of fun e he => h e (by simp [he])]
    rfl
theorem dpL_of {k : Nat} : ∀ {ds : List D}, (∀ d ∈ ds, (toPy d).depth ≤ k) → PyData.depthAll (toPys ds) ≤ k
  | [], _ => by simp [toPys, PyData.depthAll]
  | d :: ds, h => by
    simp only [toPys, PyData.depthAll]
    have h1 := h d (by simp)
    have h2 := dpL_of (ds := ds) fun e he => h e (by simp [he])
    omega
theorem lnL_of {n : Nat} : ∀ {ds : List D}, (∀ d ∈ ds, (toPy d).shown.length ≤ n) → piled (PyData.shownAll (toPys ds)) ≤ ds.length * (n + 2)
  | [], _ => by simp [toPys, PyData.shownAll, piled]
  | d :: ds, h => by
    simp only [toPys, PyData.shownAll]
    rw [piled_cons]
    have h1 := h d (by simp)
    have h2 := lnL_of (ds := ds) fun e he => h e (by simp [he])
    rw [List.length_cons, Nat.succ_mul]
    omega
theorem textFrom_le : ∀ (ts : List Str) (k : Nat) (acc : Str), (textFrom k acc ts).length ≤ acc.length + piled ts
  | [], k, acc => by simp [textFrom]
  | t :: ts, k, acc => by
    unfold textFrom
    refine Nat.le_trans (textFrom_le ts _ _) ?_
    rw [strLen_append, strLen_append, piled_cons]
    have : ((if k > 0 then ", " else "" : String) : Str).length ≤ 2 := by split <;> decide
    omega
theorem join_le (ts : List Str) : (Str.join ", " ts).length ≤ piled ts := by
  cases ts with
  | nil => exact Nat.zero_le _
  | cons t r =>
    have := join_length_add (t :: r) (by simp)
    omega
theorem Sh.tup {k n : Nat} {ds : List D} (h : ∀ d ∈ ds, Sh k n d) : Sh (k + 1) (ds.length * (n + 1) + 1) (.tup ds) := by
  refine ⟨?_, ?_, ?_, ?_, ?_⟩
  · unfold D.pl; exact plL_of fun d hd => (h d hd).pl
  · simp only [toPy, PyData.showable]; exact shL_of fun d hd => (h d hd).sh
  · simp only [toPy, PyData.hasDict]; exact ndL_of fun d hd => (h d hd).nd
  · simp only [toPy, PyData.depth]
    have := dpL_of fun d hd => (h d hd).dp
    omega
  · simp only [toPy, PyData.shown]
    have h1 := lnL_of fun d hd => (h d hd).ln
    have h2 := join_le (PyData.shownAll (toPys ds))
    unfold tupleText
    rw [strLen_append, strLen_append]
    have e1 : (("(" : String) : Str).length = 1 := by decide
    have e2 : ((if (PyData.shownAll (toPys ds)).length == 1 then ",)" else ")" : String) : Str).length ≤ 2 := by split <;> decide
    have e3 : ds.length * (2000 * n + 2) ≤ 2000 * (ds.length * (n + 1)) := by
      have a1 : 2000 * n + 2 ≤ 2000 * (n + 1) := by omega
      have a2 := Nat.mul_le_mul_left ds.length a1
      have a3 : ds.length * (2000 * (n + 1)) = 2000 * (ds.length * (n + 1)) := Nat.mul_left_comm _ _ _
      omega
    rw [e1]
    omega
theorem Sh.lst {k n : Nat} {ds : List D} (h : ∀ d ∈ ds, Sh k n d) : Sh (k + 1) (ds.length * (n + 1) + 1) (.lst ds) := by
  refine ⟨?_, ?_, ?_, ?_, ?_⟩
  · unfold D.pl; exact plL_of fun d hd => (h d hd).pl
  · simp only [toPy, PyData.showable]; exact shL_of fun d hd => (h d hd).sh
  · simp only [toPy, PyData.hasDict]; exact ndL_of fun d hd => (h d hd).nd
  · simp only [toPy, PyData.depth]
    have := dpL_of fun d hd => (h d hd).dp
    omega
  · simp only [toPy, PyData.shown]
    have h1 := lnL_of fun d hd => (h d hd).ln
    have h2 := textFrom_le (PyData.shownAll (toPys ds)) 0 "["
    unfold listText
    rw [strLen_append]
    have e1 : (("[" : String) : Str).length = 1 := by decide
    have e2 : (("]" : String) : Str).length = 1 := by decide
    have e3 : ds.length * (2000 * n + 2) ≤ 2000 * (ds.length * (n + 1)) := by
      have a1 : 2000 * n + 2 ≤ 2000 * (n + 1) := by omega
      have a2 := Nat.mul_le_mul_left ds.length a1
      have a3 : ds.length * (2000 * (n + 1)) = 2000 * (ds.length * (n + 1)) := Nat.mul_left_comm _ _ _
      omega
    rw [e1] at h2
    rw [e2]
    omega
theorem bd_log {q : Rat} (h : Bd 1900 q) : q.num.natAbs.log2 < 1920 ∧ ((q.den : Int)).natAbs.log2 < 1920 := by
  have h1 := log2_le_of h.1
  have h2 := log2_le_of h.2
  rw [Int.natAbs_natCast]
  omega
theorem Sh.fr {q : Rat} (h : Bd 1900 q) : Sh 1 5 (frQ q) := by
  obtain ⟨h1, h2⟩ := bd_log h
  have t := Sh.tup (k := 0) (n := 1) (ds := [.int q.num, .int (q.den : Int)]) (by
    simp only [List.mem_cons, List.not_mem_nil, or_false]
    rintro d (rfl | rfl)
    · exact Sh.int h1
    · exact Sh.int h2)
  exact t
theorem oReprD_ap {k n : Nat} {d : D} (h : Sh k n d) (hk : k ≤ 100) (hn : n ≤ 8000) (ρ : Env) (M : Mem) : oReprD [d] ρ M = some (.ok (.str (toPy d).shown), M) := by
  unfold oReprD
  dsimp only
  rw [if_pos ⟨h.pl, h.sh, h.nd, Nat.le_trans h.dp hk, by have := h.ln; omega⟩]
  rfl
/-! ### evaluation of the new parts -/
theorem oItS_lst (ds : List D) (ρ : Env) (M : Mem) : oItS (.lst ds) ρ M = some (.ok ds, M) := rfl
theorem oItS_tup (ds : List D) (ρ : Env) (M : Mem) : oItS (.tup ds) ρ M = some (.ok ds, M) := rfl
theorem oTupOf_lst (ds : List D) (ρ : Env) (M : Mem) : oTupOf [.lst ds] ρ M = some (.ok (.tup ds), M) := rfl
theorem oTupOf_tup (ds : List D) (ρ : Env) (M : Mem) : oTupOf [.tup ds] ρ M = some (.ok (.tup ds), M) := rfl
theorem oLstOf_lst (ds : List D) (ρ : Env) (M : Mem) : oLstOf [.lst ds] ρ M = some (.ok (.lst ds), M) := rfl
theorem oLstOf_tup (ds : List D) (ρ : Env) (M : Mem) : oLstOf [.tup ds] ρ M = some (.ok (.lst ds), M) := rfl
theorem oTupOf_ptr {n : Nat} {ds : List D} (ρ : Env) {M : Mem} (h : M[n]? = some (some ds)) : oTupOf [.ptr n] ρ M = some (.ok (.tup ds), M) := by
  unfold oTupOf oSq seqOf
  dsimp only
  rw [h]
theorem oRv_lst (ds : List D) (ρ : Env) (M : Mem) : oRv (.lst ds) ρ M = some (.ok (.lst ds.reverse), M) := rfl
theorem oRv_tup (ds : List D) (ρ : Env) (M : Mem) : oRv (.tup ds) ρ M = some (.ok (.tup ds.reverse), M) := rfl
theorem oAdd_tup (a b : List D) (ρ : Env) (M : Mem) (h : a.length + b.length ≤ 16777216) : oAdd (.tup a) (.tup b) ρ M = some (.ok (.tup (a ++ b)), M) := by
  unfold oAdd
  dsimp only
  rw [if_pos h]; rfl
theorem dChain_ap (f g h : Ev D) (o o' : D → D → Ev D) (ρ : Env) (M : Mem) : dChain f g h o o' ρ M = bindR (f ρ M) fun x M1 => bindR (g ρ M1) fun y M2 => bindR (o x y ρ M2) fun z M3 => bindR (asB z ρ M3) fun k M4 => if k = true then bindR (h ρ M4) fun w M5 => o' y w ρ M5 else some (.ok (.bl false), M4) := by
  unfold dChain
  simp only [bnd_ap]
  congr
  funext x M1
  congr
  funext y M2
  congr
  funext z M3
  congr
  funext k M4
  split <;> rfl
theorem oLen_ptr {n : Nat} {ds : List D} (ρ : Env) {M : Mem} (h : M[n]? = some (some ds)) : oLen [.ptr n] ρ M = some (.ok (.int ds.length), M) := by
  unfold oLen seqOf
  dsimp only
  rw [h]
theorem okPtr_ap {n : Nat} {ds : List D} (ρ : Env) {M : Mem} (h : M[n]? = some (some ds)) : okPtr (.ptr n) ρ M = some (.ok (.ptr n), M) := by
  unfold okPtr
  dsimp only
  rw [h]
theorem oApp_ap {n : Nat} {ds : List D} {d : D} (ρ : Env) {M : Mem} (h : M[n]? = some (some ds)) (hd : d.np = true) (hl : ds.length < 16777216) : oApp (.ptr n) d ρ M = some (.ok .non, M.set n (some (ds ++ [d]))) := by
  unfold oApp
  dsimp only
  rw [h]
  dsimp only
  rw [if_pos ⟨hd, hl⟩]
theorem asTru_bl (b : Bool) (ρ : Env) (M : Mem) : asTru (.bl b) ρ M = some (.ok b, M) := rfl
theorem asTru_tup (ds : List D) (ρ : Env) (M : Mem) : asTru (.tup ds) ρ M = some (.ok (!ds.isEmpty), M) := rfl
theorem asTru_lst (ds : List D) (ρ : Env) (M : Mem) : asTru (.lst ds) ρ M = some (.ok (!ds.isEmpty), M) := rfl
theorem oIsN_ap (d : D) (ρ : Env) (M : Mem) : oIsN d .non ρ M = some (.ok (.bl d.isN), M) := rfl
theorem oNotN_ap (d : D) (ρ : Env) (M : Mem) : oNotN d .non ρ M = some (.ok (.bl (!d.isN)), M) := rfl
theorem asI_ap (i : Int) (ρ : Env) (M : Mem) : asI (.int i) ρ M = some (.ok (some i), M) := rfl
theorem oSl_tup (ds : List D) (l u : Option Int) (ρ : Env) (M : Mem) : oSl (.tup ds) l u ρ M = some (.ok (.tup (cutD ds l u)), M) := rfl
theorem oSl_lst (ds : List D) (l u : Option Int) (ρ : Env) (M : Mem) : oSl (.lst ds) l u ρ M = some (.ok (.lst (cutD ds l u)), M) := rfl
theorem oZip_tup (a b : List D) (ρ : Env) (M : Mem) : oZip [.tup a, .tup b] ρ M = some (.ok (zipD a b), M) := rfl
theorem oZip_lst (a b : List D) (ρ : Env) (M : Mem) : oZip [.lst a, .lst b] ρ M = some (.ok (zipD a b), M) := rfl
theorem oAddI_ap (i j : Int) (ρ : Env) (M : Mem) : oAddI (.int i) (.int j) ρ M = some (.ok (.int (i + j)), M) := rfl
theorem sAug_ap (i : Nat) (f : Ev D) (o : D → D → Ev D) (ρ : Env) (M : Mem) (d : D) (h : ρ[i]? = some (some d)) : sAug i f o ρ M = thenR (f ρ M) ρ fun e M1 => thenR (o d e ρ M1) ρ fun z M2 => some (.nx (ρ.set i (some z)), M2) := by
  unfold sAug
  rw [h]
  rfl
/-! ### rows of plain data -/
theorem shaped_row {ds : List D} (h : ∀ d ∈ ds, (toPy d).canLay0 = true ∧ (toPy d).depth ≤ 60) : SeqAt.shaped (.list (toPys ds)) = true ∧ SeqAt.shaped (.tuple (toPys ds)) = true := by
  have h1 : PyData.canLayAll0 (toPys ds) = true := by
    induction ds with
    | nil => rfl
    | cons d ds ih =>
      simp only [toPys, PyData.canLayAll0]
      rw [(h d (by simp)).1, ih fun e he => h e (by simp [he])]
      rfl
  have h2 := dpL_of (k := 60) fun d hd => (h d hd).2
  constructor <;> (unfold SeqAt.shaped; simp only [PyData.canLay0, PyData.depth, h1, Bool.true_and]; exact decide_eq_true (by omega))
theorem fr_lay (q : Rat) : (toPy (frQ q)).canLay0 = true ∧ (toPy (frQ q)).depth ≤ 60 := ⟨rfl, by simp [frQ, toPy, toPys, PyData.depth, PyData.depthAll]⟩
theorem shaped_frs (qs : List Rat) : SeqAt.shaped (.list (toPys (qs.map frQ))) = true ∧ SeqAt.shaped (.tuple (toPys (qs.map frQ))) = true := shaped_row (by
  simp only [List.mem_map]
  rintro d ⟨q, _, rfl⟩
  exact fr_lay q)
theorem plL_frs (qs : List Rat) : plL (qs.map frQ) = true := plL_of (by
  simp only [List.mem_map]
  rintro d ⟨q, _, rfl⟩
  rfl)
theorem any_frs (q : Rat) : ∀ qs : List Rat, ((toPys (qs.map frQ)).any fun z => PyData.eqv z (toPy (frQ q))) = qs.any fun z => decide (z = q)
  | [] => rfl
  | x :: qs => by
    rw [List.map_cons, toPys, List.any_cons, any_frs q qs, eqv_fr, List.any_cons]
theorem oInD_frs (neg : Bool) (q : Rat) (qs : List Rat) (ρ : Env) (M : Mem) : oInD neg (frQ q) (.tup (qs.map frQ)) ρ M = some (.ok (.bl (if neg then !qs.any (fun z => decide (z = q)) else qs.any fun z => decide (z = q))), M) := by
  unfold oInD
  rw [if_pos ⟨rfl, plL_frs qs, shaped_fr q, (shaped_frs qs).2⟩]
  dsimp only
  rw [any_frs]
  rfl
theorem oNeM_nil {n : Nat} {qs : List Rat} (ρ : Env) {M : Mem} (h : M[n]? = some (some (qs.map frQ))) : oNeM (.ptr n) (.lst []) ρ M = some (.ok (.bl (!qs.isEmpty)), M) := by
  unfold oNeM frz
  dsimp only
  rw [h]
  dsimp only
  unfold oNe
  rw [if_pos ⟨plL_frs qs, rfl, (shaped_frs qs).1, rfl⟩]
  cases qs <;> rfl
theorem oNe_nil (ρ : Env) (M : Mem) : oNe (.lst []) (.lst []) ρ M = some (.ok (.bl false), M) := rfl
end Bw
namespace Bw
open PySem PySem.Spec PyProof.Rows L2
/-- isinstance of several built-in types -/
def kitBs (a : String) : List String → Option Bool
  | [] => some false
  | T :: l => match kitB a T with
    | some true => some true
    | some false => kitBs a l
    | none => none
theorem kit_tys {K : PySem.W.Frag} {a : String} : ∀ {l : List String} {r : Bool}, kitBs a l = some r → PySem.W.kitAny K (.type a) (l.map Value.type) = some r
  | [], r, h => h
  | T :: l, r, h => by
    unfold kitBs at h
    cases q : kitB a T with
    | none => rw [q] at h; cases h
    | some b =>
      rw [q] at h
      cases b with
      | true => cases h; exact kitAny_cons (kit_ty q) (fun z => (by cases z)) fun _ => rfl
      | false => exact kitAny_cons (kit_ty q) (fun _ => kit_tys h) fun z => (by cases z)
theorem isi_tys {K : PySem.W.Frag} {l : List String} : IsiOk K (fun t => PySem.W.kitAny K t (l.map Value.type)) (fun a => kitBs a l) (fun _ => none) := ⟨fun a b h => kit_tys h, fun x C b h => (by cases h)⟩
end Bw
/-! dicts of mixed keys: the readings -/
namespace Bw
open PySem PySem.Spec PyProof.Rows L2
/-- a value as a key -/
inductive KyV (K : PySem.W.Frag) (H : Hp) : V → NK → Prop
  | non : KyV K H .non .none
  | int (i : Int) : KyV K H (.int i) (.num i)
  | tup {a : Addr} {is : List Int} (h : SqT K H a (is.map V.int)) : KyV K H (.ref a) (.tup (is.map .num))
theorem nestedInts {h : Heap} : ∀ {is : List Int} {us : List Value}, Vals (is.map V.int) us → NestedAll h (is.map .num) us
  | [], us, r => by cases r; exact .nil
  | i :: is, us, r => by
    rw [List.map_cons] at r
    cases r with
    | cons a b =>
      obtain ⟨t, rfl⟩ := a
      exact .cons (.int i t) (nestedInts b)
theorem KyV.ky {X : Cx} {pins : List (Addr × Obj)} {σ : L2.St} {H : Hp} {s : Shared} {v : V} {k : NK} {u : Value} (I : Inv X pins σ H s) (x : KyV X.K H v k) (r : RelV v u) : KyIs s.heap k u := by
  cases x with
  | non => cases (show u = Value.none from r); exact .non
  | int i => obtain ⟨t, rfl⟩ := r; exact .int i t
  | tup q =>
    cases (show u = Value.ref _ from r)
    obtain ⟨its, rv, ⟨o, e, c, n, d⟩, _⟩ := I.tuple q
    exact .tup (.tup e c d (by simpa using nestedInts rv))
theorem KyV.mono {K : PySem.W.Frag} {G H : Hp} {v : V} {k : NK} (s : Same G H) (x : KyV K G v k) : KyV K H v k := by
  cases x with
  | non => exact .non
  | int i => exact .int i
  | tup q => exact .tup (seqT s q)
def lookV (es : VE) (k : NK) : Option (V × V) := (es.find? fun x => decide (x.1 = k)).map (·.2)
def putV (es : VE) (k : NK) (kv v : V) : VE := if (lookV es k).isSome = true then es.map (fun x => if x.1 = k then (x.1, x.2.1, v) else x) else es ++ [(k, kv, v)]
abbrev PV : VE → R3 → Prop := Paired fun (p : NK × V × V) (q : NK × Value × Value) => p.1 = q.1 ∧ RelV p.2.1 q.2.1 ∧ RelV p.2.2 q.2.2
theorem PV.look {es : VE} {rows : R3} (h : PV es rows) (k : NK) : (lookV es k = none ∧ look3 rows k = none) ∨ ∃ p q, lookV es k = some p ∧ look3 rows k = some q ∧ RelV p.1 q.1 ∧ RelV p.2 q.2 := by
  induction h with
  | nil => exact .inl ⟨rfl, rfl⟩
  | @cons p q ps qs r t ih =>
    by_cases e : p.1 = k
    · right
      refine ⟨p.2, q.2, ?_, ?_, r.2.1, r.2.2⟩
      · unfold lookV; rw [List.find?_cons_of_pos (by simpa using e)]; rfl
      · unfold look3; rw [List.find?_cons_of_pos (by simpa using r.1.symm.trans e)]; rfl
    · have e2 : ¬ q.1 = k := fun z => e (r.1.trans z)
      unfold lookV look3 at ih ⊢
      rw [List.find?_cons_of_neg (by simpa using e), List.find?_cons_of_neg (by simpa using e2)]
      exact ih
theorem PV.put {es : VE} {rows : R3} (h : PV es rows) {k : NK} {kv v : V} {ku u : Value} (rk : RelV kv ku) (rv : RelV v u) : PV (putV es k kv v) (put3 rows k ku u) := by
  unfold putV put3
  have map : PV (es.map (fun x => if x.1 = k then (x.1, x.2.1, v) else x)) (rows.map (fun x => if x.1 = k then (x.1, x.2.1, u) else x)) := by
    clear rk
    induction h with
    | nil => exact .nil
    | @cons p q ps qs r t ih =>
      rw [List.map_cons, List.map_cons]
      refine .cons ?_ ih
      by_cases e : p.1 = k
      · rw [if_pos e, if_pos (r.1.symm.trans e)]; exact ⟨r.1, r.2.1, rv⟩
      · rw [if_neg e, if_neg (fun z => e (r.1.trans z))]; exact r
  rcases PV.look h k with ⟨e1, e2⟩ | ⟨p, q, e1, e2, _⟩
  · rw [e1, e2]
    exact Paired.snoc h ⟨rfl, rk, rv⟩
  · rw [e1, e2]
    exact map
theorem length_putV (es : VE) (k : NK) (kv v : V) : (putV es k kv v).length ≤ es.length + 1 := by
  unfold putV
  split <;> simp
/-- what is known of a dict -/
structure D3 (K : PySem.W.Frag) (H : Hp) (a : Addr) (es : VE) : Prop where
  rd : Rd H a (DH a es)
  ky : ∀ p ∈ es, KyV K H p.2.1 p.1
section
variable {X : Cx} {pins : List (Addr × Obj)} {σ : L2.St} {H : Hp} {s : Shared} {a : Addr} {es : VE}
theorem PV.keys {rows : R3} (h : PV es rows) (I : Inv X pins σ H s) (ky : ∀ p ∈ es, KyV X.K H p.2.1 p.1) : ∀ x ∈ rows, KyIs s.heap x.1 x.2.1 := by
  induction h with
  | nil => intro x hx; cases hx
  | @cons p q ps qs r t ih =>
    intro x hx
    rcases List.mem_cons.mp hx with e | hx
    · subst e
      rw [← r.1]
      exact (ky p (by simp)).ky I r.2.1
    · exact ih (fun p hp => ky p (by simp [hp])) x hx
theorem D3.raw (I : Inv X pins σ H s) (d : D3 X.K H a es) : (a == sysModules) = false ∧ es.length ≤ sizeLine ∧ ∃ rows : R3, PV es rows ∧ Dic3 s.heap a rows ∧ ∀ x ∈ rows, KyIs s.heap x.1 x.2.1 := by
  obtain ⟨⟨h1, h2, rows, h3, h4⟩, _⟩ := (show ObjOk X.prog X.w H s.heap a (DH a es) from d.rd.ok I.hok)
  exact ⟨h1, h2, rows, h3, h4, PV.keys h3 I d.ky⟩
theorem DH.new {P : Program} {w : World} {H' : Hp} {h' : Heap} {es : VE} {rows : R3} (h1 : (a == sysModules) = false) (h2 : es.length ≤ sizeLine) (h3 : PV es rows) (h4 : Dic3 h' a rows) : ObjOk P w H' h' a (DH a es) := by
  refine ⟨⟨h1, h2, rows, h3, h4⟩, ?_, fun g1 g2 q k => ?_⟩
  · obtain ⟨o, _, _, e, _⟩ := h4; exact ⟨o, e⟩
  · obtain ⟨q1, q2, rows, q3, o, es, ep, e, r⟩ := q
    exact ⟨q1, q2, rows, q3, o, es, ep, k o e, r⟩
end
/-- d[y] -/
def rIx3 (K : PySem.W.Frag) : R2 := fun x y H Q => ∃ a es k p, x = .ref a ∧ D3 K H a es ∧ KyV K H y k ∧ lookV es k = some p ∧ Q p.2 H
/-- y in d -/
def rIn3 (K : PySem.W.Frag) : R2 := fun y x H Q => ∃ a es k, x = .ref a ∧ D3 K H a es ∧ KyV K H y k ∧ Q (.bl (lookV es k).isSome) H
/-- d[y] = v -/
def rSet3 (K : PySem.W.Frag) : TSet := fun o i v H Q => ∃ a es k, o = .ref a ∧ H a = some (DH a es) ∧ (∀ p ∈ es, KyV K H p.2.1 p.1) ∧ KyV K H i k ∧ es.length < sizeLine ∧ Q (upd H a (DH a (putV es k i v)))
/-- d.get(y, z) -/
def tGet3 (K : PySem.W.Frag) (td ty tx : TE) : TE := fun σ H Q => td σ H fun x H1 => ∃ a es, x = .ref a ∧ D3 K H1 a es ∧ ty σ H1 fun y H2 => tx σ H2 fun z H3 => ∃ es3 k, D3 K H3 a es3 ∧ KyV K H3 y k ∧ Q (((lookV es3 k).map (·.2)).getD z) H3
section
variable {X : Cx} {o i e f : Expr} {pos apos cpos : Pos} {td ty tx : TE}
theorem units3 {A : Around} (hu : A.units + 64 < cLine) : A.in1.units + 8 < cLine := by
  show A.units + 1 + 8 < cLine
  omega
theorem ix_dic (hu : X.A.units + 64 < cLine) : IxR X (rIx3 X.K) := by
  intro value slice pins s σ H x y v u Q I rx ry h hs
  obtain ⟨a, es, k, p, rfl, d, ky, l, q⟩ := h
  cases rx
  obtain ⟨_, _, rows, h3, h4, h5⟩ := d.raw I
  rcases PV.look h3 k with ⟨l1, _⟩ | ⟨p', q', l1, l2, _, r2⟩
  · rw [l] at l1; cases l1
  · rw [l] at l1; cases l1
    have fin : ∀ s', Inv X pins σ H s' → EP X pins σ Q q'.2 s' := fun s' I' => ⟨p.2, H, I', r2, q⟩
    exact subscriptTail_builtinR (x := q'.2) h4.ty PySem.F.slot_dict_getitem.lookup
      (item3 (Q := fun r s' => r = q'.2 ∧ EP X pins σ Q r s') (units3 hu) (ky.ky I ry) h4 h5 l2 ⟨rfl, fin _ (I.tok _)⟩) hs
theorem op_in3 (hu : X.A.units + 64 < cLine) : OpR X (compareOp .In) (rIn3 X.K) := by
  intro pins s σ H y x u v Q I ry rx h
  obtain ⟨a, es, k, rfl, d, ky, q⟩ := h
  cases rx
  obtain ⟨h1, _, rows, h3, h4, h5⟩ := d.raw I
  refine in3 (units3 hu) (ky.ky I ry) h1 h4 h5 ⟨.bl (look3 rows k).isSome, H, I.tok _, rfl, ?_⟩
  rcases PV.look h3 k with ⟨l1, l2⟩ | ⟨p', q', l1, l2, _⟩
  · rw [l1] at q; rw [l2]; exact q
  · rw [l1] at q; rw [l2]; exact q
theorem set_dic (hu : X.A.units + 64 < cLine) : PSet X (rSet3 X.K) := by
  intro pins s σ H o i v ov iv u Q I ro ri rv h
  obtain ⟨a, es, k, rfl, ha, kys, ky, hl, q⟩ := h
  cases (show ov = Value.ref a from ro)
  have d : D3 X.K H a es := ⟨.inl ha, kys⟩
  obtain ⟨h1, h2, rows, h3, h4, h5⟩ := d.raw I
  have len : rows.length ≤ sizeLine := by rw [← Paired.length h3]; exact h2
  refine setItem3 (units3 hu) (ky.ky I ri) h4 h5 len fun h' m b => ⟨_, ?_, q⟩
  have e : ∃ z, h'.get? a = some z := let ⟨z, _, _, hz, _⟩ := m; ⟨z, hz⟩
  have l2 : (putV es k i v).length ≤ sizeLine := by have := length_putV es k i v; omega
  exact d_write I (by rw [ha]; exact True.intro) b e (DH.new h1 l2 (PV.put h3 ri rv) m)
theorem pe_get3 (hu : X.A.units + 64 < cLine) (ho : PE X o td) (he : PE X e ty) (hf : PE X f tx) (m : M2 X o "get" apos e f cpos) : PE X (.Call (.Attribute o "get" apos) [e, f] [] cpos) (tGet3 X.K td ty tx) := by
  refine ⟨fun pins s σ H Q I h => ?_⟩
  refine wpAny_Call_method m.base m.few m.line PySem.F.plainAttrs_dict PySem.F.slot_dict_get PySem.F.type_dict_get (thn (ho.run pins s σ H _ I h) fun u s1 ⟨x, H1, I1, rx, a, es, ex, d, q1⟩ => ?_)
  subst ex
  obtain rfl : u = Value.ref a := rx
  obtain ⟨h1, _, rows, h3, h4, h5⟩ := d.raw I1
  refine ⟨h4.ty, fun b q => ?_, ?_⟩
  · cases q
    obtain ⟨ob, _, _, g1, g2, _⟩ := h4
    exact ⟨ob, g1, g2.2.1⟩
  rw [m.trees]
  refine get3_call (units3 hu) h1 (thn (he.run pins s1 σ H1 _ I1 q1) fun iv s2 ⟨y, H2, I2, ry, q2⟩ => thn (hf.run pins s2 σ H2 _ I2 q2) fun fv s3 ⟨z, H3, I3, rz, es3, k, d3, ky, q3⟩ => ?_)
  obtain ⟨_, _, rows3, g3, g4, g5⟩ := d3.raw I3
  refine ⟨k, rows3, ky.ky I3 ry, g4, g5, _, H3, I3.tok _, ?_, q3⟩
  rcases PV.look g3 k with ⟨l1, l2⟩ | ⟨p', q', l1, l2, _, r2⟩
  · rw [l1, l2]; exact rz
  · rw [l1, l2]; exact r2
theorem pe_new3 : PE X (.Dict [] [] pos) (fun _ H Q => ∀ p, H p = none → Q (.ref p) (upd H p (DH p []))) := ⟨fun pins s σ H Q I h =>
  wpAny_Dict_empty ⟨.ref s.heap.objs.size, _, I.laid (a := s.heap.objs.size) (o := DH s.heap.objs.size []) (t' := s.toks) (fun _ _ q => Heap.get?_push_of_some _ q) (Nat.le_refl _)
    (DH.new (rows := []) (beq_eq_false_iff_ne.mpr (Ne.symm (Nat.ne_of_lt I.big))) (Nat.zero_le _) .nil ⟨_, #[], 0, Heap.get?_push_size _ rfl, ⟨rfl, rfl, rfl⟩, rfl, rfl, List.nodup_nil⟩), rfl, h _ (I.hok.fresh (Nat.le_refl _))⟩⟩
end
/-! ### for y in d -/
/-- the keys of the locked dict -/
def Itk3 (d : Addr) (o : Obj) (es : VE) : It :=
  ⟨fun i H => H d = some (.frz o (DH d es)) ∧ i < es.length, fun i H x H' => H' = H ∧ ∃ k v, es[i]? = some (k, x, v), fun i H => H d = some (.frz o (DH d es)) ∧ es.length ≤ i⟩
theorem frz3 {X : Cx} {pins : List (Addr × Obj)} {σ : L2.St} {H : Hp} {s : Shared} {d : Addr} {o : Obj} {es : VE} (I : Inv X pins σ H s) (h : H d = some (.frz o (DH d es))) :
    (d == sysModules) = false ∧ s.heap.get? d = some o ∧ o.ExactDict ∧ ∃ (en : Array DictEntry) (ep : Nat), o.data = .dict en ep ∧ en.size = es.length ∧ ∀ (i : Nat) (p : NK × V × V), es[i]? = some p → ∃ z : DictEntry, en[i]? = some z ∧ RelV p.2.1 z.key := by
  obtain ⟨hd, ⟨h1, h2, rows, h3, o', en, ep, go, ex, dd, q, nd⟩, _⟩ := I.hok d _ h
  rw [hd] at go
  cases go
  refine ⟨h1, hd, ex, en, ep, dd, by rw [ent3_size q, Paired.length h3], fun i p e => ?_⟩
  obtain ⟨b, hb, r⟩ := paired_get h3 e
  exact ⟨ent3 b, by rw [ent3_at q i, hb]; rfl, r.2.1⟩
section
variable {P : Program} {w : World} {K : PySem.W.Frag} {tg : Expr} {d : Addr} {o : Obj} {en : Array DictEntry} {ep : Nat}
theorem turn3 {es : VE} (it : Addr) (hod : o.data = .dict en ep) : Turn P w K tg (Itk3 d o es) [it] it (fun i h => h.IsKeyIter it d i es.length ep) where
  mem := by simp
  obj := fun i h st b hb => by
    have e : b = it := by simpa using hb
    subst e
    obtain ⟨oi, e, c, z⟩ := st
    exact ⟨oi, e, fun v y => by rw [z] at y; cases y⟩
  keep := fun i h h' st k => st.at fun oi e => k it (by simp) oi e
  item := by
    intro X hP hw hK hc i pins s σ H E I hf st hg
    subst hP hw hK
    obtain ⟨gd, hi⟩ := hg
    obtain ⟨f0, f1, f2, f3, f4, f5⟩ := hf it (by simp)
    obtain ⟨h1, h2, h3, en', ep', h4, h5, h6⟩ := frz3 I gd
    obtain ⟨rfl, rfl⟩ := dict_ep hod h4
    obtain ⟨⟨k, kv, v⟩, e⟩ : ∃ p, es[i]? = some p := ⟨es[i], List.getElem?_eq_getElem hi⟩
    obtain ⟨z, hz, rz⟩ := h6 i _ e
    refine next_key_item st h2 h4 h5 hz fun h' st' sb => ?_
    have I1 : Inv X pins σ H { s with heap := h' } := I.turned (t' := s.toks) (fun b ob hb y => (sb.2 b hb).trans y) f0 f1 f3 f4 f5
    obtain ⟨oi, y1, y2, y3⟩ := id st'
    exact ⟨z.key, rfl, go_of (s := { s with heap := h' }) y1 y2 y3 (by decide) ⟨kv, H, I1, rz, ⟨rfl, k, v, e⟩, st', fun b hb => (hf b hb).1⟩⟩
  done := by
    intro X hP hw hK hc i pins s σ H E I hf st hg
    subst hP hw hK
    obtain ⟨gd, hi⟩ := hg
    obtain ⟨f0, f1, f2, f3, f4, f5⟩ := hf it (by simp)
    obtain ⟨h1, h2, h3, en', ep', h4, h5, h6⟩ := frz3 I gd
    obtain ⟨rfl, rfl⟩ := dict_ep hod h4
    exact next_key_end (I.ok.hd hc) st h2 h4 h5 hi fun h' y => ⟨rfl, I.turned (t' := s.toks) (fun b ob hb z => y b ob hb z) f0 f1 f3 f4 f5⟩
  self := fun A i s Q E st h => wpAny_pyIter_keyiter st h
end
def iKeys3 (td : TE) : TI := fun σ H R => td σ H fun x H1 => ∃ d o es, x = .ref d ∧ H1 d = some (.frz o (DH d es)) ∧ R (Itk3 d o es) H1
theorem pi_keys3 {X : Cx} {tg e : Expr} {td : TE} (he : PE X e td) : PI X tg e (iKeys3 td) := by
  refine ⟨fun pins s σ H R I h => ?_⟩
  refine thn (he.run pins s σ H _ I h) fun u s1 ⟨x, H1, I1, rx, d, o, es, ex, gd, q⟩ => ?_
  subst ex
  obtain rfl : u = Value.ref d := rx
  obtain ⟨h1, h2, h3, en, ep, h4, h5, h6⟩ := frz3 I1 gd
  refine iter_keys h1 h2 h3 h4 (pi_one (tk := s1.toks) I1 _ (turn3 _ h4) ⟨_, Heap.get?_push_size _ rfl, rfl, ?_⟩ q)
  rw [h5] <;> rfl
end Bw
/-! dicts, by data -/
namespace Bw
open PySem PySem.Spec PyProof.Rows L2
def decs : List D → Option DEs
  | [] => some []
  | .tup [k, v] :: r => (decs r).map ((k, v) :: ·)
  | _ :: _ => none
def dec (ds : List D) : Option (Bool × DEs) := match ds with
  | .bl b :: r => (decs r).map (b, ·)
  | _ => none
theorem decs_of : ∀ {ds : List D} {es : DEs}, decs ds = some es → ds = es.map fun q => D.tup [q.1, q.2]
  | [], es, h => by cases h; rfl
  | d :: r, es, h => by
    unfold decs at h
    split at h
    · rename_i h0; cases h0
    · rename_i k v r' e0
      cases e0
      cases q : decs r with
      | none => rw [q] at h; cases h
      | some ps => rw [q] at h; cases h; rw [List.map_cons, decs_of q]
    · cases h
theorem dec_of {ds : List D} {b : Bool} {es : DEs} (h : dec ds = some (b, es)) : ds = enc b es := by
  unfold dec at h
  split at h
  · rename_i c r
    cases q : decs r with
    | none => rw [q] at h; cases h
    | some ps => rw [q] at h; cases h; unfold enc; rw [decs_of q]
  · cases h
theorem decs_enc : ∀ es : DEs, decs (es.map fun q => D.tup [q.1, q.2]) = some es
  | [] => rfl
  | p :: es => by rw [List.map_cons, decs, decs_enc es]; rfl
theorem dec_enc (b : Bool) (es : DEs) : dec (enc b es) = some (b, es) := by
  unfold enc dec
  dsimp only
  rw [decs_enc]; rfl
def dicOf (d : D) (M : Mem) : Option (Nat × Bool × DEs) := match d with
  | .dpt n => match M[n]? with
    | some (some ds) => (dec ds).map (n, ·)
    | _ => none
  | _ => none
section
variable {K : PySem.W.Frag} {θ : List Th} {G H : Hp} {M : Mem} {v : V} {d : D} {n : Nat} {b : Bool} {es : DEs}
theorem dic_of (rs : Rs K θ G H M) (hv : Rv K θ G v d) (h : dicOf d M = some (n, b, es)) : ∃ a xs, v = .ref a ∧ θ[n]? = some (a, .dic) ∧ M[n]? = some (some (enc b es)) ∧ DicAt G H a b xs ∧ RpE K G xs es := by
  unfold dicOf at h
  split at h
  · rename_i m
    split at h
    · rename_i ds hm
      cases q : dec ds with
      | none => rw [q] at h; cases h
      | some z =>
        rw [q] at h
        cases h
        cases hv with
        | dat hv => cases hv
        | dpt hn =>
          rw [dec_of q] at hm
          obtain ⟨xs, h1, h2⟩ := rs.dic _ _ b es hn hm
          exact ⟨_, xs, rfl, hn, hm, h1, h2⟩
    · cases h
  · cases h
theorem ints_of : ∀ {ds : List D} {is : List Int}, intsD ds = some is → ds = is.map D.int
  | [], is, h => by cases h; rfl
  | d :: r, is, h => by
    unfold intsD at h
    split at h
    · rename_i h0; cases h0
    · rename_i i r' e0
      cases e0
      cases q : intsD r with
      | none => rw [q] at h; cases h
      | some ps => rw [q] at h; cases h; rw [List.map_cons, ints_of q]
    · cases h
theorem rpl_ints : ∀ {is : List Int} {xs : List V}, RpL K G xs (is.map D.int) → xs = is.map V.int
  | [], xs, r => r.nil_of
  | i :: is, xs, r => by
    rw [List.map_cons] at r
    obtain ⟨w, ys, rfl, h1, h2⟩ := r.uncons
    cases h1
    rw [List.map_cons, rpl_ints h2]
theorem ky_of {k : NK} (h : Rp K G v d) (e : keyN d = some k) : KyV K G v k := by
  cases h with
  | non => cases e; exact .non
  | int i => cases e; exact .int i
  | @tup a xs ds h l g =>
    unfold keyN at e
    dsimp only at e
    cases q : intsD ds with
    | none => rw [q] at e; cases e
    | some is =>
      rw [q] at e
      cases e
      have e2 := ints_of q
      subst e2
      have e3 := rpl_ints ⟨l, g⟩
      subst e3
      exact .tup h
  | _ => cases e
def lookD (es : DEs) (k : NK) : Option D := (es.find? fun p => decide (keyN p.1 = some k)).map (·.2)
def putD (es : DEs) (k : NK) (kd x : D) : DEs := if (lookD es k).isSome = true then es.map (fun p => if keyN p.1 = some k then (p.1, x) else p) else es ++ [(kd, x)]
theorem RpE.look {xs : VE} (h : RpE K G xs es) (k : NK) : (lookV xs k = none ∧ lookD es k = none) ∨ ∃ p x, lookV xs k = some p ∧ lookD es k = some x ∧ Rp K G p.2 x := by
  unfold RpE at h
  induction h with
  | nil => exact .inl ⟨rfl, rfl⟩
  | @cons p q ps qs r t ih =>
    by_cases e : p.1 = k
    · right
      refine ⟨p.2, q.2, ?_, ?_, r.2.2⟩
      · unfold lookV; rw [List.find?_cons_of_pos (by simpa using e)]; rfl
      · unfold lookD; rw [List.find?_cons_of_pos (by rw [r.1, e]; simp)]; rfl
    · unfold lookV lookD at ih ⊢
      rw [List.find?_cons_of_neg (by simpa using e), List.find?_cons_of_neg (by rw [r.1]; simpa using e)]
      exact ih
theorem RpE.put {xs : VE} (h : RpE K G xs es) {k : NK} {kv u : V} {kd x : D} (e : keyN kd = some k) (rk : Rp K G kv kd) (rv : Rp K G u x) : RpE K G (putV xs k kv u) (putD es k kd x) := by
  unfold putV putD
  have map : RpE K G (xs.map (fun x => if x.1 = k then (x.1, x.2.1, u) else x)) (es.map (fun p => if keyN p.1 = some k then (p.1, x) else p)) := by
    unfold RpE at h ⊢
    clear rk e
    induction h with
    | nil => exact .nil
    | @cons p q ps qs r t ih =>
      rw [List.map_cons, List.map_cons]
      refine .cons ?_ ih
      by_cases e : p.1 = k
      · rw [if_pos e, if_pos (by rw [r.1, e])]; exact ⟨r.1, r.2.1, rv⟩
      · rw [if_neg e, if_neg (by rw [r.1]; simpa using e)]; exact r
  rcases h.look k with ⟨e1, e2⟩ | ⟨p, q, e1, e2, _⟩
  · rw [e1, e2]
    exact Paired.snoc h ⟨e, rk, rv⟩
  · rw [e1, e2]
    exact map
theorem RpE.keys {xs : VE} (h : RpE K G xs es) : ∀ p ∈ xs, KyV K G p.2.1 p.1 := by
  unfold RpE at h
  induction h with
  | nil => intro p hp; cases hp
  | @cons p q ps qs r t ih =>
    intro z hz
    rcases List.mem_cons.mp hz with e | hz
    · subst e; exact ky_of r.2.1 r.1
    · exact ih z hz
theorem DicAt.d3 {a : Addr} {xs : VE} (rs : Rs K θ G H M) (h : DicAt G H a b xs) (r : RpE K G xs es) : D3 K H a xs := by
  refine ⟨?_, fun p hp => (r.keys p hp).mono rs.sub⟩
  unfold DicAt at h
  cases b with
  | true => obtain ⟨o, h⟩ := h; exact .inr ⟨o, rs.sub _ _ h⟩
  | false => exact .inl h.2
end
/-- d[y] -/
def oDIx (d e : D) : Ev D := fun _ M => match dicOf d M, keyN e with
  | some (_, _, es), some k => match lookD es k with
    | some x => some (.ok x, M)
    | none => none
  | _, _ => none
def oDIn (e d : D) : Ev D := fun _ M => match dicOf d M, keyN e with
  | some (_, _, es), some k => some (.ok (.bl (lookD es k).isSome), M)
  | _, _ => none
def okDic (d : D) : Ev D := fun _ M => match dicOf d M with
  | some _ => some (.ok d, M)
  | none => none
def oDGt (d e z : D) : Ev D := fun _ M => match dicOf d M, keyN e with
  | some (_, _, es), some k => if z.np = true then some (.ok ((lookD es k).getD z), M) else none
  | _, _ => none
def oDNew : Ev D := fun _ M => some (.ok (.dpt M.length), M ++ [some (enc false [])])
def sDPut (f fo fi : Ev D) : Sv := thenS f fun x => thenS fo fun o => thenS fi fun i => fun ρ M => match dicOf o M, keyN i with
  | some (n, false, es), some k => if x.np = true ∧ i.np = true ∧ es.length < 16777216 then some (.nx ρ, M.set n (some (enc false (putD es k i x)))) else none
  | _, _ => none
section
variable {X : Cx} {W : WN} {pos : Pos} {K : PySem.W.Frag}
theorem key_np {e : D} {k : NK} (h : keyN e = some k) : e.np = true := by cases e <;> first | rfl | cases h
theorem snd_dix : SndO K W (rIx3 K) oDIx := by
  intro θ0 G0 x y d e hx hy ρ M r M' θ G σ H Q p s ee rs rv kk
  unfold oDIx at ee
  split at ee
  · rename_i n b es k h1 h2
    obtain ⟨a, xs, rfl, _, _, da, re⟩ := dic_of rs (hx.mono p s) h1
    have ky := ky_of ((hy.mono p s).rp (key_np h2)) h2
    split at ee
    · rename_i x hl
      cases ee
      rcases re.look k with ⟨l1, l2⟩ | ⟨p', q', l1, l2, r2⟩
      · rw [l2] at hl; cases hl
      · rw [l2] at hl; cases hl
        exact ⟨a, xs, k, p', rfl, da.d3 rs re, ky.mono rs.sub, l1, (kk θ G H (List.prefix_refl _) (Same.refl _) rs).2 _ _ rfl (.dat r2)⟩
    · cases ee
  · cases ee
theorem de_dix {a i : Expr} {f g : Ev D} (hu : X.A.units + 64 < cLine) (ha : DE X W a f) (hb : DE X W i g) (hs : PlainIx i := by intro _ _; rfl) : DE X W (.Subscript a i pos) (bnd f fun d => bnd g fun e => oDIx d e) := by
  obtain ⟨ta, pa, sa⟩ := ha
  obtain ⟨tb, pb, sb⟩ := hb
  exact ⟨_, pe_ix (ix_dic hu) pa pb hs, fun θ G => snd_op snd_dix sa sb⟩
theorem snd_din : SndO K W (rIn3 K) oDIn := by
  intro θ0 G0 y x e d hy hx ρ M r M' θ G σ H Q p s ee rs rv kk
  unfold oDIn at ee
  split at ee
  · rename_i n b es k h1 h2
    obtain ⟨a, xs, rfl, _, _, da, re⟩ := dic_of rs (hx.mono p s) h1
    have ky := ky_of ((hy.mono p s).rp (key_np h2)) h2
    cases ee
    refine ⟨a, xs, k, rfl, da.d3 rs re, ky.mono rs.sub, (kk θ G H (List.prefix_refl _) (Same.refl _) rs).2 _ _ rfl ?_⟩
    rcases re.look k with ⟨l1, l2⟩ | ⟨p', q', l1, l2, r2⟩
    · rw [l1, l2]; exact rv_bl
    · rw [l1, l2]; exact rv_bl
  · cases ee
theorem de_din {a b : Expr} {f g : Ev D} (hu : X.A.units + 64 < cLine) (ha : DE X W a f) (hb : DE X W b g) (hm : behindInMarks .In b = false := by rfl) : DE X W (.Compare a [.In] [b] pos) (bnd f fun d => bnd g fun e => oDIn d e) := de_cmp (op_in3 hu) snd_din ha hb hm
theorem dt_din {a b : Expr} {f g : Ev D} (hu : X.A.units + 64 < cLine) (ha : DE X W a f) (hb : DE X W b g) (hm : behindInMarks .In b = false := by rfl) : DT X W (.Compare a [.In] [b] pos) (bnd (bnd f fun d => bnd g fun e => oDIn d e) asB) := dt_cmp (op_in3 hu) snd_din ha hb hm
theorem de_dnew : DE X W (.Dict [] [] pos) oDNew := by
  refine ⟨_, pe_new3, fun θ0 G0 ρ M r M' θ G σ H Q p s e rs rv kk => ?_⟩
  unfold oDNew at e
  cases e
  intro a ha
  refine (kk (θ ++ [(a, .dic)]) G _ (List.prefix_append _ _) (Same.refl _) (rs.laidD ha)).2 _ _ rfl (.dpt ?_)
  rw [← rs.len, List.getElem?_append_right (Nat.le_refl _), Nat.sub_self]
  rfl
/-- d.get(y, z) -/
theorem de_dget {o e f : Expr} {apos : Pos} {fo fe ff : Ev D} (hu : X.A.units + 64 < cLine) (ho : DE X W o fo) (he : DE X W e fe) (hf : DE X W f ff)
    (hbase : attributeBase o "get" X.env (eval o X.env) = eval o X.env := by rfl)
    (hfew : ((backTo pos (starEach [e, f] X.env)).all (fun x => !x.1) && (backToKw pos (keywordEach [] X.env)).all (fun x => x.1.isSome)
      && decide (([e, f] : List Expr).length + ([] : List Keyword).length + (if ([] : List Keyword).isEmpty then 0 else 1) < 30)) = true := by rfl)
    (hline : (apos.endLine == pos.line) = true := by rfl) (hs : backTo pos (starEach [e, f] X.env) = [(false, eval e X.env), (false, eval f X.env)] := by rfl) :
    DE X W (.Call (.Attribute o "get" apos) [e, f] [] pos) (bnd fo fun d => bnd (okDic d) fun d => bnd fe fun y => bnd ff fun z => oDGt d y z) := by
  obtain ⟨to, po, so⟩ := ho
  obtain ⟨te, pe, se⟩ := he
  obtain ⟨tf, pf, sf⟩ := hf
  refine ⟨_, pe_get3 hu po pe pf ⟨hbase, hfew, hline, hs⟩, fun θ G => ?_⟩
  refine (so θ G).bind (R2 := RV X.K) (k := fun (x : V) (σ : L2.St) (H1 : Hp) (Q : V → Hp → Prop) => ∃ a es, x = .ref a ∧ D3 X.K H1 a es ∧ te σ H1 fun y H2 => tf σ H2 fun z H3 => ∃ es3 k, D3 X.K H3 a es3 ∧ KyV X.K H3 y k ∧ Q (((lookV es3 k).map (·.2)).getD z) H3) fun θ1 G1 v d _ _ hv => ?_
  intro ρ M r M' θ2 G2 σ H Q p2 s2 e rs rv kk
  cases q : dicOf d M with
  | none => unfold bnd okDic at e; rw [q] at e; cases e
  | some z =>
    obtain ⟨n, b, es⟩ := z
    obtain ⟨a, xs, rfl, hn, _, da, re⟩ := dic_of rs (hv.mono p2 s2) q
    refine ⟨a, xs, rfl, da.d3 rs re, ?_⟩
    have e' : bnd fe (fun y => bnd ff fun z => oDGt d y z) ρ M = some (r, M') := by
      have : bnd (okDic d) (fun d => bnd fe fun y => bnd ff fun z => oDGt d y z) ρ M = bnd fe (fun y => bnd ff fun z => oDGt d y z) ρ M := by
        rw [bnd_ap]
        have ok : okDic d ρ M = some (.ok d, M) := by unfold okDic; rw [q]
        rw [ok, bindR_ok]
      rw [← this]; exact e
    have h1 := (se θ2 G2).bind (R2 := RV X.K) (g := fun y => bnd ff fun z => oDGt d y z) (k := fun (y : V) (σ : L2.St) (H2 : Hp) (Q : V → Hp → Prop) => tf σ H2 fun z H3 => ∃ es3 k, D3 X.K H3 a es3 ∧ KyV X.K H3 y k ∧ Q (((lookV es3 k).map (·.2)).getD z) H3) fun θ3 G3 y ky p3 s3 hy => by
      refine (sf θ3 G3).bind (R2 := RV X.K) (k := fun (z : V) (σ : L2.St) (H3 : Hp) (Q : V → Hp → Prop) => ∃ es3 k, D3 X.K H3 a es3 ∧ KyV X.K H3 y k ∧ Q (((lookV es3 k).map (·.2)).getD z) H3) fun θ4 G4 z dz p4 s4 hz => ?_
      intro ρ M r M' θ5 G5 σ H Q p5 s5 e rs rv kk
      unfold oDGt at e
      split at e
      · rename_i n b es k h1 h2
        obtain ⟨a', xs, ea, _, _, da, re⟩ := dic_of rs (hv.mono ((p2.trans p3).trans (p4.trans p5)) ((s2.trans s3).trans (s4.trans s5))) h1
        cases ea
        have ky2 := ky_of ((hy.mono (p4.trans p5) (s4.trans s5)).rp (key_np h2)) h2
        split at e
        · rename_i hnp
          cases e
          refine ⟨xs, k, da.d3 rs re, ky2.mono rs.sub, (kk θ5 G5 H (List.prefix_refl _) (Same.refl _) rs).2 _ _ rfl ?_⟩
          rcases re.look k with ⟨l1, l2⟩ | ⟨p', q', l1, l2, r2⟩
          · rw [l1, l2]; exact hz.mono p5 s5
          · rw [l1, l2]; exact .dat r2
        · cases e
      · cases e
    exact h1 ρ M r M' θ2 G2 σ H Q (List.prefix_refl _) (Same.refl _) e' rs rv kk
/-- d[y] = x -/
theorem ds_dput {o i e : Expr} {f fo fi : Ev D} {spos : Pos} (hu : X.A.units + 64 < cLine) (he : DE X W e f) (ho : DE X W o fo) (hi : DE X W i fi)
    (ha : ∀ v, assign (.Subscript o i pos) X.env v = (do
      let ov ← holding [v] (eval o X.env)
      let iv ← holding [v, ov] (eval i X.env)
      standAt pos
      holding [v, ov, iv] (setItem ov iv v)
      release [v, ov, iv] []) := by intro _; rfl)
    (hs : swapsWithSole [.Subscript o i pos] e spos.line X.env = pure false := by rfl) (hw : swappedStores [.Subscript o i pos] e X.env = pure none := by rfl)
    (h1 : (assignEach [.Subscript o i pos] X.env).map (·.2) = [assign (.Subscript o i pos) X.env] := by rfl) : DS X W (.Assign [.Subscript o i pos] e spos) (sDPut f fo fi) := by
  obtain ⟨t, p, s⟩ := he
  obtain ⟨to, po, so⟩ := ho
  obtain ⟨ti, pi, si⟩ := hi
  refine ⟨_, ps_asg p (pg_sub po pi (set_dic hu) ha) hs hw h1, ?_⟩
  unfold sDPut
  refine snd_then (k := fun v (Dn : Ends) σ H1 => to σ H1 fun o H1 => ti σ H1 fun i H2 => rSet3 X.K o i v H2 fun H3 => Dn.nx σ H3) s fun θ G v x hv ρ M o M' σ H Dn e rs rv kk => ?_
  refine snd_then' (θ0 := θ) (G0 := G) (k := fun o (Dn : Ends) σ H1 => ti σ H1 fun i H2 => rSet3 X.K o i v H2 fun H3 => Dn.nx σ H3) so (fun θ1 G1 vo d p1 s1 hvo ρ M o M' σ H Dn e rs rv kk => ?_) ρ M o M' θ G σ H Dn (List.prefix_refl _) (Same.refl _) e rs rv kk
  refine snd_then' (θ0 := θ1) (G0 := G1) (k := fun i (Dn : Ends) σ H2 => rSet3 X.K vo i v H2 fun H3 => Dn.nx σ H3) si (fun θ2 G2 vi y p2 s2 hvi ρ M o M' σ H Dn e rs rv kk => ?_) ρ M o M' θ1 G1 σ H Dn (List.prefix_refl _) (Same.refl _) e rs rv kk
  split at e
  · rename_i n es k h2 h3
    split at e
    · rename_i hc
      cases e
      obtain ⟨a, xs, rfl, hn, hm, da, re⟩ := dic_of rs (hvo.mono p2 s2) h2
      have hy := hvi.rp hc.2.1
      have hx := (hv.mono (p1.trans p2) (s1.trans s2)).rp hc.1
      refine ⟨a, xs, k, rfl, da.2, fun p hp => (re.keys p hp).mono rs.sub, (ky_of hy h3).mono rs.sub, by rw [Paired.length re, sizeLine_eq]; exact hc.2.2, ?_⟩
      exact (kk θ2 G2 _ (List.prefix_refl _) (Same.refl _) (rs.putT hn da.1 (fun ds e => by cases e) (fun b es' _ e => by
        obtain ⟨e1, e2⟩ := enc_inj (Option.some.inj e)
        subst e1; subst e2
        exact ⟨rfl, _, rfl, re.put h3 hy hx⟩) fun ds e => by cases e)).nx ρ σ rfl rv
    · cases e
  · cases e
end
end Bw
/-! dicts walked -/
namespace Bw
open PySem PySem.Spec PyProof.Rows L2
def del (G : Hp) (a : Addr) : Hp := fun b => if b = a then none else G b
theorem del_ne {G : Hp} {a b : Addr} (h : b ≠ a) : del G a b = G b := if_neg h
theorem del_same {G : Hp} {a : Addr} : del G a a = none := if_pos rfl
section
variable {K : PySem.W.Frag} {G H : Hp} {a : Addr} {o : Obj} {xs : VE}
theorem Rp.del {v : V} {d : D} (h : Rp K G v d) (e : G a = some (.frz o (DH a xs))) : Rp K (del G a) v d := by
  have ne : ∀ {b : Addr} {u : HO}, G b = some u → (∀ o' : Obj, u ≠ .frz o' (DH a xs)) → b ≠ a := fun {b u} q n z => by
    subst z
    rw [e] at q
    cases q
    exact n _ rfl
  induction h with
  | non => exact .non
  | bl b => exact .bl b
  | int i => exact .int i
  | str z => exact .str z
  | tup h l _ ih =>
    refine .tup ?_ l ih
    rcases h with (h | ⟨o', h⟩) | h
    · exact .inl (.inl (by rw [del_ne (ne h fun _ z => by cases z)]; exact h))
    · exact .inl (.inr ⟨o', by rw [del_ne (ne h fun _ z => by cases z)]; exact h⟩)
    · exact .inr h
  | lst h l _ ih => exact .lst (by rw [del_ne (ne h fun _ z => by cases z)]; exact h) l ih
  | scr h l _ ih =>
    refine .scr ?_ l ih
    rcases h with (h | ⟨o', h⟩) | h
    · exact .inl (.inl (by rw [del_ne (ne h fun _ z => by cases z)]; exact h))
    · exact .inl (.inr ⟨o', by rw [del_ne (ne h fun _ z => by cases z)]; exact h⟩)
    · exact .inr h
  | emp h => exact .emp (by rw [del_ne (ne h fun _ z => by cases z)]; exact h)
theorem Rv.del {θ : List Th} {v : V} {d : D} (h : Rv K θ G v d) (e : G a = some (.frz o (DH a xs))) : Rv K θ (del G a) v d := by
  cases h with
  | dat h => exact .dat (h.del e)
  | ptr h => exact .ptr h
  | dpt h => exact .dpt h
  | npt h => exact .npt h
  | exv hn h => exact .exv hn (by
      rw [del_ne fun z => ?_]
      · exact h
      · subst z; rw [e] at h; cases h)
theorem RpL.del {vs : List V} {ds : List D} (h : RpL K G vs ds) (e : G a = some (.frz o (DH a xs))) : RpL K (del G a) vs ds := ⟨h.len, fun i v d p q => (h.get i v d p q).del e⟩
theorem RvL.del {θ : List Th} {vs : List V} {ds : List D} (h : RvL K θ G vs ds) (e : G a = some (.frz o (DH a xs))) : RvL K θ (del G a) vs ds := ⟨h.len, fun i v d p q => (h.get i v d p q).del e⟩
theorem RpE.del {ys : VE} {es : DEs} (h : RpE K G ys es) (e : G a = some (.frz o (DH a xs))) : RpE K (del G a) ys es := Paired.mapP h fun p q z => ⟨z.1, z.2.1.del e, z.2.2.del e⟩
variable {θ : List Th} {M : Mem} {n : Nat} {es : DEs}
theorem cells_of {θ : List Th} {M : Mem} {n : Nat} {c : Option (List D)} (hl : θ.length = M.length) (hn : n < θ.length) {m : Nat} {z : Option (List D)} (e : (M.set n c)[m]? = some z) : (n ≠ m ∧ M[m]? = some z) ∨ (n = m ∧ c = z) := by
  by_cases h : n = m
  · subst h
    rw [List.getElem?_set_self (by rw [← hl]; exact hn)] at e
    exact .inr ⟨rfl, Option.some.inj e⟩
  · rw [List.getElem?_set_ne h] at e
    exact .inl ⟨h, e⟩
theorem Rs.lock (r : Rs K θ G H M) (hn : θ[n]? = some (a, .dic)) (g : G a = none) (o : Obj) (re : RpE K G xs es) : Rs K θ (upd G a (.frz o (DH a xs))) (upd H a (.frz o (DH a xs))) (M.set n (some (enc true es))) := by
  have sm : Same G (upd G a (.frz o (DH a xs))) := same_upd g
  have lt := (List.getElem?_eq_some_iff.mp hn).1
  refine ⟨fun b x e => ?_, by simp [r.len], r.nd, fun n t h => live_upd (r.live n t h), fun m b ds h1 h2 => ?_, fun m b c ys h1 h2 => ?_, fun m b ds h1 h2 => ?_⟩
  · by_cases hb : b = a
    · subst hb; rw [upd_same] at e ⊢; exact e
    · rw [upd_ne hb] at e ⊢; exact r.sub _ _ e
  · rcases cells_of r.len lt h2 with ⟨nm, h2⟩ | ⟨nm, h2⟩
    · have hb : b ≠ a := fun z => nm (r.inj hn h1 z.symm)
      obtain ⟨g2, zs, hz, rl⟩ := r.mem m b ds h1 h2
      exact ⟨by rw [upd_ne hb]; exact g2, zs, by rw [upd_ne hb]; exact hz, rl.mono sm⟩
    · subst nm; rw [hn] at h1; cases h1
  · rcases cells_of r.len lt h2 with ⟨nm, h2⟩ | ⟨nm, h3⟩
    · have hb : b ≠ a := fun z => nm (r.inj hn h1 z.symm)
      obtain ⟨zs, hz, rl⟩ := r.dic m b c ys h1 h2
      exact ⟨zs, hz.keep sm (fun z => by rw [upd_ne hb]; exact z) (upd_ne hb), rl.mono sm⟩
    · subst nm
      rw [hn] at h1
      cases h1
      obtain ⟨e1, e2⟩ := enc_inj (Option.some.inj h3)
      subst e1; subst e2
      exact ⟨xs, ⟨o, upd_same⟩, re.mono sm⟩
  · rcases cells_of r.len lt h2 with ⟨nm, h2⟩ | ⟨nm, h2⟩
    · have hb : b ≠ a := fun z => nm (r.inj hn h1 z.symm)
      obtain ⟨g2, zs, hz, rl⟩ := r.nst m b ds h1 h2
      exact ⟨by rw [upd_ne hb]; exact g2, zs, by rw [upd_ne hb]; exact hz, rl.same sm⟩
    · subst nm; rw [hn] at h1; cases h1
theorem Rs.unlock (r : Rs K θ G H M) (hn : θ[n]? = some (a, .dic)) (g : G a = some (.frz o (DH a xs))) (re : RpE K G xs es) : Rs K θ (Bw.del G a) (upd H a (DH a xs)) (M.set n (some (enc false es))) := by
  have lt := (List.getElem?_eq_some_iff.mp hn).1
  refine ⟨fun b x e => ?_, by simp [r.len], r.nd, fun n t h => live_upd (r.live n t h), fun m b ds h1 h2 => ?_, fun m b c ys h1 h2 => ?_, fun m b ds h1 h2 => ?_⟩
  · by_cases hb : b = a
    · subst hb; rw [del_same] at e; cases e
    · rw [del_ne hb] at e; rw [upd_ne hb]; exact r.sub _ _ e
  · rcases cells_of r.len lt h2 with ⟨nm, h2⟩ | ⟨nm, h2⟩
    · have hb : b ≠ a := fun z => nm (r.inj hn h1 z.symm)
      obtain ⟨g2, zs, hz, rl⟩ := r.mem m b ds h1 h2
      exact ⟨by rw [del_ne hb]; exact g2, zs, by rw [upd_ne hb]; exact hz, rl.del g⟩
    · subst nm; rw [hn] at h1; cases h1
  · rcases cells_of r.len lt h2 with ⟨nm, h2⟩ | ⟨nm, h3⟩
    · have hb : b ≠ a := fun z => nm (r.inj hn h1 z.symm)
      obtain ⟨zs, hz, rl⟩ := r.dic m b c ys h1 h2
      refine ⟨zs, ?_, rl.del g⟩
      unfold DicAt at hz ⊢
      cases c with
      | true => obtain ⟨z, hz⟩ := hz; exact ⟨z, by rw [del_ne hb]; exact hz⟩
      | false => exact ⟨by rw [del_ne hb]; exact hz.1, by rw [upd_ne hb]; exact hz.2⟩
    · subst nm
      rw [hn] at h1
      cases h1
      obtain ⟨e1, e2⟩ := enc_inj (Option.some.inj h3)
      subst e1; subst e2
      exact ⟨xs, ⟨del_same, upd_same⟩, re.del g⟩
  · rcases cells_of r.len lt h2 with ⟨nm, h2⟩ | ⟨nm, h2⟩
    · have hb : b ≠ a := fun z => nm (r.inj hn h1 z.symm)
      obtain ⟨g2, zs, hz, rl⟩ := r.nst m b ds h1 h2
      exact ⟨by rw [del_ne hb]; exact g2, zs, by rw [upd_ne hb]; exact hz, rl.del g⟩
    · subst nm; rw [hn] at h1; cases h1
end
open Classical in
/-- the dict in slot i is locked while f runs -/
noncomputable def dLk (i : Nat) (f : Ev D) : Ev D := fun ρ M => match ρ[i]? with
  | some (some d) => match dicOf d M with
    | some (n, false, es) => match f ρ (M.set n (some (enc true es))) with
      | some (.ok x, M2) => if M2[n]? = some (some (enc true es)) then some (.ok x, M2.set n (some (enc false es))) else none
      | some (.exc C, M2) => some (.exc C, M2)
      | none => none
    | _ => none
  | _ => none
section
variable {X : Cx} {W : WN} {pos : Pos} {K : PySem.W.Frag}
theorem de_lk {e : Expr} {f : Ev D} (i : Nat) (h : DE X W e f) : DE X W e (dLk i f) := by
  obtain ⟨t, p, sn⟩ := h
  refine ⟨_, pe_lock p, fun θ0 G0 ρ M r M' θ G σ H Q p0 s0 e rs rv kk => ?_⟩
  unfold dLk at e
  split at e
  · rename_i d hi
    split at e
    · rename_i n es hd
      obtain ⟨v, hv, rvd⟩ := rv.get i d hi
      obtain ⟨a, xs, rfl, hn, hm, da, re⟩ := dic_of rs rvd hd
      refine ⟨a, DH a xs, da.2, True.intro, fun od => ?_⟩
      have r1 := rs.lock hn da.1 od re
      have sm : Same G (upd G a (.frz od (DH a xs))) := same_upd da.1
      cases q : f ρ (M.set n (some (enc true es))) with
      | none => rw [q] at e; cases e
      | some z =>
        obtain ⟨r2, M2⟩ := z
        rw [q] at e
        refine sn θ (upd G a (.frz od (DH a xs))) ρ _ r2 M2 θ _ σ _ _ (List.prefix_refl _) (Same.refl _) q r1 (rv.mono (List.prefix_refl _) sm) fun θ' G' H' p' s' rs' => ?_
        cases r2 with
        | exc C =>
          cases e
          exact ⟨fun C' h => (kk θ' G' H' p' (sm.trans s') rs').1 C' h, fun d v h => (by cases h)⟩
        | ok x =>
          refine ⟨fun C' h => (by cases h), fun d' v' h hv' => ?_⟩
          cases h
          dsimp only at e
          split at e
          · rename_i hc
            cases e
            have ga : G' a = some (.frz od (DH a xs)) := s' _ _ upd_same
            have hn' := pre_get p' hn
            obtain ⟨ys, hz, ry⟩ := rs'.dic n a true es hn' hc
            refine ⟨rs'.sub _ _ ga, ?_⟩
            have re' : RpE X.K G' xs es := re.mono (sm.trans s')
            have r3 := rs'.unlock hn' ga re'
            refine (kk θ' (del G' a) _ p' (fun b o hb => ?_) r3).2 _ _ rfl (hv'.del ga)
            have hb2 : b ≠ a := fun z => by subst z; rw [da.1] at hb; cases hb
            rw [del_ne hb2]
            exact s' _ _ (sm _ _ hb)
          · cases e
    · cases e
  · cases e
def oItD (d : D) : Ev (List D) := fun _ M => match dicOf d M with
  | some (_, true, es) => some (.ok (es.map (·.1)), M)
  | _ => none
theorem ri_dic {θ : List Th} {G : Hp} {a : Addr} {o : Obj} {xs : VE} {es : DEs} (g : G a = some (.frz o (DH a xs))) (re : RpE K G xs es) : RI K θ G (Itk3 a o xs) (es.map (·.1)) := by
  have len : xs.length = es.length := Paired.length re
  refine ⟨fun i θ1 G1 H M _ s rs hi => ⟨rs.sub _ _ (s _ _ g), by rw [len]; simpa using hi⟩, fun θ1 G1 H M _ s rs => ⟨rs.sub _ _ (s _ _ g), by rw [len]; simp⟩, fun i d θ1 G1 H M x H' _ s rs hd y => ?_⟩
  obtain ⟨rfl, k, v, y⟩ := y
  obtain ⟨b, hb, z⟩ := paired_get re y
  refine ⟨G1, Same.refl _, rs, .dat ?_⟩
  rw [List.getElem?_map, hb] at hd
  cases hd
  exact z.2.1.mono s
theorem di_dic {tg e : Expr} {f : Ev D} (h : DE X W e f) : DI X W tg e (bnd f oItD) := by
  obtain ⟨t, q, s⟩ := h
  refine ⟨_, pi_keys3 q, fun θ G => (s θ G).bind (R2 := RI X.K) (k := fun (x : V) (_ : L2.St) (H1 : Hp) (R : It → Hp → Prop) => ∃ d o es, x = .ref d ∧ H1 d = some (.frz o (DH d es)) ∧ R (Itk3 d o es) H1) fun θ1 G1 v d _ _ hv => ?_⟩
  intro ρ M r M' θ2 G2 σ H Q p2 s2 e rs rv kk
  unfold oItD at e
  split at e
  · rename_i n es hd
    cases e
    obtain ⟨a, xs, rfl, hn, hm, ⟨o, da⟩, re⟩ := dic_of rs (hv.mono p2 s2) hd
    exact ⟨a, o, xs, rfl, rs.sub _ _ da, (kk θ2 G2 H (List.prefix_refl _) (Same.refl _) rs).2 _ _ rfl (ri_dic da re)⟩
  · cases e
end
theorem gok_never {P : Program} {w : World} {K : PySem.W.Frag} {mg : Str → Option Value} {base : Heap} {C : CXT} {k n : Nat} {f : Addr} {fd : FuncData} {ps : List Str} {F : Fd} (h : ∀ ds M, F ds M = none) : GOk P w K mg base C k f fd ps (spF K mg n F) := by
  have no : ∀ vs H Q E, ¬ spF K mg n F vs H Q E := fun vs H Q E q => by
    obtain ⟨θ, G, ds, M, r, M', _, _, _, e, _⟩ := q
    rw [h] at e
    cases e
  exact ⟨fun vs H Q E q => absurd q (no vs H Q E), fun A ou s H ar us vs Q E _ _ _ _ q => absurd q (no vs H Q E)⟩
end Bw
/-! lists that change, once more -/
namespace Bw
open PySem PySem.Spec PyProof.Rows L2
/-- the parts of a list that stands, changing or not -/
def lstAt (d : D) (M : Mem) : Option (List D) := match d with
  | .lst ds => some ds
  | .ptr n => match M[n]? with
    | some (some ds) => some ds
    | _ => none
  | _ => none
section
variable {X : Cx} {W : WN} {pos : Pos} {K : PySem.W.Frag}
theorem lstAt_of {θ : List Th} {G H : Hp} {M : Mem} {v : V} {d : D} {ds : List D} (rs : Rs K θ G H M) (hv : Rv K θ G v d) (h : lstAt d M = some ds) : ∃ a xs, v = .ref a ∧ H a = some (.lst xs) ∧ RpL K G xs ds := by
  cases hv with
  | dat q =>
    cases q with
    | lst h1 l g => cases h; exact ⟨_, _, rfl, rs.sub _ _ h1, l, g⟩
    | _ => cases h
  | ptr hn =>
    rename_i n a
    unfold lstAt at h
    dsimp only at h
    split at h
    · rename_i es hm
      cases h
      obtain ⟨g, xs, hx, rl⟩ := rs.mem n _ _ hn hm
      exact ⟨_, xs, rfl, hx, rl⟩
    · cases h
  | dpt _ => cases h
  | npt _ => cases h
  | exv _ _ => cases h
/-- a + b, a list that will change -/
def oAddN (d e : D) : Ev D := fun ρ M => match lstAt d M, lstAt e M with
  | some a, some b => if a.length + b.length ≤ 16777216 then some (.ok (.ptr M.length), M ++ [some (a ++ b)]) else none
  | _, _ => none
theorem snd_addN : SndO K W (rAdd2 K) oAddN := by
  intro θ0 G0 x y d e hx hy ρ M r M' θ G σ H Q p s ee rs rv kk
  unfold oAddN at ee
  split at ee
  · rename_i a b h1 h2
    split at ee
    · rename_i hl
      cases ee
      obtain ⟨pa, xs, rfl, q1, r1⟩ := lstAt_of rs (hx.mono p s) h1
      obtain ⟨pb, ys, rfl, q2, r2⟩ := lstAt_of rs (hy.mono p s) h2
      refine .inr (.inl ⟨pa, pb, xs, ys, rfl, rfl, q1, q2, by rw [r1.len, r2.len, sizeLine_eq]; exact hl, fun q hq => ?_⟩)
      refine (kk (θ ++ [(q, .lst)]) G _ (List.prefix_append _ _) (Same.refl _) (rs.laidM hq (r1.append r2))).2 _ _ rfl (.ptr ?_)
      rw [← rs.len, List.getElem?_append_right (Nat.le_refl _), Nat.sub_self]
      rfl
    · cases ee
  · cases ee
theorem de_addN {a b : Expr} {f g : Ev D} (ha : DE X W a f) (hb : DE X W b g) : DE X W (.BinOp a .Add b pos) (bnd f fun d => bnd g fun e => oAddN d e) := de_op op_add2 snd_addN ha hb
/-- repr of a list that changes -/
def oReprM (ds : List D) : Ev D := fun ρ M => match ds with
  | [d] => oReprD [frz M d] ρ M
  | _ => none
theorem snd_reprM : SndC K W (rRepr K) oReprM := by
  intro θ0 G0 xs ds hx ρ M r M' θ G σ H Q p s e rs rv kk
  unfold oReprM at e
  split at e
  · rename_i d
    unfold oReprD at e
    dsimp only at e
    split at e
    · rename_i c
      obtain ⟨v, rfl, hv⟩ := vals1 hx
      exact ⟨v, toPy (frz M d), rfl, frz_dp rs (hv.mono p s) c.1, c.2.1, c.2.2.1, c.2.2.2.1, by rw [sizeLine_eq]; exact c.2.2.2.2, Snd.ret (K := K) (W := W) (R := RV K) (θ0 := θ0) (G0 := G0) (fun _ _ _ _ => .dat (.str _)) ρ M r M' θ G σ H Q p s e rs rv kk⟩
    · cases e
  · cases e
theorem de_reprM {p : Pos} {e : Expr} {es : List Expr} {h : Ev (List D)} (hr : ∃ k, Rg k X.A) (hm : X.mg "repr" = none) (ha : DA X W (e :: es) h) (hg : Gl X "repr" := by rfl) (he : starEach (e :: es) X.env = (false, eval e X.env) :: starEach es X.env := by rfl) (hpl : (backTo pos (starEach es X.env)).any (·.1) = false := by rfl) : DE X W (.Call (.Name "repr" p) (e :: es) [] pos) (bnd h oReprM) := by
  obtain ⟨k, hr⟩ := hr
  exact de_callB (call_reprD hr.g hr.un200) snd_reprM hm (by decide +kernel) ha hg (by decide) (by decide) he hpl
/-- a list that changes is walked, and stays as it is from then on -/
def oItF (d : D) : Ev (List D) := fun ρ M => match d with
  | .ptr n => match M[n]? with
    | some (some ds) => some (.ok ds, M.set n none)
    | _ => none
  | _ => none
theorem di_frz {tg e : Expr} {f : Ev D} (h : DE X W e f) : DI X W tg e (bnd f oItF) := by
  obtain ⟨t, q, s⟩ := h
  refine ⟨_, pi_list q, fun θ G => (s θ G).bind (R2 := RI X.K) (k := fun (x : V) (_ : L2.St) (H1 : Hp) (R : It → Hp → Prop) => ∃ a, x = .ref a ∧ (∃ xs, SqL X.K H1 a xs) ∧ R (Itl X.K a) H1) fun θ1 G1 v d _ _ hv => ?_⟩
  intro ρ M r M' θ2 G2 σ H Q p2 s2 e rs rv kk
  unfold oItF at e
  split at e
  · rename_i n
    split at e
    · rename_i ds hm
      cases e
      cases hv.mono p2 s2 with
      | dat hv => cases hv
      | ptr hn =>
        obtain ⟨g, xs, hx, rl⟩ := rs.mem n _ ds hn hm
        obtain ⟨G', s', rp, rs'⟩ := rs.freeze hn hm
        cases rp with
        | lst hq l gg =>
          exact ⟨_, rfl, ⟨xs, .inl (.inl hx)⟩, (kk θ2 G' H (List.prefix_refl _) s' rs').2 _ _ rfl (ri_list (.inl (.inl hq)) ⟨l, gg⟩)⟩
    · cases e
  · cases e
end
end Bw
namespace Bw
open PySem PySem.Spec PyProof.Rows L2
section
variable {X : Cx} {W : WN} {K : PySem.W.Frag}
/-! ### enumerate of a list that stays -/
def enumFrom (n : Nat) : List D → List D
  | [] => []
  | d :: ds => .tup [.int (n : Int), d] :: enumFrom (n + 1) ds
theorem enum_len : ∀ (ds : List D) (n : Nat), (enumFrom n ds).length = ds.length
  | [], _ => rfl
  | _ :: ds, n => by rw [enumFrom, List.length_cons, List.length_cons, enum_len ds]
theorem enum_get : ∀ {ds : List D} {n i : Nat} {d : D}, (enumFrom n ds)[i]? = some d → ∃ u, ds[i]? = some u ∧ d = .tup [.int ((n + i : Nat) : Int), u]
  | [], n, i, d, h => by cases h
  | x :: ds, n, 0, d, h => by
    rw [enumFrom] at h
    cases h
    exact ⟨x, rfl, rfl⟩
  | x :: ds, n, i + 1, d, h => by
    rw [enumFrom] at h
    obtain ⟨u, h1, h2⟩ := enum_get (ds := ds) (n := n + 1) (i := i) (d := d) h
    refine ⟨u, h1, ?_⟩
    rw [h2]
    congr 3
    omega
def oEnum (ds : List D) : Ev (List D) := match ds with
  | [.lst a] => ret (enumFrom 0 a)
  | _ => stk
theorem ri_enumL {θ : List Th} {G : Hp} {a : Addr} {xs : List V} {ds : List D} (ha : SqL K G a xs) (r1 : RpL K G xs ds) : RI K θ G (Ite K a) (enumFrom 0 ds) := by
  refine ⟨fun i θ1 G1 H M _ s rs hi => ?_, fun θ1 G1 H M _ s rs => ?_, fun i d θ1 G1 H M x H' _ s rs hd y => ?_⟩
  · rw [enum_len] at hi
    obtain ⟨v, hv, _⟩ := r1.at (List.getElem?_eq_getElem (show i < ds.length by omega))
    exact ⟨xs, v, rs.sub.seq (s.seq ha), hv⟩
  · refine ⟨xs, rs.sub.seq (s.seq ha), ?_⟩
    rw [enum_len, r1.len]
    omega
  · obtain ⟨T, x1, rfl, hT, rfl, h1⟩ := y
    obtain ⟨u, hu, rfl⟩ := enum_get hd
    have g := rs.fresh hT
    have e1 := h1 xs (rs.sub.seq (s.seq ha))
    refine ⟨upd G1 T (.tup [.int (i : Nat), x1]), same_upd g, rs.laid hT _, .dat ?_⟩
    rw [Nat.zero_add]
    exact rp_pair upd_same (.int _) (((r1.get i _ _ e1 hu).mono s).mono (same_upd g))
theorem di_enum {elts : List Expr} {kk : Nat} {tpos p pos : Pos} {e : Expr} {h : Ev (List D)} (hm : X.mg "enumerate" = none) (ha : DA X W [e] h) (hg : Gl X "enumerate" := by rfl) (hs : starEach [e] X.env = [(false, eval e X.env)] := by rfl) :
    DI X W (.Tuple elts kk tpos) (.Call (.Name "enumerate" p) [e] [] pos) (bnd h oEnum) := by
  obtain ⟨t, q, s⟩ := ha
  refine ⟨_, pi_enum hg hm q hs, fun θ G => (s θ G).bind (R2 := RI X.K) (k := fun (vs : List V) (_ : L2.St) (H1 : Hp) (R : It → Hp → Prop) => ∃ a xs, vs = [.ref a] ∧ SqL X.K H1 a xs ∧ R (Ite X.K a) H1) fun θ1 G1 vs ds _ _ hv => ?_⟩
  unfold oEnum
  split
  · rename_i da
    obtain ⟨v, rfl, h1⟩ := vals1 hv
    cases h1 with
    | dat h1 =>
      cases h1 with
      | lst q1 l1 g1 =>
        intro ρ M r M' θ2 G2 σ H Q p s e rs rv kk
        exact ⟨_, _, rfl, .inl (.inl (rs.sub _ _ (s _ _ q1))), Snd.ret (K := X.K) (W := W) (R := RI X.K) (θ0 := θ1) (G0 := G1) (fun _ _ p s => (ri_enumL (.inl (.inl q1)) ⟨l1, g1⟩).mono p s) ρ M r M' θ2 G2 σ H Q p s e rs rv kk⟩
  · exact Snd.stk
theorem oEnum_lst (a : List D) (ρ : Env) (M : Mem) : oEnum [.lst a] ρ M = some (.ok (enumFrom 0 a), M) := rfl
end
end Bw
/-! sum and sorted of a list of ints -/
namespace Bw
open PySem PySem.Spec PyProof.Rows L2
section
variable {X : Cx} {W : WN} {K : PySem.W.Frag}
def insOf : List D → Option (List Int)
  | [] => some []
  | .int b :: r => (insOf r).map (b :: ·)
  | _ => none
theorem rpl_ins {G : Hp} : ∀ {ds : List D} {xs : List V} {ns : List Int}, insOf ds = some ns → RpL K G xs ds → xs = ns.map V.int
  | [], xs, ns, h, r => by cases h; rw [r.nil_of]; rfl
  | d :: ds, xs, ns, h, r => by
    cases d with
    | int b =>
      simp only [insOf] at h
      cases q : insOf ds with
      | none => rw [q] at h; cases h
      | some ms =>
        rw [q] at h
        cases h
        obtain ⟨x, xs', rfl, h1, h2⟩ := r.uncons
        rw [rpl_ins q h2]
        cases h1
        rfl
    | _ => simp only [insOf] at h; cases h
def oSum (ds : List D) : Ev D := match ds with
  | [.lst es] => match insOf es with
    | some bs => ret (.int bs.sum)
    | none => stk
  | _ => stk
theorem snd_sum : SndC K W (rSum K) oSum := by
  intro θ0 G0 xs ds hx
  unfold oSum
  split
  · rename_i es
    split
    · rename_i bs hb
      obtain ⟨v, rfl, hv⟩ := vals1 hx
      cases hv with
      | dat q =>
        cases q with
        | lst h1 l g1 =>
          rename_i a ys
          have ey := rpl_ins hb ⟨l, g1⟩
          subst ey
          intro ρ M r M' θ G σ H Q p s e rs rv kk
          exact ⟨a, bs, rfl, .inl (.inl (rs.sub _ _ (s _ _ h1))), Snd.ret (K := K) (W := W) (R := RV K) (θ0 := θ0) (G0 := G0) (fun _ _ _ _ => .dat (.int _)) ρ M r M' θ G σ H Q p s e rs rv kk⟩
    · exact Snd.stk
  · exact Snd.stk
theorem de_sum {e : Expr} {es : List Expr} {h : Ev (List D)} {p pos : Pos} (hc : X.calm = true) (hm : X.mg "sum" = none) (ha : DA X W (e :: es) h) (hg : Gl X "sum" := by rfl) (he : starEach (e :: es) X.env = (false, eval e X.env) :: starEach es X.env := by rfl) (hpl : (backTo pos (starEach es X.env)).any (·.1) = false := by rfl) : DE X W (.Call (.Name "sum" p) (e :: es) [] pos) (bnd h oSum) :=
  de_callB (cr_sum hc) snd_sum hm (by decide +kernel) ha hg (by decide) (by decide) he hpl
end
end Bw
/-! lists that change, joined to ones that stay; list() that will change -/
namespace Bw
open PySem PySem.Spec PyProof.Rows L2
section
variable {X : Cx} {W : WN} {pos : Pos} {K : PySem.W.Frag}
/-- a + b, a list that stays -/
def oAddL (d e : D) : Ev D := fun ρ M => match lstAt d M, lstAt e M with
  | some a, some b => if a.length + b.length ≤ 16777216 then some (.ok (.lst (a ++ b)), M) else none
  | _, _ => none
theorem snd_addL : SndO K W (rAdd2 K) oAddL := by
  intro θ0 G0 x y d e hx hy ρ M r M' θ G σ H Q p s ee rs rv kk
  unfold oAddL at ee
  split at ee
  · rename_i a b h1 h2
    split at ee
    · rename_i hl
      cases ee
      obtain ⟨pa, xs, rfl, q1, r1⟩ := lstAt_of rs (hx.mono p s) h1
      obtain ⟨pb, ys, rfl, q2, r2⟩ := lstAt_of rs (hy.mono p s) h2
      refine .inr (.inl ⟨pa, pb, xs, ys, rfl, rfl, q1, q2, by rw [r1.len, r2.len, sizeLine_eq]; exact hl, fun q hq => ?_⟩)
      have g := rs.fresh hq
      exact (kk θ (upd G q (.lst (xs ++ ys))) _ (List.prefix_refl _) (same_upd g) (rs.laid hq _)).2 _ _ rfl (.dat (rp_lst upd_same ((r1.append r2).mono (same_upd g))))
    · cases ee
  · cases ee
theorem de_addL {a b : Expr} {f g : Ev D} (ha : DE X W a f) (hb : DE X W b g) : DE X W (.BinOp a .Add b pos) (bnd f fun d => bnd g fun e => oAddL d e) := de_op op_add2 snd_addL ha hb
/-- list(x), a list that will change -/
def oLstN (ds : List D) : Ev D := fun ρ M => match ds with
  | [d] => match seqOf d M with
    | some es => some (.ok (.ptr M.length), M ++ [some es])
    | none => none
  | _ => none
theorem snd_lstN : SndC K W (fun xs H Q => ∃ p ys, xs = [.ref p] ∧ (SqL K H p ys ∨ SqT K H p ys) ∧ ∀ l, H l = none → Q (.ref l) (upd H l (.lst ys))) oLstN := by
  intro θ0 G0 xs ds hx ρ M r M' θ G σ H Q p s e rs rv kk
  unfold oLstN at e
  split at e
  · rename_i d
    split at e
    · rename_i es he
      cases e
      obtain ⟨v, rfl, hv⟩ := vals1 hx
      obtain ⟨a, xs, rfl, q, rl⟩ := seq_of rs (hv.mono p s) he
      refine ⟨a, xs, rfl, q, fun l hl => ?_⟩
      refine (kk (θ ++ [(l, .lst)]) G _ (List.prefix_append _ _) (Same.refl _) (rs.laidM hl rl)).2 _ _ rfl (.ptr ?_)
      rw [← rs.len, List.getElem?_append_right (Nat.le_refl _), Nat.sub_self]
      rfl
    · cases e
  · cases e
theorem de_lstN {p : Pos} {e : Expr} {es : List Expr} {h : Ev (List D)} (hm : X.mg "list" = none) (ha : DA X W (e :: es) h) (hg : Gl X "list" := by rfl) (he : starEach (e :: es) X.env = (false, eval e X.env) :: starEach es X.env := by rfl) (hpl : (backTo pos (starEach es X.env)).any (·.1) = false := by rfl) : DE X W (.Call (.Name "list" p) (e :: es) [] pos) (bnd h oLstN) :=
  de_callTy call_list_of snd_lstN hm (by decide +kernel) ha hg (by decide) (by decide) he hpl
theorem oAddL_lp {a es : List D} {n : Nat} (ρ : Env) {M : Mem} (h : M[n]? = some (some es)) (hl : a.length + es.length ≤ 16777216) : oAddL (.lst a) (.ptr n) ρ M = some (.ok (.lst (a ++ es)), M) := by
  unfold oAddL lstAt
  dsimp only
  rw [h]
  dsimp only
  rw [if_pos hl]
theorem oLstN_lst (a : List D) (ρ : Env) (M : Mem) : oLstN [.lst a] ρ M = some (.ok (.ptr M.length), M ++ [some a]) := rfl
end
end Bw
/-! a list so many times, that will change -/
namespace Bw
open PySem PySem.Spec PyProof.Rows L2
section
variable {X : Cx} {W : WN} {pos : Pos} {K : PySem.W.Frag}
def oRepN (d e : D) : Ev D := fun ρ M => match lstAt d M, e with
  | some a, .int k => if 0 ≤ k ∧ k < 1000000 ∧ a.length * k.toNat ≤ 16777216 then some (.ok (.ptr M.length), M ++ [some (List.replicate k.toNat a).flatten]) else none
  | _, _ => none
theorem rpl_rep {G : Hp} {xs : List V} {ds : List D} (r : RpL K G xs ds) : ∀ n : Nat, RpL K G (List.replicate n xs).flatten (List.replicate n ds).flatten
  | 0 => RpL.nil
  | n + 1 => by
    rw [List.replicate_succ, List.replicate_succ, List.flatten_cons, List.flatten_cons]
    exact r.append (rpl_rep r n)
theorem snd_repN : SndO K W rRep oRepN := by
  intro θ0 G0 x y d e hx hy ρ M r M' θ G σ H Q p s ee rs rv kk
  unfold oRepN at ee
  split at ee
  · rename_i a k h1
    split at ee
    · rename_i hl
      cases ee
      obtain ⟨pa, xs, rfl, q1, r1⟩ := lstAt_of rs (hx.mono p s) h1
      cases hy with
      | dat hy =>
        cases hy
        refine ⟨pa, k, xs, rfl, rfl, q1, by omega, by omega, by rw [r1.len, sizeLine_eq]; exact hl.2.2, fun q hq => ?_⟩
        refine (kk (θ ++ [(q, .lst)]) G _ (List.prefix_append _ _) (Same.refl _) (rs.laidM hq (rpl_rep r1 k.toNat))).2 _ _ rfl (.ptr ?_)
        rw [← rs.len, List.getElem?_append_right (Nat.le_refl _), Nat.sub_self]
        rfl
    · cases ee
  · cases ee
theorem de_repN {a b : Expr} {f g : Ev D} (ha : DE X W a f) (hb : DE X W b g) : DE X W (.BinOp a .Mult b pos) (bnd f fun d => bnd g fun e => oRepN d e) := de_op op_rep snd_repN ha hb
end
end Bw
/-! zip of a tuple and a list -/
namespace Bw
open PySem PySem.Spec PyProof.Rows L2
def ItM (K : PySem.W.Frag) (a b : Addr) : It where
  go := fun i H => ∃ (us ws : List V) (x y : V), SqT K H a us ∧ SqL K H b ws ∧ us[i]? = some x ∧ ws[i]? = some y
  yld := fun i H v H' => ∃ (t : Addr) (x y : V), v = .ref t ∧ H t = none ∧ H' = upd H t (.tup [x, y]) ∧ (∀ us, SqT K H a us → us[i]? = some x) ∧ (∀ ws, SqL K H b ws → ws[i]? = some y)
  stop := fun i H => ∃ us ws : List V, SqT K H a us ∧ SqL K H b ws ∧ i = min us.length ws.length
def atM (z t0 t1 j1 j2 a b : Addr) (i : Nat) (h : Heap) : Prop := IsZip h z t0 t1 .none ∧ IsTupOf2 h t0 (.ref j1) (.ref j2) ∧ (∃ p q, IsTupOf2 h t1 p q) ∧ h.IsTupleIter j1 a i ∧ h.IsListIter j2 b i
theorem turn_M {P : Program} {w : World} {K : PySem.W.Frag} {es : List Expr} {kk : Nat} {tp : Pos} {z t0 t1 j1 j2 a b : Addr} (S : ZipSep2 z t0 t1 j1 j2 [j1, a] [j2, b]) (na : a ≠ j1) (nb : b ≠ j2) : Turn P w K (.Tuple es kk tp) (ItM K a b) [z, t0, t1, j1, j2] z (atM z t0 t1 j1 j2 a b) where
  mem := by simp
  obj := fun i h st c hc => by
    obtain ⟨m1, m2, ⟨p, q, m3⟩, ⟨o1, m4, _, d1⟩, ⟨o2, m5, _, d2⟩⟩ := st
    simp only [List.mem_cons, List.not_mem_nil, or_false] at hc
    rcases hc with rfl | rfl | rfl | rfl | rfl
    · exact ⟨_, m1, fun v e => nomatch e⟩
    · exact ⟨_, m2, fun v e => nomatch e⟩
    · exact ⟨_, m3, fun v e => nomatch e⟩
    · exact ⟨o1, m4, fun v e => by rw [d1] at e; cases e⟩
    · exact ⟨o2, m5, fun v e => by rw [d2] at e; cases e⟩
  keep := fun i h h' st kp => by
    obtain ⟨m1, m2, ⟨p, q, m3⟩, m4, m5⟩ := st
    exact ⟨kp z (by simp) _ m1, kp t0 (by simp) _ m2, ⟨p, q, kp t1 (by simp) _ m3⟩, m4.at fun o e => kp j1 (by simp) o e, m5.at fun o e => kp j2 (by simp) o e⟩
  item := by
    intro X e1 e2 e3 cm i pins s σ H E I fo st go
    subst e1 e2 e3
    obtain ⟨us, ws, x, y, qu, qw, hx, hy⟩ := go
    obtain ⟨m1, m2, m3, m4, m5⟩ := st
    obtain ⟨ia, ra, pa, _⟩ := I.tuple qu
    obtain ⟨ib, rb, pb, _⟩ := I.list qw
    obtain ⟨u, hu, ru⟩ := ra.get hx
    obtain ⟨u2, hu2, ru2⟩ := rb.get hy
    have D1 := Draws.tuple (prog := X.prog) (w := X.w) (A := X.A.in1) (I.ok.hd cm) j1 a na ia.toArray
    have D2 := Draws.list (prog := X.prog) (w := X.w) (A := X.A.in1) (I.ok.hd cm) j2 b nb ib.toArray
    have g := GoesN.zip2 (elts := es) (x1 := kk) (pos := tp) S D1 D2
    have l1 : i < ia.length := by
      by_cases q : i < ia.length
      · exact q
      · rw [List.getElem?_eq_none (by omega)] at hu; cases hu
    have l2 : i < ib.length := by
      by_cases q : i < ib.length
      · exact q
      · rw [List.getElem?_eq_none (by omega)] at hu2; cases hu2
    refine g.goes i s _ E (by simp; omega) ⟨m1, m2, m3, ⟨m4, pa⟩, m5, pb.isList⟩ fun v h' tk yy st' kp _ => ?_
    obtain ⟨T, v1, v2, rfl, hT, g1, g2, tt⟩ := yy
    obtain ⟨n1, n2, n3, ⟨n4, _⟩, n5, _⟩ := st'
    have c1 : v1 = u := by
      have : ia[i]? = some v1 := by simpa using g1
      rw [hu] at this; exact (Option.some.inj this).symm
    have c2 : v2 = u2 := by
      have : ib[i]? = some v2 := by simpa using g2
      rw [hu2] at this; exact (Option.some.inj this).symm
    subst c1; subst c2
    have new : ObjOk X.prog X.w (upd H T (.tup [x, y])) h' T (.tup [x, y]) := ⟨by show 2 ≤ sizeLine; decide, [v1, v2], .cons ru (.cons ru2 .nil), tt⟩
    have sub : ∀ c ∈ [z, t1, j1, j2], c ∈ [z, t0, t1, j1, j2] := fun c hc => by
      simp only [List.mem_cons, List.not_mem_nil, or_false] at hc ⊢
      rcases hc with h | h | h | h <;> simp [h]
    have I1 := I.turnedNew (t' := tk) (ch := [z, t1, j1, j2]) (fun c o nc e => kp c o nc e) (fun c hc => fo c (sub c hc)) hT new
    refine ⟨.ref T, _, I1, rfl, ⟨T, x, y, rfl, I.hok.fresh hT, rfl, fun l hl => by rw [I.tuple_inj hl qu]; exact hx, fun l hl => by rw [I.list_inj hl qw]; exact hy⟩, ⟨n1, n2, n3, n4, n5⟩, fun c hc => ?_⟩
    have ne : c ≠ T := fun e => by
      subst e
      have lt : ∀ {d : Addr} {o : Obj}, s.heap.get? d = some o → d < s.heap.objs.size := fun e => Heap.lt_size e
      obtain ⟨p, q, m3⟩ := m3
      obtain ⟨o1, m4, _⟩ := m4
      obtain ⟨o2, m5, _⟩ := m5
      simp only [List.mem_cons, List.not_mem_nil, or_false] at hc
      rcases hc with rfl | rfl | rfl | rfl | rfl
      · exact absurd (lt m1) (Nat.not_lt.mpr hT)
      · exact absurd (lt m2) (Nat.not_lt.mpr hT)
      · exact absurd (lt m3) (Nat.not_lt.mpr hT)
      · exact absurd (lt m4) (Nat.not_lt.mpr hT)
      · exact absurd (lt m5) (Nat.not_lt.mpr hT)
    rw [upd_ne ne]
    exact (fo c hc).1
  done := by
    intro X e1 e2 e3 cm i pins s σ H E I fo st go
    subst e1 e2 e3
    obtain ⟨us, ws, qu, qw, hi⟩ := go
    obtain ⟨m1, m2, m3, m4, m5⟩ := st
    obtain ⟨ia, ra, pa, _⟩ := I.tuple qu
    obtain ⟨ib, rb, pb, _⟩ := I.list qw
    have k1 := ra.length
    have k2 := rb.length
    have D1 := Draws.tuple (prog := X.prog) (w := X.w) (A := X.A.in1) (I.ok.hd cm) j1 a na ia.toArray
    have D2 := Draws.list (prog := X.prog) (w := X.w) (A := X.A.in1) (I.ok.hd cm) j2 b nb ib.toArray
    have g := GoesN.zip2 (elts := es) (x1 := kk) (pos := tp) S D1 D2
    have mm : min ia.toArray.size ib.toArray.size = i := by simp; omega
    have sub : ∀ c ∈ [z, t1, j1, j2], c ∈ [z, t0, t1, j1, j2] := fun c hc => by
      simp only [List.mem_cons, List.not_mem_nil, or_false] at hc ⊢
      rcases hc with h | h | h | h <;> simp [h]
    rw [mm] at g
    exact g.stops s _ E ⟨m1, m2, m3, ⟨m4, pa⟩, m5, pb.isList⟩ fun h' tk kp _ => I.turnedL (t' := tk) (ch := [z, t1, j1, j2]) (fun c o nc e => kp c o nc e) fun c hc => fo c (sub c hc)
  self := fun A i s Q E st h => wpAny_pyIter_zip st.1 h
def iZipM (K : PySem.W.Frag) (ta : TA) : TI := fun σ H R => ta σ H fun vs H1 => ∃ a b us ws, vs = [.ref a, .ref b] ∧ SqT K H1 a us ∧ SqL K H1 b ws ∧ R (ItM K a b) H1
theorem pi_zipM {X : Cx} {e e2 : Expr} {ta : TA} {p pos tp : Pos} {es : List Expr} {kk : Nat} (hg : Gl X "zip") (hm : X.mg "zip" = none) (ha : PA X [e, e2] ta) (hs : starEach [e, e2] X.env = (false, eval e X.env) :: starEach [e2] X.env := by rfl) (hpl : (backTo pos (starEach [e2] X.env)).any (·.1) = false := by rfl) : PI X (.Tuple es kk tp) (.Call (.Name "zip" p) [e, e2] [] pos) (iZipM X.K ta) := by
  constructor
  intro pn st σ0 H0 R0 J0 h0
  refine Call_ (ld_blt J0 hg hm boot_zip (callWith_type1 (thn (ha.run pos pn st σ0 H0 _ J0 h0) ?_) hs hpl))
  rintro us s1 ⟨vs, H1, I1, r1, a, b, xs, ys, rfl, qx, qy, q⟩
  cases r1 with
  | cons ra rr =>
    cases rr with
    | cons rb rr =>
      cases rr; cases ra; cases rb
      obtain ⟨ia, va, pa, _⟩ := I1.tuple qx
      obtain ⟨ib, vb, pb, _⟩ := I1.list qy
      have la : a < s1.heap.objs.size := by obtain ⟨o, ho, _⟩ := id pa; exact Heap.lt_size ho
      have lb : b < s1.heap.objs.size := pb.lt
      have S := zip_sep2 (N := s1.heap.objs.size) (fp1 := [a]) (fp2 := [b]) (by intro c hc; simp at hc; subst hc; exact la) (by intro c hc; simp at hc; subst hc; exact lb)
      refine zip_begins2 (begins_tuple a ia.toArray) (begins_list b ib.toArray) pa pb.isList fun h' g1 g2 g3 g4 g5 _ kp => wpAny_pyIter_zip g1 ?_
      have I2 : Inv X pn σ0 H1 { s1 with heap := h' } := I1.kept (t' := s1.toks) kp
      have up : ∀ k : Nat, FpOk X pn H1 (s1.heap.objs.size + k) := fun k => I1.fpOk (Nat.le_add_right _ _) (I1.hok.fresh (Nat.le_add_right _ _))
      refine ⟨s1.heap.objs.size + 4, [s1.heap.objs.size + 4, s1.heap.objs.size + 2, s1.heap.objs.size + 3, s1.heap.objs.size, s1.heap.objs.size + 1], _, _, H1, rfl, I2, turn_M S (Nat.ne_of_lt la) (Nat.ne_of_lt (Nat.lt_succ_of_lt lb)), ⟨g1, g2, ⟨_, _, g3⟩, ⟨_, g4, rfl, rfl⟩, ⟨_, g5, rfl, rfl⟩⟩, fun c hc => ?_, q⟩
      simp only [List.mem_cons, List.not_mem_nil, or_false] at hc
      rcases hc with rfl | rfl | rfl | rfl | rfl
      · exact up 4
      · exact up 2
      · exact up 3
      · exact up 0
      · exact up 1
section
variable {X : Cx} {W : WN} {pos : Pos} {K : PySem.W.Frag}
theorem ri_zipM {θ : List Th} {G : Hp} {a b : Addr} {xs ys : List V} {ds es : List D} (ha : SqT K G a xs) (hb : SqL K G b ys) (r1 : RpL K G xs ds) (r2 : RpL K G ys es) : RI K θ G (ItM K a b) (zipD ds es) := by
  refine ⟨fun i θ1 G1 H M _ s rs hi => ?_, fun θ1 G1 H M _ s rs => ?_, fun i d θ1 G1 H M x H' _ s rs hd y => ?_⟩
  · rw [zip_len] at hi
    obtain ⟨v, hv, _⟩ := r1.at (List.getElem?_eq_getElem (show i < ds.length by omega))
    obtain ⟨u, hu, _⟩ := r2.at (List.getElem?_eq_getElem (show i < es.length by omega))
    exact ⟨xs, ys, v, u, seqT rs.sub (seqT s ha), rs.sub.seq (s.seq hb), hv, hu⟩
  · exact ⟨xs, ys, seqT rs.sub (seqT s ha), rs.sub.seq (s.seq hb), by rw [zip_len, r1.len, r2.len]⟩
  · obtain ⟨T, x1, y1, rfl, hT, rfl, h1, h2⟩ := y
    obtain ⟨u, v, hu, hv, rfl⟩ := zip_get hd
    have g := rs.fresh hT
    have e1 := h1 xs (seqT rs.sub (seqT s ha))
    have e2 := h2 ys (rs.sub.seq (s.seq hb))
    exact ⟨upd G1 T (.tup [x1, y1]), same_upd g, rs.laid hT _, .dat (rp_pair upd_same (((r1.get i _ _ e1 hu).mono s).mono (same_upd g)) (((r2.get i _ _ e2 hv).mono s).mono (same_upd g)))⟩
def oZipM (ds : List D) : Ev (List D) := match ds with
  | [.tup a, .lst b] => ret (zipD a b)
  | _ => stk
theorem di_zipM {elts : List Expr} {kk : Nat} {tpos p : Pos} {e e2 : Expr} {h : Ev (List D)} (hm : X.mg "zip" = none) (ha : DA X W [e, e2] h) (hg : Gl X "zip" := by rfl) (hs : starEach [e, e2] X.env = (false, eval e X.env) :: starEach [e2] X.env := by rfl) (hpl : (backTo pos (starEach [e2] X.env)).any (·.1) = false := by rfl) :
    DI X W (.Tuple elts kk tpos) (.Call (.Name "zip" p) [e, e2] [] pos) (bnd h oZipM) := by
  obtain ⟨t, q, s⟩ := ha
  refine ⟨_, pi_zipM hg hm q hs hpl, fun θ G => (s θ G).bind (R2 := RI X.K) (k := fun (vs : List V) (_ : L2.St) (H1 : Hp) (R : It → Hp → Prop) => ∃ a b us ws, vs = [.ref a, .ref b] ∧ SqT X.K H1 a us ∧ SqL X.K H1 b ws ∧ R (ItM X.K a b) H1) fun θ1 G1 vs ds _ _ hv => ?_⟩
  unfold oZipM
  split
  · rename_i da db
    obtain ⟨v, u, rfl, h1, h2⟩ := vals2 hv
    cases h1 with
    | dat h1 =>
      cases h2 with
      | dat h2 =>
        cases h1 with
        | tup q1 l1 g1 =>
          cases h2 with
          | lst q2 l2 g2 =>
            intro ρ M r M' θ2 G2 σ H Q p s e rs rv kk
            exact ⟨_, _, _, _, rfl, seqT rs.sub (seqT s q1), .inl (.inl (rs.sub _ _ (s _ _ q2))), Snd.ret (K := X.K) (W := W) (R := RI X.K) (θ0 := θ1) (G0 := G1) (fun _ _ p s => (ri_zipM q1 (.inl (.inl q2)) ⟨l1, g1⟩ ⟨l2, g2⟩).mono p s) ρ M r M' θ2 G2 σ H Q p s e rs rv kk⟩
  · exact Snd.stk
theorem oZipM_ap (a b : List D) (ρ : Env) (M : Mem) : oZipM [.tup a, .lst b] ρ M = some (.ok (zipD a b), M) := rfl
end
end Bw
/-! enumerate of a tuple -/
namespace Bw
open PySem PySem.Spec PyProof.Rows L2
abbrev enObj (it : Nat) : Obj := { cls := .type "enumerate", data := .fields #[.none, .bool false, .ref it, rawInt 0, .none, .none] }
set_option maxHeartbeats 1000000 in
theorem meets_en1 {v : Value} {ob : Obj} {Hh : Heap → Prop} (B : Begins v ob Hh) : Meets (Builtin.«enumerate.__new__» ⟨[.type "enumerate", v], []⟩) (fun _ R s => Hh s.heap ∧ R (.ok (.ret (.ref (s.heap.push ob).objs.size))) { s with heap := (s.heap.push ob).push (enObj s.heap.objs.size) }) := by
  refine .of_wp fun P0 w0 A0 R0 s0 h0 => ?_
  obtain ⟨hp, gs, ds, ts, os⟩ := s0
  obtain ⟨k1, k2⟩ := h0
  have su := sub_enumerate
  have q1 : ∀ {A1 : Around} {E1 : Value → Shared → Prop} {Q1 : Value → Shared → Prop}, Q1 (.ref hp.objs.size) ⟨hp.push ob, gs, ds, ts, os⟩ → wpAny (model P0 w0) A1 (pyIter v) Q1 E1 ⟨hp, gs, ds, ts, os⟩ := fun q => B.iter P0 w0 _ _ ⟨hp, gs, ds, ts, os⟩ _ k1 q
  wp_walk using q1
  refine wpAny_stack_any ?_
  intro st
  refine wpAny_pure ?_
  split
  · rename_i c _ _ _ _ _
    cases (c == Value.type "enumerate") <;> (wp_walk using q1; exact ⟨_, rfl, k2⟩)
  · wp_walk using q1
    exact ⟨_, rfl, k2⟩
theorem call_en1 {P0 : Program} {w0 : World} {A0 : Around} {E0 : Value → Shared → Prop} {s : Shared} {v : Value} {ob : Obj} {Hh : Heap → Prop} {Q0 : Value → Shared → Prop} (B : Begins v ob Hh) (k1 : Hh s.heap)
    (h : ∀ h', IsEnum h' (s.heap.objs.size + 1) s.heap.objs.size 0 .none → h'.get? s.heap.objs.size = some ob → (∀ c o, s.heap.get? c = some o → h'.get? c = some o) → Q0 (.ref (s.heap.objs.size + 1)) { s with heap := h' }) : wpAny (model P0 w0) A0 (call (.type "enumerate") [v]) Q0 E0 s := by
  have z : (s.heap.push ob).objs.size = s.heap.objs.size + 1 := by rw [Heap.size_push]
  refine callType_new F.called_enumerate (by decide) (F.typeCall_enumerate_1 _) (F.newCall_enumerate_1 _) (fun obj => F.args_object_init_2 obj _) F.entry_enumerate_new (meets_en1 B) ⟨k1, ?_⟩
  have he : IsEnum ((s.heap.push ob).push (enObj s.heap.objs.size)) (s.heap.objs.size + 1) s.heap.objs.size 0 .none := by
    have g := Heap.get?_push_size (s.heap.push ob) (o := enObj s.heap.objs.size) rfl
    rw [z] at g; exact g
  show _ ∧ _
  rw [z]
  exact ⟨⟨_, he, rfl⟩, h _ he (Heap.get?_push_of_some _ (Heap.get?_push_size _ B.free)) fun c o x => Heap.get?_push_of_some _ (Heap.get?_push_of_some _ x)⟩
def ItN (K : PySem.W.Frag) (a : Addr) : It where
  go := fun i H => ∃ (us : List V) (x : V), SqT K H a us ∧ us[i]? = some x
  yld := fun i H v H' => ∃ (t : Addr) (x : V), v = .ref t ∧ H t = none ∧ H' = upd H t (.tup [.int (i : Nat), x]) ∧ (∀ us, SqT K H a us → us[i]? = some x)
  stop := fun i H => ∃ us : List V, SqT K H a us ∧ i = us.length
def atN (e j a : Addr) (i : Nat) (h : Heap) : Prop := (∃ old, IsEnum h e j ((0 : Int) + (i : Int)) old) ∧ h.IsTupleIter j a i
theorem turn_N {P : Program} {w : World} {K : PySem.W.Frag} {es : List Expr} {kk : Nat} {tp : Pos} {e j a : Addr} (ne : e ≠ j) (na : a ≠ j) (nea : e ≠ a) : Turn P w K (.Tuple es kk tp) (ItN K a) [e, j] e (atN e j a) where
  mem := by simp
  obj := fun i h st c hc => by
    obtain ⟨⟨old, m1⟩, ⟨o1, m4, _, d1⟩⟩ := st
    simp only [List.mem_cons, List.not_mem_nil, or_false] at hc
    rcases hc with rfl | rfl
    · exact ⟨_, m1, fun v e => nomatch e⟩
    · exact ⟨o1, m4, fun v e => by rw [d1] at e; cases e⟩
  keep := fun i h h' st kp => by
    obtain ⟨⟨old, m1⟩, m4⟩ := st
    exact ⟨⟨old, kp e (by simp) _ m1⟩, m4.at fun o q => kp j (by simp) o q⟩
  item := by
    intro X e1 e2 e3 cm i pins s σ H E I fo st go
    subst e1 e2 e3
    obtain ⟨us, x, qu, hx⟩ := go
    obtain ⟨m1, m4⟩ := st
    obtain ⟨ia, ra, pa, _⟩ := I.tuple qu
    obtain ⟨u, hu, ru⟩ := ra.get hx
    have D1 := Draws.tuple (prog := X.prog) (w := X.w) (A := X.A.in1) (I.ok.hd cm) j a na ia.toArray
    have g := GoesN.enumFrom (elts := es) (x1 := kk) (pos := tp) 0 D1 e ne (by simp [ne, nea]) (by simp)
    have l1 : i < ia.length := by
      by_cases q : i < ia.length
      · exact q
      · rw [List.getElem?_eq_none (by omega)] at hu; cases hu
    refine g.goes i s _ E (by simp; omega) ⟨m1, m4, pa⟩ fun v h' tk yy st' kp _ => ?_
    obtain ⟨T, t, v1, rfl, hT, g1, tt⟩ := yy
    obtain ⟨n1, n4, _⟩ := st'
    have c1 : v1 = u := by
      have : ia[i]? = some v1 := by simpa using g1
      rw [hu] at this; exact (Option.some.inj this).symm
    subst c1
    have zi : (0 : Int) + (i : Int) = ((i : Nat) : Int) := by omega
    rw [zi] at tt
    have new : ObjOk X.prog X.w (upd H T (.tup [.int (i : Nat), x])) h' T (.tup [.int (i : Nat), x]) := ⟨by show 2 ≤ sizeLine; decide, [.int ((i : Nat) : Int) t, v1], .cons ⟨t, rfl⟩ (.cons ru .nil), tt⟩
    have I1 := I.turnedNew (t' := tk) (ch := [e, j]) (fun c o nc q => kp c o nc q) fo hT new
    refine ⟨.ref T, _, I1, rfl, ⟨T, x, rfl, I.hok.fresh hT, rfl, fun l hl => by rw [I.tuple_inj hl qu]; exact hx⟩, ⟨n1, n4⟩, fun c hc => ?_⟩
    have nc : c ≠ T := fun q => by
      subst q
      have lt : ∀ {d : Addr} {o : Obj}, s.heap.get? d = some o → d < s.heap.objs.size := fun q => Heap.lt_size q
      obtain ⟨old, m1⟩ := m1
      obtain ⟨o1, m4, _⟩ := m4
      simp only [List.mem_cons, List.not_mem_nil, or_false] at hc
      rcases hc with rfl | rfl
      · exact absurd (lt m1) (Nat.not_lt.mpr hT)
      · exact absurd (lt m4) (Nat.not_lt.mpr hT)
    rw [upd_ne nc]
    exact (fo c hc).1
  done := by
    intro X e1 e2 e3 cm i pins s σ H E I fo st go
    subst e1 e2 e3
    obtain ⟨us, qu, hi⟩ := go
    obtain ⟨m1, m4⟩ := st
    obtain ⟨ia, ra, pa, _⟩ := I.tuple qu
    have k1 := ra.length
    have D1 := Draws.tuple (prog := X.prog) (w := X.w) (A := X.A.in1) (I.ok.hd cm) j a na ia.toArray
    have g := GoesN.enumFrom (elts := es) (x1 := kk) (pos := tp) 0 D1 e ne (by simp [ne, nea]) (by simp)
    have mm : ia.toArray.size = i := by simp; omega
    rw [mm] at g
    exact g.stops s _ E ⟨m1, m4, pa⟩ fun h' tk kp _ => I.turnedL (t' := tk) (ch := [e, j]) (fun c o nc q => kp c o nc q) fo
  self := fun A i s Q E st h => by
    obtain ⟨⟨old, m1⟩, _⟩ := st
    exact wpAny_pyIter_enum m1 h
def iEnT (K : PySem.W.Frag) (ta : TA) : TI := fun σ H R => ta σ H fun vs H1 => ∃ a us, vs = [.ref a] ∧ SqT K H1 a us ∧ R (ItN K a) H1
theorem pi_enT {X : Cx} {e : Expr} {ta : TA} {p pos tp : Pos} {es : List Expr} {kk : Nat} (hg : Gl X "enumerate") (hm : X.mg "enumerate" = none) (ha : PA X [e] ta) (hs : starEach [e] X.env = [(false, eval e X.env)] := by rfl) : PI X (.Tuple es kk tp) (.Call (.Name "enumerate" p) [e] [] pos) (iEnT X.K ta) := by
  constructor
  intro pn st σ0 H0 R0 J0 h0
  refine Call_ (ld_blt J0 hg hm boot_enumerate (callWith_type1 (thn (ha.run pos pn st σ0 H0 _ J0 h0) ?_) hs rfl))
  rintro us s1 ⟨vs, H1, I1, r1, a, xs, rfl, qx, q⟩
  cases r1 with
  | cons ra rr =>
    cases rr; cases ra
    obtain ⟨ia, va, pa, _⟩ := I1.tuple qx
    have la : a < s1.heap.objs.size := by obtain ⟨o, ho, _⟩ := id pa; exact Heap.lt_size ho
    refine call_en1 (begins_tuple a ia.toArray) pa fun h' g1 g4 kp => wpAny_pyIter_enum g1 ?_
    have I2 : Inv X pn σ0 H1 { s1 with heap := h' } := I1.kept (t' := s1.toks) kp
    have up : ∀ k : Nat, FpOk X pn H1 (s1.heap.objs.size + k) := fun k => I1.fpOk (Nat.le_add_right _ _) (I1.hok.fresh (Nat.le_add_right _ _))
    refine ⟨s1.heap.objs.size + 1, [s1.heap.objs.size + 1, s1.heap.objs.size], _, _, H1, rfl, I2, turn_N (Nat.succ_ne_self _) (Nat.ne_of_lt la) (Nat.ne_of_gt (Nat.lt_succ_of_lt la)), ⟨⟨_, g1⟩, ⟨_, g4, rfl, rfl⟩⟩, fun c hc => ?_, q⟩
    simp only [List.mem_cons, List.not_mem_nil, or_false] at hc
    rcases hc with rfl | rfl
    · exact up 1
    · exact up 0
section
variable {X : Cx} {W : WN} {pos : Pos} {K : PySem.W.Frag}
theorem ri_enT {θ : List Th} {G : Hp} {a : Addr} {xs : List V} {ds : List D} (ha : SqT K G a xs) (r1 : RpL K G xs ds) : RI K θ G (ItN K a) (enumFrom 0 ds) := by
  refine ⟨fun i θ1 G1 H M _ s rs hi => ?_, fun θ1 G1 H M _ s rs => ?_, fun i d θ1 G1 H M x H' _ s rs hd y => ?_⟩
  · rw [enum_len] at hi
    obtain ⟨v, hv, _⟩ := r1.at (List.getElem?_eq_getElem (show i < ds.length by omega))
    exact ⟨xs, v, seqT rs.sub (seqT s ha), hv⟩
  · exact ⟨xs, seqT rs.sub (seqT s ha), by rw [enum_len, r1.len]⟩
  · obtain ⟨T, x1, rfl, hT, rfl, h1⟩ := y
    obtain ⟨u, hu, rfl⟩ := enum_get hd
    have g := rs.fresh hT
    have e1 := h1 xs (seqT rs.sub (seqT s ha))
    refine ⟨upd G1 T (.tup [.int (i : Nat), x1]), same_upd g, rs.laid hT _, .dat ?_⟩
    rw [Nat.zero_add]
    exact rp_pair upd_same (.int _) (((r1.get i _ _ e1 hu).mono s).mono (same_upd g))
def oEnT (ds : List D) : Ev (List D) := match ds with
  | [.tup a] => ret (enumFrom 0 a)
  | _ => stk
theorem di_enT {elts : List Expr} {kk : Nat} {tpos p : Pos} {e : Expr} {h : Ev (List D)} (hm : X.mg "enumerate" = none) (ha : DA X W [e] h) (hg : Gl X "enumerate" := by rfl) (hs : starEach [e] X.env = [(false, eval e X.env)] := by rfl) :
    DI X W (.Tuple elts kk tpos) (.Call (.Name "enumerate" p) [e] [] pos) (bnd h oEnT) := by
  obtain ⟨t, q, s⟩ := ha
  refine ⟨_, pi_enT hg hm q hs, fun θ G => (s θ G).bind (R2 := RI X.K) (k := fun (vs : List V) (_ : L2.St) (H1 : Hp) (R : It → Hp → Prop) => ∃ a us, vs = [.ref a] ∧ SqT X.K H1 a us ∧ R (ItN X.K a) H1) fun θ1 G1 vs ds _ _ hv => ?_⟩
  unfold oEnT
  split
  · rename_i da
    obtain ⟨v, rfl, h1⟩ := vals1 hv
    cases h1 with
    | dat h1 =>
      cases h1 with
      | tup q1 l1 g1 =>
        intro ρ M r M' θ2 G2 σ H Q p s e rs rv kk
        exact ⟨_, _, rfl, seqT rs.sub (seqT s q1), Snd.ret (K := X.K) (W := W) (R := RI X.K) (θ0 := θ1) (G0 := G1) (fun _ _ p s => (ri_enT q1 ⟨l1, g1⟩).mono p s) ρ M r M' θ2 G2 σ H Q p s e rs rv kk⟩
  · exact Snd.stk
theorem oEnT_ap (a : List D) (ρ : Env) (M : Mem) : oEnT [.tup a] ρ M = some (.ok (enumFrom 0 a), M) := rfl
end
end Bw
/-! lists that hold lists that will change -/
namespace Bw
open PySem PySem.Spec PyProof.Rows L2
section
variable {X : Cx} {W : WN} {pos : Pos} {K : PySem.W.Frag}
def oNewN (ds : List D) : Ev D := fun _ M => if ds.length ≤ 16777216 then some (.ok (.npt M.length), M ++ [some ds]) else none
theorem snd_lstNst : SndC K W (fun xs H1 Q => xs.length ≤ sizeLine ∧ ∀ p, H1 p = none → Q (.ref p) (upd H1 p (.lst xs))) oNewN := by
  intro θ0 G0 xs ds hx ρ M r M' θ G σ H Q p s e rs rv kk
  unfold oNewN at e
  split at e
  · rename_i hc
    simp at e
    obtain ⟨e1, e2⟩ := e
    subst e1; subst e2
    have h2 := hx.mono p s
    refine ⟨by rw [h2.len, sizeLine_eq]; exact hc, fun a ha => ?_⟩
    refine (kk (θ ++ [(a, .nst)]) G _ (List.prefix_append _ _) (Same.refl _) (rs.laidN ha h2)).2 _ _ rfl (.npt ?_)
    rw [← rs.len, List.getElem?_append_right (Nat.le_refl _), Nat.sub_self]
    rfl
  · cases e
theorem de_lstNst {es : List Expr} {f : Ev (List D)} (h : DA X W es f) : DE X W (.List es pos) (bnd f oNewN) := by
  obtain ⟨t, p, s⟩ := h
  exact ⟨_, pe_lst p, snd_args snd_lstNst s⟩
/-! x[i] of it -/
def oIxN (d e : D) : Ev D := fun ρ M => match d, e with
  | .npt n, .int i => match M[n]? with
    | some (some ds) => match atI ds i with
      | some x => some (.ok x, M)
      | none => none
    | _ => none
  | _, _ => none
theorem rvl_at {θ : List Th} {G : Hp} {xs : List V} {ds : List D} (r : RvL K θ G xs ds) {i : Int} {d : D} (h : atI ds i = some d) : ∃ v, atI xs i = some v ∧ Rv K θ G v d := by
  unfold atI at h ⊢
  rw [r.len]
  cases q : ixN ds.length i with
  | none => rw [q] at h; cases h
  | some j =>
    rw [q] at h
    have h' : ds[j]? = some d := h
    have lj : j < xs.length := by rw [r.len]; exact (List.getElem?_eq_some_iff.mp h').1
    exact ⟨xs[j], List.getElem?_eq_getElem lj, r.get j _ _ (List.getElem?_eq_getElem lj) h'⟩
theorem snd_ixN : SndO K W (rIxL K) oIxN := by
  intro θ0 G0 x y d e hx hy ρ M r M' θ G σ H Q p s e1 rs rv kk
  unfold oIxN at e1
  split at e1
  · rename_i n i
    split at e1
    · rename_i ds hm
      split at e1
      · rename_i z hz
        cases e1
        have hi := hy.int_of
        subst hi
        cases hx with
        | dat hx => cases hx
        | npt hn =>
          have hn2 := pre_get p hn
          obtain ⟨g, xs, hH, rl⟩ := rs.nst n _ ds hn2 hm
          obtain ⟨v, ev, rz⟩ := rvl_at rl hz
          exact ⟨_, xs, i, v, rfl, rfl, .inl (.inl hH), ev, (kk θ G H (List.prefix_refl _) (Same.refl _) rs).2 _ v rfl (rz.mono (List.take_prefix _ _) (Same.refl _))⟩
      · cases e1
    · cases e1
  · cases e1
theorem de_ixN {a b : Expr} {f g : Ev D} (ha : DE X W a f) (hb : DE X W b g) (hs : PlainIx b := by exact fun _ _ => rfl) : DE X W (.Subscript a b pos) (bnd f fun d => bnd g fun e => oIxN d e) := by
  obtain ⟨ta, pa, sa⟩ := ha
  obtain ⟨tb, pb, sb⟩ := hb
  exact ⟨_, pe_ix ix_list pa pb hs, fun θ G => snd_op snd_ixN sa sb⟩
/-! x[i] = e -/
theorem rvl_set {θ : List Th} {G : Hp} {xs : List V} {ds : List D} (r : RvL K θ G xs ds) {j : Nat} {v : V} {d : D} (h : Rv K θ G v d) : RvL K θ G (xs.set j v) (ds.set j d) := by
  refine ⟨by simp [r.len], fun i w e h1 h2 => ?_⟩
  by_cases hi : j = i
  · subst hi
    have l1 : j < xs.length := by have := (List.getElem?_eq_some_iff.mp h1).1; simpa using this
    have l2 : j < ds.length := by have := (List.getElem?_eq_some_iff.mp h2).1; simpa using this
    rw [List.getElem?_set_self l1] at h1
    rw [List.getElem?_set_self l2] at h2
    cases h1; cases h2; exact h
  · rw [List.getElem?_set_ne hi] at h1 h2
    exact r.get i w e h1 h2
def sStoreN (f fo fi : Ev D) : Sv := thenS f fun d => thenS fo fun o => thenS fi fun i => fun ρ M => match o, i with
  | .npt n, .int k => match M[n]? with
    | some (some ds) => match ixN ds.length k with
      | some j => if d.np = true then some (.nx ρ, M.set n (some (ds.set j d))) else none
      | none => none
    | _ => none
  | _, _ => none
theorem ds_storeN {o i e : Expr} {f fo fi : Ev D} {spos : Pos} (he : DE X W e f) (ho : DE X W o fo) (hi : DE X W i fi)
    (ha : ∀ v, assign (.Subscript o i pos) X.env v = (do
      let ov ← holding [v] (eval o X.env)
      let iv ← holding [v, ov] (eval i X.env)
      standAt pos
      holding [v, ov, iv] (setItem ov iv v)
      release [v, ov, iv] []) := by intro _; rfl)
    (hs : swapsWithSole [.Subscript o i pos] e spos.line X.env = pure false := by rfl) (hw : swappedStores [.Subscript o i pos] e X.env = pure none := by rfl)
    (h1 : (assignEach [.Subscript o i pos] X.env).map (·.2) = [assign (.Subscript o i pos) X.env] := by rfl) : DS X W (.Assign [.Subscript o i pos] e spos) (sStoreN f fo fi) := by
  obtain ⟨t, p, s⟩ := he
  obtain ⟨to, po, so⟩ := ho
  obtain ⟨ti, pi, si⟩ := hi
  refine ⟨_, ps_asg p (pg_sub po pi set_list ha) hs hw h1, ?_⟩
  unfold sStoreN
  refine snd_then (k := fun v (Dn : Ends) σ H1 => to σ H1 fun o H1 => ti σ H1 fun i H2 => rSetL o i v H2 fun H3 => Dn.nx σ H3) s fun θ G v d hv ρ M o M' σ H Dn e rs rv kk => ?_
  refine snd_then' (θ0 := θ) (G0 := G) (k := fun o (Dn : Ends) σ H1 => ti σ H1 fun i H2 => rSetL o i v H2 fun H3 => Dn.nx σ H3) so (fun θ1 G1 vo do' p1 s1 hvo ρ M o M' σ H Dn e rs rv kk => ?_) ρ M o M' θ G σ H Dn (List.prefix_refl _) (Same.refl _) e rs rv kk
  refine snd_then' (θ0 := θ1) (G0 := G1) (k := fun i (Dn : Ends) σ H2 => rSetL vo i v H2 fun H3 => Dn.nx σ H3) si (fun θ2 G2 vi di p2 s2 hvi ρ M o M' σ H Dn e rs rv kk => ?_) ρ M o M' θ1 G1 σ H Dn (List.prefix_refl _) (Same.refl _) e rs rv kk
  split at e
  · rename_i n k hyp
    split at e
    · rename_i ds hm
      split at e
      · rename_i j hj
        split at e
        · rename_i hnp
          simp at e
          obtain ⟨e1, e2⟩ := e
          subst e1; subst e2
          have hvi' := hvi.int_of
          subst hvi'
          cases hvo with
          | dat hvo => cases hvo
          | npt hn =>
            have hn2 := pre_get p2 hn
            obtain ⟨g, xs, hx, rl⟩ := rs.nst n _ ds hn2 hm
            refine ⟨_, xs, k, j, rfl, rfl, hx, by rw [rl.len]; exact hj, ?_⟩
            have rd := (hv.rp hnp).mono (s1.trans s2)
            exact (kk θ2 G2 _ (List.prefix_refl _) (Same.refl _) (rs.putT hn2 g (fun ds e _ => by cases e) (fun b es e _ => by cases e) fun ds2 _ e => ⟨_, rfl, by cases e; exact rvl_set rl (.dat rd)⟩)).nx ρ σ rfl rv
        · cases e
      · cases e
    · cases e
  · cases e
/-! xs.pop(i) -/
theorem rpl_erase {G : Hp} {xs : List V} {ds : List D} (r : RpL K G xs ds) (k : Nat) : RpL K G (xs.eraseIdx k) (ds.eraseIdx k) := by
  refine ⟨by rw [List.length_eraseIdx, List.length_eraseIdx, r.len], fun i v d h1 h2 => ?_⟩
  rw [List.getElem?_eraseIdx] at h1 h2
  split at h1
  · rename_i hi
    rw [if_pos hi] at h2
    exact r.get _ _ _ h1 h2
  · rename_i hi
    rw [if_neg hi] at h2
    exact r.get _ _ _ h1 h2
def oPopI (d y : D) : Ev D := fun ρ M => match d, y with
  | .ptr n, .int i => match M[n]? with
    | some (some ds) => match seqIndex? i ds.length with
      | some k => match ds[k]? with
        | some x => if -(2 ^ 63) ≤ i ∧ i < 2 ^ 63 then some (.ok x, M.set n (some (ds.eraseIdx k))) else none
        | none => none
      | none => none
    | _ => none
  | _, _ => none
theorem de_popI {o e : Expr} {apos : Pos} {f fe : Ev D} (ho : DE X W o f) (ha : DE X W e fe)
    (hbase : attributeBase o "pop" X.env (eval o X.env) = eval o X.env := by rfl)
    (hfew : ((backTo pos (starEach [e] X.env)).all (fun x => !x.1) && (backToKw pos (keywordEach [] X.env)).all (fun x => x.1.isSome)
      && decide ([e].length + ([] : List Keyword).length + (if ([] : List Keyword).isEmpty then 0 else 1) < 30)) = true := by rfl)
    (hline : (apos.endLine == pos.line) = true := by rfl) (hs : starEach [e] X.env = (false, eval e X.env) :: starEach [] X.env := by rfl) (hplain : (backTo pos (starEach [] X.env)).any (·.1) = false := by rfl) :
    DE X W (.Call (.Attribute o "pop" apos) [e] [] pos) (bnd f fun d => bnd (okPtr d) fun d => bnd fe fun y => oPopI d y) := by
  obtain ⟨to, po, so⟩ := ho
  obtain ⟨t, p, s⟩ := ha
  refine ⟨_, pe_bm PySem.F.plainAttrs_list PySem.F.slot_list_pop PySem.F.type_list_pop mt_popAt po (pa_cons p pa_nil hs) hbase hfew hline hs hplain, fun θ G => ?_⟩
  refine (so θ G).bind (R2 := RV X.K) (k := fun (x : V) (σ : L2.St) (H1 : Hp) (Q : V → Hp → Prop) => tyV X.K "list" x H1 ∧ (tCons t tNil) σ H1 fun xs H2 => rPopAt x xs H2 Q) fun θ1 G1 v d _ _ hv => ?_
  intro ρ M r M' θ2 G2 σ H Q p2 s1 e rs rv kk
  unfold bnd at e
  unfold okPtr at e
  cases hv with
  | dat hv => cases hv <;> cases e
  | exv _ _ => cases e
  | dpt _ => cases e
  | npt _ => cases e
  | ptr hn =>
    rename_i n a
    dsimp only at e
    cases q : M[n]? with
    | none => rw [q] at e; cases e
    | some z =>
      cases z with
      | none => rw [q] at e; cases e
      | some ds0 =>
        rw [q] at e
        dsimp only at e
        obtain ⟨g0, xs0, hx0, rl0⟩ := rs.mem n a ds0 (pre_get p2 hn) q
        refine ⟨.inl ⟨rfl, xs0, .inl (.inl hx0)⟩, ?_⟩
        show t σ H fun x H1 => rPopAt (.ref a) [x] H1 Q
        cases qe : fe ρ M with
        | none => rw [qe] at e; cases e
        | some ze =>
          obtain ⟨re, M3⟩ := ze
          rw [qe] at e
          refine s θ2 G2 ρ M re M3 θ2 G2 σ H _ (List.prefix_refl _) (Same.refl _) qe rs rv fun θ4 G4 H4 p4 s4 rs4 => ?_
          cases re with
          | exc C =>
            dsimp only at e
            simp at e
            obtain ⟨e1, e2⟩ := e
            subst e1; subst e2
            exact ⟨fun C' h => (kk θ4 G4 H4 p4 s4 rs4).1 C' (by cases h; rfl), fun d v h => (by cases h)⟩
          | ok y =>
            refine ⟨fun C h => (by cases h), fun d v hd hv => ?_⟩
            cases hd
            unfold oPopI at e
            dsimp only at e
            split at e
            · rename_i n' i e0 
              cases e0
              split at e
              · rename_i ds hds
                split at e
                · rename_i k hk
                  split at e
                  · rename_i x hx1
                    split at e
                    · rename_i hi
                      simp at e
                      obtain ⟨e1, e2⟩ := e
                      subst e1; subst e2
                      have hvi := hv.int_of
                      subst hvi
                      have h4 := pre_get (p2.trans p4) hn
                      obtain ⟨g, xs, hx, rl⟩ := rs4.mem n a ds h4 hds
                      have lk : k < xs.length := by rw [rl.len]; exact (List.getElem?_eq_some_iff.mp hx1).1
                      have gx := List.getElem?_eq_getElem lk
                      exact ⟨a, xs, i, k, xs[k], rfl, rfl, hx, hi.1, hi.2, by rw [rl.len]; exact hk, gx, (kk θ4 G4 _ p4 s4 (rs4.put h4 g (rpl_erase rl k))).2 _ _ rfl (.dat (rl.get k _ _ gx hx1))⟩
                    · cases e
                  · cases e
                · cases e
              · cases e
            · cases e
/-! evaluation -/
theorem oIxN_ap {n : Nat} {ds : List D} (i : Int) (ρ : Env) {M : Mem} (h : M[n]? = some (some ds)) : oIxN (.npt n) (.int i) ρ M = ixR (atI ds i) M := by
  unfold oIxN ixR
  dsimp only
  rw [h]
  all_goals (try dsimp only)
  all_goals (split <;> rename_i h <;> rw [h])
theorem sStoreN_ap (f fo fi : Ev D) (ρ : Env) (M : Mem) : sStoreN f fo fi ρ M = thenR (f ρ M) ρ fun d M1 => thenR (fo ρ M1) ρ fun o M2 => thenR (fi ρ M2) ρ fun i M3 => match o, i with
  | .npt n, .int k => match M3[n]? with
    | some (some ds) => match ixN ds.length k with
      | some j => if d.np = true then some (.nx ρ, M3.set n (some (ds.set j d))) else none
      | none => none
    | _ => none
  | _, _ => none := rfl
theorem oPopI_0 {n : Nat} {d : D} {ds : List D} (ρ : Env) {M : Mem} (h : M[n]? = some (some (d :: ds))) : oPopI (.ptr n) (.int 0) ρ M = some (.ok d, M.set n (some ds)) := by
  unfold oPopI
  dsimp only
  rw [h]
  have e : seqIndex? 0 (d :: ds).length = some 0 := by
    unfold seqIndex?
    simp
  all_goals (try dsimp only)
  all_goals (rw [e])
  all_goals (try simp)
end
end Bw
/-! the first place of a truth in a list of truths; 1 << n -/
namespace Bw
open PySem PySem.Spec PyProof.Rows L2
section
variable {X : Cx} {W : WN} {pos : Pos} {K : PySem.W.Frag}
def idxB (k : Bool) : List Bool → Option Nat
  | [] => none
  | b :: r => if b = k then some 0 else (idxB k r).map (· + 1)
theorem idxB_at {k : Bool} : ∀ {l : List Bool} {j : Nat}, idxB k l = some j → l[j]? = some k ∧ ∀ m b, m < j → l[m]? = some b → (b == k) = false
  | [], j, h => by cases h
  | b :: r, j, h => by
    unfold idxB at h
    split at h
    · rename_i hb
      cases h
      exact ⟨by rw [hb]; rfl, fun m b hm => absurd hm (by omega)⟩
    · rename_i hb
      cases q : idxB k r with
      | none => rw [q] at h; cases h
      | some i =>
        rw [q] at h
        cases h
        obtain ⟨h1, h2⟩ := idxB_at q
        refine ⟨by simpa using h1, fun m c hm hc => ?_⟩
        cases m with
        | zero =>
          simp at hc
          subst hc
          simpa using hb
        | succ m => exact h2 m c (by dsimp only at hm; omega) (by simpa using hc)
def oIdxB (d : D) (es : List D) : Ev D := match d, es with
  | .lst ds, [.bl k] => match blsOf ds with
    | some ns => match idxB k ns with
      | some j => ret (.int (j : Nat))
      | none => stk
    | none => stk
  | _, _ => stk
theorem de_idxB {o e : Expr} {es : List Expr} {apos : Pos} {f : Ev D} {h : Ev (List D)} (ho : DE X W o f) (ha : DA X W (e :: es) h)
    (hbase : attributeBase o "index" X.env (eval o X.env) = eval o X.env := by rfl)
    (hfew : ((backTo pos (starEach (e :: es) X.env)).all (fun x => !x.1) && (backToKw pos (keywordEach [] X.env)).all (fun x => x.1.isSome)
      && decide ((e :: es).length + ([] : List Keyword).length + (if ([] : List Keyword).isEmpty then 0 else 1) < 30)) = true := by rfl)
    (hline : (apos.endLine == pos.line) = true := by rfl) (hs : starEach (e :: es) X.env = (false, eval e X.env) :: starEach es X.env := by rfl) (hplain : (backTo pos (starEach es X.env)).any (·.1) = false := by rfl) :
    DE X W (.Call (.Attribute o "index" apos) (e :: es) [] pos) (bnd f fun d => bnd (oItL d) fun _ => bnd h fun es => oIdxB d es) := by
  obtain ⟨to, po, so⟩ := ho
  obtain ⟨t, p, s⟩ := ha
  refine ⟨_, pe_bm PySem.F.plainAttrs_list PySem.F.slot_list_index PySem.F.type_list_index mt_index po p hbase hfew hline hs hplain, fun θ G => ?_⟩
  refine (so θ G).bind (R2 := RV X.K) (k := fun (x : V) (σ : L2.St) (H1 : Hp) (Q : V → Hp → Prop) => tyV X.K "list" x H1 ∧ t σ H1 fun xs H2 => rIndex X.K x xs H2 Q) fun θ1 G1 v d _ _ hv => ?_
  unfold oItL
  split
  · rename_i ds
    cases hv with
    | dat hv =>
      cases hv with
      | lst hq l g =>
        rename_i a xs
        intro ρ M r M' θ2 G2 σ H Q p s1 e rs rv kk
        refine ⟨.inl ⟨rfl, xs, .inl (.inl (rs.sub _ _ (s1 _ _ hq)))⟩, ?_⟩
        refine (s θ1 G1).bind (R2 := RV X.K) (k := fun (ys : List V) (_ : L2.St) (H2 : Hp) (Q : V → Hp → Prop) => rIndex X.K (.ref a) ys H2 Q) (g := fun es => oIdxB (.lst ds) es) (fun θ3 G3 ys es _ s3 hy => ?_) ρ M r M' θ2 G2 σ H Q p s1 e rs rv kk
        unfold oIdxB
        split
        · rename_i d1 d2 k e1
          split
          · rename_i ns hns
            cases e1
            obtain ⟨u, rfl, hu⟩ := vals1 hy
            rw [hu.bl_of]
            have ex := rpl_bls hns ⟨l, g⟩
            subst ex
            split
            · rename_i j hj
              obtain ⟨j1, j2⟩ := idxB_at hj
              intro ρ M r M' θ4 G4 σ H Q p4 s4 e rs rv kk
              refine ⟨a, ns.map V.bl, .bl k, j, .bl k, rfl, rfl, .inl (.inl (rs.sub _ _ (s4 _ _ (s3 _ _ hq)))), rfl, ?_, ?_, ?_, ?_, Snd.ret (K := X.K) (W := W) (R := RV X.K) (θ0 := θ3) (G0 := G3) (fun _ _ _ _ => .dat (.int _)) ρ M r M' θ4 G4 σ H Q p4 s4 e rs rv kk⟩
              · rw [List.all_eq_true]
                intro y hy
                rw [List.mem_map] at hy
                obtain ⟨b, _, rfl⟩ := hy
                rfl
              · rw [List.getElem?_map, j1]; rfl
              · show (k == k) = true
                simp
              · intro m z hm hz
                rw [List.getElem?_map] at hz
                cases q : ns[m]? with
                | none => rw [q] at hz; cases hz
                | some b =>
                  rw [q] at hz
                  cases hz
                  exact j2 m b hm q
            · exact Snd.stk
          · exact Snd.stk
        · exact Snd.stk
  · exact Snd.stk
/-! << -/
def oShl (d e : D) : Ev D := match d, e with
  | .int i, .int j => if 0 ≤ j ∧ j ≤ 1000000 ∧ i.natAbs < 2 ^ 64 then ret (.int (i * 2 ^ j.toNat)) else stk
  | _, _ => stk
theorem snd_shl : SndO K W (rI CPow fun i j => .int (i * 2 ^ j.toNat)) oShl := by
  intro θ0 G0 x y d e hx hy
  unfold oShl
  split
  · rename_i i j
    split
    · rename_i hc
      have h1 := hx.int_of
      have h2 := hy.int_of
      subst h1; subst h2
      intro ρ M r M' θ4 G4 σ H Q p4 s4 e rs rv kk
      exact ⟨i, j, rfl, rfl, hc, Snd.ret (K := K) (W := W) (R := RV K) (θ0 := θ0) (G0 := G0) (fun _ _ _ _ => .dat (.int _)) ρ M r M' θ4 G4 σ H Q p4 s4 e rs rv kk⟩
    · exact Snd.stk
  · exact Snd.stk
theorem de_shl {a b : Expr} {f g : Ev D} (ha : DE X W a f) (hb : DE X W b g) : DE X W (.BinOp a .LShift b pos) (bnd f fun d => bnd g fun e => oShl d e) := de_op op_shl snd_shl ha hb
end
end Bw
namespace Bw
open PySem PySem.Spec PyProof.Rows L2
/-- a number of the module -/
theorem de_constI {X : Cx} {W : WN} {pos : Pos} {x : Str} {i : Int} {t : Tok} (hm : X.mg x = some (.int i t)) (hg : Gl X x := by rfl) (hdb : (x == ("__debug__" : Str)) = false := by decide) : DE X W (.Name x pos) (ret (.int i)) := ⟨_, pe_glob (v := .int i) hg hm ⟨t, rfl⟩ (hd := hdb), fun _ _ => snd_c fun _ => .int i⟩
end Bw
namespace Bw
open PySem PySem.Spec PyProof.Rows L2
/-- g() of a def -/
theorem pe_callG0 {X : Cx} {C : CXT} {k : Nat} {f : Addr} {fd : FuncData} {ps : List Str} {sp : Sp} {x : Str} {p pos : Pos} {E : L2.St → XK} (F : GOk X.prog X.w X.K X.mg X.base C k f fd ps sp) (hr : Rg k X.A) (hg : Gl X x) (hm : X.mg x = some (.ref f)) (hk : PySem.W.keepIn X.K (.ref f) = true) (hb : Binds X.K fd ps []) (hx : ∀ σ, PassesAt C X σ (E σ))
    (hdb : (x == ("__debug__" : Str)) = false := by decide) : PE X (.Call (.Name x p) [] [] pos) (tCallS sp E tNil) := by
  refine ⟨fun pins s σ H Q I h => wpAny_Call_Name_kw (ld_glob I hg hm (PySem.W.callWith_K0 I.kIn hk ?_) hdb)⟩
  have hl : ([] : List Value).length = ps.length := F.n _ _ _ _ h
  have b := hb s [] I.kIn (by rw [List.append_nil]; exact hl)
  rw [List.append_nil] at b
  refine wpAny_call (codeAny_mono (F.go X.A X.stack s H ⟨[], []⟩ [] [] Q (E σ) hr I.env0 b .nil h) fun res s2 hq => ?_)
  rcases res with er | fl
  · exact hx σ pins H s er s2 I hq
  · cases fl <;> first | exact I.after hq | exact False.elim hq
theorem de_callG0 {X : Cx} {W : WN} {pos : Pos} {C : CXT} {WC : WX} {k : Nat} {f : Addr} {fd : FuncData} {ps : List Str} {F : Fd} {x : Str} {p : Pos} (hw : WOk X.mg WC W) (FO : GOk X.prog X.w X.K X.mg X.base C k f fd ps (spF X.K X.mg 0 F)) (hr : Rg k X.A) (hm : X.mg x = some (.ref f)) (hk : PySem.W.keepIn X.K (.ref f) = true) (hb : Binds X.K fd ps []) (hx : ∀ σ, PassesAt C X σ (WE WC σ))
    (hg : Gl X x := by rfl) (hdb : (x == ("__debug__" : Str)) = false := by decide) :
    DE X W (.Call (.Name x p) [] [] pos) (bnd dNil (oCall 0 F)) := by
  refine ⟨_, pe_callG0 FO hr hg hm hk hb hx hdb, fun θ G => ?_⟩
  intro ρ M r M' θ2 G2 σ H Q p2 s2 e rs rv kk
  have e' : F [] M = some (r, M') := e
  exact ⟨θ2, G2, [], M, r, M', rs, RvL.nil, rfl, e', fun θ' G' H' a b c => ⟨fun x C h1 h2 => hw _ _ _ ((kk θ' G' H' a b c).1 x h1) C h2, (kk θ' G' H' a b c).2⟩⟩
end Bw
/-! repr of data that hold {} and no list; a tuple so many times -/
namespace Bw
open PySem PySem.Spec PyProof.Rows L2
mutual
def toPyE : D → PyData
  | .non => .none
  | .bl b => .bool b
  | .int i => .int i
  | .str z => .str z
  | .tup ds => .tuple (toPysE ds)
  | .emp => .dict []
  | _ => .none
def toPysE : List D → List PyData
  | [] => []
  | d :: ds => toPyE d :: toPysE ds
end
mutual
def D.plE : D → Bool
  | .non => true
  | .bl _ => true
  | .int _ => true
  | .str _ => true
  | .emp => true
  | .tup ds => plEL ds
  | _ => false
def plEL : List D → Bool
  | [] => true
  | d :: ds => d.plE && plEL ds
end
theorem plEL_get : ∀ (ds : List D) (i : Nat) (d : D), plEL ds = true → ds[i]? = some d → d.plE = true
  | [], i, d, _, h => by simp at h
  | e :: ds, 0, d, h, h2 => by
    simp at h2; subst h2
    unfold plEL at h
    exact (Bool.and_eq_true_iff.mp h).1
  | e :: ds, i + 1, d, h, h2 => by
    unfold plEL at h
    exact plEL_get ds i d (Bool.and_eq_true_iff.mp h).2 (by simpa using h2)
theorem plE_np {d : D} (h : d.plE = true) : d.np = true := by
  cases d <;> first | rfl | (unfold D.plE at h; cases h)
section
variable {X : Cx} {pins : List (Addr × Obj)} {σ : L2.St} {H : Hp} {s : Shared}
theorem readsE_all {h : Heap} : ∀ (xs : List V) (ds : List D) (us : List Value), xs.length = ds.length → Vals xs us → (∀ (i : Nat) (v : V) (d : D), xs[i]? = some v → ds[i]? = some d → ∀ u, RelV v u → ∃ as, Reads h u (toPyE d) as ∧ sysModules ∉ as) →
    ∃ as, ReadsAll h us (toPysE ds) as ∧ sysModules ∉ as
  | [], [], us, _, r, _ => by
    cases r
    exact ⟨[], .nil, by simp⟩
  | v :: xs, d :: ds, us, l, r, e => by
    cases r with
    | cons r1 r2 =>
      obtain ⟨as, a1, a2⟩ := e 0 v d rfl rfl _ r1
      obtain ⟨bs, b1, b2⟩ := readsE_all xs ds _ (by simpa using l) r2 fun i w z p q => e (i + 1) w z (by simpa using p) (by simpa using q)
      exact ⟨as ++ bs, .cons a1 b1, fun m => (List.mem_append.mp m).elim a2 b2⟩
  | [], _ :: _, _, l, _, _ => absurd l (by simp)
  | _ :: _, [], _, l, _, _ => absurd l (by simp)
theorem readsE (I : L2.Inv X pins σ H s) {v : V} {d : D} (h : Rp X.K H v d) (pl : d.plE = true) : ∀ u, RelV v u → ∃ as, Reads s.heap u (toPyE d) as ∧ sysModules ∉ as := by
  induction h with
  | non => intro u r; cases r; exact ⟨[], .none, by simp⟩
  | bl b => intro u r; cases r; exact ⟨[], .bool b, by simp⟩
  | int i => intro u r; obtain ⟨t, rfl⟩ := r; exact ⟨[], .int i t, by simp⟩
  | str z => intro u r; obtain ⟨t, rfl⟩ := r; exact ⟨[], .str z t, by simp⟩
  | tup h l e ih =>
    intro u r
    cases r
    obtain ⟨its, rv, ⟨o, ho, hc, n, hd⟩, _⟩ := I.tuple h
    obtain ⟨as, a1, a2⟩ := readsE_all (h := s.heap) _ _ its l rv fun i v d a b => ih i v d a b (plEL_get _ i d (by unfold D.plE at pl; exact pl) b)
    exact ⟨as, .tuple ho hc hd a1, a2⟩
  | emp h =>
    intro u r
    cases r
    rename_i a
    obtain ⟨_, hs, vs, kv, o, es, ep, ho, hx, hd, _, hp, _⟩ := dk_of I.hok h
    have vn : vs = [] := by cases kv; rfl
    subst vn
    have en : es.toList = [] := by
      have := hp.length
      exact List.eq_nil_of_length_eq_zero (by simpa using this)
    refine ⟨a :: [] ++ [], .dict ho hx.1 hd (by rw [en]; exact .nil) (by rw [en]; exact .nil), ?_⟩
    simp only [List.cons_append, List.nil_append, List.mem_cons, List.not_mem_nil, or_false]
    intro z
    rw [← z] at hs
    simp at hs
  | lst h l e ih => unfold D.plE at pl; cases pl
  | scr h l e ih => unfold D.plE at pl; cases pl
end
def rReprE (K : PySem.W.Frag) : List V → Hp → VK → Prop := fun xs H Q => ∃ x d, xs = [x] ∧ Rp K H x d ∧ d.plE = true ∧ (toPyE d).showable = true ∧ (toPyE d).depth ≤ 100 ∧ (toPyE d).shown.length ≤ sizeLine ∧ Q (.str (toPyE d).shown) H
theorem call_reprE {X : Cx} (hg : X.A.guards = some []) (hu : X.A.units + 200 < cLine) : CallR X (.builtin "repr") (rReprE X.K) := by
  intro pins s σ H xs us Q I r h
  obtain ⟨x, d, rfl, hd, pl, hs, hp, hz, q⟩ := h
  obtain ⟨u, rfl, ru⟩ := L2.vals1 r
  obtain ⟨as, rd, na⟩ := readsE I hd pl u ru
  generalize toPyE d = z at *
  cases rd with
  | none => exact PySem.P.repr_of_none ⟨.str _, H, I.tok _, ⟨_, rfl⟩, q⟩
  | bool b => exact PySem.P.repr_of_bool ⟨.str _, H, I.tok _, ⟨_, by cases b <;> rfl⟩, q⟩
  | int i t => exact PySem.P.repr_of_int (by simpa [PyData.showable] using hs) ⟨.str _, H, I.tok _, ⟨_, rfl⟩, q⟩
  | str z t => exact PySem.P.repr_of_str ⟨.str _, H, I.tok _, ⟨_, rfl⟩, q⟩ hz
  | list a b c e => exact repr_of_reads' (Reads.list a b c e) hs (fun _ => na) hg (by omega) (fun _ _ z => z) (fun h' v tk k => ⟨.str _, H, I.kept (t' := tk) k, ⟨_, rfl⟩, q⟩) hz
  | tuple a b c e => exact repr_of_reads' (Reads.tuple a b c e) hs (fun _ => na) hg (by omega) (fun _ _ z => z) (fun h' v tk k => ⟨.str _, H, I.kept (t' := tk) k, ⟨_, rfl⟩, q⟩) hz
  | dict a b c e f => exact repr_of_reads' (Reads.dict a b c e f) hs (fun _ => na) hg (by omega) (fun _ _ z => z) (fun h' v tk k => ⟨.str _, H, I.kept (t' := tk) k, ⟨_, rfl⟩, q⟩) hz
/-- either way -/
def oReprA (ds : List D) : Ev D := match ds with
  | [d] => if d.plE = true then (if (toPyE d).showable = true ∧ (toPyE d).depth ≤ 100 ∧ (toPyE d).shown.length ≤ 16777216 then ret (.str (toPyE d).shown) else stk) else oReprD [d]
  | _ => stk
section
variable {X : Cx} {W : WN} {pos : Pos} {K : PySem.W.Frag}
theorem snd_reprA : SndC K W (fun xs H Q => rRepr K xs H Q ∨ rReprE K xs H Q) oReprA := by
  intro θ0 G0 xs ds hx
  unfold oReprA
  split
  · rename_i d
    split
    · rename_i pl
      split
      · rename_i c
        obtain ⟨v, rfl, hv⟩ := vals1 hx
        intro ρ M r M' θ G σ H Q p s e rs rv kk
        exact .inr ⟨v, d, rfl, ((hv.rp (plE_np pl)).mono s).mono rs.sub, pl, c.1, c.2.1, by rw [sizeLine_eq]; exact c.2.2, Snd.ret (K := K) (W := W) (R := RV K) (θ0 := θ0) (G0 := G0) (fun _ _ _ _ => .dat (.str _)) ρ M r M' θ G σ H Q p s e rs rv kk⟩
      · exact Snd.stk
    · intro ρ M r M' θ G σ H Q p s e rs rv kk
      exact .inl (snd_reprD θ0 G0 xs [d] hx ρ M r M' θ G σ H Q p s e rs rv kk)
  · exact Snd.stk
theorem CallR.or' {X : Cx} {f : Value} {r r2 : List V → Hp → VK → Prop} (h : CallR X f r) (h2 : CallR X f r2) : CallR X f (fun xs H Q => r xs H Q ∨ r2 xs H Q) := by
  intro pins s σ H xs us Q I rv q
  rcases q with q | q
  · exact h pins s σ H xs us Q I rv q
  · exact h2 pins s σ H xs us Q I rv q
theorem de_reprA {p : Pos} {e : Expr} {es : List Expr} {h : Ev (List D)} (hr : ∃ k, Rg k X.A) (hm : X.mg "repr" = none) (ha : DA X W (e :: es) h) (hg : Gl X "repr" := by rfl) (he : starEach (e :: es) X.env = (false, eval e X.env) :: starEach es X.env := by rfl) (hpl : (backTo pos (starEach es X.env)).any (·.1) = false := by rfl) : DE X W (.Call (.Name "repr" p) (e :: es) [] pos) (bnd h oReprA) := by
  obtain ⟨k, hr⟩ := hr
  exact de_callB (CallR.or' (call_reprD hr.g hr.un200) (call_reprE hr.g hr.un200)) snd_reprA hm (by decide +kernel) ha hg (by decide) (by decide) he hpl
/-! a tuple so many times -/
def oRepT (d e : D) : Ev D := match d, e with
  | .tup ds, .int k => if ds ≠ [] ∧ 2 ≤ k ∧ k ≤ 1000 ∧ ds.length ≤ 1000 then ret (.tup (List.replicate k.toNat ds).flatten) else stk
  | _, _ => stk
theorem snd_repT : SndO K W (rRepT K) oRepT := by
  intro θ0 G0 x y d e hx hy
  unfold oRepT
  split
  · rename_i ds k
    split
    · rename_i hc
      have h2 := hy.int_of
      subst h2
      intro ρ M r M' θ G σ H Q p s e rs rv kk
      unfold ret at e
      cases e
      cases hx with
      | dat hx =>
        cases hx with
        | tup ht l g =>
          rename_i a xs
          refine ⟨a, k, xs, rfl, rfl, seqT (fun _ _ h => rs.sub _ _ (s _ _ h)) ht, fun z => hc.1 ?_, hc.2.1, hc.2.2.1, by rw [l]; exact hc.2.2.2, fun q hq => ?_⟩
          · subst z
            exact List.eq_nil_of_length_eq_zero l.symm
          · have rl : RpL K G (List.replicate k.toNat xs).flatten (List.replicate k.toNat ds).flatten := (rpl_rep (⟨l, g⟩ : RpL K _ xs ds) k.toNat).mono s
            have sm := same_upd (o := HO.tup (List.replicate k.toNat xs).flatten) (rs.fresh hq)
            exact (kk θ _ _ (List.prefix_refl _) sm (rs.laid hq _)).2 _ _ rfl (.dat (rp_tup upd_same (rl.mono sm)))
    · exact Snd.stk
  · exact Snd.stk
theorem de_repT {a b : Expr} {f g : Ev D} (ha : DE X W a f) (hb : DE X W b g) : DE X W (.BinOp a .Mult b pos) (bnd f fun d => bnd g fun e => oRepT d e) := de_op op_repT snd_repT ha hb
end
end Bw
namespace Bw
open PySem PySem.Spec PyProof.Rows L2
def C_NOUGHT : D := .tup [.int 0, .int 1]
noncomputable def den__law_urn_L1 : Sv :=
  (sAsg (bnd (bnd (bnd (bnd (dVar 1) fun d => bnd (ret (.int 69621)) fun e => oMul d e) fun d => bnd (bnd (dVar 2) fun d => bnd (ret (.int 2147483629)) fun e => oMod d e) fun e => oAdd d e) fun d => bnd (ret (.int 1)) fun e => oAdd d e) fun d => bnd (ret (.int 2147483563)) fun e => oMod d e) (gNm 1))
noncomputable def den__law_urn : Sv :=
  (sSeq (sAsg (bnd (bnd (dCons (dVar 0) dNil) oLen) fun d => bnd (ret (.int 11)) fun e => oAdd d e) (gNm 1))
  (sSeq (sFor (bnd (bnd (dVar 0) fun d => bnd (ret none) fun l => bnd (bnd (ret (.int 63)) asI) fun u => oSl d l u) oItS) (gNm 2) den__law_urn_L1)
  (sRet (bnd (dCons (bnd (dCons (bnd (dVar 0) fun d => bnd (ret none) fun l => bnd (bnd (ret (.int 63)) asI) fun u => oSl d l u) dNil) oLstN) (dCons (ret (.int 0)) (dCons (ret (.int 0)) (dCons (dVar 1) dNil)))) oNewN))))
noncomputable def F__law_urn : Fd := runF 2 ["_law_script", "_law_fold", "_law_cell"] den__law_urn
theorem hF__law_urn : ∀ ds M r M', ds.length = 1 → F__law_urn ds M = some (r, M') → M.length ≤ M'.length ∧ ∃ o M2, den__law_urn (startD ["_law_script", "_law_fold", "_law_cell"] ds) M = some (o, M2) ∧ Exit o M2 r M' := runF_ok
theorem hX__law_urn : ∀ ds M C M', F__law_urn ds M ≠ some (.exc C, M') := runF_nx
noncomputable def den__law_made_L1 : Sv :=
  (sPar 2 3 (dCons (dVar 3) (dCons (bnd (dVar 2) fun d => bnd (dVar 3) fun e => oMod d e) dNil)))
noncomputable def den__law_made : Sv :=
  (sSeq (sPar 2 3 (dCons (bnd (dCons (dVar 0) dNil) oAbs) (dCons (dVar 1) dNil)))
  (sSeq (sWhile (bnd (bnd (dVar 3) fun d => bnd (ret (.int 0)) fun e => oNe d e) asB) den__law_made_L1)
  (sRet (bnd (dCons (bnd (dVar 0) fun d => bnd (dVar 2) fun e => oDiv d e) (dCons (bnd (dVar 1) fun d => bnd (dVar 2) fun e => oDiv d e) dNil)) oTup))))
noncomputable def F__law_made : Fd := runF 0 ["_law_a", "_law_b", "_law_one", "_law_other"] den__law_made
theorem hF__law_made : ∀ ds M r M', ds.length = 2 → F__law_made ds M = some (r, M') → M.length ≤ M'.length ∧ ∃ o M2, den__law_made (startD ["_law_a", "_law_b", "_law_one", "_law_other"] ds) M = some (o, M2) ∧ Exit o M2 r M' := runF_ok
theorem hX__law_made : ∀ ds M C M', F__law_made ds M ≠ some (.exc C, M') := runF_nx
noncomputable def den__law_mixed : Sv :=
  (sSeq (sAsg (bnd (dCons (ret (.int 2147483647)) (dCons (ret (.int 2147483629)) (dCons (ret (.int 2147483587)) (dCons (ret (.int 2147483579)) (dCons (ret (.int 2147483563)) (dCons (ret (.int 2147483549)) (dCons (ret (.int 2147483543)) dNil))))))) oLst) (gNm 2))
  (sSeq (sAsg (bnd (bnd (bnd (bnd (bnd (bnd (dVar 0) fun d => bnd (ret (.int 1000000007)) fun e => oMod d e) fun d => bnd (bnd (bnd (ret (.int 2)) fun d => bnd (dVar 1) fun e => oMul d e) fun d => bnd (ret (.int 3)) fun e => oAdd d e) fun e => oMul d e) fun d => bnd (bnd (ret (.int 7919)) fun d => bnd (dVar 1) fun e => oMul d e) fun e => oAdd d e) fun d => bnd (ret (.int 101)) fun e => oAdd d e) fun d => bnd (ret (.int 3)) fun e => oPow d e) fun d => bnd (bnd (dVar 2) fun d => bnd (bnd (dVar 1) fun d => bnd (ret (.int 7)) fun e => oMod d e) fun e => oIx d e) fun e => oMod d e) (gNm 3))
  (sSeq (sAsg (bnd (bnd (bnd (bnd (bnd (dVar 3) fun d => bnd (bnd (dVar 1) fun d => bnd (ret (.int 5)) fun e => oAdd d e) fun e => oMul d e) fun d => bnd (bnd (dVar 0) fun d => bnd (ret (.int 65521)) fun e => oMod d e) fun e => oAdd d e) fun d => bnd (ret (.int 13)) fun e => oAdd d e) fun d => bnd (ret (.int 5)) fun e => oPow d e) fun d => bnd (bnd (dVar 2) fun d => bnd (bnd (bnd (dVar 1) fun d => bnd (ret (.int 3)) fun e => oAdd d e) fun d => bnd (ret (.int 7)) fun e => oMod d e) fun e => oIx d e) fun e => oMod d e) (gNm 4))
  (sSeq (sAsg (bnd (bnd (bnd (bnd (bnd (dVar 4) fun d => bnd (bnd (dVar 3) fun d => bnd (ret (.int 10007)) fun e => oMod d e) fun e => oAdd d e) fun d => bnd (bnd (ret (.int 29)) fun d => bnd (dVar 1) fun e => oMul d e) fun e => oAdd d e) fun d => bnd (ret (.int 1)) fun e => oAdd d e) fun d => bnd (ret (.int 3)) fun e => oPow d e) fun d => bnd (bnd (dVar 2) fun d => bnd (bnd (bnd (dVar 1) fun d => bnd (ret (.int 5)) fun e => oAdd d e) fun d => bnd (ret (.int 7)) fun e => oMod d e) fun e => oIx d e) fun e => oMod d e) (gNm 5))
  (sRet (bnd (bnd (bnd (bnd (dVar 3) fun d => bnd (ret (.int 2147483647)) fun e => oMul d e) fun d => bnd (dVar 4) fun e => oAdd d e) fun d => bnd (ret (.int 2147483647)) fun e => oMul d e) fun d => bnd (dVar 5) fun e => oAdd d e))))))
noncomputable def F__law_mixed : Fd := runF 0 ["_law_cell", "_law_k", "_law_primes", "_law_one", "_law_two", "_law_three"] den__law_mixed
theorem hF__law_mixed : ∀ ds M r M', ds.length = 2 → F__law_mixed ds M = some (r, M') → M.length ≤ M'.length ∧ ∃ o M2, den__law_mixed (startD ["_law_cell", "_law_k", "_law_primes", "_law_one", "_law_two", "_law_three"] ds) M = some (o, M2) ∧ Exit o M2 r M' := runF_ok
theorem hX__law_mixed : ∀ ds M C M', F__law_mixed ds M ≠ some (.exc C, M') := runF_nx
noncomputable def den__law_draw : Sv :=
  (sSeq (sIf (bnd (bnd (bnd (dVar 0) fun d => bnd (ret (.int 1)) fun e => oIxN d e) fun d => bnd (dVar 1) fun e => oLt d e) asB) (sSeq (sStoreN (bnd (bnd (dVar 0) fun d => bnd (ret (.int 2)) fun e => oIxN d e) fun d => bnd (ret (.int 1)) fun e => oAdd d e) (dVar 0) (ret (.int 2)))
  (sSeq (sAsg (bnd (dVar 0) fun d => bnd (ret (.int 3)) fun e => oIxN d e) (gNm 3))
  (sSeq (sIf (bnd (bnd (bnd (dVar 0) fun d => bnd (ret (.int 0)) fun e => oIxN d e) fun d => bnd (bnd dNil oLst) fun e => oNeM d e) asB) (sAsg (bnd (bnd (dVar 0) fun d => bnd (ret (.int 0)) fun e => oIxN d e) fun d => bnd (okPtr d) fun d => bnd (ret (.int 0)) fun y => oPopI d y) (gNm 3)) sNext)
  (sSeq (sStoreN (dVar 3) (dVar 0) (ret (.int 1)))
  (sIf (bnd (bnd (dVar 3) fun d => bnd (bnd (ret (.int 10)) fun d => bnd (ret (.int 18)) fun e => oPow d e) fun e => oLt d e) asB) (sStoreN (bnd (dCons (dVar 3) (dCons (bnd (dVar 0) fun d => bnd (ret (.int 2)) fun e => oIxN d e) dNil)) (oCall 2 F__law_mixed)) (dVar 0) (ret (.int 1))) sNext))))) sNext)
  (sSeq (sAsg (bnd (bnd (dVar 0) fun d => bnd (ret (.int 1)) fun e => oIxN d e) fun d => bnd (dVar 1) fun e => oMod d e) (gNm 2))
  (sSeq (sStoreN (bnd (bnd (dVar 0) fun d => bnd (ret (.int 1)) fun e => oIxN d e) fun d => bnd (dVar 1) fun e => oDiv d e) (dVar 0) (ret (.int 1)))
  (sRet (dVar 2)))))
noncomputable def F__law_draw : Fd := runF 0 ["_law_urn_here", "_law_many", "_law_found", "_law_cell"] den__law_draw
theorem hF__law_draw : ∀ ds M r M', ds.length = 2 → F__law_draw ds M = some (r, M') → M.length ≤ M'.length ∧ ∃ o M2, den__law_draw (startD ["_law_urn_here", "_law_many", "_law_found", "_law_cell"] ds) M = some (o, M2) ∧ Exit o M2 r M' := runF_ok
theorem hX__law_draw : ∀ ds M C M', F__law_draw ds M ≠ some (.exc C, M') := runF_nx
noncomputable def den__law_a_below : Sv :=
  (sRet (bnd (bnd (dCons (ret (.int 1)) (dCons (ret (.int 1)) (dCons (ret (.int 1)) (dCons (ret (.int 2)) (dCons (ret (.int 3)) (dCons (ret (.int 4)) (dCons (ret (.int 6)) (dCons (ret (.int 12)) (dCons (ret (.int 7)) (dCons (ret (.int 997)) (dCons (bnd (ret (.int 1)) fun d => bnd (bnd (dCons (dVar 0) (dCons (ret (.int 1000)) dNil)) (oCall 2 F__law_draw)) fun e => oAdd d e) dNil))))))))))) oLst) fun d => bnd (bnd (dCons (dVar 0) (dCons (ret (.int 11)) dNil)) (oCall 2 F__law_draw)) fun e => oIx d e))
noncomputable def F__law_a_below : Fd := runF 0 ["_law_urn_here"] den__law_a_below
theorem hF__law_a_below : ∀ ds M r M', ds.length = 1 → F__law_a_below ds M = some (r, M') → M.length ≤ M'.length ∧ ∃ o M2, den__law_a_below (startD ["_law_urn_here"] ds) M = some (o, M2) ∧ Exit o M2 r M' := runF_ok
theorem hX__law_a_below : ∀ ds M C M', F__law_a_below ds M ≠ some (.exc C, M') := runF_nx
noncomputable def den__law_amount : Sv :=
  (sSeq (sAsg (bnd (bnd (dCons (ret (.int 4)) (dCons (ret (.int 13)) (dCons (ret (.int 101)) (dCons (bnd (bnd (ret (.int 10)) fun d => bnd (ret (.int 6)) fun e => oPow d e) fun d => bnd (ret (.int 1)) fun e => oAdd d e) dNil)))) oLst) fun d => bnd (bnd (dCons (dVar 0) (dCons (ret (.int 4)) dNil)) (oCall 2 F__law_draw)) fun e => oIx d e) (gNm 1))
  (sRet (bnd (dCons (bnd (dCons (dVar 0) (dCons (dVar 1) dNil)) (oCall 2 F__law_draw)) (dCons (bnd (dCons (dVar 0) dNil) (oCall 1 F__law_a_below)) dNil)) (oCall 2 F__law_made))))
noncomputable def F__law_amount : Fd := runF 0 ["_law_urn_here", "_law_most"] den__law_amount
theorem hF__law_amount : ∀ ds M r M', ds.length = 1 → F__law_amount ds M = some (r, M') → M.length ≤ M'.length ∧ ∃ o M2, den__law_amount (startD ["_law_urn_here", "_law_most"] ds) M = some (o, M2) ∧ Exit o M2 r M' := runF_ok
theorem hX__law_amount : ∀ ds M C M', F__law_amount ds M ≠ some (.exc C, M') := runF_nx
noncomputable def den__law_any : Sv :=
  (sSeq (sAsg (bnd (dCons (dVar 0) dNil) (oCall 1 F__law_amount)) (gNm 1))
  (sRet (bnd (dCons (bnd (bnd (dVar 1) fun d => bnd (ret (.int 0)) fun e => oIx d e) fun d => bnd (bnd (bnd (dCons (ret (.int 1)) (dCons (bnd (ret (.int 1)) oNeg) dNil)) oLst) fun d => bnd (bnd (dCons (dVar 0) (dCons (ret (.int 2)) dNil)) (oCall 2 F__law_draw)) fun e => oIx d e) fun e => oMul d e) (dCons (bnd (dVar 1) fun d => bnd (ret (.int 1)) fun e => oIx d e) dNil)) oTup)))
noncomputable def F__law_any : Fd := runF 0 ["_law_urn_here", "_law_one"] den__law_any
theorem hF__law_any : ∀ ds M r M', ds.length = 1 → F__law_any ds M = some (r, M') → M.length ≤ M'.length ∧ ∃ o M2, den__law_any (startD ["_law_urn_here", "_law_one"] ds) M = some (o, M2) ∧ Exit o M2 r M' := runF_ok
theorem hX__law_any : ∀ ds M C M', F__law_any ds M ≠ some (.exc C, M') := runF_nx
noncomputable def den_is_whole : Sv :=
  (sRet (dAndV (bnd (dVar 0) (oIsi (fun a => kitB a "int") (fun _ => none))) (dNotV (bnd (dVar 0) (oIsi (fun a => kitB a "bool") (fun _ => none))))))
noncomputable def F_is_whole : Fd := runF 0 ["thing"] den_is_whole
theorem hF_is_whole : ∀ ds M r M', ds.length = 1 → F_is_whole ds M = some (r, M') → M.length ≤ M'.length ∧ ∃ o M2, den_is_whole (startD ["thing"] ds) M = some (o, M2) ∧ Exit o M2 r M' := runF_ok
theorem hX_is_whole : ∀ ds M C M', F_is_whole ds M ≠ some (.exc C, M') := runF_nx
noncomputable def den_common_L1 : Sv :=
  (sPar 0 1 (dCons (dVar 1) (dCons (bnd (dVar 0) fun d => bnd (dVar 1) fun e => oMod d e) dNil)))
noncomputable def den_common : Sv :=
  (sSeq (sWhile (bnd (bnd (dVar 1) fun d => bnd (ret (.int 0)) fun e => oNe d e) asB) den_common_L1)
  (sRet (bnd (dCons (dVar 0) dNil) oAbs)))
noncomputable def F_common : Fd := runF 0 ["a", "b"] den_common
theorem hF_common : ∀ ds M r M', ds.length = 2 → F_common ds M = some (r, M') → M.length ≤ M'.length ∧ ∃ o M2, den_common (startD ["a", "b"] ds) M = some (o, M2) ∧ Exit o M2 r M' := runF_ok
theorem hX_common : ∀ ds M C M', F_common ds M ≠ some (.exc C, M') := runF_nx
noncomputable def den_is_fraction : Sv :=
  (sSeq (sIf (dOr (dNot (bnd (bnd (dVar 0) (oIsi (fun a => kitB a "tuple") (fun _ => none))) asB)) (bnd (bnd (bnd (dCons (dVar 0) dNil) oLen) fun d => bnd (ret (.int 2)) fun e => oNe d e) asB)) (sRet (ret (.bl false))) sNext)
  (sSeq (sAsg (dVar 0) (gTp 2 (gCn (gNm 1) (gCn (gNm 2) gNl))))
  (sRet (dAndV (bnd (dCons (dVar 1) dNil) (oCall 1 F_is_whole)) (dAndV (bnd (dCons (dVar 2) dNil) (oCall 1 F_is_whole)) (dAndV (bnd (dVar 2) fun d => bnd (ret (.int 0)) fun e => oGt d e) (bnd (bnd (dCons (dVar 1) (dCons (dVar 2) dNil)) (oCall 2 F_common)) fun d => bnd (ret (.int 1)) fun e => oEq d e)))))))
noncomputable def F_is_fraction : Fd := runF 0 ["thing", "a", "b"] den_is_fraction
theorem hF_is_fraction : ∀ ds M r M', ds.length = 1 → F_is_fraction ds M = some (r, M') → M.length ≤ M'.length ∧ ∃ o M2, den_is_fraction (startD ["thing", "a", "b"] ds) M = some (o, M2) ∧ Exit o M2 r M' := runF_ok
theorem hX_is_fraction : ∀ ds M C M', F_is_fraction ds M ≠ some (.exc C, M') := runF_nx
noncomputable def den_is_positive : Sv :=
  (sRet (dAndV (bnd (dCons (dVar 0) dNil) (oCall 1 F_is_fraction)) (bnd (bnd (dVar 0) fun d => bnd (ret (.int 0)) fun e => oIx d e) fun d => bnd (ret (.int 0)) fun e => oGt d e)))
noncomputable def F_is_positive : Fd := runF 0 ["thing"] den_is_positive
theorem hF_is_positive : ∀ ds M r M', ds.length = 1 → F_is_positive ds M = some (r, M') → M.length ≤ M'.length ∧ ∃ o M2, den_is_positive (startD ["thing"] ds) M = some (o, M2) ∧ Exit o M2 r M' := runF_ok
theorem hX_is_positive : ∀ ds M C M', F_is_positive ds M ≠ some (.exc C, M') := runF_nx
noncomputable def den_is_pan : Sv :=
  (sSeq (sIf (dOr (dNot (bnd (bnd (dVar 0) (oIsi (fun a => kitB a "tuple") (fun _ => none))) asB)) (bnd (bnd (bnd (dCons (dVar 0) dNil) oLen) fun d => bnd (ret (.int 2)) fun e => oNe d e) asB)) (sRet (ret (.bl false))) sNext)
  (sSeq (sAsg (dVar 0) (gTp 2 (gCn (gNm 1) (gCn (gNm 2) gNl))))
  (sRet (dAndV (bnd (dCons (dVar 1) dNil) (oCall 1 F_is_positive)) (bnd (dCons (dVar 2) dNil) (oCall 1 F_is_positive))))))
noncomputable def F_is_pan : Fd := runF 0 ["thing", "area", "depth"] den_is_pan
theorem hF_is_pan : ∀ ds M r M', ds.length = 1 → F_is_pan ds M = some (r, M') → M.length ≤ M'.length ∧ ∃ o M2, den_is_pan (startD ["thing", "area", "depth"] ds) M = some (o, M2) ∧ Exit o M2 r M' := runF_ok
theorem hX_is_pan : ∀ ds M C M', F_is_pan ds M ≠ some (.exc C, M') := runF_nx
noncomputable def den__law_same (FR : Fd) : Sv :=
  (sSeq (sIf (bnd (bnd (dVar 1) (oIsi (fun a => kitB a "tuple") (fun _ => none))) asB) (sRet (dAndV (bnd (dVar 0) (oIsi (fun a => kitB a "tuple") (fun _ => none))) (dAndV (bnd (bnd (dCons (dVar 0) dNil) oLen) fun d => bnd (bnd (dCons (dVar 1) dNil) oLen) fun e => oEq d e) (bnd (dCons (bnd (bnd (dCons (dVar 0) (dCons (dVar 1) dNil)) oZip) (oLc (gTp 2 (gCn (gNm 2) (gCn (gNm 3) gNl))) (ret true) (bnd (dCons (dVar 2) (dCons (dVar 3) dNil)) (oCall 2 FR)) [2, 3])) dNil) oAll)))) sNext)
  (sSeq (sIf (bnd (bnd (dVar 1) fun d => bnd (ret .non) fun e => oIsN d e) asB) (sRet (bnd (dVar 0) fun d => bnd (ret .non) fun e => oIsN d e)) sNext)
  (sRet (dAndV (bnd (dVar 0) (oIsi (fun a => kitB a "int") (fun _ => none))) (dAndV (dNotV (bnd (dVar 0) (oIsi (fun a => kitB a "bool") (fun _ => none)))) (bnd (dVar 0) fun d => bnd (dVar 1) fun e => oEq d e))))))
noncomputable def Fn__law_same : Nat → Fd
  | 0 => fun _ _ => none
  | n + 1 => runF 0 ["_law_found", "_law_due", "_law_one", "_law_other"] (den__law_same (Fn__law_same n))
noncomputable def F__law_same : Fd := Fn__law_same 12
noncomputable def den__law_times : Sv :=
  (sRet (bnd (dCons (bnd (bnd (dVar 0) fun d => bnd (ret (.int 0)) fun e => oIx d e) fun d => bnd (bnd (dVar 1) fun d => bnd (ret (.int 0)) fun e => oIx d e) fun e => oMul d e) (dCons (bnd (bnd (dVar 0) fun d => bnd (ret (.int 1)) fun e => oIx d e) fun d => bnd (bnd (dVar 1) fun d => bnd (ret (.int 1)) fun e => oIx d e) fun e => oMul d e) dNil)) (oCall 2 F__law_made)))
noncomputable def F__law_times : Fd := runF 0 ["_law_one", "_law_other"] den__law_times
theorem hF__law_times : ∀ ds M r M', ds.length = 2 → F__law_times ds M = some (r, M') → M.length ≤ M'.length ∧ ∃ o M2, den__law_times (startD ["_law_one", "_law_other"] ds) M = some (o, M2) ∧ Exit o M2 r M' := runF_ok
theorem hX__law_times : ∀ ds M C M', F__law_times ds M ≠ some (.exc C, M') := runF_nx
noncomputable def den__law_plus : Sv :=
  (sRet (bnd (dCons (bnd (bnd (bnd (dVar 0) fun d => bnd (ret (.int 0)) fun e => oIx d e) fun d => bnd (bnd (dVar 1) fun d => bnd (ret (.int 1)) fun e => oIx d e) fun e => oMul d e) fun d => bnd (bnd (bnd (dVar 1) fun d => bnd (ret (.int 0)) fun e => oIx d e) fun d => bnd (bnd (dVar 0) fun d => bnd (ret (.int 1)) fun e => oIx d e) fun e => oMul d e) fun e => oAdd d e) (dCons (bnd (bnd (dVar 0) fun d => bnd (ret (.int 1)) fun e => oIx d e) fun d => bnd (bnd (dVar 1) fun d => bnd (ret (.int 1)) fun e => oIx d e) fun e => oMul d e) dNil)) (oCall 2 F__law_made)))
noncomputable def F__law_plus : Fd := runF 0 ["_law_one", "_law_other"] den__law_plus
theorem hF__law_plus : ∀ ds M r M', ds.length = 2 → F__law_plus ds M = some (r, M') → M.length ≤ M'.length ∧ ∃ o M2, den__law_plus (startD ["_law_one", "_law_other"] ds) M = some (o, M2) ∧ Exit o M2 r M' := runF_ok
theorem hX__law_plus : ∀ ds M C M', F__law_plus ds M ≠ some (.exc C, M') := runF_nx
noncomputable def den__law_below : Sv :=
  (sRet (bnd (bnd (bnd (dVar 0) fun d => bnd (ret (.int 0)) fun e => oIx d e) fun d => bnd (bnd (dVar 1) fun d => bnd (ret (.int 1)) fun e => oIx d e) fun e => oMul d e) fun d => bnd (bnd (bnd (dVar 1) fun d => bnd (ret (.int 0)) fun e => oIx d e) fun d => bnd (bnd (dVar 0) fun d => bnd (ret (.int 1)) fun e => oIx d e) fun e => oMul d e) fun e => oLt d e))
noncomputable def F__law_below : Fd := runF 0 ["_law_one", "_law_other"] den__law_below
theorem hF__law_below : ∀ ds M r M', ds.length = 2 → F__law_below ds M = some (r, M') → M.length ≤ M'.length ∧ ∃ o M2, den__law_below (startD ["_law_one", "_law_other"] ds) M = some (o, M2) ∧ Exit o M2 r M' := runF_ok
theorem hX__law_below : ∀ ds M C M', F__law_below ds M ≠ some (.exc C, M') := runF_nx
noncomputable def den__law_led_L1 : Sv :=
  (sSeq (sAsg (bnd (dCons (dVar 2) (dCons (bnd (dCons (bnd (dVar 0) fun d => bnd (ret (.int 0)) fun e => oIx d e) (dCons (bnd (dCons (dVar 5) (dCons (dVar 4) dNil)) (oCall 2 F__law_times)) dNil)) (oCall 2 F__law_times)) dNil)) (oCall 2 F__law_plus)) (gNm 2))
  (sSeq (sIf (bnd (bnd (bnd (dVar 2) fun d => bnd (ret (.int 0)) fun e => oIx d e) fun d => bnd (ret (.int 0)) fun e => oLt d e) asB) (sAsg (bnd (dCons (ret (.int 0)) (dCons (ret (.int 1)) dNil)) oTup) (gNm 2)) sNext)
  (sIf (bnd (bnd (dCons (dVar 3) (dCons (dVar 2) dNil)) (oCall 2 F__law_below)) asB) (sAsg (dVar 3) (gNm 2)) sNext)))
noncomputable def den__law_led : Sv :=
  (sSeq (sAsg (bnd (dCons (bnd (dVar 0) fun d => bnd (ret (.int 0)) fun e => oIx d e) (dCons (bnd (dVar 0) fun d => bnd (ret (.int 1)) fun e => oIx d e) dNil)) (oCall 2 F__law_times)) (gNm 3))
  (sSeq (sFor (bnd (dVar 1) oItS) (gTp 2 (gCn (gNm 4) (gCn (gNm 5) gNl))) den__law_led_L1)
  (sRet (dVar 2))))
noncomputable def F__law_led : Fd := runF 0 ["_law_pan_here", "_law_weather_here", "_law_water_here", "_law_rim", "_law_days", "_law_net"] den__law_led
theorem hF__law_led : ∀ ds M r M', ds.length = 3 → F__law_led ds M = some (r, M') → M.length ≤ M'.length ∧ ∃ o M2, den__law_led (startD ["_law_pan_here", "_law_weather_here", "_law_water_here", "_law_rim", "_law_days", "_law_net"] ds) M = some (o, M2) ∧ Exit o M2 r M' := runF_ok
theorem hX__law_led : ∀ ds M C M', F__law_led ds M ≠ some (.exc C, M') := runF_nx
noncomputable def den_times : Sv :=
  (sSeq (sAsg (dVar 0) (gTp 2 (gCn (gNm 4) (gCn (gNm 5) gNl))))
  (sSeq (sAsg (dVar 1) (gTp 2 (gCn (gNm 6) (gCn (gNm 7) gNl))))
  (sSeq (sAsg (bnd (dCons (dVar 4) (dCons (dVar 7) dNil)) (oCall 2 F_common)) (gNm 2))
  (sSeq (sAsg (bnd (dCons (dVar 6) (dCons (dVar 5) dNil)) (oCall 2 F_common)) (gNm 3))
  (sRet (bnd (dCons (bnd (bnd (dVar 4) fun d => bnd (dVar 2) fun e => oDiv d e) fun d => bnd (bnd (dVar 6) fun d => bnd (dVar 3) fun e => oDiv d e) fun e => oMul d e) (dCons (bnd (bnd (dVar 5) fun d => bnd (dVar 3) fun e => oDiv d e) fun d => bnd (bnd (dVar 7) fun d => bnd (dVar 2) fun e => oDiv d e) fun e => oMul d e) dNil)) oTup))))))
noncomputable def F_times : Fd := runF 0 ["one", "other", "left", "right", "a", "b", "c", "d"] den_times
theorem hF_times : ∀ ds M r M', ds.length = 2 → F_times ds M = some (r, M') → M.length ≤ M'.length ∧ ∃ o M2, den_times (startD ["one", "other", "left", "right", "a", "b", "c", "d"] ds) M = some (o, M2) ∧ Exit o M2 r M' := runF_ok
theorem hX_times : ∀ ds M C M', F_times ds M ≠ some (.exc C, M') := runF_nx
noncomputable def den_plus : Sv :=
  (sSeq (sAsg (dVar 0) (gTp 2 (gCn (gNm 5) (gCn (gNm 6) gNl))))
  (sSeq (sAsg (dVar 1) (gTp 2 (gCn (gNm 7) (gCn (gNm 8) gNl))))
  (sSeq (sAsg (bnd (dCons (dVar 6) (dCons (dVar 8) dNil)) (oCall 2 F_common)) (gNm 2))
  (sSeq (sAsg (bnd (bnd (dVar 5) fun d => bnd (bnd (dVar 8) fun d => bnd (dVar 2) fun e => oDiv d e) fun e => oMul d e) fun d => bnd (bnd (dVar 7) fun d => bnd (bnd (dVar 6) fun d => bnd (dVar 2) fun e => oDiv d e) fun e => oMul d e) fun e => oAdd d e) (gNm 3))
  (sSeq (sAsg (bnd (dCons (dVar 3) (dCons (dVar 2) dNil)) (oCall 2 F_common)) (gNm 4))
  (sRet (bnd (dCons (bnd (dVar 3) fun d => bnd (dVar 4) fun e => oDiv d e) (dCons (bnd (bnd (dVar 6) fun d => bnd (dVar 2) fun e => oDiv d e) fun d => bnd (bnd (dVar 8) fun d => bnd (dVar 4) fun e => oDiv d e) fun e => oMul d e) dNil)) oTup)))))))
noncomputable def F_plus : Fd := runF 0 ["one", "other", "shared", "top", "again", "a", "b", "c", "d"] den_plus
theorem hF_plus : ∀ ds M r M', ds.length = 2 → F_plus ds M = some (r, M') → M.length ≤ M'.length ∧ ∃ o M2, den_plus (startD ["one", "other", "shared", "top", "again", "a", "b", "c", "d"] ds) M = some (o, M2) ∧ Exit o M2 r M' := runF_ok
theorem hX_plus : ∀ ds M C M', F_plus ds M ≠ some (.exc C, M') := runF_nx
noncomputable def den_summed_L1 : Sv :=
  (sAsg (bnd (dCons (dVar 1) (dCons (dVar 2) dNil)) (oCall 2 F_plus)) (gNm 1))
noncomputable def den_summed : Sv :=
  (sSeq (sAsg (ret C_NOUGHT) (gNm 1))
  (sSeq (sFor (bnd (dVar 0) oItS) (gNm 2) den_summed_L1)
  (sRet (dVar 1))))
noncomputable def F_summed : Fd := runF 0 ["some", "total", "one"] den_summed
theorem hF_summed : ∀ ds M r M', ds.length = 1 → F_summed ds M = some (r, M') → M.length ≤ M'.length ∧ ∃ o M2, den_summed (startD ["some", "total", "one"] ds) M = some (o, M2) ∧ Exit o M2 r M' := runF_ok
theorem hX_summed : ∀ ds M C M', F_summed ds M ≠ some (.exc C, M') := runF_nx
noncomputable def den_brought : Sv :=
  (sRet (bnd (dCons (dVar 0) (dCons (bnd (dCons (bnd (bnd (dVar 1) oItS) (oLc (gTp 2 (gCn (gNm 2) (gCn (gNm 3) gNl))) (ret true) (bnd (dCons (dVar 2) (dCons (dVar 3) dNil)) (oCall 2 F_times)) [2, 3])) dNil) (oCall 1 F_summed)) dNil)) (oCall 2 F_times)))
noncomputable def F_brought : Fd := runF 0 ["area", "spells", "days", "net"] den_brought
theorem hF_brought : ∀ ds M r M', ds.length = 2 → F_brought ds M = some (r, M') → M.length ≤ M'.length ∧ ∃ o M2, den_brought (startD ["area", "spells", "days", "net"] ds) M = some (o, M2) ∧ Exit o M2 r M' := runF_ok
theorem hX_brought : ∀ ds M C M', F_brought ds M ≠ some (.exc C, M') := runF_nx
noncomputable def den_rim_of : Sv :=
  (sSeq (sAsg (dVar 0) (gTp 2 (gCn (gNm 1) (gCn (gNm 2) gNl))))
  (sRet (bnd (dCons (dVar 1) (dCons (dVar 2) dNil)) (oCall 2 F_times))))
noncomputable def F_rim_of : Fd := runF 0 ["pan", "area", "depth"] den_rim_of
theorem hF_rim_of : ∀ ds M r M', ds.length = 1 → F_rim_of ds M = some (r, M') → M.length ≤ M'.length ∧ ∃ o M2, den_rim_of (startD ["pan", "area", "depth"] ds) M = some (o, M2) ∧ Exit o M2 r M' := runF_ok
theorem hX_rim_of : ∀ ds M C M', F_rim_of ds M ≠ some (.exc C, M') := runF_nx
noncomputable def den_spell_clamp : Sv :=
  (sRet (bnd (dCons (bnd (dCons (bnd (dVar 0) fun d => bnd (ret (.int 0)) fun e => oIx d e) (dCons (bnd (dCons (dVar 1) dNil) oTup) dNil)) (oCall 2 F_brought)) (dCons (ret C_NOUGHT) (dCons (bnd (dCons (dVar 0) dNil) (oCall 1 F_rim_of)) dNil))) oTup))
noncomputable def F_spell_clamp : Fd := runF 0 ["pan", "spell"] den_spell_clamp
theorem hF_spell_clamp : ∀ ds M r M', ds.length = 2 → F_spell_clamp ds M = some (r, M') → M.length ≤ M'.length ∧ ∃ o M2, den_spell_clamp (startD ["pan", "spell"] ds) M = some (o, M2) ∧ Exit o M2 r M' := runF_ok
theorem hX_spell_clamp : ∀ ds M C M', F_spell_clamp ds M ≠ some (.exc C, M') := runF_nx
noncomputable def den_is_less : Sv :=
  (sSeq (sAsg (dVar 0) (gTp 2 (gCn (gNm 2) (gCn (gNm 3) gNl))))
  (sSeq (sAsg (dVar 1) (gTp 2 (gCn (gNm 4) (gCn (gNm 5) gNl))))
  (sRet (bnd (bnd (dVar 2) fun d => bnd (dVar 5) fun e => oMul d e) fun d => bnd (bnd (dVar 4) fun d => bnd (dVar 3) fun e => oMul d e) fun e => oLt d e))))
noncomputable def F_is_less : Fd := runF 0 ["one", "other", "a", "b", "c", "d"] den_is_less
theorem hF_is_less : ∀ ds M r M', ds.length = 2 → F_is_less ds M = some (r, M') → M.length ≤ M'.length ∧ ∃ o M2, den_is_less (startD ["one", "other", "a", "b", "c", "d"] ds) M = some (o, M2) ∧ Exit o M2 r M' := runF_ok
theorem hX_is_less : ∀ ds M C M', F_is_less ds M ≠ some (.exc C, M') := runF_nx
noncomputable def den_least_L1 : Sv :=
  (sIf (bnd (bnd (dCons (dVar 2) (dCons (dVar 1) dNil)) (oCall 2 F_is_less)) asB) (sAsg (dVar 2) (gNm 1)) sNext)
noncomputable def den_least : Sv :=
  (sSeq (sAsg (bnd (dVar 0) fun d => bnd (ret (.int 0)) fun e => oIx d e) (gNm 1))
  (sSeq (sFor (bnd (dVar 0) oItS) (gNm 2) den_least_L1)
  (sRet (dVar 1))))
noncomputable def F_least : Fd := runF 0 ["some", "best", "one"] den_least
theorem hF_least : ∀ ds M r M', ds.length = 1 → F_least ds M = some (r, M') → M.length ≤ M'.length ∧ ∃ o M2, den_least (startD ["some", "best", "one"] ds) M = some (o, M2) ∧ Exit o M2 r M' := runF_ok
theorem hX_least : ∀ ds M C M', F_least ds M ≠ some (.exc C, M') := runF_nx
noncomputable def den_greatest_L1 : Sv :=
  (sIf (bnd (bnd (dCons (dVar 1) (dCons (dVar 2) dNil)) (oCall 2 F_is_less)) asB) (sAsg (dVar 2) (gNm 1)) sNext)
noncomputable def den_greatest : Sv :=
  (sSeq (sAsg (bnd (dVar 0) fun d => bnd (ret (.int 0)) fun e => oIx d e) (gNm 1))
  (sSeq (sFor (bnd (dVar 0) oItS) (gNm 2) den_greatest_L1)
  (sRet (dVar 1))))
noncomputable def F_greatest : Fd := runF 0 ["some", "best", "one"] den_greatest
theorem hF_greatest : ∀ ds M r M', ds.length = 1 → F_greatest ds M = some (r, M') → M.length ≤ M'.length ∧ ∃ o M2, den_greatest (startD ["some", "best", "one"] ds) M = some (o, M2) ∧ Exit o M2 r M' := runF_ok
theorem hX_greatest : ∀ ds M C M', F_greatest ds M ≠ some (.exc C, M') := runF_nx
noncomputable def den_clamped : Sv :=
  (sSeq (sAsg (dVar 0) (gTp 3 (gCn (gNm 2) (gCn (gNm 3) (gCn (gNm 4) gNl)))))
  (sRet (bnd (dCons (bnd (dCons (dVar 4) (dCons (bnd (dCons (bnd (dCons (dVar 3) (dCons (bnd (dCons (dVar 1) (dCons (dVar 2) dNil)) (oCall 2 F_plus)) dNil)) oTup) dNil) (oCall 1 F_greatest)) dNil)) oTup) dNil) (oCall 1 F_least))))
noncomputable def F_clamped : Fd := runF 0 ["clamp", "x", "by", "low", "high"] den_clamped
theorem hF_clamped : ∀ ds M r M', ds.length = 2 → F_clamped ds M = some (r, M') → M.length ≤ M'.length ∧ ∃ o M2, den_clamped (startD ["clamp", "x", "by", "low", "high"] ds) M = some (o, M2) ∧ Exit o M2 r M' := runF_ok
theorem hX_clamped : ∀ ds M C M', F_clamped ds M ≠ some (.exc C, M') := runF_nx
noncomputable def den_one_behind : Sv :=
  (sSeq (sAsg (dVar 0) (gTp 3 (gCn (gNm 2) (gCn (gNm 3) (gCn (gNm 4) gNl)))))
  (sRet (bnd (dCons (bnd (dCons (dVar 2) (dCons (bnd (dVar 1) fun d => bnd (ret (.int 0)) fun e => oIx d e) dNil)) (oCall 2 F_plus)) (dCons (bnd (dCons (dVar 1) (dCons (dVar 3) dNil)) (oCall 2 F_clamped)) (dCons (bnd (dCons (dVar 1) (dCons (dVar 4) dNil)) (oCall 2 F_clamped)) dNil))) oTup)))
noncomputable def F_one_behind : Fd := runF 0 ["first", "second", "by", "low", "high"] den_one_behind
theorem hF_one_behind : ∀ ds M r M', ds.length = 2 → F_one_behind ds M = some (r, M') → M.length ≤ M'.length ∧ ∃ o M2, den_one_behind (startD ["first", "second", "by", "low", "high"] ds) M = some (o, M2) ∧ Exit o M2 r M' := runF_ok
theorem hX_one_behind : ∀ ds M C M', F_one_behind ds M ≠ some (.exc C, M') := runF_nx
noncomputable def den_clamp_of_L1 : Sv :=
  (sAsg (bnd (dCons (dVar 2) (dCons (bnd (dCons (dVar 0) (dCons (dVar 3) dNil)) (oCall 2 F_spell_clamp)) dNil)) (oCall 2 F_one_behind)) (gNm 2))
noncomputable def den_clamp_of : Sv :=
  (sSeq (sAsg (bnd (dCons (dVar 0) (dCons (bnd (dVar 1) fun d => bnd (ret (.int 0)) fun e => oIx d e) dNil)) (oCall 2 F_spell_clamp)) (gNm 2))
  (sSeq (sFor (bnd (bnd (dVar 1) fun d => bnd (bnd (ret (.int 1)) asI) fun l => bnd (ret none) fun u => oSl d l u) oItS) (gNm 3) den_clamp_of_L1)
  (sRet (dVar 2))))
noncomputable def F_clamp_of : Fd := runF 0 ["pan", "weather", "clamp", "spell"] den_clamp_of
theorem hF_clamp_of : ∀ ds M r M', ds.length = 2 → F_clamp_of ds M = some (r, M') → M.length ≤ M'.length ∧ ∃ o M2, den_clamp_of (startD ["pan", "weather", "clamp", "spell"] ds) M = some (o, M2) ∧ Exit o M2 r M' := runF_ok
theorem hX_clamp_of : ∀ ds M C M', F_clamp_of ds M ≠ some (.exc C, M') := runF_nx
noncomputable def den__law_weather_L1 : Sv :=
  (sSeq (sAsg (bnd (dCons (bnd (ret (.int 1)) fun d => bnd (bnd (dCons (dVar 0) (dCons (ret (.int 4)) dNil)) (oCall 2 F__law_draw)) fun e => oAdd d e) (dCons (bnd (bnd (dCons (ret (.int 1)) (dCons (ret (.int 1)) (dCons (ret (.int 2)) (dCons (ret (.int 3)) (dCons (ret (.int 4)) dNil))))) oLst) fun d => bnd (bnd (dCons (dVar 0) (dCons (ret (.int 5)) dNil)) (oCall 2 F__law_draw)) fun e => oIx d e) dNil)) (oCall 2 F__law_made)) (gNm 4))
  (sSeq (sAsg (bnd (dCons (bnd (bnd (dCons (dVar 0) (dCons (ret (.int 7)) dNil)) (oCall 2 F__law_draw)) fun d => bnd (ret (.int 3)) fun e => oSub d e) (dCons (bnd (bnd (dCons (ret (.int 1)) (dCons (ret (.int 1)) (dCons (ret (.int 2)) (dCons (ret (.int 3)) dNil)))) oLst) fun d => bnd (bnd (dCons (dVar 0) (dCons (ret (.int 4)) dNil)) (oCall 2 F__law_draw)) fun e => oIx d e) dNil)) (oCall 2 F__law_made)) (gNm 5))
  (sSeq (sIf (bnd (bnd (bnd (dCons (dVar 0) (dCons (ret (.int 12)) dNil)) (oCall 2 F__law_draw)) fun d => bnd (ret (.int 0)) fun e => oEq d e) asB) (sAsg (bnd (dCons (dVar 0) dNil) (oCall 1 F__law_any)) (gNm 5)) sNext)
  (sExpr (bnd (dVar 2) fun d => bnd (okPtr d) fun d => bnd (bnd (dCons (dVar 4) (dCons (dVar 5) dNil)) oTup) fun y => oApp d y)))))
noncomputable def den__law_weather : Sv :=
  (sSeq (sAsg (bnd dNil oNew) (gNm 2))
  (sSeq (sFor (bnd (dCons (bnd (ret (.int 1)) fun d => bnd (bnd (dCons (dVar 0) (dCons (dVar 1) dNil)) (oCall 2 F__law_draw)) fun e => oAdd d e) dNil) oRng1) (gNm 3) den__law_weather_L1)
  (sRet (bnd (dCons (dVar 2) dNil) oTupOf))))
noncomputable def F__law_weather : Fd := runF 0 ["_law_urn_here", "_law_most", "_law_found", "_law_k", "_law_days", "_law_net"] den__law_weather
theorem hF__law_weather : ∀ ds M r M', ds.length = 2 → F__law_weather ds M = some (r, M') → M.length ≤ M'.length ∧ ∃ o M2, den__law_weather (startD ["_law_urn_here", "_law_most", "_law_found", "_law_k", "_law_days", "_law_net"] ds) M = some (o, M2) ∧ Exit o M2 r M' := runF_ok
theorem hX__law_weather : ∀ ds M C M', F__law_weather ds M ≠ some (.exc C, M') := runF_nx
noncomputable def den__law_thing : Sv :=
  (sSeq (sAsg (bnd (dCons (dVar 0) (dCons (ret (.int 2)) dNil)) (oCall 2 F__law_draw)) (gNm 2))
  (sSeq (sAsg (bnd (dVar 1) fun d => bnd (dVar 2) fun e => oIx d e) (gNm 3))
  (sSeq (sAsg (bnd (dCons (bnd (dCons (ret (.int 0)) (dCons (ret (.int 1)) dNil)) oTup) (dCons (bnd (dCons (bnd (ret (.int 0)) fun d => bnd (bnd (dVar 3) fun d => bnd (ret (.int 0)) fun e => oIx d e) fun e => oSub d e) (dCons (bnd (dVar 3) fun d => bnd (ret (.int 1)) fun e => oIx d e) dNil)) oTup) (dCons (bnd (dCons (bnd (ret (.int 2)) fun d => bnd (bnd (dVar 3) fun d => bnd (ret (.int 0)) fun e => oIx d e) fun e => oMul d e) (dCons (bnd (ret (.int 2)) fun d => bnd (bnd (dVar 3) fun d => bnd (ret (.int 1)) fun e => oIx d e) fun e => oMul d e) dNil)) oTup) (dCons (bnd (dVar 3) fun d => bnd (ret (.int 0)) fun e => oIx d e) (dCons (ret .non) (dCons (ret (.str (Str.ofString "1"))) (dCons (bnd (dCons (dVar 3) dNil) oLstOf) (dCons (bnd (dCons (ret (.bl true)) (dCons (ret (.int 1)) dNil)) oTup) (dCons (bnd (dCons (ret (.int 1)) (dCons (ret (.bl true)) dNil)) oTup) (dCons (bnd (dCons (ret (.int 1)) (dCons (ret (.int 0)) dNil)) oTup) (dCons (bnd (dCons (ret (.int 1)) (dCons (bnd (ret (.int 1)) oNeg) dNil)) oTup) (dCons (bnd (dCons (bnd (dVar 3) fun d => bnd (ret (.int 0)) fun e => oIx d e) (dCons (bnd (dVar 3) fun d => bnd (ret (.int 1)) fun e => oIx d e) (dCons (ret (.int 1)) dNil))) oTup) (dCons (bnd (dCons (ret (.int 1)) dNil) oTup) (dCons (bnd dNil oTup) (dCons (bnd (dCons (ret (.int 0)) (dCons (ret (.int 5)) dNil)) oTup) (dCons (ret .emp) dNil)))))))))))))))) oLst) (gNm 4))
  (sSeq (sAsg (bnd (dVar 4) fun d => bnd (bnd (dCons (bnd (dCons (bnd (bnd (ret (.int 10)) fun d => bnd (ret (.int 6)) fun e => oPow d e) fun d => bnd (ret (.int 1)) fun e => oAdd d e) (dCons (ret (.int 1)) dNil)) oTup) (dCons (bnd (dCons (ret (.int 1)) (dCons (ret (.int 1001)) dNil)) oTup) (dCons (bnd (dCons (bnd (bnd (ret (.int 10)) fun d => bnd (ret (.int 30)) fun e => oPow d e) fun d => bnd (ret (.int 1)) fun e => oAdd d e) (dCons (ret (.int 7)) dNil)) oTup) dNil))) oLst) fun e => oAdd d e) (gNm 4))
  (sSeq (sAsg (bnd (dCons (dVar 1) dNil) oLstN) (gNm 5))
  (sSeq (sStore (bnd (dVar 4) fun d => bnd (bnd (dCons (dVar 0) (dCons (ret (.int 19)) dNil)) (oCall 2 F__law_draw)) fun e => oIx d e) (dVar 5) (dVar 2))
  (sSeq (sAsg (bnd (dCons (bnd (dCons (dVar 5) dNil) oTupOf) (dCons (bnd (dCons (dVar 5) dNil) oTupOf) (dCons (bnd (dCons (dVar 5) dNil) oTupOf) (dCons (bnd (dCons (dVar 5) dNil) oTupOf) (dCons (bnd (dCons (dVar 1) dNil) oLstOf) (dCons (bnd (dVar 1) fun d => bnd (bnd (dCons (dVar 3) dNil) oTup) fun e => oAdd d e) (dCons (bnd (dVar 1) fun d => bnd (ret none) fun l => bnd (bnd (ret (.int 1)) asI) fun u => oSl d l u) (dCons (ret .non) (dCons (ret (.bl true)) (dCons (ret (.int 7)) (dCons (ret (.str (Str.ofString "pan"))) (dCons (ret .emp) (dCons (bnd dNil oTup) (dCons (bnd (dVar 1) oRv) (dCons (dVar 1) (dCons (dVar 3) dNil)))))))))))))))) oLst) (gNm 6))
  (sRet (bnd (dVar 6) fun d => bnd (bnd (dCons (dVar 0) (dCons (ret (.int 16)) dNil)) (oCall 2 F__law_draw)) fun e => oIx d e)))))))))
noncomputable def F__law_thing : Fd := runF 0 ["_law_urn_here", "_law_pan_here", "_law_at", "_law_one", "_law_odd", "_law_some", "_law_things"] den__law_thing
theorem hF__law_thing : ∀ ds M r M', ds.length = 2 → F__law_thing ds M = some (r, M') → M.length ≤ M'.length ∧ ∃ o M2, den__law_thing (startD ["_law_urn_here", "_law_pan_here", "_law_at", "_law_one", "_law_odd", "_law_some", "_law_things"] ds) M = some (o, M2) ∧ Exit o M2 r M' := runF_ok
theorem hX__law_thing : ∀ ds M C M', F__law_thing ds M ≠ some (.exc C, M') := runF_nx
noncomputable def den__law_above : Sv :=
  (sSeq (sAsg (bnd (dCons (dVar 0) dNil) (oCall 1 F__law_amount)) (gNm 1))
  (sRet (dIf (bnd (bnd (bnd (dVar 1) fun d => bnd (ret (.int 0)) fun e => oIx d e) fun d => bnd (ret (.int 0)) fun e => oGt d e) asB) (dVar 1) (bnd (dCons (ret (.int 1)) (dCons (ret (.int 997)) dNil)) oTup))))
noncomputable def F__law_above : Fd := runF 0 ["_law_urn_here", "_law_found"] den__law_above
theorem hF__law_above : ∀ ds M r M', ds.length = 1 → F__law_above ds M = some (r, M') → M.length ≤ M'.length ∧ ∃ o M2, den__law_above (startD ["_law_urn_here", "_law_found"] ds) M = some (o, M2) ∧ Exit o M2 r M' := runF_ok
theorem hX__law_above : ∀ ds M C M', F__law_above ds M ≠ some (.exc C, M') := runF_nx
noncomputable def den__law_summed_L1 : Sv :=
  (sAsg (bnd (dCons (dVar 1) (dCons (dVar 2) dNil)) (oCall 2 F__law_plus)) (gNm 1))
noncomputable def den__law_summed : Sv :=
  (sSeq (sAsg (bnd (dCons (ret (.int 0)) (dCons (ret (.int 1)) dNil)) oTup) (gNm 1))
  (sSeq (sFor (bnd (dVar 0) oItS) (gNm 2) den__law_summed_L1)
  (sRet (dVar 1))))
noncomputable def F__law_summed : Fd := runF 0 ["_law_some", "_law_found", "_law_one"] den__law_summed
theorem hF__law_summed : ∀ ds M r M', ds.length = 1 → F__law_summed ds M = some (r, M') → M.length ≤ M'.length ∧ ∃ o M2, den__law_summed (startD ["_law_some", "_law_found", "_law_one"] ds) M = some (o, M2) ∧ Exit o M2 r M' := runF_ok
theorem hX__law_summed : ∀ ds M C M', F__law_summed ds M ≠ some (.exc C, M') := runF_nx
noncomputable def den__law_clamp_right_L1 : Sv :=
  (sSeq (sAsg (bnd (dCons (dVar 2) (dCons (bnd (dCons (dVar 7) (dCons (ret (.int 6)) dNil)) (oCall 2 F__law_made)) dNil)) (oCall 2 F__law_times)) (gNm 8))
  (sSeq (sAsg (bnd (dCons (dVar 8) (dCons (dVar 3) dNil)) (oCall 2 F__law_plus)) (gNm 9))
  (sSeq (sIf (bnd (bnd (dCons (dVar 9) (dCons (dVar 4) dNil)) (oCall 2 F__law_below)) asB) (sAsg (dVar 4) (gNm 9)) sNext)
  (sSeq (sIf (bnd (bnd (dCons (dVar 5) (dCons (dVar 9) dNil)) (oCall 2 F__law_below)) asB) (sAsg (dVar 5) (gNm 9)) sNext)
  (sIf (bnd (bnd (dVar 9) fun d => bnd (bnd (dCons (dVar 0) (dCons (dVar 1) (dCons (dVar 8) dNil))) (oCall 3 F__law_led)) fun e => oNe d e) asB) (sRet (ret (.bl false))) sNext)))))
noncomputable def den__law_clamp_right : Sv :=
  (sSeq (sAsg (bnd (dCons (bnd (dVar 0) fun d => bnd (ret (.int 0)) fun e => oIx d e) (dCons (bnd (dVar 0) fun d => bnd (ret (.int 1)) fun e => oIx d e) dNil)) (oCall 2 F__law_times)) (gNm 2))
  (sSeq (sAsg (bnd (dCons (bnd (bnd (dVar 1) oItS) (oLc (gTp 2 (gCn (gNm 10) (gCn (gNm 11) gNl))) (ret true) (bnd (dCons (bnd (dVar 0) fun d => bnd (ret (.int 0)) fun e => oIx d e) (dCons (bnd (dCons (dVar 11) (dCons (dVar 10) dNil)) (oCall 2 F__law_times)) dNil)) (oCall 2 F__law_times)) [10, 11])) dNil) (oCall 1 F__law_summed)) (gNm 3))
  (sSeq (sAsg (bnd (dCons (dVar 0) (dCons (bnd (dVar 1) fun d => bnd (bnd (ret (.int 1)) asI) fun l => bnd (ret none) fun u => oSl d l u) (dCons (bnd (dCons (ret (.int 0)) (dCons (ret (.int 1)) dNil)) oTup) dNil))) (oCall 3 F__law_led)) (gNm 4))
  (sSeq (sAsg (bnd (dCons (dVar 0) (dCons (bnd (dVar 1) fun d => bnd (bnd (ret (.int 1)) asI) fun l => bnd (ret none) fun u => oSl d l u) (dCons (dVar 2) dNil))) (oCall 3 F__law_led)) (gNm 5))
  (sSeq (sAsg (bnd (dCons (dVar 0) (dCons (dVar 1) dNil)) (oCall 2 F_clamp_of)) (gNm 6))
  (sSeq (sIf (dNot (bnd (bnd (dCons (dVar 6) (dCons (bnd (dCons (dVar 3) (dCons (dVar 4) (dCons (dVar 5) dNil))) oTup) dNil)) (oCall 2 F__law_same)) asB)) (sRet (ret (.bl false))) sNext)
  (sSeq (sFor (bnd (dCons (ret (.int 7)) dNil) oRng1) (gNm 7) den__law_clamp_right_L1)
  (sRet (bnd (bnd (dCons (dVar 0) (dCons (dVar 1) dNil)) (oCall 2 F_clamp_of)) fun d => bnd (dVar 6) fun e => oEq d e)))))))))
noncomputable def F__law_clamp_right : Fd := runF 0 ["_law_pan_here", "_law_weather_here", "_law_rim", "_law_all", "_law_low", "_law_high", "_law_found", "_law_sixth", "_law_water_here", "_law_due", "_law_days", "_law_net"] den__law_clamp_right
theorem hF__law_clamp_right : ∀ ds M r M', ds.length = 2 → F__law_clamp_right ds M = some (r, M') → M.length ≤ M'.length ∧ ∃ o M2, den__law_clamp_right (startD ["_law_pan_here", "_law_weather_here", "_law_rim", "_law_all", "_law_low", "_law_high", "_law_found", "_law_sixth", "_law_water_here", "_law_due", "_law_days", "_law_net"] ds) M = some (o, M2) ∧ Exit o M2 r M' := runF_ok
theorem hX__law_clamp_right : ∀ ds M C M', F__law_clamp_right ds M ≠ some (.exc C, M') := runF_nx
noncomputable def den__law_pan : Sv :=
  (sRet (bnd (dCons (bnd (dCons (bnd (ret (.int 1)) fun d => bnd (bnd (dCons (dVar 0) (dCons (ret (.int 5)) dNil)) (oCall 2 F__law_draw)) fun e => oAdd d e) (dCons (bnd (ret (.int 1)) fun d => bnd (bnd (dCons (dVar 0) (dCons (ret (.int 2)) dNil)) (oCall 2 F__law_draw)) fun e => oAdd d e) dNil)) (oCall 2 F__law_made)) (dCons (bnd (dCons (bnd (ret (.int 1)) fun d => bnd (bnd (dCons (dVar 0) (dCons (ret (.int 6)) dNil)) (oCall 2 F__law_draw)) fun e => oAdd d e) (dCons (bnd (ret (.int 1)) fun d => bnd (bnd (dCons (dVar 0) (dCons (ret (.int 2)) dNil)) (oCall 2 F__law_draw)) fun e => oAdd d e) dNil)) (oCall 2 F__law_made)) dNil)) oTup))
noncomputable def F__law_pan : Fd := runF 0 ["_law_urn_here"] den__law_pan
theorem hF__law_pan : ∀ ds M r M', ds.length = 1 → F__law_pan ds M = some (r, M') → M.length ≤ M'.length ∧ ∃ o M2, den__law_pan (startD ["_law_urn_here"] ds) M = some (o, M2) ∧ Exit o M2 r M' := runF_ok
theorem hX__law_pan : ∀ ds M C M', F__law_pan ds M ≠ some (.exc C, M') := runF_nx
noncomputable def den__law_is_part_L1 : Sv :=
  (sIf (dOr (dNot (bnd (bnd (dVar 1) (oIsi (fun a => kitB a "int") (fun _ => none))) asB)) (dOr (bnd (bnd (dVar 1) (oIsi (fun a => kitB a "bool") (fun _ => none))) asB) (bnd (bnd (dVar 1) fun d => bnd (ret (.int 1)) fun e => oLt d e) asB))) (sRet (ret (.bl false))) sNext)
noncomputable def den__law_is_part : Sv :=
  (sSeq (sIf (dOr (dNot (bnd (bnd (dVar 0) (oIsi (fun a => kitB a "tuple") (fun _ => none))) asB)) (bnd (bnd (bnd (dCons (dVar 0) dNil) oLen) fun d => bnd (ret (.int 2)) fun e => oNe d e) asB)) (sRet (ret (.bl false))) sNext)
  (sSeq (sFor (bnd (dVar 0) oItS) (gNm 1) den__law_is_part_L1)
  (sRet (bnd (bnd (dCons (bnd (dVar 0) fun d => bnd (ret (.int 0)) fun e => oIx d e) (dCons (bnd (dVar 0) fun d => bnd (ret (.int 1)) fun e => oIx d e) dNil)) (oCall 2 F__law_made)) fun d => bnd (dVar 0) fun e => oEq d e))))
noncomputable def F__law_is_part : Fd := runF 0 ["_law_thing_here", "_law_one"] den__law_is_part
theorem hF__law_is_part : ∀ ds M r M', ds.length = 1 → F__law_is_part ds M = some (r, M') → M.length ≤ M'.length ∧ ∃ o M2, den__law_is_part (startD ["_law_thing_here", "_law_one"] ds) M = some (o, M2) ∧ Exit o M2 r M' := runF_ok
theorem hX__law_is_part : ∀ ds M C M', F__law_is_part ds M ≠ some (.exc C, M') := runF_nx
noncomputable def den__law_is_pan : Sv :=
  (sSeq (sIf (dOr (dNot (bnd (bnd (dVar 0) (oIsi (fun a => kitB a "tuple") (fun _ => none))) asB)) (bnd (bnd (bnd (dCons (dVar 0) dNil) oLen) fun d => bnd (ret (.int 2)) fun e => oNe d e) asB)) (sRet (ret (.bl false))) sNext)
  (sRet (dAndV (bnd (dCons (bnd (dVar 0) fun d => bnd (ret (.int 0)) fun e => oIx d e) dNil) (oCall 1 F__law_is_part)) (bnd (dCons (bnd (dVar 0) fun d => bnd (ret (.int 1)) fun e => oIx d e) dNil) (oCall 1 F__law_is_part)))))
noncomputable def F__law_is_pan : Fd := runF 0 ["_law_thing_here"] den__law_is_pan
theorem hF__law_is_pan : ∀ ds M r M', ds.length = 1 → F__law_is_pan ds M = some (r, M') → M.length ≤ M'.length ∧ ∃ o M2, den__law_is_pan (startD ["_law_thing_here"] ds) M = some (o, M2) ∧ Exit o M2 r M' := runF_ok
theorem hX__law_is_pan : ∀ ds M C M', F__law_is_pan ds M ≠ some (.exc C, M') := runF_nx
noncomputable def den_law_L1 : Sv :=
  (sSeq (sAsg (bnd (dCons (dVar 8) dNil) (oCall 1 F_is_pan)) (gNm 9))
  (sIf (dOr (dNot (bnd (bnd (dVar 9) (oIsi (fun a => kitB a "bool") (fun _ => none))) asB)) (bnd (bnd (dVar 9) fun d => bnd (bnd (dCons (dVar 8) dNil) (oCall 1 F__law_is_pan)) fun e => oNe d e) asB)) (sRet (ret (.bl false))) sNext))
noncomputable def den_law_L2 : Sv :=
  (sSeq (sAsg (bnd (dCons (bnd (dCons (dVar 1) dNil) (oCall 1 F__law_above)) (dCons (bnd (dCons (dVar 1) dNil) (oCall 1 F__law_above)) dNil)) oTup) (gNm 3))
  (sSeq (sAsg (bnd (bnd (dCons (bnd (dCons (dVar 1) dNil) (oCall 1 F__law_pan)) (dCons (dVar 3) dNil)) oLst) fun d => bnd (bnd (dCons (bnd (bnd (dCons (dVar 1) (dCons (ret (.int 4)) dNil)) (oCall 2 F__law_draw)) fun d => bnd (ret (.int 0)) fun e => oEq d e) dNil) oToInt) fun e => oIx d e) (gNm 4))
  (sSeq (sAsg (bnd (dCons (dVar 1) (dCons (bnd (bnd (dCons (ret (.int 3)) (dCons (ret (.int 12)) dNil)) oLst) fun d => bnd (bnd (dCons (dVar 1) (dCons (ret (.int 2)) dNil)) (oCall 2 F__law_draw)) fun e => oIx d e) dNil)) (oCall 2 F__law_weather)) (gNm 5))
  (sSeq (sAsg (bnd (dCons (dVar 1) (dCons (dVar 4) dNil)) (oCall 2 F__law_thing)) (gNm 6))
  (sSeq (sAsg (bnd (dCons (bnd (dCons (dVar 4) (dCons (dVar 5) (dCons (dVar 6) dNil))) oTup) dNil) oReprA) (gNm 7))
  (sSeq (sFor (bnd (bnd (dCons (dVar 4) (dCons (dVar 6) dNil)) oLst) oItL) (gNm 8) den_law_L1)
  (sSeq (sIf (dNot (bnd (bnd (dCons (bnd (dCons (dVar 4) dNil) (oCall 1 F_rim_of)) (dCons (bnd (dCons (bnd (dVar 4) fun d => bnd (ret (.int 0)) fun e => oIx d e) (dCons (bnd (dVar 4) fun d => bnd (ret (.int 1)) fun e => oIx d e) dNil)) (oCall 2 F__law_times)) dNil)) (oCall 2 F__law_same)) asB)) (sRet (ret (.bl false))) sNext)
  (sSeq (sIf (dNot (bnd (bnd (dCons (dVar 4) (dCons (dVar 5) dNil)) (oCall 2 F__law_clamp_right)) asB)) (sRet (ret (.bl false))) sNext)
  (sIf (bnd (bnd (bnd (dCons (bnd (dCons (dVar 4) (dCons (dVar 5) (dCons (dVar 6) dNil))) oTup) dNil) oReprA) fun d => bnd (dVar 7) fun e => oNeS d e) asB) (sRet (ret (.bl false))) sNext)))))))))
noncomputable def den_law : Sv :=
  (sSeq (sAsg (bnd (dCons (dVar 0) dNil) (oCall 1 F__law_urn)) (gNm 1))
  (sSeq (sFor (bnd (dCons (ret (.int 8)) dNil) oRng1) (gNm 2) den_law_L2)
  (sRet (ret (.bl true)))))
noncomputable def F_law : Fd := runF 0 ["_law_script", "_law_urn_here", "_law_turn", "_law_any_pan", "_law_pan_here", "_law_weather_here", "_law_thing_here", "_law_kept", "_law_one", "_law_found"] den_law
theorem hF_law : ∀ ds M r M', ds.length = 1 → F_law ds M = some (r, M') → M.length ≤ M'.length ∧ ∃ o M2, den_law (startD ["_law_script", "_law_urn_here", "_law_turn", "_law_any_pan", "_law_pan_here", "_law_weather_here", "_law_thing_here", "_law_kept", "_law_one", "_law_found"] ds) M = some (o, M2) ∧ Exit o M2 r M' := runF_ok
theorem hX_law : ∀ ds M C M', F_law ds M ≠ some (.exc C, M') := runF_nx
def topS (i : Nat) : Stmt := PySem.Challenge.pw_brineways_k44_pans_and_their_clamps.main.body.getD i (.Pass ⟨0, 0, 0, 0⟩)
abbrev s__law_urn : Stmt := topS 24
abbrev N__law_urn : List Str := ["_law_script", "_law_fold", "_law_cell"]
theorem S__law_urn : FnScope N__law_urn ["_law_script"] (defScope s__law_urn) := ⟨rfl, rfl, rfl, by decide +kernel, rfl, by decide +kernel, by decide +kernel⟩
abbrev s__law_made : Stmt := topS 26
abbrev N__law_made : List Str := ["_law_a", "_law_b", "_law_one", "_law_other"]
theorem S__law_made : FnScope N__law_made ["_law_a", "_law_b"] (defScope s__law_made) := ⟨rfl, rfl, rfl, by decide +kernel, rfl, by decide +kernel, by decide +kernel⟩
abbrev s__law_mixed : Stmt := topS 23
abbrev N__law_mixed : List Str := ["_law_cell", "_law_k", "_law_primes", "_law_one", "_law_two", "_law_three"]
theorem S__law_mixed : FnScope N__law_mixed ["_law_cell", "_law_k"] (defScope s__law_mixed) := ⟨rfl, rfl, rfl, by decide +kernel, rfl, by decide +kernel, by decide +kernel⟩
abbrev s__law_draw : Stmt := topS 25
abbrev N__law_draw : List Str := ["_law_urn_here", "_law_many", "_law_found", "_law_cell"]
theorem S__law_draw : FnScope N__law_draw ["_law_urn_here", "_law_many"] (defScope s__law_draw) := ⟨rfl, rfl, rfl, by decide +kernel, rfl, by decide +kernel, by decide +kernel⟩
abbrev s__law_a_below : Stmt := topS 30
abbrev N__law_a_below : List Str := ["_law_urn_here"]
theorem S__law_a_below : FnScope N__law_a_below ["_law_urn_here"] (defScope s__law_a_below) := ⟨rfl, rfl, rfl, by decide +kernel, rfl, by decide +kernel, by decide +kernel⟩
abbrev s__law_amount : Stmt := topS 31
abbrev N__law_amount : List Str := ["_law_urn_here", "_law_most"]
theorem S__law_amount : FnScope N__law_amount ["_law_urn_here"] (defScope s__law_amount) := ⟨rfl, rfl, rfl, by decide +kernel, rfl, by decide +kernel, by decide +kernel⟩
abbrev s__law_any : Stmt := topS 32
abbrev N__law_any : List Str := ["_law_urn_here", "_law_one"]
theorem S__law_any : FnScope N__law_any ["_law_urn_here"] (defScope s__law_any) := ⟨rfl, rfl, rfl, by decide +kernel, rfl, by decide +kernel, by decide +kernel⟩
abbrev s__law_weather : Stmt := topS 35
abbrev N__law_weather : List Str := ["_law_urn_here", "_law_most", "_law_found", "_law_k", "_law_days", "_law_net"]
theorem S__law_weather : FnScope N__law_weather ["_law_urn_here", "_law_most"] (defScope s__law_weather) := ⟨rfl, rfl, rfl, by decide +kernel, rfl, by decide +kernel, by decide +kernel⟩
abbrev s__law_thing : Stmt := topS 40
abbrev N__law_thing : List Str := ["_law_urn_here", "_law_pan_here", "_law_at", "_law_one", "_law_odd", "_law_some", "_law_things"]
theorem S__law_thing : FnScope N__law_thing ["_law_urn_here", "_law_pan_here"] (defScope s__law_thing) := ⟨rfl, rfl, rfl, by decide +kernel, rfl, by decide +kernel, by decide +kernel⟩
abbrev s__law_above : Stmt := topS 37
abbrev N__law_above : List Str := ["_law_urn_here", "_law_found"]
theorem S__law_above : FnScope N__law_above ["_law_urn_here"] (defScope s__law_above) := ⟨rfl, rfl, rfl, by decide +kernel, rfl, by decide +kernel, by decide +kernel⟩
abbrev s_is_whole : Stmt := topS 2
abbrev N_is_whole : List Str := ["thing"]
theorem S_is_whole : FnScope N_is_whole ["thing"] (defScope s_is_whole) := ⟨rfl, rfl, rfl, by decide +kernel, rfl, by decide +kernel, by decide +kernel⟩
abbrev s_common : Stmt := topS 3
abbrev N_common : List Str := ["a", "b"]
theorem S_common : FnScope N_common ["a", "b"] (defScope s_common) := ⟨rfl, rfl, rfl, by decide +kernel, rfl, by decide +kernel, by decide +kernel⟩
abbrev s_is_fraction : Stmt := topS 4
abbrev N_is_fraction : List Str := ["thing", "a", "b"]
theorem S_is_fraction : FnScope N_is_fraction ["thing"] (defScope s_is_fraction) := ⟨rfl, rfl, rfl, by decide +kernel, rfl, by decide +kernel, by decide +kernel⟩
abbrev s_is_positive : Stmt := topS 8
abbrev N_is_positive : List Str := ["thing"]
theorem S_is_positive : FnScope N_is_positive ["thing"] (defScope s_is_positive) := ⟨rfl, rfl, rfl, by decide +kernel, rfl, by decide +kernel, by decide +kernel⟩
abbrev s_is_pan : Stmt := topS 18
abbrev N_is_pan : List Str := ["thing", "area", "depth"]
theorem S_is_pan : FnScope N_is_pan ["thing"] (defScope s_is_pan) := ⟨rfl, rfl, rfl, by decide +kernel, rfl, by decide +kernel, by decide +kernel⟩
abbrev s__law_same : Stmt := topS 33
abbrev N__law_same : List Str := ["_law_found", "_law_due", "_law_one", "_law_other"]
theorem S__law_same : FnScope N__law_same ["_law_found", "_law_due"] (defScope s__law_same) := ⟨rfl, rfl, rfl, by decide +kernel, rfl, by decide +kernel, by decide +kernel⟩
abbrev s__law_times : Stmt := topS 28
abbrev N__law_times : List Str := ["_law_one", "_law_other"]
theorem S__law_times : FnScope N__law_times ["_law_one", "_law_other"] (defScope s__law_times) := ⟨rfl, rfl, rfl, by decide +kernel, rfl, by decide +kernel, by decide +kernel⟩
abbrev s__law_plus : Stmt := topS 27
abbrev N__law_plus : List Str := ["_law_one", "_law_other"]
theorem S__law_plus : FnScope N__law_plus ["_law_one", "_law_other"] (defScope s__law_plus) := ⟨rfl, rfl, rfl, by decide +kernel, rfl, by decide +kernel, by decide +kernel⟩
abbrev s__law_summed : Stmt := topS 36
abbrev N__law_summed : List Str := ["_law_some", "_law_found", "_law_one"]
theorem S__law_summed : FnScope N__law_summed ["_law_some"] (defScope s__law_summed) := ⟨rfl, rfl, rfl, by decide +kernel, rfl, by decide +kernel, by decide +kernel⟩
abbrev s__law_below : Stmt := topS 29
abbrev N__law_below : List Str := ["_law_one", "_law_other"]
theorem S__law_below : FnScope N__law_below ["_law_one", "_law_other"] (defScope s__law_below) := ⟨rfl, rfl, rfl, by decide +kernel, rfl, by decide +kernel, by decide +kernel⟩
abbrev s__law_led : Stmt := topS 38
abbrev N__law_led : List Str := ["_law_pan_here", "_law_weather_here", "_law_water_here", "_law_rim", "_law_days", "_law_net"]
theorem S__law_led : FnScope N__law_led ["_law_pan_here", "_law_weather_here", "_law_water_here"] (defScope s__law_led) := ⟨rfl, rfl, rfl, by decide +kernel, rfl, by decide +kernel, by decide +kernel⟩
abbrev s_times : Stmt := topS 6
abbrev N_times : List Str := ["one", "other", "left", "right", "a", "b", "c", "d"]
theorem S_times : FnScope N_times ["one", "other"] (defScope s_times) := ⟨rfl, rfl, rfl, by decide +kernel, rfl, by decide +kernel, by decide +kernel⟩
abbrev s_plus : Stmt := topS 5
abbrev N_plus : List Str := ["one", "other", "shared", "top", "again", "a", "b", "c", "d"]
theorem S_plus : FnScope N_plus ["one", "other"] (defScope s_plus) := ⟨rfl, rfl, rfl, by decide +kernel, rfl, by decide +kernel, by decide +kernel⟩
abbrev s_summed : Stmt := topS 11
abbrev N_summed : List Str := ["some", "total", "one"]
theorem S_summed : FnScope N_summed ["some"] (defScope s_summed) := ⟨rfl, rfl, rfl, by decide +kernel, rfl, by decide +kernel, by decide +kernel⟩
abbrev s_brought : Stmt := topS 16
abbrev N_brought : List Str := ["area", "spells", "days", "net"]
theorem S_brought : FnScope N_brought ["area", "spells"] (defScope s_brought) := ⟨rfl, rfl, rfl, by decide +kernel, rfl, by decide +kernel, by decide +kernel⟩
abbrev s_rim_of : Stmt := topS 19
abbrev N_rim_of : List Str := ["pan", "area", "depth"]
theorem S_rim_of : FnScope N_rim_of ["pan"] (defScope s_rim_of) := ⟨rfl, rfl, rfl, by decide +kernel, rfl, by decide +kernel, by decide +kernel⟩
abbrev s_spell_clamp : Stmt := topS 20
abbrev N_spell_clamp : List Str := ["pan", "spell"]
theorem S_spell_clamp : FnScope N_spell_clamp ["pan", "spell"] (defScope s_spell_clamp) := ⟨rfl, rfl, rfl, by decide +kernel, rfl, by decide +kernel, by decide +kernel⟩
abbrev s_is_less : Stmt := topS 7
abbrev N_is_less : List Str := ["one", "other", "a", "b", "c", "d"]
theorem S_is_less : FnScope N_is_less ["one", "other"] (defScope s_is_less) := ⟨rfl, rfl, rfl, by decide +kernel, rfl, by decide +kernel, by decide +kernel⟩
abbrev s_least : Stmt := topS 9
abbrev N_least : List Str := ["some", "best", "one"]
theorem S_least : FnScope N_least ["some"] (defScope s_least) := ⟨rfl, rfl, rfl, by decide +kernel, rfl, by decide +kernel, by decide +kernel⟩
abbrev s_greatest : Stmt := topS 10
abbrev N_greatest : List Str := ["some", "best", "one"]
theorem S_greatest : FnScope N_greatest ["some"] (defScope s_greatest) := ⟨rfl, rfl, rfl, by decide +kernel, rfl, by decide +kernel, by decide +kernel⟩
abbrev s_clamped : Stmt := topS 13
abbrev N_clamped : List Str := ["clamp", "x", "by", "low", "high"]
theorem S_clamped : FnScope N_clamped ["clamp", "x"] (defScope s_clamped) := ⟨rfl, rfl, rfl, by decide +kernel, rfl, by decide +kernel, by decide +kernel⟩
abbrev s_one_behind : Stmt := topS 14
abbrev N_one_behind : List Str := ["first", "second", "by", "low", "high"]
theorem S_one_behind : FnScope N_one_behind ["first", "second"] (defScope s_one_behind) := ⟨rfl, rfl, rfl, by decide +kernel, rfl, by decide +kernel, by decide +kernel⟩
abbrev s_clamp_of : Stmt := topS 21
abbrev N_clamp_of : List Str := ["pan", "weather", "clamp", "spell"]
theorem S_clamp_of : FnScope N_clamp_of ["pan", "weather"] (defScope s_clamp_of) := ⟨rfl, rfl, rfl, by decide +kernel, rfl, by decide +kernel, by decide +kernel⟩
abbrev s__law_clamp_right : Stmt := topS 39
abbrev N__law_clamp_right : List Str := ["_law_pan_here", "_law_weather_here", "_law_rim", "_law_all", "_law_low", "_law_high", "_law_found", "_law_sixth", "_law_water_here", "_law_due", "_law_days", "_law_net"]
theorem S__law_clamp_right : FnScope N__law_clamp_right ["_law_pan_here", "_law_weather_here"] (defScope s__law_clamp_right) := ⟨rfl, rfl, rfl, by decide +kernel, rfl, by decide +kernel, by decide +kernel⟩
abbrev s__law_pan : Stmt := topS 34
abbrev N__law_pan : List Str := ["_law_urn_here"]
theorem S__law_pan : FnScope N__law_pan ["_law_urn_here"] (defScope s__law_pan) := ⟨rfl, rfl, rfl, by decide +kernel, rfl, by decide +kernel, by decide +kernel⟩
abbrev s__law_is_part : Stmt := topS 41
abbrev N__law_is_part : List Str := ["_law_thing_here", "_law_one"]
theorem S__law_is_part : FnScope N__law_is_part ["_law_thing_here"] (defScope s__law_is_part) := ⟨rfl, rfl, rfl, by decide +kernel, rfl, by decide +kernel, by decide +kernel⟩
abbrev s__law_is_pan : Stmt := topS 42
abbrev N__law_is_pan : List Str := ["_law_thing_here"]
theorem S__law_is_pan : FnScope N__law_is_pan ["_law_thing_here"] (defScope s__law_is_pan) := ⟨rfl, rfl, rfl, by decide +kernel, rfl, by decide +kernel, by decide +kernel⟩
abbrev s_law : Stmt := topS 43
abbrev N_law : List Str := ["_law_script", "_law_urn_here", "_law_turn", "_law_any_pan", "_law_pan_here", "_law_weather_here", "_law_thing_here", "_law_kept", "_law_one", "_law_found"]
theorem S_law : FnScope N_law ["_law_script"] (defScope s_law) := ⟨rfl, rfl, rfl, by decide +kernel, rfl, by decide +kernel, by decide +kernel⟩
set_option maxHeartbeats 0 in
structure Top (K : PySem.W.Frag) (mg : Str → Option Value) where
  a__law_urn : Addr
  fd__law_urn : FuncData
  F__law_urn : Fun K "_law_urn" "_law_urn" s__law_urn a__law_urn fd__law_urn
  b__law_urn : Binds K fd__law_urn ["_law_script"] []
  g__law_urn : mg "_law_urn" = some (.ref a__law_urn)
  a__law_made : Addr
  fd__law_made : FuncData
  F__law_made : Fun K "_law_made" "_law_made" s__law_made a__law_made fd__law_made
  b__law_made : Binds K fd__law_made ["_law_a", "_law_b"] []
  g__law_made : mg "_law_made" = some (.ref a__law_made)
  a__law_mixed : Addr
  fd__law_mixed : FuncData
  F__law_mixed : Fun K "_law_mixed" "_law_mixed" s__law_mixed a__law_mixed fd__law_mixed
  b__law_mixed : Binds K fd__law_mixed ["_law_cell", "_law_k"] []
  g__law_mixed : mg "_law_mixed" = some (.ref a__law_mixed)
  a__law_draw : Addr
  fd__law_draw : FuncData
  F__law_draw : Fun K "_law_draw" "_law_draw" s__law_draw a__law_draw fd__law_draw
  b__law_draw : Binds K fd__law_draw ["_law_urn_here", "_law_many"] []
  g__law_draw : mg "_law_draw" = some (.ref a__law_draw)
  a__law_a_below : Addr
  fd__law_a_below : FuncData
  F__law_a_below : Fun K "_law_a_below" "_law_a_below" s__law_a_below a__law_a_below fd__law_a_below
  b__law_a_below : Binds K fd__law_a_below ["_law_urn_here"] []
  g__law_a_below : mg "_law_a_below" = some (.ref a__law_a_below)
  a__law_amount : Addr
  fd__law_amount : FuncData
  F__law_amount : Fun K "_law_amount" "_law_amount" s__law_amount a__law_amount fd__law_amount
  b__law_amount : Binds K fd__law_amount ["_law_urn_here"] []
  g__law_amount : mg "_law_amount" = some (.ref a__law_amount)
  a__law_any : Addr
  fd__law_any : FuncData
  F__law_any : Fun K "_law_any" "_law_any" s__law_any a__law_any fd__law_any
  b__law_any : Binds K fd__law_any ["_law_urn_here"] []
  g__law_any : mg "_law_any" = some (.ref a__law_any)
  a__law_weather : Addr
  fd__law_weather : FuncData
  F__law_weather : Fun K "_law_weather" "_law_weather" s__law_weather a__law_weather fd__law_weather
  b__law_weather : Binds K fd__law_weather ["_law_urn_here", "_law_most"] []
  g__law_weather : mg "_law_weather" = some (.ref a__law_weather)
  a__law_thing : Addr
  fd__law_thing : FuncData
  F__law_thing : Fun K "_law_thing" "_law_thing" s__law_thing a__law_thing fd__law_thing
  b__law_thing : Binds K fd__law_thing ["_law_urn_here", "_law_pan_here"] []
  g__law_thing : mg "_law_thing" = some (.ref a__law_thing)
  a__law_above : Addr
  fd__law_above : FuncData
  F__law_above : Fun K "_law_above" "_law_above" s__law_above a__law_above fd__law_above
  b__law_above : Binds K fd__law_above ["_law_urn_here"] []
  g__law_above : mg "_law_above" = some (.ref a__law_above)
  a_is_whole : Addr
  fd_is_whole : FuncData
  F_is_whole : Fun K "is_whole" "is_whole" s_is_whole a_is_whole fd_is_whole
  b_is_whole : Binds K fd_is_whole ["thing"] []
  g_is_whole : mg "is_whole" = some (.ref a_is_whole)
  a_common : Addr
  fd_common : FuncData
  F_common : Fun K "common" "common" s_common a_common fd_common
  b_common : Binds K fd_common ["a", "b"] []
  g_common : mg "common" = some (.ref a_common)
  a_is_fraction : Addr
  fd_is_fraction : FuncData
  F_is_fraction : Fun K "is_fraction" "is_fraction" s_is_fraction a_is_fraction fd_is_fraction
  b_is_fraction : Binds K fd_is_fraction ["thing"] []
  g_is_fraction : mg "is_fraction" = some (.ref a_is_fraction)
  a_is_positive : Addr
  fd_is_positive : FuncData
  F_is_positive : Fun K "is_positive" "is_positive" s_is_positive a_is_positive fd_is_positive
  b_is_positive : Binds K fd_is_positive ["thing"] []
  g_is_positive : mg "is_positive" = some (.ref a_is_positive)
  a_is_pan : Addr
  fd_is_pan : FuncData
  F_is_pan : Fun K "is_pan" "is_pan" s_is_pan a_is_pan fd_is_pan
  b_is_pan : Binds K fd_is_pan ["thing"] []
  g_is_pan : mg "is_pan" = some (.ref a_is_pan)
  a__law_same : Addr
  fd__law_same : FuncData
  F__law_same : Fun K "_law_same" "_law_same" s__law_same a__law_same fd__law_same
  b__law_same : Binds K fd__law_same ["_law_found", "_law_due"] []
  g__law_same : mg "_law_same" = some (.ref a__law_same)
  a__law_times : Addr
  fd__law_times : FuncData
  F__law_times : Fun K "_law_times" "_law_times" s__law_times a__law_times fd__law_times
  b__law_times : Binds K fd__law_times ["_law_one", "_law_other"] []
  g__law_times : mg "_law_times" = some (.ref a__law_times)
  a__law_plus : Addr
  fd__law_plus : FuncData
  F__law_plus : Fun K "_law_plus" "_law_plus" s__law_plus a__law_plus fd__law_plus
  b__law_plus : Binds K fd__law_plus ["_law_one", "_law_other"] []
  g__law_plus : mg "_law_plus" = some (.ref a__law_plus)
  a__law_summed : Addr
  fd__law_summed : FuncData
  F__law_summed : Fun K "_law_summed" "_law_summed" s__law_summed a__law_summed fd__law_summed
  b__law_summed : Binds K fd__law_summed ["_law_some"] []
  g__law_summed : mg "_law_summed" = some (.ref a__law_summed)
  a__law_below : Addr
  fd__law_below : FuncData
  F__law_below : Fun K "_law_below" "_law_below" s__law_below a__law_below fd__law_below
  b__law_below : Binds K fd__law_below ["_law_one", "_law_other"] []
  g__law_below : mg "_law_below" = some (.ref a__law_below)
  a__law_led : Addr
  fd__law_led : FuncData
  F__law_led : Fun K "_law_led" "_law_led" s__law_led a__law_led fd__law_led
  b__law_led : Binds K fd__law_led ["_law_pan_here", "_law_weather_here", "_law_water_here"] []
  g__law_led : mg "_law_led" = some (.ref a__law_led)
  a_times : Addr
  fd_times : FuncData
  F_times : Fun K "times" "times" s_times a_times fd_times
  b_times : Binds K fd_times ["one", "other"] []
  g_times : mg "times" = some (.ref a_times)
  a_plus : Addr
  fd_plus : FuncData
  F_plus : Fun K "plus" "plus" s_plus a_plus fd_plus
  b_plus : Binds K fd_plus ["one", "other"] []
  g_plus : mg "plus" = some (.ref a_plus)
  a_summed : Addr
  fd_summed : FuncData
  F_summed : Fun K "summed" "summed" s_summed a_summed fd_summed
  b_summed : Binds K fd_summed ["some"] []
  g_summed : mg "summed" = some (.ref a_summed)
  a_brought : Addr
  fd_brought : FuncData
  F_brought : Fun K "brought" "brought" s_brought a_brought fd_brought
  b_brought : Binds K fd_brought ["area", "spells"] []
  g_brought : mg "brought" = some (.ref a_brought)
  a_rim_of : Addr
  fd_rim_of : FuncData
  F_rim_of : Fun K "rim_of" "rim_of" s_rim_of a_rim_of fd_rim_of
  b_rim_of : Binds K fd_rim_of ["pan"] []
  g_rim_of : mg "rim_of" = some (.ref a_rim_of)
  a_spell_clamp : Addr
  fd_spell_clamp : FuncData
  F_spell_clamp : Fun K "spell_clamp" "spell_clamp" s_spell_clamp a_spell_clamp fd_spell_clamp
  b_spell_clamp : Binds K fd_spell_clamp ["pan", "spell"] []
  g_spell_clamp : mg "spell_clamp" = some (.ref a_spell_clamp)
  a_is_less : Addr
  fd_is_less : FuncData
  F_is_less : Fun K "is_less" "is_less" s_is_less a_is_less fd_is_less
  b_is_less : Binds K fd_is_less ["one", "other"] []
  g_is_less : mg "is_less" = some (.ref a_is_less)
  a_least : Addr
  fd_least : FuncData
  F_least : Fun K "least" "least" s_least a_least fd_least
  b_least : Binds K fd_least ["some"] []
  g_least : mg "least" = some (.ref a_least)
  a_greatest : Addr
  fd_greatest : FuncData
  F_greatest : Fun K "greatest" "greatest" s_greatest a_greatest fd_greatest
  b_greatest : Binds K fd_greatest ["some"] []
  g_greatest : mg "greatest" = some (.ref a_greatest)
  a_clamped : Addr
  fd_clamped : FuncData
  F_clamped : Fun K "clamped" "clamped" s_clamped a_clamped fd_clamped
  b_clamped : Binds K fd_clamped ["clamp", "x"] []
  g_clamped : mg "clamped" = some (.ref a_clamped)
  a_one_behind : Addr
  fd_one_behind : FuncData
  F_one_behind : Fun K "one_behind" "one_behind" s_one_behind a_one_behind fd_one_behind
  b_one_behind : Binds K fd_one_behind ["first", "second"] []
  g_one_behind : mg "one_behind" = some (.ref a_one_behind)
  a_clamp_of : Addr
  fd_clamp_of : FuncData
  F_clamp_of : Fun K "clamp_of" "clamp_of" s_clamp_of a_clamp_of fd_clamp_of
  b_clamp_of : Binds K fd_clamp_of ["pan", "weather"] []
  g_clamp_of : mg "clamp_of" = some (.ref a_clamp_of)
  a__law_clamp_right : Addr
  fd__law_clamp_right : FuncData
  F__law_clamp_right : Fun K "_law_clamp_right" "_law_clamp_right" s__law_clamp_right a__law_clamp_right fd__law_clamp_right
  b__law_clamp_right : Binds K fd__law_clamp_right ["_law_pan_here", "_law_weather_here"] []
  g__law_clamp_right : mg "_law_clamp_right" = some (.ref a__law_clamp_right)
  a__law_pan : Addr
  fd__law_pan : FuncData
  F__law_pan : Fun K "_law_pan" "_law_pan" s__law_pan a__law_pan fd__law_pan
  b__law_pan : Binds K fd__law_pan ["_law_urn_here"] []
  g__law_pan : mg "_law_pan" = some (.ref a__law_pan)
  a__law_is_part : Addr
  fd__law_is_part : FuncData
  F__law_is_part : Fun K "_law_is_part" "_law_is_part" s__law_is_part a__law_is_part fd__law_is_part
  b__law_is_part : Binds K fd__law_is_part ["_law_thing_here"] []
  g__law_is_part : mg "_law_is_part" = some (.ref a__law_is_part)
  a__law_is_pan : Addr
  fd__law_is_pan : FuncData
  F__law_is_pan : Fun K "_law_is_pan" "_law_is_pan" s__law_is_pan a__law_is_pan fd__law_is_pan
  b__law_is_pan : Binds K fd__law_is_pan ["_law_thing_here"] []
  g__law_is_pan : mg "_law_is_pan" = some (.ref a__law_is_pan)
  a_law : Addr
  fd_law : FuncData
  F_law : Fun K "law" "law" s_law a_law fd_law
  b_law : Binds K fd_law ["_law_script"] []
  g_law : mg "law" = some (.ref a_law)
  z_abs : mg "abs" = none
  z_all : mg "all" = none
  z_bool : mg "bool" = none
  z_int : mg "int" = none
  z_isinstance : mg "isinstance" = none
  z_len : mg "len" = none
  z_list : mg "list" = none
  z_range : mg "range" = none
  z_repr : mg "repr" = none
  z_tuple : mg "tuple" = none
  z_zip : mg "zip" = none
  c_NOUGHT : Addr
  g_NOUGHT : mg "NOUGHT" = some (.ref c_NOUGHT)
  r_NOUGHT : ∀ G, Rp K G (.ref c_NOUGHT) C_NOUGHT
section
variable {P : Program} {w : World} {K : PySem.W.Frag} {mg : Str → Option Value} {base : Heap}
set_option maxHeartbeats 4000000 in
theorem ok__law_urn (T : Top K mg) : GOk P w K mg base CX0 1 T.a__law_urn T.fd__law_urn ["_law_script"] (spF K mg 1 F__law_urn) :=
  fn_okG (k := 0) (fb := den__law_urn) T.F__law_urn S__law_urn rfl (fun cdv A outer s H E hr => 
  (dss_cons (ds_set 1 S__law_urn.nd (de_add (de_len T.z_len (da_cons (de_var 0) da_nil)) de_int))
  (dss_cons (ds_for PassesOwn.never (di_seq (de_slice (de_var 0) do_none (do_some de_int))) (dg_name 2 S__law_urn.nd) (dss_one (ds_set 1 S__law_urn.nd (de_mod (de_add (de_add (de_mul (de_var 1) de_int) (de_mod (de_var 2) de_int)) de_int) de_int))))
  (dss_one (ds_ret (de_lstNst (da_cons (de_lstN T.z_list (da_cons (de_slice (de_var 0) do_none (do_some de_int)) da_nil)) (da_cons de_int (da_cons de_int (da_cons (de_var 1) da_nil)))))))))) hF__law_urn hX__law_urn
set_option maxHeartbeats 4000000 in
theorem ok__law_made (T : Top K mg) : GOk P w K mg base CX0 1 T.a__law_made T.fd__law_made ["_law_a", "_law_b"] (spF K mg 2 F__law_made) :=
  fn_okG (k := 0) (fb := den__law_made) T.F__law_made S__law_made rfl (fun cdv A outer s H E hr => 
  (dss_cons (ds_par 2 3 S__law_made.nd (da_cons (de_abs T.z_abs (da_cons (de_var 0) da_nil)) (da_cons (de_var 1) da_nil)))
  (dss_cons (ds_while PassesOwn.never (dt_ne hr.units (de_var 3) de_int) (dss_one (ds_par 2 3 S__law_made.nd (da_cons (de_var 3) (da_cons (de_mod (de_var 2) (de_var 3)) da_nil)))))
  (dss_one (ds_ret (de_tup (da_cons (de_div (de_var 0) (de_var 2)) (da_cons (de_div (de_var 1) (de_var 2)) da_nil)))))))) hF__law_made hX__law_made
set_option maxHeartbeats 4000000 in
theorem ok__law_mixed (T : Top K mg) : GOk P w K mg base CX0 1 T.a__law_mixed T.fd__law_mixed ["_law_cell", "_law_k"] (spF K mg 2 F__law_mixed) :=
  fn_okG (k := 0) (fb := den__law_mixed) T.F__law_mixed S__law_mixed rfl (fun cdv A outer s H E hr => 
  (dss_cons (ds_set 2 S__law_mixed.nd (de_lst (da_cons de_int (da_cons de_int (da_cons de_int (da_cons de_int (da_cons de_int (da_cons de_int (da_cons de_int da_nil)))))))))
  (dss_cons (ds_set 3 S__law_mixed.nd (de_mod (de_pow (de_add (de_add (de_mul (de_mod (de_var 0) de_int) (de_add (de_mul de_int (de_var 1)) de_int)) (de_mul de_int (de_var 1))) de_int) de_int) (de_ix (de_var 2) (de_mod (de_var 1) de_int))))
  (dss_cons (ds_set 4 S__law_mixed.nd (de_mod (de_pow (de_add (de_add (de_mul (de_var 3) (de_add (de_var 1) de_int)) (de_mod (de_var 0) de_int)) de_int) de_int) (de_ix (de_var 2) (de_mod (de_add (de_var 1) de_int) de_int))))
  (dss_cons (ds_set 5 S__law_mixed.nd (de_mod (de_pow (de_add (de_add (de_add (de_var 4) (de_mod (de_var 3) de_int)) (de_mul de_int (de_var 1))) de_int) de_int) (de_ix (de_var 2) (de_mod (de_add (de_var 1) de_int) de_int))))
  (dss_one (ds_ret (de_add (de_mul (de_add (de_mul (de_var 3) de_int) (de_var 4)) de_int) (de_var 5))))))))) hF__law_mixed hX__law_mixed
set_option maxHeartbeats 4000000 in
theorem ok__law_draw (T : Top K mg) : GOk P w K mg base CX0 2 T.a__law_draw T.fd__law_draw ["_law_urn_here", "_law_many"] (spF K mg 2 F__law_draw) :=
  fn_okG (k := 1) (fb := den__law_draw) T.F__law_draw S__law_draw rfl (fun cdv A outer s H E hr => 
  (dss_cons (ds_if (dt_lt (de_ixN (de_var 0) de_int) (de_var 1)) (dss_cons (ds_storeN (de_add (de_ixN (de_var 0) de_int) de_int) (de_var 0) de_int)
  (dss_cons (ds_set 3 S__law_draw.nd (de_ixN (de_var 0) de_int))
  (dss_cons (ds_if (dt_neM hr.units (de_ixN (de_var 0) de_int) (de_lst da_nil)) (dss_one (ds_set 3 S__law_draw.nd (de_popI (de_ixN (de_var 0) de_int) de_int))) dss_nil)
  (dss_cons (ds_storeN (de_var 3) (de_var 0) de_int)
  (dss_one (ds_if (dt_lt (de_var 3) (de_pow de_int de_int)) (dss_one (ds_storeN (de_callG wok0 (ok__law_mixed T) (hr.mono (by decide)) T.g__law_mixed T.F__law_mixed.kp T.b__law_mixed (fun _ => pass_0) (da_cons (de_var 3) (da_cons (de_ixN (de_var 0) de_int) da_nil))) (de_var 0) de_int)) dss_nil)))))) dss_nil)
  (dss_cons (ds_set 2 S__law_draw.nd (de_mod (de_ixN (de_var 0) de_int) (de_var 1)))
  (dss_cons (ds_storeN (de_div (de_ixN (de_var 0) de_int) (de_var 1)) (de_var 0) de_int)
  (dss_one (ds_ret (de_var 2))))))) hF__law_draw hX__law_draw
set_option maxHeartbeats 4000000 in
theorem ok__law_a_below (T : Top K mg) : GOk P w K mg base CX0 3 T.a__law_a_below T.fd__law_a_below ["_law_urn_here"] (spF K mg 1 F__law_a_below) :=
  fn_okG (k := 2) (fb := den__law_a_below) T.F__law_a_below S__law_a_below rfl (fun cdv A outer s H E hr => 
  (dss_one (ds_ret (de_ix (de_lst (da_cons de_int (da_cons de_int (da_cons de_int (da_cons de_int (da_cons de_int (da_cons de_int (da_cons de_int (da_cons de_int (da_cons de_int (da_cons de_int (da_cons (de_add de_int (de_callG wok0 (ok__law_draw T) (hr.mono (by decide)) T.g__law_draw T.F__law_draw.kp T.b__law_draw (fun _ => pass_0) (da_cons (de_var 0) (da_cons de_int da_nil)))) da_nil)))))))))))) (de_callG wok0 (ok__law_draw T) (hr.mono (by decide)) T.g__law_draw T.F__law_draw.kp T.b__law_draw (fun _ => pass_0) (da_cons (de_var 0) (da_cons de_int da_nil))))))) hF__law_a_below hX__law_a_below
set_option maxHeartbeats 4000000 in
theorem ok__law_amount (T : Top K mg) : GOk P w K mg base CX0 4 T.a__law_amount T.fd__law_amount ["_law_urn_here"] (spF K mg 1 F__law_amount) :=
  fn_okG (k := 3) (fb := den__law_amount) T.F__law_amount S__law_amount rfl (fun cdv A outer s H E hr => 
  (dss_cons (ds_set 1 S__law_amount.nd (de_ix (de_lst (da_cons de_int (da_cons de_int (da_cons de_int (da_cons (de_add (de_pow de_int de_int) de_int) da_nil))))) (de_callG wok0 (ok__law_draw T) (hr.mono (by decide)) T.g__law_draw T.F__law_draw.kp T.b__law_draw (fun _ => pass_0) (da_cons (de_var 0) (da_cons de_int da_nil)))))
  (dss_one (ds_ret (de_callG wok0 (ok__law_made T) (hr.mono (by decide)) T.g__law_made T.F__law_made.kp T.b__law_made (fun _ => pass_0) (da_cons (de_callG wok0 (ok__law_draw T) (hr.mono (by decide)) T.g__law_draw T.F__law_draw.kp T.b__law_draw (fun _ => pass_0) (da_cons (de_var 0) (da_cons (de_var 1) da_nil))) (da_cons (de_callG wok0 (ok__law_a_below T) (hr.mono (by decide)) T.g__law_a_below T.F__law_a_below.kp T.b__law_a_below (fun _ => pass_0) (da_cons (de_var 0) da_nil)) da_nil))))))) hF__law_amount hX__law_amount
set_option maxHeartbeats 4000000 in
theorem ok__law_any (T : Top K mg) : GOk P w K mg base CX0 5 T.a__law_any T.fd__law_any ["_law_urn_here"] (spF K mg 1 F__law_any) :=
  fn_okG (k := 4) (fb := den__law_any) T.F__law_any S__law_any rfl (fun cdv A outer s H E hr => 
  (dss_cons (ds_set 1 S__law_any.nd (de_callG wok0 (ok__law_amount T) (hr.mono (by decide)) T.g__law_amount T.F__law_amount.kp T.b__law_amount (fun _ => pass_0) (da_cons (de_var 0) da_nil)))
  (dss_one (ds_ret (de_tup (da_cons (de_mul (de_ix (de_var 1) de_int) (de_ix (de_lst (da_cons de_int (da_cons (de_neg de_int) da_nil))) (de_callG wok0 (ok__law_draw T) (hr.mono (by decide)) T.g__law_draw T.F__law_draw.kp T.b__law_draw (fun _ => pass_0) (da_cons (de_var 0) (da_cons de_int da_nil))))) (da_cons (de_ix (de_var 1) de_int) da_nil))))))) hF__law_any hX__law_any
set_option maxHeartbeats 4000000 in
theorem ok__law_weather (T : Top K mg) : GOk P w K mg base CX0 6 T.a__law_weather T.fd__law_weather ["_law_urn_here", "_law_most"] (spF K mg 2 F__law_weather) :=
  fn_okG (k := 5) (fb := den__law_weather) T.F__law_weather S__law_weather rfl (fun cdv A outer s H E hr => 
  (dss_cons (ds_set 2 S__law_weather.nd (de_lstM da_nil))
  (dss_cons (ds_for PassesOwn.never (di_range1 T.z_range (da_cons (de_add de_int (de_callG wok0 (ok__law_draw T) (hr.mono (by decide)) T.g__law_draw T.F__law_draw.kp T.b__law_draw (fun _ => pass_0) (da_cons (de_var 0) (da_cons (de_var 1) da_nil)))) da_nil)) (dg_name 3 S__law_weather.nd) (dss_cons (ds_set 4 S__law_weather.nd (de_callG wok0 (ok__law_made T) (hr.mono (by decide)) T.g__law_made T.F__law_made.kp T.b__law_made (fun _ => pass_0) (da_cons (de_add de_int (de_callG wok0 (ok__law_draw T) (hr.mono (by decide)) T.g__law_draw T.F__law_draw.kp T.b__law_draw (fun _ => pass_0) (da_cons (de_var 0) (da_cons de_int da_nil)))) (da_cons (de_ix (de_lst (da_cons de_int (da_cons de_int (da_cons de_int (da_cons de_int (da_cons de_int da_nil)))))) (de_callG wok0 (ok__law_draw T) (hr.mono (by decide)) T.g__law_draw T.F__law_draw.kp T.b__law_draw (fun _ => pass_0) (da_cons (de_var 0) (da_cons de_int da_nil)))) da_nil))))
  (dss_cons (ds_set 5 S__law_weather.nd (de_callG wok0 (ok__law_made T) (hr.mono (by decide)) T.g__law_made T.F__law_made.kp T.b__law_made (fun _ => pass_0) (da_cons (de_sub (de_callG wok0 (ok__law_draw T) (hr.mono (by decide)) T.g__law_draw T.F__law_draw.kp T.b__law_draw (fun _ => pass_0) (da_cons (de_var 0) (da_cons de_int da_nil))) de_int) (da_cons (de_ix (de_lst (da_cons de_int (da_cons de_int (da_cons de_int (da_cons de_int da_nil))))) (de_callG wok0 (ok__law_draw T) (hr.mono (by decide)) T.g__law_draw T.F__law_draw.kp T.b__law_draw (fun _ => pass_0) (da_cons (de_var 0) (da_cons de_int da_nil)))) da_nil))))
  (dss_cons (ds_if (dt_eq hr.units (de_callG wok0 (ok__law_draw T) (hr.mono (by decide)) T.g__law_draw T.F__law_draw.kp T.b__law_draw (fun _ => pass_0) (da_cons (de_var 0) (da_cons de_int da_nil))) de_int) (dss_one (ds_set 5 S__law_weather.nd (de_callG wok0 (ok__law_any T) (hr.mono (by decide)) T.g__law_any T.F__law_any.kp T.b__law_any (fun _ => pass_0) (da_cons (de_var 0) da_nil)))) dss_nil)
  (dss_one (ds_expr (de_append (de_var 2) (de_tup (da_cons (de_var 4) (da_cons (de_var 5) da_nil))))))))))
  (dss_one (ds_ret (de_tupOf T.z_tuple (da_cons (de_var 2) da_nil))))))) hF__law_weather hX__law_weather
set_option maxHeartbeats 4000000 in
theorem ok__law_thing (T : Top K mg) : GOk P w K mg base CX0 3 T.a__law_thing T.fd__law_thing ["_law_urn_here", "_law_pan_here"] (spF K mg 2 F__law_thing) :=
  fn_okG (k := 2) (fb := den__law_thing) T.F__law_thing S__law_thing rfl (fun cdv A outer s H E hr => 
  (dss_cons (ds_set 2 S__law_thing.nd (de_callG wok0 (ok__law_draw T) (hr.mono (by decide)) T.g__law_draw T.F__law_draw.kp T.b__law_draw (fun _ => pass_0) (da_cons (de_var 0) (da_cons de_int da_nil))))
  (dss_cons (ds_set 3 S__law_thing.nd (de_ix (de_var 1) (de_var 2)))
  (dss_cons (ds_set 4 S__law_thing.nd (de_lst (da_cons (de_tup (da_cons de_int (da_cons de_int da_nil))) (da_cons (de_tup (da_cons (de_sub de_int (de_ix (de_var 3) de_int)) (da_cons (de_ix (de_var 3) de_int) da_nil))) (da_cons (de_tup (da_cons (de_mul de_int (de_ix (de_var 3) de_int)) (da_cons (de_mul de_int (de_ix (de_var 3) de_int)) da_nil))) (da_cons (de_ix (de_var 3) de_int) (da_cons de_non (da_cons de_str (da_cons (de_lstOf T.z_list (da_cons (de_var 3) da_nil)) (da_cons (de_tup (da_cons de_bl (da_cons de_int da_nil))) (da_cons (de_tup (da_cons de_int (da_cons de_bl da_nil))) (da_cons (de_tup (da_cons de_int (da_cons de_int da_nil))) (da_cons (de_tup (da_cons de_int (da_cons (de_neg de_int) da_nil))) (da_cons (de_tup (da_cons (de_ix (de_var 3) de_int) (da_cons (de_ix (de_var 3) de_int) (da_cons de_int da_nil)))) (da_cons (de_tup (da_cons de_int da_nil)) (da_cons (de_tup da_nil) (da_cons (de_tup (da_cons de_int (da_cons de_int da_nil))) (da_cons de_emp da_nil))))))))))))))))))
  (dss_cons (ds_set 4 S__law_thing.nd (de_add (de_var 4) (de_lst (da_cons (de_tup (da_cons (de_add (de_pow de_int de_int) de_int) (da_cons de_int da_nil))) (da_cons (de_tup (da_cons de_int (da_cons de_int da_nil))) (da_cons (de_tup (da_cons (de_add (de_pow de_int de_int) de_int) (da_cons de_int da_nil))) da_nil))))))
  (dss_cons (ds_set 5 S__law_thing.nd (de_lstN T.z_list (da_cons (de_var 1) da_nil)))
  (dss_cons (ds_store (de_ix (de_var 4) (de_callG wok0 (ok__law_draw T) (hr.mono (by decide)) T.g__law_draw T.F__law_draw.kp T.b__law_draw (fun _ => pass_0) (da_cons (de_var 0) (da_cons de_int da_nil)))) (de_var 5) (de_var 2))
  (dss_cons (ds_set 6 S__law_thing.nd (de_lst (da_cons (de_tupOf T.z_tuple (da_cons (de_var 5) da_nil)) (da_cons (de_tupOf T.z_tuple (da_cons (de_var 5) da_nil)) (da_cons (de_tupOf T.z_tuple (da_cons (de_var 5) da_nil)) (da_cons (de_tupOf T.z_tuple (da_cons (de_var 5) da_nil)) (da_cons (de_lstOf T.z_list (da_cons (de_var 1) da_nil)) (da_cons (de_add (de_var 1) (de_tup (da_cons (de_var 3) da_nil))) (da_cons (de_slice (de_var 1) do_none (do_some de_int)) (da_cons de_non (da_cons de_bl (da_cons de_int (da_cons de_str (da_cons de_emp (da_cons (de_tup da_nil) (da_cons (de_rv (de_var 1)) (da_cons (de_var 1) (da_cons (de_var 3) da_nil))))))))))))))))))
  (dss_one (ds_ret (de_ix (de_var 6) (de_callG wok0 (ok__law_draw T) (hr.mono (by decide)) T.g__law_draw T.F__law_draw.kp T.b__law_draw (fun _ => pass_0) (da_cons (de_var 0) (da_cons de_int da_nil)))))))))))))) hF__law_thing hX__law_thing
set_option maxHeartbeats 4000000 in
theorem ok__law_above (T : Top K mg) : GOk P w K mg base CX0 5 T.a__law_above T.fd__law_above ["_law_urn_here"] (spF K mg 1 F__law_above) :=
  fn_okG (k := 4) (fb := den__law_above) T.F__law_above S__law_above rfl (fun cdv A outer s H E hr => 
  (dss_cons (ds_set 1 S__law_above.nd (de_callG wok0 (ok__law_amount T) (hr.mono (by decide)) T.g__law_amount T.F__law_amount.kp T.b__law_amount (fun _ => pass_0) (da_cons (de_var 0) da_nil)))
  (dss_one (ds_ret (de_if (dt_gt (de_ix (de_var 1) de_int) de_int) (de_var 1) (de_tup (da_cons de_int (da_cons de_int da_nil)))))))) hF__law_above hX__law_above
set_option maxHeartbeats 4000000 in
theorem ok_is_whole (T : Top K mg) : GOk P w K mg base CX0 1 T.a_is_whole T.fd_is_whole ["thing"] (spF K mg 1 F_is_whole) :=
  fn_okG (k := 0) (fb := den_is_whole) T.F_is_whole S_is_whole rfl (fun cdv A outer s H E hr => 
  (dss_one (ds_ret (de_and (de_isi (pe_bltn (v := .ty "int") (u := .type "int") rfl T.z_int (by decide +kernel) rfl) (ClsV.ty "int") isi_ty T.z_isinstance (de_var 0)) (de_one (de_not (de_isi (pe_bltn (v := .ty "bool") (u := .type "bool") rfl T.z_bool (by decide +kernel) rfl) (ClsV.ty "bool") isi_ty T.z_isinstance (de_var 0)))))))) hF_is_whole hX_is_whole
set_option maxHeartbeats 4000000 in
theorem ok_common (T : Top K mg) : GOk P w K mg base CX0 1 T.a_common T.fd_common ["a", "b"] (spF K mg 2 F_common) :=
  fn_okG (k := 0) (fb := den_common) T.F_common S_common rfl (fun cdv A outer s H E hr => 
  (dss_cons (ds_while PassesOwn.never (dt_ne hr.units (de_var 1) de_int) (dss_one (ds_par 0 1 S_common.nd (da_cons (de_var 1) (da_cons (de_mod (de_var 0) (de_var 1)) da_nil)))))
  (dss_one (ds_ret (de_abs T.z_abs (da_cons (de_var 0) da_nil)))))) hF_common hX_common
set_option maxHeartbeats 4000000 in
theorem ok_is_fraction (T : Top K mg) : GOk P w K mg base CX0 2 T.a_is_fraction T.fd_is_fraction ["thing"] (spF K mg 1 F_is_fraction) :=
  fn_okG (k := 1) (fb := den_is_fraction) T.F_is_fraction S_is_fraction rfl (fun cdv A outer s H E hr => 
  (dss_cons (ds_if (DW.dt (dw_or (dt_not (dt_val (de_isi (pe_bltn (v := .ty "tuple") (u := .type "tuple") rfl T.z_tuple (by decide +kernel) rfl) (ClsV.ty "tuple") isi_ty T.z_isinstance (de_var 0)))) (dw_or1 (dt_ne hr.units (de_len T.z_len (da_cons (de_var 0) da_nil)) de_int)))) (dss_one (ds_ret de_bl)) dss_nil)
  (dss_cons (ds_asg (de_var 0) (dg_tup rfl (dgs_cons (dg_name 1 S_is_fraction.nd) (dgs_cons (dg_name 2 S_is_fraction.nd) dgs_nil))))
  (dss_one (ds_ret (de_and (de_callG wok0 (ok_is_whole T) (hr.mono (by decide)) T.g_is_whole T.F_is_whole.kp T.b_is_whole (fun _ => pass_0) (da_cons (de_var 1) da_nil)) (de_and (de_callG wok0 (ok_is_whole T) (hr.mono (by decide)) T.g_is_whole T.F_is_whole.kp T.b_is_whole (fun _ => pass_0) (da_cons (de_var 2) da_nil)) (de_and (de_gt (de_var 2) de_int) (de_one (de_eq hr.units (de_callG wok0 (ok_common T) (hr.mono (by decide)) T.g_common T.F_common.kp T.b_common (fun _ => pass_0) (da_cons (de_var 1) (da_cons (de_var 2) da_nil))) de_int)))))))))) hF_is_fraction hX_is_fraction
set_option maxHeartbeats 4000000 in
theorem ok_is_positive (T : Top K mg) : GOk P w K mg base CX0 3 T.a_is_positive T.fd_is_positive ["thing"] (spF K mg 1 F_is_positive) :=
  fn_okG (k := 2) (fb := den_is_positive) T.F_is_positive S_is_positive rfl (fun cdv A outer s H E hr => 
  (dss_one (ds_ret (de_and (de_callG wok0 (ok_is_fraction T) (hr.mono (by decide)) T.g_is_fraction T.F_is_fraction.kp T.b_is_fraction (fun _ => pass_0) (da_cons (de_var 0) da_nil)) (de_one (de_gt (de_ix (de_var 0) de_int) de_int)))))) hF_is_positive hX_is_positive
set_option maxHeartbeats 4000000 in
theorem ok_is_pan (T : Top K mg) : GOk P w K mg base CX0 4 T.a_is_pan T.fd_is_pan ["thing"] (spF K mg 1 F_is_pan) :=
  fn_okG (k := 3) (fb := den_is_pan) T.F_is_pan S_is_pan rfl (fun cdv A outer s H E hr => 
  (dss_cons (ds_if (DW.dt (dw_or (dt_not (dt_val (de_isi (pe_bltn (v := .ty "tuple") (u := .type "tuple") rfl T.z_tuple (by decide +kernel) rfl) (ClsV.ty "tuple") isi_ty T.z_isinstance (de_var 0)))) (dw_or1 (dt_ne hr.units (de_len T.z_len (da_cons (de_var 0) da_nil)) de_int)))) (dss_one (ds_ret de_bl)) dss_nil)
  (dss_cons (ds_asg (de_var 0) (dg_tup rfl (dgs_cons (dg_name 1 S_is_pan.nd) (dgs_cons (dg_name 2 S_is_pan.nd) dgs_nil))))
  (dss_one (ds_ret (de_and (de_callG wok0 (ok_is_positive T) (hr.mono (by decide)) T.g_is_positive T.F_is_positive.kp T.b_is_positive (fun _ => pass_0) (da_cons (de_var 1) da_nil)) (de_one (de_callG wok0 (ok_is_positive T) (hr.mono (by decide)) T.g_is_positive T.F_is_positive.kp T.b_is_positive (fun _ => pass_0) (da_cons (de_var 2) da_nil))))))))) hF_is_pan hX_is_pan
set_option maxHeartbeats 4000000 in
theorem okn__law_same (T : Top K mg) : ∀ n : Nat, GOk P w K mg base CX0 (1 + n) T.a__law_same T.fd__law_same ["_law_found", "_law_due"] (spF K mg 2 (Fn__law_same n))
  | 0 => gok_never fun ds M => rfl
  | n + 1 => by
    have ih := okn__law_same T n
    exact fn_okG (k := 1 + n) (fb := den__law_same (Fn__law_same n)) T.F__law_same S__law_same rfl (fun cdv A outer s H E hr => 
  (dss_cons (ds_if (dt_val (de_isi (pe_bltn (v := .ty "tuple") (u := .type "tuple") rfl T.z_tuple (by decide +kernel) rfl) (ClsV.ty "tuple") isi_ty T.z_isinstance (de_var 1))) (dss_one (ds_ret (de_and (de_isi (pe_bltn (v := .ty "tuple") (u := .type "tuple") rfl T.z_tuple (by decide +kernel) rfl) (ClsV.ty "tuple") isi_ty T.z_isinstance (de_var 0)) (de_and (de_eq hr.units (de_len T.z_len (da_cons (de_var 0) da_nil)) (de_len T.z_len (da_cons (de_var 1) da_nil))) (de_one (de_all rfl T.z_all (da_cons (de_lc [("_law_one", 2), ("_law_other", 3)] (S__law_same.nd) (blkOk_by (N := N__law_same) (sc := defScope s__law_same) (own := [("_law_one", 2), ("_law_other", 3)]) (by decide +kernel)) (di_zip T.z_zip (da_cons (de_var 0) (da_cons (de_var 1) da_nil))) (fun _ _ _ _ _ => (dg_tup rfl (dgs_cons (dg_name 2 S__law_same.nd) (dgs_cons (dg_name 3 S__law_same.nd) dgs_nil)))) (fun _ _ _ _ _ => dts_nil) (fun _ _ _ _ _ => (de_callG wok0 ih (hr.mono (by omega)) T.g__law_same T.F__law_same.kp T.b__law_same (fun _ => pass_0) (da_cons (de_var 2) (da_cons (de_var 3) da_nil))))) da_nil))))))) dss_nil)
  (dss_cons (ds_if (dt_isN (de_var 1) de_non) (dss_one (ds_ret (de_isN (de_var 0) de_non))) dss_nil)
  (dss_one (ds_ret (de_and (de_isi (pe_bltn (v := .ty "int") (u := .type "int") rfl T.z_int (by decide +kernel) rfl) (ClsV.ty "int") isi_ty T.z_isinstance (de_var 0)) (de_and (de_not (de_isi (pe_bltn (v := .ty "bool") (u := .type "bool") rfl T.z_bool (by decide +kernel) rfl) (ClsV.ty "bool") isi_ty T.z_isinstance (de_var 0))) (de_one (de_eq hr.units (de_var 0) (de_var 1)))))))))) runF_ok runF_nx
theorem ok__law_same (T : Top K mg) : GOk P w K mg base CX0 13 T.a__law_same T.fd__law_same ["_law_found", "_law_due"] (spF K mg 2 F__law_same) := okn__law_same T 12
set_option maxHeartbeats 4000000 in
theorem ok__law_times (T : Top K mg) : GOk P w K mg base CX0 2 T.a__law_times T.fd__law_times ["_law_one", "_law_other"] (spF K mg 2 F__law_times) :=
  fn_okG (k := 1) (fb := den__law_times) T.F__law_times S__law_times rfl (fun cdv A outer s H E hr => 
  (dss_one (ds_ret (de_callG wok0 (ok__law_made T) (hr.mono (by decide)) T.g__law_made T.F__law_made.kp T.b__law_made (fun _ => pass_0) (da_cons (de_mul (de_ix (de_var 0) de_int) (de_ix (de_var 1) de_int)) (da_cons (de_mul (de_ix (de_var 0) de_int) (de_ix (de_var 1) de_int)) da_nil)))))) hF__law_times hX__law_times
set_option maxHeartbeats 4000000 in
theorem ok__law_plus (T : Top K mg) : GOk P w K mg base CX0 2 T.a__law_plus T.fd__law_plus ["_law_one", "_law_other"] (spF K mg 2 F__law_plus) :=
  fn_okG (k := 1) (fb := den__law_plus) T.F__law_plus S__law_plus rfl (fun cdv A outer s H E hr => 
  (dss_one (ds_ret (de_callG wok0 (ok__law_made T) (hr.mono (by decide)) T.g__law_made T.F__law_made.kp T.b__law_made (fun _ => pass_0) (da_cons (de_add (de_mul (de_ix (de_var 0) de_int) (de_ix (de_var 1) de_int)) (de_mul (de_ix (de_var 1) de_int) (de_ix (de_var 0) de_int))) (da_cons (de_mul (de_ix (de_var 0) de_int) (de_ix (de_var 1) de_int)) da_nil)))))) hF__law_plus hX__law_plus
set_option maxHeartbeats 4000000 in
theorem ok__law_summed (T : Top K mg) : GOk P w K mg base CX0 3 T.a__law_summed T.fd__law_summed ["_law_some"] (spF K mg 1 F__law_summed) :=
  fn_okG (k := 2) (fb := den__law_summed) T.F__law_summed S__law_summed rfl (fun cdv A outer s H E hr => 
  (dss_cons (ds_set 1 S__law_summed.nd (de_tup (da_cons de_int (da_cons de_int da_nil))))
  (dss_cons (ds_for PassesOwn.never (di_seq (de_var 0)) (dg_name 2 S__law_summed.nd) (dss_one (ds_set 1 S__law_summed.nd (de_callG wok0 (ok__law_plus T) (hr.mono (by decide)) T.g__law_plus T.F__law_plus.kp T.b__law_plus (fun _ => pass_0) (da_cons (de_var 1) (da_cons (de_var 2) da_nil))))))
  (dss_one (ds_ret (de_var 1)))))) hF__law_summed hX__law_summed
set_option maxHeartbeats 4000000 in
theorem ok__law_below (T : Top K mg) : GOk P w K mg base CX0 1 T.a__law_below T.fd__law_below ["_law_one", "_law_other"] (spF K mg 2 F__law_below) :=
  fn_okG (k := 0) (fb := den__law_below) T.F__law_below S__law_below rfl (fun cdv A outer s H E hr => 
  (dss_one (ds_ret (de_lt (de_mul (de_ix (de_var 0) de_int) (de_ix (de_var 1) de_int)) (de_mul (de_ix (de_var 1) de_int) (de_ix (de_var 0) de_int)))))) hF__law_below hX__law_below
set_option maxHeartbeats 4000000 in
theorem ok__law_led (T : Top K mg) : GOk P w K mg base CX0 3 T.a__law_led T.fd__law_led ["_law_pan_here", "_law_weather_here", "_law_water_here"] (spF K mg 3 F__law_led) :=
  fn_okG (k := 2) (fb := den__law_led) T.F__law_led S__law_led rfl (fun cdv A outer s H E hr => 
  (dss_cons (ds_set 3 S__law_led.nd (de_callG wok0 (ok__law_times T) (hr.mono (by decide)) T.g__law_times T.F__law_times.kp T.b__law_times (fun _ => pass_0) (da_cons (de_ix (de_var 0) de_int) (da_cons (de_ix (de_var 0) de_int) da_nil))))
  (dss_cons (ds_for PassesOwn.never (di_seq (de_var 1)) (dg_tup rfl (dgs_cons (dg_name 4 S__law_led.nd) (dgs_cons (dg_name 5 S__law_led.nd) dgs_nil))) (dss_cons (ds_set 2 S__law_led.nd (de_callG wok0 (ok__law_plus T) (hr.mono (by decide)) T.g__law_plus T.F__law_plus.kp T.b__law_plus (fun _ => pass_0) (da_cons (de_var 2) (da_cons (de_callG wok0 (ok__law_times T) (hr.mono (by decide)) T.g__law_times T.F__law_times.kp T.b__law_times (fun _ => pass_0) (da_cons (de_ix (de_var 0) de_int) (da_cons (de_callG wok0 (ok__law_times T) (hr.mono (by decide)) T.g__law_times T.F__law_times.kp T.b__law_times (fun _ => pass_0) (da_cons (de_var 5) (da_cons (de_var 4) da_nil))) da_nil))) da_nil))))
  (dss_cons (ds_if (dt_lt (de_ix (de_var 2) de_int) de_int) (dss_one (ds_set 2 S__law_led.nd (de_tup (da_cons de_int (da_cons de_int da_nil))))) dss_nil)
  (dss_one (ds_if (dt_val (de_callG wok0 (ok__law_below T) (hr.mono (by decide)) T.g__law_below T.F__law_below.kp T.b__law_below (fun _ => pass_0) (da_cons (de_var 3) (da_cons (de_var 2) da_nil)))) (dss_one (ds_set 2 S__law_led.nd (de_var 3))) dss_nil)))))
  (dss_one (ds_ret (de_var 2)))))) hF__law_led hX__law_led
set_option maxHeartbeats 4000000 in
theorem ok_times (T : Top K mg) : GOk P w K mg base CX0 2 T.a_times T.fd_times ["one", "other"] (spF K mg 2 F_times) :=
  fn_okG (k := 1) (fb := den_times) T.F_times S_times rfl (fun cdv A outer s H E hr => 
  (dss_cons (ds_asg (de_var 0) (dg_tup rfl (dgs_cons (dg_name 4 S_times.nd) (dgs_cons (dg_name 5 S_times.nd) dgs_nil))))
  (dss_cons (ds_asg (de_var 1) (dg_tup rfl (dgs_cons (dg_name 6 S_times.nd) (dgs_cons (dg_name 7 S_times.nd) dgs_nil))))
  (dss_cons (ds_set 2 S_times.nd (de_callG wok0 (ok_common T) (hr.mono (by decide)) T.g_common T.F_common.kp T.b_common (fun _ => pass_0) (da_cons (de_var 4) (da_cons (de_var 7) da_nil))))
  (dss_cons (ds_set 3 S_times.nd (de_callG wok0 (ok_common T) (hr.mono (by decide)) T.g_common T.F_common.kp T.b_common (fun _ => pass_0) (da_cons (de_var 6) (da_cons (de_var 5) da_nil))))
  (dss_one (ds_ret (de_tup (da_cons (de_mul (de_div (de_var 4) (de_var 2)) (de_div (de_var 6) (de_var 3))) (da_cons (de_mul (de_div (de_var 5) (de_var 3)) (de_div (de_var 7) (de_var 2))) da_nil)))))))))) hF_times hX_times
set_option maxHeartbeats 4000000 in
theorem ok_plus (T : Top K mg) : GOk P w K mg base CX0 2 T.a_plus T.fd_plus ["one", "other"] (spF K mg 2 F_plus) :=
  fn_okG (k := 1) (fb := den_plus) T.F_plus S_plus rfl (fun cdv A outer s H E hr => 
  (dss_cons (ds_asg (de_var 0) (dg_tup rfl (dgs_cons (dg_name 5 S_plus.nd) (dgs_cons (dg_name 6 S_plus.nd) dgs_nil))))
  (dss_cons (ds_asg (de_var 1) (dg_tup rfl (dgs_cons (dg_name 7 S_plus.nd) (dgs_cons (dg_name 8 S_plus.nd) dgs_nil))))
  (dss_cons (ds_set 2 S_plus.nd (de_callG wok0 (ok_common T) (hr.mono (by decide)) T.g_common T.F_common.kp T.b_common (fun _ => pass_0) (da_cons (de_var 6) (da_cons (de_var 8) da_nil))))
  (dss_cons (ds_set 3 S_plus.nd (de_add (de_mul (de_var 5) (de_div (de_var 8) (de_var 2))) (de_mul (de_var 7) (de_div (de_var 6) (de_var 2)))))
  (dss_cons (ds_set 4 S_plus.nd (de_callG wok0 (ok_common T) (hr.mono (by decide)) T.g_common T.F_common.kp T.b_common (fun _ => pass_0) (da_cons (de_var 3) (da_cons (de_var 2) da_nil))))
  (dss_one (ds_ret (de_tup (da_cons (de_div (de_var 3) (de_var 4)) (da_cons (de_mul (de_div (de_var 6) (de_var 2)) (de_div (de_var 8) (de_var 4))) da_nil))))))))))) hF_plus hX_plus
set_option maxHeartbeats 4000000 in
theorem ok_summed (T : Top K mg) : GOk P w K mg base CX0 3 T.a_summed T.fd_summed ["some"] (spF K mg 1 F_summed) :=
  fn_okG (k := 2) (fb := den_summed) T.F_summed S_summed rfl (fun cdv A outer s H E hr => 
  (dss_cons (ds_set 1 S_summed.nd (de_const T.g_NOUGHT T.r_NOUGHT))
  (dss_cons (ds_for PassesOwn.never (di_seq (de_var 0)) (dg_name 2 S_summed.nd) (dss_one (ds_set 1 S_summed.nd (de_callG wok0 (ok_plus T) (hr.mono (by decide)) T.g_plus T.F_plus.kp T.b_plus (fun _ => pass_0) (da_cons (de_var 1) (da_cons (de_var 2) da_nil))))))
  (dss_one (ds_ret (de_var 1)))))) hF_summed hX_summed
set_option maxHeartbeats 4000000 in
theorem ok_brought (T : Top K mg) : GOk P w K mg base CX0 4 T.a_brought T.fd_brought ["area", "spells"] (spF K mg 2 F_brought) :=
  fn_okG (k := 3) (fb := den_brought) T.F_brought S_brought rfl (fun cdv A outer s H E hr => 
  (dss_one (ds_ret (de_callG wok0 (ok_times T) (hr.mono (by decide)) T.g_times T.F_times.kp T.b_times (fun _ => pass_0) (da_cons (de_var 0) (da_cons (de_callG wok0 (ok_summed T) (hr.mono (by decide)) T.g_summed T.F_summed.kp T.b_summed (fun _ => pass_0) (da_cons (de_lc [("days", 2), ("net", 3)] (S_brought.nd) (blkOk_by (N := N_brought) (sc := defScope s_brought) (own := [("days", 2), ("net", 3)]) (by decide +kernel)) (di_seq (de_var 1)) (fun _ _ _ _ _ => (dg_tup rfl (dgs_cons (dg_name 2 S_brought.nd) (dgs_cons (dg_name 3 S_brought.nd) dgs_nil)))) (fun _ _ _ _ _ => dts_nil) (fun _ _ _ _ _ => (de_callG wok0 (ok_times T) (hr.mono (by decide)) T.g_times T.F_times.kp T.b_times (fun _ => pass_0) (da_cons (de_var 2) (da_cons (de_var 3) da_nil))))) da_nil)) da_nil)))))) hF_brought hX_brought
set_option maxHeartbeats 4000000 in
theorem ok_rim_of (T : Top K mg) : GOk P w K mg base CX0 3 T.a_rim_of T.fd_rim_of ["pan"] (spF K mg 1 F_rim_of) :=
  fn_okG (k := 2) (fb := den_rim_of) T.F_rim_of S_rim_of rfl (fun cdv A outer s H E hr => 
  (dss_cons (ds_asg (de_var 0) (dg_tup rfl (dgs_cons (dg_name 1 S_rim_of.nd) (dgs_cons (dg_name 2 S_rim_of.nd) dgs_nil))))
  (dss_one (ds_ret (de_callG wok0 (ok_times T) (hr.mono (by decide)) T.g_times T.F_times.kp T.b_times (fun _ => pass_0) (da_cons (de_var 1) (da_cons (de_var 2) da_nil))))))) hF_rim_of hX_rim_of
set_option maxHeartbeats 4000000 in
theorem ok_spell_clamp (T : Top K mg) : GOk P w K mg base CX0 5 T.a_spell_clamp T.fd_spell_clamp ["pan", "spell"] (spF K mg 2 F_spell_clamp) :=
  fn_okG (k := 4) (fb := den_spell_clamp) T.F_spell_clamp S_spell_clamp rfl (fun cdv A outer s H E hr => 
  (dss_one (ds_ret (de_tup (da_cons (de_callG wok0 (ok_brought T) (hr.mono (by decide)) T.g_brought T.F_brought.kp T.b_brought (fun _ => pass_0) (da_cons (de_ix (de_var 0) de_int) (da_cons (de_tup (da_cons (de_var 1) da_nil)) da_nil))) (da_cons (de_const T.g_NOUGHT T.r_NOUGHT) (da_cons (de_callG wok0 (ok_rim_of T) (hr.mono (by decide)) T.g_rim_of T.F_rim_of.kp T.b_rim_of (fun _ => pass_0) (da_cons (de_var 0) da_nil)) da_nil))))))) hF_spell_clamp hX_spell_clamp
set_option maxHeartbeats 4000000 in
theorem ok_is_less (T : Top K mg) : GOk P w K mg base CX0 1 T.a_is_less T.fd_is_less ["one", "other"] (spF K mg 2 F_is_less) :=
  fn_okG (k := 0) (fb := den_is_less) T.F_is_less S_is_less rfl (fun cdv A outer s H E hr => 
  (dss_cons (ds_asg (de_var 0) (dg_tup rfl (dgs_cons (dg_name 2 S_is_less.nd) (dgs_cons (dg_name 3 S_is_less.nd) dgs_nil))))
  (dss_cons (ds_asg (de_var 1) (dg_tup rfl (dgs_cons (dg_name 4 S_is_less.nd) (dgs_cons (dg_name 5 S_is_less.nd) dgs_nil))))
  (dss_one (ds_ret (de_lt (de_mul (de_var 2) (de_var 5)) (de_mul (de_var 4) (de_var 3)))))))) hF_is_less hX_is_less
set_option maxHeartbeats 4000000 in
theorem ok_least (T : Top K mg) : GOk P w K mg base CX0 2 T.a_least T.fd_least ["some"] (spF K mg 1 F_least) :=
  fn_okG (k := 1) (fb := den_least) T.F_least S_least rfl (fun cdv A outer s H E hr => 
  (dss_cons (ds_set 1 S_least.nd (de_ix (de_var 0) de_int))
  (dss_cons (ds_for PassesOwn.never (di_seq (de_var 0)) (dg_name 2 S_least.nd) (dss_one (ds_if (dt_val (de_callG wok0 (ok_is_less T) (hr.mono (by decide)) T.g_is_less T.F_is_less.kp T.b_is_less (fun _ => pass_0) (da_cons (de_var 2) (da_cons (de_var 1) da_nil)))) (dss_one (ds_set 1 S_least.nd (de_var 2))) dss_nil)))
  (dss_one (ds_ret (de_var 1)))))) hF_least hX_least
set_option maxHeartbeats 4000000 in
theorem ok_greatest (T : Top K mg) : GOk P w K mg base CX0 2 T.a_greatest T.fd_greatest ["some"] (spF K mg 1 F_greatest) :=
  fn_okG (k := 1) (fb := den_greatest) T.F_greatest S_greatest rfl (fun cdv A outer s H E hr => 
  (dss_cons (ds_set 1 S_greatest.nd (de_ix (de_var 0) de_int))
  (dss_cons (ds_for PassesOwn.never (di_seq (de_var 0)) (dg_name 2 S_greatest.nd) (dss_one (ds_if (dt_val (de_callG wok0 (ok_is_less T) (hr.mono (by decide)) T.g_is_less T.F_is_less.kp T.b_is_less (fun _ => pass_0) (da_cons (de_var 1) (da_cons (de_var 2) da_nil)))) (dss_one (ds_set 1 S_greatest.nd (de_var 2))) dss_nil)))
  (dss_one (ds_ret (de_var 1)))))) hF_greatest hX_greatest
set_option maxHeartbeats 4000000 in
theorem ok_clamped (T : Top K mg) : GOk P w K mg base CX0 3 T.a_clamped T.fd_clamped ["clamp", "x"] (spF K mg 2 F_clamped) :=
  fn_okG (k := 2) (fb := den_clamped) T.F_clamped S_clamped rfl (fun cdv A outer s H E hr => 
  (dss_cons (ds_asg (de_var 0) (dg_tup rfl (dgs_cons (dg_name 2 S_clamped.nd) (dgs_cons (dg_name 3 S_clamped.nd) (dgs_cons (dg_name 4 S_clamped.nd) dgs_nil)))))
  (dss_one (ds_ret (de_callG wok0 (ok_least T) (hr.mono (by decide)) T.g_least T.F_least.kp T.b_least (fun _ => pass_0) (da_cons (de_tup (da_cons (de_var 4) (da_cons (de_callG wok0 (ok_greatest T) (hr.mono (by decide)) T.g_greatest T.F_greatest.kp T.b_greatest (fun _ => pass_0) (da_cons (de_tup (da_cons (de_var 3) (da_cons (de_callG wok0 (ok_plus T) (hr.mono (by decide)) T.g_plus T.F_plus.kp T.b_plus (fun _ => pass_0) (da_cons (de_var 1) (da_cons (de_var 2) da_nil))) da_nil))) da_nil)) da_nil))) da_nil)))))) hF_clamped hX_clamped
set_option maxHeartbeats 4000000 in
theorem ok_one_behind (T : Top K mg) : GOk P w K mg base CX0 4 T.a_one_behind T.fd_one_behind ["first", "second"] (spF K mg 2 F_one_behind) :=
  fn_okG (k := 3) (fb := den_one_behind) T.F_one_behind S_one_behind rfl (fun cdv A outer s H E hr => 
  (dss_cons (ds_asg (de_var 0) (dg_tup rfl (dgs_cons (dg_name 2 S_one_behind.nd) (dgs_cons (dg_name 3 S_one_behind.nd) (dgs_cons (dg_name 4 S_one_behind.nd) dgs_nil)))))
  (dss_one (ds_ret (de_tup (da_cons (de_callG wok0 (ok_plus T) (hr.mono (by decide)) T.g_plus T.F_plus.kp T.b_plus (fun _ => pass_0) (da_cons (de_var 2) (da_cons (de_ix (de_var 1) de_int) da_nil))) (da_cons (de_callG wok0 (ok_clamped T) (hr.mono (by decide)) T.g_clamped T.F_clamped.kp T.b_clamped (fun _ => pass_0) (da_cons (de_var 1) (da_cons (de_var 3) da_nil))) (da_cons (de_callG wok0 (ok_clamped T) (hr.mono (by decide)) T.g_clamped T.F_clamped.kp T.b_clamped (fun _ => pass_0) (da_cons (de_var 1) (da_cons (de_var 4) da_nil))) da_nil)))))))) hF_one_behind hX_one_behind
set_option maxHeartbeats 4000000 in
theorem ok_clamp_of (T : Top K mg) : GOk P w K mg base CX0 6 T.a_clamp_of T.fd_clamp_of ["pan", "weather"] (spF K mg 2 F_clamp_of) :=
  fn_okG (k := 5) (fb := den_clamp_of) T.F_clamp_of S_clamp_of rfl (fun cdv A outer s H E hr => 
  (dss_cons (ds_set 2 S_clamp_of.nd (de_callG wok0 (ok_spell_clamp T) (hr.mono (by decide)) T.g_spell_clamp T.F_spell_clamp.kp T.b_spell_clamp (fun _ => pass_0) (da_cons (de_var 0) (da_cons (de_ix (de_var 1) de_int) da_nil))))
  (dss_cons (ds_for PassesOwn.never (di_seq (de_slice (de_var 1) (do_some de_int) do_none)) (dg_name 3 S_clamp_of.nd) (dss_one (ds_set 2 S_clamp_of.nd (de_callG wok0 (ok_one_behind T) (hr.mono (by decide)) T.g_one_behind T.F_one_behind.kp T.b_one_behind (fun _ => pass_0) (da_cons (de_var 2) (da_cons (de_callG wok0 (ok_spell_clamp T) (hr.mono (by decide)) T.g_spell_clamp T.F_spell_clamp.kp T.b_spell_clamp (fun _ => pass_0) (da_cons (de_var 0) (da_cons (de_var 3) da_nil))) da_nil))))))
  (dss_one (ds_ret (de_var 2)))))) hF_clamp_of hX_clamp_of
set_option maxHeartbeats 4000000 in
theorem ok__law_clamp_right (T : Top K mg) : GOk P w K mg base CX0 14 T.a__law_clamp_right T.fd__law_clamp_right ["_law_pan_here", "_law_weather_here"] (spF K mg 2 F__law_clamp_right) :=
  fn_okG (k := 13) (fb := den__law_clamp_right) T.F__law_clamp_right S__law_clamp_right rfl (fun cdv A outer s H E hr => 
  (dss_cons (ds_set 2 S__law_clamp_right.nd (de_callG wok0 (ok__law_times T) (hr.mono (by decide)) T.g__law_times T.F__law_times.kp T.b__law_times (fun _ => pass_0) (da_cons (de_ix (de_var 0) de_int) (da_cons (de_ix (de_var 0) de_int) da_nil))))
  (dss_cons (ds_set 3 S__law_clamp_right.nd (de_callG wok0 (ok__law_summed T) (hr.mono (by decide)) T.g__law_summed T.F__law_summed.kp T.b__law_summed (fun _ => pass_0) (da_cons (de_lc [("_law_days", 10), ("_law_net", 11)] (S__law_clamp_right.nd) (blkOk_by (N := N__law_clamp_right) (sc := defScope s__law_clamp_right) (own := [("_law_days", 10), ("_law_net", 11)]) (by decide +kernel)) (di_seq (de_var 1)) (fun _ _ _ _ _ => (dg_tup rfl (dgs_cons (dg_name 10 S__law_clamp_right.nd) (dgs_cons (dg_name 11 S__law_clamp_right.nd) dgs_nil)))) (fun _ _ _ _ _ => dts_nil) (fun _ _ _ _ _ => (de_callG wok0 (ok__law_times T) (hr.mono (by decide)) T.g__law_times T.F__law_times.kp T.b__law_times (fun _ => pass_0) (da_cons (de_ix (de_var 0) de_int) (da_cons (de_callG wok0 (ok__law_times T) (hr.mono (by decide)) T.g__law_times T.F__law_times.kp T.b__law_times (fun _ => pass_0) (da_cons (de_var 11) (da_cons (de_var 10) da_nil))) da_nil))))) da_nil)))
  (dss_cons (ds_set 4 S__law_clamp_right.nd (de_callG wok0 (ok__law_led T) (hr.mono (by decide)) T.g__law_led T.F__law_led.kp T.b__law_led (fun _ => pass_0) (da_cons (de_var 0) (da_cons (de_slice (de_var 1) (do_some de_int) do_none) (da_cons (de_tup (da_cons de_int (da_cons de_int da_nil))) da_nil)))))
  (dss_cons (ds_set 5 S__law_clamp_right.nd (de_callG wok0 (ok__law_led T) (hr.mono (by decide)) T.g__law_led T.F__law_led.kp T.b__law_led (fun _ => pass_0) (da_cons (de_var 0) (da_cons (de_slice (de_var 1) (do_some de_int) do_none) (da_cons (de_var 2) da_nil)))))
  (dss_cons (ds_set 6 S__law_clamp_right.nd (de_callG wok0 (ok_clamp_of T) (hr.mono (by decide)) T.g_clamp_of T.F_clamp_of.kp T.b_clamp_of (fun _ => pass_0) (da_cons (de_var 0) (da_cons (de_var 1) da_nil))))
  (dss_cons (ds_if (dt_not (dt_val (de_callG wok0 (ok__law_same T) (hr.mono (by decide)) T.g__law_same T.F__law_same.kp T.b__law_same (fun _ => pass_0) (da_cons (de_var 6) (da_cons (de_tup (da_cons (de_var 3) (da_cons (de_var 4) (da_cons (de_var 5) da_nil)))) da_nil))))) (dss_one (ds_ret de_bl)) dss_nil)
  (dss_cons (ds_for PassesOwn.never (di_range1 T.z_range (da_cons de_int da_nil)) (dg_name 7 S__law_clamp_right.nd) (dss_cons (ds_set 8 S__law_clamp_right.nd (de_callG wok0 (ok__law_times T) (hr.mono (by decide)) T.g__law_times T.F__law_times.kp T.b__law_times (fun _ => pass_0) (da_cons (de_var 2) (da_cons (de_callG wok0 (ok__law_made T) (hr.mono (by decide)) T.g__law_made T.F__law_made.kp T.b__law_made (fun _ => pass_0) (da_cons (de_var 7) (da_cons de_int da_nil))) da_nil))))
  (dss_cons (ds_set 9 S__law_clamp_right.nd (de_callG wok0 (ok__law_plus T) (hr.mono (by decide)) T.g__law_plus T.F__law_plus.kp T.b__law_plus (fun _ => pass_0) (da_cons (de_var 8) (da_cons (de_var 3) da_nil))))
  (dss_cons (ds_if (dt_val (de_callG wok0 (ok__law_below T) (hr.mono (by decide)) T.g__law_below T.F__law_below.kp T.b__law_below (fun _ => pass_0) (da_cons (de_var 9) (da_cons (de_var 4) da_nil)))) (dss_one (ds_set 9 S__law_clamp_right.nd (de_var 4))) dss_nil)
  (dss_cons (ds_if (dt_val (de_callG wok0 (ok__law_below T) (hr.mono (by decide)) T.g__law_below T.F__law_below.kp T.b__law_below (fun _ => pass_0) (da_cons (de_var 5) (da_cons (de_var 9) da_nil)))) (dss_one (ds_set 9 S__law_clamp_right.nd (de_var 5))) dss_nil)
  (dss_one (ds_if (dt_ne hr.units (de_var 9) (de_callG wok0 (ok__law_led T) (hr.mono (by decide)) T.g__law_led T.F__law_led.kp T.b__law_led (fun _ => pass_0) (da_cons (de_var 0) (da_cons (de_var 1) (da_cons (de_var 8) da_nil))))) (dss_one (ds_ret de_bl)) dss_nil)))))))
  (dss_one (ds_ret (de_eq hr.units (de_callG wok0 (ok_clamp_of T) (hr.mono (by decide)) T.g_clamp_of T.F_clamp_of.kp T.b_clamp_of (fun _ => pass_0) (da_cons (de_var 0) (da_cons (de_var 1) da_nil))) (de_var 6)))))))))))) hF__law_clamp_right hX__law_clamp_right
set_option maxHeartbeats 4000000 in
theorem ok__law_pan (T : Top K mg) : GOk P w K mg base CX0 3 T.a__law_pan T.fd__law_pan ["_law_urn_here"] (spF K mg 1 F__law_pan) :=
  fn_okG (k := 2) (fb := den__law_pan) T.F__law_pan S__law_pan rfl (fun cdv A outer s H E hr => 
  (dss_one (ds_ret (de_tup (da_cons (de_callG wok0 (ok__law_made T) (hr.mono (by decide)) T.g__law_made T.F__law_made.kp T.b__law_made (fun _ => pass_0) (da_cons (de_add de_int (de_callG wok0 (ok__law_draw T) (hr.mono (by decide)) T.g__law_draw T.F__law_draw.kp T.b__law_draw (fun _ => pass_0) (da_cons (de_var 0) (da_cons de_int da_nil)))) (da_cons (de_add de_int (de_callG wok0 (ok__law_draw T) (hr.mono (by decide)) T.g__law_draw T.F__law_draw.kp T.b__law_draw (fun _ => pass_0) (da_cons (de_var 0) (da_cons de_int da_nil)))) da_nil))) (da_cons (de_callG wok0 (ok__law_made T) (hr.mono (by decide)) T.g__law_made T.F__law_made.kp T.b__law_made (fun _ => pass_0) (da_cons (de_add de_int (de_callG wok0 (ok__law_draw T) (hr.mono (by decide)) T.g__law_draw T.F__law_draw.kp T.b__law_draw (fun _ => pass_0) (da_cons (de_var 0) (da_cons de_int da_nil)))) (da_cons (de_add de_int (de_callG wok0 (ok__law_draw T) (hr.mono (by decide)) T.g__law_draw T.F__law_draw.kp T.b__law_draw (fun _ => pass_0) (da_cons (de_var 0) (da_cons de_int da_nil)))) da_nil))) da_nil)))))) hF__law_pan hX__law_pan
set_option maxHeartbeats 4000000 in
theorem ok__law_is_part (T : Top K mg) : GOk P w K mg base CX0 2 T.a__law_is_part T.fd__law_is_part ["_law_thing_here"] (spF K mg 1 F__law_is_part) :=
  fn_okG (k := 1) (fb := den__law_is_part) T.F__law_is_part S__law_is_part rfl (fun cdv A outer s H E hr => 
  (dss_cons (ds_if (DW.dt (dw_or (dt_not (dt_val (de_isi (pe_bltn (v := .ty "tuple") (u := .type "tuple") rfl T.z_tuple (by decide +kernel) rfl) (ClsV.ty "tuple") isi_ty T.z_isinstance (de_var 0)))) (dw_or1 (dt_ne hr.units (de_len T.z_len (da_cons (de_var 0) da_nil)) de_int)))) (dss_one (ds_ret de_bl)) dss_nil)
  (dss_cons (ds_for PassesOwn.never (di_seq (de_var 0)) (dg_name 1 S__law_is_part.nd) (dss_one (ds_if (DW.dt (dw_or (dt_not (dt_val (de_isi (pe_bltn (v := .ty "int") (u := .type "int") rfl T.z_int (by decide +kernel) rfl) (ClsV.ty "int") isi_ty T.z_isinstance (de_var 1)))) (dw_or (dt_val (de_isi (pe_bltn (v := .ty "bool") (u := .type "bool") rfl T.z_bool (by decide +kernel) rfl) (ClsV.ty "bool") isi_ty T.z_isinstance (de_var 1))) (dw_or1 (dt_lt (de_var 1) de_int))))) (dss_one (ds_ret de_bl)) dss_nil)))
  (dss_one (ds_ret (de_eq hr.units (de_callG wok0 (ok__law_made T) (hr.mono (by decide)) T.g__law_made T.F__law_made.kp T.b__law_made (fun _ => pass_0) (da_cons (de_ix (de_var 0) de_int) (da_cons (de_ix (de_var 0) de_int) da_nil))) (de_var 0))))))) hF__law_is_part hX__law_is_part
set_option maxHeartbeats 4000000 in
theorem ok__law_is_pan (T : Top K mg) : GOk P w K mg base CX0 3 T.a__law_is_pan T.fd__law_is_pan ["_law_thing_here"] (spF K mg 1 F__law_is_pan) :=
  fn_okG (k := 2) (fb := den__law_is_pan) T.F__law_is_pan S__law_is_pan rfl (fun cdv A outer s H E hr => 
  (dss_cons (ds_if (DW.dt (dw_or (dt_not (dt_val (de_isi (pe_bltn (v := .ty "tuple") (u := .type "tuple") rfl T.z_tuple (by decide +kernel) rfl) (ClsV.ty "tuple") isi_ty T.z_isinstance (de_var 0)))) (dw_or1 (dt_ne hr.units (de_len T.z_len (da_cons (de_var 0) da_nil)) de_int)))) (dss_one (ds_ret de_bl)) dss_nil)
  (dss_one (ds_ret (de_and (de_callG wok0 (ok__law_is_part T) (hr.mono (by decide)) T.g__law_is_part T.F__law_is_part.kp T.b__law_is_part (fun _ => pass_0) (da_cons (de_ix (de_var 0) de_int) da_nil)) (de_one (de_callG wok0 (ok__law_is_part T) (hr.mono (by decide)) T.g__law_is_part T.F__law_is_part.kp T.b__law_is_part (fun _ => pass_0) (da_cons (de_ix (de_var 0) de_int) da_nil)))))))) hF__law_is_pan hX__law_is_pan
set_option maxHeartbeats 4000000 in
theorem ok_law (T : Top K mg) : GOk P w K mg base CX0 15 T.a_law T.fd_law ["_law_script"] (spF K mg 1 F_law) :=
  fn_okG (k := 14) (fb := den_law) T.F_law S_law rfl (fun cdv A outer s H E hr => 
  (dss_cons (ds_set 1 S_law.nd (de_callG wok0 (ok__law_urn T) (hr.mono (by decide)) T.g__law_urn T.F__law_urn.kp T.b__law_urn (fun _ => pass_0) (da_cons (de_var 0) da_nil)))
  (dss_cons (ds_for PassesOwn.never (di_range1 T.z_range (da_cons de_int da_nil)) (dg_name 2 S_law.nd) (dss_cons (ds_set 3 S_law.nd (de_tup (da_cons (de_callG wok0 (ok__law_above T) (hr.mono (by decide)) T.g__law_above T.F__law_above.kp T.b__law_above (fun _ => pass_0) (da_cons (de_var 1) da_nil)) (da_cons (de_callG wok0 (ok__law_above T) (hr.mono (by decide)) T.g__law_above T.F__law_above.kp T.b__law_above (fun _ => pass_0) (da_cons (de_var 1) da_nil)) da_nil))))
  (dss_cons (ds_set 4 S_law.nd (de_ix (de_lst (da_cons (de_callG wok0 (ok__law_pan T) (hr.mono (by decide)) T.g__law_pan T.F__law_pan.kp T.b__law_pan (fun _ => pass_0) (da_cons (de_var 1) da_nil)) (da_cons (de_var 3) da_nil))) (de_toInt T.z_int (da_cons (de_eq hr.units (de_callG wok0 (ok__law_draw T) (hr.mono (by decide)) T.g__law_draw T.F__law_draw.kp T.b__law_draw (fun _ => pass_0) (da_cons (de_var 1) (da_cons de_int da_nil))) de_int) da_nil))))
  (dss_cons (ds_set 5 S_law.nd (de_callG wok0 (ok__law_weather T) (hr.mono (by decide)) T.g__law_weather T.F__law_weather.kp T.b__law_weather (fun _ => pass_0) (da_cons (de_var 1) (da_cons (de_ix (de_lst (da_cons de_int (da_cons de_int da_nil))) (de_callG wok0 (ok__law_draw T) (hr.mono (by decide)) T.g__law_draw T.F__law_draw.kp T.b__law_draw (fun _ => pass_0) (da_cons (de_var 1) (da_cons de_int da_nil)))) da_nil))))
  (dss_cons (ds_set 6 S_law.nd (de_callG wok0 (ok__law_thing T) (hr.mono (by decide)) T.g__law_thing T.F__law_thing.kp T.b__law_thing (fun _ => pass_0) (da_cons (de_var 1) (da_cons (de_var 4) da_nil))))
  (dss_cons (ds_set 7 S_law.nd (de_reprA ⟨_, hr⟩ T.z_repr (da_cons (de_tup (da_cons (de_var 4) (da_cons (de_var 5) (da_cons (de_var 6) da_nil)))) da_nil)))
  (dss_cons (ds_for PassesOwn.never (di_list (de_lst (da_cons (de_var 4) (da_cons (de_var 6) da_nil)))) (dg_name 8 S_law.nd) (dss_cons (ds_set 9 S_law.nd (de_callG wok0 (ok_is_pan T) (hr.mono (by decide)) T.g_is_pan T.F_is_pan.kp T.b_is_pan (fun _ => pass_0) (da_cons (de_var 8) da_nil)))
  (dss_one (ds_if (DW.dt (dw_or (dt_not (dt_val (de_isi (pe_bltn (v := .ty "bool") (u := .type "bool") rfl T.z_bool (by decide +kernel) rfl) (ClsV.ty "bool") isi_ty T.z_isinstance (de_var 9)))) (dw_or1 (dt_ne hr.units (de_var 9) (de_callG wok0 (ok__law_is_pan T) (hr.mono (by decide)) T.g__law_is_pan T.F__law_is_pan.kp T.b__law_is_pan (fun _ => pass_0) (da_cons (de_var 8) da_nil)))))) (dss_one (ds_ret de_bl)) dss_nil))))
  (dss_cons (ds_if (dt_not (dt_val (de_callG wok0 (ok__law_same T) (hr.mono (by decide)) T.g__law_same T.F__law_same.kp T.b__law_same (fun _ => pass_0) (da_cons (de_callG wok0 (ok_rim_of T) (hr.mono (by decide)) T.g_rim_of T.F_rim_of.kp T.b_rim_of (fun _ => pass_0) (da_cons (de_var 4) da_nil)) (da_cons (de_callG wok0 (ok__law_times T) (hr.mono (by decide)) T.g__law_times T.F__law_times.kp T.b__law_times (fun _ => pass_0) (da_cons (de_ix (de_var 4) de_int) (da_cons (de_ix (de_var 4) de_int) da_nil))) da_nil))))) (dss_one (ds_ret de_bl)) dss_nil)
  (dss_cons (ds_if (dt_not (dt_val (de_callG wok0 (ok__law_clamp_right T) (hr.mono (by decide)) T.g__law_clamp_right T.F__law_clamp_right.kp T.b__law_clamp_right (fun _ => pass_0) (da_cons (de_var 4) (da_cons (de_var 5) da_nil))))) (dss_one (ds_ret de_bl)) dss_nil)
  (dss_one (ds_if (dt_neS (de_reprA ⟨_, hr⟩ T.z_repr (da_cons (de_tup (da_cons (de_var 4) (da_cons (de_var 5) (da_cons (de_var 6) da_nil)))) da_nil)) (de_var 7)) (dss_one (ds_ret de_bl)) dss_nil)))))))))))
  (dss_one (ds_ret de_bl))))) hF_law hX_law
end
set_option maxHeartbeats 0 in
theorem all_mk {K : PySem.W.Frag} {h : Heap} {mg : Str → Option Value} (X : K.In h) (G : h.Ns mainGlobals mg)
    {f0 : Addr} {od0 an0 : Option Addr} {sl0 : Array (Option Value)} {oc0 kV0 dc0 pm0 cd0 ct0 : Value}
    (a0 : PySem.W.nsIn K mainGlobals "_law_urn" = some (some (.ref f0))) (l0 : K.lookup f0 = some ⟨oc0, od0, .func (PySem.W.fnOf "_law_urn" "_law_urn" (defArgs s__law_urn) (defBody s__law_urn) (defScope s__law_urn) .none kV0 dc0 pm0 an0 cd0 ct0), sl0⟩) (c0 : PySem.W.codeIn K cd0 "_law_urn" = true) (k0 : PySem.W.keepIn K (.ref f0) = true)
    {f1 : Addr} {od1 an1 : Option Addr} {sl1 : Array (Option Value)} {oc1 kV1 dc1 pm1 cd1 ct1 : Value}
    (a1 : PySem.W.nsIn K mainGlobals "_law_made" = some (some (.ref f1))) (l1 : K.lookup f1 = some ⟨oc1, od1, .func (PySem.W.fnOf "_law_made" "_law_made" (defArgs s__law_made) (defBody s__law_made) (defScope s__law_made) .none kV1 dc1 pm1 an1 cd1 ct1), sl1⟩) (c1 : PySem.W.codeIn K cd1 "_law_made" = true) (k1 : PySem.W.keepIn K (.ref f1) = true)
    {f2 : Addr} {od2 an2 : Option Addr} {sl2 : Array (Option Value)} {oc2 kV2 dc2 pm2 cd2 ct2 : Value}
    (a2 : PySem.W.nsIn K mainGlobals "_law_mixed" = some (some (.ref f2))) (l2 : K.lookup f2 = some ⟨oc2, od2, .func (PySem.W.fnOf "_law_mixed" "_law_mixed" (defArgs s__law_mixed) (defBody s__law_mixed) (defScope s__law_mixed) .none kV2 dc2 pm2 an2 cd2 ct2), sl2⟩) (c2 : PySem.W.codeIn K cd2 "_law_mixed" = true) (k2 : PySem.W.keepIn K (.ref f2) = true)
    {f3 : Addr} {od3 an3 : Option Addr} {sl3 : Array (Option Value)} {oc3 kV3 dc3 pm3 cd3 ct3 : Value}
    (a3 : PySem.W.nsIn K mainGlobals "_law_draw" = some (some (.ref f3))) (l3 : K.lookup f3 = some ⟨oc3, od3, .func (PySem.W.fnOf "_law_draw" "_law_draw" (defArgs s__law_draw) (defBody s__law_draw) (defScope s__law_draw) .none kV3 dc3 pm3 an3 cd3 ct3), sl3⟩) (c3 : PySem.W.codeIn K cd3 "_law_draw" = true) (k3 : PySem.W.keepIn K (.ref f3) = true)
    {f4 : Addr} {od4 an4 : Option Addr} {sl4 : Array (Option Value)} {oc4 kV4 dc4 pm4 cd4 ct4 : Value}
    (a4 : PySem.W.nsIn K mainGlobals "_law_a_below" = some (some (.ref f4))) (l4 : K.lookup f4 = some ⟨oc4, od4, .func (PySem.W.fnOf "_law_a_below" "_law_a_below" (defArgs s__law_a_below) (defBody s__law_a_below) (defScope s__law_a_below) .none kV4 dc4 pm4 an4 cd4 ct4), sl4⟩) (c4 : PySem.W.codeIn K cd4 "_law_a_below" = true) (k4 : PySem.W.keepIn K (.ref f4) = true)
    {f5 : Addr} {od5 an5 : Option Addr} {sl5 : Array (Option Value)} {oc5 kV5 dc5 pm5 cd5 ct5 : Value}
    (a5 : PySem.W.nsIn K mainGlobals "_law_amount" = some (some (.ref f5))) (l5 : K.lookup f5 = some ⟨oc5, od5, .func (PySem.W.fnOf "_law_amount" "_law_amount" (defArgs s__law_amount) (defBody s__law_amount) (defScope s__law_amount) .none kV5 dc5 pm5 an5 cd5 ct5), sl5⟩) (c5 : PySem.W.codeIn K cd5 "_law_amount" = true) (k5 : PySem.W.keepIn K (.ref f5) = true)
    {f6 : Addr} {od6 an6 : Option Addr} {sl6 : Array (Option Value)} {oc6 kV6 dc6 pm6 cd6 ct6 : Value}
    (a6 : PySem.W.nsIn K mainGlobals "_law_any" = some (some (.ref f6))) (l6 : K.lookup f6 = some ⟨oc6, od6, .func (PySem.W.fnOf "_law_any" "_law_any" (defArgs s__law_any) (defBody s__law_any) (defScope s__law_any) .none kV6 dc6 pm6 an6 cd6 ct6), sl6⟩) (c6 : PySem.W.codeIn K cd6 "_law_any" = true) (k6 : PySem.W.keepIn K (.ref f6) = true)
    {f7 : Addr} {od7 an7 : Option Addr} {sl7 : Array (Option Value)} {oc7 kV7 dc7 pm7 cd7 ct7 : Value}
    (a7 : PySem.W.nsIn K mainGlobals "_law_weather" = some (some (.ref f7))) (l7 : K.lookup f7 = some ⟨oc7, od7, .func (PySem.W.fnOf "_law_weather" "_law_weather" (defArgs s__law_weather) (defBody s__law_weather) (defScope s__law_weather) .none kV7 dc7 pm7 an7 cd7 ct7), sl7⟩) (c7 : PySem.W.codeIn K cd7 "_law_weather" = true) (k7 : PySem.W.keepIn K (.ref f7) = true)
    {f8 : Addr} {od8 an8 : Option Addr} {sl8 : Array (Option Value)} {oc8 kV8 dc8 pm8 cd8 ct8 : Value}
    (a8 : PySem.W.nsIn K mainGlobals "_law_thing" = some (some (.ref f8))) (l8 : K.lookup f8 = some ⟨oc8, od8, .func (PySem.W.fnOf "_law_thing" "_law_thing" (defArgs s__law_thing) (defBody s__law_thing) (defScope s__law_thing) .none kV8 dc8 pm8 an8 cd8 ct8), sl8⟩) (c8 : PySem.W.codeIn K cd8 "_law_thing" = true) (k8 : PySem.W.keepIn K (.ref f8) = true)
    {f9 : Addr} {od9 an9 : Option Addr} {sl9 : Array (Option Value)} {oc9 kV9 dc9 pm9 cd9 ct9 : Value}
    (a9 : PySem.W.nsIn K mainGlobals "_law_above" = some (some (.ref f9))) (l9 : K.lookup f9 = some ⟨oc9, od9, .func (PySem.W.fnOf "_law_above" "_law_above" (defArgs s__law_above) (defBody s__law_above) (defScope s__law_above) .none kV9 dc9 pm9 an9 cd9 ct9), sl9⟩) (c9 : PySem.W.codeIn K cd9 "_law_above" = true) (k9 : PySem.W.keepIn K (.ref f9) = true)
    {f10 : Addr} {od10 an10 : Option Addr} {sl10 : Array (Option Value)} {oc10 kV10 dc10 pm10 cd10 ct10 : Value}
    (a10 : PySem.W.nsIn K mainGlobals "is_whole" = some (some (.ref f10))) (l10 : K.lookup f10 = some ⟨oc10, od10, .func (PySem.W.fnOf "is_whole" "is_whole" (defArgs s_is_whole) (defBody s_is_whole) (defScope s_is_whole) .none kV10 dc10 pm10 an10 cd10 ct10), sl10⟩) (c10 : PySem.W.codeIn K cd10 "is_whole" = true) (k10 : PySem.W.keepIn K (.ref f10) = true)
    {f11 : Addr} {od11 an11 : Option Addr} {sl11 : Array (Option Value)} {oc11 kV11 dc11 pm11 cd11 ct11 : Value}
    (a11 : PySem.W.nsIn K mainGlobals "common" = some (some (.ref f11))) (l11 : K.lookup f11 = some ⟨oc11, od11, .func (PySem.W.fnOf "common" "common" (defArgs s_common) (defBody s_common) (defScope s_common) .none kV11 dc11 pm11 an11 cd11 ct11), sl11⟩) (c11 : PySem.W.codeIn K cd11 "common" = true) (k11 : PySem.W.keepIn K (.ref f11) = true)
    {f12 : Addr} {od12 an12 : Option Addr} {sl12 : Array (Option Value)} {oc12 kV12 dc12 pm12 cd12 ct12 : Value}
    (a12 : PySem.W.nsIn K mainGlobals "is_fraction" = some (some (.ref f12))) (l12 : K.lookup f12 = some ⟨oc12, od12, .func (PySem.W.fnOf "is_fraction" "is_fraction" (defArgs s_is_fraction) (defBody s_is_fraction) (defScope s_is_fraction) .none kV12 dc12 pm12 an12 cd12 ct12), sl12⟩) (c12 : PySem.W.codeIn K cd12 "is_fraction" = true) (k12 : PySem.W.keepIn K (.ref f12) = true)
    {f13 : Addr} {od13 an13 : Option Addr} {sl13 : Array (Option Value)} {oc13 kV13 dc13 pm13 cd13 ct13 : Value}
    (a13 : PySem.W.nsIn K mainGlobals "is_positive" = some (some (.ref f13))) (l13 : K.lookup f13 = some ⟨oc13, od13, .func (PySem.W.fnOf "is_positive" "is_positive" (defArgs s_is_positive) (defBody s_is_positive) (defScope s_is_positive) .none kV13 dc13 pm13 an13 cd13 ct13), sl13⟩) (c13 : PySem.W.codeIn K cd13 "is_positive" = true) (k13 : PySem.W.keepIn K (.ref f13) = true)
    {f14 : Addr} {od14 an14 : Option Addr} {sl14 : Array (Option Value)} {oc14 kV14 dc14 pm14 cd14 ct14 : Value}
    (a14 : PySem.W.nsIn K mainGlobals "is_pan" = some (some (.ref f14))) (l14 : K.lookup f14 = some ⟨oc14, od14, .func (PySem.W.fnOf "is_pan" "is_pan" (defArgs s_is_pan) (defBody s_is_pan) (defScope s_is_pan) .none kV14 dc14 pm14 an14 cd14 ct14), sl14⟩) (c14 : PySem.W.codeIn K cd14 "is_pan" = true) (k14 : PySem.W.keepIn K (.ref f14) = true)
    {f15 : Addr} {od15 an15 : Option Addr} {sl15 : Array (Option Value)} {oc15 kV15 dc15 pm15 cd15 ct15 : Value}
    (a15 : PySem.W.nsIn K mainGlobals "_law_same" = some (some (.ref f15))) (l15 : K.lookup f15 = some ⟨oc15, od15, .func (PySem.W.fnOf "_law_same" "_law_same" (defArgs s__law_same) (defBody s__law_same) (defScope s__law_same) .none kV15 dc15 pm15 an15 cd15 ct15), sl15⟩) (c15 : PySem.W.codeIn K cd15 "_law_same" = true) (k15 : PySem.W.keepIn K (.ref f15) = true)
    {f16 : Addr} {od16 an16 : Option Addr} {sl16 : Array (Option Value)} {oc16 kV16 dc16 pm16 cd16 ct16 : Value}
    (a16 : PySem.W.nsIn K mainGlobals "_law_times" = some (some (.ref f16))) (l16 : K.lookup f16 = some ⟨oc16, od16, .func (PySem.W.fnOf "_law_times" "_law_times" (defArgs s__law_times) (defBody s__law_times) (defScope s__law_times) .none kV16 dc16 pm16 an16 cd16 ct16), sl16⟩) (c16 : PySem.W.codeIn K cd16 "_law_times" = true) (k16 : PySem.W.keepIn K (.ref f16) = true)
    {f17 : Addr} {od17 an17 : Option Addr} {sl17 : Array (Option Value)} {oc17 kV17 dc17 pm17 cd17 ct17 : Value}
    (a17 : PySem.W.nsIn K mainGlobals "_law_plus" = some (some (.ref f17))) (l17 : K.lookup f17 = some ⟨oc17, od17, .func (PySem.W.fnOf "_law_plus" "_law_plus" (defArgs s__law_plus) (defBody s__law_plus) (defScope s__law_plus) .none kV17 dc17 pm17 an17 cd17 ct17), sl17⟩) (c17 : PySem.W.codeIn K cd17 "_law_plus" = true) (k17 : PySem.W.keepIn K (.ref f17) = true)
    {f18 : Addr} {od18 an18 : Option Addr} {sl18 : Array (Option Value)} {oc18 kV18 dc18 pm18 cd18 ct18 : Value}
    (a18 : PySem.W.nsIn K mainGlobals "_law_summed" = some (some (.ref f18))) (l18 : K.lookup f18 = some ⟨oc18, od18, .func (PySem.W.fnOf "_law_summed" "_law_summed" (defArgs s__law_summed) (defBody s__law_summed) (defScope s__law_summed) .none kV18 dc18 pm18 an18 cd18 ct18), sl18⟩) (c18 : PySem.W.codeIn K cd18 "_law_summed" = true) (k18 : PySem.W.keepIn K (.ref f18) = true)
    {f19 : Addr} {od19 an19 : Option Addr} {sl19 : Array (Option Value)} {oc19 kV19 dc19 pm19 cd19 ct19 : Value}
    (a19 : PySem.W.nsIn K mainGlobals "_law_below" = some (some (.ref f19))) (l19 : K.lookup f19 = some ⟨oc19, od19, .func (PySem.W.fnOf "_law_below" "_law_below" (defArgs s__law_below) (defBody s__law_below) (defScope s__law_below) .none kV19 dc19 pm19 an19 cd19 ct19), sl19⟩) (c19 : PySem.W.codeIn K cd19 "_law_below" = true) (k19 : PySem.W.keepIn K (.ref f19) = true)
    {f20 : Addr} {od20 an20 : Option Addr} {sl20 : Array (Option Value)} {oc20 kV20 dc20 pm20 cd20 ct20 : Value}
    (a20 : PySem.W.nsIn K mainGlobals "_law_led" = some (some (.ref f20))) (l20 : K.lookup f20 = some ⟨oc20, od20, .func (PySem.W.fnOf "_law_led" "_law_led" (defArgs s__law_led) (defBody s__law_led) (defScope s__law_led) .none kV20 dc20 pm20 an20 cd20 ct20), sl20⟩) (c20 : PySem.W.codeIn K cd20 "_law_led" = true) (k20 : PySem.W.keepIn K (.ref f20) = true)
    {f21 : Addr} {od21 an21 : Option Addr} {sl21 : Array (Option Value)} {oc21 kV21 dc21 pm21 cd21 ct21 : Value}
    (a21 : PySem.W.nsIn K mainGlobals "times" = some (some (.ref f21))) (l21 : K.lookup f21 = some ⟨oc21, od21, .func (PySem.W.fnOf "times" "times" (defArgs s_times) (defBody s_times) (defScope s_times) .none kV21 dc21 pm21 an21 cd21 ct21), sl21⟩) (c21 : PySem.W.codeIn K cd21 "times" = true) (k21 : PySem.W.keepIn K (.ref f21) = true)
    {f22 : Addr} {od22 an22 : Option Addr} {sl22 : Array (Option Value)} {oc22 kV22 dc22 pm22 cd22 ct22 : Value}
    (a22 : PySem.W.nsIn K mainGlobals "plus" = some (some (.ref f22))) (l22 : K.lookup f22 = some ⟨oc22, od22, .func (PySem.W.fnOf "plus" "plus" (defArgs s_plus) (defBody s_plus) (defScope s_plus) .none kV22 dc22 pm22 an22 cd22 ct22), sl22⟩) (c22 : PySem.W.codeIn K cd22 "plus" = true) (k22 : PySem.W.keepIn K (.ref f22) = true)
    {f23 : Addr} {od23 an23 : Option Addr} {sl23 : Array (Option Value)} {oc23 kV23 dc23 pm23 cd23 ct23 : Value}
    (a23 : PySem.W.nsIn K mainGlobals "summed" = some (some (.ref f23))) (l23 : K.lookup f23 = some ⟨oc23, od23, .func (PySem.W.fnOf "summed" "summed" (defArgs s_summed) (defBody s_summed) (defScope s_summed) .none kV23 dc23 pm23 an23 cd23 ct23), sl23⟩) (c23 : PySem.W.codeIn K cd23 "summed" = true) (k23 : PySem.W.keepIn K (.ref f23) = true)
    {f24 : Addr} {od24 an24 : Option Addr} {sl24 : Array (Option Value)} {oc24 kV24 dc24 pm24 cd24 ct24 : Value}
    (a24 : PySem.W.nsIn K mainGlobals "brought" = some (some (.ref f24))) (l24 : K.lookup f24 = some ⟨oc24, od24, .func (PySem.W.fnOf "brought" "brought" (defArgs s_brought) (defBody s_brought) (defScope s_brought) .none kV24 dc24 pm24 an24 cd24 ct24), sl24⟩) (c24 : PySem.W.codeIn K cd24 "brought" = true) (k24 : PySem.W.keepIn K (.ref f24) = true)
    {f25 : Addr} {od25 an25 : Option Addr} {sl25 : Array (Option Value)} {oc25 kV25 dc25 pm25 cd25 ct25 : Value}
    (a25 : PySem.W.nsIn K mainGlobals "rim_of" = some (some (.ref f25))) (l25 : K.lookup f25 = some ⟨oc25, od25, .func (PySem.W.fnOf "rim_of" "rim_of" (defArgs s_rim_of) (defBody s_rim_of) (defScope s_rim_of) .none kV25 dc25 pm25 an25 cd25 ct25), sl25⟩) (c25 : PySem.W.codeIn K cd25 "rim_of" = true) (k25 : PySem.W.keepIn K (.ref f25) = true)
    {f26 : Addr} {od26 an26 : Option Addr} {sl26 : Array (Option Value)} {oc26 kV26 dc26 pm26 cd26 ct26 : Value}
    (a26 : PySem.W.nsIn K mainGlobals "spell_clamp" = some (some (.ref f26))) (l26 : K.lookup f26 = some ⟨oc26, od26, .func (PySem.W.fnOf "spell_clamp" "spell_clamp" (defArgs s_spell_clamp) (defBody s_spell_clamp) (defScope s_spell_clamp) .none kV26 dc26 pm26 an26 cd26 ct26), sl26⟩) (c26 : PySem.W.codeIn K cd26 "spell_clamp" = true) (k26 : PySem.W.keepIn K (.ref f26) = true)
    {f27 : Addr} {od27 an27 : Option Addr} {sl27 : Array (Option Value)} {oc27 kV27 dc27 pm27 cd27 ct27 : Value}
    (a27 : PySem.W.nsIn K mainGlobals "is_less" = some (some (.ref f27))) (l27 : K.lookup f27 = some ⟨oc27, od27, .func (PySem.W.fnOf "is_less" "is_less" (defArgs s_is_less) (defBody s_is_less) (defScope s_is_less) .none kV27 dc27 pm27 an27 cd27 ct27), sl27⟩) (c27 : PySem.W.codeIn K cd27 "is_less" = true) (k27 : PySem.W.keepIn K (.ref f27) = true)
    {f28 : Addr} {od28 an28 : Option Addr} {sl28 : Array (Option Value)} {oc28 kV28 dc28 pm28 cd28 ct28 : Value}
    (a28 : PySem.W.nsIn K mainGlobals "least" = some (some (.ref f28))) (l28 : K.lookup f28 = some ⟨oc28, od28, .func (PySem.W.fnOf "least" "least" (defArgs s_least) (defBody s_least) (defScope s_least) .none kV28 dc28 pm28 an28 cd28 ct28), sl28⟩) (c28 : PySem.W.codeIn K cd28 "least" = true) (k28 : PySem.W.keepIn K (.ref f28) = true)
    {f29 : Addr} {od29 an29 : Option Addr} {sl29 : Array (Option Value)} {oc29 kV29 dc29 pm29 cd29 ct29 : Value}
    (a29 : PySem.W.nsIn K mainGlobals "greatest" = some (some (.ref f29))) (l29 : K.lookup f29 = some ⟨oc29, od29, .func (PySem.W.fnOf "greatest" "greatest" (defArgs s_greatest) (defBody s_greatest) (defScope s_greatest) .none kV29 dc29 pm29 an29 cd29 ct29), sl29⟩) (c29 : PySem.W.codeIn K cd29 "greatest" = true) (k29 : PySem.W.keepIn K (.ref f29) = true)
    {f30 : Addr} {od30 an30 : Option Addr} {sl30 : Array (Option Value)} {oc30 kV30 dc30 pm30 cd30 ct30 : Value}
    (a30 : PySem.W.nsIn K mainGlobals "clamped" = some (some (.ref f30))) (l30 : K.lookup f30 = some ⟨oc30, od30, .func (PySem.W.fnOf "clamped" "clamped" (defArgs s_clamped) (defBody s_clamped) (defScope s_clamped) .none kV30 dc30 pm30 an30 cd30 ct30), sl30⟩) (c30 : PySem.W.codeIn K cd30 "clamped" = true) (k30 : PySem.W.keepIn K (.ref f30) = true)
    {f31 : Addr} {od31 an31 : Option Addr} {sl31 : Array (Option Value)} {oc31 kV31 dc31 pm31 cd31 ct31 : Value}
    (a31 : PySem.W.nsIn K mainGlobals "one_behind" = some (some (.ref f31))) (l31 : K.lookup f31 = some ⟨oc31, od31, .func (PySem.W.fnOf "one_behind" "one_behind" (defArgs s_one_behind) (defBody s_one_behind) (defScope s_one_behind) .none kV31 dc31 pm31 an31 cd31 ct31), sl31⟩) (c31 : PySem.W.codeIn K cd31 "one_behind" = true) (k31 : PySem.W.keepIn K (.ref f31) = true)
    {f32 : Addr} {od32 an32 : Option Addr} {sl32 : Array (Option Value)} {oc32 kV32 dc32 pm32 cd32 ct32 : Value}
    (a32 : PySem.W.nsIn K mainGlobals "clamp_of" = some (some (.ref f32))) (l32 : K.lookup f32 = some ⟨oc32, od32, .func (PySem.W.fnOf "clamp_of" "clamp_of" (defArgs s_clamp_of) (defBody s_clamp_of) (defScope s_clamp_of) .none kV32 dc32 pm32 an32 cd32 ct32), sl32⟩) (c32 : PySem.W.codeIn K cd32 "clamp_of" = true) (k32 : PySem.W.keepIn K (.ref f32) = true)
    {f33 : Addr} {od33 an33 : Option Addr} {sl33 : Array (Option Value)} {oc33 kV33 dc33 pm33 cd33 ct33 : Value}
    (a33 : PySem.W.nsIn K mainGlobals "_law_clamp_right" = some (some (.ref f33))) (l33 : K.lookup f33 = some ⟨oc33, od33, .func (PySem.W.fnOf "_law_clamp_right" "_law_clamp_right" (defArgs s__law_clamp_right) (defBody s__law_clamp_right) (defScope s__law_clamp_right) .none kV33 dc33 pm33 an33 cd33 ct33), sl33⟩) (c33 : PySem.W.codeIn K cd33 "_law_clamp_right" = true) (k33 : PySem.W.keepIn K (.ref f33) = true)
    {f34 : Addr} {od34 an34 : Option Addr} {sl34 : Array (Option Value)} {oc34 kV34 dc34 pm34 cd34 ct34 : Value}
    (a34 : PySem.W.nsIn K mainGlobals "_law_pan" = some (some (.ref f34))) (l34 : K.lookup f34 = some ⟨oc34, od34, .func (PySem.W.fnOf "_law_pan" "_law_pan" (defArgs s__law_pan) (defBody s__law_pan) (defScope s__law_pan) .none kV34 dc34 pm34 an34 cd34 ct34), sl34⟩) (c34 : PySem.W.codeIn K cd34 "_law_pan" = true) (k34 : PySem.W.keepIn K (.ref f34) = true)
    {f35 : Addr} {od35 an35 : Option Addr} {sl35 : Array (Option Value)} {oc35 kV35 dc35 pm35 cd35 ct35 : Value}
    (a35 : PySem.W.nsIn K mainGlobals "_law_is_part" = some (some (.ref f35))) (l35 : K.lookup f35 = some ⟨oc35, od35, .func (PySem.W.fnOf "_law_is_part" "_law_is_part" (defArgs s__law_is_part) (defBody s__law_is_part) (defScope s__law_is_part) .none kV35 dc35 pm35 an35 cd35 ct35), sl35⟩) (c35 : PySem.W.codeIn K cd35 "_law_is_part" = true) (k35 : PySem.W.keepIn K (.ref f35) = true)
    {f36 : Addr} {od36 an36 : Option Addr} {sl36 : Array (Option Value)} {oc36 kV36 dc36 pm36 cd36 ct36 : Value}
    (a36 : PySem.W.nsIn K mainGlobals "_law_is_pan" = some (some (.ref f36))) (l36 : K.lookup f36 = some ⟨oc36, od36, .func (PySem.W.fnOf "_law_is_pan" "_law_is_pan" (defArgs s__law_is_pan) (defBody s__law_is_pan) (defScope s__law_is_pan) .none kV36 dc36 pm36 an36 cd36 ct36), sl36⟩) (c36 : PySem.W.codeIn K cd36 "_law_is_pan" = true) (k36 : PySem.W.keepIn K (.ref f36) = true)
    {f37 : Addr} {od37 an37 : Option Addr} {sl37 : Array (Option Value)} {oc37 kV37 dc37 pm37 cd37 ct37 : Value}
    (a37 : PySem.W.nsIn K mainGlobals "law" = some (some (.ref f37))) (l37 : K.lookup f37 = some ⟨oc37, od37, .func (PySem.W.fnOf "law" "law" (defArgs s_law) (defBody s_law) (defScope s_law) .none kV37 dc37 pm37 an37 cd37 ct37), sl37⟩) (c37 : PySem.W.codeIn K cd37 "law" = true) (k37 : PySem.W.keepIn K (.ref f37) = true)
    (z_abs : PySem.W.nsIn K mainGlobals "abs" = some none)
    (z_all : PySem.W.nsIn K mainGlobals "all" = some none)
    (z_bool : PySem.W.nsIn K mainGlobals "bool" = some none)
    (z_int : PySem.W.nsIn K mainGlobals "int" = some none)
    (z_isinstance : PySem.W.nsIn K mainGlobals "isinstance" = some none)
    (z_len : PySem.W.nsIn K mainGlobals "len" = some none)
    (z_list : PySem.W.nsIn K mainGlobals "list" = some none)
    (z_range : PySem.W.nsIn K mainGlobals "range" = some none)
    (z_repr : PySem.W.nsIn K mainGlobals "repr" = some none)
    (z_tuple : PySem.W.nsIn K mainGlobals "tuple" = some none)
    (z_zip : PySem.W.nsIn K mainGlobals "zip" = some none)
    {c_NOUGHT : Addr} {od_NOUGHT : Option Addr} {n_NOUGHT : Nat} {sl_NOUGHT : Array (Option Value)} {t0_NOUGHT t1_NOUGHT : Tok} (m_NOUGHT : PySem.W.nsIn K mainGlobals "NOUGHT" = some (some (.ref c_NOUGHT))) (l_NOUGHT : K.lookup c_NOUGHT = some ⟨.type "tuple", od_NOUGHT, .seq #[.int 0 t0_NOUGHT, .int 1 t1_NOUGHT] n_NOUGHT, sl_NOUGHT⟩)
    : ∃ T : Top K mg, T.a_law = f37 ∧ T.fd_law = PySem.W.fnOf "law" "law" (defArgs s_law) (defBody s_law) (defScope s_law) .none kV37 dc37 pm37 an37 cd37 ct37 := by
  have F0 := fun_mk (st := s__law_urn) l0 c0 k0
  have b0 := F0.binds (ps := ["_law_script"]) fun _ _ _ _ _ _ us hl => match us, hl with | [_], _ => rfl
  have F1 := fun_mk (st := s__law_made) l1 c1 k1
  have b1 := F1.binds (ps := ["_law_a", "_law_b"]) fun _ _ _ _ _ _ us hl => match us, hl with | [_, _], _ => rfl
  have F2 := fun_mk (st := s__law_mixed) l2 c2 k2
  have b2 := F2.binds (ps := ["_law_cell", "_law_k"]) fun _ _ _ _ _ _ us hl => match us, hl with | [_, _], _ => rfl
  have F3 := fun_mk (st := s__law_draw) l3 c3 k3
  have b3 := F3.binds (ps := ["_law_urn_here", "_law_many"]) fun _ _ _ _ _ _ us hl => match us, hl with | [_, _], _ => rfl
  have F4 := fun_mk (st := s__law_a_below) l4 c4 k4
  have b4 := F4.binds (ps := ["_law_urn_here"]) fun _ _ _ _ _ _ us hl => match us, hl with | [_], _ => rfl
  have F5 := fun_mk (st := s__law_amount) l5 c5 k5
  have b5 := F5.binds (ps := ["_law_urn_here"]) fun _ _ _ _ _ _ us hl => match us, hl with | [_], _ => rfl
  have F6 := fun_mk (st := s__law_any) l6 c6 k6
  have b6 := F6.binds (ps := ["_law_urn_here"]) fun _ _ _ _ _ _ us hl => match us, hl with | [_], _ => rfl
  have F7 := fun_mk (st := s__law_weather) l7 c7 k7
  have b7 := F7.binds (ps := ["_law_urn_here", "_law_most"]) fun _ _ _ _ _ _ us hl => match us, hl with | [_, _], _ => rfl
  have F8 := fun_mk (st := s__law_thing) l8 c8 k8
  have b8 := F8.binds (ps := ["_law_urn_here", "_law_pan_here"]) fun _ _ _ _ _ _ us hl => match us, hl with | [_, _], _ => rfl
  have F9 := fun_mk (st := s__law_above) l9 c9 k9
  have b9 := F9.binds (ps := ["_law_urn_here"]) fun _ _ _ _ _ _ us hl => match us, hl with | [_], _ => rfl
  have F10 := fun_mk (st := s_is_whole) l10 c10 k10
  have b10 := F10.binds (ps := ["thing"]) fun _ _ _ _ _ _ us hl => match us, hl with | [_], _ => rfl
  have F11 := fun_mk (st := s_common) l11 c11 k11
  have b11 := F11.binds (ps := ["a", "b"]) fun _ _ _ _ _ _ us hl => match us, hl with | [_, _], _ => rfl
  have F12 := fun_mk (st := s_is_fraction) l12 c12 k12
  have b12 := F12.binds (ps := ["thing"]) fun _ _ _ _ _ _ us hl => match us, hl with | [_], _ => rfl
  have F13 := fun_mk (st := s_is_positive) l13 c13 k13
  have b13 := F13.binds (ps := ["thing"]) fun _ _ _ _ _ _ us hl => match us, hl with | [_], _ => rfl
  have F14 := fun_mk (st := s_is_pan) l14 c14 k14
  have b14 := F14.binds (ps := ["thing"]) fun _ _ _ _ _ _ us hl => match us, hl with | [_], _ => rfl
  have F15 := fun_mk (st := s__law_same) l15 c15 k15
  have b15 := F15.binds (ps := ["_law_found", "_law_due"]) fun _ _ _ _ _ _ us hl => match us, hl with | [_, _], _ => rfl
  have F16 := fun_mk (st := s__law_times) l16 c16 k16
  have b16 := F16.binds (ps := ["_law_one", "_law_other"]) fun _ _ _ _ _ _ us hl => match us, hl with | [_, _], _ => rfl
  have F17 := fun_mk (st := s__law_plus) l17 c17 k17
  have b17 := F17.binds (ps := ["_law_one", "_law_other"]) fun _ _ _ _ _ _ us hl => match us, hl with | [_, _], _ => rfl
  have F18 := fun_mk (st := s__law_summed) l18 c18 k18
  have b18 := F18.binds (ps := ["_law_some"]) fun _ _ _ _ _ _ us hl => match us, hl with | [_], _ => rfl
  have F19 := fun_mk (st := s__law_below) l19 c19 k19
  have b19 := F19.binds (ps := ["_law_one", "_law_other"]) fun _ _ _ _ _ _ us hl => match us, hl with | [_, _], _ => rfl
  have F20 := fun_mk (st := s__law_led) l20 c20 k20
  have b20 := F20.binds (ps := ["_law_pan_here", "_law_weather_here", "_law_water_here"]) fun _ _ _ _ _ _ us hl => match us, hl with | [_, _, _], _ => rfl
  have F21 := fun_mk (st := s_times) l21 c21 k21
  have b21 := F21.binds (ps := ["one", "other"]) fun _ _ _ _ _ _ us hl => match us, hl with | [_, _], _ => rfl
  have F22 := fun_mk (st := s_plus) l22 c22 k22
  have b22 := F22.binds (ps := ["one", "other"]) fun _ _ _ _ _ _ us hl => match us, hl with | [_, _], _ => rfl
  have F23 := fun_mk (st := s_summed) l23 c23 k23
  have b23 := F23.binds (ps := ["some"]) fun _ _ _ _ _ _ us hl => match us, hl with | [_], _ => rfl
  have F24 := fun_mk (st := s_brought) l24 c24 k24
  have b24 := F24.binds (ps := ["area", "spells"]) fun _ _ _ _ _ _ us hl => match us, hl with | [_, _], _ => rfl
  have F25 := fun_mk (st := s_rim_of) l25 c25 k25
  have b25 := F25.binds (ps := ["pan"]) fun _ _ _ _ _ _ us hl => match us, hl with | [_], _ => rfl
  have F26 := fun_mk (st := s_spell_clamp) l26 c26 k26
  have b26 := F26.binds (ps := ["pan", "spell"]) fun _ _ _ _ _ _ us hl => match us, hl with | [_, _], _ => rfl
  have F27 := fun_mk (st := s_is_less) l27 c27 k27
  have b27 := F27.binds (ps := ["one", "other"]) fun _ _ _ _ _ _ us hl => match us, hl with | [_, _], _ => rfl
  have F28 := fun_mk (st := s_least) l28 c28 k28
  have b28 := F28.binds (ps := ["some"]) fun _ _ _ _ _ _ us hl => match us, hl with | [_], _ => rfl
  have F29 := fun_mk (st := s_greatest) l29 c29 k29
  have b29 := F29.binds (ps := ["some"]) fun _ _ _ _ _ _ us hl => match us, hl with | [_], _ => rfl
  have F30 := fun_mk (st := s_clamped) l30 c30 k30
  have b30 := F30.binds (ps := ["clamp", "x"]) fun _ _ _ _ _ _ us hl => match us, hl with | [_, _], _ => rfl
  have F31 := fun_mk (st := s_one_behind) l31 c31 k31
  have b31 := F31.binds (ps := ["first", "second"]) fun _ _ _ _ _ _ us hl => match us, hl with | [_, _], _ => rfl
  have F32 := fun_mk (st := s_clamp_of) l32 c32 k32
  have b32 := F32.binds (ps := ["pan", "weather"]) fun _ _ _ _ _ _ us hl => match us, hl with | [_, _], _ => rfl
  have F33 := fun_mk (st := s__law_clamp_right) l33 c33 k33
  have b33 := F33.binds (ps := ["_law_pan_here", "_law_weather_here"]) fun _ _ _ _ _ _ us hl => match us, hl with | [_, _], _ => rfl
  have F34 := fun_mk (st := s__law_pan) l34 c34 k34
  have b34 := F34.binds (ps := ["_law_urn_here"]) fun _ _ _ _ _ _ us hl => match us, hl with | [_], _ => rfl
  have F35 := fun_mk (st := s__law_is_part) l35 c35 k35
  have b35 := F35.binds (ps := ["_law_thing_here"]) fun _ _ _ _ _ _ us hl => match us, hl with | [_], _ => rfl
  have F36 := fun_mk (st := s__law_is_pan) l36 c36 k36
  have b36 := F36.binds (ps := ["_law_thing_here"]) fun _ _ _ _ _ _ us hl => match us, hl with | [_], _ => rfl
  have F37 := fun_mk (st := s_law) l37 c37 k37
  have b37 := F37.binds (ps := ["_law_script"]) fun _ _ _ _ _ _ us hl => match us, hl with | [_], _ => rfl
  exact ⟨⟨f0, _, F0, b0, PySem.W.mg_of X G a0, f1, _, F1, b1, PySem.W.mg_of X G a1, f2, _, F2, b2, PySem.W.mg_of X G a2, f3, _, F3, b3, PySem.W.mg_of X G a3, f4, _, F4, b4, PySem.W.mg_of X G a4, f5, _, F5, b5, PySem.W.mg_of X G a5, f6, _, F6, b6, PySem.W.mg_of X G a6, f7, _, F7, b7, PySem.W.mg_of X G a7, f8, _, F8, b8, PySem.W.mg_of X G a8, f9, _, F9, b9, PySem.W.mg_of X G a9, f10, _, F10, b10, PySem.W.mg_of X G a10, f11, _, F11, b11, PySem.W.mg_of X G a11, f12, _, F12, b12, PySem.W.mg_of X G a12, f13, _, F13, b13, PySem.W.mg_of X G a13, f14, _, F14, b14, PySem.W.mg_of X G a14, f15, _, F15, b15, PySem.W.mg_of X G a15, f16, _, F16, b16, PySem.W.mg_of X G a16, f17, _, F17, b17, PySem.W.mg_of X G a17, f18, _, F18, b18, PySem.W.mg_of X G a18, f19, _, F19, b19, PySem.W.mg_of X G a19, f20, _, F20, b20, PySem.W.mg_of X G a20, f21, _, F21, b21, PySem.W.mg_of X G a21, f22, _, F22, b22, PySem.W.mg_of X G a22, f23, _, F23, b23, PySem.W.mg_of X G a23, f24, _, F24, b24, PySem.W.mg_of X G a24, f25, _, F25, b25, PySem.W.mg_of X G a25, f26, _, F26, b26, PySem.W.mg_of X G a26, f27, _, F27, b27, PySem.W.mg_of X G a27, f28, _, F28, b28, PySem.W.mg_of X G a28, f29, _, F29, b29, PySem.W.mg_of X G a29, f30, _, F30, b30, PySem.W.mg_of X G a30, f31, _, F31, b31, PySem.W.mg_of X G a31, f32, _, F32, b32, PySem.W.mg_of X G a32, f33, _, F33, b33, PySem.W.mg_of X G a33, f34, _, F34, b34, PySem.W.mg_of X G a34, f35, _, F35, b35, PySem.W.mg_of X G a35, f36, _, F36, b36, PySem.W.mg_of X G a36, f37, _, F37, b37, PySem.W.mg_of X G a37, PySem.W.mg_none_of X G z_abs, PySem.W.mg_none_of X G z_all, PySem.W.mg_none_of X G z_bool, PySem.W.mg_none_of X G z_int, PySem.W.mg_none_of X G z_isinstance, PySem.W.mg_none_of X G z_len, PySem.W.mg_none_of X G z_list, PySem.W.mg_none_of X G z_range, PySem.W.mg_none_of X G z_repr, PySem.W.mg_none_of X G z_tuple, PySem.W.mg_none_of X G z_zip, c_NOUGHT, PySem.W.mg_of X G m_NOUGHT, rp_c2 l_NOUGHT⟩, rfl, rfl⟩
set_option maxHeartbeats 0 in
theorem law_end {l : PySem.W.OpenLaw} {w : World} {fa : Addr} {K : PySem.W.Frag} {h : Heap} {mg : Str → Option Value} (X : K.In h) (G : h.Ns mainGlobals mg) (hfa : mg "law" = some (.ref fa))
    {f0 : Addr} {od0 an0 : Option Addr} {sl0 : Array (Option Value)} {oc0 kV0 dc0 pm0 cd0 ct0 : Value}
    (a0 : PySem.W.nsIn K mainGlobals "_law_urn" = some (some (.ref f0))) (l0 : K.lookup f0 = some ⟨oc0, od0, .func (PySem.W.fnOf "_law_urn" "_law_urn" (defArgs s__law_urn) (defBody s__law_urn) (defScope s__law_urn) .none kV0 dc0 pm0 an0 cd0 ct0), sl0⟩) (c0 : PySem.W.codeIn K cd0 "_law_urn" = true) (k0 : PySem.W.keepIn K (.ref f0) = true)
    {f1 : Addr} {od1 an1 : Option Addr} {sl1 : Array (Option Value)} {oc1 kV1 dc1 pm1 cd1 ct1 : Value}
    (a1 : PySem.W.nsIn K mainGlobals "_law_made" = some (some (.ref f1))) (l1 : K.lookup f1 = some ⟨oc1, od1, .func (PySem.W.fnOf "_law_made" "_law_made" (defArgs s__law_made) (defBody s__law_made) (defScope s__law_made) .none kV1 dc1 pm1 an1 cd1 ct1), sl1⟩) (c1 : PySem.W.codeIn K cd1 "_law_made" = true) (k1 : PySem.W.keepIn K (.ref f1) = true)
    {f2 : Addr} {od2 an2 : Option Addr} {sl2 : Array (Option Value)} {oc2 kV2 dc2 pm2 cd2 ct2 : Value}
    (a2 : PySem.W.nsIn K mainGlobals "_law_mixed" = some (some (.ref f2))) (l2 : K.lookup f2 = some ⟨oc2, od2, .func (PySem.W.fnOf "_law_mixed" "_law_mixed" (defArgs s__law_mixed) (defBody s__law_mixed) (defScope s__law_mixed) .none kV2 dc2 pm2 an2 cd2 ct2), sl2⟩) (c2 : PySem.W.codeIn K cd2 "_law_mixed" = true) (k2 : PySem.W.keepIn K (.ref f2) = true)
    {f3 : Addr} {od3 an3 : Option Addr} {sl3 : Array (Option Value)} {oc3 kV3 dc3 pm3 cd3 ct3 : Value}
    (a3 : PySem.W.nsIn K mainGlobals "_law_draw" = some (some (.ref f3))) (l3 : K.lookup f3 = some ⟨oc3, od3, .func (PySem.W.fnOf "_law_draw" "_law_draw" (defArgs s__law_draw) (defBody s__law_draw) (defScope s__law_draw) .none kV3 dc3 pm3 an3 cd3 ct3), sl3⟩) (c3 : PySem.W.codeIn K cd3 "_law_draw" = true) (k3 : PySem.W.keepIn K (.ref f3) = true)
    {f4 : Addr} {od4 an4 : Option Addr} {sl4 : Array (Option Value)} {oc4 kV4 dc4 pm4 cd4 ct4 : Value}
    (a4 : PySem.W.nsIn K mainGlobals "_law_a_below" = some (some (.ref f4))) (l4 : K.lookup f4 = some ⟨oc4, od4, .func (PySem.W.fnOf "_law_a_below" "_law_a_below" (defArgs s__law_a_below) (defBody s__law_a_below) (defScope s__law_a_below) .none kV4 dc4 pm4 an4 cd4 ct4), sl4⟩) (c4 : PySem.W.codeIn K cd4 "_law_a_below" = true) (k4 : PySem.W.keepIn K (.ref f4) = true)
    {f5 : Addr} {od5 an5 : Option Addr} {sl5 : Array (Option Value)} {oc5 kV5 dc5 pm5 cd5 ct5 : Value}
    (a5 : PySem.W.nsIn K mainGlobals "_law_amount" = some (some (.ref f5))) (l5 : K.lookup f5 = some ⟨oc5, od5, .func (PySem.W.fnOf "_law_amount" "_law_amount" (defArgs s__law_amount) (defBody s__law_amount) (defScope s__law_amount) .none kV5 dc5 pm5 an5 cd5 ct5), sl5⟩) (c5 : PySem.W.codeIn K cd5 "_law_amount" = true) (k5 : PySem.W.keepIn K (.ref f5) = true)
    {f6 : Addr} {od6 an6 : Option Addr} {sl6 : Array (Option Value)} {oc6 kV6 dc6 pm6 cd6 ct6 : Value}
    (a6 : PySem.W.nsIn K mainGlobals "_law_any" = some (some (.ref f6))) (l6 : K.lookup f6 = some ⟨oc6, od6, .func (PySem.W.fnOf "_law_any" "_law_any" (defArgs s__law_any) (defBody s__law_any) (defScope s__law_any) .none kV6 dc6 pm6 an6 cd6 ct6), sl6⟩) (c6 : PySem.W.codeIn K cd6 "_law_any" = true) (k6 : PySem.W.keepIn K (.ref f6) = true)
    {f7 : Addr} {od7 an7 : Option Addr} {sl7 : Array (Option Value)} {oc7 kV7 dc7 pm7 cd7 ct7 : Value}
    (a7 : PySem.W.nsIn K mainGlobals "_law_weather" = some (some (.ref f7))) (l7 : K.lookup f7 = some ⟨oc7, od7, .func (PySem.W.fnOf "_law_weather" "_law_weather" (defArgs s__law_weather) (defBody s__law_weather) (defScope s__law_weather) .none kV7 dc7 pm7 an7 cd7 ct7), sl7⟩) (c7 : PySem.W.codeIn K cd7 "_law_weather" = true) (k7 : PySem.W.keepIn K (.ref f7) = true)
    {f8 : Addr} {od8 an8 : Option Addr} {sl8 : Array (Option Value)} {oc8 kV8 dc8 pm8 cd8 ct8 : Value}
    (a8 : PySem.W.nsIn K mainGlobals "_law_thing" = some (some (.ref f8))) (l8 : K.lookup f8 = some ⟨oc8, od8, .func (PySem.W.fnOf "_law_thing" "_law_thing" (defArgs s__law_thing) (defBody s__law_thing) (defScope s__law_thing) .none kV8 dc8 pm8 an8 cd8 ct8), sl8⟩) (c8 : PySem.W.codeIn K cd8 "_law_thing" = true) (k8 : PySem.W.keepIn K (.ref f8) = true)
    {f9 : Addr} {od9 an9 : Option Addr} {sl9 : Array (Option Value)} {oc9 kV9 dc9 pm9 cd9 ct9 : Value}
    (a9 : PySem.W.nsIn K mainGlobals "_law_above" = some (some (.ref f9))) (l9 : K.lookup f9 = some ⟨oc9, od9, .func (PySem.W.fnOf "_law_above" "_law_above" (defArgs s__law_above) (defBody s__law_above) (defScope s__law_above) .none kV9 dc9 pm9 an9 cd9 ct9), sl9⟩) (c9 : PySem.W.codeIn K cd9 "_law_above" = true) (k9 : PySem.W.keepIn K (.ref f9) = true)
    {f10 : Addr} {od10 an10 : Option Addr} {sl10 : Array (Option Value)} {oc10 kV10 dc10 pm10 cd10 ct10 : Value}
    (a10 : PySem.W.nsIn K mainGlobals "is_whole" = some (some (.ref f10))) (l10 : K.lookup f10 = some ⟨oc10, od10, .func (PySem.W.fnOf "is_whole" "is_whole" (defArgs s_is_whole) (defBody s_is_whole) (defScope s_is_whole) .none kV10 dc10 pm10 an10 cd10 ct10), sl10⟩) (c10 : PySem.W.codeIn K cd10 "is_whole" = true) (k10 : PySem.W.keepIn K (.ref f10) = true)
    {f11 : Addr} {od11 an11 : Option Addr} {sl11 : Array (Option Value)} {oc11 kV11 dc11 pm11 cd11 ct11 : Value}
    (a11 : PySem.W.nsIn K mainGlobals "common" = some (some (.ref f11))) (l11 : K.lookup f11 = some ⟨oc11, od11, .func (PySem.W.fnOf "common" "common" (defArgs s_common) (defBody s_common) (defScope s_common) .none kV11 dc11 pm11 an11 cd11 ct11), sl11⟩) (c11 : PySem.W.codeIn K cd11 "common" = true) (k11 : PySem.W.keepIn K (.ref f11) = true)
    {f12 : Addr} {od12 an12 : Option Addr} {sl12 : Array (Option Value)} {oc12 kV12 dc12 pm12 cd12 ct12 : Value}
    (a12 : PySem.W.nsIn K mainGlobals "is_fraction" = some (some (.ref f12))) (l12 : K.lookup f12 = some ⟨oc12, od12, .func (PySem.W.fnOf "is_fraction" "is_fraction" (defArgs s_is_fraction) (defBody s_is_fraction) (defScope s_is_fraction) .none kV12 dc12 pm12 an12 cd12 ct12), sl12⟩) (c12 : PySem.W.codeIn K cd12 "is_fraction" = true) (k12 : PySem.W.keepIn K (.ref f12) = true)
    {f13 : Addr} {od13 an13 : Option Addr} {sl13 : Array (Option Value)} {oc13 kV13 dc13 pm13 cd13 ct13 : Value}
    (a13 : PySem.W.nsIn K mainGlobals "is_positive" = some (some (.ref f13))) (l13 : K.lookup f13 = some ⟨oc13, od13, .func (PySem.W.fnOf "is_positive" "is_positive" (defArgs s_is_positive) (defBody s_is_positive) (defScope s_is_positive) .none kV13 dc13 pm13 an13 cd13 ct13), sl13⟩) (c13 : PySem.W.codeIn K cd13 "is_positive" = true) (k13 : PySem.W.keepIn K (.ref f13) = true)
    {f14 : Addr} {od14 an14 : Option Addr} {sl14 : Array (Option Value)} {oc14 kV14 dc14 pm14 cd14 ct14 : Value}
    (a14 : PySem.W.nsIn K mainGlobals "is_pan" = some (some (.ref f14))) (l14 : K.lookup f14 = some ⟨oc14, od14, .func (PySem.W.fnOf "is_pan" "is_pan" (defArgs s_is_pan) (defBody s_is_pan) (defScope s_is_pan) .none kV14 dc14 pm14 an14 cd14 ct14), sl14⟩) (c14 : PySem.W.codeIn K cd14 "is_pan" = true) (k14 : PySem.W.keepIn K (.ref f14) = true)
    {f15 : Addr} {od15 an15 : Option Addr} {sl15 : Array (Option Value)} {oc15 kV15 dc15 pm15 cd15 ct15 : Value}
    (a15 : PySem.W.nsIn K mainGlobals "_law_same" = some (some (.ref f15))) (l15 : K.lookup f15 = some ⟨oc15, od15, .func (PySem.W.fnOf "_law_same" "_law_same" (defArgs s__law_same) (defBody s__law_same) (defScope s__law_same) .none kV15 dc15 pm15 an15 cd15 ct15), sl15⟩) (c15 : PySem.W.codeIn K cd15 "_law_same" = true) (k15 : PySem.W.keepIn K (.ref f15) = true)
    {f16 : Addr} {od16 an16 : Option Addr} {sl16 : Array (Option Value)} {oc16 kV16 dc16 pm16 cd16 ct16 : Value}
    (a16 : PySem.W.nsIn K mainGlobals "_law_times" = some (some (.ref f16))) (l16 : K.lookup f16 = some ⟨oc16, od16, .func (PySem.W.fnOf "_law_times" "_law_times" (defArgs s__law_times) (defBody s__law_times) (defScope s__law_times) .none kV16 dc16 pm16 an16 cd16 ct16), sl16⟩) (c16 : PySem.W.codeIn K cd16 "_law_times" = true) (k16 : PySem.W.keepIn K (.ref f16) = true)
    {f17 : Addr} {od17 an17 : Option Addr} {sl17 : Array (Option Value)} {oc17 kV17 dc17 pm17 cd17 ct17 : Value}
    (a17 : PySem.W.nsIn K mainGlobals "_law_plus" = some (some (.ref f17))) (l17 : K.lookup f17 = some ⟨oc17, od17, .func (PySem.W.fnOf "_law_plus" "_law_plus" (defArgs s__law_plus) (defBody s__law_plus) (defScope s__law_plus) .none kV17 dc17 pm17 an17 cd17 ct17), sl17⟩) (c17 : PySem.W.codeIn K cd17 "_law_plus" = true) (k17 : PySem.W.keepIn K (.ref f17) = true)
    {f18 : Addr} {od18 an18 : Option Addr} {sl18 : Array (Option Value)} {oc18 kV18 dc18 pm18 cd18 ct18 : Value}
    (a18 : PySem.W.nsIn K mainGlobals "_law_summed" = some (some (.ref f18))) (l18 : K.lookup f18 = some ⟨oc18, od18, .func (PySem.W.fnOf "_law_summed" "_law_summed" (defArgs s__law_summed) (defBody s__law_summed) (defScope s__law_summed) .none kV18 dc18 pm18 an18 cd18 ct18), sl18⟩) (c18 : PySem.W.codeIn K cd18 "_law_summed" = true) (k18 : PySem.W.keepIn K (.ref f18) = true)
    {f19 : Addr} {od19 an19 : Option Addr} {sl19 : Array (Option Value)} {oc19 kV19 dc19 pm19 cd19 ct19 : Value}
    (a19 : PySem.W.nsIn K mainGlobals "_law_below" = some (some (.ref f19))) (l19 : K.lookup f19 = some ⟨oc19, od19, .func (PySem.W.fnOf "_law_below" "_law_below" (defArgs s__law_below) (defBody s__law_below) (defScope s__law_below) .none kV19 dc19 pm19 an19 cd19 ct19), sl19⟩) (c19 : PySem.W.codeIn K cd19 "_law_below" = true) (k19 : PySem.W.keepIn K (.ref f19) = true)
    {f20 : Addr} {od20 an20 : Option Addr} {sl20 : Array (Option Value)} {oc20 kV20 dc20 pm20 cd20 ct20 : Value}
    (a20 : PySem.W.nsIn K mainGlobals "_law_led" = some (some (.ref f20))) (l20 : K.lookup f20 = some ⟨oc20, od20, .func (PySem.W.fnOf "_law_led" "_law_led" (defArgs s__law_led) (defBody s__law_led) (defScope s__law_led) .none kV20 dc20 pm20 an20 cd20 ct20), sl20⟩) (c20 : PySem.W.codeIn K cd20 "_law_led" = true) (k20 : PySem.W.keepIn K (.ref f20) = true)
    {f21 : Addr} {od21 an21 : Option Addr} {sl21 : Array (Option Value)} {oc21 kV21 dc21 pm21 cd21 ct21 : Value}
    (a21 : PySem.W.nsIn K mainGlobals "times" = some (some (.ref f21))) (l21 : K.lookup f21 = some ⟨oc21, od21, .func (PySem.W.fnOf "times" "times" (defArgs s_times) (defBody s_times) (defScope s_times) .none kV21 dc21 pm21 an21 cd21 ct21), sl21⟩) (c21 : PySem.W.codeIn K cd21 "times" = true) (k21 : PySem.W.keepIn K (.ref f21) = true)
    {f22 : Addr} {od22 an22 : Option Addr} {sl22 : Array (Option Value)} {oc22 kV22 dc22 pm22 cd22 ct22 : Value}
    (a22 : PySem.W.nsIn K mainGlobals "plus" = some (some (.ref f22))) (l22 : K.lookup f22 = some ⟨oc22, od22, .func (PySem.W.fnOf "plus" "plus" (defArgs s_plus) (defBody s_plus) (defScope s_plus) .none kV22 dc22 pm22 an22 cd22 ct22), sl22⟩) (c22 : PySem.W.codeIn K cd22 "plus" = true) (k22 : PySem.W.keepIn K (.ref f22) = true)
    {f23 : Addr} {od23 an23 : Option Addr} {sl23 : Array (Option Value)} {oc23 kV23 dc23 pm23 cd23 ct23 : Value}
    (a23 : PySem.W.nsIn K mainGlobals "summed" = some (some (.ref f23))) (l23 : K.lookup f23 = some ⟨oc23, od23, .func (PySem.W.fnOf "summed" "summed" (defArgs s_summed) (defBody s_summed) (defScope s_summed) .none kV23 dc23 pm23 an23 cd23 ct23), sl23⟩) (c23 : PySem.W.codeIn K cd23 "summed" = true) (k23 : PySem.W.keepIn K (.ref f23) = true)
    {f24 : Addr} {od24 an24 : Option Addr} {sl24 : Array (Option Value)} {oc24 kV24 dc24 pm24 cd24 ct24 : Value}
    (a24 : PySem.W.nsIn K mainGlobals "brought" = some (some (.ref f24))) (l24 : K.lookup f24 = some ⟨oc24, od24, .func (PySem.W.fnOf "brought" "brought" (defArgs s_brought) (defBody s_brought) (defScope s_brought) .none kV24 dc24 pm24 an24 cd24 ct24), sl24⟩) (c24 : PySem.W.codeIn K cd24 "brought" = true) (k24 : PySem.W.keepIn K (.ref f24) = true)
    {f25 : Addr} {od25 an25 : Option Addr} {sl25 : Array (Option Value)} {oc25 kV25 dc25 pm25 cd25 ct25 : Value}
    (a25 : PySem.W.nsIn K mainGlobals "rim_of" = some (some (.ref f25))) (l25 : K.lookup f25 = some ⟨oc25, od25, .func (PySem.W.fnOf "rim_of" "rim_of" (defArgs s_rim_of) (defBody s_rim_of) (defScope s_rim_of) .none kV25 dc25 pm25 an25 cd25 ct25), sl25⟩) (c25 : PySem.W.codeIn K cd25 "rim_of" = true) (k25 : PySem.W.keepIn K (.ref f25) = true)
    {f26 : Addr} {od26 an26 : Option Addr} {sl26 : Array (Option Value)} {oc26 kV26 dc26 pm26 cd26 ct26 : Value}
    (a26 : PySem.W.nsIn K mainGlobals "spell_clamp" = some (some (.ref f26))) (l26 : K.lookup f26 = some ⟨oc26, od26, .func (PySem.W.fnOf "spell_clamp" "spell_clamp" (defArgs s_spell_clamp) (defBody s_spell_clamp) (defScope s_spell_clamp) .none kV26 dc26 pm26 an26 cd26 ct26), sl26⟩) (c26 : PySem.W.codeIn K cd26 "spell_clamp" = true) (k26 : PySem.W.keepIn K (.ref f26) = true)
    {f27 : Addr} {od27 an27 : Option Addr} {sl27 : Array (Option Value)} {oc27 kV27 dc27 pm27 cd27 ct27 : Value}
    (a27 : PySem.W.nsIn K mainGlobals "is_less" = some (some (.ref f27))) (l27 : K.lookup f27 = some ⟨oc27, od27, .func (PySem.W.fnOf "is_less" "is_less" (defArgs s_is_less) (defBody s_is_less) (defScope s_is_less) .none kV27 dc27 pm27 an27 cd27 ct27), sl27⟩) (c27 : PySem.W.codeIn K cd27 "is_less" = true) (k27 : PySem.W.keepIn K (.ref f27) = true)
    {f28 : Addr} {od28 an28 : Option Addr} {sl28 : Array (Option Value)} {oc28 kV28 dc28 pm28 cd28 ct28 : Value}
    (a28 : PySem.W.nsIn K mainGlobals "least" = some (some (.ref f28))) (l28 : K.lookup f28 = some ⟨oc28, od28, .func (PySem.W.fnOf "least" "least" (defArgs s_least) (defBody s_least) (defScope s_least) .none kV28 dc28 pm28 an28 cd28 ct28), sl28⟩) (c28 : PySem.W.codeIn K cd28 "least" = true) (k28 : PySem.W.keepIn K (.ref f28) = true)
    {f29 : Addr} {od29 an29 : Option Addr} {sl29 : Array (Option Value)} {oc29 kV29 dc29 pm29 cd29 ct29 : Value}
    (a29 : PySem.W.nsIn K mainGlobals "greatest" = some (some (.ref f29))) (l29 : K.lookup f29 = some ⟨oc29, od29, .func (PySem.W.fnOf "greatest" "greatest" (defArgs s_greatest) (defBody s_greatest) (defScope s_greatest) .none kV29 dc29 pm29 an29 cd29 ct29), sl29⟩) (c29 : PySem.W.codeIn K cd29 "greatest" = true) (k29 : PySem.W.keepIn K (.ref f29) = true)
    {f30 : Addr} {od30 an30 : Option Addr} {sl30 : Array (Option Value)} {oc30 kV30 dc30 pm30 cd30 ct30 : Value}
    (a30 : PySem.W.nsIn K mainGlobals "clamped" = some (some (.ref f30))) (l30 : K.lookup f30 = some ⟨oc30, od30, .func (PySem.W.fnOf "clamped" "clamped" (defArgs s_clamped) (defBody s_clamped) (defScope s_clamped) .none kV30 dc30 pm30 an30 cd30 ct30), sl30⟩) (c30 : PySem.W.codeIn K cd30 "clamped" = true) (k30 : PySem.W.keepIn K (.ref f30) = true)
    {f31 : Addr} {od31 an31 : Option Addr} {sl31 : Array (Option Value)} {oc31 kV31 dc31 pm31 cd31 ct31 : Value}
    (a31 : PySem.W.nsIn K mainGlobals "one_behind" = some (some (.ref f31))) (l31 : K.lookup f31 = some ⟨oc31, od31, .func (PySem.W.fnOf "one_behind" "one_behind" (defArgs s_one_behind) (defBody s_one_behind) (defScope s_one_behind) .none kV31 dc31 pm31 an31 cd31 ct31), sl31⟩) (c31 : PySem.W.codeIn K cd31 "one_behind" = true) (k31 : PySem.W.keepIn K (.ref f31) = true)
    {f32 : Addr} {od32 an32 : Option Addr} {sl32 : Array (Option Value)} {oc32 kV32 dc32 pm32 cd32 ct32 : Value}
    (a32 : PySem.W.nsIn K mainGlobals "clamp_of" = some (some (.ref f32))) (l32 : K.lookup f32 = some ⟨oc32, od32, .func (PySem.W.fnOf "clamp_of" "clamp_of" (defArgs s_clamp_of) (defBody s_clamp_of) (defScope s_clamp_of) .none kV32 dc32 pm32 an32 cd32 ct32), sl32⟩) (c32 : PySem.W.codeIn K cd32 "clamp_of" = true) (k32 : PySem.W.keepIn K (.ref f32) = true)
    {f33 : Addr} {od33 an33 : Option Addr} {sl33 : Array (Option Value)} {oc33 kV33 dc33 pm33 cd33 ct33 : Value}
    (a33 : PySem.W.nsIn K mainGlobals "_law_clamp_right" = some (some (.ref f33))) (l33 : K.lookup f33 = some ⟨oc33, od33, .func (PySem.W.fnOf "_law_clamp_right" "_law_clamp_right" (defArgs s__law_clamp_right) (defBody s__law_clamp_right) (defScope s__law_clamp_right) .none kV33 dc33 pm33 an33 cd33 ct33), sl33⟩) (c33 : PySem.W.codeIn K cd33 "_law_clamp_right" = true) (k33 : PySem.W.keepIn K (.ref f33) = true)
    {f34 : Addr} {od34 an34 : Option Addr} {sl34 : Array (Option Value)} {oc34 kV34 dc34 pm34 cd34 ct34 : Value}
    (a34 : PySem.W.nsIn K mainGlobals "_law_pan" = some (some (.ref f34))) (l34 : K.lookup f34 = some ⟨oc34, od34, .func (PySem.W.fnOf "_law_pan" "_law_pan" (defArgs s__law_pan) (defBody s__law_pan) (defScope s__law_pan) .none kV34 dc34 pm34 an34 cd34 ct34), sl34⟩) (c34 : PySem.W.codeIn K cd34 "_law_pan" = true) (k34 : PySem.W.keepIn K (.ref f34) = true)
    {f35 : Addr} {od35 an35 : Option Addr} {sl35 : Array (Option Value)} {oc35 kV35 dc35 pm35 cd35 ct35 : Value}
    (a35 : PySem.W.nsIn K mainGlobals "_law_is_part" = some (some (.ref f35))) (l35 : K.lookup f35 = some ⟨oc35, od35, .func (PySem.W.fnOf "_law_is_part" "_law_is_part" (defArgs s__law_is_part) (defBody s__law_is_part) (defScope s__law_is_part) .none kV35 dc35 pm35 an35 cd35 ct35), sl35⟩) (c35 : PySem.W.codeIn K cd35 "_law_is_part" = true) (k35 : PySem.W.keepIn K (.ref f35) = true)
    {f36 : Addr} {od36 an36 : Option Addr} {sl36 : Array (Option Value)} {oc36 kV36 dc36 pm36 cd36 ct36 : Value}
    (a36 : PySem.W.nsIn K mainGlobals "_law_is_pan" = some (some (.ref f36))) (l36 : K.lookup f36 = some ⟨oc36, od36, .func (PySem.W.fnOf "_law_is_pan" "_law_is_pan" (defArgs s__law_is_pan) (defBody s__law_is_pan) (defScope s__law_is_pan) .none kV36 dc36 pm36 an36 cd36 ct36), sl36⟩) (c36 : PySem.W.codeIn K cd36 "_law_is_pan" = true) (k36 : PySem.W.keepIn K (.ref f36) = true)
    {f37 : Addr} {od37 an37 : Option Addr} {sl37 : Array (Option Value)} {oc37 kV37 dc37 pm37 cd37 ct37 : Value}
    (a37 : PySem.W.nsIn K mainGlobals "law" = some (some (.ref f37))) (l37 : K.lookup f37 = some ⟨oc37, od37, .func (PySem.W.fnOf "law" "law" (defArgs s_law) (defBody s_law) (defScope s_law) .none kV37 dc37 pm37 an37 cd37 ct37), sl37⟩) (c37 : PySem.W.codeIn K cd37 "law" = true) (k37 : PySem.W.keepIn K (.ref f37) = true)
    (z_abs : PySem.W.nsIn K mainGlobals "abs" = some none)
    (z_all : PySem.W.nsIn K mainGlobals "all" = some none)
    (z_bool : PySem.W.nsIn K mainGlobals "bool" = some none)
    (z_int : PySem.W.nsIn K mainGlobals "int" = some none)
    (z_isinstance : PySem.W.nsIn K mainGlobals "isinstance" = some none)
    (z_len : PySem.W.nsIn K mainGlobals "len" = some none)
    (z_list : PySem.W.nsIn K mainGlobals "list" = some none)
    (z_range : PySem.W.nsIn K mainGlobals "range" = some none)
    (z_repr : PySem.W.nsIn K mainGlobals "repr" = some none)
    (z_tuple : PySem.W.nsIn K mainGlobals "tuple" = some none)
    (z_zip : PySem.W.nsIn K mainGlobals "zip" = some none)
    {c_NOUGHT : Addr} {od_NOUGHT : Option Addr} {n_NOUGHT : Nat} {sl_NOUGHT : Array (Option Value)} {t0_NOUGHT t1_NOUGHT : Tok} (m_NOUGHT : PySem.W.nsIn K mainGlobals "NOUGHT" = some (some (.ref c_NOUGHT))) (l_NOUGHT : K.lookup c_NOUGHT = some ⟨.type "tuple", od_NOUGHT, .seq #[.int 0 t0_NOUGHT, .int 1 t1_NOUGHT] n_NOUGHT, sl_NOUGHT⟩)
    : ∃ fd : FuncData, (∀ (s : Shared) (v : Value), BindsTo s fd ⟨[v], []⟩ [("_law_script", v)]) ∧ ∀ base : Heap, K.In base → base.Ns mainGlobals mg → GOk l.prog w K mg base CX0 15 fa fd ["_law_script"] (spL K 1 F_law) := by
  obtain ⟨T, e1, e2⟩ := all_mk X G a0 l0 c0 k0 a1 l1 c1 k1 a2 l2 c2 k2 a3 l3 c3 k3 a4 l4 c4 k4 a5 l5 c5 k5 a6 l6 c6 k6 a7 l7 c7 k7 a8 l8 c8 k8 a9 l9 c9 k9 a10 l10 c10 k10 a11 l11 c11 k11 a12 l12 c12 k12 a13 l13 c13 k13 a14 l14 c14 k14 a15 l15 c15 k15 a16 l16 c16 k16 a17 l17 c17 k17 a18 l18 c18 k18 a19 l19 c19 k19 a20 l20 c20 k20 a21 l21 c21 k21 a22 l22 c22 k22 a23 l23 c23 k23 a24 l24 c24 k24 a25 l25 c25 k25 a26 l26 c26 k26 a27 l27 c27 k27 a28 l28 c28 k28 a29 l29 c29 k29 a30 l30 c30 k30 a31 l31 c31 k31 a32 l32 c32 k32 a33 l33 c33 k33 a34 l34 c34 k34 a35 l35 c35 k35 a36 l36 c36 k36 a37 l37 c37 k37 z_abs z_all z_bool z_int z_isinstance z_len z_list z_range z_repr z_tuple z_zip m_NOUGHT l_NOUGHT
  have e := hfa.symm.trans (PySem.W.mg_of X G a37)
  cases e
  exact ⟨PySem.W.fnOf "law" "law" (defArgs s_law) (defBody s_law) (defScope s_law) .none kV37 dc37 pm37 an37 cd37 ct37, fun s v => .of_eq rfl, fun base _ _ => by have := ok_law (P := l.prog) (w := w) (base := base) T; rw [e1, e2] at this; exact this.imp spL_imp⟩
theorem np_int (i : Int) : (D.int i).np = true := rfl
theorem np_bl (i : Bool) : (D.bl i).np = true := rfl
theorem np_tup (i : List D) : (D.tup i).np = true := rfl
theorem np_lst (i : List D) : (D.lst i).np = true := rfl
theorem np_str (i : Str) : (D.str i).np = true := rfl
theorem np_non : D.non.np = true := rfl
theorem if_true_ {α : Type} (a b : α) : (if true = true then a else b) = a := rfl
theorem if_false_ {α : Type} (a b : α) : (if false = true then a else b) = b := rfl
theorem zero_add' (n : Nat) : 0 + n = n := Nat.zero_add n
theorem nat_lt_pow {n k : Nat} (m : Nat) (h : n < 2 ^ k) (l : k ≤ m) : n < 2 ^ m := Nat.lt_of_lt_of_le h (Nat.pow_le_pow_right (by decide) l)
theorem if_tt {α : Type} (a b : α) : (if True then a else b) = a := if_pos trivial
theorem if_ff {α : Type} (a b : α) : (if False then a else b) = b := if_neg id
/-! common -/
theorem common_loop : ∀ (n : Nat) (a b : Int) (M : Mem), b.natAbs < n → ∃ a', a'.natAbs = Int.gcd a b ∧
    whileF (bnd (bnd (dVar 1) fun d => bnd (ret (.int 0)) fun e => oNe d e) asB) den_common_L1 n [some (.int a), some (.int b)] M = some (.nx [some (.int a'), some (.int 0)], M)
  | 0, a, b, M, h => absurd h (by omega)
  | n + 1, a, b, M, h => by
    by_cases hb : b = 0
    · subst hb
      refine ⟨a, by simp, ?_⟩
      unfold whileF
      simp -implicitDefEqProofs only [sSeq_ap, sAsg_ap, sPar_ap, sRet_ap, sIf_ap, sExpr_ap, sNext_ap, bnd_ap, ret_ap, bindR_ok, thenR_ok, dVar_ap, varR_ok, seqR_nx, seqR_rt, asgR_ok, gNm_ap, gCn_ap, gcnR_ok, gNl_ap, gTp_fr, gTp_ap, gLs_ap, dCons_ap, dNil_ap, asB_ap, dOr_ap, dAnd_ap, dNot_ap, dAndV_ap, dOrV_ap, dNotV_ap, dIf_ap, oAdd_int, oSub_int, oLt_int, oLe_int, oGt_int, oGe_int, oNeg_int, oEq_int, oNe_int, oEq_fr, oNe_fr, oEq_bl, oNe_bl, oTup_ap, oLst_ap, oCall_ap, oAbs_ap, oMax_ap, oMin_ap, oToInt_b, oToInt_i, oLen_lst, oLen_scr, oLen_tup, oIx_lst, oIx_scr, oAdd_lst, oIx_tup, oIx_fr0, oIx_fr1, ixR_ok, oItL_ap, oItT_ap, sFor_ap, startD, List.map_cons, List.map_nil, List.length_cons, List.length_nil, List.replicate_succ, List.replicate_zero, List.cons_append, List.nil_append, List.append_nil, List.getElem?_cons_zero, List.getElem?_cons_succ, List.set_cons_zero, List.set_cons_succ, Nat.reduceAdd, Nat.reduceSub, Nat.sub_self, Nat.reduceLeDiff, List.all_cons, List.all_nil, np_fr, np_int, np_bl, np_tup, np_lst, np_str, np_non, Bool.and_self, Bool.and_true, if_true_, if_false_, zero_add', if_tt, if_ff, decide_true, decide_false, Nat.le_refl, oItS_lst, oItS_tup, oTupOf_lst, oTupOf_tup, oLstOf_lst, oLstOf_tup, oRv_lst, oRv_tup, oAdd_tup, dChain_ap, asTru_bl, asTru_tup, asTru_lst, oIsN_ap, oNotN_ap, asI_ap, oSl_tup, oSl_lst, oZip_tup, oZip_lst, oAddI_ap, oEqS_ap, oNeS_ap, oNe_nil, Bool.not_true, Bool.false_eq_true]
    · obtain ⟨a', e1, e2⟩ := common_loop n b (a.fmod b) M (by have := natAbs_fmod_lt a hb; omega)
      refine ⟨a', by rw [e1, gcd_fmod], ?_⟩
      unfold whileF
      simp -implicitDefEqProofs only [sSeq_ap, sAsg_ap, sPar_ap, sRet_ap, sIf_ap, sExpr_ap, sNext_ap, bnd_ap, ret_ap, bindR_ok, thenR_ok, dVar_ap, varR_ok, seqR_nx, seqR_rt, asgR_ok, gNm_ap, gCn_ap, gcnR_ok, gNl_ap, gTp_fr, gTp_ap, gLs_ap, dCons_ap, dNil_ap, asB_ap, dOr_ap, dAnd_ap, dNot_ap, dAndV_ap, dOrV_ap, dNotV_ap, dIf_ap, oAdd_int, oSub_int, oLt_int, oLe_int, oGt_int, oGe_int, oNeg_int, oEq_int, oNe_int, oEq_fr, oNe_fr, oEq_bl, oNe_bl, oTup_ap, oLst_ap, oCall_ap, oAbs_ap, oMax_ap, oMin_ap, oToInt_b, oToInt_i, oLen_lst, oLen_scr, oLen_tup, oIx_lst, oIx_scr, oAdd_lst, oIx_tup, oIx_fr0, oIx_fr1, ixR_ok, oItL_ap, oItT_ap, sFor_ap, startD, List.map_cons, List.map_nil, List.length_cons, List.length_nil, List.replicate_succ, List.replicate_zero, List.cons_append, List.nil_append, List.append_nil, List.getElem?_cons_zero, List.getElem?_cons_succ, List.set_cons_zero, List.set_cons_succ, Nat.reduceAdd, Nat.reduceSub, Nat.sub_self, Nat.reduceLeDiff, List.all_cons, List.all_nil, np_fr, np_int, np_bl, np_tup, np_lst, np_str, np_non, Bool.and_self, Bool.and_true, if_true_, if_false_, zero_add', if_tt, if_ff, decide_true, decide_false, Nat.le_refl, oItS_lst, oItS_tup, oTupOf_lst, oTupOf_tup, oLstOf_lst, oLstOf_tup, oRv_lst, oRv_tup, oAdd_tup, dChain_ap, asTru_bl, asTru_tup, asTru_lst, oIsN_ap, oNotN_ap, asI_ap, oSl_tup, oSl_lst, oZip_tup, oZip_lst, oAddI_ap, oEqS_ap, oNeS_ap, oNe_nil, hb, Bool.not_false]
      have e4 : den_common_L1 [some (.int a), some (.int b)] M = some (.nx [some (.int b), some (.int (a.fmod b))], M) := by
        simp -implicitDefEqProofs only [den_common_L1, sSeq_ap, sAsg_ap, sPar_ap, sRet_ap, sIf_ap, sExpr_ap, sNext_ap, bnd_ap, ret_ap, bindR_ok, thenR_ok, dVar_ap, varR_ok, seqR_nx, seqR_rt, asgR_ok, gNm_ap, gCn_ap, gcnR_ok, gNl_ap, gTp_fr, gTp_ap, gLs_ap, dCons_ap, dNil_ap, asB_ap, dOr_ap, dAnd_ap, dNot_ap, dAndV_ap, dOrV_ap, dNotV_ap, dIf_ap, oAdd_int, oSub_int, oLt_int, oLe_int, oGt_int, oGe_int, oNeg_int, oEq_int, oNe_int, oEq_fr, oNe_fr, oEq_bl, oNe_bl, oTup_ap, oLst_ap, oCall_ap, oAbs_ap, oMax_ap, oMin_ap, oToInt_b, oToInt_i, oLen_lst, oLen_scr, oLen_tup, oIx_lst, oIx_scr, oAdd_lst, oIx_tup, oIx_fr0, oIx_fr1, ixR_ok, oItL_ap, oItT_ap, sFor_ap, startD, List.map_cons, List.map_nil, List.length_cons, List.length_nil, List.replicate_succ, List.replicate_zero, List.cons_append, List.nil_append, List.append_nil, List.getElem?_cons_zero, List.getElem?_cons_succ, List.set_cons_zero, List.set_cons_succ, Nat.reduceAdd, Nat.reduceSub, Nat.sub_self, Nat.reduceLeDiff, List.all_cons, List.all_nil, np_fr, np_int, np_bl, np_tup, np_lst, np_str, np_non, Bool.and_self, Bool.and_true, if_true_, if_false_, zero_add', if_tt, if_ff, decide_true, decide_false, Nat.le_refl, oItS_lst, oItS_tup, oTupOf_lst, oTupOf_tup, oLstOf_lst, oLstOf_tup, oRv_lst, oRv_tup, oAdd_tup, dChain_ap, asTru_bl, asTru_tup, asTru_lst, oIsN_ap, oNotN_ap, asI_ap, oSl_tup, oSl_lst, oZip_tup, oZip_lst, oAddI_ap, oEqS_ap, oNeS_ap, oNe_nil, oMod_int hb]
      simp -implicitDefEqProofs only [e4, e2]
theorem common_eq (a b : Int) (M : Mem) : F_common [.int a, .int b] M = some (.ok (.int (Int.gcd a b : Nat)), M) := by
  obtain ⟨a', e1, e2⟩ := common_loop (b.natAbs + 1) a b M (by omega)
  refine runF_pure ?_ rfl
  have e3 := sWhile_eq e2
  simp -implicitDefEqProofs only [den_common, sSeq_ap, sAsg_ap, sPar_ap, sRet_ap, sIf_ap, sExpr_ap, sNext_ap, bnd_ap, ret_ap, bindR_ok, thenR_ok, dVar_ap, varR_ok, seqR_nx, seqR_rt, asgR_ok, gNm_ap, gCn_ap, gcnR_ok, gNl_ap, gTp_fr, gTp_ap, gLs_ap, dCons_ap, dNil_ap, asB_ap, dOr_ap, dAnd_ap, dNot_ap, dAndV_ap, dOrV_ap, dNotV_ap, dIf_ap, oAdd_int, oSub_int, oLt_int, oLe_int, oGt_int, oGe_int, oNeg_int, oEq_int, oNe_int, oEq_fr, oNe_fr, oEq_bl, oNe_bl, oTup_ap, oLst_ap, oCall_ap, oAbs_ap, oMax_ap, oMin_ap, oToInt_b, oToInt_i, oLen_lst, oLen_scr, oLen_tup, oIx_lst, oIx_scr, oAdd_lst, oIx_tup, oIx_fr0, oIx_fr1, ixR_ok, oItL_ap, oItT_ap, sFor_ap, startD, List.map_cons, List.map_nil, List.length_cons, List.length_nil, List.replicate_succ, List.replicate_zero, List.cons_append, List.nil_append, List.append_nil, List.getElem?_cons_zero, List.getElem?_cons_succ, List.set_cons_zero, List.set_cons_succ, Nat.reduceAdd, Nat.reduceSub, Nat.sub_self, Nat.reduceLeDiff, List.all_cons, List.all_nil, np_fr, np_int, np_bl, np_tup, np_lst, np_str, np_non, Bool.and_self, Bool.and_true, if_true_, if_false_, zero_add', if_tt, if_ff, decide_true, decide_false, Nat.le_refl, oItS_lst, oItS_tup, oTupOf_lst, oTupOf_tup, oLstOf_lst, oLstOf_tup, oRv_lst, oRv_tup, oAdd_tup, dChain_ap, asTru_bl, asTru_tup, asTru_lst, oIsN_ap, oNotN_ap, asI_ap, oSl_tup, oSl_lst, oZip_tup, oZip_lst, oAddI_ap, oEqS_ap, oNeS_ap, oNe_nil, e3]
  rw [← e1]
  congr
  split <;> omega
/-! plus -/
theorem plus_math (x y : Rat) : let g := Nat.gcd x.den y.den
    let top : Int := x.num * ((y.den / g : Nat) : Int) + y.num * ((x.den / g : Nat) : Int)
    (x + y).num = top / (Int.gcd top g : Nat) ∧ (x + y).den = (x.den / g) * (y.den / Int.gcd top g) := by
  intro g top
  have hx := x.den_pos
  have hy := y.den_pos
  have gp : 0 < g := Nat.gcd_pos_of_pos_left _ hx
  obtain ⟨b', hb⟩ : g ∣ x.den := Nat.gcd_dvd_left _ _
  obtain ⟨d', hd⟩ : g ∣ y.den := Nat.gcd_dvd_right _ _
  have eb : x.den / g = b' := by rw [hb]; exact Nat.mul_div_cancel_left _ gp
  have ed : y.den / g = d' := by rw [hd]; exact Nat.mul_div_cancel_left _ gp
  have aux := Rat.add.aux x y (g := g) rfl rfl rfl
  simp only at aux
  have et : top = x.num * (d' : Int) + y.num * (b' : Int) := by show x.num * ((y.den / g : Nat) : Int) + y.num * ((x.den / g : Nat) : Int) = _; rw [eb, ed]
  have aux2 : top.natAbs.gcd g = top.natAbs.gcd (b' * y.den) := by
    have : top = x.num * ((y.den / g : Nat) : Int) + y.num * ((x.den / g : Nat) : Int) := rfl
    rw [this, aux, eb]
  have eg : Int.gcd top (g : Int) = top.natAbs.gcd g := by simp [Int.gcd]
  have hg1 : Int.gcd top g = top.natAbs.gcd (b' * y.den) := eg.trans aux2
  have g1g : Int.gcd top g ∣ g := by rw [eg]; exact Nat.gcd_dvd_right _ _
  have g1p : 0 < Int.gcd top g := Nat.pos_of_dvd_of_pos g1g gp
  obtain ⟨r, hr⟩ : Int.gcd top g ∣ y.den := Nat.dvd_trans g1g (Nat.gcd_dvd_right _ _)
  have er : y.den / Int.gcd top g = r := by rw [hr]; rw [← hr]; conv => lhs; lhs; rw [hr]
                                            exact Nat.mul_div_cancel_left _ g1p
  obtain ⟨t, ht⟩ : ((Int.gcd top g : Nat) : Int) ∣ top := Int.gcd_dvd_left ..
  have ett : top / (Int.gcd top g : Nat) = t := by
    conv => lhs; lhs; rw [ht]
    exact Int.mul_ediv_cancel_left _ (by omega)
  rw [eb, er, ett]
  have bp : 0 < b' := Nat.pos_of_ne_zero fun z => by rw [z] at hb; omega
  have rp : 0 < r := Nat.pos_of_ne_zero fun z => by rw [z] at hr; omega
  have hnz : b' * r ≠ 0 := Nat.ne_of_gt (Nat.mul_pos bp rp)
  have gp2 : 0 < top.natAbs.gcd (b' * y.den) := by rw [← hg1]; exact g1p
  refine rat_uniq hnz ?_ ?_
  · -- coprime
    have cop := Nat.coprime_div_gcd_div_gcd (m := top.natAbs) (n := b' * y.den) gp2
    rw [← hg1] at cop
    have e1 : top.natAbs / Int.gcd top g = t.natAbs := by
      conv => lhs; lhs; rw [ht]
      rw [Int.natAbs_mul, Int.natAbs_natCast]
      exact Nat.mul_div_cancel_left _ g1p
    have e2 : b' * y.den / Int.gcd top g = b' * r := by
      conv => lhs; lhs; rw [hr]
      rw [← Nat.mul_assoc, Nat.mul_comm b', Nat.mul_assoc]
      exact Nat.mul_div_cancel_left _ g1p
    rw [e1, e2] at cop
    exact cop
  · have e0 : mkRat (x + y).num (x + y).den = mkRat (x.num * y.den + y.num * x.den) (x.den * y.den) := by
      rw [Rat.mkRat_self, Rat.add_def, Rat.normalize_eq_mkRat]
    rw [Rat.mkRat_eq_iff (x + y).den_nz (Nat.ne_of_gt (Nat.mul_pos hx hy))] at e0
    have c1 : x.num * (y.den : Int) + y.num * (x.den : Int) = (g : Int) * ((Int.gcd top g : Nat) : Int) * t := by
      rw [Int.mul_assoc, ← ht, et, hb, hd]
      push_cast
      grind
    have c2 : ((x.den * y.den : Nat) : Int) = (g : Int) * ((Int.gcd top g : Nat) : Int) * ((b' * r : Nat) : Int) := by
      rw [hb, hr]
      push_cast
      grind
    rw [c1, c2] at e0
    have nz : (g : Int) * ((Int.gcd top g : Nat) : Int) ≠ 0 := by
      have : 0 < (g : Int) * ((Int.gcd top g : Nat) : Int) := Int.mul_pos (by omega) (by omega)
      omega
    refine Int.eq_of_mul_eq_mul_left nz ?_
    grind
theorem nat_div_lt {n g k : Nat} (h : n < 2 ^ k) : n / g < 2 ^ k := Nat.lt_of_le_of_lt (Nat.div_le_self _ _) h
theorem den_nat_lt {q : Rat} {k : Nat} (h : Bd k q) : ((q.den : Int)).natAbs < 2 ^ k := by simpa using h.2
/-- F_plus -/
theorem plus_eq {x y : Rat} (hx : Bd 4000 x) (hy : Bd 4000 y) (M : Mem) : F_plus [frQ x, frQ y] M = some (.ok (frQ (x + y)), M) := by
  obtain ⟨m1, m2⟩ := plus_math x y
  refine runF_pure ?_ rfl
  have gp : 0 < Nat.gcd x.den y.den := Nat.gcd_pos_of_pos_left _ x.den_pos
  have gl : Nat.gcd x.den y.den < 2 ^ 4000 := Nat.lt_of_le_of_lt (Nat.gcd_le_left _ x.den_pos) hx.2
  have ig : Int.gcd (x.den : Int) (y.den : Int) = Nat.gcd x.den y.den := by simp [Int.gcd]
  have d1 : DivOk ((Nat.gcd x.den y.den : Nat) : Int) := DivOk.of (b := 4000) (by omega) (by simpa using gl)
  have q1 : ((y.den : Int)).fdiv ((Nat.gcd x.den y.den : Nat) : Int) = ((y.den / Nat.gcd x.den y.den : Nat) : Int) := by rw [fdiv_nat]; rfl
  have q2 : ((x.den : Int)).fdiv ((Nat.gcd x.den y.den : Nat) : Int) = ((x.den / Nat.gcd x.den y.den : Nat) : Int) := by rw [fdiv_nat]; rfl
  have k1 : MulOk x.num ((y.den / Nat.gcd x.den y.den : Nat) : Int) := MulOk.of (a := 4000) (b := 4000) hx.1 (by rw [Int.natAbs_natCast]; exact nat_div_lt hy.2)
  have k2 : MulOk y.num ((x.den / Nat.gcd x.den y.den : Nat) : Int) := MulOk.of (a := 4000) (b := 4000) hy.1 (by rw [Int.natAbs_natCast]; exact nat_div_lt hx.2)
  generalize ht : x.num * ((y.den / Nat.gcd x.den y.den : Nat) : Int) + y.num * ((x.den / Nat.gcd x.den y.den : Nat) : Int) = top at m1 m2
  have ggd : Int.gcd top (Nat.gcd x.den y.den : Nat) ∣ Nat.gcd x.den y.den := by
    have : Int.gcd top (Nat.gcd x.den y.den : Nat) = Nat.gcd top.natAbs (Nat.gcd x.den y.den) := by simp [Int.gcd]
    rw [this]; exact Nat.gcd_dvd_right _ _
  have ggp : 0 < Int.gcd top (Nat.gcd x.den y.den : Nat) := Nat.pos_of_dvd_of_pos ggd gp
  have d2 : DivOk ((Int.gcd top (Nat.gcd x.den y.den : Nat) : Nat) : Int) := DivOk.of (b := 4000) (by omega) (by simpa using Nat.lt_of_le_of_lt (Nat.le_of_dvd gp ggd) gl)
  have q3 : ((y.den : Int)).fdiv ((Int.gcd top (Nat.gcd x.den y.den : Nat) : Nat) : Int) = ((y.den / Int.gcd top (Nat.gcd x.den y.den : Nat) : Nat) : Int) := by rw [fdiv_nat]; rfl
  have k3 : MulOk ((x.den / Nat.gcd x.den y.den : Nat) : Int) ((y.den / Int.gcd top (Nat.gcd x.den y.den : Nat) : Nat) : Int) := MulOk.of (a := 4000) (b := 4000) (by rw [Int.natAbs_natCast]; exact nat_div_lt hx.2) (by rw [Int.natAbs_natCast]; exact nat_div_lt hy.2)
  simp -implicitDefEqProofs only [den_plus, sSeq_ap, sAsg_ap, sPar_ap, sRet_ap, sIf_ap, sExpr_ap, sNext_ap, bnd_ap, ret_ap, bindR_ok, thenR_ok, dVar_ap, varR_ok, seqR_nx, seqR_rt, asgR_ok, gNm_ap, gCn_ap, gcnR_ok, gNl_ap, gTp_fr, gTp_ap, gLs_ap, dCons_ap, dNil_ap, asB_ap, dOr_ap, dAnd_ap, dNot_ap, dAndV_ap, dOrV_ap, dNotV_ap, dIf_ap, oAdd_int, oSub_int, oLt_int, oLe_int, oGt_int, oGe_int, oNeg_int, oEq_int, oNe_int, oEq_fr, oNe_fr, oEq_bl, oNe_bl, oTup_ap, oLst_ap, oCall_ap, oAbs_ap, oMax_ap, oMin_ap, oToInt_b, oToInt_i, oLen_lst, oLen_scr, oLen_tup, oIx_lst, oIx_scr, oAdd_lst, oIx_tup, oIx_fr0, oIx_fr1, ixR_ok, oItL_ap, oItT_ap, sFor_ap, startD, List.map_cons, List.map_nil, List.length_cons, List.length_nil, List.replicate_succ, List.replicate_zero, List.cons_append, List.nil_append, List.append_nil, List.getElem?_cons_zero, List.getElem?_cons_succ, List.set_cons_zero, List.set_cons_succ, Nat.reduceAdd, Nat.reduceSub, Nat.sub_self, Nat.reduceLeDiff, List.all_cons, List.all_nil, np_fr, np_int, np_bl, np_tup, np_lst, np_str, np_non, Bool.and_self, Bool.and_true, if_true_, if_false_, zero_add', if_tt, if_ff, decide_true, decide_false, Nat.le_refl, oItS_lst, oItS_tup, oTupOf_lst, oTupOf_tup, oLstOf_lst, oLstOf_tup, oRv_lst, oRv_tup, oAdd_tup, dChain_ap, asTru_bl, asTru_tup, asTru_lst, oIsN_ap, oNotN_ap, asI_ap, oSl_tup, oSl_lst, oZip_tup, oZip_lst, oAddI_ap, oEqS_ap, oNeS_ap, oNe_nil, common_eq, ig, oDiv_int d1, q1, q2, oMul_int k1, oMul_int k2, ht, oDiv_int d2, q3, oMul_int k3, fdiv_nat]
  congr
  · exact m1.symm
  · rw [m2]; push_cast; rfl
/-- times -/
theorem times_math (x y : Rat) : (x * y).num = (x.num / (Int.gcd x.num y.den : Nat)) * (y.num / (Int.gcd y.num x.den : Nat)) ∧ (x * y).den = (x.den / Int.gcd y.num x.den) * (y.den / Int.gcd x.num y.den) := by
  have e : x * y = Rat.mul x y := rfl
  have g1 : Int.gcd x.num y.den = x.num.natAbs.gcd y.den := by simp [Int.gcd]
  have g2 : Int.gcd y.num x.den = y.num.natAbs.gcd x.den := by simp [Int.gcd]
  rw [e, g1, g2]
  unfold Rat.mul
  simp -implicitDefEqProofs only [Int.divExact_eq_ediv, Nat.divExact_eq_div]
  exact ⟨trivial, trivial⟩
theorem times_eq {x y : Rat} (hx : Bd 4000 x) (hy : Bd 4000 y) (M : Mem) : F_times [frQ x, frQ y] M = some (.ok (frQ (x * y)), M) := by
  obtain ⟨m1, m2⟩ := times_math x y
  refine runF_pure ?_ rfl
  have gd : ∀ (n : Int) (d : Nat), 0 < d → 0 < Int.gcd n d ∧ Int.gcd n d ≤ d := fun n d hd => by
    have e : Int.gcd n d = n.natAbs.gcd d := by simp [Int.gcd]
    rw [e]
    exact ⟨Nat.gcd_pos_of_pos_right _ hd, Nat.gcd_le_right _ hd⟩
  obtain ⟨p1, l1⟩ := gd x.num y.den y.den_pos
  obtain ⟨p2, l2⟩ := gd y.num x.den x.den_pos
  have d1 : DivOk ((Int.gcd x.num y.den : Nat) : Int) := DivOk.of (b := 4000) (by omega) (by simpa using Nat.lt_of_le_of_lt l1 hy.2)
  have d2 : DivOk ((Int.gcd y.num x.den : Nat) : Int) := DivOk.of (b := 4000) (by omega) (by simpa using Nat.lt_of_le_of_lt l2 hx.2)
  have ab : ∀ (n : Int) (g : Nat), (n / (g : Int)).natAbs ≤ n.natAbs := fun n g => Int.natAbs_ediv_le_natAbs n g
  have k1 : MulOk (x.num / ((Int.gcd x.num y.den : Nat) : Int)) (y.num / ((Int.gcd y.num x.den : Nat) : Int)) := MulOk.of (a := 4000) (b := 4000) (Nat.lt_of_le_of_lt (ab _ _) hx.1) (Nat.lt_of_le_of_lt (ab _ _) hy.1)
  have k2 : MulOk ((x.den : Int) / ((Int.gcd y.num x.den : Nat) : Int)) ((y.den : Int) / ((Int.gcd x.num y.den : Nat) : Int)) := MulOk.of (a := 4000) (b := 4000) (Nat.lt_of_le_of_lt (ab _ _) (by simpa using hx.2)) (Nat.lt_of_le_of_lt (ab _ _) (by simpa using hy.2))
  simp -implicitDefEqProofs only [den_times, sSeq_ap, sAsg_ap, sPar_ap, sRet_ap, sIf_ap, sExpr_ap, sNext_ap, bnd_ap, ret_ap, bindR_ok, thenR_ok, dVar_ap, varR_ok, seqR_nx, seqR_rt, asgR_ok, gNm_ap, gCn_ap, gcnR_ok, gNl_ap, gTp_fr, gTp_ap, gLs_ap, dCons_ap, dNil_ap, asB_ap, dOr_ap, dAnd_ap, dNot_ap, dAndV_ap, dOrV_ap, dNotV_ap, dIf_ap, oAdd_int, oSub_int, oLt_int, oLe_int, oGt_int, oGe_int, oNeg_int, oEq_int, oNe_int, oEq_fr, oNe_fr, oEq_bl, oNe_bl, oTup_ap, oLst_ap, oCall_ap, oAbs_ap, oMax_ap, oMin_ap, oToInt_b, oToInt_i, oLen_lst, oLen_scr, oLen_tup, oIx_lst, oIx_scr, oAdd_lst, oIx_tup, oIx_fr0, oIx_fr1, ixR_ok, oItL_ap, oItT_ap, sFor_ap, startD, List.map_cons, List.map_nil, List.length_cons, List.length_nil, List.replicate_succ, List.replicate_zero, List.cons_append, List.nil_append, List.append_nil, List.getElem?_cons_zero, List.getElem?_cons_succ, List.set_cons_zero, List.set_cons_succ, Nat.reduceAdd, Nat.reduceSub, Nat.sub_self, Nat.reduceLeDiff, List.all_cons, List.all_nil, np_fr, np_int, np_bl, np_tup, np_lst, np_str, np_non, Bool.and_self, Bool.and_true, if_true_, if_false_, zero_add', if_tt, if_ff, decide_true, decide_false, Nat.le_refl, oItS_lst, oItS_tup, oTupOf_lst, oTupOf_tup, oLstOf_lst, oLstOf_tup, oRv_lst, oRv_tup, oAdd_tup, dChain_ap, asTru_bl, asTru_tup, asTru_lst, oIsN_ap, oNotN_ap, asI_ap, oSl_tup, oSl_lst, oZip_tup, oZip_lst, oAddI_ap, oEqS_ap, oNeS_ap, oNe_nil, common_eq, oDiv_int d1, oDiv_int d2, fdiv_nat, oMul_int k1, oMul_int k2]
  congr
  · exact m1.symm
  · rw [m2]; push_cast; rfl
/-- less -/
theorem fr_neg (y : Rat) : D.tup [.int (-y.num), .int (y.den : Int)] = frQ (-y) := by
  unfold frQ
  rw [Rat.neg_num, Rat.neg_den]
theorem Bd.neg {n : Nat} {q : Rat} (h : Bd n q) : Bd n (-q) := by
  unfold Bd
  rw [Rat.neg_num, Rat.neg_den, Int.natAbs_neg]
  exact h
/-- over -/
theorem inv_fr {y : Rat} : (0 < y.num → D.tup [.int (y.den : Int), .int y.num] = frQ y⁻¹) ∧ (y.num < 0 → D.tup [.int (-(y.den : Int)), .int (-y.num)] = frQ y⁻¹) := by
  have e : y⁻¹ = Rat.inv y := rfl
  constructor
  · intro h
    rw [e]
    unfold Rat.inv frQ
    rw [dif_neg (by omega), dif_pos h]
    simp only
    congr
    omega
  · intro h
    rw [e]
    unfold Rat.inv frQ
    rw [dif_pos h]
    simp only
    congr
    omega
theorem Bd.inv {n : Nat} {q : Rat} (h : Bd n q) : Bd n q⁻¹ := by
  have e : q⁻¹ = Rat.inv q := rfl
  rw [e]
  unfold Rat.inv
  split
  · refine ⟨?_, h.1⟩
    show (-(q.den : Int)).natAbs < _
    rw [Int.natAbs_neg]
    exact h.2
  · split
    · exact ⟨h.2, h.1⟩
    · exact h
theorem num_ne {y : Rat} (h : y ≠ 0) : y.num ≠ 0 := fun z => h (Rat.num_eq_zero.mp z)
theorem isless_eq {x y : Rat} (hx : Bd 4000 x) (hy : Bd 4000 y) (M : Mem) : F_is_less [frQ x, frQ y] M = some (.ok (.bl (decide (x < y))), M) := by
  refine runF_pure ?_ rfl
  have k1 : MulOk x.num (y.den : Int) := MulOk.of (a := 4000) (b := 4000) hx.1 (den_nat_lt hy)
  have k2 : MulOk y.num (x.den : Int) := MulOk.of (a := 4000) (b := 4000) hy.1 (den_nat_lt hx)
  simp -implicitDefEqProofs only [den_is_less, sSeq_ap, sAsg_ap, sPar_ap, sRet_ap, sIf_ap, sExpr_ap, sNext_ap, bnd_ap, ret_ap, bindR_ok, thenR_ok, dVar_ap, varR_ok, seqR_nx, seqR_rt, asgR_ok, gNm_ap, gCn_ap, gcnR_ok, gNl_ap, gTp_fr, gTp_ap, gLs_ap, dCons_ap, dNil_ap, asB_ap, dOr_ap, dAnd_ap, dNot_ap, dAndV_ap, dOrV_ap, dNotV_ap, dIf_ap, oAdd_int, oSub_int, oLt_int, oLe_int, oGt_int, oGe_int, oNeg_int, oEq_int, oNe_int, oEq_fr, oNe_fr, oEq_bl, oNe_bl, oTup_ap, oLst_ap, oCall_ap, oAbs_ap, oMax_ap, oMin_ap, oToInt_b, oToInt_i, oLen_lst, oLen_scr, oLen_tup, oIx_lst, oIx_scr, oAdd_lst, oIx_tup, oIx_fr0, oIx_fr1, ixR_ok, oItL_ap, oItT_ap, sFor_ap, startD, List.map_cons, List.map_nil, List.length_cons, List.length_nil, List.replicate_succ, List.replicate_zero, List.cons_append, List.nil_append, List.append_nil, List.getElem?_cons_zero, List.getElem?_cons_succ, List.set_cons_zero, List.set_cons_succ, Nat.reduceAdd, Nat.reduceSub, Nat.sub_self, Nat.reduceLeDiff, List.all_cons, List.all_nil, np_fr, np_int, np_bl, np_tup, np_lst, np_str, np_non, Bool.and_self, Bool.and_true, if_true_, if_false_, zero_add', if_tt, if_ff, decide_true, decide_false, Nat.le_refl, oItS_lst, oItS_tup, oTupOf_lst, oTupOf_tup, oLstOf_lst, oLstOf_tup, oRv_lst, oRv_tup, oAdd_tup, dChain_ap, asTru_bl, asTru_tup, asTru_lst, oIsN_ap, oNotN_ap, asI_ap, oSl_tup, oSl_lst, oZip_tup, oZip_lst, oAddI_ap, oEqS_ap, oNeS_ap, oNe_nil, oMul_int k1, oMul_int k2, Rat.lt_iff]
/-! sizes -/
theorem bd_of {q : Rat} {N : Int} {Dn n : Nat} (hD : Dn ≠ 0) (e : q = mkRat N Dn) (hN : N.natAbs < 2 ^ n) (hDn : Dn < 2 ^ n) : Bd n q := by
  subst e
  rw [← Rat.normalize_eq_mkRat hD, Rat.normalize_eq]
  refine ⟨?_, ?_⟩
  · exact Nat.lt_of_le_of_lt (Int.natAbs_ediv_le_natAbs _ _) hN
  · exact nat_div_lt hDn
theorem mul_lt_pow {a b m n : Nat} (ha : a < 2 ^ m) (hb : b < 2 ^ n) : a * b < 2 ^ (m + n) := by
  rw [Nat.pow_add]; exact Nat.mul_lt_mul'' ha hb
theorem Bd.add {m n : Nat} {x y : Rat} (hx : Bd m x) (hy : Bd n y) : Bd (m + n + 1) (x + y) := by
  refine bd_of (Nat.ne_of_gt (Nat.mul_pos x.den_pos y.den_pos)) (by rw [Rat.add_def, Rat.normalize_eq_mkRat]) ?_ ?_
  · have h1 := mul_lt_pow hx.1 hy.2
    have h2 := mul_lt_pow hy.1 hx.2
    rw [Nat.add_comm n m] at h2
    have e1 : (x.num * (y.den : Int)).natAbs = x.num.natAbs * y.den := by rw [Int.natAbs_mul, Int.natAbs_natCast]
    have e2 : (y.num * (x.den : Int)).natAbs = y.num.natAbs * x.den := by rw [Int.natAbs_mul, Int.natAbs_natCast]
    have := Int.natAbs_add_le (x.num * (y.den : Int)) (y.num * (x.den : Int))
    rw [Nat.pow_succ]
    omega
  · have h3 := mul_lt_pow hx.2 hy.2
    exact nat_lt_pow _ h3 (by omega)
theorem Bd.mul {m n : Nat} {x y : Rat} (hx : Bd m x) (hy : Bd n y) : Bd (m + n) (x * y) := by
  refine bd_of (Nat.ne_of_gt (Nat.mul_pos x.den_pos y.den_pos)) (by rw [Rat.mul_def, Rat.normalize_eq_mkRat]) ?_ ?_
  · rw [Int.natAbs_mul]; exact mul_lt_pow hx.1 hy.1
  · exact mul_lt_pow hx.2 hy.2
theorem Bd.sub {m n : Nat} {x y : Rat} (hx : Bd m x) (hy : Bd n y) : Bd (m + n + 1) (x - y) := by
  rw [Rat.sub_eq_add_neg]; exact hx.add hy.neg
theorem Bd.div {m n : Nat} {x y : Rat} (hx : Bd m x) (hy : Bd n y) : Bd (m + n) (x / y) := by
  rw [Rat.div_def]; exact hx.mul hy.inv
/-! _law_low -/
theorem divInt_cross (t b : Int) (hb : b ≠ 0) : (Rat.divInt t b).num * b = t * ((Rat.divInt t b).den : Int) := by
  have h := Rat.num_divInt_den (Rat.divInt t b)
  rw [Rat.divInt_eq_divInt_iff (by have := (Rat.divInt t b).den_pos; omega) hb] at h
  exact h
theorem low_math {t b by' : Int} (hb : b ≠ 0) (e : by' = (Int.gcd t b : Int) * (if b < 0 then -1 else 1)) : D.tup [.int (t.fdiv by'), .int (b.fdiv by')] = frQ (Rat.divInt t b) := by
  have gp : 0 < Int.gcd t b := Int.gcd_pos_of_ne_zero_right t hb
  obtain ⟨t', ht⟩ : ((Int.gcd t b : Nat) : Int) ∣ t := Int.gcd_dvd_left ..
  obtain ⟨b', hb'⟩ : ((Int.gcd t b : Nat) : Int) ∣ b := Int.gcd_dvd_right ..
  have cop : Int.gcd t' b' = 1 := by
    have h := Int.gcd_mul_left ((Int.gcd t b : Nat) : Int) t' b'
    rw [← ht, ← hb', Int.natAbs_natCast] at h
    have h2 : Int.gcd t b * Int.gcd t' b' = Int.gcd t b * 1 := by rw [Nat.mul_one]; exact h.symm
    exact Nat.eq_of_mul_eq_mul_left gp h2
  have cr := divInt_cross t b hb
  generalize hg : ((Int.gcd t b : Nat) : Int) = g at *
  have gp' : 0 < g := by omega
  have s : ∃ s : Int, (s = 1 ∨ s = -1) ∧ by' = g * s ∧ 0 < b' * s := by
    split at e
    · rename_i h
      refine ⟨-1, .inr rfl, e, ?_⟩
      have : b' < 0 := by
        rcases Int.lt_or_le b' 0 with q | q
        · exact q
        · have := Int.mul_nonneg (Int.le_of_lt gp') q; omega
      omega
    · rename_i h
      refine ⟨1, .inl rfl, e, ?_⟩
      have : 0 < b' := by
        rcases Int.lt_or_le 0 b' with q | q
        · exact q
        · have h2 : g * b' ≤ 0 := Int.mul_nonpos_of_nonneg_of_nonpos (Int.le_of_lt gp') q
          omega
      omega
  obtain ⟨s, hs, e2, pb⟩ := s
  have q : ∀ z : Int, (g * z).fdiv (g * s) = z * s := fun z => by
    have : g * z = (z * s) * (g * s) := by rcases hs with h | h <;> subst h <;> grind
    rw [this]
    refine Int.mul_fdiv_cancel _ ?_
    rcases hs with h | h <;> subst h <;> omega
  have e3 : t.fdiv by' = t' * s := by rw [e2]; conv => lhs; lhs; rw [ht]
                                      exact q t'
  have e4 : b.fdiv by' = b' * s := by rw [e2]; conv => lhs; lhs; rw [hb']
                                      exact q b'
  rw [e3, e4]
  refine fr_of pb ?_ ?_
  · rcases hs with h | h <;> subst h <;> simp [cop]
  · refine Int.eq_of_mul_eq_mul_left (a := g) (by omega) ?_
    have c2 : (Rat.divInt t b).num * (g * b') = g * t' * ((Rat.divInt t b).den : Int) := by rw [← hb', ← ht]; exact cr
    grind
theorem bd_divInt {t b : Int} {n : Nat} (hb : b ≠ 0) (ht : t.natAbs < 2 ^ n) (hs : b.natAbs < 2 ^ n) : Bd n (Rat.divInt t b) := by
  rcases Int.lt_or_gt_of_ne hb with h | h
  · have e : Rat.divInt t b = mkRat (-t) b.natAbs := by
      have : -b = ((b.natAbs : Nat) : Int) := by omega
      rw [← Rat.neg_divInt_neg t b, this, Rat.divInt_ofNat]
    exact bd_of (by omega) e (by omega) (by omega)
  · have e : Rat.divInt t b = mkRat t b.natAbs := by
      have : b = ((b.natAbs : Nat) : Int) := by omega
      conv => lhs; rw [this]
      rw [Rat.divInt_ofNat]
    exact bd_of (by omega) e ht hs
/-! the reel -/
/-- at n a reel that was drawn of at most c times -/
def HasReel (c n : Nat) (M : Mem) : Prop := ∃ a r t : Int, M[n]? = some (some [.int a, .int r, .int t]) ∧ 0 ≤ a ∧ 0 ≤ r ∧ r < 2 ^ 40 ∧ 0 ≤ t ∧ t ≤ c
/-- all else stays -/
structure Turned (c n : Nat) (M M' : Mem) : Prop where
  len : M'.length = M.length
  oth : ∀ j, j ≠ n → M'[j]? = M[j]?
  has : HasReel c n M'
theorem Turned.trans {c c' n : Nat} {M M1 M2 : Mem} (a : Turned c n M M1) (b : Turned c' n M1 M2) : Turned c' n M M2 := ⟨b.len.trans a.len, fun j h => (b.oth j h).trans (a.oth j h), b.has⟩
theorem HasReel.mono {c c' n : Nat} {M : Mem} (h : HasReel c n M) (l : c ≤ c') : HasReel c' n M := by
  obtain ⟨a, r, t, e, h1, h2, h3, h4, h5⟩ := h
  exact ⟨a, r, t, e, h1, h2, h3, h4, by omega⟩
theorem Turned.mono {c c' n : Nat} {M M1 : Mem} (a : Turned c n M M1) (l : c ≤ c') : Turned c' n M M1 := ⟨a.len, a.oth, a.has.mono l⟩
theorem HasReel.self {c n : Nat} {M : Mem} (h : HasReel c n M) : Turned c n M M := ⟨rfl, fun _ _ => rfl, h⟩
theorem HasReel.lt {c n : Nat} {M : Mem} (h : HasReel c n M) : n < M.length := by
  obtain ⟨a, r, t, e, _⟩ := h
  rcases Nat.lt_or_ge n M.length with q | q
  · exact q
  · rw [List.getElem?_eq_none q] at e; cases e
theorem atI_mem {α : Type} {l : List α} {i : Int} (h0 : 0 ≤ i) (h : i < l.length) : ∃ d, atI l i = some d ∧ d ∈ l := by
  obtain ⟨j, rfl⟩ : ∃ j : Nat, i = j := ⟨i.toNat, by omega⟩
  have hj : j < l.length := by omega
  exact ⟨l[j], by rw [atI_nat', List.getElem?_eq_getElem hj], List.getElem_mem hj⟩
theorem atI3_0 {α : Type} (x y z : α) : atI [x, y, z] 0 = some x := rfl
theorem atI3_1 {α : Type} (x y z : α) : atI [x, y, z] 1 = some y := rfl
theorem atI3_2 {α : Type} (x y z : α) : atI [x, y, z] 2 = some z := rfl
theorem ixN3_0 : ixN 3 0 = some 0 := rfl
theorem ixN3_2 : ixN 3 2 = some 2 := rfl
theorem fmod_pos {i m : Int} (h : 0 < m) : 0 ≤ i.fmod m ∧ i.fmod m < m := ⟨Int.fmod_nonneg_of_pos i h, Int.fmod_lt_of_pos i h⟩
theorem prime_at {i : Int} (h0 : 0 ≤ i) (h : i < 7) : ∃ p : Int, atI [D.int 2147483587, .int 2147483579, .int 2147483563, .int 2147483549, .int 2147483543, .int 2147483497, .int 2147483489] i = some (.int p) ∧ 0 < p ∧ p < 2 ^ 31 := by
  obtain ⟨d, e, m⟩ := atI_mem (l := [D.int 2147483587, .int 2147483579, .int 2147483563, .int 2147483549, .int 2147483543, .int 2147483497, .int 2147483489]) h0 h
  simp -implicitDefEqProofs only [List.mem_cons, List.not_mem_nil, or_false] at m
  rcases m with m | m | m | m | m | m | m <;> subst m <;> exact ⟨_, e, by decide, by decide⟩
theorem natAbs_lt_of {x : Int} {k : Nat} (h0 : 0 ≤ x) (h : x < 2 ^ k) : x.natAbs < 2 ^ k := by
  have : (x.natAbs : Int) = x := by omega
  have h2 : (x.natAbs : Int) < ((2 ^ k : Nat) : Int) := by rw [this]; push_cast; exact h
  exact_mod_cast h2
theorem runF1 {N : List Str} {fb : Sv} {ds es : List D} {M : Mem} (h : fb (startD N ds) M = some (.rt (.ptr M.length), M ++ [some es])) : runF 1 N fb ds M = some (.ok (.ptr M.length), M ++ [some es]) := by
  unfold runF
  rw [h]
  dsimp only
  rw [if_pos ⟨by simp, by unfold D.ptLt; simp⟩, List.take_of_length_le (by simp)]
theorem oNew3 (x y z : Int) (ρ : Env) (M : Mem) : oNew [.int x, .int y, .int z] ρ M = some (.ok (.ptr M.length), M ++ [some [.int x, .int y, .int z]]) := rfl
theorem pow10_18 (ρ : Env) (M : Mem) : oPow (.int 10) (.int 18) ρ M = some (.ok (.int (10 ^ 18)), M) := rfl
theorem pow10_6 (ρ : Env) (M : Mem) : oPow (.int 10) (.int 6) ρ M = some (.ok (.int (10 ^ 6)), M) := rfl
theorem atI_lit {l : List D} {i : Int} {P : Int → Prop} (h0 : 0 ≤ i) (h : i < l.length) (hP : ∀ d ∈ l, ∃ k, d = .int k ∧ P k) : ∃ k, atI l i = some (.int k) ∧ P k := by
  obtain ⟨d, e, m⟩ := atI_mem h0 h
  obtain ⟨k, rfl, hk⟩ := hP d m
  exact ⟨k, e, hk⟩
/-! a comprehension that draws -/
theorem lc_reel {b : Tg} {te : Ev D} {n n0 : Nat} {ρw : Env} {P : D → Prop} {s : Nat} (hb : ∀ d, ∃ ρ1, b d ρw = some ρ1 ∧ ∀ c M, HasReel c n M → c < 2 ^ 29 → ∃ y M2, te ρ1 M = some (.ok y, M2) ∧ y.np = true ∧ P y ∧ Turned (c + s) n M M2) (hne : n ≠ n0) :
    ∀ (ds : List D) (c : Nat) (M : Mem) (acc : List D), HasReel c n M → c + s * ds.length < 2 ^ 29 → M[n0]? = some (some acc) → acc.length + ds.length ≤ 1000 →
      ∃ ys M', lcGo b (ret true) te n0 ρw ds M = some M' ∧ M'.length = M.length ∧ (∀ j, j ≠ n → j ≠ n0 → M'[j]? = M[j]?) ∧ HasReel (c + s * ds.length) n M' ∧ M'[n0]? = some (some (acc ++ ys)) ∧ ys.length = ds.length ∧ ∀ y ∈ ys, P y
  | [], c, M, acc, hr, hc, hM, hl => ⟨[], M, rfl, rfl, fun _ _ _ => rfl, by simpa using hr, by simpa using hM, rfl, by simp⟩
  | d :: ds, c, M, acc, hr, hc, hM, hl => by
    obtain ⟨ρ1, e1, h1⟩ := hb d
    rw [List.length_cons, Nat.mul_succ] at hc
    rw [List.length_cons] at hl
    obtain ⟨y, M2, e2, hy, py, tn⟩ := h1 c M hr (by omega)
    have hM2 : M2[n0]? = some (some acc) := by rw [tn.oth n0 (Ne.symm hne)]; exact hM
    have hn0 : n0 < M2.length := by
      rcases Nat.lt_or_ge n0 M2.length with q | q
      · exact q
      · rw [List.getElem?_eq_none q] at hM2; cases hM2
    have hr2 : HasReel (c + s) n (M2.set n0 (some (acc ++ [y]))) := by
      obtain ⟨a, r, t, e, rest⟩ := tn.has
      exact ⟨a, r, t, by rw [List.getElem?_set_ne (Ne.symm hne)]; exact e, rest⟩
    obtain ⟨ys, M', g1, g2, g3, g4, g5, g6, g7⟩ := lc_reel hb hne ds (c + s) (M2.set n0 (some (acc ++ [y]))) (acc ++ [y]) hr2 (by omega) (List.getElem?_set_self hn0) (by simp; omega)
    refine ⟨y :: ys, M', ?_, by rw [g2, List.length_set, tn.len], fun j a b => by rw [g3 j a b, List.getElem?_set_ne (Ne.symm b), tn.oth j a], ?_, by rw [g5, List.append_assoc]; rfl, by simp [g6], ?_⟩
    · unfold lcGo
      rw [e1]
      dsimp only
      rw [ret_ap]
      dsimp only
      rw [e2]
      dsimp only
      rw [hM2]
      dsimp only
      rw [if_pos ⟨hy, by omega⟩]
      exact g1
    · rw [List.length_cons, Nat.mul_succ]
      have : c + s + s * ds.length = c + (s * ds.length + s) := by omega
      rw [← this]; exact g4
    · intro z hz
      rcases List.mem_cons.mp hz with rfl | hz
      · exact py
      · exact g7 z hz
theorem oLc_reel {b : Tg} {te : Ev D} {n : Nat} {ρ : Env} {vs : List Nat} {P : D → Prop} {s c : Nat} {ds : List D} {M : Mem} (hb : ∀ d, ∃ ρ1, b d (wipeD ρ vs) = some ρ1 ∧ ∀ c M, HasReel c n M → c < 2 ^ 29 → ∃ y M2, te ρ1 M = some (.ok y, M2) ∧ y.np = true ∧ P y ∧ Turned (c + s) n M M2)
    (hr : HasReel c n M) (hc : c + s * ds.length < 2 ^ 29) (hl : ds.length ≤ 1000) : ∃ ys M', oLc b (ret true) te vs ds ρ M = some (.ok (.lst ys), M') ∧ Turned (c + s * ds.length) n M M' ∧ ys.length = ds.length ∧ ∀ y ∈ ys, P y := by
  have hn := hr.lt
  have hr0 : HasReel c n (M ++ [some []]) := by
    obtain ⟨a, r, t, e, rest⟩ := hr
    exact ⟨a, r, t, by rw [List.getElem?_append_left hn]; exact e, rest⟩
  obtain ⟨ys, M', g1, g2, g3, g4, g5, g6, g7⟩ := lc_reel hb (Nat.ne_of_lt hn) ds c (M ++ [some []]) [] hr0 hc (by rw [List.getElem?_append_right (Nat.le_refl _), Nat.sub_self]; rfl) (by simpa using hl)
  have hl2 : M'.length = M.length + 1 := by rw [g2]; simp
  refine ⟨ys, M'.take M.length, ?_, ⟨by rw [List.length_take]; omega, fun j hj => ?_, ?_⟩, g6, g7⟩
  · unfold oLc
    rw [g1]
    dsimp only
    unfold lcEnd
    rw [g5]
    dsimp only
    rw [if_pos hl2]
    rfl
  · by_cases hj2 : j < M.length
    · rw [List.getElem?_take_of_lt hj2, g3 j hj (by omega), List.getElem?_append_left hj2]
    · rw [List.getElem?_eq_none (by rw [List.length_take]; omega), List.getElem?_eq_none (by omega)]
  · obtain ⟨a, r, t, e, rest⟩ := g4
    exact ⟨a, r, t, by rw [List.getElem?_take_of_lt hn]; exact e, rest⟩
theorem small_lt (m : Int) (h0 : 0 ≤ m) (h : m < 2 ^ 64) : m.natAbs < 2 ^ 4000 := nat_lt_pow 4000 (natAbs_lt_of (k := 64) h0 h) (by decide)
theorem law_m (ns : List Int) : ∃ m : Nat, m < 64 ∧ (if (if (ns.length : Int) < 63 then (ns.length : Int) else 63) > 2 then (if (ns.length : Int) < 63 then (ns.length : Int) else 63) else 2) = (m : Int) := by
  by_cases h1 : (ns.length : Int) < 63
  · rw [if_pos h1]
    by_cases h2 : (ns.length : Int) > 2
    · rw [if_pos h2]; exact ⟨ns.length, by omega, rfl⟩
    · rw [if_neg h2]; exact ⟨2, by decide, rfl⟩
  · rw [if_neg h1, if_pos (by decide)]; exact ⟨63, by decide, rfl⟩
theorem law_rng {m : Nat} (hm1 : m < 64) (ρ : Env) (M : Mem) : oRng1 [.int (m : Int)] ρ M = some (.ok ((List.range m).map fun (i : Nat) => D.int (i : Int)), M) := by
  rw [oRng1_ap _ _ _ (by omega) (by omega), Int.toNat_natCast]
theorem small_lt' (m : Int) (h : m.natAbs < 2 ^ 64) : m.natAbs < 2 ^ 4000 := nat_lt_pow 4000 h (by decide)
/-! a comprehension whose parts are pure -/
theorem lcGo_pf {b : Tg} {tt : Ev Bool} {te : Ev D} {n0 : Nat} {ρw : Env} {p : D → Bool} {g : D → D} : ∀ (ds : List D) (M : Mem) (acc : List D), (∀ d ∈ ds, ∃ ρ1, b d ρw = some ρ1 ∧ (∀ M, tt ρ1 M = some (.ok (p d), M)) ∧ (p d = true → (g d).np = true ∧ ∀ M, te ρ1 M = some (.ok (g d), M))) → M[n0]? = some (some acc) → acc.length + ds.length ≤ 100000 →
    ∃ M', lcGo b tt te n0 ρw ds M = some M' ∧ M' = M.set n0 (some (acc ++ (ds.filter p).map g))
  | [], M, acc, h, hM, hl => by
    refine ⟨M, rfl, ?_⟩
    have hn : n0 < M.length := by
      rcases Nat.lt_or_ge n0 M.length with q | q
      · exact q
      · rw [List.getElem?_eq_none q] at hM; cases hM
    rw [List.getElem?_eq_getElem hn] at hM
    have e := Option.some.inj hM
    rw [List.filter_nil, List.map_nil, List.append_nil, ← e]
    exact (List.set_getElem_self hn).symm
  | d :: ds, M, acc, h, hM, hl => by
    obtain ⟨ρ1, e1, e2, e3⟩ := h d (by simp)
    rw [List.length_cons] at hl
    have hn : n0 < M.length := by
      rcases Nat.lt_or_ge n0 M.length with q | q
      · exact q
      · rw [List.getElem?_eq_none q] at hM; cases hM
    cases hp : p d with
    | true =>
      obtain ⟨e4, e5⟩ := e3 hp
      obtain ⟨M', g1, g2⟩ := lcGo_pf (p := p) (g := g) ds (M.set n0 (some (acc ++ [g d]))) (acc ++ [g d]) (fun x hx => h x (by simp [hx])) (List.getElem?_set_self hn) (by simp; omega)
      refine ⟨M', ?_, ?_⟩
      · unfold lcGo
        rw [e1]
        dsimp only
        rw [e2, hp]
        dsimp only
        rw [e5]
        dsimp only
        rw [hM]
        dsimp only
        rw [if_pos ⟨e4, by omega⟩]
        exact g1
      · rw [g2, List.set_set, List.filter_cons_of_pos hp, List.map_cons, List.append_assoc]; rfl
    | false =>
      obtain ⟨M', g1, g2⟩ := lcGo_pf (p := p) (g := g) ds M acc (fun x hx => h x (by simp [hx])) hM (by omega)
      refine ⟨M', ?_, ?_⟩
      · unfold lcGo
        rw [e1]
        dsimp only
        rw [e2, hp]
        exact g1
      · rw [g2, List.filter_cons_of_neg (by simp [hp])]
theorem oLc_pf {b : Tg} {tt : Ev Bool} {te : Ev D} {ρ : Env} {vs : List Nat} {p : D → Bool} {g : D → D} {ds : List D} {M : Mem} (h : ∀ d ∈ ds, ∃ ρ1, b d (wipeD ρ vs) = some ρ1 ∧ (∀ M, tt ρ1 M = some (.ok (p d), M)) ∧ (p d = true → (g d).np = true ∧ ∀ M, te ρ1 M = some (.ok (g d), M))) (hl : ds.length ≤ 100000) : oLc b tt te vs ds ρ M = some (.ok (.lst ((ds.filter p).map g)), M) := by
  obtain ⟨M', g1, g2⟩ := lcGo_pf (n0 := M.length) ds (M ++ [some []]) [] h (by rw [List.getElem?_append_right (Nat.le_refl _), Nat.sub_self]; rfl) (by simpa using hl)
  unfold oLc
  rw [g1]
  dsimp only
  unfold lcEnd
  have e : M'[M.length]? = some (some ((ds.filter p).map g)) := by
    rw [g2, List.getElem?_set_self (by simp)]; simp
  rw [e]
  dsimp only
  have hl2 : M'.length = M.length + 1 := by rw [g2]; simp
  rw [if_pos hl2, g2, List.take_set_of_le (Nat.le_refl _), List.take_left]
/-! the drawn layers -/
theorem run_t {N : List Str} {fb : Sv} {ds : List D} {M M2 : Mem} {d : D} {c n : Nat} (h : fb (startD N ds) M = some (.rt d, M2)) (t : Turned c n M M2) (hp : d.np = true) : runF 0 N fb ds M = some (.ok d, M2) := by
  rw [runF_rt h (by rw [t.len]; exact Nat.le_refl _) hp, List.take_of_length_le (by rw [t.len]; exact Nat.le_refl _)]
theorem divInt_pos {a b : Int} (ha : 0 < a) (hb : 0 < b) : 0 < Rat.divInt a b := by
  rw [Rat.divInt_eq_div, Rat.div_def]
  exact Rat.mul_pos (Rat.intCast_pos.mpr ha) (Rat.inv_pos.mpr (Rat.intCast_pos.mpr hb))
theorem divInt_nn {a b : Int} (ha : 0 ≤ a) (hb : 0 ≤ b) : 0 ≤ Rat.divInt a b := Rat.divInt_nonneg ha hb
theorem coprime_full : ∀ a ∈ [7, 101, 499, 997, (1 : Int)], ∀ b ∈ [11, 89, 503, 991, (1000 : Int)], Int.gcd a b = 1 := by decide
/-- a full strength -/
structure FullOk (f : Rat) : Prop where
  pos : 0 < f
  bd : Bd 10 f
  low : 1 ≤ 1000 * f
theorem atI_int {l : List Int} {i : Int} (h0 : 0 ≤ i) (h : i < l.length) : ∃ k, atI (l.map D.int) i = some (.int k) ∧ k ∈ l := by
  obtain ⟨d, e, m⟩ := atI_mem (l := l.map D.int) h0 (by simpa using h)
  obtain ⟨k, hk, rfl⟩ := List.mem_map.mp m
  exact ⟨k, e, hk⟩
theorem low_of {a b : Int} (h : Int.gcd a b = 1) (hb : 0 < b) : D.tup [.int a, .int b] = frQ (Rat.divInt a b) := fr_of hb h (by
  have := divInt_cross a b (by omega)
  exact this.symm)
theorem divInt_ge {a b : Int} (ha : 1 ≤ a) (hb : 0 < b) (hb2 : b ≤ 1000) : 1 ≤ 1000 * Rat.divInt a b := by
  rw [Rat.divInt_eq_div]
  have hb' : (0 : Rat) < (b : Rat) := Rat.intCast_pos.mpr hb
  have e : (1000 : Rat) * ((a : Rat) / (b : Rat)) = (1000 * a) / b := by rw [Rat.div_def, Rat.div_def, Rat.mul_assoc]
  rw [e]
  refine Rat.le_of_mul_le_mul_right (c := (b : Rat)) ?_ hb'
  rw [Rat.div_mul_cancel (fun z => by rw [z] at hb'; exact absurd hb' Rat.lt_irrefl), Rat.one_mul]
  have : b ≤ 1000 * a := by omega
  have h2 : ((b : Int) : Rat) ≤ ((1000 * a : Int) : Rat) := Rat.intCast_le_intCast.mpr this
  rw [Rat.intCast_mul] at h2
  exact h2
theorem int_fr (i : Int) : D.tup [.int i, .int 1] = frQ (i : Rat) := rfl
theorem bd_int {i : Int} {n : Nat} (h : i.natAbs < 2 ^ n) (hn : 0 < n) : Bd n (i : Rat) := ⟨h, by show 1 < 2 ^ n; exact Nat.one_lt_two_pow (by omega)⟩
/-! a layer -/
def lyQ (p : Rat × Rat) : D := .tup [frQ p.1, frQ p.2]
structure LayOk (f : Rat) (p : Rat × Rat) : Prop where
  w : 0 ≤ p.1
  s : 0 ≤ p.2
  nz : p.1 = 0 → 0 < p.2
  le : 0 < p.1 → p.2 ≤ f * p.1
structure BdL (n : Nat) (p : Rat × Rat) : Prop where
  w : Bd n p.1
  s : Bd n p.2
theorem BdL.mono {m n : Nat} {p : Rat × Rat} (h : BdL m p) (l : m ≤ n) : BdL n p := ⟨h.w.mono l, h.s.mono l⟩
theorem zero_fr : D.tup [.int 0, .int 1] = frQ 0 := rfl
theorem one_fr : D.tup [.int 1, .int 1] = frQ 1 := rfl
theorem np_ly (p : Rat × Rat) : (lyQ p).np = true := rfl
theorem ly_fr (a b : Rat) : D.tup [frQ a, frQ b] = lyQ (a, b) := rfl
theorem div_le_div {a b N E : Int} (hb : 0 < b) (hE : 0 < E) (h : a * E ≤ N * b) : Rat.divInt a b ≤ Rat.divInt N E := by
  rw [Rat.divInt_eq_div, Rat.divInt_eq_div]
  have hb' : (0 : Rat) < (b : Rat) := Rat.intCast_pos.mpr hb
  have hE' : (0 : Rat) < (E : Rat) := Rat.intCast_pos.mpr hE
  refine Rat.le_of_mul_le_mul_right (c := (b : Rat) * (E : Rat)) ?_ (Rat.mul_pos hb' hE')
  have e1 : (a : Rat) / (b : Rat) * ((b : Rat) * (E : Rat)) = ((a * E : Int) : Rat) := by
    rw [← Rat.mul_assoc, Rat.div_mul_cancel (Rat.ne_of_gt hb'), Rat.intCast_mul]
  have e2 : (N : Rat) / (E : Rat) * ((b : Rat) * (E : Rat)) = ((N * b : Int) : Rat) := by
    rw [Rat.mul_comm (b : Rat), ← Rat.mul_assoc, Rat.div_mul_cancel (Rat.ne_of_gt hE'), Rat.intCast_mul]
  rw [e1, e2]
  exact Rat.intCast_le_intCast.mpr h
theorem mul_divInt (f q : Rat) : f * q = Rat.divInt (f.num * q.num) ((f.den : Int) * (q.den : Int)) := by
  rw [Rat.mul_def', ← Rat.divInt_ofNat]
  push_cast
  rfl
theorem le_mul {f q : Rat} {a b : Int} (hb : 0 < b) (h : a * ((f.den : Int) * (q.den : Int)) ≤ f.num * q.num * b) : Rat.divInt a b ≤ f * q := by
  rw [mul_divInt]
  exact div_le_div hb (Int.mul_pos (by have := f.den_pos; omega) (by have := q.den_pos; omega)) h
theorem num_nn {q : Rat} (h : 0 ≤ q) : 0 ≤ q.num := Rat.num_nonneg.mpr h
theorem num_pos {q : Rat} (h : 0 < q) : 0 < q.num := by
  have h1 := num_nn (Rat.le_of_lt h)
  have h2 : q.num ≠ 0 := fun z => absurd (Rat.num_eq_zero.mp z) (Rat.ne_of_gt h)
  omega
/-! rows of layers -/
theorem toPys_map {α : Type} (g : α → D) : ∀ l : List α, toPys (l.map g) = l.map fun x => toPy (g x)
  | [] => rfl
  | x :: l => by rw [List.map_cons, toPys, toPys_map g l, List.map_cons]
theorem ly_lay (p : Rat × Rat) : (toPy (lyQ p)).canLay0 = true ∧ (toPy (lyQ p)).depth ≤ 60 := ⟨rfl, by simp [lyQ, frQ, toPy, toPys, PyData.depth, PyData.depthAll]⟩
theorem shaped_lys (ps : List (Rat × Rat)) : SeqAt.shaped (.list (toPys (ps.map lyQ))) = true ∧ SeqAt.shaped (.tuple (toPys (ps.map lyQ))) = true := shaped_row (by
  simp -implicitDefEqProofs only [List.mem_map]
  rintro d ⟨q, _, rfl⟩
  exact ly_lay q)
theorem plL_lys (ps : List (Rat × Rat)) : plL (ps.map lyQ) = true := plL_of (by
  simp -implicitDefEqProofs only [List.mem_map]
  rintro d ⟨q, _, rfl⟩
  rfl)
theorem oNeM_lys {n : Nat} {ps : List (Rat × Rat)} (ρ : Env) {M : Mem} (h : M[n]? = some (some (ps.map lyQ))) : oNeM (.ptr n) (.lst []) ρ M = some (.ok (.bl (!ps.isEmpty)), M) := by
  unfold oNeM frz
  dsimp only
  rw [h]
  dsimp only
  unfold oNe
  rw [if_pos ⟨plL_lys ps, rfl, (shaped_lys ps).1, rfl⟩]
  cases ps <;> rfl
theorem all_np_ly (ps : List (Rat × Rat)) : (ps.map lyQ).all D.np = true := List.all_eq_true.mpr (by
  simp -implicitDefEqProofs only [List.mem_map]
  rintro d ⟨p, _, rfl⟩
  rfl)
theorem lys_at {ps : List (Rat × Rat)} {v : Int} (h0 : 0 ≤ v) (h : v < ps.length) : ∃ p, p ∈ ps ∧ atI (ps.map lyQ) v = some (lyQ p) := by
  obtain ⟨d, e, m⟩ := atI_mem (l := ps.map lyQ) h0 (by simpa using h)
  obtain ⟨q, hq, rfl⟩ := List.mem_map.mp m
  exact ⟨q, hq, e⟩
/-- a row at m, a reel at n -/
structure Rw (c n m : Nat) (f : Rat) (ps : List (Rat × Rat)) (M : Mem) : Prop where
  has : HasReel c n M
  lst : M[m]? = some (some (ps.map lyQ))
  ne : n ≠ m
  ok : ∀ p ∈ ps, LayOk f p ∧ BdL 34 p
theorem Rw.turn {c c' n m : Nat} {f : Rat} {ps : List (Rat × Rat)} {M M' : Mem} (g : Rw c n m f ps M) (t : Turned c' n M M') : Rw c' n m f ps M' := ⟨t.has, by rw [t.oth m (Ne.symm g.ne)]; exact g.lst, g.ne, g.ok⟩
theorem Rw.lt {c n m : Nat} {f : Rat} {ps : List (Rat × Rat)} {M : Mem} (g : Rw c n m f ps M) : m < M.length := (List.getElem?_eq_some_iff.mp g.lst).1
theorem Rw.push {c n m : Nat} {f : Rat} {ps : List (Rat × Rat)} {M : Mem} {p : Rat × Rat} (g : Rw c n m f ps M) (h : LayOk f p ∧ BdL 34 p) : Rw c n m f (ps ++ [p]) (M.set m (some (ps.map lyQ ++ [lyQ p]))) := by
  refine ⟨?_, ?_, g.ne, fun x hx => ?_⟩
  · obtain ⟨a, r, t, e, rest⟩ := g.has
    exact ⟨a, r, t, by rw [List.getElem?_set_ne (Ne.symm g.ne)]; exact e, rest⟩
  · rw [List.getElem?_set_self g.lt, List.map_append]; rfl
  · rcases List.mem_append.mp hx with z | z
    · exact g.ok x z
    · simp at z; subst z; exact h
theorem great_ok {f : Rat} (hf : FullOk f) {v : Int} (h0 : 0 ≤ v) (h : v < 3) : LayOk f (((10 ^ 6 - v : Int) : Rat), 1) ∧ BdL 34 (((10 ^ 6 - v : Int) : Rat), 1) := by
  have hw : (0 : Rat) < ((10 ^ 6 - v : Int) : Rat) := Rat.intCast_pos.mpr (by omega)
  refine ⟨⟨Rat.le_of_lt hw, show (0 : Rat) ≤ 1 by decide, fun _ => show (0 : Rat) < 1 by decide, fun _ => ?_⟩, bd_int (by omega) (by decide), show Bd 34 1 from ⟨by decide, by decide⟩⟩
  have h1 : ((1000 : Int) : Rat) ≤ ((10 ^ 6 - v : Int) : Rat) := Rat.intCast_le_intCast.mpr (by omega)
  have h2 := Rat.mul_le_mul_of_nonneg_left h1 (Rat.le_of_lt hf.pos)
  have h3 := hf.low
  rw [Rat.mul_comm] at h3
  exact Rat.le_trans h3 h2
theorem seq_step {f g : Sv} {ρ ρ1 : Env} {M M1 : Mem} (h : f ρ M = some (.nx ρ1, M1)) : sSeq f g ρ M = g ρ1 M1 := by rw [sSeq_ap, h, seqR_nx]
theorem kA1 : kitB "NoneType" "int" = some false := by decide +kernel
theorem kA2 : kitB "bool" "int" = some true := by decide +kernel
theorem kA3 : kitB "int" "int" = some true := by decide +kernel
theorem kA4 : kitB "str" "int" = some false := by decide +kernel
theorem kA5 : kitB "tuple" "int" = some false := by decide +kernel
theorem kA6 : kitB "list" "int" = some false := by decide +kernel
theorem kA7 : kitB "dict" "int" = some false := by decide +kernel
theorem kB1 : kitB "NoneType" "bool" = some false := by decide +kernel
theorem kB2 : kitB "bool" "bool" = some true := by decide +kernel
theorem kB3 : kitB "int" "bool" = some false := by decide +kernel
theorem kB4 : kitB "str" "bool" = some false := by decide +kernel
theorem kB5 : kitB "tuple" "bool" = some false := by decide +kernel
theorem kB6 : kitB "list" "bool" = some false := by decide +kernel
theorem kB7 : kitB "dict" "bool" = some false := by decide +kernel
theorem kC1 : kitB "NoneType" "tuple" = some false := by decide +kernel
theorem kC2 : kitB "bool" "tuple" = some false := by decide +kernel
theorem kC3 : kitB "int" "tuple" = some false := by decide +kernel
theorem kC4 : kitB "str" "tuple" = some false := by decide +kernel
theorem kC5 : kitB "tuple" "tuple" = some true := by decide +kernel
theorem kC6 : kitB "list" "tuple" = some false := by decide +kernel
theorem kC7 : kitB "dict" "tuple" = some false := by decide +kernel
def isI : D → Bool
  | .int _ => true
  | .bl _ => true
  | _ => false
def isBl : D → Bool
  | .bl _ => true
  | _ => false
def isT : D → Bool
  | .tup _ => true
  | _ => false
def isWh : D → Bool
  | .int _ => true
  | _ => false
theorem oIsi_int {d : D} (h : d.np = true) (tx : Str → Option Bool) (ρ : Env) (M : Mem) : oIsi (fun a => kitB a "int") tx d ρ M = some (.ok (.bl (isI d)), M) := by
  cases d <;> first | (cases h; done) | (unfold oIsi; simp -implicitDefEqProofs only [kA1, kA2, kA3, kA4, kA5, kA6, kA7, isI])
theorem oIsi_bool {d : D} (h : d.np = true) (tx : Str → Option Bool) (ρ : Env) (M : Mem) : oIsi (fun a => kitB a "bool") tx d ρ M = some (.ok (.bl (isBl d)), M) := by
  cases d <;> first | (cases h; done) | (unfold oIsi; simp -implicitDefEqProofs only [kB1, kB2, kB3, kB4, kB5, kB6, kB7, isBl])
theorem oIsi_tup {d : D} (h : d.np = true) (tx : Str → Option Bool) (ρ : Env) (M : Mem) : oIsi (fun a => kitB a "tuple") tx d ρ M = some (.ok (.bl (isT d)), M) := by
  cases d <;> first | (cases h; done) | (unfold oIsi; simp -implicitDefEqProofs only [kC1, kC2, kC3, kC4, kC5, kC6, kC7, isT])
theorem whole_ev {f : Ev D} {ρ : Env} {M : Mem} {d : D} (e : f ρ M = some (.ok d, M)) (h : d.np = true) : dAndV (bnd f (oIsi (fun a => kitB a "int") (fun _ => none))) (dNotV (bnd f (oIsi (fun a => kitB a "bool") (fun _ => none)))) ρ M = some (.ok (.bl (isWh d)), M) := by
  simp -implicitDefEqProofs only [sSeq_ap, sAsg_ap, sPar_ap, sRet_ap, sIf_ap, sExpr_ap, sNext_ap, bnd_ap, ret_ap, bindR_ok, thenR_ok, dVar_ap, varR_ok, seqR_nx, seqR_rt, asgR_ok, gNm_ap, gCn_ap, gcnR_ok, gNl_ap, gTp_fr, gTp_ap, gLs_ap, dCons_ap, dNil_ap, asB_ap, dOr_ap, dAnd_ap, dNot_ap, dAndV_ap, dOrV_ap, dNotV_ap, dIf_ap, oAdd_int, oSub_int, oLt_int, oLe_int, oGt_int, oGe_int, oNeg_int, oEq_int, oNe_int, oEq_fr, oNe_fr, oEq_bl, oNe_bl, oTup_ap, oLst_ap, oCall_ap, oAbs_ap, oMax_ap, oMin_ap, oToInt_b, oToInt_i, oLen_lst, oLen_scr, oLen_tup, oIx_lst, oIx_scr, oAdd_lst, oIx_tup, oIx_fr0, oIx_fr1, ixR_ok, oItL_ap, oItT_ap, sFor_ap, startD, List.map_cons, List.map_nil, List.length_cons, List.length_nil, List.replicate_succ, List.replicate_zero, List.cons_append, List.nil_append, List.append_nil, List.getElem?_cons_zero, List.getElem?_cons_succ, List.set_cons_zero, List.set_cons_succ, Nat.reduceAdd, Nat.reduceSub, Nat.sub_self, Nat.reduceLeDiff, List.all_cons, List.all_nil, np_fr, np_int, np_bl, np_tup, np_lst, np_str, np_non, Bool.and_self, Bool.and_true, if_true_, if_false_, zero_add', if_tt, if_ff, decide_true, decide_false, Nat.le_refl, oItS_lst, oItS_tup, oTupOf_lst, oTupOf_tup, oLstOf_lst, oLstOf_tup, oRv_lst, oRv_tup, oAdd_tup, dChain_ap, asTru_bl, asTru_tup, asTru_lst, oIsN_ap, oNotN_ap, asI_ap, oSl_tup, oSl_lst, oZip_tup, oZip_lst, oAddI_ap, oEqS_ap, oNeS_ap, oNe_nil, e, oIsi_int h, oIsi_bool h]
  cases d <;> first | rfl | (cases h; done)
theorem isWh_eq {d : D} (h : d.np = true) (M : Mem) : F_is_whole [d] M = some (.ok (.bl (isWh d)), M) := by
  refine runF_pure ?_ rfl
  have e : dVar 0 [some d] M = some (.ok d, M) := rfl
  have st : startD ["thing"] [d] = [some d] := rfl
  unfold den_is_whole
  rw [st, sRet_ap, whole_ev e h, thenR_ok]
def isF : D → Bool
  | .tup [x, y] => match x, y with
    | .int a, .int b => decide (0 < b) && decide (((Int.gcd a b : Nat) : Int) = 1)
    | _, _ => false
  | _ => false
structure Good (d : D) : Prop where
  np : d.np = true
  el : ∀ ds, d = .tup ds → ds.all D.np = true
theorem isF_len {ds : List D} (h : ds.length ≠ 2) : isF (.tup ds) = false := by
  match ds, h with
  | [], _ => rfl
  | [x], _ => rfl
  | [x, y], h => exact absurd rfl h
  | x :: y :: z :: r, _ => rfl
theorem isfr_len {ds : List D} (h : ds.length ≠ 2) (M : Mem) : F_is_fraction [.tup ds] M = some (.ok (.bl (isF (.tup ds))), M) := by
  refine runF_pure ?_ rfl
  have e : decide ((ds.length : Int) = 2) = false := decide_eq_false (by omega)
  simp -implicitDefEqProofs only [den_is_fraction, sSeq_ap, sAsg_ap, sPar_ap, sRet_ap, sIf_ap, sExpr_ap, sNext_ap, bnd_ap, ret_ap, bindR_ok, thenR_ok, dVar_ap, varR_ok, seqR_nx, seqR_rt, asgR_ok, gNm_ap, gCn_ap, gcnR_ok, gNl_ap, gTp_fr, gTp_ap, gLs_ap, dCons_ap, dNil_ap, asB_ap, dOr_ap, dAnd_ap, dNot_ap, dAndV_ap, dOrV_ap, dNotV_ap, dIf_ap, oAdd_int, oSub_int, oLt_int, oLe_int, oGt_int, oGe_int, oNeg_int, oEq_int, oNe_int, oEq_fr, oNe_fr, oEq_bl, oNe_bl, oTup_ap, oLst_ap, oCall_ap, oAbs_ap, oMax_ap, oMin_ap, oToInt_b, oToInt_i, oLen_lst, oLen_scr, oLen_tup, oIx_lst, oIx_scr, oAdd_lst, oIx_tup, oIx_fr0, oIx_fr1, ixR_ok, oItL_ap, oItT_ap, sFor_ap, startD, List.map_cons, List.map_nil, List.length_cons, List.length_nil, List.replicate_succ, List.replicate_zero, List.cons_append, List.nil_append, List.append_nil, List.getElem?_cons_zero, List.getElem?_cons_succ, List.set_cons_zero, List.set_cons_succ, Nat.reduceAdd, Nat.reduceSub, Nat.sub_self, Nat.reduceLeDiff, List.all_cons, List.all_nil, np_fr, np_int, np_bl, np_tup, np_lst, np_str, np_non, Bool.and_self, Bool.and_true, if_true_, if_false_, zero_add', if_tt, if_ff, decide_true, decide_false, Nat.le_refl, oItS_lst, oItS_tup, oTupOf_lst, oTupOf_tup, oLstOf_lst, oLstOf_tup, oRv_lst, oRv_tup, oAdd_tup, dChain_ap, asTru_bl, asTru_tup, asTru_lst, oIsN_ap, oNotN_ap, asI_ap, oSl_tup, oSl_lst, oZip_tup, oZip_lst, oAddI_ap, oEqS_ap, oNeS_ap, oNe_nil, oIsi_tup (np_tup ds), isT, e, isF_len h, Bool.not_true, Bool.not_false, Bool.false_eq_true]
theorem isfr_two {x y : D} (el : x.np = true ∧ y.np = true) (M : Mem) : F_is_fraction [.tup [x, y]] M = some (.ok (.bl (isF (.tup [x, y]))), M) := by
  refine runF_pure ?_ rfl
  have n2 : decide ((2 : Int) = 2) = true := rfl
  have l2 : ∀ ρ M, oLen [.tup [x, y]] ρ M = some (.ok (.int 2), M) := fun _ _ => rfl
  have tp : ∀ c ρ, gTp 2 c (.tup [x, y]) ρ = c [x, y] ρ := fun _ _ => rfl
  have it : ∀ ρ M, oIsi (fun a => kitB a "tuple") (fun _ => none) (.tup [x, y]) ρ M = some (.ok (.bl true), M) := fun ρ M => oIsi_tup (np_tup _) _ ρ M
  by_cases hx : isWh x = true
  · by_cases hy : isWh y = true
    · cases x <;> first | (cases hx; done) | skip
      cases y <;> first | (cases hy; done) | skip
      rename_i a b
      by_cases hb : 0 < b
      · by_cases hg : ((Int.gcd a b : Nat) : Int) = 1
        · simp -implicitDefEqProofs only [den_is_fraction, sSeq_ap, sAsg_ap, sPar_ap, sRet_ap, sIf_ap, sExpr_ap, sNext_ap, bnd_ap, ret_ap, bindR_ok, thenR_ok, dVar_ap, varR_ok, seqR_nx, seqR_rt, asgR_ok, gNm_ap, gCn_ap, gcnR_ok, gNl_ap, gTp_fr, gTp_ap, gLs_ap, dCons_ap, dNil_ap, asB_ap, dOr_ap, dAnd_ap, dNot_ap, dAndV_ap, dOrV_ap, dNotV_ap, dIf_ap, oAdd_int, oSub_int, oLt_int, oLe_int, oGt_int, oGe_int, oNeg_int, oEq_int, oNe_int, oEq_fr, oNe_fr, oEq_bl, oNe_bl, oTup_ap, oLst_ap, oCall_ap, oAbs_ap, oMax_ap, oMin_ap, oToInt_b, oToInt_i, oLen_lst, oLen_scr, oLen_tup, oIx_lst, oIx_scr, oAdd_lst, oIx_tup, oIx_fr0, oIx_fr1, ixR_ok, oItL_ap, oItT_ap, sFor_ap, startD, List.map_cons, List.map_nil, List.length_cons, List.length_nil, List.replicate_succ, List.replicate_zero, List.cons_append, List.nil_append, List.append_nil, List.getElem?_cons_zero, List.getElem?_cons_succ, List.set_cons_zero, List.set_cons_succ, Nat.reduceAdd, Nat.reduceSub, Nat.sub_self, Nat.reduceLeDiff, List.all_cons, List.all_nil, np_fr, np_int, np_bl, np_tup, np_lst, np_str, np_non, Bool.and_self, Bool.and_true, if_true_, if_false_, zero_add', if_tt, if_ff, decide_true, decide_false, Nat.le_refl, oItS_lst, oItS_tup, oTupOf_lst, oTupOf_tup, oLstOf_lst, oLstOf_tup, oRv_lst, oRv_tup, oAdd_tup, dChain_ap, asTru_bl, asTru_tup, asTru_lst, oIsN_ap, oNotN_ap, asI_ap, oSl_tup, oSl_lst, oZip_tup, oZip_lst, oAddI_ap, oEqS_ap, oNeS_ap, oNe_nil, it, l2, n2, tp, isWh_eq (np_int a), isWh_eq (np_int b), isWh, hb, common_eq, hg, isF, Bool.not_true, Bool.not_false, Bool.false_eq_true]
        · simp -implicitDefEqProofs only [den_is_fraction, sSeq_ap, sAsg_ap, sPar_ap, sRet_ap, sIf_ap, sExpr_ap, sNext_ap, bnd_ap, ret_ap, bindR_ok, thenR_ok, dVar_ap, varR_ok, seqR_nx, seqR_rt, asgR_ok, gNm_ap, gCn_ap, gcnR_ok, gNl_ap, gTp_fr, gTp_ap, gLs_ap, dCons_ap, dNil_ap, asB_ap, dOr_ap, dAnd_ap, dNot_ap, dAndV_ap, dOrV_ap, dNotV_ap, dIf_ap, oAdd_int, oSub_int, oLt_int, oLe_int, oGt_int, oGe_int, oNeg_int, oEq_int, oNe_int, oEq_fr, oNe_fr, oEq_bl, oNe_bl, oTup_ap, oLst_ap, oCall_ap, oAbs_ap, oMax_ap, oMin_ap, oToInt_b, oToInt_i, oLen_lst, oLen_scr, oLen_tup, oIx_lst, oIx_scr, oAdd_lst, oIx_tup, oIx_fr0, oIx_fr1, ixR_ok, oItL_ap, oItT_ap, sFor_ap, startD, List.map_cons, List.map_nil, List.length_cons, List.length_nil, List.replicate_succ, List.replicate_zero, List.cons_append, List.nil_append, List.append_nil, List.getElem?_cons_zero, List.getElem?_cons_succ, List.set_cons_zero, List.set_cons_succ, Nat.reduceAdd, Nat.reduceSub, Nat.sub_self, Nat.reduceLeDiff, List.all_cons, List.all_nil, np_fr, np_int, np_bl, np_tup, np_lst, np_str, np_non, Bool.and_self, Bool.and_true, if_true_, if_false_, zero_add', if_tt, if_ff, decide_true, decide_false, Nat.le_refl, oItS_lst, oItS_tup, oTupOf_lst, oTupOf_tup, oLstOf_lst, oLstOf_tup, oRv_lst, oRv_tup, oAdd_tup, dChain_ap, asTru_bl, asTru_tup, asTru_lst, oIsN_ap, oNotN_ap, asI_ap, oSl_tup, oSl_lst, oZip_tup, oZip_lst, oAddI_ap, oEqS_ap, oNeS_ap, oNe_nil, it, l2, n2, tp, isWh_eq (np_int a), isWh_eq (np_int b), isWh, hb, common_eq, hg, isF, Bool.not_true, Bool.not_false, Bool.false_eq_true, Bool.and_false]
      · simp -implicitDefEqProofs only [den_is_fraction, sSeq_ap, sAsg_ap, sPar_ap, sRet_ap, sIf_ap, sExpr_ap, sNext_ap, bnd_ap, ret_ap, bindR_ok, thenR_ok, dVar_ap, varR_ok, seqR_nx, seqR_rt, asgR_ok, gNm_ap, gCn_ap, gcnR_ok, gNl_ap, gTp_fr, gTp_ap, gLs_ap, dCons_ap, dNil_ap, asB_ap, dOr_ap, dAnd_ap, dNot_ap, dAndV_ap, dOrV_ap, dNotV_ap, dIf_ap, oAdd_int, oSub_int, oLt_int, oLe_int, oGt_int, oGe_int, oNeg_int, oEq_int, oNe_int, oEq_fr, oNe_fr, oEq_bl, oNe_bl, oTup_ap, oLst_ap, oCall_ap, oAbs_ap, oMax_ap, oMin_ap, oToInt_b, oToInt_i, oLen_lst, oLen_scr, oLen_tup, oIx_lst, oIx_scr, oAdd_lst, oIx_tup, oIx_fr0, oIx_fr1, ixR_ok, oItL_ap, oItT_ap, sFor_ap, startD, List.map_cons, List.map_nil, List.length_cons, List.length_nil, List.replicate_succ, List.replicate_zero, List.cons_append, List.nil_append, List.append_nil, List.getElem?_cons_zero, List.getElem?_cons_succ, List.set_cons_zero, List.set_cons_succ, Nat.reduceAdd, Nat.reduceSub, Nat.sub_self, Nat.reduceLeDiff, List.all_cons, List.all_nil, np_fr, np_int, np_bl, np_tup, np_lst, np_str, np_non, Bool.and_self, Bool.and_true, if_true_, if_false_, zero_add', if_tt, if_ff, decide_true, decide_false, Nat.le_refl, oItS_lst, oItS_tup, oTupOf_lst, oTupOf_tup, oLstOf_lst, oLstOf_tup, oRv_lst, oRv_tup, oAdd_tup, dChain_ap, asTru_bl, asTru_tup, asTru_lst, oIsN_ap, oNotN_ap, asI_ap, oSl_tup, oSl_lst, oZip_tup, oZip_lst, oAddI_ap, oEqS_ap, oNeS_ap, oNe_nil, it, l2, n2, tp, isWh_eq (np_int a), isWh_eq (np_int b), isWh, hb, isF, Bool.not_true, Bool.not_false, Bool.false_eq_true, Bool.false_and]
    · have hy' : isWh y = false := by simpa using hy
      have e0 : isF (.tup [x, y]) = false := by
        cases x <;> first | (cases hx; done) | skip
        cases y <;> first | rfl | exact absurd rfl hy
      simp -implicitDefEqProofs only [den_is_fraction, sSeq_ap, sAsg_ap, sPar_ap, sRet_ap, sIf_ap, sExpr_ap, sNext_ap, bnd_ap, ret_ap, bindR_ok, thenR_ok, dVar_ap, varR_ok, seqR_nx, seqR_rt, asgR_ok, gNm_ap, gCn_ap, gcnR_ok, gNl_ap, gTp_fr, gTp_ap, gLs_ap, dCons_ap, dNil_ap, asB_ap, dOr_ap, dAnd_ap, dNot_ap, dAndV_ap, dOrV_ap, dNotV_ap, dIf_ap, oAdd_int, oSub_int, oLt_int, oLe_int, oGt_int, oGe_int, oNeg_int, oEq_int, oNe_int, oEq_fr, oNe_fr, oEq_bl, oNe_bl, oTup_ap, oLst_ap, oCall_ap, oAbs_ap, oMax_ap, oMin_ap, oToInt_b, oToInt_i, oLen_lst, oLen_scr, oLen_tup, oIx_lst, oIx_scr, oAdd_lst, oIx_tup, oIx_fr0, oIx_fr1, ixR_ok, oItL_ap, oItT_ap, sFor_ap, startD, List.map_cons, List.map_nil, List.length_cons, List.length_nil, List.replicate_succ, List.replicate_zero, List.cons_append, List.nil_append, List.append_nil, List.getElem?_cons_zero, List.getElem?_cons_succ, List.set_cons_zero, List.set_cons_succ, Nat.reduceAdd, Nat.reduceSub, Nat.sub_self, Nat.reduceLeDiff, List.all_cons, List.all_nil, np_fr, np_int, np_bl, np_tup, np_lst, np_str, np_non, Bool.and_self, Bool.and_true, if_true_, if_false_, zero_add', if_tt, if_ff, decide_true, decide_false, Nat.le_refl, oItS_lst, oItS_tup, oTupOf_lst, oTupOf_tup, oLstOf_lst, oLstOf_tup, oRv_lst, oRv_tup, oAdd_tup, dChain_ap, asTru_bl, asTru_tup, asTru_lst, oIsN_ap, oNotN_ap, asI_ap, oSl_tup, oSl_lst, oZip_tup, oZip_lst, oAddI_ap, oEqS_ap, oNeS_ap, oNe_nil, it, l2, n2, tp, isWh_eq el.1, isWh_eq el.2, hx, hy', e0, Bool.not_true, Bool.not_false, Bool.false_eq_true]
  · have hx' : isWh x = false := by simpa using hx
    have e0 : isF (.tup [x, y]) = false := by
      cases x <;> first | rfl | exact absurd rfl hx
    simp -implicitDefEqProofs only [den_is_fraction, sSeq_ap, sAsg_ap, sPar_ap, sRet_ap, sIf_ap, sExpr_ap, sNext_ap, bnd_ap, ret_ap, bindR_ok, thenR_ok, dVar_ap, varR_ok, seqR_nx, seqR_rt, asgR_ok, gNm_ap, gCn_ap, gcnR_ok, gNl_ap, gTp_fr, gTp_ap, gLs_ap, dCons_ap, dNil_ap, asB_ap, dOr_ap, dAnd_ap, dNot_ap, dAndV_ap, dOrV_ap, dNotV_ap, dIf_ap, oAdd_int, oSub_int, oLt_int, oLe_int, oGt_int, oGe_int, oNeg_int, oEq_int, oNe_int, oEq_fr, oNe_fr, oEq_bl, oNe_bl, oTup_ap, oLst_ap, oCall_ap, oAbs_ap, oMax_ap, oMin_ap, oToInt_b, oToInt_i, oLen_lst, oLen_scr, oLen_tup, oIx_lst, oIx_scr, oAdd_lst, oIx_tup, oIx_fr0, oIx_fr1, ixR_ok, oItL_ap, oItT_ap, sFor_ap, startD, List.map_cons, List.map_nil, List.length_cons, List.length_nil, List.replicate_succ, List.replicate_zero, List.cons_append, List.nil_append, List.append_nil, List.getElem?_cons_zero, List.getElem?_cons_succ, List.set_cons_zero, List.set_cons_succ, Nat.reduceAdd, Nat.reduceSub, Nat.sub_self, Nat.reduceLeDiff, List.all_cons, List.all_nil, np_fr, np_int, np_bl, np_tup, np_lst, np_str, np_non, Bool.and_self, Bool.and_true, if_true_, if_false_, zero_add', if_tt, if_ff, decide_true, decide_false, Nat.le_refl, oItS_lst, oItS_tup, oTupOf_lst, oTupOf_tup, oLstOf_lst, oLstOf_tup, oRv_lst, oRv_tup, oAdd_tup, dChain_ap, asTru_bl, asTru_tup, asTru_lst, oIsN_ap, oNotN_ap, asI_ap, oSl_tup, oSl_lst, oZip_tup, oZip_lst, oAddI_ap, oEqS_ap, oNeS_ap, oNe_nil, it, l2, n2, tp, isWh_eq el.1, hx', e0, Bool.not_true, Bool.not_false, Bool.false_eq_true]
theorem isfr_eq {d : D} (g : Good d) (M : Mem) : F_is_fraction [d] M = some (.ok (.bl (isF d)), M) := by
  by_cases ht : isT d = true
  · cases d with
    | tup ds =>
      by_cases hl : ds.length = 2
      · match ds, hl, g.el ds rfl with
        | [x, y], _, el =>
          simp -implicitDefEqProofs only [List.all_cons, List.all_nil, Bool.and_true, Bool.and_eq_true] at el
          exact isfr_two el M
      · exact isfr_len hl M
    | _ => cases ht
  · have ht' : isT d = false := by simpa using ht
    have e0 : isF d = false := by cases d <;> first | rfl | exact absurd rfl ht
    refine runF_pure ?_ rfl
    simp -implicitDefEqProofs only [den_is_fraction, sSeq_ap, sAsg_ap, sPar_ap, sRet_ap, sIf_ap, sExpr_ap, sNext_ap, bnd_ap, ret_ap, bindR_ok, thenR_ok, dVar_ap, varR_ok, seqR_nx, seqR_rt, asgR_ok, gNm_ap, gCn_ap, gcnR_ok, gNl_ap, gTp_fr, gTp_ap, gLs_ap, dCons_ap, dNil_ap, asB_ap, dOr_ap, dAnd_ap, dNot_ap, dAndV_ap, dOrV_ap, dNotV_ap, dIf_ap, oAdd_int, oSub_int, oLt_int, oLe_int, oGt_int, oGe_int, oNeg_int, oEq_int, oNe_int, oEq_fr, oNe_fr, oEq_bl, oNe_bl, oTup_ap, oLst_ap, oCall_ap, oAbs_ap, oMax_ap, oMin_ap, oToInt_b, oToInt_i, oLen_lst, oLen_scr, oLen_tup, oIx_lst, oIx_scr, oAdd_lst, oIx_tup, oIx_fr0, oIx_fr1, ixR_ok, oItL_ap, oItT_ap, sFor_ap, startD, List.map_cons, List.map_nil, List.length_cons, List.length_nil, List.replicate_succ, List.replicate_zero, List.cons_append, List.nil_append, List.append_nil, List.getElem?_cons_zero, List.getElem?_cons_succ, List.set_cons_zero, List.set_cons_succ, Nat.reduceAdd, Nat.reduceSub, Nat.sub_self, Nat.reduceLeDiff, List.all_cons, List.all_nil, np_fr, np_int, np_bl, np_tup, np_lst, np_str, np_non, Bool.and_self, Bool.and_true, if_true_, if_false_, zero_add', if_tt, if_ff, decide_true, decide_false, Nat.le_refl, oItS_lst, oItS_tup, oTupOf_lst, oTupOf_tup, oLstOf_lst, oLstOf_tup, oRv_lst, oRv_tup, oAdd_tup, dChain_ap, asTru_bl, asTru_tup, asTru_lst, oIsN_ap, oNotN_ap, asI_ap, oSl_tup, oSl_lst, oZip_tup, oZip_lst, oAddI_ap, oEqS_ap, oNeS_ap, oNe_nil, oIsi_tup g.np, ht', e0, Bool.not_false]
theorem isF_fr (q : Rat) : isF (frQ q) = true := by
  have h1 : (0 : Int) < (q.den : Int) := by have := q.den_pos; omega
  have h2 : Int.gcd q.num (q.den : Int) = 1 := by
    have := q.reduced
    simpa [Int.gcd, Nat.Coprime] using this
  unfold frQ isF
  simp [h2, q.den_pos]
theorem good_fr (q : Rat) : Good (frQ q) := ⟨rfl, fun ds h => by unfold frQ at h; cases h; rfl⟩
/-! one cell changes -/
structure Put (m : Nat) (ds : List D) (M M' : Mem) : Prop where
  len : M'.length = M.length
  here : M'[m]? = some (some ds)
  oth : ∀ j, j ≠ m → M'[j]? = M[j]?
theorem Put.self {m : Nat} {ds : List D} {M : Mem} (h : M[m]? = some (some ds)) : Put m ds M M := ⟨rfl, h, fun _ _ => rfl⟩
theorem Put.set {m : Nat} {ds es : List D} {M : Mem} (h : M[m]? = some (some es)) : Put m ds M (M.set m (some ds)) := ⟨by simp, List.getElem?_set_self (List.getElem?_eq_some_iff.mp h).1, fun j hj => List.getElem?_set_ne (Ne.symm hj)⟩
theorem Put.trans {m : Nat} {ds es : List D} {M M1 M2 : Mem} (a : Put m ds M M1) (b : Put m es M1 M2) : Put m es M M2 := ⟨b.len.trans a.len, b.here, fun j h => (b.oth j h).trans (a.oth j h)⟩
theorem Put.cut {ds : List D} {c : Option (List D)} {M M' : Mem} (a : Put M.length ds (M ++ [c]) M') : M'.take M.length = M := by
  refine List.ext_getElem? fun j => ?_
  by_cases h : j < M.length
  · rw [List.getElem?_take_of_lt h, a.oth j (by omega), List.getElem?_append_left h]
  · rw [List.getElem?_eq_none (by rw [List.length_take]; omega), List.getElem?_eq_none (by omega)]
theorem run_cut {N : List Str} {fb : Sv} {ds es : List D} {M M' : Mem} {c : Option (List D)} {d : D} (h : fb (startD N ds) M = some (.rt d, M')) (p : Put M.length es (M ++ [c]) M') (hp : d.np = true) : runF 0 N fb ds M = some (.ok d, M) := by
  rw [runF_rt h (by rw [p.len]; simp) hp, p.cut]
theorem last_cell (M : Mem) (c : Option (List D)) : (M ++ [c])[M.length]? = some c := by rw [List.getElem?_append_right (Nat.le_refl _), Nat.sub_self]; rfl
/-! merged -/
noncomputable abbrev mCond : Ev Bool := dAnd (bnd (bnd (dVar 3) fun d => bnd (bnd (dCons (dVar 0) dNil) oLen) fun e => oLt d e) asB) (dNot (bnd (bnd (dCons (dVar 4) (dCons (bnd (dVar 0) fun d => bnd (dVar 3) fun e => oIx d e) dNil)) (oCall 2 F_is_less)) asB))
def upTo (y : Rat) : List Rat → List Rat
  | [] => []
  | x :: r => if y < x then [] else x :: upTo y r
def past (y : Rat) : List Rat → List Rat
  | [] => []
  | x :: r => if y < x then x :: r else past y r
theorem upTo_past (y : Rat) : ∀ r : List Rat, upTo y r ++ past y r = r
  | [] => rfl
  | x :: r => by
    unfold upTo past
    split
    · rfl
    · rw [List.cons_append, upTo_past y r]
/-- the two rows as one -/
def mrg : List Rat → List Rat → List Rat × List Rat
  | rest, [] => ([], rest)
  | rest, y :: ys => (upTo y rest ++ y :: (mrg (past y rest) ys).1, (mrg (past y rest) ys).2)
theorem mrg_len : ∀ (ys rest : List Rat), (mrg rest ys).1.length + (mrg rest ys).2.length = ys.length + rest.length
  | [], rest => by simp [mrg]
  | y :: ys, rest => by
    have := mrg_len ys (past y rest)
    have h := congrArg List.length (upTo_past y rest)
    simp -implicitDefEqProofs only [mrg, List.length_append, List.length_cons] at h ⊢
    omega
theorem all_np_fr (ps : List Rat) : (ps.map frQ).all D.np = true := List.all_eq_true.mpr (by
  simp -implicitDefEqProofs only [List.mem_map]
  rintro d ⟨p, _, rfl⟩
  rfl)
/-! rising rows -/
abbrev Asc (l : List Rat) : Prop := l.Pairwise (· ≤ ·)
theorem mrg_perm : ∀ (ys rest : List Rat), ((mrg rest ys).1 ++ (mrg rest ys).2).Perm (ys ++ rest)
  | [], rest => by simp [mrg]
  | y :: ys, rest => by
    have ih := mrg_perm ys (past y rest)
    have hs := upTo_past y rest
    have h1 : (mrg rest (y :: ys)).1 ++ (mrg rest (y :: ys)).2 = upTo y rest ++ y :: ((mrg (past y rest) ys).1 ++ (mrg (past y rest) ys).2) := by simp [mrg]
    rw [h1]
    have h2 : (upTo y rest ++ y :: ((mrg (past y rest) ys).1 ++ (mrg (past y rest) ys).2)).Perm (upTo y rest ++ y :: (ys ++ past y rest)) := (List.Perm.refl _).append (ih.cons y)
    have h3 : (upTo y rest ++ y :: (ys ++ past y rest)).Perm (y :: ys ++ (upTo y rest ++ past y rest)) := by
      rw [← List.cons_append, ← List.append_assoc, ← List.append_assoc]
      exact (List.perm_append_comm).append_right _
    rw [hs] at h3
    exact h2.trans h3
theorem upTo_le (y : Rat) : ∀ r : List Rat, ∀ x ∈ upTo y r, x ≤ y
  | [], x, h => by simp [upTo] at h
  | z :: r, x, h => by
    unfold upTo at h
    split at h
    · simp at h
    · rename_i hz
      rcases List.mem_cons.mp h with e | h
      · subst e; exact Rat.not_lt.mp hz
      · exact upTo_le y r x h
theorem past_ge (y : Rat) : ∀ r : List Rat, Asc r → ∀ x ∈ past y r, y ≤ x
  | [], _, x, h => by simp [past] at h
  | z :: r, hr, x, h => by
    unfold past at h
    rw [Asc, List.pairwise_cons] at hr
    split at h
    · rename_i hz
      rcases List.mem_cons.mp h with e | h
      · subst e; exact Rat.le_of_lt hz
      · exact Rat.le_trans (Rat.le_of_lt hz) (hr.1 x h)
    · exact past_ge y r hr.2 x h
theorem asc_up (y : Rat) (r : List Rat) (h : Asc r) : Asc (upTo y r) ∧ Asc (past y r) := by
  have e := upTo_past y r
  rw [← e] at h
  have := List.pairwise_append.mp h
  exact ⟨this.1, this.2.1⟩
theorem mrg_asc : ∀ (ys rest : List Rat), Asc ys → Asc rest → Asc ((mrg rest ys).1 ++ (mrg rest ys).2)
  | [], rest, _, h => by simpa [mrg] using h
  | y :: ys, rest, h1, h2 => by
    rw [Asc, List.pairwise_cons] at h1
    obtain ⟨u1, u2⟩ := asc_up y rest h2
    have ih := mrg_asc ys (past y rest) h1.2 u2
    have e : (mrg rest (y :: ys)).1 ++ (mrg rest (y :: ys)).2 = upTo y rest ++ y :: ((mrg (past y rest) ys).1 ++ (mrg (past y rest) ys).2) := by simp [mrg]
    rw [e]
    have ge : ∀ x ∈ (mrg (past y rest) ys).1 ++ (mrg (past y rest) ys).2, y ≤ x := fun x hx => by
      have := (mrg_perm ys (past y rest)).subset hx
      rcases List.mem_append.mp this with z | z
      · exact h1.1 x z
      · exact past_ge y rest h2 x z
    refine List.pairwise_append.mpr ⟨u1, List.pairwise_cons.mpr ⟨ge, ih⟩, fun a ha b hb => ?_⟩
    have la := upTo_le y rest a ha
    rcases List.mem_cons.mp hb with e | hb
    · subst e; exact la
    · exact Rat.le_trans la (ge b hb)
def leB (a b : Rat) : Bool := decide (a ≤ b)
def srt (l : List Rat) : List Rat := l.mergeSort leB
theorem srt_asc (l : List Rat) : Asc (srt l) := by
  have := List.pairwise_mergeSort (le := leB) (fun a b c h1 h2 => decide_eq_true (Rat.le_trans (of_decide_eq_true h1) (of_decide_eq_true h2))) (fun a b => by
    rcases Rat.le_total (a := a) (b := b) with h | h
    · simp [leB, h]
    · simp [leB, h]) l
  exact this.imp fun h => of_decide_eq_true h
theorem srt_perm (l : List Rat) : (srt l).Perm l := List.mergeSort_perm l leB
theorem asc_uniq {a b : List Rat} (h1 : Asc a) (h2 : Asc b) (p : a.Perm b) : a = b := List.Perm.eq_of_pairwise (fun x y _ _ h h' => Rat.le_antisymm h h') h1 h2 p
theorem sIx_le {n d k : Nat} (h : k ≤ n) : HT.sIx n d (some (k : Int)) = k := by rw [HT.sIx_nat]; omega
theorem cut_take (ds : List D) {k : Nat} (h : k ≤ ds.length) : cutD ds none (some (k : Int)) = ds.take k := by
  unfold cutD
  rw [sIx_le h, HT.sIx_none]; simp
theorem cut_drop (ds : List D) {k : Nat} (h : k ≤ ds.length) : cutD ds (some (k : Int)) none = ds.drop k := by
  unfold cutD
  rw [sIx_le h, HT.sIx_none, List.take_of_length_le (by simp)]
theorem merged_srt {one other : List Rat} (h1 : Asc one) (h2 : Asc other) : (mrg one other).1 ++ (mrg one other).2 = srt (one ++ other) :=
  asc_uniq (mrg_asc other one h2 h1) (srt_asc _) ((mrg_perm other one).trans (List.perm_append_comm.trans (srt_perm _).symm))
def sqB (b : Bool) (ds : List D) : D := if b then .tup ds else .lst ds
theorem sqB_len (b : Bool) (ds : List D) (ρ : Env) (M : Mem) : oLen [sqB b ds] ρ M = some (.ok (.int ds.length), M) := by cases b <;> rfl
theorem sqB_tup (b : Bool) (ds : List D) (ρ : Env) (M : Mem) : oTupOf [sqB b ds] ρ M = some (.ok (.tup ds), M) := by cases b <;> rfl
theorem sqB_sl (b : Bool) (ds : List D) (l u : Option Int) (ρ : Env) (M : Mem) : oSl (sqB b ds) l u ρ M = some (.ok (sqB b (cutD ds l u)), M) := by cases b <;> rfl
theorem sqB_np (b : Bool) (ds : List D) : (sqB b ds).np = true := by cases b <;> rfl
theorem srt_small {l : List Rat} (h : l.length < 2) : srt l = l := by
  match l, h with
  | [], _ => exact (srt_perm []).eq_nil
  | [x], _ => exact List.perm_singleton.mp (srt_perm [x])
/-! strengths -/
def stD (p : Rat × Rat) : D := if p.1 = 0 then .non else frQ (p.2 / p.1)
theorem gTp_ly (c : List D → Env → Option Env) (p : Rat × Rat) (ρ : Env) : gTp 2 c (lyQ p) ρ = c [frQ p.1, frQ p.2] ρ := rfl
theorem nought_fr : C_NOUGHT = frQ 0 := rfl
theorem oIx_ly0 (p : Rat × Rat) (ρ : Env) (M : Mem) : oIx (lyQ p) (.int 0) ρ M = some (.ok (frQ p.1), M) := rfl
theorem oIx_ly1 (p : Rat × Rat) (ρ : Env) (M : Mem) : oIx (lyQ p) (.int 1) ρ M = some (.ok (frQ p.2), M) := rfl
theorem stD_np (p : Rat × Rat) : (stD p).np = true := by unfold stD; split <;> rfl
/-! tables of sums -/
def ky (p : Rat × Rat) : Option Rat := if p.1 = 0 then none else some (p.2 / p.1)
def kD : Option Rat → D
  | none => .non
  | some c => frQ c
def kN : Option Rat → NK
  | none => .none
  | some c => .tup [.num c.num, .num (c.den : Int)]
theorem kD_ky (p : Rat × Rat) : kD (ky p) = stD p := by unfold ky stD; split <;> rfl
theorem keyN_kD (k : Option Rat) : keyN (kD k) = some (kN k) := by cases k <;> rfl
theorem kN_inj {a b : Option Rat} (h : kN a = kN b) : a = b := by
  cases a with
  | none => cases b with
    | none => rfl
    | some c => cases h
  | some c => cases b with
    | none => cases h
    | some d =>
      unfold kN at h
      injection h with h
      injection h with h1 h
      injection h1 with h1
      injection h with h2 h
      injection h2 with h2
      rw [Rat.ext h1 (by exact_mod_cast h2)]
theorem kD_np (k : Option Rat) : (kD k).np = true := by cases k <;> rfl
abbrev Tb := List (Option Rat × (Rat × Rat))
def encT (T : Tb) : DEs := T.map fun x => (kD x.1, lyQ x.2)
def tget (T : Tb) (k : Option Rat) : Option (Rat × Rat) := (T.find? fun x => decide (x.1 = k)).map (·.2)
def tput (T : Tb) (k : Option Rat) (v : Rat × Rat) : Tb := if (tget T k).isSome = true then T.map (fun x => if x.1 = k then (x.1, v) else x) else T ++ [(k, v)]
theorem lookD_encT (T : Tb) (k : Option Rat) : lookD (encT T) (kN k) = (tget T k).map lyQ := by
  unfold lookD tget encT
  induction T with
  | nil => rfl
  | cons x T ih =>
    rw [List.map_cons]
    by_cases h : x.1 = k
    · rw [List.find?_cons_of_pos (by rw [keyN_kD, h]; simp), List.find?_cons_of_pos (by simpa using h)]; rfl
    · rw [List.find?_cons_of_neg (by rw [keyN_kD]; simpa using fun z => h (kN_inj z)), List.find?_cons_of_neg (by simpa using h)]; exact ih
theorem putD_encT (T : Tb) (k : Option Rat) (v : Rat × Rat) : putD (encT T) (kN k) (kD k) (lyQ v) = encT (tput T k v) := by
  unfold putD tput
  rw [lookD_encT, Option.isSome_map]
  split
  · unfold encT
    rw [List.map_map, List.map_map]
    refine List.map_congr_left fun x _ => ?_
    show (if keyN (kD x.1) = some (kN k) then (kD x.1, lyQ v) else (kD x.1, lyQ x.2)) = _
    rw [keyN_kD]
    by_cases h : x.1 = k
    · rw [if_pos (by rw [h])]
      show _ = (fun x => (kD x.1, lyQ x.2)) (if x.1 = k then (x.1, v) else x)
      rw [if_pos h]
    · rw [if_neg (by simpa using fun z => h (kN_inj z))]
      show _ = (fun x => (kD x.1, lyQ x.2)) (if x.1 = k then (x.1, v) else x)
      rw [if_neg h]
  · unfold encT
    rw [List.map_append]; rfl
/-- all of the key k, summed -/
def sumK : List (Rat × Rat) → Option Rat → Rat × Rat
  | [], _ => (0, 0)
  | p :: ps, k => if ky p = k then (p.1 + (sumK ps k).1, p.2 + (sumK ps k).2) else sumK ps k
theorem sumK_cons (p : Rat × Rat) (ps : List (Rat × Rat)) (k : Option Rat) : sumK (p :: ps) k = if ky p = k then (p.1 + (sumK ps k).1, p.2 + (sumK ps k).2) else sumK ps k := rfl
theorem sumK_append : ∀ (a b : List (Rat × Rat)) (k : Option Rat), sumK (a ++ b) k = ((sumK a k).1 + (sumK b k).1, (sumK a k).2 + (sumK b k).2)
  | [], b, k => by
    show sumK b k = (0 + (sumK b k).1, 0 + (sumK b k).2)
    rw [Rat.zero_add, Rat.zero_add]
  | p :: a, b, k => by
    rw [List.cons_append, sumK_cons, sumK_cons, sumK_append a b k]
    split
    · rw [Rat.add_assoc, Rat.add_assoc]
    · rfl
/-- the table of ps -/
structure Tab (T : Tb) (ps : List (Rat × Rat)) : Prop where
  nd : (T.map (·.1)).Nodup
  sum : ∀ x ∈ T, x.2 = sumK ps x.1
  key : ∀ k, k ∈ T.map (·.1) ↔ ∃ p ∈ ps, ky p = k
  len : T.length ≤ ps.length
theorem tget_none {T : Tb} {k : Option Rat} : tget T k = none ↔ k ∉ T.map (·.1) := by
  unfold tget
  rw [Option.map_eq_none_iff, List.find?_eq_none]
  simp -implicitDefEqProofs only [decide_eq_true_eq, List.mem_map, not_exists, not_and]
theorem tget_some {T : Tb} {k : Option Rat} {v : Rat × Rat} (h : tget T k = some v) : (k, v) ∈ T := by
  unfold tget at h
  obtain ⟨x, h1, h2⟩ := Option.map_eq_some_iff.mp h
  have h3 := List.find?_some h1
  simp -implicitDefEqProofs only [decide_eq_true_eq] at h3
  have := List.mem_of_find?_eq_some h1
  rw [← h3, ← h2]; exact this
theorem Tab.get {T : Tb} {ps : List (Rat × Rat)} (t : Tab T ps) (k : Option Rat) : (tget T k).getD (0, 0) = sumK ps k := by
  cases h : tget T k with
  | some v => exact t.sum _ (tget_some h)
  | none =>
    have hn : ¬ ∃ p ∈ ps, ky p = k := fun z => tget_none.mp h ((t.key k).mpr z)
    clear h t
    show (0, 0) = sumK ps k
    induction ps with
    | nil => rfl
    | cons p ps ih =>
      rw [sumK_cons, if_neg fun z => hn ⟨p, by simp, z⟩]
      exact ih fun ⟨q, hq, z⟩ => hn ⟨q, by simp [hq], z⟩
theorem tput_keys (T : Tb) (k : Option Rat) (v : Rat × Rat) : (tput T k v).map (·.1) = if (tget T k).isSome = true then T.map (·.1) else T.map (·.1) ++ [k] := by
  unfold tput
  split
  · rw [List.map_map]
    refine List.map_congr_left fun x _ => ?_
    show (if x.1 = k then (x.1, v) else x).1 = x.1
    split <;> rfl
  · rw [List.map_append]; rfl
theorem sumK_snoc (ps : List (Rat × Rat)) (p : Rat × Rat) (k : Option Rat) : sumK (ps ++ [p]) k = if ky p = k then ((sumK ps k).1 + p.1, (sumK ps k).2 + p.2) else sumK ps k := by
  rw [sumK_append, sumK_cons]
  have e : sumK [] k = (0, 0) := rfl
  rw [e]
  split
  · rw [Rat.add_zero, Rat.add_zero]
  · show ((sumK ps k).1 + 0, (sumK ps k).2 + 0) = _
    rw [Rat.add_zero, Rat.add_zero]
theorem Tab.step {T : Tb} {ps : List (Rat × Rat)} (t : Tab T ps) (p : Rat × Rat) : Tab (tput T (ky p) ((sumK ps (ky p)).1 + p.1, (sumK ps (ky p)).2 + p.2)) (ps ++ [p]) := by
  have kk := tput_keys T (ky p) ((sumK ps (ky p)).1 + p.1, (sumK ps (ky p)).2 + p.2)
  refine ⟨?_, fun x hx => ?_, fun k => ?_, ?_⟩
  · rw [kk]
    split
    · exact t.nd
    · rename_i h
      rw [List.nodup_append]
      have hn : ky p ∉ T.map (·.1) := tget_none.mp (by simpa using h)
      refine ⟨t.nd, by simp, fun a ha b hb => ?_⟩
      simp at hb; subst hb
      rintro rfl
      exact hn ha
  · rw [sumK_snoc]
    unfold tput at hx
    split at hx
    · obtain ⟨y, hy, e⟩ := List.mem_map.mp hx
      split at e
      · rename_i hk
        subst e
        show _ = if ky p = y.1 then _ else _
        rw [if_pos hk.symm, hk]
      · rename_i hk
        subst e
        rw [if_neg fun z => hk z.symm]
        exact t.sum y hy
    · rename_i h
      rcases List.mem_append.mp hx with hx | hx
      · have hn : ky p ∉ T.map (·.1) := tget_none.mp (by simpa using h)
        rw [if_neg (fun z : ky p = x.1 => hn (by rw [z]; exact List.mem_map.mpr ⟨x, hx, rfl⟩))]
        exact t.sum x hx
      · simp at hx; subst hx
        rw [if_pos rfl]
  · rw [kk]
    have hm : (∃ q ∈ ps ++ [p], ky q = k) ↔ (∃ q ∈ ps, ky q = k) ∨ ky p = k := by
      constructor
      · rintro ⟨q, hq, e⟩
        rcases List.mem_append.mp hq with z | z
        · exact .inl ⟨q, z, e⟩
        · simp at z; subst z; exact .inr e
      · rintro (⟨q, hq, e⟩ | e)
        · exact ⟨q, by simp [hq], e⟩
        · exact ⟨p, by simp, e⟩
    rw [hm, ← t.key k]
    split
    · rename_i h
      constructor
      · exact .inl
      · rintro (h1 | h1)
        · exact h1
        · subst h1
          cases q : tget T (ky p) with
          | none => rw [q] at h; cases h
          | some v => exact List.mem_map.mpr ⟨_, tget_some q, rfl⟩
    · rw [List.mem_append]
      simp [eq_comm]
  · have h := congrArg List.length kk
    have hl := t.len
    rw [List.length_map] at h
    rw [h, List.length_append]
    split <;> simp <;> omega
theorem Tab.nil : Tab [] [] := ⟨by simp, by simp, by simp, by simp⟩
/-! gathered -/
theorem Bd.zero {n : Nat} : Bd n 0 ↔ 0 < n := by
  constructor
  · intro h
    rcases Nat.eq_zero_or_pos n with z | z
    · subst z; exact absurd h.2 (by decide)
    · exact z
  · intro h
    exact ⟨Nat.pos_of_ne_zero (by simp), Nat.one_lt_two_pow (by omega)⟩
theorem sumK_bd {b : Nat} : ∀ (ps : List (Rat × Rat)) (k : Option Rat), (∀ p ∈ ps, BdL b p) → BdL (ps.length * (b + 1) + 1) (sumK ps k)
  | [], k, _ => ⟨Bd.zero.mpr (by omega), Bd.zero.mpr (by omega)⟩
  | p :: ps, k, h => by
    have ih := sumK_bd ps k fun q hq => h q (by simp [hq])
    have hp := h p (by simp)
    have e : b + (ps.length * (b + 1) + 1) + 1 = (p :: ps).length * (b + 1) + 1 := by rw [List.length_cons, Nat.succ_mul]; omega
    rw [sumK_cons]
    split
    · exact ⟨(hp.w.add ih.w).mono (by omega), (hp.s.add ih.s).mono (by omega)⟩
    · exact ih.mono (by rw [← e]; omega)
theorem dicOf_at {m : Nat} {M : Mem} {b : Bool} {es : DEs} (h : M[m]? = some (some (enc b es))) : dicOf (.dpt m) M = some (m, b, es) := by
  unfold dicOf
  dsimp only
  rw [h]
  dsimp only
  rw [dec_enc]; rfl
theorem okDic_ap {m : Nat} {M : Mem} {b : Bool} {es : DEs} (h : M[m]? = some (some (enc b es))) (ρ : Env) : okDic (.dpt m) ρ M = some (.ok (.dpt m), M) := by
  unfold okDic
  rw [dicOf_at h]
theorem oDGt_ap {m : Nat} {M : Mem} {b : Bool} {T : Tb} {k : Option Rat} {z : D} (h : M[m]? = some (some (enc b (encT T)))) (hz : z.np = true) (ρ : Env) : oDGt (.dpt m) (kD k) z ρ M = some (.ok (((tget T k).map lyQ).getD z), M) := by
  unfold oDGt
  rw [dicOf_at h, keyN_kD]
  dsimp only
  rw [if_pos hz, lookD_encT]
theorem oDIn_ap {m : Nat} {M : Mem} {b : Bool} {T : Tb} {k : Option Rat} (h : M[m]? = some (some (enc b (encT T)))) (ρ : Env) : oDIn (kD k) (.dpt m) ρ M = some (.ok (.bl (tget T k).isSome), M) := by
  unfold oDIn
  rw [dicOf_at h, keyN_kD]
  dsimp only
  rw [lookD_encT, Option.isSome_map]
theorem oDIx_ap {m : Nat} {M : Mem} {b : Bool} {T : Tb} {k : Option Rat} {v : Rat × Rat} (h : M[m]? = some (some (enc b (encT T)))) (hv : tget T k = some v) (ρ : Env) : oDIx (.dpt m) (kD k) ρ M = some (.ok (lyQ v), M) := by
  unfold oDIx
  rw [dicOf_at h, keyN_kD]
  dsimp only
  rw [lookD_encT, hv]; rfl
theorem sDPut_ap (f fo fi : Ev D) (ρ : Env) (M : Mem) : sDPut f fo fi ρ M = thenR (f ρ M) ρ fun x M1 => thenR (fo ρ M1) ρ fun o M2 => thenR (fi ρ M2) ρ fun i M3 => match dicOf o M3, keyN i with
  | some (n, false, es), some k => if x.np = true ∧ i.np = true ∧ es.length < 16777216 then some (.nx ρ, M3.set n (some (enc false (putD es k i x)))) else none
  | _, _ => none := rfl
theorem getD_ly (o : Option (Rat × Rat)) : (o.map lyQ).getD (lyQ (0, 0)) = lyQ (o.getD (0, 0)) := by cases o <;> rfl
/-! a comprehension whose parts read what stands -/
def Agr (M0 M : Mem) : Prop := ∀ j, j < M0.length → M[j]? = M0[j]?
theorem lcGo_pm {b : Tg} {tt : Ev Bool} {te : Ev D} {M0 : Mem} {ρw : Env} {p : D → Bool} {g : D → D} : ∀ (ds : List D) (M : Mem) (acc : List D), (∀ d ∈ ds, ∃ ρ1, b d ρw = some ρ1 ∧ (∀ M, Agr M0 M → tt ρ1 M = some (.ok (p d), M)) ∧ (p d = true → (g d).np = true ∧ ∀ M, Agr M0 M → te ρ1 M = some (.ok (g d), M))) → Agr M0 M → M[M0.length]? = some (some acc) → acc.length + ds.length ≤ 100000 →
    ∃ M', lcGo b tt te M0.length ρw ds M = some M' ∧ M' = M.set M0.length (some (acc ++ (ds.filter p).map g))
  | [], M, acc, h, ha, hM, hl => by
    refine ⟨M, rfl, ?_⟩
    have hn : M0.length < M.length := (List.getElem?_eq_some_iff.mp hM).1
    rw [List.getElem?_eq_getElem hn] at hM
    have e := Option.some.inj hM
    rw [List.filter_nil, List.map_nil, List.append_nil, ← e]
    exact (List.set_getElem_self hn).symm
  | d :: ds, M, acc, h, ha, hM, hl => by
    obtain ⟨ρ1, e1, e2, e3⟩ := h d (by simp)
    rw [List.length_cons] at hl
    have hn : M0.length < M.length := (List.getElem?_eq_some_iff.mp hM).1
    cases hp : p d with
    | true =>
      obtain ⟨e4, e5⟩ := e3 hp
      have ha2 : Agr M0 (M.set M0.length (some (acc ++ [g d]))) := fun j hj => by rw [List.getElem?_set_ne (by omega)]; exact ha j hj
      obtain ⟨M', g1, g2⟩ := lcGo_pm (p := p) (g := g) ds (M.set M0.length (some (acc ++ [g d]))) (acc ++ [g d]) (fun x hx => h x (by simp [hx])) ha2 (List.getElem?_set_self hn) (by simp; omega)
      refine ⟨M', ?_, ?_⟩
      · unfold lcGo
        rw [e1]
        dsimp only
        rw [e2 M ha, hp]
        dsimp only
        rw [e5 M ha]
        dsimp only
        rw [hM]
        dsimp only
        rw [if_pos ⟨e4, by omega⟩]
        exact g1
      · rw [g2, List.set_set, List.filter_cons_of_pos hp, List.map_cons, List.append_assoc]; rfl
    | false =>
      obtain ⟨M', g1, g2⟩ := lcGo_pm (p := p) (g := g) ds M acc (fun x hx => h x (by simp [hx])) ha hM (by omega)
      refine ⟨M', ?_, ?_⟩
      · unfold lcGo
        rw [e1]
        dsimp only
        rw [e2 M ha, hp]
        exact g1
      · rw [g2, List.filter_cons_of_neg (by simp [hp])]
theorem oLc_pm {b : Tg} {tt : Ev Bool} {te : Ev D} {ρ : Env} {vs : List Nat} {p : D → Bool} {g : D → D} {ds : List D} {M : Mem} (h : ∀ d ∈ ds, ∃ ρ1, b d (wipeD ρ vs) = some ρ1 ∧ (∀ M', Agr M M' → tt ρ1 M' = some (.ok (p d), M')) ∧ (p d = true → (g d).np = true ∧ ∀ M', Agr M M' → te ρ1 M' = some (.ok (g d), M'))) (hl : ds.length ≤ 100000) : oLc b tt te vs ds ρ M = some (.ok (.lst ((ds.filter p).map g)), M) := by
  obtain ⟨M', g1, g2⟩ := lcGo_pm (M0 := M) ds (M ++ [some []]) [] h (fun j hj => List.getElem?_append_left hj) (last_cell M _) (by simpa using hl)
  unfold oLc
  rw [g1]
  dsimp only
  unfold lcEnd
  have e : M'[M.length]? = some (some ((ds.filter p).map g)) := by
    rw [g2, List.getElem?_set_self (by simp)]; simp
  rw [e]
  dsimp only
  have hl2 : M'.length = M.length + 1 := by rw [g2]; simp
  rw [if_pos hl2, g2, List.take_set_of_le (Nat.le_refl _), List.take_left]
theorem dLk_ap {i m : Nat} {f : Ev D} {ρ : Env} {M : Mem} {es : DEs} {x : D} (hi : ρ[i]? = some (some (.dpt m))) (h : M[m]? = some (some (enc false es))) (e : ∀ M1, M1[m]? = some (some (enc true es)) → f ρ M1 = some (.ok x, M1)) : dLk i f ρ M = some (.ok x, M) := by
  have lt := (List.getElem?_eq_some_iff.mp h).1
  have e1 := e (M.set m (some (enc true es))) (List.getElem?_set_self lt)
  unfold dLk
  rw [hi]
  dsimp only
  rw [dicOf_at h]
  dsimp only
  rw [e1]
  dsimp only
  rw [if_pos (List.getElem?_set_self lt), List.set_set]
  rw [List.getElem?_eq_getElem lt] at h
  rw [← Option.some.inj h, List.set_getElem_self]
/-- the brine of ps -/
structure IsG (ps B : List (Rat × Rat)) : Prop where
  ex : ∃ ks : List Rat, ks.Pairwise (· < ·) ∧ (∀ c, c ∈ ks ↔ ∃ p ∈ ps, ky p = some c) ∧ ∃ fl : List (Rat × Rat), ((∃ p ∈ ps, ky p = none) → fl = [sumK ps none]) ∧ ((¬ ∃ p ∈ ps, ky p = none) → fl = []) ∧ B = fl ++ ks.reverse.map fun c => sumK ps (some c)
def sk (T : Tb) : List Rat := T.filterMap (·.1)
theorem keys_filter : ∀ T : Tb, ((encT T).map (·.1)).filter (fun d => !d.isN) = (sk T).map frQ
  | [] => rfl
  | (none, v) :: T => by
    have := keys_filter T
    show ((kD none :: (encT T).map (·.1)).filter fun d => !d.isN) = _
    rw [List.filter_cons_of_neg (by simp [kD, D.isN])]
    exact this
  | (some c, v) :: T => by
    have := keys_filter T
    show ((kD (some c) :: (encT T).map (·.1)).filter fun d => !d.isN) = _
    rw [List.filter_cons_of_pos (by rfl), this]
    rfl
theorem mem_sk {T : Tb} {c : Rat} : c ∈ sk T ↔ some c ∈ T.map (·.1) := by
  unfold sk
  simp -implicitDefEqProofs only [List.mem_filterMap, List.mem_map]
theorem nd_sk {T : Tb} (h : (T.map (·.1)).Nodup) : (sk T).Nodup := by
  unfold sk
  induction T with
  | nil => simp
  | cons x T ih =>
    rw [List.map_cons, List.nodup_cons] at h
    obtain ⟨k, v⟩ := x
    cases k with
    | none => exact ih h.2
    | some c =>
      show (c :: T.filterMap (·.1)).Nodup
      rw [List.nodup_cons]
      refine ⟨fun hc => h.1 ?_, ih h.2⟩
      exact mem_sk.mp hc
theorem asc_lt : ∀ {l : List Rat}, Asc l → l.Nodup → l.Pairwise (· < ·)
  | [], _, _ => .nil
  | x :: l, h, nd => by
    rw [Asc, List.pairwise_cons] at h
    rw [List.nodup_cons] at nd
    exact List.pairwise_cons.mpr ⟨fun y hy => Rat.lt_of_le_of_ne (h.1 y hy) fun z => nd.1 (z ▸ hy), asc_lt h.2 nd.2⟩
def gD (T : Tb) (d : D) : D := (lookD (encT T) ((keyN d).getD .none)).getD .non
theorem oAdd_lys (a b : List (Rat × Rat)) (h : a.length + b.length ≤ 16777216) (ρ : Env) (M : Mem) : oAdd (.lst (a.map lyQ)) (.lst (b.map lyQ)) ρ M = some (.ok (.lst ((a ++ b).map lyQ)), M) := by
  rw [oAdd_lst _ _ _ _ (by simpa using h), ← List.map_append]
theorem key_bd {b N : Nat} {ps : List (Rat × Rat)} {c : Rat} (hb : ∀ q ∈ ps, BdL b q) (h : ∃ p ∈ ps, ky p = some c) : Bd (2 * b) c := by
  obtain ⟨p, hp, e⟩ := h
  unfold ky at e
  split at e
  · cases e
  · cases e
    have := hb p hp
    exact (this.s.div this.w).mono (by omega)
/-! is_layer, laid -/
def isLB (f : Rat) (p : Rat × Rat) : Bool := !decide (p.1 < 0) && !decide (p.2 < 0) && (if p.1 = 0 then !decide (p.2 = 0) else !decide (f * p.1 < p.2))
theorem bd_z : Bd 4000 (0 : Rat) := Bd.zero.mpr (by decide)
theorem isfr_fr (q : Rat) (M : Mem) : F_is_fraction [frQ q] M = some (.ok (.bl true), M) := by rw [isfr_eq (good_fr q), isF_fr]
theorem isLB_ok {f : Rat} {p : Rat × Rat} (h : LayOk f p) : isLB f p = true := by
  unfold isLB
  have h1 : ¬ p.1 < 0 := Rat.not_lt.mpr h.w
  have h2 : ¬ p.2 < 0 := Rat.not_lt.mpr h.s
  rw [decide_eq_false h1, decide_eq_false h2]
  by_cases h3 : p.1 = 0
  · rw [if_pos h3, decide_eq_false (Rat.ne_of_gt (h.nz h3))]; rfl
  · rw [if_neg h3, decide_eq_false (Rat.not_lt.mpr (h.le (Rat.lt_of_le_of_ne h.w (Ne.symm h3))))]; rfl
/-! what a brine of ps is -/
theorem div_eq {a b c : Rat} (hb : b ≠ 0) : a / b = c ↔ a = c * b := by
  constructor
  · intro h; rw [← h, Rat.div_mul_cancel hb]
  · intro h; rw [h, Rat.mul_div_cancel hb]
theorem ky_some {p : Rat × Rat} {c : Rat} (h : ky p = some c) : p.1 ≠ 0 ∧ p.2 = c * p.1 := by
  unfold ky at h
  split at h
  · cases h
  · rename_i h0
    cases h
    exact ⟨h0, (Rat.div_mul_cancel h0).symm⟩
theorem ky_none {p : Rat × Rat} (h : ky p = none) : p.1 = 0 := by
  unfold ky at h
  split at h
  · assumption
  · cases h
theorem pos_of {f : Rat} {p : Rat × Rat} (h : LayOk f p) (h0 : p.1 ≠ 0) : 0 < p.1 := Rat.lt_of_le_of_ne h.w (Ne.symm h0)
theorem sum_some {f c : Rat} : ∀ ps : List (Rat × Rat), (∀ p ∈ ps, LayOk f p) → 0 ≤ (sumK ps (some c)).1 ∧ (sumK ps (some c)).2 = c * (sumK ps (some c)).1 ∧ ((∃ p ∈ ps, ky p = some c) → 0 < (sumK ps (some c)).1)
  | [], _ => ⟨Rat.le_refl, by show (0 : Rat) = c * 0; rw [Rat.mul_zero], fun ⟨p, hp, _⟩ => by simp at hp⟩
  | p :: ps, h => by
    obtain ⟨i1, i2, i3⟩ := sum_some (c := c) ps fun q hq => h q (by simp [hq])
    rw [sumK_cons]
    split
    · rename_i hk
      obtain ⟨n0, es⟩ := ky_some hk
      have pp := pos_of (h p (by simp)) n0
      have pos : 0 < p.1 + (sumK ps (some c)).1 := by
        have := Rat.add_le_add_left (c := p.1) |>.mpr i1
        rw [Rat.add_zero] at this
        exact Std.lt_of_lt_of_le pp this
      refine ⟨Rat.le_of_lt pos, ?_, fun _ => pos⟩
      show p.2 + (sumK ps (some c)).2 = c * (p.1 + (sumK ps (some c)).1)
      rw [es, i2, Rat.mul_add]
    · rename_i hk
      refine ⟨i1, i2, fun ⟨q, hq, e⟩ => i3 ?_⟩
      rcases List.mem_cons.mp hq with z | z
      · subst z; exact absurd e hk
      · exact ⟨q, z, e⟩
theorem sum_none {f : Rat} : ∀ ps : List (Rat × Rat), (∀ p ∈ ps, LayOk f p) → (sumK ps none).1 = 0 ∧ 0 ≤ (sumK ps none).2 ∧ ((∃ p ∈ ps, ky p = none) → 0 < (sumK ps none).2)
  | [], _ => ⟨rfl, Rat.le_refl, fun ⟨p, hp, _⟩ => by simp at hp⟩
  | p :: ps, h => by
    obtain ⟨i1, i2, i3⟩ := sum_none ps fun q hq => h q (by simp [hq])
    rw [sumK_cons]
    split
    · rename_i hk
      have n0 := ky_none hk
      have pp := (h p (by simp)).nz n0
      have pos : 0 < p.2 + (sumK ps none).2 := by
        have := Rat.add_le_add_left (c := p.2) |>.mpr i2
        rw [Rat.add_zero] at this
        exact Std.lt_of_lt_of_le pp this
      refine ⟨?_, Rat.le_of_lt pos, fun _ => pos⟩
      show p.1 + (sumK ps none).1 = 0
      rw [n0, i1, Rat.add_zero]
    · rename_i hk
      refine ⟨i1, i2, fun ⟨q, hq, e⟩ => i3 ?_⟩
      rcases List.mem_cons.mp hq with z | z
      · subst z; exact absurd e hk
      · exact ⟨q, z, e⟩
theorem ky_sumK {f : Rat} {ps : List (Rat × Rat)} {k : Option Rat} (h : ∀ p ∈ ps, LayOk f p) (hk : ∃ p ∈ ps, ky p = k) : ky (sumK ps k) = k ∧ LayOk f (sumK ps k) := by
  cases k with
  | none =>
    obtain ⟨a, b, c⟩ := sum_none ps h
    refine ⟨by unfold ky; rw [if_pos a], ⟨by rw [a]; exact Rat.le_refl, b, fun _ => c hk, fun z => ?_⟩⟩
    rw [a] at z; exact absurd z Rat.lt_irrefl
  | some c =>
    obtain ⟨a, b, d⟩ := sum_some (c := c) ps h
    have pos := d hk
    have n0 := Rat.ne_of_gt pos
    obtain ⟨p, hp, e⟩ := hk
    obtain ⟨q0, q1⟩ := ky_some e
    have lp := h p hp
    have pp := pos_of lp q0
    have c0 : 0 ≤ c := by
      rcases Rat.le_total (a := 0) (b := c) with z | z
      · exact z
      · have h1 := lp.s
        rw [q1] at h1
        rcases Rat.le_iff_lt_or_eq.mp z with z | z
        · have := (Rat.mul_neg_iff_of_pos_right (a := c) pp).mpr z
          exact absurd h1 (Rat.not_le.mpr this)
        · rw [z]; exact Rat.le_refl
    have cf : c ≤ f := by
      have h1 := lp.le pp
      rw [q1] at h1
      exact Rat.le_of_mul_le_mul_right h1 pp
    refine ⟨by unfold ky; rw [if_neg n0, (div_eq n0).mpr b], ⟨a, by rw [b]; exact Rat.mul_nonneg c0 a, fun z => absurd z n0, fun _ => by rw [b]; exact Rat.mul_le_mul_of_nonneg_right cf a⟩⟩
/-! sizes of rows -/
def SzL (n : Nat) (l : List (Rat × Rat)) : Prop := ∃ zs : List ((Rat × Rat) × Nat), zs.map (·.1) = l ∧ (∀ z ∈ zs, BdL z.2 z.1) ∧ (zs.map (·.2 + 1)).sum ≤ n
theorem SzL.mono {m n : Nat} {l : List (Rat × Rat)} (h : SzL m l) (e : m ≤ n) : SzL n l := by
  obtain ⟨zs, a, b, c⟩ := h
  exact ⟨zs, a, b, Nat.le_trans c e⟩
theorem sum_sub : ∀ {a b : List Nat}, a.Sublist b → a.sum ≤ b.sum
  | _, _, .slnil => Nat.le_refl _
  | _, _, .cons x h => by have := sum_sub h; simp; omega
  | _, _, .cons_cons x h => by have := sum_sub h; simp; omega
theorem SzL.sub {n : Nat} {l l' : List (Rat × Rat)} (h : SzL n l) (s : l'.Sublist l) : SzL n l' := by
  obtain ⟨zs, a, b, c⟩ := h
  rw [← a] at s
  obtain ⟨ys, h1, h2⟩ := List.sublist_map_iff.mp s
  exact ⟨ys, h2.symm, fun z hz => b z (h1.subset hz), Nat.le_trans (sum_sub (h1.map _)) c⟩
theorem SzL.rev {n : Nat} {l : List (Rat × Rat)} (h : SzL n l) : SzL n l.reverse := by
  obtain ⟨zs, a, b, c⟩ := h
  exact ⟨zs.reverse, by rw [List.map_reverse, a], fun z hz => b z (by simpa using hz), by rw [List.map_reverse, List.sum_reverse]; exact c⟩
theorem le_sum_mem : ∀ {l : List Nat} {a : Nat}, a ∈ l → a ≤ l.sum
  | x :: l, a, h => by
    rw [List.sum_cons]
    rcases List.mem_cons.mp h with z | z
    · omega
    · have := le_sum_mem z; omega
theorem SzL.bd {n : Nat} {l : List (Rat × Rat)} (h : SzL n l) : ∀ p ∈ l, BdL n p := by
  obtain ⟨zs, a, b, c⟩ := h
  intro p hp
  rw [← a] at hp
  obtain ⟨z, hz, rfl⟩ := List.mem_map.mp hp
  refine (b z hz).mono (Nat.le_trans ?_ c)
  have : z.2 + 1 ≤ (zs.map (·.2 + 1)).sum := le_sum_mem (List.mem_map.mpr ⟨z, hz, rfl⟩)
  omega
def sumW (l : List (Rat × Rat)) : Rat := l.foldr (fun p s => p.1 + s) 0
def sumS (l : List (Rat × Rat)) : Rat := l.foldr (fun p s => p.2 + s) 0
theorem sumW_cons (p : Rat × Rat) (l : List (Rat × Rat)) : sumW (p :: l) = p.1 + sumW l := rfl
theorem sumS_cons (p : Rat × Rat) (l : List (Rat × Rat)) : sumS (p :: l) = p.2 + sumS l := rfl
theorem sumW_append : ∀ a b : List (Rat × Rat), sumW (a ++ b) = sumW a + sumW b
  | [], b => by show sumW b = 0 + sumW b; rw [Rat.zero_add]
  | x :: a, b => by rw [List.cons_append, sumW_cons, sumW_cons, sumW_append a b, Rat.add_assoc]
theorem sumS_append : ∀ a b : List (Rat × Rat), sumS (a ++ b) = sumS a + sumS b
  | [], b => by show sumS b = 0 + sumS b; rw [Rat.zero_add]
  | x :: a, b => by rw [List.cons_append, sumS_cons, sumS_cons, sumS_append a b, Rat.add_assoc]
theorem SzL.sum {n : Nat} {l : List (Rat × Rat)} (h : SzL n l) : Bd (n + 1) (sumW l) ∧ Bd (n + 1) (sumS l) := by
  obtain ⟨zs, a, b, c⟩ := h
  have main : ∀ zs : List ((Rat × Rat) × Nat), (∀ z ∈ zs, BdL z.2 z.1) → Bd ((zs.map (·.2 + 1)).sum + 1) (sumW (zs.map (·.1))) ∧ Bd ((zs.map (·.2 + 1)).sum + 1) (sumS (zs.map (·.1))) := by
    intro zs
    induction zs with
    | nil => intro _; exact ⟨Bd.zero.mpr (by omega), Bd.zero.mpr (by omega)⟩
    | cons z zs ih =>
      intro hz
      obtain ⟨i1, i2⟩ := ih fun x hx => hz x (by simp [hx])
      have hb := hz z (by simp)
      simp -implicitDefEqProofs only [List.map_cons, List.sum_cons, sumW_cons, sumS_cons]
      exact ⟨(hb.w.add i1).mono (by omega), (hb.s.add i2).mono (by omega)⟩
  obtain ⟨m1, m2⟩ := main zs b
  rw [a] at m1 m2
  exact ⟨m1.mono (by omega), m2.mono (by omega)⟩
theorem SzL.of_bd {b : Nat} : ∀ {l : List (Rat × Rat)}, (∀ p ∈ l, BdL b p) → SzL (l.length * (b + 1)) l := by
  intro l h
  refine ⟨l.map fun p => (p, b), by rw [List.map_map]; exact List.map_id'' (fun _ => rfl) l, fun z hz => ?_, ?_⟩
  · obtain ⟨p, hp, rfl⟩ := List.mem_map.mp hz
    exact h p hp
  · clear h
    induction l with
    | nil => simp
    | cons x l ih => simp -implicitDefEqProofs only [List.map_cons, List.sum_cons, List.length_cons, Nat.succ_mul]; omega
def cnt (ps : List (Rat × Rat)) (k : Option Rat) : Nat := match ps with
  | [] => 0
  | p :: ps => (if ky p = k then 1 else 0) + cnt ps k
theorem sumK_cnt {b : Nat} : ∀ (ps : List (Rat × Rat)) (k : Option Rat), (∀ p ∈ ps, BdL b p) → BdL (cnt ps k * (b + 1) + 1) (sumK ps k)
  | [], k, _ => ⟨Bd.zero.mpr (by omega), Bd.zero.mpr (by omega)⟩
  | p :: ps, k, h => by
    have ih := sumK_cnt ps k fun q hq => h q (by simp [hq])
    have hp := h p (by simp)
    rw [sumK_cons]
    unfold cnt
    split
    · refine ⟨(hp.w.add ih.w).mono ?_, (hp.s.add ih.s).mono ?_⟩ <;> (rw [Nat.add_mul]; omega)
    · exact ih.mono (by rw [Nat.zero_add]; exact Nat.le_refl _)
theorem cnt_sum : ∀ (ps : List (Rat × Rat)) (ks : List (Option Rat)), ks.Nodup → (ks.map (cnt ps)).sum ≤ ps.length
  | [], ks, _ => by
    have : ∀ ks : List (Option Rat), (ks.map (cnt [])).sum = 0 := fun ks => by
      induction ks with
      | nil => rfl
      | cons k ks ih => rw [List.map_cons, List.sum_cons, ih]; rfl
    rw [this]; exact Nat.zero_le _
  | p :: ps, ks, nd => by
    have ih := cnt_sum ps ks nd
    have e : ∀ ks : List (Option Rat), (ks.map (cnt (p :: ps))).sum = (ks.map fun k => if ky p = k then 1 else 0).sum + (ks.map (cnt ps)).sum := fun ks => by
      induction ks with
      | nil => rfl
      | cons k ks ih =>
        rw [List.map_cons, List.sum_cons, ih, List.map_cons, List.sum_cons, List.map_cons, List.sum_cons]
        show (if ky p = k then 1 else 0) + cnt ps k + _ = _
        omega
    have one : ∀ ks : List (Option Rat), ks.Nodup → (ks.map fun k => if ky p = k then 1 else 0).sum ≤ 1 := fun ks => by
      induction ks with
      | nil => intro _; simp
      | cons k ks ih =>
        intro nd
        rw [List.nodup_cons] at nd
        rw [List.map_cons, List.sum_cons]
        split
        · rename_i h
          have z : (ks.map fun k => if ky p = k then 1 else 0).sum = 0 := by
            have : ∀ x ∈ ks, ¬ ky p = x := fun x hx z => nd.1 (by rw [← h, z]; exact hx)
            clear ih nd
            induction ks with
            | nil => rfl
            | cons y ks ih2 =>
              rw [List.map_cons, List.sum_cons, if_neg (this y (by simp)), ih2 fun x hx => this x (by simp [hx])]
          omega
        · have := ih nd.2; omega
    have := one ks nd
    rw [e, List.length_cons]
    omega
structure BrOk (f : Rat) (n m : Nat) (B : List (Rat × Rat)) : Prop where
  ok : ∀ x ∈ B, LayOk f x
  sz : SzL n B
  asc : ((B.filter fun x => decide (x.1 ≠ 0)).reverse.map fun x => x.2 / x.1).Pairwise (· < ·)
  kb : ∀ x ∈ B, x.1 ≠ 0 → Bd m (x.2 / x.1)
  head : ∀ x ∈ B.drop 1, x.1 ≠ 0
/-- the keys of a brine -/
def gKeys (has : Bool) (ks : List Rat) : List (Option Rat) := (if has then [none] else []) ++ ks.reverse.map some
theorem IsG.keys {ps B : List (Rat × Rat)} (g : IsG ps B) : ∃ (has : Bool) (ks : List Rat), ks.Pairwise (· < ·) ∧ (∀ k, k ∈ gKeys has ks ↔ ∃ p ∈ ps, ky p = k) ∧ B = (gKeys has ks).map (sumK ps) ∧ (gKeys has ks).Nodup := by
  obtain ⟨ks, h1, h2, fl, h3, h4, h5⟩ := g.ex
  have nd : ks.reverse.Nodup := by
    have : ks.reverse.Pairwise (fun a b => b < a) := List.pairwise_reverse.mpr h1
    exact this.imp fun z => Rat.ne_of_gt z
  have nd2 : (ks.reverse.map some).Nodup := List.pairwise_map.mpr (nd.imp fun h z => h (by cases z; rfl))
  have ms : ∀ c, some c ∈ ks.reverse.map some ↔ ∃ p ∈ ps, ky p = some c := fun c => by
    rw [← h2 c]
    constructor
    · intro h
      obtain ⟨d, hd, e⟩ := List.mem_map.mp h
      cases e
      exact List.mem_reverse.mp hd
    · intro h
      exact List.mem_map.mpr ⟨c, List.mem_reverse.mpr h, rfl⟩
  have mn : none ∉ ks.reverse.map some := fun h => by
    obtain ⟨d, hd, e⟩ := List.mem_map.mp h
    cases e
  by_cases hN : ∃ p ∈ ps, ky p = none
  · refine ⟨true, ks, h1, fun k => ?_, ?_, ?_⟩
    · unfold gKeys
      rw [if_pos rfl]
      cases k with
      | none => simp [hN]
      | some c => rw [← ms c]; simp
    · unfold gKeys
      rw [h5, h3 hN, if_pos rfl, List.map_append, List.map_map]; rfl
    · unfold gKeys
      rw [if_pos rfl]
      exact List.nodup_cons.mpr ⟨mn, nd2⟩
  · refine ⟨false, ks, h1, fun k => ?_, ?_, ?_⟩
    · unfold gKeys
      rw [if_neg Bool.false_ne_true, List.nil_append]
      cases k with
      | none =>
        constructor
        · intro h; exact absurd h mn
        · intro h; exact absurd h hN
      | some c => exact ms c
    · unfold gKeys
      rw [h5, h4 hN, if_neg Bool.false_ne_true, List.map_append, List.map_map]; rfl
    · unfold gKeys
      rw [if_neg Bool.false_ne_true, List.nil_append]; exact nd2
theorem wet_keys {f : Rat} {ps : List (Rat × Rat)} (h : ∀ p ∈ ps, LayOk f p) : ∀ (l : List (Option Rat)), (∀ k ∈ l, ∃ p ∈ ps, ky p = k) → ((l.map (sumK ps)).filter fun x => decide (x.1 ≠ 0)).map (fun x => x.2 / x.1) = l.filterMap id
  | [], _ => rfl
  | k :: l, hk => by
    have ih := wet_keys h l fun j hj => hk j (by simp [hj])
    obtain ⟨e1, e2⟩ := ky_sumK h (hk k (by simp))
    rw [List.map_cons]
    cases k with
    | none =>
      rw [List.filter_cons_of_neg (by simpa using ky_none e1)]
      exact ih
    | some c =>
      obtain ⟨n0, es⟩ := ky_some e1
      rw [List.filter_cons_of_pos (by simpa using n0), List.map_cons, ih, (div_eq n0).mpr es]
      rfl
theorem IsG.ok {f : Rat} {b : Nat} {ps B : List (Rat × Rat)} (g : IsG ps B) (h : ∀ p ∈ ps, LayOk f p ∧ BdL b p) : BrOk f (ps.length * (b + 3)) (2 * b) B := by
  obtain ⟨has, ks, h1, h2, h3, h4⟩ := g.keys
  have hl := fun p hp => (h p hp).1
  refine ⟨fun x hx => ?_, ?_, ?_, fun x hx n0 => ?_, fun x hx => ?_⟩
  · rw [h3] at hx
    obtain ⟨k, hk, rfl⟩ := List.mem_map.mp hx
    exact (ky_sumK hl ((h2 k).mp hk)).2
  · refine ⟨(gKeys has ks).map fun k => (sumK ps k, cnt ps k * (b + 1) + 1), by rw [h3, List.map_map]; rfl, fun z hz => ?_, ?_⟩
    · obtain ⟨k, _, rfl⟩ := List.mem_map.mp hz
      exact sumK_cnt ps k fun p hp => (h p hp).2
    · have e : ∀ l : List (Option Rat), (∀ k ∈ l, 1 ≤ cnt ps k) → ((l.map fun k => (sumK ps k, cnt ps k * (b + 1) + 1)).map (·.2 + 1)).sum ≤ (l.map (cnt ps)).sum * (b + 3) := fun l => by
        induction l with
        | nil => intro _; simp
        | cons k l ih =>
          intro hk
          have i := ih fun j hj => hk j (by simp [hj])
          have c1 := hk k (by simp)
          simp -implicitDefEqProofs only [List.map_cons, List.sum_cons]
          rw [Nat.add_mul]
          have e3 : cnt ps k * (b + 3) = cnt ps k * (b + 1) + 2 * cnt ps k := by rw [Nat.mul_add, Nat.mul_add]; omega
          omega
      have pos : ∀ k ∈ gKeys has ks, 1 ≤ cnt ps k := fun k hk => by
        obtain ⟨p, hp, ep⟩ := (h2 k).mp hk
        clear h h2 h3 g hl e
        induction ps with
        | nil => simp at hp
        | cons q ps ih =>
          unfold cnt
          rcases List.mem_cons.mp hp with z | z
          · subst z; rw [if_pos ep]; omega
          · have := ih z; omega
      exact Nat.le_trans (e _ pos) (Nat.mul_le_mul_right _ (cnt_sum ps _ h4))
  · have w := wet_keys hl (gKeys has ks) fun k hk => (h2 k).mp hk
    rw [← h3] at w
    rw [List.map_reverse, w, List.pairwise_reverse]
    have e : (gKeys has ks).filterMap id = ks.reverse := by
      have e0 : ∀ l : List Rat, (l.map some).filterMap id = l := fun l => by
        induction l with
        | nil => rfl
        | cons x l ih => rw [List.map_cons]; show x :: (l.map some).filterMap id = x :: l; rw [ih]
      unfold gKeys
      rw [List.filterMap_append, e0]
      cases has <;> rfl
    rw [e, List.pairwise_reverse]
    exact h1
  · rw [h3] at hx
    obtain ⟨k, hk, rfl⟩ := List.mem_map.mp hx
    obtain ⟨e1, _⟩ := ky_sumK hl ((h2 k).mp hk)
    cases k with
    | none => exact absurd (ky_none e1) n0
    | some c =>
      obtain ⟨_, es⟩ := ky_some e1
      rw [(div_eq n0).mpr es]
      exact key_bd (N := 0) (fun p hp => (h p hp).2) ((h2 _).mp hk)
  · have : x ∈ ((gKeys has ks).drop 1).map (sumK ps) := by rw [h3, ← List.map_drop] at hx; exact hx
    obtain ⟨k, hk, rfl⟩ := List.mem_map.mp this
    have hk2 : k ∈ gKeys has ks := List.mem_of_mem_drop hk
    obtain ⟨e1, _⟩ := ky_sumK hl ((h2 k).mp hk2)
    cases k with
    | some c => exact (ky_some e1).1
    | none =>
      exfalso
      unfold gKeys at hk
      have : none ∈ ks.reverse.map some := by
        cases has with
        | true => exact hk
        | false => exact List.mem_of_mem_drop hk
      obtain ⟨d, _, e⟩ := List.mem_map.mp this
      cases e
theorem cnt_pos {k : Option Rat} : ∀ {ps : List (Rat × Rat)}, (∃ p ∈ ps, ky p = k) → 1 ≤ cnt ps k
  | [], ⟨p, hp, _⟩ => by simp at hp
  | q :: ps, ⟨p, hp, e⟩ => by
    unfold cnt
    rcases List.mem_cons.mp hp with z | z
    · subst z; rw [if_pos e]; omega
    · have := cnt_pos ⟨p, z, e⟩; omega
theorem IsG.len {ps B : List (Rat × Rat)} (g : IsG ps B) : B.length ≤ ps.length := by
  obtain ⟨has, ks, h1, h2, h3, h4⟩ := g.keys
  have e : ∀ l : List (Option Rat), (∀ k ∈ l, 1 ≤ cnt ps k) → l.length ≤ (l.map (cnt ps)).sum := fun l => by
    induction l with
    | nil => intro _; simp
    | cons x l ih =>
      intro pos
      have := ih fun k hk => pos k (by simp [hk])
      have := pos x (by simp)
      simp -implicitDefEqProofs only [List.map_cons, List.sum_cons, List.length_cons]
      omega
  rw [h3, List.length_map]
  exact Nat.le_trans (e _ fun k hk => cnt_pos ((h2 k).mp hk)) (cnt_sum ps _ h4)
/-! a comprehension over a row of known things -/
theorem lcGo_en {α : Type} {en : α → D} {b : Tg} {tt : Ev Bool} {te : Ev D} {M0 : Mem} {ρw : Env} {p : α → Bool} {g : α → D} : ∀ (l : List α) (M : Mem) (acc : List D), (∀ a ∈ l, ∃ ρ1, b (en a) ρw = some ρ1 ∧ (∀ M, Agr M0 M → tt ρ1 M = some (.ok (p a), M)) ∧ (p a = true → (g a).np = true ∧ ∀ M, Agr M0 M → te ρ1 M = some (.ok (g a), M))) → Agr M0 M → M[M0.length]? = some (some acc) → acc.length + l.length ≤ 100000 →
    ∃ M', lcGo b tt te M0.length ρw (l.map en) M = some M' ∧ M' = M.set M0.length (some (acc ++ (l.filter p).map g))
  | [], M, acc, h, ha, hM, hl => by
    refine ⟨M, rfl, ?_⟩
    have hn : M0.length < M.length := (List.getElem?_eq_some_iff.mp hM).1
    rw [List.getElem?_eq_getElem hn] at hM
    have e := Option.some.inj hM
    rw [List.filter_nil, List.map_nil, List.append_nil, ← e]
    exact (List.set_getElem_self hn).symm
  | d :: ds, M, acc, h, ha, hM, hl => by
    obtain ⟨ρ1, e1, e2, e3⟩ := h d (by simp)
    rw [List.length_cons] at hl
    have hn : M0.length < M.length := (List.getElem?_eq_some_iff.mp hM).1
    rw [List.map_cons]
    cases hp : p d with
    | true =>
      obtain ⟨e4, e5⟩ := e3 hp
      have ha2 : Agr M0 (M.set M0.length (some (acc ++ [g d]))) := fun j hj => by rw [List.getElem?_set_ne (by omega)]; exact ha j hj
      obtain ⟨M', g1, g2⟩ := lcGo_en (en := en) (p := p) (g := g) ds (M.set M0.length (some (acc ++ [g d]))) (acc ++ [g d]) (fun x hx => h x (by simp [hx])) ha2 (List.getElem?_set_self hn) (by simp; omega)
      refine ⟨M', ?_, ?_⟩
      · unfold lcGo
        rw [e1]
        dsimp only
        rw [e2 M ha, hp]
        dsimp only
        rw [e5 M ha]
        dsimp only
        rw [hM]
        dsimp only
        rw [if_pos ⟨e4, by omega⟩]
        exact g1
      · rw [g2, List.set_set, List.filter_cons_of_pos hp, List.map_cons, List.append_assoc]; rfl
    | false =>
      obtain ⟨M', g1, g2⟩ := lcGo_en (en := en) (p := p) (g := g) ds M acc (fun x hx => h x (by simp [hx])) ha hM (by omega)
      refine ⟨M', ?_, ?_⟩
      · unfold lcGo
        rw [e1]
        dsimp only
        rw [e2 M ha, hp]
        exact g1
      · rw [g2, List.filter_cons_of_neg (by simp [hp])]
theorem oLc_en {α : Type} {en : α → D} {b : Tg} {tt : Ev Bool} {te : Ev D} {ρ : Env} {vs : List Nat} {p : α → Bool} {g : α → D} {l : List α} {M : Mem} (h : ∀ a ∈ l, ∃ ρ1, b (en a) (wipeD ρ vs) = some ρ1 ∧ (∀ M', Agr M M' → tt ρ1 M' = some (.ok (p a), M')) ∧ (p a = true → (g a).np = true ∧ ∀ M', Agr M M' → te ρ1 M' = some (.ok (g a), M'))) (hl : l.length ≤ 100000) : oLc b tt te vs (l.map en) ρ M = some (.ok (.lst ((l.filter p).map g)), M) := by
  obtain ⟨M', g1, g2⟩ := lcGo_en (M0 := M) (en := en) l (M ++ [some []]) [] h (fun j hj => List.getElem?_append_left hj) (last_cell M _) (by simpa using hl)
  unfold oLc
  rw [g1]
  dsimp only
  unfold lcEnd
  have e : M'[M.length]? = some (some ((l.filter p).map g)) := by
    rw [g2, List.getElem?_set_self (by simp)]; simp
  rw [e]
  dsimp only
  have hl2 : M'.length = M.length + 1 := by rw [g2]; simp
  rw [if_pos hl2, g2, List.take_set_of_le (Nat.le_refl _), List.take_left]
theorem filter_true {α : Type} (l : List α) : l.filter (fun _ => true) = l := List.filter_eq_self.mpr fun _ _ => rfl
abbrev wetOf (B : List (Rat × Rat)) : List (Rat × Rat) := B.filter fun x => decide (x.1 ≠ 0)
theorem wet_ne {B : List (Rat × Rat)} {x : Rat × Rat} (h : x ∈ wetOf B) : x ∈ B ∧ x.1 ≠ 0 := by
  have := List.mem_filter.mp h
  exact ⟨this.1, by simpa using this.2⟩
abbrev stR (x : Rat × Rat) : Rat := x.2 / x.1
theorem stD_wet {x : Rat × Rat} (h : x.1 ≠ 0) : stD x = frQ (stR x) := by unfold stD; rw [if_neg h]
/-- the strengths above nought, rising -/
def ownOf (B : List (Rat × Rat)) : List Rat := ((wetOf B).filter fun x => decide (x.2 ≠ 0)).reverse.map stR
/-! needs -/
theorem sumW_snoc (l : List (Rat × Rat)) (x : Rat × Rat) : sumW (l ++ [x]) = sumW l + x.1 := by rw [sumW_append]; show sumW l + (x.1 + 0) = _; rw [Rat.add_zero]
theorem sumS_snoc (l : List (Rat × Rat)) (x : Rat × Rat) : sumS (l ++ [x]) = sumS l + x.2 := by rw [sumS_append]; show sumS l + (x.2 + 0) = _; rw [Rat.add_zero]
/-- need by layers -/
def posF (c : Rat) (x : Rat × Rat) : Bool := decide (0 < x.1 - x.2 / c)
def ndL (c : Rat) (l : List (Rat × Rat)) : Rat := sumW (l.filter (posF c)) - sumS (l.filter (posF c)) / c
theorem sub_div (a b c d e : Rat) : (a + b) - (c + d) / e = (a - c / e) + (b - d / e) := by
  rw [Rat.div_def, Rat.div_def, Rat.div_def, Rat.add_mul]
  grind
theorem ndL_nil (c : Rat) : ndL c [] = 0 := by
  show (0 : Rat) - 0 / c = 0
  rw [Rat.div_def, Rat.zero_mul, Rat.sub_self]
theorem ndL_cons (c : Rat) (x : Rat × Rat) (l : List (Rat × Rat)) : ndL c (x :: l) = (if posF c x = true then x.1 - x.2 / c else 0) + ndL c l := by
  unfold ndL
  by_cases h : posF c x = true
  · rw [if_pos h, List.filter_cons_of_pos h, sumW_cons, sumS_cons, sub_div]
  · rw [if_neg h, List.filter_cons_of_neg h, Rat.zero_add]
theorem ndL_append (c : Rat) : ∀ a b : List (Rat × Rat), ndL c (a ++ b) = ndL c a + ndL c b
  | [], b => by rw [ndL_nil, Rat.zero_add]; rfl
  | x :: a, b => by rw [List.cons_append, ndL_cons, ndL_cons, ndL_append c a b, Rat.add_assoc]
theorem ndL_reverse (c : Rat) : ∀ a : List (Rat × Rat), ndL c a.reverse = ndL c a
  | [] => rfl
  | x :: a => by
    rw [List.reverse_cons, ndL_append, ndL_reverse c a, ndL_cons, ndL_cons, ndL_nil, Rat.add_zero, Rat.add_comm]
theorem posF_iff {c : Rat} {x : Rat × Rat} (hc : 0 < c) (hx : 0 < x.1) : posF c x = decide (stR x < c) := by
  unfold posF
  have e : (0 < x.1 - x.2 / c) ↔ (x.2 / x.1 < c) := by
    rw [← Rat.lt_iff_sub_pos, Rat.div_lt_iff hc, Rat.div_lt_iff hx, Rat.mul_comm]
  exact decide_eq_decide.mpr e
theorem posF_dry {c : Rat} {x : Rat × Rat} (hc : 0 < c) (h0 : x.1 = 0) (hs : 0 ≤ x.2) : posF c x = false := by
  unfold posF
  refine decide_eq_false fun h => ?_
  rw [← Rat.lt_iff_sub_pos, Rat.div_lt_iff hc, h0, Rat.zero_mul] at h
  exact absurd hs (Rat.not_le.mpr h)
theorem ndL_wet {f c : Rat} (hc : 0 < c) : ∀ B : List (Rat × Rat), (∀ x ∈ B, LayOk f x) → ndL c B = ndL c (wetOf B)
  | [], _ => rfl
  | x :: B, h => by
    have ih := ndL_wet hc B fun y hy => h y (by simp [hy])
    by_cases h0 : x.1 = 0
    · rw [ndL_cons, posF_dry hc h0 (h x (by simp)).s, if_neg Bool.false_ne_true, Rat.zero_add, ih]
      unfold wetOf
      rw [List.filter_cons_of_neg (by simpa using h0)]
    · rw [ndL_cons, ih]
      unfold wetOf
      rw [List.filter_cons_of_pos (by simpa using h0), ndL_cons]
theorem wet_sub (B : List (Rat × Rat)) : (wetOf B).Sublist B := List.filter_sublist
theorem numpos (q : Rat) : decide (q.num > 0) = decide (0 < q) := by
  rw [decide_eq_decide, Rat.lt_iff]; simp
theorem positive_eq (q : Rat) (M : Mem) : F_is_positive [frQ q] M = some (.ok (.bl (decide (0 < q))), M) := by
  refine runF_pure ?_ rfl
  simp -implicitDefEqProofs only [den_is_positive, sSeq_ap, sAsg_ap, sPar_ap, sRet_ap, sIf_ap, sExpr_ap, sNext_ap, bnd_ap, ret_ap, bindR_ok, thenR_ok, dVar_ap, varR_ok, seqR_nx, seqR_rt, asgR_ok, gNm_ap, gCn_ap, gcnR_ok, gNl_ap, gTp_fr, gTp_ap, gLs_ap, dCons_ap, dNil_ap, asB_ap, dOr_ap, dAnd_ap, dNot_ap, dAndV_ap, dOrV_ap, dNotV_ap, dIf_ap, oAdd_int, oSub_int, oLt_int, oLe_int, oGt_int, oGe_int, oNeg_int, oEq_int, oNe_int, oEq_fr, oNe_fr, oEq_bl, oNe_bl, oTup_ap, oLst_ap, oCall_ap, oAbs_ap, oMax_ap, oMin_ap, oToInt_b, oToInt_i, oLen_lst, oLen_scr, oLen_tup, oIx_lst, oIx_scr, oAdd_lst, oIx_tup, oIx_fr0, oIx_fr1, ixR_ok, oItL_ap, oItT_ap, sFor_ap, startD, List.map_cons, List.map_nil, List.length_cons, List.length_nil, List.replicate_succ, List.replicate_zero, List.cons_append, List.nil_append, List.append_nil, List.getElem?_cons_zero, List.getElem?_cons_succ, List.set_cons_zero, List.set_cons_succ, Nat.reduceAdd, Nat.reduceSub, Nat.sub_self, Nat.reduceLeDiff, List.all_cons, List.all_nil, np_fr, np_int, np_bl, np_tup, np_lst, np_str, np_non, Bool.and_self, Bool.and_true, if_true_, if_false_, zero_add', if_tt, if_ff, decide_true, decide_false, Nat.le_refl, oItS_lst, oItS_tup, oTupOf_lst, oTupOf_tup, oLstOf_lst, oLstOf_tup, oRv_lst, oRv_tup, oAdd_tup, dChain_ap, asTru_bl, asTru_tup, asTru_lst, oIsN_ap, oNotN_ap, asI_ap, oSl_tup, oSl_lst, oZip_tup, oZip_lst, oAddI_ap, oEqS_ap, oNeS_ap, oNe_nil, isfr_fr q, numpos]
/-! the law's own sums -/
theorem divInt_add (s q : Rat) : Rat.divInt (s.num * (q.den : Int) + q.num * (s.den : Int)) ((s.den : Int) * (q.den : Int)) = s + q := by
  rw [Rat.add_def', ← Rat.divInt_ofNat]
  push_cast
  rfl
theorem divInt_sub (s q : Rat) : Rat.divInt (s.num * (q.den : Int) - q.num * (s.den : Int)) ((s.den : Int) * (q.den : Int)) = s - q := by
  rw [Rat.sub_def', ← Rat.divInt_ofNat]
  push_cast
  rfl
theorem divInt_div {s q : Rat} : Rat.divInt (s.num * (q.den : Int)) ((s.den : Int) * q.num) = s / q := by
  conv => rhs; rw [← Rat.num_divInt_den s, ← Rat.num_divInt_den q, Rat.div_def, Rat.inv_divInt, Rat.divInt_mul_divInt]
theorem den_ne (q : Rat) : (q.den : Int) ≠ 0 := by have := q.den_pos; omega
section
variable {x y : Rat}
theorem dd_ne (x y : Rat) : (x.den : Int) * (y.den : Int) ≠ 0 := Int.mul_ne_zero (den_ne x) (den_ne y)
theorem dd_lt (hx : Bd 1900 x) (hy : Bd 1900 y) : ((x.den : Int) * (y.den : Int)).natAbs < 2 ^ 4000 := by
  rw [Int.natAbs_mul, Int.natAbs_natCast, Int.natAbs_natCast]
  exact nat_lt_pow 4000 (mul_lt_pow hx.2 hy.2) (by decide)
theorem nat_mul_ok {i j : Int} (hi : i.natAbs < 2 ^ 1900) (hj : j.natAbs < 2 ^ 1900) : MulOk i j := MulOk.of hi hj
theorem den_l (hx : Bd 1900 x) : ((x.den : Int)).natAbs < 2 ^ 1900 := by rw [Int.natAbs_natCast]; exact hx.2
end
theorem ne_nil_frs (qs : List Rat) (ρ : Env) (M : Mem) : oNe (.tup (qs.map frQ)) (.tup []) ρ M = some (.ok (.bl (!qs.isEmpty)), M) := by
  unfold oNe
  rw [if_pos ⟨plL_frs qs, rfl, (shaped_frs qs).2, rfl⟩]
  cases qs <;> rfl
/-- a strength for f -/
structure StrOk (f : Rat) (k : Nat) (c : Rat) : Prop where
  pos : 0 < c
  le : c ≤ f
  bd : Bd k c
/-! sums over a brine -/
def sumF (φ : Rat × Rat → Rat) (l : List (Rat × Rat)) : Rat := l.foldr (fun p s => φ p + s) 0
theorem sumF_cons (φ : Rat × Rat → Rat) (p : Rat × Rat) (l : List (Rat × Rat)) : sumF φ (p :: l) = φ p + sumF φ l := rfl
theorem sumF_append (φ : Rat × Rat → Rat) : ∀ a b : List (Rat × Rat), sumF φ (a ++ b) = sumF φ a + sumF φ b
  | [], b => by show sumF φ b = 0 + sumF φ b; rw [Rat.zero_add]
  | x :: a, b => by rw [List.cons_append, sumF_cons, sumF_cons, sumF_append φ a b, Rat.add_assoc]
theorem sumF_snoc (φ : Rat × Rat → Rat) (l : List (Rat × Rat)) (x : Rat × Rat) : sumF φ (l ++ [x]) = sumF φ l + φ x := by rw [sumF_append]; show sumF φ l + (φ x + 0) = _; rw [Rat.add_zero]
theorem sumW_F (l : List (Rat × Rat)) : sumW l = sumF (·.1) l := rfl
theorem sumS_F (l : List (Rat × Rat)) : sumS l = sumF (·.2) l := rfl
structure SumOk (φ : Rat × Rat → Rat) (l : List (Rat × Rat)) : Prop where
  el : ∀ x ∈ l, Bd 1800 (φ x)
  pre : ∀ a b, l = a ++ b → Bd 1800 (sumF φ a)
theorem SumOk.w {n : Nat} {l : List (Rat × Rat)} (h : SzL n l) (hn : n + 1 ≤ 1800) : SumOk (·.1) l := ⟨fun x hx => (h.bd x hx).w.mono (by omega), fun a b e => (h.sub (by rw [e]; exact List.sublist_append_left _ _)).sum.1.mono hn⟩
theorem SumOk.s {n : Nat} {l : List (Rat × Rat)} (h : SzL n l) (hn : n + 1 ≤ 1800) : SumOk (·.2) l := ⟨fun x hx => (h.bd x hx).s.mono (by omega), fun a b e => (h.sub (by rw [e]; exact List.sublist_append_left _ _)).sum.2.mono hn⟩
theorem summed_loop {φ : Rat × Rat → Rat} {S : D} {l : List (Rat × Rat)} (h : SumOk φ l) (M : Mem) : ∀ (rest pre : List (Rat × Rat)) (o : Option D), l = pre ++ rest →
    ∃ o', forF (gNm 2) den_summed_L1 (rest.map fun x => frQ (φ x)) [some S, some (frQ (sumF φ pre)), o] M = some (.nx [some S, some (frQ (sumF φ l)), o'], M)
  | [], pre, o, e => ⟨o, by rw [List.append_nil] at e; subst e; rfl⟩
  | x :: rest, pre, o, e => by
    obtain ⟨o', ih⟩ := summed_loop (S := S) h M rest (pre ++ [x]) (some (frQ (φ x))) (by rw [e]; simp)
    refine ⟨o', ?_⟩
    have pl := plus_eq ((h.pre pre (x :: rest) e).mono (n := 4000) (by decide)) ((h.el x (by rw [e]; simp)).mono (n := 4000) (by decide))
    rw [List.map_cons, forF_cons, gNm_ap, forB_ok, ← ih, sumF_snoc]
    simp -implicitDefEqProofs only [den_summed_L1, sSeq_ap, sAsg_ap, sPar_ap, sRet_ap, sIf_ap, sExpr_ap, sNext_ap, bnd_ap, ret_ap, bindR_ok, thenR_ok, dVar_ap, varR_ok, seqR_nx, seqR_rt, asgR_ok, gNm_ap, gCn_ap, gcnR_ok, gNl_ap, gTp_fr, gTp_ap, gLs_ap, dCons_ap, dNil_ap, asB_ap, dOr_ap, dAnd_ap, dNot_ap, dAndV_ap, dOrV_ap, dNotV_ap, dIf_ap, oAdd_int, oSub_int, oLt_int, oLe_int, oGt_int, oGe_int, oNeg_int, oEq_int, oNe_int, oEq_fr, oNe_fr, oEq_bl, oNe_bl, oTup_ap, oLst_ap, oCall_ap, oAbs_ap, oMax_ap, oMin_ap, oToInt_b, oToInt_i, oLen_lst, oLen_scr, oLen_tup, oIx_lst, oIx_scr, oAdd_lst, oIx_tup, oIx_fr0, oIx_fr1, ixR_ok, oItL_ap, oItT_ap, sFor_ap, startD, List.map_cons, List.map_nil, List.length_cons, List.length_nil, List.replicate_succ, List.replicate_zero, List.cons_append, List.nil_append, List.append_nil, List.getElem?_cons_zero, List.getElem?_cons_succ, List.set_cons_zero, List.set_cons_succ, Nat.reduceAdd, Nat.reduceSub, Nat.sub_self, Nat.reduceLeDiff, List.all_cons, List.all_nil, np_fr, np_int, np_bl, np_tup, np_lst, np_str, np_non, Bool.and_self, Bool.and_true, if_true_, if_false_, zero_add', if_tt, if_ff, decide_true, decide_false, Nat.le_refl, oItS_lst, oItS_tup, oTupOf_lst, oTupOf_tup, oLstOf_lst, oLstOf_tup, oRv_lst, oRv_tup, oAdd_tup, dChain_ap, asTru_bl, asTru_tup, asTru_lst, oIsN_ap, oNotN_ap, asI_ap, oSl_tup, oSl_lst, oZip_tup, oZip_lst, oAddI_ap, oEqS_ap, oNeS_ap, oNe_nil, pl, ofR_nx]
theorem summed_of {φ : Rat × Rat → Rat} {l : List (Rat × Rat)} (h : SumOk φ l) (M : Mem) : F_summed [.lst (l.map fun x => frQ (φ x))] M = some (.ok (frQ (sumF φ l)), M) := by
  refine runF_pure ?_ rfl
  obtain ⟨o', e⟩ := summed_loop (S := .lst (l.map fun x => frQ (φ x))) h M l [] none rfl
  have e0 : sumF φ [] = 0 := rfl
  rw [e0] at e
  simp -implicitDefEqProofs only [den_summed, sSeq_ap, sAsg_ap, sPar_ap, sRet_ap, sIf_ap, sExpr_ap, sNext_ap, bnd_ap, ret_ap, bindR_ok, thenR_ok, dVar_ap, varR_ok, seqR_nx, seqR_rt, asgR_ok, gNm_ap, gCn_ap, gcnR_ok, gNl_ap, gTp_fr, gTp_ap, gLs_ap, dCons_ap, dNil_ap, asB_ap, dOr_ap, dAnd_ap, dNot_ap, dAndV_ap, dOrV_ap, dNotV_ap, dIf_ap, oAdd_int, oSub_int, oLt_int, oLe_int, oGt_int, oGe_int, oNeg_int, oEq_int, oNe_int, oEq_fr, oNe_fr, oEq_bl, oNe_bl, oTup_ap, oLst_ap, oCall_ap, oAbs_ap, oMax_ap, oMin_ap, oToInt_b, oToInt_i, oLen_lst, oLen_scr, oLen_tup, oIx_lst, oIx_scr, oAdd_lst, oIx_tup, oIx_fr0, oIx_fr1, ixR_ok, oItL_ap, oItT_ap, sFor_ap, startD, List.map_cons, List.map_nil, List.length_cons, List.length_nil, List.replicate_succ, List.replicate_zero, List.cons_append, List.nil_append, List.append_nil, List.getElem?_cons_zero, List.getElem?_cons_succ, List.set_cons_zero, List.set_cons_succ, Nat.reduceAdd, Nat.reduceSub, Nat.sub_self, Nat.reduceLeDiff, List.all_cons, List.all_nil, np_fr, np_int, np_bl, np_tup, np_lst, np_str, np_non, Bool.and_self, Bool.and_true, if_true_, if_false_, zero_add', if_tt, if_ff, decide_true, decide_false, Nat.le_refl, oItS_lst, oItS_tup, oTupOf_lst, oTupOf_tup, oLstOf_lst, oLstOf_tup, oRv_lst, oRv_tup, oAdd_tup, dChain_ap, asTru_bl, asTru_tup, asTru_lst, oIsN_ap, oNotN_ap, asI_ap, oSl_tup, oSl_lst, oZip_tup, oZip_lst, oAddI_ap, oEqS_ap, oNeS_ap, oNe_nil, nought_fr, e]
theorem lc_w {B : List (Rat × Rat)} (hl : B.length ≤ 2000) (M : Mem) : oLc (gTp 2 (gCn (gNm 1) (gCn (gNm 2) gNl))) (ret true) (dVar 1) [1, 2] (B.map lyQ) [some (.tup (B.map lyQ)), none, none] M = some (.ok (.lst (B.map fun x => frQ x.1)), M) := by
  have := oLc_en (en := lyQ) (b := gTp 2 (gCn (gNm 1) (gCn (gNm 2) gNl))) (tt := ret true) (te := dVar 1) (ρ := [some (.tup (B.map lyQ)), none, none]) (vs := [1, 2]) (p := fun _ => true) (g := fun x => frQ x.1) (l := B) (M := M) (fun x _ => ⟨[some (.tup (B.map lyQ)), some (frQ x.1), some (frQ x.2)], rfl, fun M' _ => rfl, fun _ => ⟨rfl, fun M' _ => rfl⟩⟩) (by omega)
  rw [filter_true] at this
  exact this
theorem lc_s {B : List (Rat × Rat)} (hl : B.length ≤ 2000) (M : Mem) : oLc (gTp 2 (gCn (gNm 1) (gCn (gNm 2) gNl))) (ret true) (dVar 2) [1, 2] (B.map lyQ) [some (.tup (B.map lyQ)), none, none] M = some (.ok (.lst (B.map fun x => frQ x.2)), M) := by
  have := oLc_en (en := lyQ) (b := gTp 2 (gCn (gNm 1) (gCn (gNm 2) gNl))) (tt := ret true) (te := dVar 2) (ρ := [some (.tup (B.map lyQ)), none, none]) (vs := [1, 2]) (p := fun _ => true) (g := fun x => frQ x.2) (l := B) (M := M) (fun x _ => ⟨[some (.tup (B.map lyQ)), some (frQ x.1), some (frQ x.2)], rfl, fun M' _ => rfl, fun _ => ⟨rfl, fun M' _ => rfl⟩⟩) (by omega)
  rw [filter_true] at this
  exact this
abbrev dryOf (B : List (Rat × Rat)) : List (Rat × Rat) := B.filter fun x => decide (x.1 = 0)
/-- the strength of the first of a row, None of none -/
def hdS : List (Rat × Rat) → D
  | [] => .non
  | x :: _ => frQ (stR x)
theorem lastI {α : Type} (l : List α) (h : l ≠ []) : ∃ x r, l.reverse = x :: r ∧ atI l (-1) = some x := by
  obtain ⟨x, r, e⟩ : ∃ x r, l.reverse = x :: r := by
    cases q : l.reverse with
    | nil => exact absurd (List.reverse_eq_nil_iff.mp q) h
    | cons x r => exact ⟨x, r, rfl⟩
  refine ⟨x, r, e, ?_⟩
  have el : l = r.reverse ++ [x] := by rw [← List.reverse_reverse l, e, List.reverse_cons]
  have hp : 0 < l.length := List.length_pos_iff.mpr h
  unfold atI ixN
  rw [if_neg (by decide)]
  have : (-1 : Int) + (l.length : Int) = ((l.length - 1 : Nat) : Int) := by omega
  rw [el]
  simp
  rw [if_pos (by omega)]
  have e2 : ((-1 : Int) + ((r.length : Int) + 1)).toNat = r.length := by omega
  rw [Option.bind_some, e2]
  simp
/-! shares -/
def shr (t : Rat) (B : List (Rat × Rat)) : List (Rat × Rat) := if t = 0 then [] else B.map fun x => (x.1 * t, x.2 * t)
/-! alike rows -/
theorem eqv_ly (p q : Rat × Rat) : PyData.eqv (toPy (lyQ p)) (toPy (lyQ q)) = decide (p = q) := by
  have h1 := eqv_fr p.1 q.1
  have h2 := eqv_fr p.2 q.2
  have e : PyData.eqv (toPy (lyQ p)) (toPy (lyQ q)) = (PyData.eqv (toPy (frQ p.1)) (toPy (frQ q.1)) && PyData.eqv (toPy (frQ p.2)) (toPy (frQ q.2))) := by
    simp -implicitDefEqProofs only [lyQ, toPy, toPys, PyData.eqv, PyData.eqvAll, Bool.and_true]
  rw [e, h1, h2, Bool.eq_iff_iff]
  simp -implicitDefEqProofs only [Bool.and_eq_true, decide_eq_true_eq]
  exact ⟨fun h => Prod.ext h.1 h.2, fun h => by rw [h]; exact ⟨rfl, rfl⟩⟩
theorem eqv_lys : ∀ ps qs : List (Rat × Rat), PyData.eqvAll (toPys (ps.map lyQ)) (toPys (qs.map lyQ)) = decide (ps = qs)
  | [], [] => by simp [toPys, PyData.eqvAll]
  | [], _ :: _ => by simp [toPys, PyData.eqvAll]
  | _ :: _, [] => by simp [toPys, PyData.eqvAll]
  | p :: ps, q :: qs => by
    rw [List.map_cons, List.map_cons, toPys, toPys, PyData.eqvAll, eqv_ly, eqv_lys ps qs, Bool.eq_iff_iff]
    simp
theorem oEq_tlys (ps qs : List (Rat × Rat)) (ρ : Env) (M : Mem) : oEq (.tup (ps.map lyQ)) (.tup (qs.map lyQ)) ρ M = some (.ok (.bl (decide (ps = qs))), M) := by
  unfold oEq
  rw [if_pos ⟨plL_lys ps, plL_lys qs, (shaped_lys ps).2, (shaped_lys qs).2⟩]
  show some (Res.ok (D.bl (PyData.eqvAll (toPys (ps.map lyQ)) (toPys (qs.map lyQ)))), M) = _
  rw [eqv_lys]
theorem oNe_tlys (ps qs : List (Rat × Rat)) (ρ : Env) (M : Mem) : oNe (.tup (ps.map lyQ)) (.tup (qs.map lyQ)) ρ M = some (.ok (.bl (!decide (ps = qs))), M) := by
  unfold oNe
  rw [if_pos ⟨plL_lys ps, plL_lys qs, (shaped_lys ps).2, (shaped_lys qs).2⟩]
  show some (Res.ok (D.bl (!PyData.eqvAll (toPys (ps.map lyQ)) (toPys (qs.map lyQ)))), M) = _
  rw [eqv_lys]
theorem Sh.ly {p : Rat × Rat} (h : BdL 1900 p) : Sh 2 13 (lyQ p) := by
  have : Sh (1 + 1) ([frQ p.1, frQ p.2].length * (5 + 1) + 1) (.tup [frQ p.1, frQ p.2]) := Sh.tup (by
    simp -implicitDefEqProofs only [List.mem_cons, List.not_mem_nil, or_false]
    rintro d (rfl | rfl)
    · exact Sh.fr h.w
    · exact Sh.fr h.s)
  exact this
theorem Sh.lys {ps : List (Rat × Rat)} (h : ∀ p ∈ ps, BdL 1900 p) : Sh 3 (ps.length * 14 + 1) (.tup (ps.map lyQ)) := by
  have := Sh.tup (k := 2) (n := 13) (ds := ps.map lyQ) (by
    simp -implicitDefEqProofs only [List.mem_map]
    rintro d ⟨p, hp, rfl⟩
    exact Sh.ly (h p hp))
  rw [List.length_map] at this
  exact this
/-! rows that make the same brine -/
abbrev HasK (ps : List (Rat × Rat)) (k : Option Rat) : Prop := ∃ p ∈ ps, ky p = k
structure Same (ps qs : List (Rat × Rat)) : Prop where
  key : ∀ k, HasK ps k ↔ HasK qs k
  sum : ∀ k, sumK ps k = sumK qs k
theorem Same.symm {a b : List (Rat × Rat)} (h : Same a b) : Same b a := ⟨fun k => (h.key k).symm, fun k => (h.sum k).symm⟩
theorem Same.trans {a b c : List (Rat × Rat)} (h : Same a b) (g : Same b c) : Same a c := ⟨fun k => (h.key k).trans (g.key k), fun k => (h.sum k).trans (g.sum k)⟩
theorem Same.rfl' (a : List (Rat × Rat)) : Same a a := ⟨fun _ => Iff.rfl, fun _ => rfl⟩
theorem hasK_append (a b : List (Rat × Rat)) (k : Option Rat) : HasK (a ++ b) k ↔ HasK a k ∨ HasK b k := by
  constructor
  · rintro ⟨p, hp, e⟩
    rcases List.mem_append.mp hp with z | z
    · exact .inl ⟨p, z, e⟩
    · exact .inr ⟨p, z, e⟩
  · rintro (⟨p, hp, e⟩ | ⟨p, hp, e⟩)
    · exact ⟨p, List.mem_append_left _ hp, e⟩
    · exact ⟨p, List.mem_append_right _ hp, e⟩
theorem Same.app {a b c d : List (Rat × Rat)} (h : Same a b) (g : Same c d) : Same (a ++ c) (b ++ d) :=
  ⟨fun k => by rw [hasK_append, hasK_append, h.key k, g.key k], fun k => by rw [sumK_append, sumK_append, h.sum k, g.sum k]⟩
theorem Same.comm (a b : List (Rat × Rat)) : Same (a ++ b) (b ++ a) :=
  ⟨fun k => by rw [hasK_append, hasK_append]; exact Or.comm, fun k => by rw [sumK_append, sumK_append, Rat.add_comm, Rat.add_comm (sumK a k).2]⟩
theorem IsG.congr {ps qs B : List (Rat × Rat)} (g : IsG ps B) (h : Same ps qs) : IsG qs B := by
  obtain ⟨ks, a, b, fl, c, d, e⟩ := g.ex
  refine ⟨ks, a, fun c => (b c).trans (h.key _), fl, fun z => ?_, fun z => d fun y => z ((h.key _).mp y), ?_⟩
  · rw [c ((h.key _).mpr z), h.sum]
  · rw [e]
    congr 1
    exact List.map_congr_left fun c _ => h.sum _
theorem asc_eq : ∀ {l l' : List Rat}, l.Pairwise (· < ·) → l'.Pairwise (· < ·) → (∀ c, c ∈ l ↔ c ∈ l') → l = l'
  | [], [], _, _, _ => rfl
  | [], y :: l', _, _, h => by have := (h y).mpr (by simp); simp at this
  | x :: l, [], _, _, h => by have := (h x).mp (by simp); simp at this
  | x :: l, y :: l', h1, h2, h => by
    rw [List.pairwise_cons] at h1 h2
    have e : x = y := by
      rcases List.mem_cons.mp ((h x).mp (by simp)) with z | z
      · exact z
      · rcases List.mem_cons.mp ((h y).mpr (by simp)) with w | w
        · exact w.symm
        · exact absurd (h1.1 y w) (Rat.not_lt.mpr (Rat.le_of_lt (h2.1 x z)))
    subst e
    rw [asc_eq h1.2 h2.2 fun c => ?_]
    constructor
    · intro z
      rcases List.mem_cons.mp ((h c).mp (by simp [z])) with w | w
      · subst w; exact absurd (h1.1 c z) Rat.lt_irrefl
      · exact w
    · intro z
      rcases List.mem_cons.mp ((h c).mpr (by simp [z])) with w | w
      · subst w; exact absurd (h2.1 c z) Rat.lt_irrefl
      · exact w
theorem IsG.uniq {ps B C : List (Rat × Rat)} (g : IsG ps B) (h : IsG ps C) : B = C := by
  obtain ⟨ks, a, b, fl, c, d, e⟩ := g.ex
  obtain ⟨ks', a', b', fl', c', d', e'⟩ := h.ex
  have ek : ks = ks' := asc_eq a a' fun x => (b x).trans (b' x).symm
  have ef : fl = fl' := by
    by_cases z : ∃ p ∈ ps, ky p = none
    · rw [c z, c' z]
    · rw [d z, d' z]
  rw [e, e', ek, ef]
theorem IsG.nil : IsG [] [] := ⟨[], .nil, fun c => by simp, [], fun ⟨p, hp, _⟩ => by simp at hp, fun _ => rfl, rfl⟩
theorem sumK_no {k : Option Rat} : ∀ {ps : List (Rat × Rat)}, ¬ HasK ps k → sumK ps k = (0, 0)
  | [], _ => rfl
  | p :: ps, h => by
    rw [sumK_cons, if_neg fun z => h ⟨p, by simp, z⟩]
    exact sumK_no fun ⟨q, hq, e⟩ => h ⟨q, by simp [hq], e⟩
theorem sumK_keys {ps : List (Rat × Rat)} {k : Option Rat} : ∀ (l : List (Option Rat)), l.Nodup → (∀ j ∈ l, ky (sumK ps j) = j) → sumK (l.map (sumK ps)) k = if k ∈ l then sumK ps k else (0, 0)
  | [], _, _ => by simp; rfl
  | j :: l, nd, h => by
    rw [List.nodup_cons] at nd
    have ih := sumK_keys (k := k) l nd.2 fun i hi => h i (by simp [hi])
    rw [List.map_cons, sumK_cons, h j (by simp), ih]
    by_cases e : j = k
    · subst e
      rw [if_pos rfl, if_neg nd.1, if_pos (by simp)]
      rw [Rat.add_zero, Rat.add_zero]
    · rw [if_neg e]
      by_cases m : k ∈ l
      · rw [if_pos m, if_pos (by simp [m])]
      · rw [if_neg m, if_neg (by simp [m, Ne.symm e])]
theorem IsG.same {f : Rat} {ps B : List (Rat × Rat)} (g : IsG ps B) (hl : ∀ p ∈ ps, LayOk f p) : Same B ps := by
  obtain ⟨has, ks, h1, h2, h3, h4⟩ := g.keys
  have hk : ∀ j ∈ gKeys has ks, ky (sumK ps j) = j := fun j hj => (ky_sumK hl ((h2 j).mp hj)).1
  refine ⟨fun k => ?_, fun k => ?_⟩
  · refine Iff.trans ?_ (h2 k)
    rw [h3]
    constructor
    · rintro ⟨p, hp, e⟩
      obtain ⟨j, hj, rfl⟩ := List.mem_map.mp hp
      rw [hk j hj] at e
      rw [← e]; exact hj
    · intro z
      exact ⟨sumK ps k, List.mem_map.mpr ⟨k, z, rfl⟩, hk k z⟩
  · rw [h3, sumK_keys _ h4 hk]
    by_cases m : k ∈ gKeys has ks
    · rw [if_pos m]
    · rw [if_neg m, sumK_no fun z => m ((h2 k).mpr z)]
/-! sizes -/
theorem sumK_filter : ∀ (l : List (Rat × Rat)) (k : Option Rat), sumK l k = (sumW (l.filter fun p => decide (ky p = k)), sumS (l.filter fun p => decide (ky p = k)))
  | [], _ => rfl
  | p :: l, k => by
    rw [sumK_cons, sumK_filter l k]
    by_cases e : ky p = k
    · rw [if_pos e, List.filter_cons_of_pos (by simpa using e), sumW_cons, sumS_cons]
    · rw [if_neg e, List.filter_cons_of_neg (by simpa using e)]
theorem SzL.sumK {n : Nat} {l : List (Rat × Rat)} (h : SzL n l) (k : Option Rat) : BdL (n + 1) (Bw.sumK l k) := by
  rw [sumK_filter]
  have := (h.sub (List.filter_sublist (p := fun p => decide (ky p = k)))).sum
  exact ⟨this.1, this.2⟩
theorem SzL.app {m n : Nat} {a b : List (Rat × Rat)} (h : SzL m a) (g : SzL n b) : SzL (m + n) (a ++ b) := by
  obtain ⟨zs, a1, b1, c1⟩ := h
  obtain ⟨ys, a2, b2, c2⟩ := g
  refine ⟨zs ++ ys, by rw [List.map_append, a1, a2], fun z hz => ?_, by rw [List.map_append, List.sum_append]; omega⟩
  rcases List.mem_append.mp hz with z | z
  · exact b1 _ z
  · exact b2 _ z
/-! a brine and a row that it is made of -/
structure BG (f : Rat) (ps B : List (Rat × Rat)) : Prop where
  g : IsG ps B
  lay : ∀ p ∈ ps, LayOk f p ∧ BdL 40 p
  len : ps.length ≤ 30
theorem BG.br {f : Rat} {ps B : List (Rat × Rat)} (h : BG f ps B) : BrOk f (ps.length * 43) 80 B := h.g.ok h.lay
theorem BG.ln {f : Rat} {ps B : List (Rat × Rat)} (h : BG f ps B) : B.length ≤ 30 := Nat.le_trans h.g.len h.len
theorem BG.same {f : Rat} {ps B : List (Rat × Rat)} (h : BG f ps B) : Same B ps := h.g.same fun p hp => (h.lay p hp).1
theorem BG.nil (f : Rat) : BG f [] [] := ⟨IsG.nil, fun p hp => by simp at hp, by simp⟩
theorem BG.eq {f : Rat} {ps qs A B : List (Rat × Rat)} (h : BG f ps A) (g : BG f qs B) (s : Same ps qs) : A = B := (h.g.congr s).uniq g.g
/-! totals -/
structure AddK (G : Option Rat → Rat × Rat → Rat) : Prop where
  z : ∀ k, G k (0, 0) = 0
  a : ∀ k p q, G k (p.1 + q.1, p.2 + q.2) = G k p + G k q
abbrev totK (G : Option Rat → Rat × Rat → Rat) (l : List (Rat × Rat)) : Rat := sumF (fun p => G (ky p) p) l
def sumO (ψ : Option Rat → Rat) (l : List (Option Rat)) : Rat := l.foldr (fun k s => ψ k + s) 0
theorem sumO_cons (ψ : Option Rat → Rat) (k : Option Rat) (l : List (Option Rat)) : sumO ψ (k :: l) = ψ k + sumO ψ l := rfl
theorem sumO_zero {ψ : Option Rat → Rat} : ∀ {l : List (Option Rat)}, (∀ k ∈ l, ψ k = 0) → sumO ψ l = 0
  | [], _ => rfl
  | k :: l, h => by rw [sumO_cons, h k (by simp), sumO_zero fun j hj => h j (by simp [hj]), Rat.add_zero]
theorem sumO_one {j : Option Rat} {v : Rat} : ∀ {l : List (Option Rat)}, l.Nodup → j ∈ l → sumO (fun k => if j = k then v else 0) l = v
  | k :: l, nd, h => by
    rw [List.nodup_cons] at nd
    rw [sumO_cons]
    by_cases e : j = k
    · subst e
      rw [if_pos rfl, sumO_zero fun i hi => if_neg fun z => nd.1 (by rw [z]; exact hi), Rat.add_zero]
    · rw [if_neg e, Rat.zero_add]
      exact sumO_one nd.2 ((List.mem_cons.mp h).resolve_left e)
theorem sumO_add {ψ χ : Option Rat → Rat} : ∀ l : List (Option Rat), sumO (fun k => ψ k + χ k) l = sumO ψ l + sumO χ l
  | [] => by show (0 : Rat) = 0 + 0; rw [Rat.add_zero]
  | k :: l => by
    rw [sumO_cons, sumO_cons, sumO_cons, sumO_add l]
    grind
theorem sumO_congr {ψ χ : Option Rat → Rat} : ∀ {l : List (Option Rat)}, (∀ k ∈ l, ψ k = χ k) → sumO ψ l = sumO χ l
  | [], _ => rfl
  | k :: l, h => by rw [sumO_cons, sumO_cons, h k (by simp), sumO_congr fun j hj => h j (by simp [hj])]
theorem totK_keys {G : Option Rat → Rat × Rat → Rat} (hG : AddK G) {l : List (Option Rat)} (nd : l.Nodup) : ∀ ps : List (Rat × Rat), (∀ p ∈ ps, ky p ∈ l) → sumO (fun k => G k (sumK ps k)) l = totK G ps
  | [], _ => sumO_zero fun k _ => hG.z k
  | p :: ps, h => by
    have ih := totK_keys hG nd ps fun q hq => h q (by simp [hq])
    have e : ∀ k ∈ l, G k (sumK (p :: ps) k) = (if ky p = k then G (ky p) p else 0) + G k (sumK ps k) := fun k _ => by
      rw [sumK_cons]
      by_cases z : ky p = k
      · rw [if_pos z, if_pos z, hG.a, z]
      · rw [if_neg z, if_neg z, Rat.zero_add]
    rw [sumO_congr e, sumO_add, sumO_one nd (h p (by simp)), ih]
    rfl
theorem totK_map {G : Option Rat → Rat × Rat → Rat} {ps : List (Rat × Rat)} : ∀ (l : List (Option Rat)), (∀ j ∈ l, ky (sumK ps j) = j) → totK G (l.map (sumK ps)) = sumO (fun k => G k (sumK ps k)) l
  | [], _ => rfl
  | k :: l, h => by
    rw [List.map_cons, sumO_cons, ← totK_map l fun j hj => h j (by simp [hj])]
    show G (ky (sumK ps k)) (sumK ps k) + _ = _
    rw [h k (by simp)]
    rfl
theorem BG.tot {f : Rat} {ps B : List (Rat × Rat)} {G : Option Rat → Rat × Rat → Rat} (h : BG f ps B) (hG : AddK G) : totK G B = totK G ps := by
  obtain ⟨has, ks, h1, h2, h3, h4⟩ := h.g.keys
  rw [h3, totK_map _ fun j hj => (ky_sumK (fun p hp => (h.lay p hp).1) ((h2 j).mp hj)).1]
  exact totK_keys hG h4 ps fun p hp => (h2 _).mpr ⟨p, hp, rfl⟩
theorem BG.add {f : Rat} {ps qs A B C : List (Rat × Rat)} {G : Option Rat → Rat × Rat → Rat} (hG : AddK G) (hA : BG f ps A) (hB : BG f qs B) (hC : BG f (ps ++ qs) C) : totK G A + totK G B = totK G C := by
  rw [hA.tot hG, hB.tot hG, hC.tot hG]
  exact (sumF_append _ _ _).symm
/-! totals of water, salt, fallen salt, needs -/
def Gw (_ : Option Rat) (p : Rat × Rat) : Rat := p.1
def Gs (_ : Option Rat) (p : Rat × Rat) : Rat := p.2
def Gd : Option Rat → Rat × Rat → Rat
  | none, p => p.2
  | some _, _ => 0
def Gn (c : Rat) : Option Rat → Rat × Rat → Rat
  | none, _ => 0
  | some s, p => if s < c then p.1 - p.2 / c else 0
theorem addW : AddK Gw := ⟨fun _ => rfl, fun _ _ _ => rfl⟩
theorem addS : AddK Gs := ⟨fun _ => rfl, fun _ _ _ => rfl⟩
theorem addD : AddK Gd := ⟨fun k => by cases k <;> rfl, fun k p q => by
  cases k
  · rfl
  · show (0 : Rat) = 0 + 0; rw [Rat.add_zero]⟩
theorem addN (c : Rat) : AddK (Gn c) := ⟨fun k => by
  cases k
  · rfl
  · show (if _ then (0 : Rat) - 0 / c else 0) = 0
    rw [Rat.div_def, Rat.zero_mul, Rat.sub_self]; split <;> rfl, fun k p q => by
  cases k with
  | none => show (0 : Rat) = 0 + 0; rw [Rat.add_zero]
  | some s =>
    show (if s < c then (p.1 + q.1) - (p.2 + q.2) / c else 0) = (if s < c then p.1 - p.2 / c else 0) + (if s < c then q.1 - q.2 / c else 0)
    by_cases h : s < c
    · rw [if_pos h, if_pos h, if_pos h, sub_div]
    · rw [if_neg h, if_neg h, if_neg h, Rat.add_zero]⟩
theorem totW (l : List (Rat × Rat)) : sumW l = totK Gw l := rfl
theorem totS (l : List (Rat × Rat)) : sumS l = totK Gs l := rfl
theorem totD : ∀ l : List (Rat × Rat), sumS (dryOf l) = totK Gd l
  | [] => rfl
  | x :: l => by
    have ih := totD l
    show _ = Gd (ky x) x + totK Gd l
    unfold dryOf
    by_cases h : x.1 = 0
    · have hk : ky x = none := by unfold ky; rw [if_pos h]
      rw [List.filter_cons_of_pos (by simpa using h), sumS_cons, hk, ← ih]
      rfl
    · have hk : ky x = some (x.2 / x.1) := by unfold ky; rw [if_neg h]
      rw [List.filter_cons_of_neg (by simpa using h), hk, ← ih]
      show _ = 0 + _
      rw [Rat.zero_add]
theorem totN {f c : Rat} (hc : 0 < c) : ∀ l : List (Rat × Rat), (∀ x ∈ l, LayOk f x) → ndL c l = totK (Gn c) l
  | [], _ => ndL_nil c
  | x :: l, hl => by
    have ih := totN hc l fun y hy => hl y (by simp [hy])
    have lx := hl x (by simp)
    show _ = Gn c (ky x) x + totK (Gn c) l
    rw [ndL_cons, ih]
    congr 1
    by_cases h : x.1 = 0
    · have hk : ky x = none := by unfold ky; rw [if_pos h]
      rw [hk, posF_dry hc h lx.s, if_neg Bool.false_ne_true]
      rfl
    · have hk : ky x = some (x.2 / x.1) := by unfold ky; rw [if_neg h]
      rw [hk, posF_iff hc (pos_of lx h)]
      show _ = if x.2 / x.1 < c then _ else _
      by_cases z : stR x < c
      · rw [if_pos (decide_eq_true z), if_pos z]
      · rw [if_neg (by simpa using z), if_neg z]
theorem ndL_bd {n k : Nat} {c : Rat} {l : List (Rat × Rat)} (h : SzL n l) (hc : Bd k c) : Bd (2 * n + k + 3) (ndL c l) := by
  have s := (h.sub (List.filter_sublist (p := posF c))).sum
  exact (s.1.sub (s.2.div hc)).mono (by omega)
/-! shares of a brine -/
theorem ky_scl {t : Rat} (h : t ≠ 0) (x : Rat × Rat) : ky (x.1 * t, x.2 * t) = ky x := by
  unfold ky
  by_cases z : x.1 = 0
  · rw [if_pos z, if_pos (by show x.1 * t = 0; rw [z, Rat.zero_mul])]
  · have nz : x.1 * t ≠ 0 := fun e => (Rat.mul_eq_zero.mp e).elim z h
    rw [if_neg z, if_neg nz]
    congr 1
    show x.2 * t / (x.1 * t) = x.2 / x.1
    rw [div_eq nz]
    have := Rat.div_mul_cancel (a := x.2) z
    rw [← Rat.mul_assoc, this]
theorem sumK_scl {t : Rat} (h : t ≠ 0) (k : Option Rat) : ∀ ps : List (Rat × Rat), sumK (ps.map fun x => (x.1 * t, x.2 * t)) k = ((sumK ps k).1 * t, (sumK ps k).2 * t)
  | [] => by show ((0 : Rat), (0 : Rat)) = (0 * t, 0 * t); rw [Rat.zero_mul]
  | p :: ps => by
    rw [List.map_cons, sumK_cons, sumK_cons, ky_scl h, sumK_scl h k ps]
    split
    · rw [Rat.add_mul, Rat.add_mul]
    · rfl
theorem hasK_scl {t : Rat} (h : t ≠ 0) (ps : List (Rat × Rat)) (k : Option Rat) : HasK (ps.map fun x => (x.1 * t, x.2 * t)) k ↔ HasK ps k := by
  constructor
  · rintro ⟨p, hp, e⟩
    obtain ⟨q, hq, rfl⟩ := List.mem_map.mp hp
    rw [ky_scl h] at e
    exact ⟨q, hq, e⟩
  · rintro ⟨p, hp, e⟩
    exact ⟨_, List.mem_map.mpr ⟨p, hp, rfl⟩, by rw [ky_scl h]; exact e⟩
theorem shr_zero (B : List (Rat × Rat)) : shr 0 B = [] := by unfold shr; rw [if_pos rfl]
theorem shr_ne {t : Rat} (h : t ≠ 0) (B : List (Rat × Rat)) : shr t B = B.map fun x => (x.1 * t, x.2 * t) := by unfold shr; rw [if_neg h]
theorem IsG.shr {ps B : List (Rat × Rat)} (g : IsG ps B) (t : Rat) : IsG (Bw.shr t ps) (Bw.shr t B) := by
  by_cases h : t = 0
  · subst h
    rw [shr_zero, shr_zero]; exact IsG.nil
  · rw [shr_ne h, shr_ne h]
    obtain ⟨ks, a, b, fl, c, d, e⟩ := g.ex
    refine ⟨ks, a, fun x => (b x).trans (hasK_scl h ps _).symm, fl.map fun x => (x.1 * t, x.2 * t), fun z => ?_, fun z => ?_, ?_⟩
    · rw [c ((hasK_scl h ps none).mp z), sumK_scl h]; rfl
    · rw [d fun y => z ((hasK_scl h ps none).mpr y)]; rfl
    · rw [e, List.map_append, List.map_map]
      congr 1
      exact List.map_congr_left fun x _ => (sumK_scl h _ ps).symm
theorem LayOk.scl {f t : Rat} {x : Rat × Rat} (h : LayOk f x) (t0 : 0 < t) : LayOk f (x.1 * t, x.2 * t) := by
  have tn := Rat.le_of_lt t0
  refine ⟨Rat.mul_nonneg h.w tn, Rat.mul_nonneg h.s tn, fun z => ?_, fun z => ?_⟩
  · have : x.1 = 0 := by
      rcases Rat.mul_eq_zero.mp z with y | y
      · exact y
      · exact absurd y (Rat.ne_of_gt t0)
    exact Rat.mul_pos (h.nz this) t0
  · have : 0 < x.1 := by
      rcases Rat.le_iff_lt_or_eq.mp h.w with y | y
      · exact y
      · have z' : 0 < x.1 * t := z
        rw [← y, Rat.zero_mul] at z'
        exact absurd z' Rat.lt_irrefl
    have := Rat.mul_le_mul_of_nonneg_right (h.le this) tn
    show x.2 * t ≤ f * (x.1 * t)
    rw [← Rat.mul_assoc]; exact this
theorem shr_len (t : Rat) (B : List (Rat × Rat)) : (shr t B).length ≤ B.length := by
  unfold shr
  split <;> simp
theorem BG.shr {f t : Rat} {ps B : List (Rat × Rat)} (h : BG f ps B) (hp : ∀ p ∈ ps, BdL 34 p) (t0 : 0 ≤ t) (bt : Bd 6 t) : BG f (Bw.shr t ps) (Bw.shr t B) := by
  refine ⟨h.g.shr t, ?_, Nat.le_trans (shr_len t ps) h.len⟩
  by_cases z : t = 0
  · subst z
    rw [shr_zero]
    intro p hp; simp at hp
  · rw [shr_ne z]
    intro p hm
    obtain ⟨q, hq, rfl⟩ := List.mem_map.mp hm
    exact ⟨(h.lay q hq).1.scl (Rat.lt_of_le_of_ne t0 (Ne.symm z)), ⟨(hp q hq).w.mul bt, (hp q hq).s.mul bt⟩⟩
theorem sumK_shr (t : Rat) (ps : List (Rat × Rat)) (k : Option Rat) : sumK (shr t ps) k = ((sumK ps k).1 * t, (sumK ps k).2 * t) := by
  by_cases h : t = 0
  · subst h
    rw [shr_zero, Rat.mul_zero, Rat.mul_zero]; rfl
  · rw [shr_ne h, sumK_scl h]
theorem shr_same {t u : Rat} (h : t + u = 1) (ps : List (Rat × Rat)) : Same (shr t ps ++ shr u ps) ps := by
  refine ⟨fun k => ?_, fun k => ?_⟩
  · rw [hasK_append]
    by_cases ht : t = 0
    · subst ht
      have hu : u ≠ 0 := by rw [Rat.zero_add] at h; rw [h]; decide
      rw [shr_zero, shr_ne hu, hasK_scl hu]
      exact ⟨fun z => z.resolve_left fun ⟨p, hp, _⟩ => by simp at hp, .inr⟩
    · rw [shr_ne ht, hasK_scl ht]
      by_cases hu : u = 0
      · subst hu
        rw [shr_zero]
        exact ⟨fun z => z.resolve_right fun ⟨p, hp, _⟩ => by simp at hp, .inl⟩
      · rw [shr_ne hu, hasK_scl hu]
        exact ⟨fun z => z.elim id id, .inl⟩
  · rw [sumK_append, sumK_shr, sumK_shr]
    show ((sumK ps k).1 * t + (sumK ps k).1 * u, (sumK ps k).2 * t + (sumK ps k).2 * u) = _
    rw [← Rat.mul_add, ← Rat.mul_add, h, Rat.mul_one, Rat.mul_one]
theorem posF_scl {c t : Rat} (t0 : 0 < t) (x : Rat × Rat) : posF c (x.1 * t, x.2 * t) = posF c x ∧ x.1 * t - x.2 * t / c = (x.1 - x.2 / c) * t := by
  have e : x.1 * t - x.2 * t / c = (x.1 - x.2 / c) * t := by
    rw [Rat.div_def, Rat.div_def]; grind
  refine ⟨?_, e⟩
  unfold posF
  refine decide_eq_decide.mpr ?_
  show (0 < x.1 * t - x.2 * t / c) ↔ _
  rw [e]
  constructor
  · intro z
    refine Rat.not_le.mp fun y => ?_
    have := Rat.mul_le_mul_of_nonneg_right y (Rat.le_of_lt t0)
    rw [Rat.zero_mul] at this
    exact absurd z (Rat.not_lt.mpr this)
  · intro z
    exact Rat.mul_pos z t0
theorem ndL_scl {c t : Rat} (t0 : 0 < t) : ∀ l : List (Rat × Rat), ndL c (l.map fun x => (x.1 * t, x.2 * t)) = ndL c l * t
  | [] => by
    show ndL c [] = ndL c [] * t
    rw [ndL_nil, Rat.zero_mul]
  | x :: l => by
    obtain ⟨a, b⟩ := posF_scl (c := c) t0 x
    rw [List.map_cons, ndL_cons, ndL_cons, ndL_scl t0 l, a, Rat.add_mul]
    congr 1
    split
    · exact b
    · rw [Rat.zero_mul]
theorem ndL_shr {c t : Rat} (t0 : 0 ≤ t) (l : List (Rat × Rat)) : ndL c (shr t l) = ndL c l * t := by
  by_cases h : t = 0
  · subst h
    rw [shr_zero, ndL_nil, Rat.mul_zero]
  · rw [shr_ne h, ndL_scl (Rat.lt_of_le_of_ne t0 (Ne.symm h))]
theorem sumS_shr (t : Rat) (l : List (Rat × Rat)) : sumS (shr t l) = sumS l * t := by
  by_cases h : t = 0
  · subst h
    rw [shr_zero, Rat.mul_zero]; rfl
  · rw [shr_ne h]
    induction l with
    | nil => show (0 : Rat) = 0 * t; rw [Rat.zero_mul]
    | cons x l ih => rw [List.map_cons, sumS_cons, sumS_cons, ih, Rat.add_mul]
/-! is_brine -/
abbrev Below (x y : Rat × Rat) : Prop := y.2 * x.1 < x.2 * y.1
theorem BG.desc {f : Rat} {ps B : List (Rat × Rat)} (h : BG f ps B) : B.Pairwise Below := by
  obtain ⟨has, ks, h1, h2, h3, h4⟩ := h.g.keys
  have hl := fun p hp => (h.lay p hp).1
  have some_ok : ∀ c, c ∈ ks → 0 < (sumK ps (some c)).1 ∧ (sumK ps (some c)).2 = c * (sumK ps (some c)).1 := fun c hc => by
    obtain ⟨_, b, d⟩ := sum_some (c := c) ps hl
    have : some c ∈ gKeys has ks := by unfold gKeys; simp [hc]
    exact ⟨d ((h2 _).mp this), b⟩
  rw [h3, List.pairwise_map]
  unfold gKeys
  rw [List.pairwise_append]
  refine ⟨by cases has <;> simp, ?_, ?_⟩
  · rw [List.pairwise_map, List.pairwise_reverse]
    refine List.Pairwise.imp_of_mem (fun {a b} ha hb lt => ?_) h1
    obtain ⟨pa, ea⟩ := some_ok a ha
    obtain ⟨pb, eb⟩ := some_ok b hb
    show (sumK ps (some a)).2 * (sumK ps (some b)).1 < (sumK ps (some b)).2 * (sumK ps (some a)).1
    rw [ea, eb]
    have := Rat.mul_lt_mul_of_pos_right lt (Rat.mul_pos pa pb)
    rw [← Rat.mul_assoc] at this
    rw [Rat.mul_assoc b, Rat.mul_comm (sumK ps (some b)).1]
    exact this
  · intro a ha b hb
    obtain ⟨c, hc, rfl⟩ := List.mem_map.mp hb
    cases has with
    | false => simp at ha
    | true =>
      simp at ha
      subst ha
      obtain ⟨x1, x2, x3⟩ := sum_none ps hl
      have : none ∈ gKeys true ks := by unfold gKeys; simp
      have xp := x3 ((h2 _).mp this)
      obtain ⟨pc, _⟩ := some_ok c (List.mem_reverse.mp hc)
      show (sumK ps (some c)).2 * (sumK ps none).1 < (sumK ps none).2 * (sumK ps (some c)).1
      rw [x1, Rat.mul_zero]
      exact Rat.mul_pos xp pc
theorem zip_below : ∀ {B : List (Rat × Rat)}, B.Pairwise Below → ∀ z ∈ B.zip (B.drop 1), Below z.1 z.2 ∧ z.1 ∈ B ∧ z.2 ∈ B
  | [], _, z, hz => by simp at hz
  | [x], _, z, hz => by simp at hz
  | x :: y :: B, h, z, hz => by
    have h' := List.pairwise_cons.mp h
    rw [List.drop_succ_cons, List.drop_zero, List.zip_cons_cons] at hz
    rcases List.mem_cons.mp hz with e | e
    · subst e
      exact ⟨h'.1 y (by simp), by simp, by simp⟩
    · obtain ⟨a, b, c⟩ := zip_below h'.2 z e
      exact ⟨a, List.mem_cons_of_mem _ b, List.mem_cons_of_mem _ c⟩
theorem bls_true {α : Type} : ∀ l : List α, blsOf (l.map fun _ => D.bl true) = some (l.map fun _ => true)
  | [] => rfl
  | x :: l => by
    rw [List.map_cons, List.map_cons, blsOf, bls_true l]; rfl
theorem oAll_true {α : Type} (l : List α) (ρ : Env) (M : Mem) : oAll [.lst (l.map fun _ => D.bl true)] ρ M = some (.ok (.bl true), M) := by
  unfold oAll oBs
  dsimp only
  rw [bls_true]
  dsimp only
  have : (l.map fun _ => true).all id = true := by simp
  rw [this]; rfl
theorem cut_one (B : List (Rat × Rat)) : cutD (B.map lyQ) (some 1) none = (B.drop 1).map lyQ := by
  cases B with
  | nil => rfl
  | cons x B =>
    have := cut_drop ((x :: B).map lyQ) (k := 1) (by simp)
    rw [List.map_drop]
    exact this
/-! the strengths of a brine -/
theorem own_ok {n m : Nat} {f : Rat} {B : List (Rat × Rat)} (h : BrOk f n m B) : ∀ c ∈ ownOf B, StrOk f m c := by
  intro c hc
  unfold ownOf at hc
  obtain ⟨x, hx, rfl⟩ := List.mem_map.mp hc
  have h1 := List.mem_filter.mp (List.mem_reverse.mp hx)
  have hw := wet_ne h1.1
  have s0 : x.2 ≠ 0 := by simpa using h1.2
  have lx := h.ok x hw.1
  have wp := pos_of lx hw.2
  have sp : 0 < x.2 := Rat.lt_of_le_of_ne lx.s (Ne.symm s0)
  refine ⟨?_, ?_, h.kb x hw.1 hw.2⟩
  · rw [Rat.lt_div_iff wp, Rat.zero_mul]; exact sp
  · refine Rat.le_of_mul_le_mul_right (c := x.1) ?_ wp
    rw [Rat.div_mul_cancel hw.2]
    exact lx.le wp
theorem own_len (B : List (Rat × Rat)) : (ownOf B).length ≤ B.length := by
  unfold ownOf
  rw [List.length_map, List.length_reverse]
  exact Nat.le_trans (List.length_filter_le _ _) (List.length_filter_le _ _)
/-! least, greatest -/
def minL : Rat → List Rat → Rat
  | b, [] => b
  | b, q :: qs => minL (if q < b then q else b) qs
def maxL : Rat → List Rat → Rat
  | b, [] => b
  | b, q :: qs => maxL (if b < q then q else b) qs
theorem minL_mem : ∀ (qs : List Rat) (b : Rat), minL b qs ∈ b :: qs
  | [], b => by simp [minL]
  | q :: qs, b => by
    have := minL_mem qs (if q < b then q else b)
    unfold minL
    rcases List.mem_cons.mp this with h | h
    · rw [h]; split <;> simp
    · simp [h]
theorem minL_le : ∀ (qs : List Rat) (b : Rat), ∀ q ∈ b :: qs, minL b qs ≤ q
  | [], b, q, hq => by simp at hq; subst hq; exact Rat.le_refl
  | x :: qs, b, q, hq => by
    have ih := minL_le qs (if x < b then x else b)
    unfold minL
    have h0 := ih _ (List.mem_cons_self)
    simp -implicitDefEqProofs only [List.mem_cons] at hq
    rcases hq with rfl | rfl | hq
    · refine Rat.le_trans h0 ?_
      split
      · rename_i h; exact Rat.le_of_lt h
      · exact Rat.le_refl
    · refine Rat.le_trans h0 ?_
      split
      · exact Rat.le_refl
      · rename_i h; exact Rat.not_lt.mp h
    · exact ih q (by simp [hq])
theorem maxL_mem : ∀ (qs : List Rat) (b : Rat), maxL b qs ∈ b :: qs
  | [], b => by simp [maxL]
  | q :: qs, b => by
    have := maxL_mem qs (if b < q then q else b)
    unfold maxL
    rcases List.mem_cons.mp this with h | h
    · rw [h]; split <;> simp
    · simp [h]
theorem maxL_le : ∀ (qs : List Rat) (b : Rat), ∀ q ∈ b :: qs, q ≤ maxL b qs
  | [], b, q, hq => by simp at hq; subst hq; exact Rat.le_refl
  | x :: qs, b, q, hq => by
    have ih := maxL_le qs (if b < x then x else b)
    unfold maxL
    have h0 := ih _ (List.mem_cons_self)
    simp -implicitDefEqProofs only [List.mem_cons] at hq
    rcases hq with rfl | rfl | hq
    · refine Rat.le_trans ?_ h0
      split
      · rename_i h; exact Rat.le_of_lt h
      · exact Rat.le_refl
    · refine Rat.le_trans ?_ h0
      split
      · exact Rat.le_refl
      · rename_i h; exact Rat.not_lt.mp h
    · exact ih q (by simp [hq])
theorem least_loop {S : D} (M : Mem) : ∀ (qs : List Rat) (b : Rat) (o : Option D), Bd 4000 b → (∀ q ∈ qs, Bd 4000 q) → ∃ o', forF (gNm 2) den_least_L1 (qs.map frQ) [some S, some (frQ b), o] M = some (.nx [some S, some (frQ (minL b qs)), o'], M)
  | [], b, o, _, _ => ⟨o, rfl⟩
  | q :: qs, b, o, hb, hq => by
    have h1 := hq q (by simp)
    obtain ⟨o', e⟩ := least_loop M qs (if q < b then q else b) (some (frQ q)) (by split <;> assumption) fun x hx => hq x (by simp [hx])
    refine ⟨o', ?_⟩
    unfold minL
    rw [← e, List.map_cons, forF_cons, gNm_ap, forB_ok]
    by_cases h : q < b
    · simp -implicitDefEqProofs only [den_least_L1, sSeq_ap, sAsg_ap, sPar_ap, sRet_ap, sIf_ap, sExpr_ap, sNext_ap, bnd_ap, ret_ap, bindR_ok, thenR_ok, dVar_ap, varR_ok, seqR_nx, seqR_rt, asgR_ok, gNm_ap, gCn_ap, gcnR_ok, gNl_ap, gTp_fr, gTp_ap, gLs_ap, dCons_ap, dNil_ap, asB_ap, dOr_ap, dAnd_ap, dNot_ap, dAndV_ap, dOrV_ap, dNotV_ap, dIf_ap, oAdd_int, oSub_int, oLt_int, oLe_int, oGt_int, oGe_int, oNeg_int, oEq_int, oNe_int, oEq_fr, oNe_fr, oEq_bl, oNe_bl, oTup_ap, oLst_ap, oCall_ap, oAbs_ap, oMax_ap, oMin_ap, oToInt_b, oToInt_i, oLen_lst, oLen_scr, oLen_tup, oIx_lst, oIx_scr, oAdd_lst, oIx_tup, oIx_fr0, oIx_fr1, ixR_ok, oItL_ap, oItT_ap, sFor_ap, startD, List.map_cons, List.map_nil, List.length_cons, List.length_nil, List.replicate_succ, List.replicate_zero, List.cons_append, List.nil_append, List.append_nil, List.getElem?_cons_zero, List.getElem?_cons_succ, List.set_cons_zero, List.set_cons_succ, Nat.reduceAdd, Nat.reduceSub, Nat.sub_self, Nat.reduceLeDiff, List.all_cons, List.all_nil, np_fr, np_int, np_bl, np_tup, np_lst, np_str, np_non, Bool.and_self, Bool.and_true, if_true_, if_false_, zero_add', if_tt, if_ff, decide_true, decide_false, Nat.le_refl, oItS_lst, oItS_tup, oTupOf_lst, oTupOf_tup, oLstOf_lst, oLstOf_tup, oRv_lst, oRv_tup, oAdd_tup, dChain_ap, asTru_bl, asTru_tup, asTru_lst, oIsN_ap, oNotN_ap, asI_ap, oSl_tup, oSl_lst, oZip_tup, oZip_lst, oAddI_ap, oEqS_ap, oNeS_ap, oNe_nil, isless_eq h1 hb, h, ofR_nx]
    · simp -implicitDefEqProofs only [den_least_L1, sSeq_ap, sAsg_ap, sPar_ap, sRet_ap, sIf_ap, sExpr_ap, sNext_ap, bnd_ap, ret_ap, bindR_ok, thenR_ok, dVar_ap, varR_ok, seqR_nx, seqR_rt, asgR_ok, gNm_ap, gCn_ap, gcnR_ok, gNl_ap, gTp_fr, gTp_ap, gLs_ap, dCons_ap, dNil_ap, asB_ap, dOr_ap, dAnd_ap, dNot_ap, dAndV_ap, dOrV_ap, dNotV_ap, dIf_ap, oAdd_int, oSub_int, oLt_int, oLe_int, oGt_int, oGe_int, oNeg_int, oEq_int, oNe_int, oEq_fr, oNe_fr, oEq_bl, oNe_bl, oTup_ap, oLst_ap, oCall_ap, oAbs_ap, oMax_ap, oMin_ap, oToInt_b, oToInt_i, oLen_lst, oLen_scr, oLen_tup, oIx_lst, oIx_scr, oAdd_lst, oIx_tup, oIx_fr0, oIx_fr1, ixR_ok, oItL_ap, oItT_ap, sFor_ap, startD, List.map_cons, List.map_nil, List.length_cons, List.length_nil, List.replicate_succ, List.replicate_zero, List.cons_append, List.nil_append, List.append_nil, List.getElem?_cons_zero, List.getElem?_cons_succ, List.set_cons_zero, List.set_cons_succ, Nat.reduceAdd, Nat.reduceSub, Nat.sub_self, Nat.reduceLeDiff, List.all_cons, List.all_nil, np_fr, np_int, np_bl, np_tup, np_lst, np_str, np_non, Bool.and_self, Bool.and_true, if_true_, if_false_, zero_add', if_tt, if_ff, decide_true, decide_false, Nat.le_refl, oItS_lst, oItS_tup, oTupOf_lst, oTupOf_tup, oLstOf_lst, oLstOf_tup, oRv_lst, oRv_tup, oAdd_tup, dChain_ap, asTru_bl, asTru_tup, asTru_lst, oIsN_ap, oNotN_ap, asI_ap, oSl_tup, oSl_lst, oZip_tup, oZip_lst, oAddI_ap, oEqS_ap, oNeS_ap, oNe_nil, isless_eq h1 hb, h, ofR_nx, Bool.false_eq_true]
theorem greatest_loop {S : D} (M : Mem) : ∀ (qs : List Rat) (b : Rat) (o : Option D), Bd 4000 b → (∀ q ∈ qs, Bd 4000 q) → ∃ o', forF (gNm 2) den_greatest_L1 (qs.map frQ) [some S, some (frQ b), o] M = some (.nx [some S, some (frQ (maxL b qs)), o'], M)
  | [], b, o, _, _ => ⟨o, rfl⟩
  | q :: qs, b, o, hb, hq => by
    have h1 := hq q (by simp)
    obtain ⟨o', e⟩ := greatest_loop M qs (if b < q then q else b) (some (frQ q)) (by split <;> assumption) fun x hx => hq x (by simp [hx])
    refine ⟨o', ?_⟩
    unfold maxL
    rw [← e, List.map_cons, forF_cons, gNm_ap, forB_ok]
    by_cases h : b < q
    · simp -implicitDefEqProofs only [den_greatest_L1, sSeq_ap, sAsg_ap, sPar_ap, sRet_ap, sIf_ap, sExpr_ap, sNext_ap, bnd_ap, ret_ap, bindR_ok, thenR_ok, dVar_ap, varR_ok, seqR_nx, seqR_rt, asgR_ok, gNm_ap, gCn_ap, gcnR_ok, gNl_ap, gTp_fr, gTp_ap, gLs_ap, dCons_ap, dNil_ap, asB_ap, dOr_ap, dAnd_ap, dNot_ap, dAndV_ap, dOrV_ap, dNotV_ap, dIf_ap, oAdd_int, oSub_int, oLt_int, oLe_int, oGt_int, oGe_int, oNeg_int, oEq_int, oNe_int, oEq_fr, oNe_fr, oEq_bl, oNe_bl, oTup_ap, oLst_ap, oCall_ap, oAbs_ap, oMax_ap, oMin_ap, oToInt_b, oToInt_i, oLen_lst, oLen_scr, oLen_tup, oIx_lst, oIx_scr, oAdd_lst, oIx_tup, oIx_fr0, oIx_fr1, ixR_ok, oItL_ap, oItT_ap, sFor_ap, startD, List.map_cons, List.map_nil, List.length_cons, List.length_nil, List.replicate_succ, List.replicate_zero, List.cons_append, List.nil_append, List.append_nil, List.getElem?_cons_zero, List.getElem?_cons_succ, List.set_cons_zero, List.set_cons_succ, Nat.reduceAdd, Nat.reduceSub, Nat.sub_self, Nat.reduceLeDiff, List.all_cons, List.all_nil, np_fr, np_int, np_bl, np_tup, np_lst, np_str, np_non, Bool.and_self, Bool.and_true, if_true_, if_false_, zero_add', if_tt, if_ff, decide_true, decide_false, Nat.le_refl, oItS_lst, oItS_tup, oTupOf_lst, oTupOf_tup, oLstOf_lst, oLstOf_tup, oRv_lst, oRv_tup, oAdd_tup, dChain_ap, asTru_bl, asTru_tup, asTru_lst, oIsN_ap, oNotN_ap, asI_ap, oSl_tup, oSl_lst, oZip_tup, oZip_lst, oAddI_ap, oEqS_ap, oNeS_ap, oNe_nil, isless_eq hb h1, h, ofR_nx]
    · simp -implicitDefEqProofs only [den_greatest_L1, sSeq_ap, sAsg_ap, sPar_ap, sRet_ap, sIf_ap, sExpr_ap, sNext_ap, bnd_ap, ret_ap, bindR_ok, thenR_ok, dVar_ap, varR_ok, seqR_nx, seqR_rt, asgR_ok, gNm_ap, gCn_ap, gcnR_ok, gNl_ap, gTp_fr, gTp_ap, gLs_ap, dCons_ap, dNil_ap, asB_ap, dOr_ap, dAnd_ap, dNot_ap, dAndV_ap, dOrV_ap, dNotV_ap, dIf_ap, oAdd_int, oSub_int, oLt_int, oLe_int, oGt_int, oGe_int, oNeg_int, oEq_int, oNe_int, oEq_fr, oNe_fr, oEq_bl, oNe_bl, oTup_ap, oLst_ap, oCall_ap, oAbs_ap, oMax_ap, oMin_ap, oToInt_b, oToInt_i, oLen_lst, oLen_scr, oLen_tup, oIx_lst, oIx_scr, oAdd_lst, oIx_tup, oIx_fr0, oIx_fr1, ixR_ok, oItL_ap, oItT_ap, sFor_ap, startD, List.map_cons, List.map_nil, List.length_cons, List.length_nil, List.replicate_succ, List.replicate_zero, List.cons_append, List.nil_append, List.append_nil, List.getElem?_cons_zero, List.getElem?_cons_succ, List.set_cons_zero, List.set_cons_succ, Nat.reduceAdd, Nat.reduceSub, Nat.sub_self, Nat.reduceLeDiff, List.all_cons, List.all_nil, np_fr, np_int, np_bl, np_tup, np_lst, np_str, np_non, Bool.and_self, Bool.and_true, if_true_, if_false_, zero_add', if_tt, if_ff, decide_true, decide_false, Nat.le_refl, oItS_lst, oItS_tup, oTupOf_lst, oTupOf_tup, oLstOf_lst, oLstOf_tup, oRv_lst, oRv_tup, oAdd_tup, dChain_ap, asTru_bl, asTru_tup, asTru_lst, oIsN_ap, oNotN_ap, asI_ap, oSl_tup, oSl_lst, oZip_tup, oZip_lst, oAddI_ap, oEqS_ap, oNeS_ap, oNe_nil, isless_eq hb h1, h, ofR_nx, Bool.false_eq_true]
theorem least_eq {q : Rat} {qs : List Rat} (hb : ∀ x ∈ q :: qs, Bd 4000 x) (M : Mem) : F_least [.tup ((q :: qs).map frQ)] M = some (.ok (frQ (minL q (q :: qs))), M) := by
  refine runF_pure ?_ rfl
  obtain ⟨o', e⟩ := least_loop (S := .tup ((q :: qs).map frQ)) M (q :: qs) q none (hb q (by simp)) hb
  rw [List.map_cons] at e ⊢
  simp -implicitDefEqProofs only [den_least, sSeq_ap, sAsg_ap, sPar_ap, sRet_ap, sIf_ap, sExpr_ap, sNext_ap, bnd_ap, ret_ap, bindR_ok, thenR_ok, dVar_ap, varR_ok, seqR_nx, seqR_rt, asgR_ok, gNm_ap, gCn_ap, gcnR_ok, gNl_ap, gTp_fr, gTp_ap, gLs_ap, dCons_ap, dNil_ap, asB_ap, dOr_ap, dAnd_ap, dNot_ap, dAndV_ap, dOrV_ap, dNotV_ap, dIf_ap, oAdd_int, oSub_int, oLt_int, oLe_int, oGt_int, oGe_int, oNeg_int, oEq_int, oNe_int, oEq_fr, oNe_fr, oEq_bl, oNe_bl, oTup_ap, oLst_ap, oCall_ap, oAbs_ap, oMax_ap, oMin_ap, oToInt_b, oToInt_i, oLen_lst, oLen_scr, oLen_tup, oIx_lst, oIx_scr, oAdd_lst, oIx_tup, oIx_fr0, oIx_fr1, ixR_ok, oItL_ap, oItT_ap, sFor_ap, startD, List.map_cons, List.map_nil, List.length_cons, List.length_nil, List.replicate_succ, List.replicate_zero, List.cons_append, List.nil_append, List.append_nil, List.getElem?_cons_zero, List.getElem?_cons_succ, List.set_cons_zero, List.set_cons_succ, Nat.reduceAdd, Nat.reduceSub, Nat.sub_self, Nat.reduceLeDiff, List.all_cons, List.all_nil, np_fr, np_int, np_bl, np_tup, np_lst, np_str, np_non, Bool.and_self, Bool.and_true, if_true_, if_false_, zero_add', if_tt, if_ff, decide_true, decide_false, Nat.le_refl, oItS_lst, oItS_tup, oTupOf_lst, oTupOf_tup, oLstOf_lst, oLstOf_tup, oRv_lst, oRv_tup, oAdd_tup, dChain_ap, asTru_bl, asTru_tup, asTru_lst, oIsN_ap, oNotN_ap, asI_ap, oSl_tup, oSl_lst, oZip_tup, oZip_lst, oAddI_ap, oEqS_ap, oNeS_ap, oNe_nil, atI_0, e]
theorem greatest_eq {q : Rat} {qs : List Rat} (hb : ∀ x ∈ q :: qs, Bd 4000 x) (M : Mem) : F_greatest [.tup ((q :: qs).map frQ)] M = some (.ok (frQ (maxL q (q :: qs))), M) := by
  refine runF_pure ?_ rfl
  obtain ⟨o', e⟩ := greatest_loop (S := .tup ((q :: qs).map frQ)) M (q :: qs) q none (hb q (by simp)) hb
  rw [List.map_cons] at e ⊢
  simp -implicitDefEqProofs only [den_greatest, sSeq_ap, sAsg_ap, sPar_ap, sRet_ap, sIf_ap, sExpr_ap, sNext_ap, bnd_ap, ret_ap, bindR_ok, thenR_ok, dVar_ap, varR_ok, seqR_nx, seqR_rt, asgR_ok, gNm_ap, gCn_ap, gcnR_ok, gNl_ap, gTp_fr, gTp_ap, gLs_ap, dCons_ap, dNil_ap, asB_ap, dOr_ap, dAnd_ap, dNot_ap, dAndV_ap, dOrV_ap, dNotV_ap, dIf_ap, oAdd_int, oSub_int, oLt_int, oLe_int, oGt_int, oGe_int, oNeg_int, oEq_int, oNe_int, oEq_fr, oNe_fr, oEq_bl, oNe_bl, oTup_ap, oLst_ap, oCall_ap, oAbs_ap, oMax_ap, oMin_ap, oToInt_b, oToInt_i, oLen_lst, oLen_scr, oLen_tup, oIx_lst, oIx_scr, oAdd_lst, oIx_tup, oIx_fr0, oIx_fr1, ixR_ok, oItL_ap, oItT_ap, sFor_ap, startD, List.map_cons, List.map_nil, List.length_cons, List.length_nil, List.replicate_succ, List.replicate_zero, List.cons_append, List.nil_append, List.append_nil, List.getElem?_cons_zero, List.getElem?_cons_succ, List.set_cons_zero, List.set_cons_succ, Nat.reduceAdd, Nat.reduceSub, Nat.sub_self, Nat.reduceLeDiff, List.all_cons, List.all_nil, np_fr, np_int, np_bl, np_tup, np_lst, np_str, np_non, Bool.and_self, Bool.and_true, if_true_, if_false_, zero_add', if_tt, if_ff, decide_true, decide_false, Nat.le_refl, oItS_lst, oItS_tup, oTupOf_lst, oTupOf_tup, oLstOf_lst, oLstOf_tup, oRv_lst, oRv_tup, oAdd_tup, dChain_ap, asTru_bl, asTru_tup, asTru_lst, oIsN_ap, oNotN_ap, asI_ap, oSl_tup, oSl_lst, oZip_tup, oZip_lst, oAddI_ap, oEqS_ap, oNeS_ap, oNe_nil, atI_0, e]
/-! the urn -/
theorem prime7 {i : Int} (h0 : 0 ≤ i) (h : i < 7) : ∃ p : Int, atI [D.int 2147483647, .int 2147483629, .int 2147483587, .int 2147483579, .int 2147483563, .int 2147483549, .int 2147483543] i = some (.int p) ∧ (0 < p ∧ p < 2 ^ 31) :=
  atI_lit h0 h fun d hd => by
    simp -implicitDefEqProofs only [List.mem_cons, List.not_mem_nil, or_false] at hd
    rcases hd with h | h | h | h | h | h | h <;> subst h <;> exact ⟨_, rfl, by decide, by decide⟩
theorem mixed_eq {k : Int} (c : Int) (h0 : 0 ≤ k) (h1 : k < 2 ^ 31) (M : Mem) : ∃ v, F__law_mixed [.int c, .int k] M = some (.ok (.int v), M) := by
  obtain ⟨p1, e1, a1, b1⟩ := prime7 (fmod_pos (i := k) (m := 7) (by decide)).1 (fmod_pos (by decide)).2
  obtain ⟨p2, e2, a2, b2⟩ := prime7 (fmod_pos (i := k + 3) (m := 7) (by decide)).1 (fmod_pos (by decide)).2
  obtain ⟨p3, e3, a3, b3⟩ := prime7 (fmod_pos (i := k + 5) (m := 7) (by decide)).1 (fmod_pos (by decide)).2
  have z1 : p1 ≠ 0 := by omega
  have z2 : p2 ≠ 0 := by omega
  have z3 : p3 ≠ 0 := by omega
  have z4 : (1000000007 : Int) ≠ 0 := by decide
  have z5 : (65521 : Int) ≠ 0 := by decide
  have z6 : (10007 : Int) ≠ 0 := by decide
  have z7 : (7 : Int) ≠ 0 := by decide
  have kl : k.natAbs < 2 ^ 31 := natAbs_lt_of h0 h1
  have m1 : MulOk 2 k := MulOk.of (a := 20) (b := 31) (by decide) kl
  have m2 : MulOk 7919 k := MulOk.of (a := 20) (b := 31) (by decide) kl
  have m3 : MulOk 29 k := MulOk.of (a := 20) (b := 31) (by decide) kl
  obtain ⟨c0, c1⟩ := fmod_pos (i := c) (m := 1000000007) (by decide)
  generalize hx : c.fmod 1000000007 = x at c0 c1
  have xl : x.natAbs < 2 ^ 30 := by omega
  have yl : (2 * k + 3).natAbs < 2 ^ 33 := by omega
  have m4 : MulOk x (2 * k + 3) := MulOk.of xl yl
  have w1 : (x * (2 * k + 3)).natAbs < 2 ^ 63 := by rw [Int.natAbs_mul]; exact mul_lt_pow (m := 30) (n := 33) xl yl
  have q1 : ∀ ρ M, oPow (.int (x * (2 * k + 3) + 7919 * k + 101)) (.int 3) ρ M = some (.ok (.int ((x * (2 * k + 3) + 7919 * k + 101) ^ 3)), M) := fun ρ M => oPow_ap _ 3 ρ M (by decide) (by omega)
  generalize hy : ((x * (2 * k + 3) + 7919 * k + 101) ^ 3).fmod p1 = y
  have yb : 0 ≤ y ∧ y < 2 ^ 31 := by
    have := fmod_pos (i := (x * (2 * k + 3) + 7919 * k + 101) ^ 3) a1
    rw [hy] at this; omega
  obtain ⟨d0, d1⟩ := fmod_pos (i := c) (m := 65521) (by decide)
  generalize hz : c.fmod 65521 = z at d0 d1
  have k5 : (k + 5).natAbs < 2 ^ 32 := by omega
  have yl2 : y.natAbs < 2 ^ 31 := by omega
  have m5 : MulOk y (k + 5) := MulOk.of yl2 k5
  have w2 : (y * (k + 5)).natAbs < 2 ^ 63 := by rw [Int.natAbs_mul]; exact mul_lt_pow (m := 31) (n := 32) yl2 k5
  have q2 : ∀ ρ M, oPow (.int (y * (k + 5) + z + 13)) (.int 5) ρ M = some (.ok (.int ((y * (k + 5) + z + 13) ^ 5)), M) := fun ρ M => oPow_ap _ 5 ρ M (by decide) (by omega)
  generalize hu : ((y * (k + 5) + z + 13) ^ 5).fmod p2 = u
  have ub : 0 ≤ u ∧ u < 2 ^ 31 := by
    have := fmod_pos (i := (y * (k + 5) + z + 13) ^ 5) a2
    rw [hu] at this; omega
  obtain ⟨f0, f1⟩ := fmod_pos (i := y) (m := 10007) (by decide)
  generalize ht : y.fmod 10007 = t at f0 f1
  have q3 : ∀ ρ M, oPow (.int (u + t + 29 * k + 1)) (.int 3) ρ M = some (.ok (.int ((u + t + 29 * k + 1) ^ 3)), M) := fun ρ M => oPow_ap _ 3 ρ M (by decide) (by omega)
  generalize hs : ((u + t + 29 * k + 1) ^ 3).fmod p3 = s
  have m6 : MulOk y 2147483647 := MulOk.of (a := 31) (b := 31) yl2 (by decide)
  have w3 : (y * 2147483647).natAbs < 2 ^ 62 := by rw [Int.natAbs_mul]; exact mul_lt_pow (m := 31) (n := 31) yl2 (by decide)
  have m7 : MulOk (y * 2147483647 + u) 2147483647 := MulOk.of (a := 63) (b := 31) (by omega) (by decide)
  refine ⟨(y * 2147483647 + u) * 2147483647 + s, runF_pure ?_ rfl⟩
  simp -implicitDefEqProofs only [den__law_mixed, sSeq_ap, sAsg_ap, sPar_ap, sRet_ap, sIf_ap, sExpr_ap, sNext_ap, bnd_ap, ret_ap, bindR_ok, thenR_ok, dVar_ap, varR_ok, seqR_nx, seqR_rt, asgR_ok, gNm_ap, gCn_ap, gcnR_ok, gNl_ap, gTp_fr, gTp_ap, gLs_ap, dCons_ap, dNil_ap, asB_ap, dOr_ap, dAnd_ap, dNot_ap, dAndV_ap, dOrV_ap, dNotV_ap, dIf_ap, oAdd_int, oSub_int, oLt_int, oLe_int, oGt_int, oGe_int, oNeg_int, oEq_int, oNe_int, oEq_fr, oNe_fr, oEq_bl, oNe_bl, oTup_ap, oLst_ap, oCall_ap, oAbs_ap, oMax_ap, oMin_ap, oToInt_b, oToInt_i, oLen_lst, oLen_scr, oLen_tup, oIx_lst, oIx_scr, oAdd_lst, oIx_tup, oIx_fr0, oIx_fr1, ixR_ok, oItL_ap, oItT_ap, sFor_ap, startD, List.map_cons, List.map_nil, List.length_cons, List.length_nil, List.replicate_succ, List.replicate_zero, List.cons_append, List.nil_append, List.append_nil, List.getElem?_cons_zero, List.getElem?_cons_succ, List.set_cons_zero, List.set_cons_succ, Nat.reduceAdd, Nat.reduceSub, Nat.sub_self, Nat.reduceLeDiff, List.all_cons, List.all_nil, np_fr, np_int, np_bl, np_tup, np_lst, np_str, np_non, Bool.and_self, Bool.and_true, if_true_, if_false_, zero_add', if_tt, if_ff, decide_true, decide_false, Nat.le_refl, oItS_lst, oItS_tup, oTupOf_lst, oTupOf_tup, oLstOf_lst, oLstOf_tup, oRv_lst, oRv_tup, oAdd_tup, dChain_ap, asTru_bl, asTru_tup, asTru_lst, oIsN_ap, oNotN_ap, asI_ap, oSl_tup, oSl_lst, oZip_tup, oZip_lst, oAddI_ap, oEqS_ap, oNeS_ap, oNe_nil, oMod_int z4, hx, oMul_int m1, oMul_int m4, oMul_int m2, q1, oMod_int z7, e1, oMod_int z1, hy, oMul_int m5, oMod_int z5, hz, q2, e2, oMod_int z2, hu, oMod_int z6, ht, oMul_int m3, q3, e3, oMod_int z3, hs, oMul_int m6, oMul_int m7]
/-- at n an urn, its cells at m, that was drawn of at most c times -/
def HasUrn (c n m : Nat) (M : Mem) : Prop := ∃ (cs : List Int) (a k f : Int), M[n]? = some (some [.ptr m, .int a, .int k, .int f]) ∧ M[m]? = some (some (cs.map D.int)) ∧ n ≠ m ∧ 0 ≤ k ∧ k ≤ c
structure Drew (c n m : Nat) (M M' : Mem) : Prop where
  len : M'.length = M.length
  oth : ∀ j, j ≠ n → j ≠ m → M'[j]? = M[j]?
  has : HasUrn c n m M'
theorem Drew.trans {c c' n m : Nat} {M M1 M2 : Mem} (a : Drew c n m M M1) (b : Drew c' n m M1 M2) : Drew c' n m M M2 := ⟨b.len.trans a.len, fun j h g => (b.oth j h g).trans (a.oth j h g), b.has⟩
theorem HasUrn.mono {c c' n m : Nat} {M : Mem} (h : HasUrn c n m M) (l : c ≤ c') : HasUrn c' n m M := by
  obtain ⟨cs, a, k, f, e, e2, nm, h1, h2⟩ := h
  exact ⟨cs, a, k, f, e, e2, nm, h1, by omega⟩
theorem Drew.mono {c c' n m : Nat} {M M1 : Mem} (a : Drew c n m M M1) (l : c ≤ c') : Drew c' n m M M1 := ⟨a.len, a.oth, a.has.mono l⟩
theorem HasUrn.self {c n m : Nat} {M : Mem} (h : HasUrn c n m M) : Drew c n m M M := ⟨rfl, fun _ _ _ => rfl, h⟩
theorem get_lt {α : Type} {M : List α} {n : Nat} {z : α} (h : M[n]? = some z) : n < M.length := (List.getElem?_eq_some_iff.mp h).1
theorem atI4_0 {α : Type} (x y z w : α) : atI [x, y, z, w] 0 = some x := rfl
theorem atI4_1 {α : Type} (x y z w : α) : atI [x, y, z, w] 1 = some y := rfl
theorem atI4_2 {α : Type} (x y z w : α) : atI [x, y, z, w] 2 = some z := rfl
theorem atI4_3 {α : Type} (x y z w : α) : atI [x, y, z, w] 3 = some w := rfl
theorem ixN4_1 : ixN 4 1 = some 1 := rfl
theorem ixN4_2 : ixN 4 2 = some 2 := rfl
theorem int_lay (i : Int) : (toPy (.int i)).canLay0 = true ∧ (toPy (.int i)).depth ≤ 60 := ⟨rfl, by simp [toPy, PyData.depth]⟩
theorem shaped_ints (cs : List Int) : SeqAt.shaped (toPy (.lst (cs.map D.int))) = true ∧ (D.lst (cs.map D.int)).pl = true :=
  ⟨(shaped_row (by
    simp -implicitDefEqProofs only [List.mem_map]
    rintro d ⟨q, _, rfl⟩
    exact int_lay q)).1, plL_of (by
    simp -implicitDefEqProofs only [List.mem_map]
    rintro d ⟨q, _, rfl⟩
    rfl)⟩
theorem oNeM_ints {n : Nat} {cs : List Int} (ρ : Env) {M : Mem} (h : M[n]? = some (some (cs.map D.int))) : oNeM (.ptr n) (.lst []) ρ M = some (.ok (.bl (!cs.isEmpty)), M) := by
  unfold oNeM frz
  dsimp only
  rw [h]
  dsimp only
  unfold oNe
  rw [if_pos ⟨(shaped_ints cs).2, rfl, (shaped_ints cs).1, rfl⟩]
  cases cs <;> rfl
theorem udraw_eq {c n m : Nat} {M : Mem} {w : Int} (hr : HasUrn c n m M) (hc : c < 2 ^ 30) (h0 : 0 < w) (hm : w.natAbs < 2 ^ 4000) :
    ∃ v M', F__law_draw [.npt n, .int w] M = some (.ok (.int v), M') ∧ 0 ≤ v ∧ v < w ∧ Drew (c + 1) n m M M' := by
  obtain ⟨cs, a, k, f, e1, e2, nm, k0, k1⟩ := hr
  have hn := get_lt e1
  have hm2 := get_lt e2
  have mn : m ≠ n := Ne.symm nm
  have hw : w ≠ 0 := by omega
  have hd : DivOk w := DivOk.of (b := 4000) hw hm
  have hcz : (c : Int) < 2 ^ 30 := by exact_mod_cast hc
  have tail : ∀ (o3 : Option D) (a' k' : Int) (M1 : Mem), M1[n]? = some (some [.ptr m, .int a', .int k', .int f]) →
      (sSeq (sAsg (bnd (bnd (dVar 0) fun d => bnd (ret (.int 1)) fun e => oIxN d e) fun d => bnd (dVar 1) fun e => oMod d e) (gNm 2))
  (sSeq (sStoreN (bnd (bnd (dVar 0) fun d => bnd (ret (.int 1)) fun e => oIxN d e) fun d => bnd (dVar 1) fun e => oDiv d e) (dVar 0) (ret (.int 1)))
  (sRet (dVar 2)))) [some (.npt n), some (.int w), none, o3] M1 = some (.rt (.int (a'.fmod w)), M1.set n (some [.ptr m, .int (a'.fdiv w), .int k', .int f])) := by
    intro o3 a' k' M1 h
    simp -implicitDefEqProofs only [sSeq_ap, sAsg_ap, sPar_ap, sRet_ap, sIf_ap, sExpr_ap, sNext_ap, bnd_ap, ret_ap, bindR_ok, thenR_ok, dVar_ap, varR_ok, seqR_nx, seqR_rt, asgR_ok, gNm_ap, gCn_ap, gcnR_ok, gNl_ap, gTp_fr, gTp_ap, gLs_ap, dCons_ap, dNil_ap, asB_ap, dOr_ap, dAnd_ap, dNot_ap, dAndV_ap, dOrV_ap, dNotV_ap, dIf_ap, oAdd_int, oSub_int, oLt_int, oLe_int, oGt_int, oGe_int, oNeg_int, oEq_int, oNe_int, oEq_fr, oNe_fr, oEq_bl, oNe_bl, oTup_ap, oLst_ap, oCall_ap, oAbs_ap, oMax_ap, oMin_ap, oToInt_b, oToInt_i, oLen_lst, oLen_scr, oLen_tup, oIx_lst, oIx_scr, oAdd_lst, oIx_tup, oIx_fr0, oIx_fr1, ixR_ok, oItL_ap, oItT_ap, sFor_ap, startD, List.map_cons, List.map_nil, List.length_cons, List.length_nil, List.replicate_succ, List.replicate_zero, List.cons_append, List.nil_append, List.append_nil, List.getElem?_cons_zero, List.getElem?_cons_succ, List.set_cons_zero, List.set_cons_succ, Nat.reduceAdd, Nat.reduceSub, Nat.sub_self, Nat.reduceLeDiff, List.all_cons, List.all_nil, np_fr, np_int, np_bl, np_tup, np_lst, np_str, np_non, Bool.and_self, Bool.and_true, if_true_, if_false_, zero_add', if_tt, if_ff, decide_true, decide_false, Nat.le_refl, oItS_lst, oItS_tup, oTupOf_lst, oTupOf_tup, oLstOf_lst, oLstOf_tup, oRv_lst, oRv_tup, oAdd_tup, dChain_ap, asTru_bl, asTru_tup, asTru_lst, oIsN_ap, oNotN_ap, asI_ap, oSl_tup, oSl_lst, oZip_tup, oZip_lst, oAddI_ap, oEqS_ap, oNeS_ap, oNe_nil, oIxN_ap _ _ h, atI4_1, oMod_int hw, oDiv_int hd, sStoreN_ap, h, ixN4_1]
  have done : ∀ (o3 : Option D) (a' k' : Int) (M1 : Mem), M1.length = M.length → (∀ j, j ≠ n → j ≠ m → M1[j]? = M[j]?) → M1[n]? = some (some [.ptr m, .int a', .int k', .int f]) → (∃ ds : List Int, M1[m]? = some (some (ds.map D.int))) → 0 ≤ k' → k' ≤ c + 1 →
      den__law_draw (startD ["_law_urn_here", "_law_many", "_law_found", "_law_cell"] [.npt n, .int w]) M = some (.rt (.int (a'.fmod w)), M1.set n (some [.ptr m, .int (a'.fdiv w), .int k', .int f])) →
      ∃ v M', F__law_draw [.npt n, .int w] M = some (.ok (.int v), M') ∧ 0 ≤ v ∧ v < w ∧ Drew (c + 1) n m M M' := by
    intro o3 a' k' M1 l1 oth g1 ⟨ds, g2⟩ a0 a1 ev
    have := runF_rt ev (by simp [l1]) rfl
    refine ⟨a'.fmod w, M1.set n (some [.ptr m, .int (a'.fdiv w), .int k', .int f]), ?_, (fmod_pos h0).1, (fmod_pos h0).2, by simp [l1], fun j h1 h2 => by rw [List.getElem?_set_ne (Ne.symm h1)]; exact oth j h1 h2, ds, a'.fdiv w, k', f, List.getElem?_set_self (by omega), by rw [List.getElem?_set_ne nm]; exact g2, nm, a0, a1⟩
    rw [F__law_draw, this, List.take_of_length_le (by simp [l1])]
  by_cases hb : a < w
  · -- a new cell
    have s1 : (M.set n (some [D.ptr m, .int a, .int (k + 1), .int f]))[n]? = some (some [D.ptr m, .int a, .int (k + 1), .int f]) := List.getElem?_set_self hn
    have s2 : (M.set n (some [D.ptr m, .int a, .int (k + 1), .int f]))[m]? = some (some (cs.map D.int)) := by rw [List.getElem?_set_ne nm]; exact e2
    cases cs with
    | nil =>
      have q1 : ((M.set n (some [D.ptr m, .int a, .int (k + 1), .int f])).set n (some [D.ptr m, .int f, .int (k + 1), .int f]))[n]? = some (some [D.ptr m, .int f, .int (k + 1), .int f]) := List.getElem?_set_self (by simpa using hn)
      have q2 : ((M.set n (some [D.ptr m, .int a, .int (k + 1), .int f])).set n (some [D.ptr m, .int f, .int (k + 1), .int f]))[m]? = some (some (([] : List Int).map D.int)) := by rw [List.getElem?_set_ne nm]; exact s2
      by_cases hs : f < 10 ^ 18
      · obtain ⟨x, ex⟩ := mixed_eq (k := k + 1) f (by omega) (by omega) ((M.set n (some [D.ptr m, .int a, .int (k + 1), .int f])).set n (some [D.ptr m, .int f, .int (k + 1), .int f]))
        refine done (some (.int f)) x (k + 1) (((M.set n (some [D.ptr m, .int a, .int (k + 1), .int f])).set n (some [D.ptr m, .int f, .int (k + 1), .int f])).set n (some [D.ptr m, .int x, .int (k + 1), .int f])) (by simp) (fun j h1 h2 => by rw [List.getElem?_set_ne (Ne.symm h1), List.getElem?_set_ne (Ne.symm h1), List.getElem?_set_ne (Ne.symm h1)]) (List.getElem?_set_self (by simpa using hn)) ⟨[], by rw [List.getElem?_set_ne nm]; exact q2⟩ (by omega) (by omega) ?_
        have t := tail (some (.int f)) x (k + 1) (((M.set n (some [D.ptr m, .int a, .int (k + 1), .int f])).set n (some [D.ptr m, .int f, .int (k + 1), .int f])).set n (some [D.ptr m, .int x, .int (k + 1), .int f])) (List.getElem?_set_self (by simpa using hn))
        rw [den__law_draw, sSeq_ap]
        simp -implicitDefEqProofs only [sSeq_ap, sAsg_ap, sPar_ap, sRet_ap, sIf_ap, sExpr_ap, sNext_ap, bnd_ap, ret_ap, bindR_ok, thenR_ok, dVar_ap, varR_ok, seqR_nx, seqR_rt, asgR_ok, gNm_ap, gCn_ap, gcnR_ok, gNl_ap, gTp_fr, gTp_ap, gLs_ap, dCons_ap, dNil_ap, asB_ap, dOr_ap, dAnd_ap, dNot_ap, dAndV_ap, dOrV_ap, dNotV_ap, dIf_ap, oAdd_int, oSub_int, oLt_int, oLe_int, oGt_int, oGe_int, oNeg_int, oEq_int, oNe_int, oEq_fr, oNe_fr, oEq_bl, oNe_bl, oTup_ap, oLst_ap, oCall_ap, oAbs_ap, oMax_ap, oMin_ap, oToInt_b, oToInt_i, oLen_lst, oLen_scr, oLen_tup, oIx_lst, oIx_scr, oAdd_lst, oIx_tup, oIx_fr0, oIx_fr1, ixR_ok, oItL_ap, oItT_ap, sFor_ap, startD, List.map_cons, List.map_nil, List.length_cons, List.length_nil, List.replicate_succ, List.replicate_zero, List.cons_append, List.nil_append, List.append_nil, List.getElem?_cons_zero, List.getElem?_cons_succ, List.set_cons_zero, List.set_cons_succ, Nat.reduceAdd, Nat.reduceSub, Nat.sub_self, Nat.reduceLeDiff, List.all_cons, List.all_nil, np_fr, np_int, np_bl, np_tup, np_lst, np_str, np_non, Bool.and_self, Bool.and_true, if_true_, if_false_, zero_add', if_tt, if_ff, decide_true, decide_false, Nat.le_refl, oItS_lst, oItS_tup, oTupOf_lst, oTupOf_tup, oLstOf_lst, oLstOf_tup, oRv_lst, oRv_tup, oAdd_tup, dChain_ap, asTru_bl, asTru_tup, asTru_lst, oIsN_ap, oNotN_ap, asI_ap, oSl_tup, oSl_lst, oZip_tup, oZip_lst, oAddI_ap, oEqS_ap, oNeS_ap, oNe_nil, oIxN_ap _ _ e1, atI4_1, hb, atI4_2, sStoreN_ap, e1, ixN4_2, oIxN_ap _ _ s1, s1, atI4_3, atI4_0, oNeM_ints _ s2, List.isEmpty_nil, Bool.not_true, Bool.false_eq_true, ixN4_1, pow10_18, hs, oIxN_ap _ _ q1, ex, q1] at t ⊢
        exact t
      · refine done (some (.int f)) f (k + 1) ((M.set n (some [D.ptr m, .int a, .int (k + 1), .int f])).set n (some [D.ptr m, .int f, .int (k + 1), .int f])) (by simp) (fun j h1 h2 => by rw [List.getElem?_set_ne (Ne.symm h1), List.getElem?_set_ne (Ne.symm h1)]) q1 ⟨[], q2⟩ (by omega) (by omega) ?_
        have t := tail (some (.int f)) f (k + 1) ((M.set n (some [D.ptr m, .int a, .int (k + 1), .int f])).set n (some [D.ptr m, .int f, .int (k + 1), .int f])) q1
        rw [den__law_draw, sSeq_ap]
        simp -implicitDefEqProofs only [sSeq_ap, sAsg_ap, sPar_ap, sRet_ap, sIf_ap, sExpr_ap, sNext_ap, bnd_ap, ret_ap, bindR_ok, thenR_ok, dVar_ap, varR_ok, seqR_nx, seqR_rt, asgR_ok, gNm_ap, gCn_ap, gcnR_ok, gNl_ap, gTp_fr, gTp_ap, gLs_ap, dCons_ap, dNil_ap, asB_ap, dOr_ap, dAnd_ap, dNot_ap, dAndV_ap, dOrV_ap, dNotV_ap, dIf_ap, oAdd_int, oSub_int, oLt_int, oLe_int, oGt_int, oGe_int, oNeg_int, oEq_int, oNe_int, oEq_fr, oNe_fr, oEq_bl, oNe_bl, oTup_ap, oLst_ap, oCall_ap, oAbs_ap, oMax_ap, oMin_ap, oToInt_b, oToInt_i, oLen_lst, oLen_scr, oLen_tup, oIx_lst, oIx_scr, oAdd_lst, oIx_tup, oIx_fr0, oIx_fr1, ixR_ok, oItL_ap, oItT_ap, sFor_ap, startD, List.map_cons, List.map_nil, List.length_cons, List.length_nil, List.replicate_succ, List.replicate_zero, List.cons_append, List.nil_append, List.append_nil, List.getElem?_cons_zero, List.getElem?_cons_succ, List.set_cons_zero, List.set_cons_succ, Nat.reduceAdd, Nat.reduceSub, Nat.sub_self, Nat.reduceLeDiff, List.all_cons, List.all_nil, np_fr, np_int, np_bl, np_tup, np_lst, np_str, np_non, Bool.and_self, Bool.and_true, if_true_, if_false_, zero_add', if_tt, if_ff, decide_true, decide_false, Nat.le_refl, oItS_lst, oItS_tup, oTupOf_lst, oTupOf_tup, oLstOf_lst, oLstOf_tup, oRv_lst, oRv_tup, oAdd_tup, dChain_ap, asTru_bl, asTru_tup, asTru_lst, oIsN_ap, oNotN_ap, asI_ap, oSl_tup, oSl_lst, oZip_tup, oZip_lst, oAddI_ap, oEqS_ap, oNeS_ap, oNe_nil, oIxN_ap _ _ e1, atI4_1, hb, atI4_2, sStoreN_ap, e1, ixN4_2, oIxN_ap _ _ s1, s1, atI4_3, atI4_0, oNeM_ints _ s2, List.isEmpty_nil, Bool.not_true, Bool.false_eq_true, ixN4_1, pow10_18, hs, decide_false] at t ⊢
        exact t
    | cons x cs =>
      have hm3 : m < (M.set n (some [D.ptr m, .int a, .int (k + 1), .int f])).length := by simpa using hm2
      have s3 : ((M.set n (some [D.ptr m, .int a, .int (k + 1), .int f])).set m (some (cs.map D.int)))[n]? = some (some [D.ptr m, .int a, .int (k + 1), .int f]) := by rw [List.getElem?_set_ne mn]; exact s1
      have s4 : ((M.set n (some [D.ptr m, .int a, .int (k + 1), .int f])).set m (some (cs.map D.int)))[m]? = some (some (cs.map D.int)) := List.getElem?_set_self hm3
      have s5 := s2
      rw [List.map_cons] at s5
      generalize hM2 : (M.set n (some [D.ptr m, .int a, .int (k + 1), .int f])).set m (some (cs.map D.int)) = M2 at s3 s4
      have l2 : M2.length = M.length := by rw [← hM2]; simp
      have o2 : ∀ j, j ≠ n → j ≠ m → M2[j]? = M[j]? := fun j h1 h2 => by rw [← hM2, List.getElem?_set_ne (Ne.symm h2), List.getElem?_set_ne (Ne.symm h1)]
      have pp := fun ρ => oPopI_0 ρ s5
      rw [hM2] at pp
      have q1 : (M2.set n (some [D.ptr m, .int x, .int (k + 1), .int f]))[n]? = some (some [D.ptr m, .int x, .int (k + 1), .int f]) := List.getElem?_set_self (by omega)
      have q2 : (M2.set n (some [D.ptr m, .int x, .int (k + 1), .int f]))[m]? = some (some (cs.map D.int)) := by rw [List.getElem?_set_ne nm]; exact s4
      have ok : ∀ ρ, okPtr (.ptr m) ρ (M.set n (some [D.ptr m, .int a, .int (k + 1), .int f])) = some (.ok (.ptr m), M.set n (some [D.ptr m, .int a, .int (k + 1), .int f])) := fun ρ => by
        unfold okPtr
        dsimp only
        rw [s2]
      by_cases hs : x < 10 ^ 18
      · obtain ⟨y, ey⟩ := mixed_eq (k := k + 1) x (by omega) (by omega) (M2.set n (some [D.ptr m, .int x, .int (k + 1), .int f]))
        refine done (some (.int x)) y (k + 1) ((M2.set n (some [D.ptr m, .int x, .int (k + 1), .int f])).set n (some [D.ptr m, .int y, .int (k + 1), .int f])) (by simp [l2]) (fun j h1 h2 => by rw [List.getElem?_set_ne (Ne.symm h1), List.getElem?_set_ne (Ne.symm h1)]; exact o2 j h1 h2) (List.getElem?_set_self (by simp; omega)) ⟨cs, by rw [List.getElem?_set_ne nm]; exact q2⟩ (by omega) (by omega) ?_
        have t := tail (some (.int x)) y (k + 1) ((M2.set n (some [D.ptr m, .int x, .int (k + 1), .int f])).set n (some [D.ptr m, .int y, .int (k + 1), .int f])) (List.getElem?_set_self (by simp; omega))
        rw [den__law_draw, sSeq_ap]
        simp -implicitDefEqProofs only [sSeq_ap, sAsg_ap, sPar_ap, sRet_ap, sIf_ap, sExpr_ap, sNext_ap, bnd_ap, ret_ap, bindR_ok, thenR_ok, dVar_ap, varR_ok, seqR_nx, seqR_rt, asgR_ok, gNm_ap, gCn_ap, gcnR_ok, gNl_ap, gTp_fr, gTp_ap, gLs_ap, dCons_ap, dNil_ap, asB_ap, dOr_ap, dAnd_ap, dNot_ap, dAndV_ap, dOrV_ap, dNotV_ap, dIf_ap, oAdd_int, oSub_int, oLt_int, oLe_int, oGt_int, oGe_int, oNeg_int, oEq_int, oNe_int, oEq_fr, oNe_fr, oEq_bl, oNe_bl, oTup_ap, oLst_ap, oCall_ap, oAbs_ap, oMax_ap, oMin_ap, oToInt_b, oToInt_i, oLen_lst, oLen_scr, oLen_tup, oIx_lst, oIx_scr, oAdd_lst, oIx_tup, oIx_fr0, oIx_fr1, ixR_ok, oItL_ap, oItT_ap, sFor_ap, startD, List.map_cons, List.map_nil, List.length_cons, List.length_nil, List.replicate_succ, List.replicate_zero, List.cons_append, List.nil_append, List.append_nil, List.getElem?_cons_zero, List.getElem?_cons_succ, List.set_cons_zero, List.set_cons_succ, Nat.reduceAdd, Nat.reduceSub, Nat.sub_self, Nat.reduceLeDiff, List.all_cons, List.all_nil, np_fr, np_int, np_bl, np_tup, np_lst, np_str, np_non, Bool.and_self, Bool.and_true, if_true_, if_false_, zero_add', if_tt, if_ff, decide_true, decide_false, Nat.le_refl, oItS_lst, oItS_tup, oTupOf_lst, oTupOf_tup, oLstOf_lst, oLstOf_tup, oRv_lst, oRv_tup, oAdd_tup, dChain_ap, asTru_bl, asTru_tup, asTru_lst, oIsN_ap, oNotN_ap, asI_ap, oSl_tup, oSl_lst, oZip_tup, oZip_lst, oAddI_ap, oEqS_ap, oNeS_ap, oNe_nil, oIxN_ap _ _ e1, atI4_1, hb, atI4_2, sStoreN_ap, e1, ixN4_2, oIxN_ap _ _ s1, s1, atI4_3, atI4_0, oNeM_ints _ s2, List.isEmpty_cons, Bool.not_false, ok, pp, s3, ixN4_1, pow10_18, hs, oIxN_ap _ _ q1, ey, q1] at t ⊢
        exact t
      · refine done (some (.int x)) x (k + 1) (M2.set n (some [D.ptr m, .int x, .int (k + 1), .int f])) (by simp [l2]) (fun j h1 h2 => by rw [List.getElem?_set_ne (Ne.symm h1)]; exact o2 j h1 h2) q1 ⟨cs, q2⟩ (by omega) (by omega) ?_
        have t := tail (some (.int x)) x (k + 1) (M2.set n (some [D.ptr m, .int x, .int (k + 1), .int f])) q1
        rw [den__law_draw, sSeq_ap]
        simp -implicitDefEqProofs only [sSeq_ap, sAsg_ap, sPar_ap, sRet_ap, sIf_ap, sExpr_ap, sNext_ap, bnd_ap, ret_ap, bindR_ok, thenR_ok, dVar_ap, varR_ok, seqR_nx, seqR_rt, asgR_ok, gNm_ap, gCn_ap, gcnR_ok, gNl_ap, gTp_fr, gTp_ap, gLs_ap, dCons_ap, dNil_ap, asB_ap, dOr_ap, dAnd_ap, dNot_ap, dAndV_ap, dOrV_ap, dNotV_ap, dIf_ap, oAdd_int, oSub_int, oLt_int, oLe_int, oGt_int, oGe_int, oNeg_int, oEq_int, oNe_int, oEq_fr, oNe_fr, oEq_bl, oNe_bl, oTup_ap, oLst_ap, oCall_ap, oAbs_ap, oMax_ap, oMin_ap, oToInt_b, oToInt_i, oLen_lst, oLen_scr, oLen_tup, oIx_lst, oIx_scr, oAdd_lst, oIx_tup, oIx_fr0, oIx_fr1, ixR_ok, oItL_ap, oItT_ap, sFor_ap, startD, List.map_cons, List.map_nil, List.length_cons, List.length_nil, List.replicate_succ, List.replicate_zero, List.cons_append, List.nil_append, List.append_nil, List.getElem?_cons_zero, List.getElem?_cons_succ, List.set_cons_zero, List.set_cons_succ, Nat.reduceAdd, Nat.reduceSub, Nat.sub_self, Nat.reduceLeDiff, List.all_cons, List.all_nil, np_fr, np_int, np_bl, np_tup, np_lst, np_str, np_non, Bool.and_self, Bool.and_true, if_true_, if_false_, zero_add', if_tt, if_ff, decide_true, decide_false, Nat.le_refl, oItS_lst, oItS_tup, oTupOf_lst, oTupOf_tup, oLstOf_lst, oLstOf_tup, oRv_lst, oRv_tup, oAdd_tup, dChain_ap, asTru_bl, asTru_tup, asTru_lst, oIsN_ap, oNotN_ap, asI_ap, oSl_tup, oSl_lst, oZip_tup, oZip_lst, oAddI_ap, oEqS_ap, oNeS_ap, oNe_nil, oIxN_ap _ _ e1, atI4_1, hb, atI4_2, sStoreN_ap, e1, ixN4_2, oIxN_ap _ _ s1, s1, atI4_3, atI4_0, oNeM_ints _ s2, List.isEmpty_cons, Bool.not_false, ok, pp, s3, ixN4_1, pow10_18, hs, decide_false, Bool.false_eq_true] at t ⊢
        exact t
  · refine done none a k M rfl (fun _ _ _ => rfl) e1 ⟨cs, e2⟩ k0 (by omega) ?_
    have t := tail none a k M e1
    rw [den__law_draw, sSeq_ap]
    simp -implicitDefEqProofs only [sSeq_ap, sAsg_ap, sPar_ap, sRet_ap, sIf_ap, sExpr_ap, sNext_ap, bnd_ap, ret_ap, bindR_ok, thenR_ok, dVar_ap, varR_ok, seqR_nx, seqR_rt, asgR_ok, gNm_ap, gCn_ap, gcnR_ok, gNl_ap, gTp_fr, gTp_ap, gLs_ap, dCons_ap, dNil_ap, asB_ap, dOr_ap, dAnd_ap, dNot_ap, dAndV_ap, dOrV_ap, dNotV_ap, dIf_ap, oAdd_int, oSub_int, oLt_int, oLe_int, oGt_int, oGe_int, oNeg_int, oEq_int, oNe_int, oEq_fr, oNe_fr, oEq_bl, oNe_bl, oTup_ap, oLst_ap, oCall_ap, oAbs_ap, oMax_ap, oMin_ap, oToInt_b, oToInt_i, oLen_lst, oLen_scr, oLen_tup, oIx_lst, oIx_scr, oAdd_lst, oIx_tup, oIx_fr0, oIx_fr1, ixR_ok, oItL_ap, oItT_ap, sFor_ap, startD, List.map_cons, List.map_nil, List.length_cons, List.length_nil, List.replicate_succ, List.replicate_zero, List.cons_append, List.nil_append, List.append_nil, List.getElem?_cons_zero, List.getElem?_cons_succ, List.set_cons_zero, List.set_cons_succ, Nat.reduceAdd, Nat.reduceSub, Nat.sub_self, Nat.reduceLeDiff, List.all_cons, List.all_nil, np_fr, np_int, np_bl, np_tup, np_lst, np_str, np_non, Bool.and_self, Bool.and_true, if_true_, if_false_, zero_add', if_tt, if_ff, decide_true, decide_false, Nat.le_refl, oItS_lst, oItS_tup, oTupOf_lst, oTupOf_tup, oLstOf_lst, oLstOf_tup, oRv_lst, oRv_tup, oAdd_tup, dChain_ap, asTru_bl, asTru_tup, asTru_lst, oIsN_ap, oNotN_ap, asI_ap, oSl_tup, oSl_lst, oZip_tup, oZip_lst, oAddI_ap, oEqS_ap, oNeS_ap, oNe_nil, oIxN_ap _ _ e1, atI4_1, hb, decide_false, Bool.false_eq_true] at t ⊢
    exact t
/-! the urn of a script -/
theorem oSl_scr' (ds : List D) (l u : Option Int) (ρ : Env) (M : Mem) : oSl (.scr ds) l u ρ M = some (.ok (.lst (cutD ds l u)), M) := rfl
theorem urn_loop {S : Option D} {M : Mem} : ∀ (cs : List Int) (f : Int) (o2 : Option D), 0 ≤ f → f < 2 ^ 31 → ∃ f' o2', forF (gNm 2) den__law_urn_L1 (cs.map D.int) [S, some (.int f), o2] M = some (.nx [S, some (.int f'), o2'], M)
  | [], f, o2, _, _ => ⟨f, o2, rfl⟩
  | c :: cs, f, o2, f0, f1 => by
    have k1 : MulOk f 69621 := MulOk.of (a := 31) (b := 20) (natAbs_lt_of f0 f1) (by decide)
    have z1 : (2147483629 : Int) ≠ 0 := by decide
    have z2 : (2147483563 : Int) ≠ 0 := by decide
    have b := fmod_pos (i := f * 69621 + c.fmod 2147483629 + 1) (m := 2147483563) (by decide)
    obtain ⟨f', o2', ih⟩ := urn_loop cs ((f * 69621 + c.fmod 2147483629 + 1).fmod 2147483563) (some (.int c)) b.1 (by omega)
    refine ⟨f', o2', ?_⟩
    have st : den__law_urn_L1 [S, some (.int f), some (.int c)] M = some (.nx [S, some (.int ((f * 69621 + c.fmod 2147483629 + 1).fmod 2147483563)), some (.int c)], M) := by
      simp -implicitDefEqProofs only [den__law_urn_L1, sSeq_ap, sAsg_ap, sPar_ap, sRet_ap, sIf_ap, sExpr_ap, sNext_ap, bnd_ap, ret_ap, bindR_ok, thenR_ok, dVar_ap, varR_ok, seqR_nx, seqR_rt, asgR_ok, gNm_ap, gCn_ap, gcnR_ok, gNl_ap, gTp_fr, gTp_ap, gLs_ap, dCons_ap, dNil_ap, asB_ap, dOr_ap, dAnd_ap, dNot_ap, dAndV_ap, dOrV_ap, dNotV_ap, dIf_ap, oAdd_int, oSub_int, oLt_int, oLe_int, oGt_int, oGe_int, oNeg_int, oEq_int, oNe_int, oEq_fr, oNe_fr, oEq_bl, oNe_bl, oTup_ap, oLst_ap, oCall_ap, oAbs_ap, oMax_ap, oMin_ap, oToInt_b, oToInt_i, oLen_lst, oLen_scr, oLen_tup, oIx_lst, oIx_scr, oAdd_lst, oIx_tup, oIx_fr0, oIx_fr1, ixR_ok, oItL_ap, oItT_ap, sFor_ap, startD, List.map_cons, List.map_nil, List.length_cons, List.length_nil, List.replicate_succ, List.replicate_zero, List.cons_append, List.nil_append, List.append_nil, List.getElem?_cons_zero, List.getElem?_cons_succ, List.set_cons_zero, List.set_cons_succ, Nat.reduceAdd, Nat.reduceSub, Nat.sub_self, Nat.reduceLeDiff, List.all_cons, List.all_nil, np_fr, np_int, np_bl, np_tup, np_lst, np_str, np_non, Bool.and_self, Bool.and_true, if_true_, if_false_, zero_add', if_tt, if_ff, decide_true, decide_false, Nat.le_refl, oItS_lst, oItS_tup, oTupOf_lst, oTupOf_tup, oLstOf_lst, oLstOf_tup, oRv_lst, oRv_tup, oAdd_tup, dChain_ap, asTru_bl, asTru_tup, asTru_lst, oIsN_ap, oNotN_ap, asI_ap, oSl_tup, oSl_lst, oZip_tup, oZip_lst, oAddI_ap, oEqS_ap, oNeS_ap, oNe_nil, oMul_int k1, oMod_int z1, oMod_int z2]
    rw [List.map_cons, forF_cons]
    simp -implicitDefEqProofs only [sSeq_ap, sAsg_ap, sPar_ap, sRet_ap, sIf_ap, sExpr_ap, sNext_ap, bnd_ap, ret_ap, bindR_ok, thenR_ok, dVar_ap, varR_ok, seqR_nx, seqR_rt, asgR_ok, gNm_ap, gCn_ap, gcnR_ok, gNl_ap, gTp_fr, gTp_ap, gLs_ap, dCons_ap, dNil_ap, asB_ap, dOr_ap, dAnd_ap, dNot_ap, dAndV_ap, dOrV_ap, dNotV_ap, dIf_ap, oAdd_int, oSub_int, oLt_int, oLe_int, oGt_int, oGe_int, oNeg_int, oEq_int, oNe_int, oEq_fr, oNe_fr, oEq_bl, oNe_bl, oTup_ap, oLst_ap, oCall_ap, oAbs_ap, oMax_ap, oMin_ap, oToInt_b, oToInt_i, oLen_lst, oLen_scr, oLen_tup, oIx_lst, oIx_scr, oAdd_lst, oIx_tup, oIx_fr0, oIx_fr1, ixR_ok, oItL_ap, oItT_ap, sFor_ap, startD, List.map_cons, List.map_nil, List.length_cons, List.length_nil, List.replicate_succ, List.replicate_zero, List.cons_append, List.nil_append, List.append_nil, List.getElem?_cons_zero, List.getElem?_cons_succ, List.set_cons_zero, List.set_cons_succ, Nat.reduceAdd, Nat.reduceSub, Nat.sub_self, Nat.reduceLeDiff, List.all_cons, List.all_nil, np_fr, np_int, np_bl, np_tup, np_lst, np_str, np_non, Bool.and_self, Bool.and_true, if_true_, if_false_, zero_add', if_tt, if_ff, decide_true, decide_false, Nat.le_refl, oItS_lst, oItS_tup, oTupOf_lst, oTupOf_tup, oLstOf_lst, oLstOf_tup, oRv_lst, oRv_tup, oAdd_tup, dChain_ap, asTru_bl, asTru_tup, asTru_lst, oIsN_ap, oNotN_ap, asI_ap, oSl_tup, oSl_lst, oZip_tup, oZip_lst, oAddI_ap, oEqS_ap, oNeS_ap, oNe_nil, forB_ok, st, ofR_nx]
    exact ih
theorem cut_map (ns : List Int) (l u : Option Int) : ∃ ms : List Int, cutD (ns.map D.int) l u = ms.map D.int := by
  refine ⟨(ns.drop (HT.sIx ns.length 0 l)).take (HT.sIx ns.length ns.length u - HT.sIx ns.length 0 l), ?_⟩
  unfold cutD
  rw [List.length_map, List.map_take, List.map_drop]
theorem urn_eq (ns : List Int) (h : ns.length < 1000) (M : Mem) : ∃ M', F__law_urn [.scr (ns.map D.int)] M = some (.ok (.npt (M.length + 1)), M') ∧ M'.length = M.length + 2 ∧ (∀ j, j < M.length → M'[j]? = M[j]?) ∧ HasUrn 0 (M.length + 1) M.length M' := by
  obtain ⟨ms, em⟩ := cut_map ns none (some 63)
  obtain ⟨f', o2', lp⟩ := urn_loop (S := some (.scr (ns.map D.int))) (M := M) ms ((ns.length : Int) + 11) none (by omega) (by omega)
  refine ⟨M ++ [some (ms.map D.int)] ++ [some [D.ptr M.length, .int 0, .int 0, .int f']], ?_, by simp, fun j hj => by rw [List.append_assoc, List.getElem?_append_left hj], ms, 0, 0, f', ?_, ?_, by omega, by omega, by omega⟩
  · have e : den__law_urn (startD ["_law_script", "_law_fold", "_law_cell"] [.scr (ns.map D.int)]) M = some (.rt (.npt (M.length + 1)), M ++ [some (ms.map D.int)] ++ [some [D.ptr M.length, .int 0, .int 0, .int f']]) := by
      have n1 : ∀ ρ M1, M1 = M ++ [some (ms.map D.int)] → oNewN [.ptr M.length, .int 0, .int 0, .int f'] ρ M1 = some (.ok (.npt (M.length + 1)), M1 ++ [some [D.ptr M.length, .int 0, .int 0, .int f']]) := fun ρ M1 h => by
        subst h
        unfold oNewN
        rw [if_pos (by simp)]
        simp
      simp -implicitDefEqProofs only [den__law_urn, sSeq_ap, sAsg_ap, sPar_ap, sRet_ap, sIf_ap, sExpr_ap, sNext_ap, bnd_ap, ret_ap, bindR_ok, thenR_ok, dVar_ap, varR_ok, seqR_nx, seqR_rt, asgR_ok, gNm_ap, gCn_ap, gcnR_ok, gNl_ap, gTp_fr, gTp_ap, gLs_ap, dCons_ap, dNil_ap, asB_ap, dOr_ap, dAnd_ap, dNot_ap, dAndV_ap, dOrV_ap, dNotV_ap, dIf_ap, oAdd_int, oSub_int, oLt_int, oLe_int, oGt_int, oGe_int, oNeg_int, oEq_int, oNe_int, oEq_fr, oNe_fr, oEq_bl, oNe_bl, oTup_ap, oLst_ap, oCall_ap, oAbs_ap, oMax_ap, oMin_ap, oToInt_b, oToInt_i, oLen_lst, oLen_scr, oLen_tup, oIx_lst, oIx_scr, oAdd_lst, oIx_tup, oIx_fr0, oIx_fr1, ixR_ok, oItL_ap, oItT_ap, sFor_ap, startD, List.map_cons, List.map_nil, List.length_cons, List.length_nil, List.replicate_succ, List.replicate_zero, List.cons_append, List.nil_append, List.append_nil, List.getElem?_cons_zero, List.getElem?_cons_succ, List.set_cons_zero, List.set_cons_succ, Nat.reduceAdd, Nat.reduceSub, Nat.sub_self, Nat.reduceLeDiff, List.all_cons, List.all_nil, np_fr, np_int, np_bl, np_tup, np_lst, np_str, np_non, Bool.and_self, Bool.and_true, if_true_, if_false_, zero_add', if_tt, if_ff, decide_true, decide_false, Nat.le_refl, oItS_lst, oItS_tup, oTupOf_lst, oTupOf_tup, oLstOf_lst, oLstOf_tup, oRv_lst, oRv_tup, oAdd_tup, dChain_ap, asTru_bl, asTru_tup, asTru_lst, oIsN_ap, oNotN_ap, asI_ap, oSl_tup, oSl_lst, oZip_tup, oZip_lst, oAddI_ap, oEqS_ap, oNeS_ap, oNe_nil, List.length_map, oSl_scr', em, lp, oLstN_lst, n1]
    rw [F__law_urn]
    unfold runF
    rw [e]
    dsimp only
    rw [if_pos ⟨by simp, by unfold D.ptLt; simp⟩, List.take_of_length_le (by simp)]
  · rw [List.getElem?_append_right (by simp)]
    simp
  · rw [List.append_assoc, List.getElem?_append_right (Nat.le_refl _), Nat.sub_self]
    rfl
/-! lowest terms -/
theorem made_loop : ∀ (n : Nat) (x y : Option D) (a b : Nat) (M : Mem), b < n →
    whileF (bnd (bnd (dVar 3) fun d => bnd (ret (.int 0)) fun e => oNe d e) asB) den__law_made_L1 n [x, y, some (.int (a : Int)), some (.int (b : Int))] M = some (.nx [x, y, some (.int (Nat.gcd a b : Nat)), some (.int 0)], M)
  | 0, x, y, a, b, M, h => absurd h (by omega)
  | n + 1, x, y, a, b, M, h => by
    by_cases hb : b = 0
    · subst hb
      unfold whileF
      simp -implicitDefEqProofs only [sSeq_ap, sAsg_ap, sPar_ap, sRet_ap, sIf_ap, sExpr_ap, sNext_ap, bnd_ap, ret_ap, bindR_ok, thenR_ok, dVar_ap, varR_ok, seqR_nx, seqR_rt, asgR_ok, gNm_ap, gCn_ap, gcnR_ok, gNl_ap, gTp_fr, gTp_ap, gLs_ap, dCons_ap, dNil_ap, asB_ap, dOr_ap, dAnd_ap, dNot_ap, dAndV_ap, dOrV_ap, dNotV_ap, dIf_ap, oAdd_int, oSub_int, oLt_int, oLe_int, oGt_int, oGe_int, oNeg_int, oEq_int, oNe_int, oEq_fr, oNe_fr, oEq_bl, oNe_bl, oTup_ap, oLst_ap, oCall_ap, oAbs_ap, oMax_ap, oMin_ap, oToInt_b, oToInt_i, oLen_lst, oLen_scr, oLen_tup, oIx_lst, oIx_scr, oAdd_lst, oIx_tup, oIx_fr0, oIx_fr1, ixR_ok, oItL_ap, oItT_ap, sFor_ap, startD, List.map_cons, List.map_nil, List.length_cons, List.length_nil, List.replicate_succ, List.replicate_zero, List.cons_append, List.nil_append, List.append_nil, List.getElem?_cons_zero, List.getElem?_cons_succ, List.set_cons_zero, List.set_cons_succ, Nat.reduceAdd, Nat.reduceSub, Nat.sub_self, Nat.reduceLeDiff, List.all_cons, List.all_nil, np_fr, np_int, np_bl, np_tup, np_lst, np_str, np_non, Bool.and_self, Bool.and_true, if_true_, if_false_, zero_add', if_tt, if_ff, decide_true, decide_false, Nat.le_refl, oItS_lst, oItS_tup, oTupOf_lst, oTupOf_tup, oLstOf_lst, oLstOf_tup, oRv_lst, oRv_tup, oAdd_tup, dChain_ap, asTru_bl, asTru_tup, asTru_lst, oIsN_ap, oNotN_ap, asI_ap, oSl_tup, oSl_lst, oZip_tup, oZip_lst, oAddI_ap, oEqS_ap, oNeS_ap, oNe_nil]
      simp
    · have ih := made_loop n x y b (a % b) M (by have := Nat.mod_lt a (Nat.pos_of_ne_zero hb); omega)
      unfold whileF
      have hb' : (b : Int) ≠ 0 := by omega
      have e : ((a : Int)).fmod (b : Int) = ((a % b : Nat) : Int) := by rw [fmod_nat]; rfl
      have e2 : Nat.gcd b (a % b) = Nat.gcd a b := by rw [Nat.gcd_comm b, ← Nat.gcd_rec, Nat.gcd_comm]
      have e4 : den__law_made_L1 [x, y, some (.int (a : Int)), some (.int (b : Int))] M = some (.nx [x, y, some (.int (b : Int)), some (.int ((a % b : Nat) : Int))], M) := by
        simp -implicitDefEqProofs only [den__law_made_L1, sSeq_ap, sAsg_ap, sPar_ap, sRet_ap, sIf_ap, sExpr_ap, sNext_ap, bnd_ap, ret_ap, bindR_ok, thenR_ok, dVar_ap, varR_ok, seqR_nx, seqR_rt, asgR_ok, gNm_ap, gCn_ap, gcnR_ok, gNl_ap, gTp_fr, gTp_ap, gLs_ap, dCons_ap, dNil_ap, asB_ap, dOr_ap, dAnd_ap, dNot_ap, dAndV_ap, dOrV_ap, dNotV_ap, dIf_ap, oAdd_int, oSub_int, oLt_int, oLe_int, oGt_int, oGe_int, oNeg_int, oEq_int, oNe_int, oEq_fr, oNe_fr, oEq_bl, oNe_bl, oTup_ap, oLst_ap, oCall_ap, oAbs_ap, oMax_ap, oMin_ap, oToInt_b, oToInt_i, oLen_lst, oLen_scr, oLen_tup, oIx_lst, oIx_scr, oAdd_lst, oIx_tup, oIx_fr0, oIx_fr1, ixR_ok, oItL_ap, oItT_ap, sFor_ap, startD, List.map_cons, List.map_nil, List.length_cons, List.length_nil, List.replicate_succ, List.replicate_zero, List.cons_append, List.nil_append, List.append_nil, List.getElem?_cons_zero, List.getElem?_cons_succ, List.set_cons_zero, List.set_cons_succ, Nat.reduceAdd, Nat.reduceSub, Nat.sub_self, Nat.reduceLeDiff, List.all_cons, List.all_nil, np_fr, np_int, np_bl, np_tup, np_lst, np_str, np_non, Bool.and_self, Bool.and_true, if_true_, if_false_, zero_add', if_tt, if_ff, decide_true, decide_false, Nat.le_refl, oItS_lst, oItS_tup, oTupOf_lst, oTupOf_tup, oLstOf_lst, oLstOf_tup, oRv_lst, oRv_tup, oAdd_tup, dChain_ap, asTru_bl, asTru_tup, asTru_lst, oIsN_ap, oNotN_ap, asI_ap, oSl_tup, oSl_lst, oZip_tup, oZip_lst, oAddI_ap, oEqS_ap, oNeS_ap, oNe_nil, oMod_int hb', e]
      simp -implicitDefEqProofs only [sSeq_ap, sAsg_ap, sPar_ap, sRet_ap, sIf_ap, sExpr_ap, sNext_ap, bnd_ap, ret_ap, bindR_ok, thenR_ok, dVar_ap, varR_ok, seqR_nx, seqR_rt, asgR_ok, gNm_ap, gCn_ap, gcnR_ok, gNl_ap, gTp_fr, gTp_ap, gLs_ap, dCons_ap, dNil_ap, asB_ap, dOr_ap, dAnd_ap, dNot_ap, dAndV_ap, dOrV_ap, dNotV_ap, dIf_ap, oAdd_int, oSub_int, oLt_int, oLe_int, oGt_int, oGe_int, oNeg_int, oEq_int, oNe_int, oEq_fr, oNe_fr, oEq_bl, oNe_bl, oTup_ap, oLst_ap, oCall_ap, oAbs_ap, oMax_ap, oMin_ap, oToInt_b, oToInt_i, oLen_lst, oLen_scr, oLen_tup, oIx_lst, oIx_scr, oAdd_lst, oIx_tup, oIx_fr0, oIx_fr1, ixR_ok, oItL_ap, oItT_ap, sFor_ap, startD, List.map_cons, List.map_nil, List.length_cons, List.length_nil, List.replicate_succ, List.replicate_zero, List.cons_append, List.nil_append, List.append_nil, List.getElem?_cons_zero, List.getElem?_cons_succ, List.set_cons_zero, List.set_cons_succ, Nat.reduceAdd, Nat.reduceSub, Nat.sub_self, Nat.reduceLeDiff, List.all_cons, List.all_nil, np_fr, np_int, np_bl, np_tup, np_lst, np_str, np_non, Bool.and_self, Bool.and_true, if_true_, if_false_, zero_add', if_tt, if_ff, decide_true, decide_false, Nat.le_refl, oItS_lst, oItS_tup, oTupOf_lst, oTupOf_tup, oLstOf_lst, oLstOf_tup, oRv_lst, oRv_tup, oAdd_tup, dChain_ap, asTru_bl, asTru_tup, asTru_lst, oIsN_ap, oNotN_ap, asI_ap, oSl_tup, oSl_lst, oZip_tup, oZip_lst, oAddI_ap, oEqS_ap, oNeS_ap, oNe_nil, hb', decide_false, Bool.not_false, e4, ih, e2]
theorem made_eq {t b : Int} (hb : 0 < b) (hs : b.natAbs < 2 ^ 4000) (M : Mem) : F__law_made [.int t, .int b] M = some (.ok (frQ (Rat.divInt t b)), M) := by
  refine runF_pure ?_ rfl
  have a1 : (if t < 0 then -t else t) = ((t.natAbs : Nat) : Int) := by split <;> omega
  have a2 : b = ((b.natAbs : Nat) : Int) := by omega
  have lp := sWhile_eq (made_loop (b.natAbs + 1) (some (.int t)) (some (.int b)) t.natAbs b.natAbs M (by omega))
  rw [← a2] at lp
  have gp : 0 < Int.gcd t b := Int.gcd_pos_of_ne_zero_right t (by omega)
  have gl : Int.gcd t b < 2 ^ 4000 := Nat.lt_of_le_of_lt (Nat.gcd_le_right _ (by omega)) hs
  have eg : Nat.gcd t.natAbs b.natAbs = Int.gcd t b := rfl
  have k2 : DivOk ((Int.gcd t b : Nat) : Int) := DivOk.of (b := 4000) (by omega) (by rw [Int.natAbs_natCast]; exact gl)
  have nb : ¬ b < 0 := by omega
  simp -implicitDefEqProofs only [den__law_made, sSeq_ap, sAsg_ap, sPar_ap, sRet_ap, sIf_ap, sExpr_ap, sNext_ap, bnd_ap, ret_ap, bindR_ok, thenR_ok, dVar_ap, varR_ok, seqR_nx, seqR_rt, asgR_ok, gNm_ap, gCn_ap, gcnR_ok, gNl_ap, gTp_fr, gTp_ap, gLs_ap, dCons_ap, dNil_ap, asB_ap, dOr_ap, dAnd_ap, dNot_ap, dAndV_ap, dOrV_ap, dNotV_ap, dIf_ap, oAdd_int, oSub_int, oLt_int, oLe_int, oGt_int, oGe_int, oNeg_int, oEq_int, oNe_int, oEq_fr, oNe_fr, oEq_bl, oNe_bl, oTup_ap, oLst_ap, oCall_ap, oAbs_ap, oMax_ap, oMin_ap, oToInt_b, oToInt_i, oLen_lst, oLen_scr, oLen_tup, oIx_lst, oIx_scr, oAdd_lst, oIx_tup, oIx_fr0, oIx_fr1, ixR_ok, oItL_ap, oItT_ap, sFor_ap, startD, List.map_cons, List.map_nil, List.length_cons, List.length_nil, List.replicate_succ, List.replicate_zero, List.cons_append, List.nil_append, List.append_nil, List.getElem?_cons_zero, List.getElem?_cons_succ, List.set_cons_zero, List.set_cons_succ, Nat.reduceAdd, Nat.reduceSub, Nat.sub_self, Nat.reduceLeDiff, List.all_cons, List.all_nil, np_fr, np_int, np_bl, np_tup, np_lst, np_str, np_non, Bool.and_self, Bool.and_true, if_true_, if_false_, zero_add', if_tt, if_ff, decide_true, decide_false, Nat.le_refl, oItS_lst, oItS_tup, oTupOf_lst, oTupOf_tup, oLstOf_lst, oLstOf_tup, oRv_lst, oRv_tup, oAdd_tup, dChain_ap, asTru_bl, asTru_tup, asTru_lst, oIsN_ap, oNotN_ap, asI_ap, oSl_tup, oSl_lst, oZip_tup, oZip_lst, oAddI_ap, oEqS_ap, oNeS_ap, oNe_nil, a1, lp, eg, oDiv_int k2]
  rw [low_math (t := t) (b := b) (by omega) (by rw [if_neg nb]; omega)]
section
variable {x y : Rat}
theorem num_lt {k : Nat} (h : Bd k x) : x.num.natAbs < 2 ^ k := h.1
theorem den_lt {k : Nat} (h : Bd k x) : ((x.den : Int)).natAbs < 2 ^ k := by rw [Int.natAbs_natCast]; exact h.2
theorem den0 (x : Rat) : (0 : Int) < (x.den : Int) := by have := x.den_pos; omega
theorem lplus_eq (hx : Bd 1900 x) (hy : Bd 1900 y) (M : Mem) : F__law_plus [frQ x, frQ y] M = some (.ok (frQ (x + y)), M) := by
  refine runF_pure ?_ rfl
  have k1 : MulOk x.num (y.den : Int) := MulOk.of (num_lt hx) (den_lt hy)
  have k2 : MulOk y.num (x.den : Int) := MulOk.of (num_lt hy) (den_lt hx)
  have k3 : MulOk (x.den : Int) (y.den : Int) := MulOk.of (den_lt hx) (den_lt hy)
  have b0 : 0 < (x.den : Int) * (y.den : Int) := Int.mul_pos (den0 x) (den0 y)
  have lo := made_eq (t := x.num * (y.den : Int) + y.num * (x.den : Int)) (b := (x.den : Int) * (y.den : Int)) b0 (by rw [Int.natAbs_mul]; exact nat_lt_pow 4000 (mul_lt_pow (den_lt hx) (den_lt hy)) (by decide))
  have e : Rat.divInt (x.num * (y.den : Int) + y.num * (x.den : Int)) ((x.den : Int) * (y.den : Int)) = x + y := divInt_add x y
  rw [e] at lo
  simp -implicitDefEqProofs only [den__law_plus, sSeq_ap, sAsg_ap, sPar_ap, sRet_ap, sIf_ap, sExpr_ap, sNext_ap, bnd_ap, ret_ap, bindR_ok, thenR_ok, dVar_ap, varR_ok, seqR_nx, seqR_rt, asgR_ok, gNm_ap, gCn_ap, gcnR_ok, gNl_ap, gTp_fr, gTp_ap, gLs_ap, dCons_ap, dNil_ap, asB_ap, dOr_ap, dAnd_ap, dNot_ap, dAndV_ap, dOrV_ap, dNotV_ap, dIf_ap, oAdd_int, oSub_int, oLt_int, oLe_int, oGt_int, oGe_int, oNeg_int, oEq_int, oNe_int, oEq_fr, oNe_fr, oEq_bl, oNe_bl, oTup_ap, oLst_ap, oCall_ap, oAbs_ap, oMax_ap, oMin_ap, oToInt_b, oToInt_i, oLen_lst, oLen_scr, oLen_tup, oIx_lst, oIx_scr, oAdd_lst, oIx_tup, oIx_fr0, oIx_fr1, ixR_ok, oItL_ap, oItT_ap, sFor_ap, startD, List.map_cons, List.map_nil, List.length_cons, List.length_nil, List.replicate_succ, List.replicate_zero, List.cons_append, List.nil_append, List.append_nil, List.getElem?_cons_zero, List.getElem?_cons_succ, List.set_cons_zero, List.set_cons_succ, Nat.reduceAdd, Nat.reduceSub, Nat.sub_self, Nat.reduceLeDiff, List.all_cons, List.all_nil, np_fr, np_int, np_bl, np_tup, np_lst, np_str, np_non, Bool.and_self, Bool.and_true, if_true_, if_false_, zero_add', if_tt, if_ff, decide_true, decide_false, Nat.le_refl, oItS_lst, oItS_tup, oTupOf_lst, oTupOf_tup, oLstOf_lst, oLstOf_tup, oRv_lst, oRv_tup, oAdd_tup, dChain_ap, asTru_bl, asTru_tup, asTru_lst, oIsN_ap, oNotN_ap, asI_ap, oSl_tup, oSl_lst, oZip_tup, oZip_lst, oAddI_ap, oEqS_ap, oNeS_ap, oNe_nil, oMul_int k1, oMul_int k2, oMul_int k3, lo]
theorem ltimes_eq (hx : Bd 1900 x) (hy : Bd 1900 y) (M : Mem) : F__law_times [frQ x, frQ y] M = some (.ok (frQ (x * y)), M) := by
  refine runF_pure ?_ rfl
  have k1 : MulOk x.num y.num := MulOk.of (num_lt hx) (num_lt hy)
  have k3 : MulOk (x.den : Int) (y.den : Int) := MulOk.of (den_lt hx) (den_lt hy)
  have b0 : 0 < (x.den : Int) * (y.den : Int) := Int.mul_pos (den0 x) (den0 y)
  have lo := made_eq (t := x.num * y.num) (b := (x.den : Int) * (y.den : Int)) b0 (by rw [Int.natAbs_mul]; exact nat_lt_pow 4000 (mul_lt_pow (den_lt hx) (den_lt hy)) (by decide))
  rw [← mul_divInt] at lo
  simp -implicitDefEqProofs only [den__law_times, sSeq_ap, sAsg_ap, sPar_ap, sRet_ap, sIf_ap, sExpr_ap, sNext_ap, bnd_ap, ret_ap, bindR_ok, thenR_ok, dVar_ap, varR_ok, seqR_nx, seqR_rt, asgR_ok, gNm_ap, gCn_ap, gcnR_ok, gNl_ap, gTp_fr, gTp_ap, gLs_ap, dCons_ap, dNil_ap, asB_ap, dOr_ap, dAnd_ap, dNot_ap, dAndV_ap, dOrV_ap, dNotV_ap, dIf_ap, oAdd_int, oSub_int, oLt_int, oLe_int, oGt_int, oGe_int, oNeg_int, oEq_int, oNe_int, oEq_fr, oNe_fr, oEq_bl, oNe_bl, oTup_ap, oLst_ap, oCall_ap, oAbs_ap, oMax_ap, oMin_ap, oToInt_b, oToInt_i, oLen_lst, oLen_scr, oLen_tup, oIx_lst, oIx_scr, oAdd_lst, oIx_tup, oIx_fr0, oIx_fr1, ixR_ok, oItL_ap, oItT_ap, sFor_ap, startD, List.map_cons, List.map_nil, List.length_cons, List.length_nil, List.replicate_succ, List.replicate_zero, List.cons_append, List.nil_append, List.append_nil, List.getElem?_cons_zero, List.getElem?_cons_succ, List.set_cons_zero, List.set_cons_succ, Nat.reduceAdd, Nat.reduceSub, Nat.sub_self, Nat.reduceLeDiff, List.all_cons, List.all_nil, np_fr, np_int, np_bl, np_tup, np_lst, np_str, np_non, Bool.and_self, Bool.and_true, if_true_, if_false_, zero_add', if_tt, if_ff, decide_true, decide_false, Nat.le_refl, oItS_lst, oItS_tup, oTupOf_lst, oTupOf_tup, oLstOf_lst, oLstOf_tup, oRv_lst, oRv_tup, oAdd_tup, dChain_ap, asTru_bl, asTru_tup, asTru_lst, oIsN_ap, oNotN_ap, asI_ap, oSl_tup, oSl_lst, oZip_tup, oZip_lst, oAddI_ap, oEqS_ap, oNeS_ap, oNe_nil, oMul_int k1, oMul_int k3, lo]
theorem lbelow_eq (hx : Bd 1900 x) (hy : Bd 1900 y) (M : Mem) : F__law_below [frQ x, frQ y] M = some (.ok (.bl (decide (x < y))), M) := by
  refine runF_pure ?_ rfl
  have k1 : MulOk x.num (y.den : Int) := MulOk.of (num_lt hx) (den_lt hy)
  have k2 : MulOk y.num (x.den : Int) := MulOk.of (num_lt hy) (den_lt hx)
  have e : decide (x.num * (y.den : Int) < y.num * (x.den : Int)) = decide (x < y) := by
    rw [decide_eq_decide, Rat.lt_iff]
  simp -implicitDefEqProofs only [den__law_below, sSeq_ap, sAsg_ap, sPar_ap, sRet_ap, sIf_ap, sExpr_ap, sNext_ap, bnd_ap, ret_ap, bindR_ok, thenR_ok, dVar_ap, varR_ok, seqR_nx, seqR_rt, asgR_ok, gNm_ap, gCn_ap, gcnR_ok, gNl_ap, gTp_fr, gTp_ap, gLs_ap, dCons_ap, dNil_ap, asB_ap, dOr_ap, dAnd_ap, dNot_ap, dAndV_ap, dOrV_ap, dNotV_ap, dIf_ap, oAdd_int, oSub_int, oLt_int, oLe_int, oGt_int, oGe_int, oNeg_int, oEq_int, oNe_int, oEq_fr, oNe_fr, oEq_bl, oNe_bl, oTup_ap, oLst_ap, oCall_ap, oAbs_ap, oMax_ap, oMin_ap, oToInt_b, oToInt_i, oLen_lst, oLen_scr, oLen_tup, oIx_lst, oIx_scr, oAdd_lst, oIx_tup, oIx_fr0, oIx_fr1, ixR_ok, oItL_ap, oItT_ap, sFor_ap, startD, List.map_cons, List.map_nil, List.length_cons, List.length_nil, List.replicate_succ, List.replicate_zero, List.cons_append, List.nil_append, List.append_nil, List.getElem?_cons_zero, List.getElem?_cons_succ, List.set_cons_zero, List.set_cons_succ, Nat.reduceAdd, Nat.reduceSub, Nat.sub_self, Nat.reduceLeDiff, List.all_cons, List.all_nil, np_fr, np_int, np_bl, np_tup, np_lst, np_str, np_non, Bool.and_self, Bool.and_true, if_true_, if_false_, zero_add', if_tt, if_ff, decide_true, decide_false, Nat.le_refl, oItS_lst, oItS_tup, oTupOf_lst, oTupOf_tup, oLstOf_lst, oLstOf_tup, oRv_lst, oRv_tup, oAdd_tup, dChain_ap, asTru_bl, asTru_tup, asTru_lst, oIsN_ap, oNotN_ap, asI_ap, oSl_tup, oSl_lst, oZip_tup, oZip_lst, oAddI_ap, oEqS_ap, oNeS_ap, oNe_nil, oMul_int k1, oMul_int k2, e]
end
/-! drawn numbers -/
section
variable {c n m : Nat} {M : Mem}
theorem a_below_eq (hr : HasUrn c n m M) (hc : c + 2 < 2 ^ 30) : ∃ v M', F__law_a_below [.npt n] M = some (.ok (.int v), M') ∧ 1 ≤ v ∧ v ≤ 1000 ∧ Drew (c + 2) n m M M' := by
  obtain ⟨x, M1, e1, x0, x1, t1⟩ := udraw_eq hr (by omega) (w := 1000) (by decide) (by decide)
  obtain ⟨y, M2, e2, y0, y1, t2⟩ := udraw_eq t1.has (by omega) (w := 11) (by decide) (by decide)
  obtain ⟨v, e3, v0, v1⟩ := atI_lit (l := [.int 1, .int 1, .int 1, .int 2, .int 3, .int 4, .int 6, .int 12, .int 7, .int 997, .int (1 + x)]) (P := fun v => 1 ≤ v ∧ v ≤ 1000) y0 y1 fun d hd => by
    simp -implicitDefEqProofs only [List.mem_cons, List.not_mem_nil, or_false] at hd
    rcases hd with h | h | h | h | h | h | h | h | h | h | h <;> subst h <;> exact ⟨_, rfl, by omega, by omega⟩
  have t := t1.trans t2
  refine ⟨v, M2, ?_, v0, v1, t⟩
  have := runF_rt (N := ["_law_urn_here"]) (fb := den__law_a_below) (ds := [.npt n]) (M := M) (M2 := M2) (d := .int v) (by
    simp -implicitDefEqProofs only [den__law_a_below, sSeq_ap, sAsg_ap, sPar_ap, sRet_ap, sIf_ap, sExpr_ap, sNext_ap, bnd_ap, ret_ap, bindR_ok, thenR_ok, dVar_ap, varR_ok, seqR_nx, seqR_rt, asgR_ok, gNm_ap, gCn_ap, gcnR_ok, gNl_ap, gTp_fr, gTp_ap, gLs_ap, dCons_ap, dNil_ap, asB_ap, dOr_ap, dAnd_ap, dNot_ap, dAndV_ap, dOrV_ap, dNotV_ap, dIf_ap, oAdd_int, oSub_int, oLt_int, oLe_int, oGt_int, oGe_int, oNeg_int, oEq_int, oNe_int, oEq_fr, oNe_fr, oEq_bl, oNe_bl, oTup_ap, oLst_ap, oCall_ap, oAbs_ap, oMax_ap, oMin_ap, oToInt_b, oToInt_i, oLen_lst, oLen_scr, oLen_tup, oIx_lst, oIx_scr, oAdd_lst, oIx_tup, oIx_fr0, oIx_fr1, ixR_ok, oItL_ap, oItT_ap, sFor_ap, startD, List.map_cons, List.map_nil, List.length_cons, List.length_nil, List.replicate_succ, List.replicate_zero, List.cons_append, List.nil_append, List.append_nil, List.getElem?_cons_zero, List.getElem?_cons_succ, List.set_cons_zero, List.set_cons_succ, Nat.reduceAdd, Nat.reduceSub, Nat.sub_self, Nat.reduceLeDiff, List.all_cons, List.all_nil, np_fr, np_int, np_bl, np_tup, np_lst, np_str, np_non, Bool.and_self, Bool.and_true, if_true_, if_false_, zero_add', if_tt, if_ff, decide_true, decide_false, Nat.le_refl, oItS_lst, oItS_tup, oTupOf_lst, oTupOf_tup, oLstOf_lst, oLstOf_tup, oRv_lst, oRv_tup, oAdd_tup, dChain_ap, asTru_bl, asTru_tup, asTru_lst, oIsN_ap, oNotN_ap, asI_ap, oSl_tup, oSl_lst, oZip_tup, oZip_lst, oAddI_ap, oEqS_ap, oNeS_ap, oNe_nil, e1, e2, e3]) (by rw [t.len]; exact Nat.le_refl _) rfl
  rw [F__law_a_below, this, List.take_of_length_le (by rw [t.len]; exact Nat.le_refl _)]
end
/-! amounts, clamps -/
def clQ (b l h : Rat) : D := .tup [frQ b, frQ l, frQ h]
section
variable {c n m : Nat} {M : Mem}
theorem dI_nonneg {t b : Int} (hb : 0 < b) (ht : 0 ≤ t) : 0 ≤ Rat.divInt t b := by
  have h := divInt_cross t b (by omega)
  have hd := (Rat.divInt t b).den_pos
  have : 0 ≤ (Rat.divInt t b).num * b := by rw [h]; exact Int.mul_nonneg ht (by omega)
  exact Rat.num_nonneg.mp (Int.le_of_mul_le_mul_right (by rw [Int.zero_mul]; exact this) hb)
theorem dI_le {s t b : Int} (hb : 0 < b) (h : s ≤ t) : Rat.divInt s b ≤ Rat.divInt t b := by
  have e : Rat.divInt t b = Rat.divInt s b + Rat.divInt (t - s) b := by
    rw [Rat.divInt_add_divInt _ _ (by omega) (by omega), Rat.divInt_eq_divInt_iff (by omega) (by have := Int.mul_pos hb hb; omega)]
    grind
  have := dI_nonneg (t := t - s) hb (by omega)
  grind
theorem amount_eq (hr : HasUrn c n m M) (hc : c + 4 < 2 ^ 30) : ∃ q M', F__law_amount [.npt n] M = some (.ok (frQ q), M') ∧ 0 ≤ q ∧ Bd 20 q ∧ Drew (c + 4) n m M M' := by
  obtain ⟨x, M1, e1, x0, x1, t1⟩ := udraw_eq hr (by omega) (w := 4) (by decide) (by decide)
  obtain ⟨v, e2, v0, v1⟩ := atI_lit (l := [.int 4, .int 13, .int 101, .int (10 ^ 6 + 1)]) (P := fun v => 4 ≤ v ∧ v ≤ 10 ^ 6 + 1) x0 x1 fun d hd => by
    simp -implicitDefEqProofs only [List.mem_cons, List.not_mem_nil, or_false] at hd
    rcases hd with h | h | h | h <;> subst h <;> exact ⟨_, rfl, by omega, by omega⟩
  obtain ⟨y, M2, e3, y0, y1, t2⟩ := udraw_eq t1.has (by omega) (w := v) (by omega) (small_lt v (by omega) (by omega))
  obtain ⟨b, M3, e4, b0, b1, t3⟩ := a_below_eq t2.has (by omega)
  have e5 := made_eq (t := y) (b := b) (by omega) (small_lt b (by omega) (by omega)) M3
  have t := t1.trans (t2.trans t3)
  refine ⟨Rat.divInt y b, M3, ?_, dI_nonneg (by omega) y0, bd_divInt (by omega) (by omega) (by omega), t.mono (by omega)⟩
  have := runF_rt (N := ["_law_urn_here", "_law_most"]) (fb := den__law_amount) (ds := [.npt n]) (M := M) (M2 := M3) (d := frQ (Rat.divInt y b)) (by
    simp -implicitDefEqProofs only [den__law_amount, sSeq_ap, sAsg_ap, sPar_ap, sRet_ap, sIf_ap, sExpr_ap, sNext_ap, bnd_ap, ret_ap, bindR_ok, thenR_ok, dVar_ap, varR_ok, seqR_nx, seqR_rt, asgR_ok, gNm_ap, gCn_ap, gcnR_ok, gNl_ap, gTp_fr, gTp_ap, gLs_ap, dCons_ap, dNil_ap, asB_ap, dOr_ap, dAnd_ap, dNot_ap, dAndV_ap, dOrV_ap, dNotV_ap, dIf_ap, oAdd_int, oSub_int, oLt_int, oLe_int, oGt_int, oGe_int, oNeg_int, oEq_int, oNe_int, oEq_fr, oNe_fr, oEq_bl, oNe_bl, oTup_ap, oLst_ap, oCall_ap, oAbs_ap, oMax_ap, oMin_ap, oToInt_b, oToInt_i, oLen_lst, oLen_scr, oLen_tup, oIx_lst, oIx_scr, oAdd_lst, oIx_tup, oIx_fr0, oIx_fr1, ixR_ok, oItL_ap, oItT_ap, sFor_ap, startD, List.map_cons, List.map_nil, List.length_cons, List.length_nil, List.replicate_succ, List.replicate_zero, List.cons_append, List.nil_append, List.append_nil, List.getElem?_cons_zero, List.getElem?_cons_succ, List.set_cons_zero, List.set_cons_succ, Nat.reduceAdd, Nat.reduceSub, Nat.sub_self, Nat.reduceLeDiff, List.all_cons, List.all_nil, np_fr, np_int, np_bl, np_tup, np_lst, np_str, np_non, Bool.and_self, Bool.and_true, if_true_, if_false_, zero_add', if_tt, if_ff, decide_true, decide_false, Nat.le_refl, oItS_lst, oItS_tup, oTupOf_lst, oTupOf_tup, oLstOf_lst, oLstOf_tup, oRv_lst, oRv_tup, oAdd_tup, dChain_ap, asTru_bl, asTru_tup, asTru_lst, oIsN_ap, oNotN_ap, asI_ap, oSl_tup, oSl_lst, oZip_tup, oZip_lst, oAddI_ap, oEqS_ap, oNeS_ap, oNe_nil, pow10_6, e1, e2, e3, e4, e5]) (by rw [t.len]; exact Nat.le_refl _) rfl
  rw [F__law_amount, this, List.take_of_length_le (by rw [t.len]; exact Nat.le_refl _)]
theorem sign_at {x : Int} (h0 : 0 ≤ x) (h1 : x < 2) : ∃ s : Int, atI [D.int 1, .int (-1)] x = some (.int s) ∧ (s = 1 ∨ s = -1) := by
  obtain ⟨s, e, h⟩ := atI_lit (l := [.int 1, .int (-1)]) (P := fun s => s = 1 ∨ s = -1) h0 h1 fun d hd => by
    simp -implicitDefEqProofs only [List.mem_cons, List.not_mem_nil, or_false] at hd
    rcases hd with h | h <;> subst h <;> exact ⟨_, rfl, by omega⟩
  exact ⟨s, e, h⟩
theorem any_eq (hr : HasUrn c n m M) (hc : c + 5 < 2 ^ 30) : ∃ q M', F__law_any [.npt n] M = some (.ok (frQ q), M') ∧ Bd 20 q ∧ Drew (c + 5) n m M M' := by
  obtain ⟨q, M1, e1, q0, qb, t1⟩ := amount_eq hr (by omega)
  obtain ⟨x, M2, e2, x0, x1, t2⟩ := udraw_eq t1.has (by omega) (w := 2) (by decide) (by decide)
  obtain ⟨s, e3, hs⟩ := sign_at x0 x1
  have t := t1.trans t2
  have k1 : MulOk q.num s := MulOk.of (a := 20) (b := 2) qb.1 (by rcases hs with h | h <;> subst h <;> decide)
  have e4 : ∃ r : Rat, D.tup [.int (q.num * s), .int (q.den : Int)] = frQ r ∧ Bd 20 r := by
    rcases hs with h | h
    · subst h; exact ⟨q, by rw [Int.mul_one]; rfl, qb⟩
    · subst h; exact ⟨-q, by rw [← fr_neg]; congr; omega, qb.neg⟩
  obtain ⟨r, e4, rb⟩ := e4
  refine ⟨r, M2, ?_, rb, t.mono (by omega)⟩
  have := runF_rt (N := ["_law_urn_here", "_law_one"]) (fb := den__law_any) (ds := [.npt n]) (M := M) (M2 := M2) (d := frQ r) (by
    simp -implicitDefEqProofs only [den__law_any, sSeq_ap, sAsg_ap, sPar_ap, sRet_ap, sIf_ap, sExpr_ap, sNext_ap, bnd_ap, ret_ap, bindR_ok, thenR_ok, dVar_ap, varR_ok, seqR_nx, seqR_rt, asgR_ok, gNm_ap, gCn_ap, gcnR_ok, gNl_ap, gTp_fr, gTp_ap, gLs_ap, dCons_ap, dNil_ap, asB_ap, dOr_ap, dAnd_ap, dNot_ap, dAndV_ap, dOrV_ap, dNotV_ap, dIf_ap, oAdd_int, oSub_int, oLt_int, oLe_int, oGt_int, oGe_int, oNeg_int, oEq_int, oNe_int, oEq_fr, oNe_fr, oEq_bl, oNe_bl, oTup_ap, oLst_ap, oCall_ap, oAbs_ap, oMax_ap, oMin_ap, oToInt_b, oToInt_i, oLen_lst, oLen_scr, oLen_tup, oIx_lst, oIx_scr, oAdd_lst, oIx_tup, oIx_fr0, oIx_fr1, ixR_ok, oItL_ap, oItT_ap, sFor_ap, startD, List.map_cons, List.map_nil, List.length_cons, List.length_nil, List.replicate_succ, List.replicate_zero, List.cons_append, List.nil_append, List.append_nil, List.getElem?_cons_zero, List.getElem?_cons_succ, List.set_cons_zero, List.set_cons_succ, Nat.reduceAdd, Nat.reduceSub, Nat.sub_self, Nat.reduceLeDiff, List.all_cons, List.all_nil, np_fr, np_int, np_bl, np_tup, np_lst, np_str, np_non, Bool.and_self, Bool.and_true, if_true_, if_false_, zero_add', if_tt, if_ff, decide_true, decide_false, Nat.le_refl, oItS_lst, oItS_tup, oTupOf_lst, oTupOf_tup, oLstOf_lst, oLstOf_tup, oRv_lst, oRv_tup, oAdd_tup, dChain_ap, asTru_bl, asTru_tup, asTru_lst, oIsN_ap, oNotN_ap, asI_ap, oSl_tup, oSl_lst, oZip_tup, oZip_lst, oAddI_ap, oEqS_ap, oNeS_ap, oNe_nil, e1, e2, e3, oMul_int k1, e4]) (by rw [t.len]; exact Nat.le_refl _) rfl
  rw [F__law_any, this, List.take_of_length_le (by rw [t.len]; exact Nat.le_refl _)]
theorem nought_tup : D.tup [.int 0, .int 1] = frQ 0 := rfl
end
/-! what a clamp leads to -/
def mnQ (a b : Rat) : Rat := if b < a then b else a
def mxQ (a b : Rat) : Rat := if a < b then b else a
def ledQ (b l h x : Rat) : Rat := mnQ h (mxQ l (x + b))
theorem mnQ_bd {k : Nat} {a b : Rat} (ha : Bd k a) (hb : Bd k b) : Bd k (mnQ a b) := by unfold mnQ; split <;> assumption
theorem mxQ_bd {k : Nat} {a b : Rat} (ha : Bd k a) (hb : Bd k b) : Bd k (mxQ a b) := by unfold mxQ; split <;> assumption
theorem least2_eq {a b : Rat} (ha : Bd 4000 a) (hb : Bd 4000 b) (M : Mem) : F_least [.tup [frQ a, frQ b]] M = some (.ok (frQ (mnQ a b)), M) := by
  have e := least_eq (q := a) (qs := [b]) (by intro x hx; simp at hx; rcases hx with rfl | rfl <;> assumption) M
  rw [List.map_cons, List.map_cons, List.map_nil] at e
  have : minL a [a, b] = mnQ a b := by
    unfold minL
    rw [if_neg Rat.lt_irrefl]
    rfl
  rw [this] at e; exact e
theorem great2_eq {a b : Rat} (ha : Bd 4000 a) (hb : Bd 4000 b) (M : Mem) : F_greatest [.tup [frQ a, frQ b]] M = some (.ok (frQ (mxQ a b)), M) := by
  have e := greatest_eq (q := a) (qs := [b]) (by intro x hx; simp at hx; rcases hx with rfl | rfl <;> assumption) M
  rw [List.map_cons, List.map_cons, List.map_nil] at e
  have : maxL a [a, b] = mxQ a b := by
    unfold maxL
    rw [if_neg Rat.lt_irrefl]
    rfl
  rw [this] at e; exact e
theorem np_cl (b l h : Rat) : (clQ b l h).np = true := rfl
theorem gTp_cl (t : List D → Env → Option Env) (b l h : Rat) (ρ : Env) : gTp 3 t (clQ b l h) ρ = t [frQ b, frQ l, frQ h] ρ := rfl
theorem oIx_cl (b l h : Rat) (i : Int) (ρ : Env) (M : Mem) : oIx (clQ b l h) (.int i) ρ M = ixR (atI [frQ b, frQ l, frQ h] i) M := oIx_tup _ _ _ _
theorem clQ_def (b l h : Rat) : D.tup [frQ b, frQ l, frQ h] = clQ b l h := rfl
section
variable {b l h x : Rat}
theorem ledQ_lo (c : x + b < l) : ledQ b l h x = if h < l then h else l := by
  unfold ledQ mxQ
  rw [if_neg (show ¬ l < x + b by grind)]
  unfold mnQ
  grind
theorem ledQ_hi (c : ¬ x + b < l) : ledQ b l h x = if h < x + b then h else x + b := by
  have e : mxQ l (x + b) = x + b := by
    unfold mxQ
    grind
  unfold ledQ
  rw [e]
  unfold mnQ
  grind
theorem led_bd {k : Nat} (hl : Bd k l) (hh : Bd k h) (hs : Bd k (x + b)) : Bd k (ledQ b l h x) := mnQ_bd hh (mxQ_bd hl hs)
theorem clamped_eq (hb : Bd 1800 b) (hl : Bd 1800 l) (hh : Bd 1800 h) (hx : Bd 1800 x) (M : Mem) : F_clamped [clQ b l h, frQ x] M = some (.ok (frQ (ledQ b l h x)), M) := by
  refine runF_pure ?_ rfl
  have s := (hx.add hb).mono (n := 4000) (by decide)
  have p := plus_eq (hx.mono (n := 4000) (by decide)) (hb.mono (n := 4000) (by decide))
  have g := great2_eq (hl.mono (n := 4000) (by decide)) s
  have m := least2_eq (hh.mono (n := 4000) (by decide)) (mxQ_bd (hl.mono (n := 4000) (by decide)) s)
  simp -implicitDefEqProofs only [den_clamped, sSeq_ap, sAsg_ap, sPar_ap, sRet_ap, sIf_ap, sExpr_ap, sNext_ap, bnd_ap, ret_ap, bindR_ok, thenR_ok, dVar_ap, varR_ok, seqR_nx, seqR_rt, asgR_ok, gNm_ap, gCn_ap, gcnR_ok, gNl_ap, gTp_fr, gTp_ap, gLs_ap, dCons_ap, dNil_ap, asB_ap, dOr_ap, dAnd_ap, dNot_ap, dAndV_ap, dOrV_ap, dNotV_ap, dIf_ap, oAdd_int, oSub_int, oLt_int, oLe_int, oGt_int, oGe_int, oNeg_int, oEq_int, oNe_int, oEq_fr, oNe_fr, oEq_bl, oNe_bl, oTup_ap, oLst_ap, oCall_ap, oAbs_ap, oMax_ap, oMin_ap, oToInt_b, oToInt_i, oLen_lst, oLen_scr, oLen_tup, oIx_lst, oIx_scr, oAdd_lst, oIx_tup, oIx_fr0, oIx_fr1, ixR_ok, oItL_ap, oItT_ap, sFor_ap, startD, List.map_cons, List.map_nil, List.length_cons, List.length_nil, List.replicate_succ, List.replicate_zero, List.cons_append, List.nil_append, List.append_nil, List.getElem?_cons_zero, List.getElem?_cons_succ, List.set_cons_zero, List.set_cons_succ, Nat.reduceAdd, Nat.reduceSub, Nat.sub_self, Nat.reduceLeDiff, List.all_cons, List.all_nil, np_fr, np_int, np_bl, np_tup, np_lst, np_str, np_non, Bool.and_self, Bool.and_true, if_true_, if_false_, zero_add', if_tt, if_ff, decide_true, decide_false, Nat.le_refl, oItS_lst, oItS_tup, oTupOf_lst, oTupOf_tup, oLstOf_lst, oLstOf_tup, oRv_lst, oRv_tup, oAdd_tup, dChain_ap, asTru_bl, asTru_tup, asTru_lst, oIsN_ap, oNotN_ap, asI_ap, oSl_tup, oSl_lst, oZip_tup, oZip_lst, oAddI_ap, oEqS_ap, oNeS_ap, oNe_nil, gTp_cl, p, g, m, ledQ]
theorem behind_eq {b' l' h' : Rat} (hb : Bd 1800 b) (hl : Bd 1800 l) (hh : Bd 1800 h) (hb' : Bd 1800 b') (hl' : Bd 1800 l') (hh' : Bd 1800 h') (M : Mem) : F_one_behind [clQ b l h, clQ b' l' h'] M = some (.ok (clQ (b + b') (ledQ b' l' h' l) (ledQ b' l' h' h)), M) := by
  refine runF_pure ?_ rfl
  have p := plus_eq (hb.mono (n := 4000) (by decide)) (hb'.mono (n := 4000) (by decide))
  have c1 := clamped_eq hb' hl' hh' hl
  have c2 := clamped_eq hb' hl' hh' hh
  have i0 : ∀ (a b c : D), atI [a, b, c] 0 = some a := fun _ _ _ => rfl
  simp -implicitDefEqProofs only [den_one_behind, sSeq_ap, sAsg_ap, sPar_ap, sRet_ap, sIf_ap, sExpr_ap, sNext_ap, bnd_ap, ret_ap, bindR_ok, thenR_ok, dVar_ap, varR_ok, seqR_nx, seqR_rt, asgR_ok, gNm_ap, gCn_ap, gcnR_ok, gNl_ap, gTp_fr, gTp_ap, gLs_ap, dCons_ap, dNil_ap, asB_ap, dOr_ap, dAnd_ap, dNot_ap, dAndV_ap, dOrV_ap, dNotV_ap, dIf_ap, oAdd_int, oSub_int, oLt_int, oLe_int, oGt_int, oGe_int, oNeg_int, oEq_int, oNe_int, oEq_fr, oNe_fr, oEq_bl, oNe_bl, oTup_ap, oLst_ap, oCall_ap, oAbs_ap, oMax_ap, oMin_ap, oToInt_b, oToInt_i, oLen_lst, oLen_scr, oLen_tup, oIx_lst, oIx_scr, oAdd_lst, oIx_tup, oIx_fr0, oIx_fr1, ixR_ok, oItL_ap, oItT_ap, sFor_ap, startD, List.map_cons, List.map_nil, List.length_cons, List.length_nil, List.replicate_succ, List.replicate_zero, List.cons_append, List.nil_append, List.append_nil, List.getElem?_cons_zero, List.getElem?_cons_succ, List.set_cons_zero, List.set_cons_succ, Nat.reduceAdd, Nat.reduceSub, Nat.sub_self, Nat.reduceLeDiff, List.all_cons, List.all_nil, np_fr, np_int, np_bl, np_tup, np_lst, np_str, np_non, Bool.and_self, Bool.and_true, if_true_, if_false_, zero_add', if_tt, if_ff, decide_true, decide_false, Nat.le_refl, oItS_lst, oItS_tup, oTupOf_lst, oTupOf_tup, oLstOf_lst, oLstOf_tup, oRv_lst, oRv_tup, oAdd_tup, dChain_ap, asTru_bl, asTru_tup, asTru_lst, oIsN_ap, oNotN_ap, asI_ap, oSl_tup, oSl_lst, oZip_tup, oZip_lst, oAddI_ap, oEqS_ap, oNeS_ap, oNe_nil, gTp_cl, oIx_cl, i0, p, c1, c2, clQ_def]
end
/-! alike in worth and in kind -/
theorem same_int (k : Nat) (i : Int) (M : Mem) : Fn__law_same (k + 1) [.int i, .int i] M = some (.ok (.bl true), M) := by
  refine runF_pure ?_ rfl
  have i1 := fun (d : D) h ρ M => oIsi_tup (d := d) h (fun _ => none) ρ M
  have i2 := fun (d : D) h ρ M => oIsi_int (d := d) h (fun _ => none) ρ M
  have i3 := fun (d : D) h ρ M => oIsi_bool (d := d) h (fun _ => none) ρ M
  simp -implicitDefEqProofs only [den__law_same, sSeq_ap, sAsg_ap, sPar_ap, sRet_ap, sIf_ap, sExpr_ap, sNext_ap, bnd_ap, ret_ap, bindR_ok, thenR_ok, dVar_ap, varR_ok, seqR_nx, seqR_rt, asgR_ok, gNm_ap, gCn_ap, gcnR_ok, gNl_ap, gTp_fr, gTp_ap, gLs_ap, dCons_ap, dNil_ap, asB_ap, dOr_ap, dAnd_ap, dNot_ap, dAndV_ap, dOrV_ap, dNotV_ap, dIf_ap, oAdd_int, oSub_int, oLt_int, oLe_int, oGt_int, oGe_int, oNeg_int, oEq_int, oNe_int, oEq_fr, oNe_fr, oEq_bl, oNe_bl, oTup_ap, oLst_ap, oCall_ap, oAbs_ap, oMax_ap, oMin_ap, oToInt_b, oToInt_i, oLen_lst, oLen_scr, oLen_tup, oIx_lst, oIx_scr, oAdd_lst, oIx_tup, oIx_fr0, oIx_fr1, ixR_ok, oItL_ap, oItT_ap, sFor_ap, startD, List.map_cons, List.map_nil, List.length_cons, List.length_nil, List.replicate_succ, List.replicate_zero, List.cons_append, List.nil_append, List.append_nil, List.getElem?_cons_zero, List.getElem?_cons_succ, List.set_cons_zero, List.set_cons_succ, Nat.reduceAdd, Nat.reduceSub, Nat.sub_self, Nat.reduceLeDiff, List.all_cons, List.all_nil, np_fr, np_int, np_bl, np_tup, np_lst, np_str, np_non, Bool.and_self, Bool.and_true, if_true_, if_false_, zero_add', if_tt, if_ff, decide_true, decide_false, Nat.le_refl, oItS_lst, oItS_tup, oTupOf_lst, oTupOf_tup, oLstOf_lst, oLstOf_tup, oRv_lst, oRv_tup, oAdd_tup, dChain_ap, asTru_bl, asTru_tup, asTru_lst, oIsN_ap, oNotN_ap, asI_ap, oSl_tup, oSl_lst, oZip_tup, oZip_lst, oAddI_ap, oEqS_ap, oNeS_ap, oNe_nil, i1, i2, i3, isT, isI, isBl, D.isN, Bool.false_eq_true, Bool.not_false]
theorem same_tup {k : Nat} {ds : List D} (M : Mem) (hl : ds.length ≤ 1000) (h : ∀ d ∈ ds, d.np = true ∧ ∀ M, Fn__law_same k [d, d] M = some (.ok (.bl true), M)) : Fn__law_same (k + 1) [.tup ds, .tup ds] M = some (.ok (.bl true), M) := by
  refine runF_pure ?_ rfl
  have i1 := fun (d : D) h ρ M => oIsi_tup (d := d) h (fun _ => none) ρ M
  have zp : zipD ds ds = ds.map fun d => .tup [d, d] := by
    clear h hl
    induction ds with
    | nil => rfl
    | cons d r ih => rw [List.map_cons, ← ih]; rfl
  have lc := oLc_pf (b := gTp 2 (gCn (gNm 2) (gCn (gNm 3) gNl))) (tt := ret true) (te := bnd (dCons (dVar 2) (dCons (dVar 3) dNil)) (oCall 2 (Fn__law_same k))) (ρ := [some (.tup ds), some (.tup ds), none, none]) (vs := [2, 3]) (p := fun _ => true) (g := fun _ => .bl true) (ds := ds.map fun d => .tup [d, d]) (M := M) (fun z hz => by
    obtain ⟨d, hd, rfl⟩ := List.mem_map.mp hz
    refine ⟨[some (.tup ds), some (.tup ds), some d, some d], rfl, fun M => rfl, fun _ => ⟨rfl, fun M => ?_⟩⟩
    simp -implicitDefEqProofs only [sSeq_ap, sAsg_ap, sPar_ap, sRet_ap, sIf_ap, sExpr_ap, sNext_ap, bnd_ap, ret_ap, bindR_ok, thenR_ok, dVar_ap, varR_ok, seqR_nx, seqR_rt, asgR_ok, gNm_ap, gCn_ap, gcnR_ok, gNl_ap, gTp_fr, gTp_ap, gLs_ap, dCons_ap, dNil_ap, asB_ap, dOr_ap, dAnd_ap, dNot_ap, dAndV_ap, dOrV_ap, dNotV_ap, dIf_ap, oAdd_int, oSub_int, oLt_int, oLe_int, oGt_int, oGe_int, oNeg_int, oEq_int, oNe_int, oEq_fr, oNe_fr, oEq_bl, oNe_bl, oTup_ap, oLst_ap, oCall_ap, oAbs_ap, oMax_ap, oMin_ap, oToInt_b, oToInt_i, oLen_lst, oLen_scr, oLen_tup, oIx_lst, oIx_scr, oAdd_lst, oIx_tup, oIx_fr0, oIx_fr1, ixR_ok, oItL_ap, oItT_ap, sFor_ap, startD, List.map_cons, List.map_nil, List.length_cons, List.length_nil, List.replicate_succ, List.replicate_zero, List.cons_append, List.nil_append, List.append_nil, List.getElem?_cons_zero, List.getElem?_cons_succ, List.set_cons_zero, List.set_cons_succ, Nat.reduceAdd, Nat.reduceSub, Nat.sub_self, Nat.reduceLeDiff, List.all_cons, List.all_nil, np_fr, np_int, np_bl, np_tup, np_lst, np_str, np_non, Bool.and_self, Bool.and_true, if_true_, if_false_, zero_add', if_tt, if_ff, decide_true, decide_false, Nat.le_refl, oItS_lst, oItS_tup, oTupOf_lst, oTupOf_tup, oLstOf_lst, oLstOf_tup, oRv_lst, oRv_tup, oAdd_tup, dChain_ap, asTru_bl, asTru_tup, asTru_lst, oIsN_ap, oNotN_ap, asI_ap, oSl_tup, oSl_lst, oZip_tup, oZip_lst, oAddI_ap, oEqS_ap, oNeS_ap, oNe_nil, (h d hd).2]) (by simp; omega)
  rw [filter_true] at lc
  have al := fun ρ M => oAll_true (ds.map fun d => D.tup [d, d]) ρ M
  simp -implicitDefEqProofs only [den__law_same, sSeq_ap, sAsg_ap, sPar_ap, sRet_ap, sIf_ap, sExpr_ap, sNext_ap, bnd_ap, ret_ap, bindR_ok, thenR_ok, dVar_ap, varR_ok, seqR_nx, seqR_rt, asgR_ok, gNm_ap, gCn_ap, gcnR_ok, gNl_ap, gTp_fr, gTp_ap, gLs_ap, dCons_ap, dNil_ap, asB_ap, dOr_ap, dAnd_ap, dNot_ap, dAndV_ap, dOrV_ap, dNotV_ap, dIf_ap, oAdd_int, oSub_int, oLt_int, oLe_int, oGt_int, oGe_int, oNeg_int, oEq_int, oNe_int, oEq_fr, oNe_fr, oEq_bl, oNe_bl, oTup_ap, oLst_ap, oCall_ap, oAbs_ap, oMax_ap, oMin_ap, oToInt_b, oToInt_i, oLen_lst, oLen_scr, oLen_tup, oIx_lst, oIx_scr, oAdd_lst, oIx_tup, oIx_fr0, oIx_fr1, ixR_ok, oItL_ap, oItT_ap, sFor_ap, startD, List.map_cons, List.map_nil, List.length_cons, List.length_nil, List.replicate_succ, List.replicate_zero, List.cons_append, List.nil_append, List.append_nil, List.getElem?_cons_zero, List.getElem?_cons_succ, List.set_cons_zero, List.set_cons_succ, Nat.reduceAdd, Nat.reduceSub, Nat.sub_self, Nat.reduceLeDiff, List.all_cons, List.all_nil, np_fr, np_int, np_bl, np_tup, np_lst, np_str, np_non, Bool.and_self, Bool.and_true, if_true_, if_false_, zero_add', if_tt, if_ff, decide_true, decide_false, Nat.le_refl, oItS_lst, oItS_tup, oTupOf_lst, oTupOf_tup, oLstOf_lst, oLstOf_tup, oRv_lst, oRv_tup, oAdd_tup, dChain_ap, asTru_bl, asTru_tup, asTru_lst, oIsN_ap, oNotN_ap, asI_ap, oSl_tup, oSl_lst, oZip_tup, oZip_lst, oAddI_ap, oEqS_ap, oNeS_ap, oNe_nil, i1, isT, zp, lc, al]
theorem same_fr (k : Nat) (q : Rat) (M : Mem) : Fn__law_same (k + 2) [frQ q, frQ q] M = some (.ok (.bl true), M) := same_tup M (by simp) fun d hd => by
  simp -implicitDefEqProofs only [List.mem_cons, List.not_mem_nil, or_false] at hd
  rcases hd with rfl | rfl
  · exact ⟨rfl, fun M => same_int k _ M⟩
  · exact ⟨rfl, fun M => same_int k _ M⟩
theorem same_cl (b l h : Rat) (M : Mem) : F__law_same [clQ b l h, clQ b l h] M = some (.ok (.bl true), M) := same_tup (k := 11) M (by simp) fun d hd => by
  simp -implicitDefEqProofs only [List.mem_cons, List.not_mem_nil, or_false] at hd
  rcases hd with rfl | rfl | rfl <;> exact ⟨rfl, fun M => same_fr 9 _ M⟩
theorem same_frF (q : Rat) (M : Mem) : F__law_same [frQ q, frQ q] M = some (.ok (.bl true), M) := same_fr 10 q M
theorem oNe_cl (b l h : Rat) (ρ : Env) (M : Mem) : oNe (clQ b l h) (clQ b l h) ρ M = some (.ok (.bl false), M) := by
  unfold oNe
  rw [if_pos ⟨rfl, rfl, rfl, rfl⟩]
  show some (Res.ok (D.bl (!PyData.eqv (toPy (clQ b l h)) (toPy (clQ b l h)))), M) = _
  simp -implicitDefEqProofs only [clQ, toPy, toPys, PyData.eqv, PyData.eqvAll, eqv_fr, decide_true, Bool.and_self, Bool.not_true]
theorem sh_cl {b l h : Rat} (hb : Bd 1900 b) (hl : Bd 1900 l) (hh : Bd 1900 h) : Sh 2 19 (clQ b l h) := by
  have : Sh (1 + 1) ([frQ b, frQ l, frQ h].length * (5 + 1) + 1) (.tup [frQ b, frQ l, frQ h]) := Sh.tup (by
    simp -implicitDefEqProofs only [List.mem_cons, List.not_mem_nil, or_false]
    rintro d (rfl | rfl | rfl)
    · exact Sh.fr hb
    · exact Sh.fr hl
    · exact Sh.fr hh)
  exact this
/-! pans, spells, what a spell leads to -/
theorem oIx_ly (p : Rat × Rat) (i : Int) (ρ : Env) (M : Mem) : oIx (lyQ p) (.int i) ρ M = ixR (atI [frQ p.1, frQ p.2] i) M := oIx_tup _ _ _ _
theorem i2_0 (a b : D) : atI [a, b] 0 = some a := rfl
theorem i2_1 (a b : D) : atI [a, b] 1 = some b := rfl
/-- what a spell brings on a pan -/
def brS (p x : Rat × Rat) : Rat := p.1 * (x.1 * x.2)
def rimP (p : Rat × Rat) : Rat := p.1 * p.2
/-- small and above 0 -/
structure PanOk (p : Rat × Rat) : Prop where
  a : Bd 24 p.1
  d : Bd 24 p.2
  a0 : 0 < p.1
  d0 : 0 < p.2
structure SpOk (x : Rat × Rat) : Prop where
  w : Bd 24 x.1
  n : Bd 24 x.2
section
variable {p x : Rat × Rat}
theorem PanOk.rim (h : PanOk p) : Bd 48 (rimP p) := h.a.mul h.d
theorem PanOk.rim0 (h : PanOk p) : 0 < rimP p := Rat.mul_pos h.a0 h.d0
theorem br_bd (h : PanOk p) (hx : SpOk x) : Bd 72 (brS p x) := h.a.mul (hx.w.mul hx.n)
theorem rim_eq (h : PanOk p) (M : Mem) : F_rim_of [lyQ p] M = some (.ok (frQ (rimP p)), M) := by
  refine runF_pure ?_ rfl
  have t := times_eq (h.a.mono (n := 4000) (by decide)) (h.d.mono (n := 4000) (by decide))
  simp -implicitDefEqProofs only [den_rim_of, sSeq_ap, sAsg_ap, sPar_ap, sRet_ap, sIf_ap, sExpr_ap, sNext_ap, bnd_ap, ret_ap, bindR_ok, thenR_ok, dVar_ap, varR_ok, seqR_nx, seqR_rt, asgR_ok, gNm_ap, gCn_ap, gcnR_ok, gNl_ap, gTp_fr, gTp_ap, gLs_ap, dCons_ap, dNil_ap, asB_ap, dOr_ap, dAnd_ap, dNot_ap, dAndV_ap, dOrV_ap, dNotV_ap, dIf_ap, oAdd_int, oSub_int, oLt_int, oLe_int, oGt_int, oGe_int, oNeg_int, oEq_int, oNe_int, oEq_fr, oNe_fr, oEq_bl, oNe_bl, oTup_ap, oLst_ap, oCall_ap, oAbs_ap, oMax_ap, oMin_ap, oToInt_b, oToInt_i, oLen_lst, oLen_scr, oLen_tup, oIx_lst, oIx_scr, oAdd_lst, oIx_tup, oIx_fr0, oIx_fr1, ixR_ok, oItL_ap, oItT_ap, sFor_ap, startD, List.map_cons, List.map_nil, List.length_cons, List.length_nil, List.replicate_succ, List.replicate_zero, List.cons_append, List.nil_append, List.append_nil, List.getElem?_cons_zero, List.getElem?_cons_succ, List.set_cons_zero, List.set_cons_succ, Nat.reduceAdd, Nat.reduceSub, Nat.sub_self, Nat.reduceLeDiff, List.all_cons, List.all_nil, np_fr, np_int, np_bl, np_tup, np_lst, np_str, np_non, Bool.and_self, Bool.and_true, if_true_, if_false_, zero_add', if_tt, if_ff, decide_true, decide_false, Nat.le_refl, oItS_lst, oItS_tup, oTupOf_lst, oTupOf_tup, oLstOf_lst, oLstOf_tup, oRv_lst, oRv_tup, oAdd_tup, dChain_ap, asTru_bl, asTru_tup, asTru_lst, oIsN_ap, oNotN_ap, asI_ap, oSl_tup, oSl_lst, oZip_tup, oZip_lst, oAddI_ap, oEqS_ap, oNeS_ap, oNe_nil, gTp_ly, t]
  rfl
theorem lrim_eq (h : PanOk p) (M : Mem) : F__law_times [frQ p.1, frQ p.2] M = some (.ok (frQ (rimP p)), M) := ltimes_eq (h.a.mono (n := 1900) (by decide)) (h.d.mono (n := 1900) (by decide)) M
theorem brought1_eq (h : PanOk p) (hx : SpOk x) (M : Mem) : F_brought [frQ p.1, .tup [lyQ x]] M = some (.ok (frQ (brS p x)), M) := by
  refine runF_pure ?_ rfl
  have t := times_eq (hx.w.mono (n := 4000) (by decide)) (hx.n.mono (n := 4000) (by decide))
  have lc := fun M => oLc_pf (b := gTp 2 (gCn (gNm 2) (gCn (gNm 3) gNl))) (tt := ret true) (te := bnd (dCons (dVar 2) (dCons (dVar 3) dNil)) (oCall 2 F_times)) (ρ := [some (frQ p.1), some (.tup [lyQ x]), none, none]) (vs := [2, 3]) (p := fun _ => true) (g := fun _ => frQ (x.1 * x.2)) (ds := [lyQ x]) (M := M) (fun z hz => by
    simp -implicitDefEqProofs only [List.mem_cons, List.not_mem_nil, or_false] at hz
    subst hz
    exact ⟨[some (frQ p.1), some (.tup [lyQ x]), some (frQ x.1), some (frQ x.2)], rfl, fun M => rfl, fun _ => ⟨rfl, fun M => by simp -implicitDefEqProofs only [sSeq_ap, sAsg_ap, sPar_ap, sRet_ap, sIf_ap, sExpr_ap, sNext_ap, bnd_ap, ret_ap, bindR_ok, thenR_ok, dVar_ap, varR_ok, seqR_nx, seqR_rt, asgR_ok, gNm_ap, gCn_ap, gcnR_ok, gNl_ap, gTp_fr, gTp_ap, gLs_ap, dCons_ap, dNil_ap, asB_ap, dOr_ap, dAnd_ap, dNot_ap, dAndV_ap, dOrV_ap, dNotV_ap, dIf_ap, oAdd_int, oSub_int, oLt_int, oLe_int, oGt_int, oGe_int, oNeg_int, oEq_int, oNe_int, oEq_fr, oNe_fr, oEq_bl, oNe_bl, oTup_ap, oLst_ap, oCall_ap, oAbs_ap, oMax_ap, oMin_ap, oToInt_b, oToInt_i, oLen_lst, oLen_scr, oLen_tup, oIx_lst, oIx_scr, oAdd_lst, oIx_tup, oIx_fr0, oIx_fr1, ixR_ok, oItL_ap, oItT_ap, sFor_ap, startD, List.map_cons, List.map_nil, List.length_cons, List.length_nil, List.replicate_succ, List.replicate_zero, List.cons_append, List.nil_append, List.append_nil, List.getElem?_cons_zero, List.getElem?_cons_succ, List.set_cons_zero, List.set_cons_succ, Nat.reduceAdd, Nat.reduceSub, Nat.sub_self, Nat.reduceLeDiff, List.all_cons, List.all_nil, np_fr, np_int, np_bl, np_tup, np_lst, np_str, np_non, Bool.and_self, Bool.and_true, if_true_, if_false_, zero_add', if_tt, if_ff, decide_true, decide_false, Nat.le_refl, oItS_lst, oItS_tup, oTupOf_lst, oTupOf_tup, oLstOf_lst, oLstOf_tup, oRv_lst, oRv_tup, oAdd_tup, dChain_ap, asTru_bl, asTru_tup, asTru_lst, oIsN_ap, oNotN_ap, asI_ap, oSl_tup, oSl_lst, oZip_tup, oZip_lst, oAddI_ap, oEqS_ap, oNeS_ap, oNe_nil, t]⟩⟩) (by simp)
  rw [filter_true] at lc
  have lc' : ∀ M, oLc (gTp 2 (gCn (gNm 2) (gCn (gNm 3) gNl))) (ret true) (bnd (dCons (dVar 2) (dCons (dVar 3) dNil)) (oCall 2 F_times)) [2, 3] [lyQ x] [some (frQ p.1), some (.tup [lyQ x]), none, none] M = some (.ok (.lst [frQ (x.1 * x.2)]), M) := lc
  have sm : ∀ M, F_summed [.lst [frQ (x.1 * x.2)]] M = some (.ok (frQ (x.1 * x.2)), M) := fun M => by
    have so : SumOk (fun y => y.1 * y.2) [x] := ⟨fun y hy => by
      simp -implicitDefEqProofs only [List.mem_cons, List.not_mem_nil, or_false] at hy
      subst hy
      exact (hx.w.mul hx.n).mono (by decide), fun a b e => by
      have : a = [] ∨ a = [x] := by
        cases a with
        | nil => exact .inl rfl
        | cons y a => 
          rw [List.cons_append] at e
          injection e with e1 e2
          subst e1
          have : a = [] := by
            cases a with
            | nil => rfl
            | cons z a => cases e2
          subst this
          exact .inr rfl
      rcases this with q | q <;> subst q
      · exact ⟨by decide, by decide⟩
      · show Bd 1800 (x.1 * x.2 + 0)
        rw [Rat.add_zero]
        exact (hx.w.mul hx.n).mono (by decide)⟩
    have := summed_of so M
    have e : sumF (fun y => y.1 * y.2) [x] = x.1 * x.2 := by
      show x.1 * x.2 + 0 = _
      rw [Rat.add_zero]
    rw [e] at this
    exact this
  have t2 := times_eq (h.a.mono (n := 4000) (by decide)) ((hx.w.mul hx.n).mono (n := 4000) (by decide))
  simp -implicitDefEqProofs only [den_brought, sSeq_ap, sAsg_ap, sPar_ap, sRet_ap, sIf_ap, sExpr_ap, sNext_ap, bnd_ap, ret_ap, bindR_ok, thenR_ok, dVar_ap, varR_ok, seqR_nx, seqR_rt, asgR_ok, gNm_ap, gCn_ap, gcnR_ok, gNl_ap, gTp_fr, gTp_ap, gLs_ap, dCons_ap, dNil_ap, asB_ap, dOr_ap, dAnd_ap, dNot_ap, dAndV_ap, dOrV_ap, dNotV_ap, dIf_ap, oAdd_int, oSub_int, oLt_int, oLe_int, oGt_int, oGe_int, oNeg_int, oEq_int, oNe_int, oEq_fr, oNe_fr, oEq_bl, oNe_bl, oTup_ap, oLst_ap, oCall_ap, oAbs_ap, oMax_ap, oMin_ap, oToInt_b, oToInt_i, oLen_lst, oLen_scr, oLen_tup, oIx_lst, oIx_scr, oAdd_lst, oIx_tup, oIx_fr0, oIx_fr1, ixR_ok, oItL_ap, oItT_ap, sFor_ap, startD, List.map_cons, List.map_nil, List.length_cons, List.length_nil, List.replicate_succ, List.replicate_zero, List.cons_append, List.nil_append, List.append_nil, List.getElem?_cons_zero, List.getElem?_cons_succ, List.set_cons_zero, List.set_cons_succ, Nat.reduceAdd, Nat.reduceSub, Nat.sub_self, Nat.reduceLeDiff, List.all_cons, List.all_nil, np_fr, np_int, np_bl, np_tup, np_lst, np_str, np_non, Bool.and_self, Bool.and_true, if_true_, if_false_, zero_add', if_tt, if_ff, decide_true, decide_false, Nat.le_refl, oItS_lst, oItS_tup, oTupOf_lst, oTupOf_tup, oLstOf_lst, oLstOf_tup, oRv_lst, oRv_tup, oAdd_tup, dChain_ap, asTru_bl, asTru_tup, asTru_lst, oIsN_ap, oNotN_ap, asI_ap, oSl_tup, oSl_lst, oZip_tup, oZip_lst, oAddI_ap, oEqS_ap, oNeS_ap, oNe_nil, lc', sm, t2]
  rfl
theorem nought_fr' : C_NOUGHT = frQ 0 := rfl
theorem spell_clamp_eq (h : PanOk p) (hx : SpOk x) (M : Mem) : F_spell_clamp [lyQ p, lyQ x] M = some (.ok (clQ (brS p x) 0 (rimP p)), M) := by
  refine runF_pure ?_ rfl
  have np : (lyQ x).np = true := rfl
  simp -implicitDefEqProofs only [den_spell_clamp, sSeq_ap, sAsg_ap, sPar_ap, sRet_ap, sIf_ap, sExpr_ap, sNext_ap, bnd_ap, ret_ap, bindR_ok, thenR_ok, dVar_ap, varR_ok, seqR_nx, seqR_rt, asgR_ok, gNm_ap, gCn_ap, gcnR_ok, gNl_ap, gTp_fr, gTp_ap, gLs_ap, dCons_ap, dNil_ap, asB_ap, dOr_ap, dAnd_ap, dNot_ap, dAndV_ap, dOrV_ap, dNotV_ap, dIf_ap, oAdd_int, oSub_int, oLt_int, oLe_int, oGt_int, oGe_int, oNeg_int, oEq_int, oNe_int, oEq_fr, oNe_fr, oEq_bl, oNe_bl, oTup_ap, oLst_ap, oCall_ap, oAbs_ap, oMax_ap, oMin_ap, oToInt_b, oToInt_i, oLen_lst, oLen_scr, oLen_tup, oIx_lst, oIx_scr, oAdd_lst, oIx_tup, oIx_fr0, oIx_fr1, ixR_ok, oItL_ap, oItT_ap, sFor_ap, startD, List.map_cons, List.map_nil, List.length_cons, List.length_nil, List.replicate_succ, List.replicate_zero, List.cons_append, List.nil_append, List.append_nil, List.getElem?_cons_zero, List.getElem?_cons_succ, List.set_cons_zero, List.set_cons_succ, Nat.reduceAdd, Nat.reduceSub, Nat.sub_self, Nat.reduceLeDiff, List.all_cons, List.all_nil, np_fr, np_int, np_bl, np_tup, np_lst, np_str, np_non, Bool.and_self, Bool.and_true, if_true_, if_false_, zero_add', if_tt, if_ff, decide_true, decide_false, Nat.le_refl, oItS_lst, oItS_tup, oTupOf_lst, oTupOf_tup, oLstOf_lst, oLstOf_tup, oRv_lst, oRv_tup, oAdd_tup, dChain_ap, asTru_bl, asTru_tup, asTru_lst, oIsN_ap, oNotN_ap, asI_ap, oSl_tup, oSl_lst, oZip_tup, oZip_lst, oAddI_ap, oEqS_ap, oNeS_ap, oNe_nil, oIx_ly, i2_0, np, brought1_eq h hx, rim_eq h, nought_fr', clQ_def]
end
/-- the clamp of spells behind a first clamp -/
def cofB (p : Rat × Rat) : Rat → List (Rat × Rat) → Rat
  | b, [] => b
  | b, x :: W => cofB p (b + brS p x) W
def ldW (p : Rat × Rat) : Rat → List (Rat × Rat) → Rat
  | w, [] => w
  | w, x :: W => ldW p (ledQ (brS p x) 0 (rimP p) w) W
section
variable {p : Rat × Rat}
theorem clamp_loop (hp : PanOk p) {S : Option D} (M : Mem) : ∀ (W : List (Rat × Rat)) (b l h : Rat) (k : Nat) (o3 : Option D), (∀ x ∈ W, SpOk x) → Bd k b → Bd k l → Bd k h → 48 ≤ k → k + 73 * W.length ≤ 1200 → ∃ o3', forF (gNm 3) den_clamp_of_L1 (W.map lyQ) [some (lyQ p), S, some (clQ b l h), o3] M = some (.nx [some (lyQ p), S, some (clQ (cofB p b W) (ldW p l W) (ldW p h W)), o3'], M) ∧ Bd (k + 73 * W.length) (cofB p b W) ∧ Bd (k + 73 * W.length) (ldW p l W) ∧ Bd (k + 73 * W.length) (ldW p h W)
  | [], b, l, h, k, o3, _, hb, hl, hh, _, _ => ⟨o3, rfl, hb, hl, hh⟩
  | x :: W, b, l, h, k, o3, hW, hb, hl, hh, hk, hK => by
    rw [List.length_cons] at hK
    have hx := hW x (by simp)
    have sc := spell_clamp_eq hp hx
    have bb := br_bd hp hx
    have z : Bd 1 (0 : Rat) := ⟨by decide, by decide⟩
    have rb := hp.rim
    have bh := behind_eq (hb.mono (n := 1800) (by omega)) (hl.mono (n := 1800) (by omega)) (hh.mono (n := 1800) (by omega)) (bb.mono (n := 1800) (by decide)) (z.mono (n := 1800) (by decide)) (rb.mono (n := 1800) (by decide))
    obtain ⟨o3', e, x1, x2, x3⟩ := clamp_loop hp (S := S) M W (b + brS p x) (ledQ (brS p x) 0 (rimP p) l) (ledQ (brS p x) 0 (rimP p) h) (k + 73) (some (lyQ x)) (fun y hy => hW y (by simp [hy])) ((hb.add bb).mono (by omega)) (led_bd (z.mono (by omega)) (rb.mono (by omega)) ((hl.add bb).mono (by omega))) (led_bd (z.mono (by omega)) (rb.mono (by omega)) ((hh.add bb).mono (by omega))) (by omega) (by omega)
    have ek : k + 73 * (x :: W).length = k + 73 + 73 * W.length := by rw [List.length_cons]; omega
    rw [ek]
    refine ⟨o3', ?_, x1, x2, x3⟩
    rw [List.map_cons, forF_cons]
    simp -implicitDefEqProofs only [sSeq_ap, sAsg_ap, sPar_ap, sRet_ap, sIf_ap, sExpr_ap, sNext_ap, bnd_ap, ret_ap, bindR_ok, thenR_ok, dVar_ap, varR_ok, seqR_nx, seqR_rt, asgR_ok, gNm_ap, gCn_ap, gcnR_ok, gNl_ap, gTp_fr, gTp_ap, gLs_ap, dCons_ap, dNil_ap, asB_ap, dOr_ap, dAnd_ap, dNot_ap, dAndV_ap, dOrV_ap, dNotV_ap, dIf_ap, oAdd_int, oSub_int, oLt_int, oLe_int, oGt_int, oGe_int, oNeg_int, oEq_int, oNe_int, oEq_fr, oNe_fr, oEq_bl, oNe_bl, oTup_ap, oLst_ap, oCall_ap, oAbs_ap, oMax_ap, oMin_ap, oToInt_b, oToInt_i, oLen_lst, oLen_scr, oLen_tup, oIx_lst, oIx_scr, oAdd_lst, oIx_tup, oIx_fr0, oIx_fr1, ixR_ok, oItL_ap, oItT_ap, sFor_ap, startD, List.map_cons, List.map_nil, List.length_cons, List.length_nil, List.replicate_succ, List.replicate_zero, List.cons_append, List.nil_append, List.append_nil, List.getElem?_cons_zero, List.getElem?_cons_succ, List.set_cons_zero, List.set_cons_succ, Nat.reduceAdd, Nat.reduceSub, Nat.sub_self, Nat.reduceLeDiff, List.all_cons, List.all_nil, np_fr, np_int, np_bl, np_tup, np_lst, np_str, np_non, Bool.and_self, Bool.and_true, if_true_, if_false_, zero_add', if_tt, if_ff, decide_true, decide_false, Nat.le_refl, oItS_lst, oItS_tup, oTupOf_lst, oTupOf_tup, oLstOf_lst, oLstOf_tup, oRv_lst, oRv_tup, oAdd_tup, dChain_ap, asTru_bl, asTru_tup, asTru_lst, oIsN_ap, oNotN_ap, asI_ap, oSl_tup, oSl_lst, oZip_tup, oZip_lst, oAddI_ap, oEqS_ap, oNeS_ap, oNe_nil, forB_ok, den_clamp_of_L1, sc, bh, ofR_nx]
    exact e
theorem clamp_of_eq (hp : PanOk p) {x : Rat × Rat} {W : List (Rat × Rat)} (hx : SpOk x) (hW : ∀ x ∈ W, SpOk x) (hl : W.length ≤ 12) (M : Mem) : F_clamp_of [lyQ p, .tup ((x :: W).map lyQ)] M = some (.ok (clQ (cofB p (brS p x) W) (ldW p 0 W) (ldW p (rimP p) W)), M) := by
  refine runF_pure ?_ rfl
  have sc := spell_clamp_eq hp hx
  have z : Bd 1 (0 : Rat) := ⟨by decide, by decide⟩
  obtain ⟨o3', e, _⟩ := clamp_loop hp (S := some (.tup ((x :: W).map lyQ))) M W (brS p x) 0 (rimP p) 72 none hW (br_bd hp hx) (z.mono (by decide)) (hp.rim.mono (by decide)) (by decide) (by omega)
  have cu : cutD ((x :: W).map lyQ) (some 1) none = W.map lyQ := by
    have := cut_drop ((x :: W).map lyQ) (k := 1) (by simp)
    exact this
  rw [List.map_cons] at e cu ⊢
  simp -implicitDefEqProofs only [den_clamp_of, sSeq_ap, sAsg_ap, sPar_ap, sRet_ap, sIf_ap, sExpr_ap, sNext_ap, bnd_ap, ret_ap, bindR_ok, thenR_ok, dVar_ap, varR_ok, seqR_nx, seqR_rt, asgR_ok, gNm_ap, gCn_ap, gcnR_ok, gNl_ap, gTp_fr, gTp_ap, gLs_ap, dCons_ap, dNil_ap, asB_ap, dOr_ap, dAnd_ap, dNot_ap, dAndV_ap, dOrV_ap, dNotV_ap, dIf_ap, oAdd_int, oSub_int, oLt_int, oLe_int, oGt_int, oGe_int, oNeg_int, oEq_int, oNe_int, oEq_fr, oNe_fr, oEq_bl, oNe_bl, oTup_ap, oLst_ap, oCall_ap, oAbs_ap, oMax_ap, oMin_ap, oToInt_b, oToInt_i, oLen_lst, oLen_scr, oLen_tup, oIx_lst, oIx_scr, oAdd_lst, oIx_tup, oIx_fr0, oIx_fr1, ixR_ok, oItL_ap, oItT_ap, sFor_ap, startD, List.map_cons, List.map_nil, List.length_cons, List.length_nil, List.replicate_succ, List.replicate_zero, List.cons_append, List.nil_append, List.append_nil, List.getElem?_cons_zero, List.getElem?_cons_succ, List.set_cons_zero, List.set_cons_succ, Nat.reduceAdd, Nat.reduceSub, Nat.sub_self, Nat.reduceLeDiff, List.all_cons, List.all_nil, np_fr, np_int, np_bl, np_tup, np_lst, np_str, np_non, Bool.and_self, Bool.and_true, if_true_, if_false_, zero_add', if_tt, if_ff, decide_true, decide_false, Nat.le_refl, oItS_lst, oItS_tup, oTupOf_lst, oTupOf_tup, oLstOf_lst, oLstOf_tup, oRv_lst, oRv_tup, oAdd_tup, dChain_ap, asTru_bl, asTru_tup, asTru_lst, oIsN_ap, oNotN_ap, asI_ap, oSl_tup, oSl_lst, oZip_tup, oZip_lst, oAddI_ap, oEqS_ap, oNeS_ap, oNe_nil, atI_0, sc, cu, e]
/-! the law's way -/
theorem lled_loop (hp : PanOk p) {S : Option D} (M : Mem) : ∀ (W : List (Rat × Rat)) (w : Rat) (k : Nat) (o4 o5 : Option D), (∀ x ∈ W, SpOk x) → Bd k w → 48 ≤ k → k + 73 * W.length ≤ 1200 → ∃ o4' o5', forF (gTp 2 (gCn (gNm 4) (gCn (gNm 5) gNl))) den__law_led_L1 (W.map lyQ) [some (lyQ p), S, some (frQ w), some (frQ (rimP p)), o4, o5] M = some (.nx [some (lyQ p), S, some (frQ (ldW p w W)), some (frQ (rimP p)), o4', o5'], M) ∧ Bd (k + 73 * W.length) (ldW p w W)
  | [], w, k, o4, o5, _, hw, _, _ => ⟨o4, o5, rfl, hw⟩
  | x :: W, w, k, o4, o5, hW, hw, hk, hK => by
    rw [List.length_cons] at hK
    have hx := hW x (by simp)
    have bb := br_bd hp hx
    have z : Bd 1 (0 : Rat) := ⟨by decide, by decide⟩
    have rb := hp.rim
    have t1 := ltimes_eq (hx.n.mono (n := 1900) (by decide)) (hx.w.mono (n := 1900) (by decide))
    have t2 := ltimes_eq (hp.a.mono (n := 1900) (by decide)) ((hx.n.mul hx.w).mono (n := 1900) (by decide))
    have ec : p.1 * (x.2 * x.1) = brS p x := by unfold brS; rw [Rat.mul_comm x.2]
    rw [ec] at t2
    have sb := (hw.add bb).mono (n := k + 73) (by omega)
    have p1 := lplus_eq (hw.mono (n := 1900) (by omega)) (bb.mono (n := 1900) (by decide))
    obtain ⟨o4', o5', e, x1⟩ := lled_loop hp (S := S) M W (ledQ (brS p x) 0 (rimP p) w) (k + 73) (some (frQ x.1)) (some (frQ x.2)) (fun y hy => hW y (by simp [hy])) (led_bd (z.mono (by omega)) (rb.mono (by omega)) sb) (by omega) (by omega)
    have ek : k + 73 * (x :: W).length = k + 73 + 73 * W.length := by rw [List.length_cons]; omega
    rw [ek]
    refine ⟨o4', o5', ?_, x1⟩
    have st : den__law_led_L1 [some (lyQ p), S, some (frQ w), some (frQ (rimP p)), some (frQ x.1), some (frQ x.2)] M = some (.nx [some (lyQ p), S, some (frQ (ledQ (brS p x) 0 (rimP p) w)), some (frQ (rimP p)), some (frQ x.1), some (frQ x.2)], M) := by
      have r0 := hp.rim0
      by_cases c : w + brS p x < 0
      · have c' : (w + brS p x).num < 0 := by
          rw [Rat.lt_iff] at c
          have : (w + brS p x).num * 1 < 0 * ((w + brS p x).den : Int) := c
          omega
        have b2 := lbelow_eq (rb.mono (n := 1900) (by decide)) (z.mono (n := 1900) (by decide))
        have nr : ¬ rimP p < 0 := by grind
        have el := ledQ_lo (h := rimP p) c
        rw [if_neg nr] at el
        rw [el]
        simp -implicitDefEqProofs only [den__law_led_L1, sSeq_ap, sAsg_ap, sPar_ap, sRet_ap, sIf_ap, sExpr_ap, sNext_ap, bnd_ap, ret_ap, bindR_ok, thenR_ok, dVar_ap, varR_ok, seqR_nx, seqR_rt, asgR_ok, gNm_ap, gCn_ap, gcnR_ok, gNl_ap, gTp_fr, gTp_ap, gLs_ap, dCons_ap, dNil_ap, asB_ap, dOr_ap, dAnd_ap, dNot_ap, dAndV_ap, dOrV_ap, dNotV_ap, dIf_ap, oAdd_int, oSub_int, oLt_int, oLe_int, oGt_int, oGe_int, oNeg_int, oEq_int, oNe_int, oEq_fr, oNe_fr, oEq_bl, oNe_bl, oTup_ap, oLst_ap, oCall_ap, oAbs_ap, oMax_ap, oMin_ap, oToInt_b, oToInt_i, oLen_lst, oLen_scr, oLen_tup, oIx_lst, oIx_scr, oAdd_lst, oIx_tup, oIx_fr0, oIx_fr1, ixR_ok, oItL_ap, oItT_ap, sFor_ap, startD, List.map_cons, List.map_nil, List.length_cons, List.length_nil, List.replicate_succ, List.replicate_zero, List.cons_append, List.nil_append, List.append_nil, List.getElem?_cons_zero, List.getElem?_cons_succ, List.set_cons_zero, List.set_cons_succ, Nat.reduceAdd, Nat.reduceSub, Nat.sub_self, Nat.reduceLeDiff, List.all_cons, List.all_nil, np_fr, np_int, np_bl, np_tup, np_lst, np_str, np_non, Bool.and_self, Bool.and_true, if_true_, if_false_, zero_add', if_tt, if_ff, decide_true, decide_false, Nat.le_refl, oItS_lst, oItS_tup, oTupOf_lst, oTupOf_tup, oLstOf_lst, oLstOf_tup, oRv_lst, oRv_tup, oAdd_tup, dChain_ap, asTru_bl, asTru_tup, asTru_lst, oIsN_ap, oNotN_ap, asI_ap, oSl_tup, oSl_lst, oZip_tup, oZip_lst, oAddI_ap, oEqS_ap, oNeS_ap, oNe_nil, oIx_ly, i2_0, t1, t2, p1, c', nought_tup, b2, nr, Bool.false_eq_true]
      · have c' : ¬ (w + brS p x).num < 0 := fun q => c (by
          rw [Rat.lt_iff]
          show (w + brS p x).num * 1 < 0 * ((w + brS p x).den : Int)
          omega)
        have b2 := lbelow_eq (rb.mono (n := 1900) (by decide)) (sb.mono (n := 1900) (by omega))
        have el := ledQ_hi (h := rimP p) c
        rw [el]
        by_cases q : rimP p < w + brS p x
        · simp -implicitDefEqProofs only [den__law_led_L1, sSeq_ap, sAsg_ap, sPar_ap, sRet_ap, sIf_ap, sExpr_ap, sNext_ap, bnd_ap, ret_ap, bindR_ok, thenR_ok, dVar_ap, varR_ok, seqR_nx, seqR_rt, asgR_ok, gNm_ap, gCn_ap, gcnR_ok, gNl_ap, gTp_fr, gTp_ap, gLs_ap, dCons_ap, dNil_ap, asB_ap, dOr_ap, dAnd_ap, dNot_ap, dAndV_ap, dOrV_ap, dNotV_ap, dIf_ap, oAdd_int, oSub_int, oLt_int, oLe_int, oGt_int, oGe_int, oNeg_int, oEq_int, oNe_int, oEq_fr, oNe_fr, oEq_bl, oNe_bl, oTup_ap, oLst_ap, oCall_ap, oAbs_ap, oMax_ap, oMin_ap, oToInt_b, oToInt_i, oLen_lst, oLen_scr, oLen_tup, oIx_lst, oIx_scr, oAdd_lst, oIx_tup, oIx_fr0, oIx_fr1, ixR_ok, oItL_ap, oItT_ap, sFor_ap, startD, List.map_cons, List.map_nil, List.length_cons, List.length_nil, List.replicate_succ, List.replicate_zero, List.cons_append, List.nil_append, List.append_nil, List.getElem?_cons_zero, List.getElem?_cons_succ, List.set_cons_zero, List.set_cons_succ, Nat.reduceAdd, Nat.reduceSub, Nat.sub_self, Nat.reduceLeDiff, List.all_cons, List.all_nil, np_fr, np_int, np_bl, np_tup, np_lst, np_str, np_non, Bool.and_self, Bool.and_true, if_true_, if_false_, zero_add', if_tt, if_ff, decide_true, decide_false, Nat.le_refl, oItS_lst, oItS_tup, oTupOf_lst, oTupOf_tup, oLstOf_lst, oLstOf_tup, oRv_lst, oRv_tup, oAdd_tup, dChain_ap, asTru_bl, asTru_tup, asTru_lst, oIsN_ap, oNotN_ap, asI_ap, oSl_tup, oSl_lst, oZip_tup, oZip_lst, oAddI_ap, oEqS_ap, oNeS_ap, oNe_nil, oIx_ly, i2_0, t1, t2, p1, c', decide_false, Bool.false_eq_true, b2, q]
        · simp -implicitDefEqProofs only [den__law_led_L1, sSeq_ap, sAsg_ap, sPar_ap, sRet_ap, sIf_ap, sExpr_ap, sNext_ap, bnd_ap, ret_ap, bindR_ok, thenR_ok, dVar_ap, varR_ok, seqR_nx, seqR_rt, asgR_ok, gNm_ap, gCn_ap, gcnR_ok, gNl_ap, gTp_fr, gTp_ap, gLs_ap, dCons_ap, dNil_ap, asB_ap, dOr_ap, dAnd_ap, dNot_ap, dAndV_ap, dOrV_ap, dNotV_ap, dIf_ap, oAdd_int, oSub_int, oLt_int, oLe_int, oGt_int, oGe_int, oNeg_int, oEq_int, oNe_int, oEq_fr, oNe_fr, oEq_bl, oNe_bl, oTup_ap, oLst_ap, oCall_ap, oAbs_ap, oMax_ap, oMin_ap, oToInt_b, oToInt_i, oLen_lst, oLen_scr, oLen_tup, oIx_lst, oIx_scr, oAdd_lst, oIx_tup, oIx_fr0, oIx_fr1, ixR_ok, oItL_ap, oItT_ap, sFor_ap, startD, List.map_cons, List.map_nil, List.length_cons, List.length_nil, List.replicate_succ, List.replicate_zero, List.cons_append, List.nil_append, List.append_nil, List.getElem?_cons_zero, List.getElem?_cons_succ, List.set_cons_zero, List.set_cons_succ, Nat.reduceAdd, Nat.reduceSub, Nat.sub_self, Nat.reduceLeDiff, List.all_cons, List.all_nil, np_fr, np_int, np_bl, np_tup, np_lst, np_str, np_non, Bool.and_self, Bool.and_true, if_true_, if_false_, zero_add', if_tt, if_ff, decide_true, decide_false, Nat.le_refl, oItS_lst, oItS_tup, oTupOf_lst, oTupOf_tup, oLstOf_lst, oLstOf_tup, oRv_lst, oRv_tup, oAdd_tup, dChain_ap, asTru_bl, asTru_tup, asTru_lst, oIsN_ap, oNotN_ap, asI_ap, oSl_tup, oSl_lst, oZip_tup, oZip_lst, oAddI_ap, oEqS_ap, oNeS_ap, oNe_nil, oIx_ly, i2_0, t1, t2, p1, c', decide_false, Bool.false_eq_true, b2, q]
    rw [List.map_cons, forF_cons]
    simp -implicitDefEqProofs only [sSeq_ap, sAsg_ap, sPar_ap, sRet_ap, sIf_ap, sExpr_ap, sNext_ap, bnd_ap, ret_ap, bindR_ok, thenR_ok, dVar_ap, varR_ok, seqR_nx, seqR_rt, asgR_ok, gNm_ap, gCn_ap, gcnR_ok, gNl_ap, gTp_fr, gTp_ap, gLs_ap, dCons_ap, dNil_ap, asB_ap, dOr_ap, dAnd_ap, dNot_ap, dAndV_ap, dOrV_ap, dNotV_ap, dIf_ap, oAdd_int, oSub_int, oLt_int, oLe_int, oGt_int, oGe_int, oNeg_int, oEq_int, oNe_int, oEq_fr, oNe_fr, oEq_bl, oNe_bl, oTup_ap, oLst_ap, oCall_ap, oAbs_ap, oMax_ap, oMin_ap, oToInt_b, oToInt_i, oLen_lst, oLen_scr, oLen_tup, oIx_lst, oIx_scr, oAdd_lst, oIx_tup, oIx_fr0, oIx_fr1, ixR_ok, oItL_ap, oItT_ap, sFor_ap, startD, List.map_cons, List.map_nil, List.length_cons, List.length_nil, List.replicate_succ, List.replicate_zero, List.cons_append, List.nil_append, List.append_nil, List.getElem?_cons_zero, List.getElem?_cons_succ, List.set_cons_zero, List.set_cons_succ, Nat.reduceAdd, Nat.reduceSub, Nat.sub_self, Nat.reduceLeDiff, List.all_cons, List.all_nil, np_fr, np_int, np_bl, np_tup, np_lst, np_str, np_non, Bool.and_self, Bool.and_true, if_true_, if_false_, zero_add', if_tt, if_ff, decide_true, decide_false, Nat.le_refl, oItS_lst, oItS_tup, oTupOf_lst, oTupOf_tup, oLstOf_lst, oLstOf_tup, oRv_lst, oRv_tup, oAdd_tup, dChain_ap, asTru_bl, asTru_tup, asTru_lst, oIsN_ap, oNotN_ap, asI_ap, oSl_tup, oSl_lst, oZip_tup, oZip_lst, oAddI_ap, oEqS_ap, oNeS_ap, oNe_nil, gTp_ly, forB_ok, st, ofR_nx]
    exact e
theorem lled_eq (hp : PanOk p) {W : List (Rat × Rat)} {w : Rat} (hW : ∀ x ∈ W, SpOk x) (hl : W.length ≤ 13) (hw : Bd 72 w) (M : Mem) : F__law_led [lyQ p, .tup (W.map lyQ), frQ w] M = some (.ok (frQ (ldW p w W)), M) ∧ Bd 1100 (ldW p w W) := by
  obtain ⟨o4', o5', e, x1⟩ := lled_loop hp (S := some (.tup (W.map lyQ))) M W w 72 none none hW hw (by decide) (by omega)
  refine ⟨runF_pure ?_ rfl, x1.mono (by omega)⟩
  simp -implicitDefEqProofs only [den__law_led, sSeq_ap, sAsg_ap, sPar_ap, sRet_ap, sIf_ap, sExpr_ap, sNext_ap, bnd_ap, ret_ap, bindR_ok, thenR_ok, dVar_ap, varR_ok, seqR_nx, seqR_rt, asgR_ok, gNm_ap, gCn_ap, gcnR_ok, gNl_ap, gTp_fr, gTp_ap, gLs_ap, dCons_ap, dNil_ap, asB_ap, dOr_ap, dAnd_ap, dNot_ap, dAndV_ap, dOrV_ap, dNotV_ap, dIf_ap, oAdd_int, oSub_int, oLt_int, oLe_int, oGt_int, oGe_int, oNeg_int, oEq_int, oNe_int, oEq_fr, oNe_fr, oEq_bl, oNe_bl, oTup_ap, oLst_ap, oCall_ap, oAbs_ap, oMax_ap, oMin_ap, oToInt_b, oToInt_i, oLen_lst, oLen_scr, oLen_tup, oIx_lst, oIx_scr, oAdd_lst, oIx_tup, oIx_fr0, oIx_fr1, ixR_ok, oItL_ap, oItT_ap, sFor_ap, startD, List.map_cons, List.map_nil, List.length_cons, List.length_nil, List.replicate_succ, List.replicate_zero, List.cons_append, List.nil_append, List.append_nil, List.getElem?_cons_zero, List.getElem?_cons_succ, List.set_cons_zero, List.set_cons_succ, Nat.reduceAdd, Nat.reduceSub, Nat.sub_self, Nat.reduceLeDiff, List.all_cons, List.all_nil, np_fr, np_int, np_bl, np_tup, np_lst, np_str, np_non, Bool.and_self, Bool.and_true, if_true_, if_false_, zero_add', if_tt, if_ff, decide_true, decide_false, Nat.le_refl, oItS_lst, oItS_tup, oTupOf_lst, oTupOf_tup, oLstOf_lst, oLstOf_tup, oRv_lst, oRv_tup, oAdd_tup, dChain_ap, asTru_bl, asTru_tup, asTru_lst, oIsN_ap, oNotN_ap, asI_ap, oSl_tup, oSl_lst, oZip_tup, oZip_lst, oAddI_ap, oEqS_ap, oNeS_ap, oNe_nil, oIx_ly, i2_0, i2_1, lrim_eq hp, e]
theorem led_comp {b1 l1 h1 b2 l2 h2 x : Rat} (k1 : l1 ≤ h1) (k2 : l2 ≤ h2) : ledQ (b1 + b2) (ledQ b2 l2 h2 l1) (ledQ b2 l2 h2 h1) x = ledQ b2 l2 h2 (ledQ b1 l1 h1 x) := by
  unfold ledQ mnQ mxQ
  grind
theorem led_mono {b l h x y : Rat} (k : x ≤ y) : ledQ b l h x ≤ ledQ b l h y := by
  unfold ledQ mnQ mxQ
  grind
theorem ld_comp (hp : PanOk p) : ∀ (W : List (Rat × Rat)) (b l h w : Rat), l ≤ h → ldW p (ledQ b l h w) W = ledQ (cofB p b W) (ldW p l W) (ldW p h W) w ∧ ldW p l W ≤ ldW p h W
  | [], b, l, h, w, k => ⟨rfl, k⟩
  | x :: W, b, l, h, w, k => by
    have r0 := hp.rim0
    have := ld_comp hp W (b + brS p x) (ledQ (brS p x) 0 (rimP p) l) (ledQ (brS p x) 0 (rimP p) h) w (led_mono k)
    rw [led_comp k (Rat.le_of_lt r0)] at this
    exact this
end
/-! a clamp of a weather judged -/
theorem oEq_cl (b l h : Rat) (ρ : Env) (M : Mem) : oEq (clQ b l h) (clQ b l h) ρ M = some (.ok (.bl true), M) := by
  unfold oEq
  rw [if_pos ⟨rfl, rfl, rfl, rfl⟩]
  show some (Res.ok (D.bl (PyData.eqv (toPy (clQ b l h)) (toPy (clQ b l h)))), M) = _
  simp -implicitDefEqProofs only [clQ, toPy, toPys, PyData.eqv, PyData.eqvAll, eqv_fr, decide_true, Bool.and_self]
section
variable {p : Rat × Rat}
theorem lsum_loop (hp : PanOk p) {S : Option D} (M : Mem) : ∀ (W : List (Rat × Rat)) (b : Rat) (k : Nat) (o : Option D), (∀ x ∈ W, SpOk x) → Bd k b → k + 73 * W.length ≤ 1200 → ∃ o', forF (gNm 2) den__law_summed_L1 (W.map fun x => frQ (brS p x)) [S, some (frQ b), o] M = some (.nx [S, some (frQ (cofB p b W)), o'], M) ∧ Bd (k + 73 * W.length) (cofB p b W)
  | [], b, k, o, _, hb, _ => ⟨o, rfl, hb⟩
  | x :: W, b, k, o, hW, hb, hK => by
    rw [List.length_cons] at hK
    have bb := br_bd hp (hW x (by simp))
    have p1 := lplus_eq (hb.mono (n := 1900) (by omega)) (bb.mono (n := 1900) (by decide))
    obtain ⟨o', e, x1⟩ := lsum_loop hp (S := S) M W (b + brS p x) (k + 73) (some (frQ (brS p x))) (fun y hy => hW y (by simp [hy])) ((hb.add bb).mono (by omega)) (by omega)
    have ek : k + 73 * (x :: W).length = k + 73 + 73 * W.length := by rw [List.length_cons]; omega
    rw [ek]
    refine ⟨o', ?_, x1⟩
    rw [List.map_cons, forF_cons]
    simp -implicitDefEqProofs only [sSeq_ap, sAsg_ap, sPar_ap, sRet_ap, sIf_ap, sExpr_ap, sNext_ap, bnd_ap, ret_ap, bindR_ok, thenR_ok, dVar_ap, varR_ok, seqR_nx, seqR_rt, asgR_ok, gNm_ap, gCn_ap, gcnR_ok, gNl_ap, gTp_fr, gTp_ap, gLs_ap, dCons_ap, dNil_ap, asB_ap, dOr_ap, dAnd_ap, dNot_ap, dAndV_ap, dOrV_ap, dNotV_ap, dIf_ap, oAdd_int, oSub_int, oLt_int, oLe_int, oGt_int, oGe_int, oNeg_int, oEq_int, oNe_int, oEq_fr, oNe_fr, oEq_bl, oNe_bl, oTup_ap, oLst_ap, oCall_ap, oAbs_ap, oMax_ap, oMin_ap, oToInt_b, oToInt_i, oLen_lst, oLen_scr, oLen_tup, oIx_lst, oIx_scr, oAdd_lst, oIx_tup, oIx_fr0, oIx_fr1, ixR_ok, oItL_ap, oItT_ap, sFor_ap, startD, List.map_cons, List.map_nil, List.length_cons, List.length_nil, List.replicate_succ, List.replicate_zero, List.cons_append, List.nil_append, List.append_nil, List.getElem?_cons_zero, List.getElem?_cons_succ, List.set_cons_zero, List.set_cons_succ, Nat.reduceAdd, Nat.reduceSub, Nat.sub_self, Nat.reduceLeDiff, List.all_cons, List.all_nil, np_fr, np_int, np_bl, np_tup, np_lst, np_str, np_non, Bool.and_self, Bool.and_true, if_true_, if_false_, zero_add', if_tt, if_ff, decide_true, decide_false, Nat.le_refl, oItS_lst, oItS_tup, oTupOf_lst, oTupOf_tup, oLstOf_lst, oLstOf_tup, oRv_lst, oRv_tup, oAdd_tup, dChain_ap, asTru_bl, asTru_tup, asTru_lst, oIsN_ap, oNotN_ap, asI_ap, oSl_tup, oSl_lst, oZip_tup, oZip_lst, oAddI_ap, oEqS_ap, oNeS_ap, oNe_nil, forB_ok, den__law_summed_L1, p1, ofR_nx]
    exact e
theorem lsum_eq (hp : PanOk p) {W : List (Rat × Rat)} (hW : ∀ x ∈ W, SpOk x) (hl : W.length ≤ 13) (M : Mem) : F__law_summed [.lst (W.map fun x => frQ (brS p x))] M = some (.ok (frQ (cofB p 0 W)), M) ∧ Bd 960 (cofB p 0 W) := by
  obtain ⟨o', e, x1⟩ := lsum_loop hp (S := some (.lst (W.map fun x => frQ (brS p x)))) M W 0 1 none hW ⟨by decide, by decide⟩ (by omega)
  refine ⟨runF_pure ?_ rfl, x1.mono (by omega)⟩
  simp -implicitDefEqProofs only [den__law_summed, sSeq_ap, sAsg_ap, sPar_ap, sRet_ap, sIf_ap, sExpr_ap, sNext_ap, bnd_ap, ret_ap, bindR_ok, thenR_ok, dVar_ap, varR_ok, seqR_nx, seqR_rt, asgR_ok, gNm_ap, gCn_ap, gcnR_ok, gNl_ap, gTp_fr, gTp_ap, gLs_ap, dCons_ap, dNil_ap, asB_ap, dOr_ap, dAnd_ap, dNot_ap, dAndV_ap, dOrV_ap, dNotV_ap, dIf_ap, oAdd_int, oSub_int, oLt_int, oLe_int, oGt_int, oGe_int, oNeg_int, oEq_int, oNe_int, oEq_fr, oNe_fr, oEq_bl, oNe_bl, oTup_ap, oLst_ap, oCall_ap, oAbs_ap, oMax_ap, oMin_ap, oToInt_b, oToInt_i, oLen_lst, oLen_scr, oLen_tup, oIx_lst, oIx_scr, oAdd_lst, oIx_tup, oIx_fr0, oIx_fr1, ixR_ok, oItL_ap, oItT_ap, sFor_ap, startD, List.map_cons, List.map_nil, List.length_cons, List.length_nil, List.replicate_succ, List.replicate_zero, List.cons_append, List.nil_append, List.append_nil, List.getElem?_cons_zero, List.getElem?_cons_succ, List.set_cons_zero, List.set_cons_succ, Nat.reduceAdd, Nat.reduceSub, Nat.sub_self, Nat.reduceLeDiff, List.all_cons, List.all_nil, np_fr, np_int, np_bl, np_tup, np_lst, np_str, np_non, Bool.and_self, Bool.and_true, if_true_, if_false_, zero_add', if_tt, if_ff, decide_true, decide_false, Nat.le_refl, oItS_lst, oItS_tup, oTupOf_lst, oTupOf_tup, oLstOf_lst, oLstOf_tup, oRv_lst, oRv_tup, oAdd_tup, dChain_ap, asTru_bl, asTru_tup, asTru_lst, oIsN_ap, oNotN_ap, asI_ap, oSl_tup, oSl_lst, oZip_tup, oZip_lst, oAddI_ap, oEqS_ap, oNeS_ap, oNe_nil, nought_tup, e]
theorem sixth_bd (hp : PanOk p) {k : Int} (h0 : 0 ≤ k) (h : k < 7) : Bd 60 (rimP p * Rat.divInt k 6) := (hp.rim.mul (bd_divInt (n := 3) (by decide) (by omega) (by decide))).mono (by decide)
theorem right_turn (hp : PanOk p) {x : Rat × Rat} {W : List (Rat × Rat)} {A L H : Rat} (hA : Bd 960 A) (hL : Bd 1100 L) (hH : Bd 1100 H) (hx : SpOk x) (hW : ∀ x ∈ W, SpOk x) (hl : W.length ≤ 12) (hE : ∀ w, ldW p w (x :: W) = ledQ A L H w) {k : Int} (k0 : 0 ≤ k) (k1 : k < 7) (o6 o8 o9 oa ob : Option D) (M : Mem) : ∃ (o8' o9' : Option D), den__law_clamp_right_L1 [some (lyQ p), some (.tup ((x :: W).map lyQ)), some (frQ (rimP p)), some (frQ A), some (frQ L), some (frQ H), o6, some (.int k), o8, o9, oa, ob] M = some (.nx [some (lyQ p), some (.tup ((x :: W).map lyQ)), some (frQ (rimP p)), some (frQ A), some (frQ L), some (frQ H), o6, some (.int k), o8', o9', oa, ob], M) := by
  have md := fun M => made_eq (t := k) (b := 6) (by decide) (by decide) M
  have tm := ltimes_eq (hp.rim.mono (n := 1900) (by decide)) ((bd_divInt (t := k) (b := 6) (n := 3) (by decide) (by omega) (by decide)).mono (n := 1900) (by decide))
  have wb := sixth_bd hp k0 k1
  generalize hw : rimP p * Rat.divInt k 6 = w at *
  have pl := lplus_eq (wb.mono (n := 1900) (by decide)) (hA.mono (n := 1900) (by decide))
  have sb := wb.add hA
  have b1 := lbelow_eq (sb.mono (n := 1900) (by decide)) (hL.mono (n := 1900) (by decide))
  obtain ⟨ll, _⟩ := lled_eq hp (W := x :: W) (w := w) (fun y hy => by
    rcases List.mem_cons.mp hy with q | q
    · subst q; exact hx
    · exact hW y q) (by simp; omega) (wb.mono (by decide)) M
  rw [hE w] at ll
  clear hE hW
  generalize (x :: W).map lyQ = V at *
  have ne : ∀ (q : Rat) ρ M, oNe (frQ q) (frQ q) ρ M = some (.ok (.bl false), M) := fun q ρ M => by
    rw [oNe_fr, decide_eq_true rfl]; rfl
  by_cases c : w + A < L
  · have e := ledQ_lo (h := H) c
    have b2 := lbelow_eq (hH.mono (n := 1900) (by decide)) (hL.mono (n := 1900) (by decide))
    rw [e] at ll
    by_cases q : H < L
    · rw [if_pos q] at ll
      refine ⟨some (frQ w), some (frQ H), ?_⟩
      simp -implicitDefEqProofs only [den__law_clamp_right_L1, sSeq_ap, sAsg_ap, sPar_ap, sRet_ap, sIf_ap, sExpr_ap, sNext_ap, bnd_ap, ret_ap, bindR_ok, thenR_ok, dVar_ap, varR_ok, seqR_nx, seqR_rt, asgR_ok, gNm_ap, gCn_ap, gcnR_ok, gNl_ap, gTp_fr, gTp_ap, gLs_ap, dCons_ap, dNil_ap, asB_ap, dOr_ap, dAnd_ap, dNot_ap, dAndV_ap, dOrV_ap, dNotV_ap, dIf_ap, oAdd_int, oSub_int, oLt_int, oLe_int, oGt_int, oGe_int, oNeg_int, oEq_int, oNe_int, oEq_fr, oNe_fr, oEq_bl, oNe_bl, oTup_ap, oLst_ap, oCall_ap, oAbs_ap, oMax_ap, oMin_ap, oToInt_b, oToInt_i, oLen_lst, oLen_scr, oLen_tup, oIx_lst, oIx_scr, oAdd_lst, oIx_tup, oIx_fr0, oIx_fr1, ixR_ok, oItL_ap, oItT_ap, sFor_ap, startD, List.map_cons, List.map_nil, List.length_cons, List.length_nil, List.replicate_succ, List.replicate_zero, List.cons_append, List.nil_append, List.append_nil, List.getElem?_cons_zero, List.getElem?_cons_succ, List.set_cons_zero, List.set_cons_succ, Nat.reduceAdd, Nat.reduceSub, Nat.sub_self, Nat.reduceLeDiff, List.all_cons, List.all_nil, np_fr, np_int, np_bl, np_tup, np_lst, np_str, np_non, Bool.and_self, Bool.and_true, if_true_, if_false_, zero_add', if_tt, if_ff, decide_true, decide_false, Nat.le_refl, oItS_lst, oItS_tup, oTupOf_lst, oTupOf_tup, oLstOf_lst, oLstOf_tup, oRv_lst, oRv_tup, oAdd_tup, dChain_ap, asTru_bl, asTru_tup, asTru_lst, oIsN_ap, oNotN_ap, asI_ap, oSl_tup, oSl_lst, oZip_tup, oZip_lst, oAddI_ap, oEqS_ap, oNeS_ap, oNe_nil, md, tm, pl, b1, c, b2, q, ll, ne, Bool.false_eq_true]
    · rw [if_neg q] at ll
      refine ⟨some (frQ w), some (frQ L), ?_⟩
      simp -implicitDefEqProofs only [den__law_clamp_right_L1, sSeq_ap, sAsg_ap, sPar_ap, sRet_ap, sIf_ap, sExpr_ap, sNext_ap, bnd_ap, ret_ap, bindR_ok, thenR_ok, dVar_ap, varR_ok, seqR_nx, seqR_rt, asgR_ok, gNm_ap, gCn_ap, gcnR_ok, gNl_ap, gTp_fr, gTp_ap, gLs_ap, dCons_ap, dNil_ap, asB_ap, dOr_ap, dAnd_ap, dNot_ap, dAndV_ap, dOrV_ap, dNotV_ap, dIf_ap, oAdd_int, oSub_int, oLt_int, oLe_int, oGt_int, oGe_int, oNeg_int, oEq_int, oNe_int, oEq_fr, oNe_fr, oEq_bl, oNe_bl, oTup_ap, oLst_ap, oCall_ap, oAbs_ap, oMax_ap, oMin_ap, oToInt_b, oToInt_i, oLen_lst, oLen_scr, oLen_tup, oIx_lst, oIx_scr, oAdd_lst, oIx_tup, oIx_fr0, oIx_fr1, ixR_ok, oItL_ap, oItT_ap, sFor_ap, startD, List.map_cons, List.map_nil, List.length_cons, List.length_nil, List.replicate_succ, List.replicate_zero, List.cons_append, List.nil_append, List.append_nil, List.getElem?_cons_zero, List.getElem?_cons_succ, List.set_cons_zero, List.set_cons_succ, Nat.reduceAdd, Nat.reduceSub, Nat.sub_self, Nat.reduceLeDiff, List.all_cons, List.all_nil, np_fr, np_int, np_bl, np_tup, np_lst, np_str, np_non, Bool.and_self, Bool.and_true, if_true_, if_false_, zero_add', if_tt, if_ff, decide_true, decide_false, Nat.le_refl, oItS_lst, oItS_tup, oTupOf_lst, oTupOf_tup, oLstOf_lst, oLstOf_tup, oRv_lst, oRv_tup, oAdd_tup, dChain_ap, asTru_bl, asTru_tup, asTru_lst, oIsN_ap, oNotN_ap, asI_ap, oSl_tup, oSl_lst, oZip_tup, oZip_lst, oAddI_ap, oEqS_ap, oNeS_ap, oNe_nil, md, tm, pl, b1, c, b2, q, ll, ne, Bool.false_eq_true]
  · have e := ledQ_hi (h := H) c
    have b2 := lbelow_eq (hH.mono (n := 1900) (by decide)) (sb.mono (n := 1900) (by decide))
    rw [e] at ll
    by_cases q : H < w + A
    · rw [if_pos q] at ll
      refine ⟨some (frQ w), some (frQ H), ?_⟩
      simp -implicitDefEqProofs only [den__law_clamp_right_L1, sSeq_ap, sAsg_ap, sPar_ap, sRet_ap, sIf_ap, sExpr_ap, sNext_ap, bnd_ap, ret_ap, bindR_ok, thenR_ok, dVar_ap, varR_ok, seqR_nx, seqR_rt, asgR_ok, gNm_ap, gCn_ap, gcnR_ok, gNl_ap, gTp_fr, gTp_ap, gLs_ap, dCons_ap, dNil_ap, asB_ap, dOr_ap, dAnd_ap, dNot_ap, dAndV_ap, dOrV_ap, dNotV_ap, dIf_ap, oAdd_int, oSub_int, oLt_int, oLe_int, oGt_int, oGe_int, oNeg_int, oEq_int, oNe_int, oEq_fr, oNe_fr, oEq_bl, oNe_bl, oTup_ap, oLst_ap, oCall_ap, oAbs_ap, oMax_ap, oMin_ap, oToInt_b, oToInt_i, oLen_lst, oLen_scr, oLen_tup, oIx_lst, oIx_scr, oAdd_lst, oIx_tup, oIx_fr0, oIx_fr1, ixR_ok, oItL_ap, oItT_ap, sFor_ap, startD, List.map_cons, List.map_nil, List.length_cons, List.length_nil, List.replicate_succ, List.replicate_zero, List.cons_append, List.nil_append, List.append_nil, List.getElem?_cons_zero, List.getElem?_cons_succ, List.set_cons_zero, List.set_cons_succ, Nat.reduceAdd, Nat.reduceSub, Nat.sub_self, Nat.reduceLeDiff, List.all_cons, List.all_nil, np_fr, np_int, np_bl, np_tup, np_lst, np_str, np_non, Bool.and_self, Bool.and_true, if_true_, if_false_, zero_add', if_tt, if_ff, decide_true, decide_false, Nat.le_refl, oItS_lst, oItS_tup, oTupOf_lst, oTupOf_tup, oLstOf_lst, oLstOf_tup, oRv_lst, oRv_tup, oAdd_tup, dChain_ap, asTru_bl, asTru_tup, asTru_lst, oIsN_ap, oNotN_ap, asI_ap, oSl_tup, oSl_lst, oZip_tup, oZip_lst, oAddI_ap, oEqS_ap, oNeS_ap, oNe_nil, md, tm, pl, b1, c, b2, q, ll, ne, decide_false, Bool.false_eq_true]
    · rw [if_neg q] at ll
      refine ⟨some (frQ w), some (frQ (w + A)), ?_⟩
      simp -implicitDefEqProofs only [den__law_clamp_right_L1, sSeq_ap, sAsg_ap, sPar_ap, sRet_ap, sIf_ap, sExpr_ap, sNext_ap, bnd_ap, ret_ap, bindR_ok, thenR_ok, dVar_ap, varR_ok, seqR_nx, seqR_rt, asgR_ok, gNm_ap, gCn_ap, gcnR_ok, gNl_ap, gTp_fr, gTp_ap, gLs_ap, dCons_ap, dNil_ap, asB_ap, dOr_ap, dAnd_ap, dNot_ap, dAndV_ap, dOrV_ap, dNotV_ap, dIf_ap, oAdd_int, oSub_int, oLt_int, oLe_int, oGt_int, oGe_int, oNeg_int, oEq_int, oNe_int, oEq_fr, oNe_fr, oEq_bl, oNe_bl, oTup_ap, oLst_ap, oCall_ap, oAbs_ap, oMax_ap, oMin_ap, oToInt_b, oToInt_i, oLen_lst, oLen_scr, oLen_tup, oIx_lst, oIx_scr, oAdd_lst, oIx_tup, oIx_fr0, oIx_fr1, ixR_ok, oItL_ap, oItT_ap, sFor_ap, startD, List.map_cons, List.map_nil, List.length_cons, List.length_nil, List.replicate_succ, List.replicate_zero, List.cons_append, List.nil_append, List.append_nil, List.getElem?_cons_zero, List.getElem?_cons_succ, List.set_cons_zero, List.set_cons_succ, Nat.reduceAdd, Nat.reduceSub, Nat.sub_self, Nat.reduceLeDiff, List.all_cons, List.all_nil, np_fr, np_int, np_bl, np_tup, np_lst, np_str, np_non, Bool.and_self, Bool.and_true, if_true_, if_false_, zero_add', if_tt, if_ff, decide_true, decide_false, Nat.le_refl, oItS_lst, oItS_tup, oTupOf_lst, oTupOf_tup, oLstOf_lst, oLstOf_tup, oRv_lst, oRv_tup, oAdd_tup, dChain_ap, asTru_bl, asTru_tup, asTru_lst, oIsN_ap, oNotN_ap, asI_ap, oSl_tup, oSl_lst, oZip_tup, oZip_lst, oAddI_ap, oEqS_ap, oNeS_ap, oNe_nil, md, tm, pl, b1, c, b2, q, ll, ne, decide_false, Bool.false_eq_true]
theorem right_loop (hp : PanOk p) {x : Rat × Rat} {W : List (Rat × Rat)} {A L H : Rat} (hA : Bd 960 A) (hL : Bd 1100 L) (hH : Bd 1100 H) (hx : SpOk x) (hW : ∀ x ∈ W, SpOk x) (hl : W.length ≤ 12) (hE : ∀ w, ldW p w (x :: W) = ledQ A L H w) (o6 oa ob : Option D) (M : Mem) : ∀ (ks : List Int) (o7 o8 o9 : Option D), (∀ k ∈ ks, 0 ≤ k ∧ k < 7) → ∃ (o7' o8' o9' : Option D), forF (gNm 7) den__law_clamp_right_L1 (ks.map D.int) [some (lyQ p), some (.tup ((x :: W).map lyQ)), some (frQ (rimP p)), some (frQ A), some (frQ L), some (frQ H), o6, o7, o8, o9, oa, ob] M = some (.nx [some (lyQ p), some (.tup ((x :: W).map lyQ)), some (frQ (rimP p)), some (frQ A), some (frQ L), some (frQ H), o6, o7', o8', o9', oa, ob], M)
  | [], o7, o8, o9, _ => ⟨o7, o8, o9, rfl⟩
  | k :: ks, o7, o8, o9, hk => by
    obtain ⟨p8, p9, e⟩ := right_turn hp hA hL hH hx hW hl hE (hk k (by simp)).1 (hk k (by simp)).2 o6 o8 o9 oa ob M
    obtain ⟨q7, q8, q9, e2⟩ := right_loop hp hA hL hH hx hW hl hE o6 oa ob M ks (some (.int k)) p8 p9 fun j hj => hk j (by simp [hj])
    refine ⟨q7, q8, q9, ?_⟩
    clear hE hW hk
    generalize (x :: W).map lyQ = V at *
    rw [List.map_cons, forF_cons]
    simp -implicitDefEqProofs only [sSeq_ap, sAsg_ap, sPar_ap, sRet_ap, sIf_ap, sExpr_ap, sNext_ap, bnd_ap, ret_ap, bindR_ok, thenR_ok, dVar_ap, varR_ok, seqR_nx, seqR_rt, asgR_ok, gNm_ap, gCn_ap, gcnR_ok, gNl_ap, gTp_fr, gTp_ap, gLs_ap, dCons_ap, dNil_ap, asB_ap, dOr_ap, dAnd_ap, dNot_ap, dAndV_ap, dOrV_ap, dNotV_ap, dIf_ap, oAdd_int, oSub_int, oLt_int, oLe_int, oGt_int, oGe_int, oNeg_int, oEq_int, oNe_int, oEq_fr, oNe_fr, oEq_bl, oNe_bl, oTup_ap, oLst_ap, oCall_ap, oAbs_ap, oMax_ap, oMin_ap, oToInt_b, oToInt_i, oLen_lst, oLen_scr, oLen_tup, oIx_lst, oIx_scr, oAdd_lst, oIx_tup, oIx_fr0, oIx_fr1, ixR_ok, oItL_ap, oItT_ap, sFor_ap, startD, List.map_cons, List.map_nil, List.length_cons, List.length_nil, List.replicate_succ, List.replicate_zero, List.cons_append, List.nil_append, List.append_nil, List.getElem?_cons_zero, List.getElem?_cons_succ, List.set_cons_zero, List.set_cons_succ, Nat.reduceAdd, Nat.reduceSub, Nat.sub_self, Nat.reduceLeDiff, List.all_cons, List.all_nil, np_fr, np_int, np_bl, np_tup, np_lst, np_str, np_non, Bool.and_self, Bool.and_true, if_true_, if_false_, zero_add', if_tt, if_ff, decide_true, decide_false, Nat.le_refl, oItS_lst, oItS_tup, oTupOf_lst, oTupOf_tup, oLstOf_lst, oLstOf_tup, oRv_lst, oRv_tup, oAdd_tup, dChain_ap, asTru_bl, asTru_tup, asTru_lst, oIsN_ap, oNotN_ap, asI_ap, oSl_tup, oSl_lst, oZip_tup, oZip_lst, oAddI_ap, oEqS_ap, oNeS_ap, oNe_nil, forB_ok, e, ofR_nx]
    exact e2
theorem clamp_right_eq (hp : PanOk p) {x : Rat × Rat} {W : List (Rat × Rat)} (hx : SpOk x) (hW : ∀ x ∈ W, SpOk x) (hl : W.length ≤ 12) (M : Mem) : F__law_clamp_right [lyQ p, .tup ((x :: W).map lyQ)] M = some (.ok (.bl true), M) := by
  refine runF_pure ?_ rfl
  have hall : ∀ y ∈ x :: W, SpOk y := fun y hy => by
    rcases List.mem_cons.mp hy with q | q
    · subst q; exact hx
    · exact hW y q
  have z : Bd 1 (0 : Rat) := ⟨by decide, by decide⟩
  obtain ⟨sm, sb⟩ := lsum_eq hp (W := x :: W) hall (by simp; omega) M
  have e0 : cofB p 0 (x :: W) = cofB p (brS p x) W := by
    show cofB p (0 + brS p x) W = _
    rw [Rat.zero_add]
  rw [e0] at sm sb
  obtain ⟨l1, lb⟩ := lled_eq hp hW (by omega) (z.mono (by decide)) M
  obtain ⟨l2, hb⟩ := lled_eq hp hW (by omega) (hp.rim.mono (by decide)) M
  have hE : ∀ w, ldW p w (x :: W) = ledQ (cofB p (brS p x) W) (ldW p 0 W) (ldW p (rimP p) W) w := fun w => (ld_comp hp W (brS p x) 0 (rimP p) w (Rat.le_of_lt hp.rim0)).1
  have cl := clamp_of_eq hp hx hW hl
  have cu : cutD ((x :: W).map lyQ) (some 1) none = W.map lyQ := by
    have := cut_drop ((x :: W).map lyQ) (k := 1) (by simp)
    exact this
  have lc := fun M => oLc_en (en := lyQ) (b := gTp 2 (gCn (gNm 10) (gCn (gNm 11) gNl))) (tt := ret true) (te := bnd (dCons (bnd (dVar 0) fun d => bnd (ret (.int 0)) fun e => oIx d e) (dCons (bnd (dCons (dVar 11) (dCons (dVar 10) dNil)) (oCall 2 F__law_times)) dNil)) (oCall 2 F__law_times)) (ρ := [some (lyQ p), some (.tup ((x :: W).map lyQ)), some (frQ (rimP p)), none, none, none, none, none, none, none, none, none]) (vs := [10, 11]) (p := fun _ => true) (g := fun y => frQ (brS p y)) (l := x :: W) (M := M) (fun y hy => by
    have hy' := hall y hy
    have t1 := ltimes_eq (hy'.n.mono (n := 1900) (by decide)) (hy'.w.mono (n := 1900) (by decide))
    have t2 := ltimes_eq (hp.a.mono (n := 1900) (by decide)) ((hy'.n.mul hy'.w).mono (n := 1900) (by decide))
    have ec : p.1 * (y.2 * y.1) = brS p y := by unfold brS; rw [Rat.mul_comm y.2]
    rw [ec] at t2
    exact ⟨[some (lyQ p), some (.tup ((x :: W).map lyQ)), some (frQ (rimP p)), none, none, none, none, none, none, none, some (frQ y.1), some (frQ y.2)], rfl, fun M' _ => rfl, fun _ => ⟨rfl, fun M' _ => by simp -implicitDefEqProofs only [sSeq_ap, sAsg_ap, sPar_ap, sRet_ap, sIf_ap, sExpr_ap, sNext_ap, bnd_ap, ret_ap, bindR_ok, thenR_ok, dVar_ap, varR_ok, seqR_nx, seqR_rt, asgR_ok, gNm_ap, gCn_ap, gcnR_ok, gNl_ap, gTp_fr, gTp_ap, gLs_ap, dCons_ap, dNil_ap, asB_ap, dOr_ap, dAnd_ap, dNot_ap, dAndV_ap, dOrV_ap, dNotV_ap, dIf_ap, oAdd_int, oSub_int, oLt_int, oLe_int, oGt_int, oGe_int, oNeg_int, oEq_int, oNe_int, oEq_fr, oNe_fr, oEq_bl, oNe_bl, oTup_ap, oLst_ap, oCall_ap, oAbs_ap, oMax_ap, oMin_ap, oToInt_b, oToInt_i, oLen_lst, oLen_scr, oLen_tup, oIx_lst, oIx_scr, oAdd_lst, oIx_tup, oIx_fr0, oIx_fr1, ixR_ok, oItL_ap, oItT_ap, sFor_ap, startD, List.map_cons, List.map_nil, List.length_cons, List.length_nil, List.replicate_succ, List.replicate_zero, List.cons_append, List.nil_append, List.append_nil, List.getElem?_cons_zero, List.getElem?_cons_succ, List.set_cons_zero, List.set_cons_succ, Nat.reduceAdd, Nat.reduceSub, Nat.sub_self, Nat.reduceLeDiff, List.all_cons, List.all_nil, np_fr, np_int, np_bl, np_tup, np_lst, np_str, np_non, Bool.and_self, Bool.and_true, if_true_, if_false_, zero_add', if_tt, if_ff, decide_true, decide_false, Nat.le_refl, oItS_lst, oItS_tup, oTupOf_lst, oTupOf_tup, oLstOf_lst, oLstOf_tup, oRv_lst, oRv_tup, oAdd_tup, dChain_ap, asTru_bl, asTru_tup, asTru_lst, oIsN_ap, oNotN_ap, asI_ap, oSl_tup, oSl_lst, oZip_tup, oZip_lst, oAddI_ap, oEqS_ap, oNeS_ap, oNe_nil, oIx_ly, i2_0, t1, t2]⟩⟩) (by simp; omega)
  rw [filter_true] at lc
  have R7 : ∀ ρ M, oRng1 [.int 7] ρ M = some (.ok (([0, 1, 2, 3, 4, 5, 6] : List Int).map D.int), M) := fun ρ M => by
    rw [oRng1_ap _ _ _ (by decide) (by decide)]; rfl
  obtain ⟨q7, q8, q9, lp⟩ := right_loop hp sb lb hb hx hW hl hE (some (clQ (cofB p (brS p x) W) (ldW p 0 W) (ldW p (rimP p) W))) none none M [0, 1, 2, 3, 4, 5, 6] none none none (by decide)
  have cl' := fun M => cl M
  simp -implicitDefEqProofs only [List.map_cons, List.map_nil] at R7 lp cl' lc l1 l2 sm cu
  clear hall hE hW cl
  simp -implicitDefEqProofs only [den__law_clamp_right, sSeq_ap, sAsg_ap, sPar_ap, sRet_ap, sIf_ap, sExpr_ap, sNext_ap, bnd_ap, ret_ap, bindR_ok, thenR_ok, dVar_ap, varR_ok, seqR_nx, seqR_rt, asgR_ok, gNm_ap, gCn_ap, gcnR_ok, gNl_ap, gTp_fr, gTp_ap, gLs_ap, dCons_ap, dNil_ap, asB_ap, dOr_ap, dAnd_ap, dNot_ap, dAndV_ap, dOrV_ap, dNotV_ap, dIf_ap, oAdd_int, oSub_int, oLt_int, oLe_int, oGt_int, oGe_int, oNeg_int, oEq_int, oNe_int, oEq_fr, oNe_fr, oEq_bl, oNe_bl, oTup_ap, oLst_ap, oCall_ap, oAbs_ap, oMax_ap, oMin_ap, oToInt_b, oToInt_i, oLen_lst, oLen_scr, oLen_tup, oIx_lst, oIx_scr, oAdd_lst, oIx_tup, oIx_fr0, oIx_fr1, ixR_ok, oItL_ap, oItT_ap, sFor_ap, startD, List.map_cons, List.map_nil, List.length_cons, List.length_nil, List.replicate_succ, List.replicate_zero, List.cons_append, List.nil_append, List.append_nil, List.getElem?_cons_zero, List.getElem?_cons_succ, List.set_cons_zero, List.set_cons_succ, Nat.reduceAdd, Nat.reduceSub, Nat.sub_self, Nat.reduceLeDiff, List.all_cons, List.all_nil, np_fr, np_int, np_bl, np_tup, np_lst, np_str, np_non, Bool.and_self, Bool.and_true, if_true_, if_false_, zero_add', if_tt, if_ff, decide_true, decide_false, Nat.le_refl, oItS_lst, oItS_tup, oTupOf_lst, oTupOf_tup, oLstOf_lst, oLstOf_tup, oRv_lst, oRv_tup, oAdd_tup, dChain_ap, asTru_bl, asTru_tup, asTru_lst, oIsN_ap, oNotN_ap, asI_ap, oSl_tup, oSl_lst, oZip_tup, oZip_lst, oAddI_ap, oEqS_ap, oNeS_ap, oNe_nil, oIx_ly, i2_0, i2_1, lrim_eq hp, lc, sm, nought_tup, cu, l1, l2, cl', np_cl, clQ_def, same_cl, Bool.not_true, Bool.false_eq_true, R7, lp, oEq_cl]
end
/-! what is shown of data with {} -/
structure ShE (k n : Nat) (d : D) : Prop where
  pl : d.plE = true
  sh : (toPyE d).showable = true
  dp : (toPyE d).depth ≤ k
  ln : (toPyE d).shown.length ≤ 2000 * n
theorem ShE.mono {k n k' n' : Nat} {d : D} (h : ShE k n d) (hk : k ≤ k') (hn : n ≤ n') : ShE k' n' d := ⟨h.pl, h.sh, Nat.le_trans h.dp hk, Nat.le_trans h.ln (Nat.mul_le_mul_left _ hn)⟩
theorem ShE.int {i : Int} (h : i.natAbs.log2 < 1920) : ShE 0 1 (.int i) := ⟨rfl, by simpa [toPyE, PyData.showable] using h, by simp [toPyE, PyData.depth], by
  have := int_text_len_1921 h
  simp -implicitDefEqProofs only [toPyE, PyData.shown]
  omega⟩
theorem ShE.non : ShE 0 1 .non := ⟨rfl, rfl, by simp [toPyE, PyData.depth], by show (PySem.Str.ofString "None").length ≤ _; decide⟩
theorem ShE.bl (b : Bool) : ShE 0 1 (.bl b) := ⟨rfl, rfl, by simp [toPyE, PyData.depth], by cases b <;> simp -implicitDefEqProofs only [toPyE, PyData.shown] <;> decide⟩
theorem ShE.emp : ShE 1 1 .emp := ⟨rfl, by decide +kernel, by decide +kernel, by decide +kernel⟩
theorem plEL_of : ∀ {ds : List D}, (∀ d ∈ ds, d.plE = true) → plEL ds = true
  | [], _ => rfl
  | d :: ds, h => by
    unfold plEL
    rw [h d (by simp), plEL_of fun e he => h e (by simp [he])]
    rfl
theorem shEL_of : ∀ {ds : List D}, (∀ d ∈ ds, (toPyE d).showable = true) → PyData.showableAll (toPysE ds) = true
  | [], _ => rfl
  | d :: ds, h => by
    simp -implicitDefEqProofs only [toPysE, PyData.showableAll]
    rw [h d (by simp), shEL_of fun e he => h e (by simp [he])]
    rfl
theorem dpEL_of {k : Nat} : ∀ {ds : List D}, (∀ d ∈ ds, (toPyE d).depth ≤ k) → PyData.depthAll (toPysE ds) ≤ k
  | [], _ => by simp [toPysE, PyData.depthAll]
  | d :: ds, h => by
    simp -implicitDefEqProofs only [toPysE, PyData.depthAll]
    have h1 := h d (by simp)
    have h2 := dpEL_of (ds := ds) fun e he => h e (by simp [he])
    omega
theorem lnEL_of {n : Nat} : ∀ {ds : List D}, (∀ d ∈ ds, (toPyE d).shown.length ≤ n) → piled (PyData.shownAll (toPysE ds)) ≤ ds.length * (n + 2)
  | [], _ => by simp [toPysE, PyData.shownAll, piled]
  | d :: ds, h => by
    simp -implicitDefEqProofs only [toPysE, PyData.shownAll]
    rw [piled_cons]
    have h1 := h d (by simp)
    have h2 := lnEL_of (ds := ds) fun e he => h e (by simp [he])
    rw [List.length_cons, Nat.succ_mul]
    omega
theorem ShE.tup {k n : Nat} {ds : List D} (h : ∀ d ∈ ds, ShE k n d) : ShE (k + 1) (ds.length * (n + 1) + 1) (.tup ds) := by
  refine ⟨?_, ?_, ?_, ?_⟩
  · unfold D.plE; exact plEL_of fun d hd => (h d hd).pl
  · simp -implicitDefEqProofs only [toPyE, PyData.showable]; exact shEL_of fun d hd => (h d hd).sh
  · simp -implicitDefEqProofs only [toPyE, PyData.depth]
    have := dpEL_of fun d hd => (h d hd).dp
    omega
  · simp -implicitDefEqProofs only [toPyE, PyData.shown]
    have h1 := lnEL_of fun d hd => (h d hd).ln
    have h2 := join_le (PyData.shownAll (toPysE ds))
    unfold tupleText
    rw [strLen_append, strLen_append]
    have e1 : (("(" : String) : Str).length = 1 := by decide
    have e2 : ((if (PyData.shownAll (toPysE ds)).length == 1 then ",)" else ")" : String) : Str).length ≤ 2 := by split <;> decide
    have e3 : ds.length * (2000 * n + 2) ≤ 2000 * (ds.length * (n + 1)) := by
      have a1 : 2000 * n + 2 ≤ 2000 * (n + 1) := by omega
      have a2 := Nat.mul_le_mul_left ds.length a1
      have a3 : ds.length * (2000 * (n + 1)) = 2000 * (ds.length * (n + 1)) := Nat.mul_left_comm _ _ _
      omega
    rw [e1]
    omega
theorem ShE.fr {q : Rat} (h : Bd 1900 q) : ShE 1 5 (frQ q) := by
  obtain ⟨h1, h2⟩ := bd_log h
  have t := ShE.tup (k := 0) (n := 1) (ds := [.int q.num, .int (q.den : Int)]) (by
    simp -implicitDefEqProofs only [List.mem_cons, List.not_mem_nil, or_false]
    rintro d (rfl | rfl)
    · exact ShE.int h1
    · exact ShE.int h2)
  exact t
theorem ShE.ly {p : Rat × Rat} (h1 : Bd 1900 p.1) (h2 : Bd 1900 p.2) : ShE 2 13 (lyQ p) := by
  have t := ShE.tup (k := 1) (n := 5) (ds := [frQ p.1, frQ p.2]) (by
    simp -implicitDefEqProofs only [List.mem_cons, List.not_mem_nil, or_false]
    rintro d (rfl | rfl)
    · exact ShE.fr h1
    · exact ShE.fr h2)
  exact t
theorem Sh.ly' {p : Rat × Rat} (h1 : Bd 1900 p.1) (h2 : Bd 1900 p.2) : Sh 2 13 (lyQ p) := by
  have t := Sh.tup (k := 1) (n := 5) (ds := [frQ p.1, frQ p.2]) (by
    simp -implicitDefEqProofs only [List.mem_cons, List.not_mem_nil, or_false]
    rintro d (rfl | rfl)
    · exact Sh.fr h1
    · exact Sh.fr h2)
  exact t
/-- what can be shown, either way -/
inductive RA (d : D) : Prop
  | e (h : ShE 4 200 d)
  | l (h : Sh 4 200 d) (np : d.plE = false)
theorem RA.three {p : Rat × Rat} {W : List (Rat × Rat)} {d : D} (h : RA d) (hp : Bd 1900 p.1 ∧ Bd 1900 p.2) (hW : ∀ x ∈ W, Bd 1900 x.1 ∧ Bd 1900 x.2) (hl : W.length ≤ 13) : ∃ z : Str, ∀ ρ M, oReprA [.tup [lyQ p, .tup (W.map lyQ), d]] ρ M = some (.ok (.str z), M) := by
  have len : (W.map lyQ).length = W.length := List.length_map _
  cases h with
  | e h =>
    have wt := ShE.tup (k := 2) (n := 13) (ds := W.map lyQ) (by
      intro z hz
      obtain ⟨x, hx, rfl⟩ := List.mem_map.mp hz
      exact ShE.ly (hW x hx).1 (hW x hx).2)
    have t := ShE.tup (k := 4) (n := 200) (ds := [lyQ p, .tup (W.map lyQ), d]) (by
      simp -implicitDefEqProofs only [List.mem_cons, List.not_mem_nil, or_false]
      rintro z (rfl | rfl | rfl)
      · exact (ShE.ly hp.1 hp.2).mono (by decide) (by decide)
      · exact wt.mono (by decide) (by rw [len]; omega)
      · exact h)
    refine ⟨(toPyE (.tup [lyQ p, .tup (W.map lyQ), d])).shown, fun ρ M => ?_⟩
    unfold oReprA
    dsimp only
    rw [if_pos t.pl, if_pos ⟨t.sh, Nat.le_trans t.dp (by decide), Nat.le_trans t.ln (by simp)⟩]
    rfl
  | l h np =>
    have wt := Sh.tup (k := 2) (n := 13) (ds := W.map lyQ) (by
      intro z hz
      obtain ⟨x, hx, rfl⟩ := List.mem_map.mp hz
      exact Sh.ly' (hW x hx).1 (hW x hx).2)
    have t := Sh.tup (k := 4) (n := 200) (ds := [lyQ p, .tup (W.map lyQ), d]) (by
      simp -implicitDefEqProofs only [List.mem_cons, List.not_mem_nil, or_false]
      rintro z (rfl | rfl | rfl)
      · exact (Sh.ly' hp.1 hp.2).mono (by decide) (by decide)
      · exact wt.mono (by decide) (by rw [len]; omega)
      · exact h)
    have nn : (D.tup [lyQ p, .tup (W.map lyQ), d]).plE = false := by
      simp -implicitDefEqProofs only [D.plE, plEL, np, Bool.false_and, Bool.and_false]
    refine ⟨(toPy (.tup [lyQ p, .tup (W.map lyQ), d])).shown, fun ρ M => ?_⟩
    unfold oReprA
    dsimp only
    rw [if_neg (by rw [nn]; decide)]
    exact oReprD_ap t (by decide) (by simp) ρ M
/-! a pan judged -/
structure PartOk (d : D) : Prop where
  np : d.np = true
  ev : ∃ b, (∀ M, F_is_positive [d] M = some (.ok (.bl b), M)) ∧ ∀ M, F__law_is_part [d] M = some (.ok (.bl b), M)
theorem good_no {d : D} (h : d.np = true) (hn : isT d = false) : Good d := ⟨h, fun ds e => by subst e; cases hn⟩
theorem part_not {d : D} (h : d.np = true) (hn : isT d = false) : PartOk d := by
  refine ⟨h, false, fun M => ?_, fun M => ?_⟩
  · refine runF_pure ?_ rfl
    have e0 : isF d = false := by cases d <;> first | rfl | cases hn
    simp -implicitDefEqProofs only [den_is_positive, sSeq_ap, sAsg_ap, sPar_ap, sRet_ap, sIf_ap, sExpr_ap, sNext_ap, bnd_ap, ret_ap, bindR_ok, thenR_ok, dVar_ap, varR_ok, seqR_nx, seqR_rt, asgR_ok, gNm_ap, gCn_ap, gcnR_ok, gNl_ap, gTp_fr, gTp_ap, gLs_ap, dCons_ap, dNil_ap, asB_ap, dOr_ap, dAnd_ap, dNot_ap, dAndV_ap, dOrV_ap, dNotV_ap, dIf_ap, oAdd_int, oSub_int, oLt_int, oLe_int, oGt_int, oGe_int, oNeg_int, oEq_int, oNe_int, oEq_fr, oNe_fr, oEq_bl, oNe_bl, oTup_ap, oLst_ap, oCall_ap, oAbs_ap, oMax_ap, oMin_ap, oToInt_b, oToInt_i, oLen_lst, oLen_scr, oLen_tup, oIx_lst, oIx_scr, oAdd_lst, oIx_tup, oIx_fr0, oIx_fr1, ixR_ok, oItL_ap, oItT_ap, sFor_ap, startD, List.map_cons, List.map_nil, List.length_cons, List.length_nil, List.replicate_succ, List.replicate_zero, List.cons_append, List.nil_append, List.append_nil, List.getElem?_cons_zero, List.getElem?_cons_succ, List.set_cons_zero, List.set_cons_succ, Nat.reduceAdd, Nat.reduceSub, Nat.sub_self, Nat.reduceLeDiff, List.all_cons, List.all_nil, np_fr, np_int, np_bl, np_tup, np_lst, np_str, np_non, Bool.and_self, Bool.and_true, if_true_, if_false_, zero_add', if_tt, if_ff, decide_true, decide_false, Nat.le_refl, oItS_lst, oItS_tup, oTupOf_lst, oTupOf_tup, oLstOf_lst, oLstOf_tup, oRv_lst, oRv_tup, oAdd_tup, dChain_ap, asTru_bl, asTru_tup, asTru_lst, oIsN_ap, oNotN_ap, asI_ap, oSl_tup, oSl_lst, oZip_tup, oZip_lst, oAddI_ap, oEqS_ap, oNeS_ap, oNe_nil, isfr_eq (good_no h hn), e0, Bool.false_eq_true]
  · refine runF_pure ?_ rfl
    simp -implicitDefEqProofs only [den__law_is_part, sSeq_ap, sAsg_ap, sPar_ap, sRet_ap, sIf_ap, sExpr_ap, sNext_ap, bnd_ap, ret_ap, bindR_ok, thenR_ok, dVar_ap, varR_ok, seqR_nx, seqR_rt, asgR_ok, gNm_ap, gCn_ap, gcnR_ok, gNl_ap, gTp_fr, gTp_ap, gLs_ap, dCons_ap, dNil_ap, asB_ap, dOr_ap, dAnd_ap, dNot_ap, dAndV_ap, dOrV_ap, dNotV_ap, dIf_ap, oAdd_int, oSub_int, oLt_int, oLe_int, oGt_int, oGe_int, oNeg_int, oEq_int, oNe_int, oEq_fr, oNe_fr, oEq_bl, oNe_bl, oTup_ap, oLst_ap, oCall_ap, oAbs_ap, oMax_ap, oMin_ap, oToInt_b, oToInt_i, oLen_lst, oLen_scr, oLen_tup, oIx_lst, oIx_scr, oAdd_lst, oIx_tup, oIx_fr0, oIx_fr1, ixR_ok, oItL_ap, oItT_ap, sFor_ap, startD, List.map_cons, List.map_nil, List.length_cons, List.length_nil, List.replicate_succ, List.replicate_zero, List.cons_append, List.nil_append, List.append_nil, List.getElem?_cons_zero, List.getElem?_cons_succ, List.set_cons_zero, List.set_cons_succ, Nat.reduceAdd, Nat.reduceSub, Nat.sub_self, Nat.reduceLeDiff, List.all_cons, List.all_nil, np_fr, np_int, np_bl, np_tup, np_lst, np_str, np_non, Bool.and_self, Bool.and_true, if_true_, if_false_, zero_add', if_tt, if_ff, decide_true, decide_false, Nat.le_refl, oItS_lst, oItS_tup, oTupOf_lst, oTupOf_tup, oLstOf_lst, oLstOf_tup, oRv_lst, oRv_tup, oAdd_tup, dChain_ap, asTru_bl, asTru_tup, asTru_lst, oIsN_ap, oNotN_ap, asI_ap, oSl_tup, oSl_lst, oZip_tup, oZip_lst, oAddI_ap, oEqS_ap, oNeS_ap, oNe_nil, oIsi_tup h, hn, Bool.not_false]
theorem part_len {ds : List D} (hl : ds.length ≠ 2) (hg : ds.all D.np = true) : PartOk (.tup ds) := by
  refine ⟨rfl, false, fun M => ?_, fun M => ?_⟩
  · refine runF_pure ?_ rfl
    have g : Good (.tup ds) := ⟨rfl, fun es e => by cases e; exact hg⟩
    simp -implicitDefEqProofs only [den_is_positive, sSeq_ap, sAsg_ap, sPar_ap, sRet_ap, sIf_ap, sExpr_ap, sNext_ap, bnd_ap, ret_ap, bindR_ok, thenR_ok, dVar_ap, varR_ok, seqR_nx, seqR_rt, asgR_ok, gNm_ap, gCn_ap, gcnR_ok, gNl_ap, gTp_fr, gTp_ap, gLs_ap, dCons_ap, dNil_ap, asB_ap, dOr_ap, dAnd_ap, dNot_ap, dAndV_ap, dOrV_ap, dNotV_ap, dIf_ap, oAdd_int, oSub_int, oLt_int, oLe_int, oGt_int, oGe_int, oNeg_int, oEq_int, oNe_int, oEq_fr, oNe_fr, oEq_bl, oNe_bl, oTup_ap, oLst_ap, oCall_ap, oAbs_ap, oMax_ap, oMin_ap, oToInt_b, oToInt_i, oLen_lst, oLen_scr, oLen_tup, oIx_lst, oIx_scr, oAdd_lst, oIx_tup, oIx_fr0, oIx_fr1, ixR_ok, oItL_ap, oItT_ap, sFor_ap, startD, List.map_cons, List.map_nil, List.length_cons, List.length_nil, List.replicate_succ, List.replicate_zero, List.cons_append, List.nil_append, List.append_nil, List.getElem?_cons_zero, List.getElem?_cons_succ, List.set_cons_zero, List.set_cons_succ, Nat.reduceAdd, Nat.reduceSub, Nat.sub_self, Nat.reduceLeDiff, List.all_cons, List.all_nil, np_fr, np_int, np_bl, np_tup, np_lst, np_str, np_non, Bool.and_self, Bool.and_true, if_true_, if_false_, zero_add', if_tt, if_ff, decide_true, decide_false, Nat.le_refl, oItS_lst, oItS_tup, oTupOf_lst, oTupOf_tup, oLstOf_lst, oLstOf_tup, oRv_lst, oRv_tup, oAdd_tup, dChain_ap, asTru_bl, asTru_tup, asTru_lst, oIsN_ap, oNotN_ap, asI_ap, oSl_tup, oSl_lst, oZip_tup, oZip_lst, oAddI_ap, oEqS_ap, oNeS_ap, oNe_nil, isfr_eq g, isF_len hl, Bool.false_eq_true]
  · refine runF_pure ?_ rfl
    have l2 : ¬ ((ds.length : Int) = 2) := by omega
    simp -implicitDefEqProofs only [den__law_is_part, sSeq_ap, sAsg_ap, sPar_ap, sRet_ap, sIf_ap, sExpr_ap, sNext_ap, bnd_ap, ret_ap, bindR_ok, thenR_ok, dVar_ap, varR_ok, seqR_nx, seqR_rt, asgR_ok, gNm_ap, gCn_ap, gcnR_ok, gNl_ap, gTp_fr, gTp_ap, gLs_ap, dCons_ap, dNil_ap, asB_ap, dOr_ap, dAnd_ap, dNot_ap, dAndV_ap, dOrV_ap, dNotV_ap, dIf_ap, oAdd_int, oSub_int, oLt_int, oLe_int, oGt_int, oGe_int, oNeg_int, oEq_int, oNe_int, oEq_fr, oNe_fr, oEq_bl, oNe_bl, oTup_ap, oLst_ap, oCall_ap, oAbs_ap, oMax_ap, oMin_ap, oToInt_b, oToInt_i, oLen_lst, oLen_scr, oLen_tup, oIx_lst, oIx_scr, oAdd_lst, oIx_tup, oIx_fr0, oIx_fr1, ixR_ok, oItL_ap, oItT_ap, sFor_ap, startD, List.map_cons, List.map_nil, List.length_cons, List.length_nil, List.replicate_succ, List.replicate_zero, List.cons_append, List.nil_append, List.append_nil, List.getElem?_cons_zero, List.getElem?_cons_succ, List.set_cons_zero, List.set_cons_succ, Nat.reduceAdd, Nat.reduceSub, Nat.sub_self, Nat.reduceLeDiff, List.all_cons, List.all_nil, np_fr, np_int, np_bl, np_tup, np_lst, np_str, np_non, Bool.and_self, Bool.and_true, if_true_, if_false_, zero_add', if_tt, if_ff, decide_true, decide_false, Nat.le_refl, oItS_lst, oItS_tup, oTupOf_lst, oTupOf_tup, oLstOf_lst, oLstOf_tup, oRv_lst, oRv_tup, oAdd_tup, dChain_ap, asTru_bl, asTru_tup, asTru_lst, oIsN_ap, oNotN_ap, asI_ap, oSl_tup, oSl_lst, oZip_tup, oZip_lst, oAddI_ap, oEqS_ap, oNeS_ap, oNe_nil, oIsi_tup (d := .tup ds) rfl, isT, l2, decide_false, Bool.not_true, Bool.not_false, Bool.false_eq_true]
theorem oEq_made {i j : Int} (hi : 1 ≤ i) (hj : 1 ≤ j) (ρ : Env) (M : Mem) : oEq (frQ (Rat.divInt i j)) (.tup [.int i, .int j]) ρ M = some (.ok (.bl (decide (Int.gcd i j = 1))), M) := by
  unfold oEq
  rw [if_pos ⟨rfl, rfl, rfl, rfl⟩]
  show some (Res.ok (D.bl (PyData.eqv (toPy (frQ (Rat.divInt i j))) (toPy (.tup [.int i, .int j])))), M) = _
  simp -implicitDefEqProofs only [frQ, toPy, toPys, PyData.eqv, PyData.eqvAll, Bool.and_true]
  refine congrArg (fun b => some (Res.ok (D.bl b), M)) ?_
  rw [Bool.eq_iff_iff]
  simp -implicitDefEqProofs only [Bool.and_eq_true, beq_iff_eq, decide_eq_true_eq]
  constructor
  · rintro ⟨a, b⟩
    have r := (Rat.divInt i j).reduced
    have : Int.gcd (Rat.divInt i j).num ((Rat.divInt i j).den : Int) = 1 := by simpa [Int.gcd, Nat.Coprime] using r
    rw [a, b] at this
    exact this
  · intro g
    have e := fr_of (q := Rat.divInt i j) (n := i) (d := j) (by omega) g (divInt_cross i j (by omega)).symm.symm.symm
    unfold frQ at e
    injection e with e
    injection e with e1 e2
    injection e2 with e2 _
    injection e1 with e1
    injection e2 with e2
    exact ⟨e1.symm, e2.symm⟩
theorem part_ints (i j : Int) (hj : j.natAbs < 2 ^ 4000) : PartOk (.tup [.int i, .int j]) := by
  refine ⟨rfl, decide (1 ≤ i) && decide (1 ≤ j) && decide (Int.gcd i j = 1), fun M => ?_, fun M => ?_⟩
  · refine runF_pure ?_ rfl
    have e : isF (.tup [.int i, .int j]) = (decide (0 < j) && decide (Int.gcd i j = 1)) := by
      simp -implicitDefEqProofs only [isF]
      congr 1
      rw [decide_eq_decide]
      omega
    by_cases c1 : 0 < j
    · by_cases c2 : Int.gcd i j = 1
      · have f : (decide (1 ≤ i) && decide (1 ≤ j)) = decide (0 < i) := by
          rw [decide_eq_true (show 1 ≤ j by omega), Bool.and_true, decide_eq_decide]
          omega
        simp -implicitDefEqProofs only [den_is_positive, sSeq_ap, sAsg_ap, sPar_ap, sRet_ap, sIf_ap, sExpr_ap, sNext_ap, bnd_ap, ret_ap, bindR_ok, thenR_ok, dVar_ap, varR_ok, seqR_nx, seqR_rt, asgR_ok, gNm_ap, gCn_ap, gcnR_ok, gNl_ap, gTp_fr, gTp_ap, gLs_ap, dCons_ap, dNil_ap, asB_ap, dOr_ap, dAnd_ap, dNot_ap, dAndV_ap, dOrV_ap, dNotV_ap, dIf_ap, oAdd_int, oSub_int, oLt_int, oLe_int, oGt_int, oGe_int, oNeg_int, oEq_int, oNe_int, oEq_fr, oNe_fr, oEq_bl, oNe_bl, oTup_ap, oLst_ap, oCall_ap, oAbs_ap, oMax_ap, oMin_ap, oToInt_b, oToInt_i, oLen_lst, oLen_scr, oLen_tup, oIx_lst, oIx_scr, oAdd_lst, oIx_tup, oIx_fr0, oIx_fr1, ixR_ok, oItL_ap, oItT_ap, sFor_ap, startD, List.map_cons, List.map_nil, List.length_cons, List.length_nil, List.replicate_succ, List.replicate_zero, List.cons_append, List.nil_append, List.append_nil, List.getElem?_cons_zero, List.getElem?_cons_succ, List.set_cons_zero, List.set_cons_succ, Nat.reduceAdd, Nat.reduceSub, Nat.sub_self, Nat.reduceLeDiff, List.all_cons, List.all_nil, np_fr, np_int, np_bl, np_tup, np_lst, np_str, np_non, Bool.and_self, Bool.and_true, if_true_, if_false_, zero_add', if_tt, if_ff, decide_true, decide_false, Nat.le_refl, oItS_lst, oItS_tup, oTupOf_lst, oTupOf_tup, oLstOf_lst, oLstOf_tup, oRv_lst, oRv_tup, oAdd_tup, dChain_ap, asTru_bl, asTru_tup, asTru_lst, oIsN_ap, oNotN_ap, asI_ap, oSl_tup, oSl_lst, oZip_tup, oZip_lst, oAddI_ap, oEqS_ap, oNeS_ap, oNe_nil, isfr_two (x := .int i) (y := .int j) ⟨rfl, rfl⟩, e, c1, c2, i2_0, f]
      · simp -implicitDefEqProofs only [den_is_positive, sSeq_ap, sAsg_ap, sPar_ap, sRet_ap, sIf_ap, sExpr_ap, sNext_ap, bnd_ap, ret_ap, bindR_ok, thenR_ok, dVar_ap, varR_ok, seqR_nx, seqR_rt, asgR_ok, gNm_ap, gCn_ap, gcnR_ok, gNl_ap, gTp_fr, gTp_ap, gLs_ap, dCons_ap, dNil_ap, asB_ap, dOr_ap, dAnd_ap, dNot_ap, dAndV_ap, dOrV_ap, dNotV_ap, dIf_ap, oAdd_int, oSub_int, oLt_int, oLe_int, oGt_int, oGe_int, oNeg_int, oEq_int, oNe_int, oEq_fr, oNe_fr, oEq_bl, oNe_bl, oTup_ap, oLst_ap, oCall_ap, oAbs_ap, oMax_ap, oMin_ap, oToInt_b, oToInt_i, oLen_lst, oLen_scr, oLen_tup, oIx_lst, oIx_scr, oAdd_lst, oIx_tup, oIx_fr0, oIx_fr1, ixR_ok, oItL_ap, oItT_ap, sFor_ap, startD, List.map_cons, List.map_nil, List.length_cons, List.length_nil, List.replicate_succ, List.replicate_zero, List.cons_append, List.nil_append, List.append_nil, List.getElem?_cons_zero, List.getElem?_cons_succ, List.set_cons_zero, List.set_cons_succ, Nat.reduceAdd, Nat.reduceSub, Nat.sub_self, Nat.reduceLeDiff, List.all_cons, List.all_nil, np_fr, np_int, np_bl, np_tup, np_lst, np_str, np_non, Bool.and_self, Bool.and_true, if_true_, if_false_, zero_add', if_tt, if_ff, decide_true, decide_false, Nat.le_refl, oItS_lst, oItS_tup, oTupOf_lst, oTupOf_tup, oLstOf_lst, oLstOf_tup, oRv_lst, oRv_tup, oAdd_tup, dChain_ap, asTru_bl, asTru_tup, asTru_lst, oIsN_ap, oNotN_ap, asI_ap, oSl_tup, oSl_lst, oZip_tup, oZip_lst, oAddI_ap, oEqS_ap, oNeS_ap, oNe_nil, isfr_two (x := .int i) (y := .int j) ⟨rfl, rfl⟩, e, c1, c2, decide_false, Bool.and_false, Bool.false_eq_true]
    · have f : ¬ 1 ≤ j := by omega
      simp -implicitDefEqProofs only [den_is_positive, sSeq_ap, sAsg_ap, sPar_ap, sRet_ap, sIf_ap, sExpr_ap, sNext_ap, bnd_ap, ret_ap, bindR_ok, thenR_ok, dVar_ap, varR_ok, seqR_nx, seqR_rt, asgR_ok, gNm_ap, gCn_ap, gcnR_ok, gNl_ap, gTp_fr, gTp_ap, gLs_ap, dCons_ap, dNil_ap, asB_ap, dOr_ap, dAnd_ap, dNot_ap, dAndV_ap, dOrV_ap, dNotV_ap, dIf_ap, oAdd_int, oSub_int, oLt_int, oLe_int, oGt_int, oGe_int, oNeg_int, oEq_int, oNe_int, oEq_fr, oNe_fr, oEq_bl, oNe_bl, oTup_ap, oLst_ap, oCall_ap, oAbs_ap, oMax_ap, oMin_ap, oToInt_b, oToInt_i, oLen_lst, oLen_scr, oLen_tup, oIx_lst, oIx_scr, oAdd_lst, oIx_tup, oIx_fr0, oIx_fr1, ixR_ok, oItL_ap, oItT_ap, sFor_ap, startD, List.map_cons, List.map_nil, List.length_cons, List.length_nil, List.replicate_succ, List.replicate_zero, List.cons_append, List.nil_append, List.append_nil, List.getElem?_cons_zero, List.getElem?_cons_succ, List.set_cons_zero, List.set_cons_succ, Nat.reduceAdd, Nat.reduceSub, Nat.sub_self, Nat.reduceLeDiff, List.all_cons, List.all_nil, np_fr, np_int, np_bl, np_tup, np_lst, np_str, np_non, Bool.and_self, Bool.and_true, if_true_, if_false_, zero_add', if_tt, if_ff, decide_true, decide_false, Nat.le_refl, oItS_lst, oItS_tup, oTupOf_lst, oTupOf_tup, oLstOf_lst, oLstOf_tup, oRv_lst, oRv_tup, oAdd_tup, dChain_ap, asTru_bl, asTru_tup, asTru_lst, oIsN_ap, oNotN_ap, asI_ap, oSl_tup, oSl_lst, oZip_tup, oZip_lst, oAddI_ap, oEqS_ap, oNeS_ap, oNe_nil, isfr_two (x := .int i) (y := .int j) ⟨rfl, rfl⟩, e, c1, f, decide_false, Bool.and_false, Bool.false_and, Bool.false_eq_true]
  · refine runF_pure ?_ rfl
    have l2 : ∀ ρ M, oLen [.tup [.int i, .int j]] ρ M = some (.ok (.int 2), M) := fun _ _ => rfl
    have ih := fun (k : Int) ρ M => oIsi_int (d := .int k) rfl (fun _ => none) ρ M
    have ib := fun (k : Int) ρ M => oIsi_bool (d := .int k) rfl (fun _ => none) ρ M
    have L1 : ∀ (k : Int) (S : Option D) M, den__law_is_part_L1 [S, some (.int k)] M = if k < 1 then some (.rt (.bl false), M) else some (.nx [S, some (.int k)], M) := fun k S M => by
      by_cases c : k < 1
      · rw [if_pos c]
        simp -implicitDefEqProofs only [den__law_is_part_L1, sSeq_ap, sAsg_ap, sPar_ap, sRet_ap, sIf_ap, sExpr_ap, sNext_ap, bnd_ap, ret_ap, bindR_ok, thenR_ok, dVar_ap, varR_ok, seqR_nx, seqR_rt, asgR_ok, gNm_ap, gCn_ap, gcnR_ok, gNl_ap, gTp_fr, gTp_ap, gLs_ap, dCons_ap, dNil_ap, asB_ap, dOr_ap, dAnd_ap, dNot_ap, dAndV_ap, dOrV_ap, dNotV_ap, dIf_ap, oAdd_int, oSub_int, oLt_int, oLe_int, oGt_int, oGe_int, oNeg_int, oEq_int, oNe_int, oEq_fr, oNe_fr, oEq_bl, oNe_bl, oTup_ap, oLst_ap, oCall_ap, oAbs_ap, oMax_ap, oMin_ap, oToInt_b, oToInt_i, oLen_lst, oLen_scr, oLen_tup, oIx_lst, oIx_scr, oAdd_lst, oIx_tup, oIx_fr0, oIx_fr1, ixR_ok, oItL_ap, oItT_ap, sFor_ap, startD, List.map_cons, List.map_nil, List.length_cons, List.length_nil, List.replicate_succ, List.replicate_zero, List.cons_append, List.nil_append, List.append_nil, List.getElem?_cons_zero, List.getElem?_cons_succ, List.set_cons_zero, List.set_cons_succ, Nat.reduceAdd, Nat.reduceSub, Nat.sub_self, Nat.reduceLeDiff, List.all_cons, List.all_nil, np_fr, np_int, np_bl, np_tup, np_lst, np_str, np_non, Bool.and_self, Bool.and_true, if_true_, if_false_, zero_add', if_tt, if_ff, decide_true, decide_false, Nat.le_refl, oItS_lst, oItS_tup, oTupOf_lst, oTupOf_tup, oLstOf_lst, oLstOf_tup, oRv_lst, oRv_tup, oAdd_tup, dChain_ap, asTru_bl, asTru_tup, asTru_lst, oIsN_ap, oNotN_ap, asI_ap, oSl_tup, oSl_lst, oZip_tup, oZip_lst, oAddI_ap, oEqS_ap, oNeS_ap, oNe_nil, ih, ib, isI, isBl, c, Bool.not_true, Bool.false_eq_true]
      · rw [if_neg c]
        simp -implicitDefEqProofs only [den__law_is_part_L1, sSeq_ap, sAsg_ap, sPar_ap, sRet_ap, sIf_ap, sExpr_ap, sNext_ap, bnd_ap, ret_ap, bindR_ok, thenR_ok, dVar_ap, varR_ok, seqR_nx, seqR_rt, asgR_ok, gNm_ap, gCn_ap, gcnR_ok, gNl_ap, gTp_fr, gTp_ap, gLs_ap, dCons_ap, dNil_ap, asB_ap, dOr_ap, dAnd_ap, dNot_ap, dAndV_ap, dOrV_ap, dNotV_ap, dIf_ap, oAdd_int, oSub_int, oLt_int, oLe_int, oGt_int, oGe_int, oNeg_int, oEq_int, oNe_int, oEq_fr, oNe_fr, oEq_bl, oNe_bl, oTup_ap, oLst_ap, oCall_ap, oAbs_ap, oMax_ap, oMin_ap, oToInt_b, oToInt_i, oLen_lst, oLen_scr, oLen_tup, oIx_lst, oIx_scr, oAdd_lst, oIx_tup, oIx_fr0, oIx_fr1, ixR_ok, oItL_ap, oItT_ap, sFor_ap, startD, List.map_cons, List.map_nil, List.length_cons, List.length_nil, List.replicate_succ, List.replicate_zero, List.cons_append, List.nil_append, List.append_nil, List.getElem?_cons_zero, List.getElem?_cons_succ, List.set_cons_zero, List.set_cons_succ, Nat.reduceAdd, Nat.reduceSub, Nat.sub_self, Nat.reduceLeDiff, List.all_cons, List.all_nil, np_fr, np_int, np_bl, np_tup, np_lst, np_str, np_non, Bool.and_self, Bool.and_true, if_true_, if_false_, zero_add', if_tt, if_ff, decide_true, decide_false, Nat.le_refl, oItS_lst, oItS_tup, oTupOf_lst, oTupOf_tup, oLstOf_lst, oLstOf_tup, oRv_lst, oRv_tup, oAdd_tup, dChain_ap, asTru_bl, asTru_tup, asTru_lst, oIsN_ap, oNotN_ap, asI_ap, oSl_tup, oSl_lst, oZip_tup, oZip_lst, oAddI_ap, oEqS_ap, oNeS_ap, oNe_nil, ih, ib, isI, isBl, c, Bool.not_true, Bool.false_eq_true, decide_false]
    by_cases c1 : i < 1
    · have f : ¬ 1 ≤ i := by omega
      simp -implicitDefEqProofs only [den__law_is_part, sSeq_ap, sAsg_ap, sPar_ap, sRet_ap, sIf_ap, sExpr_ap, sNext_ap, bnd_ap, ret_ap, bindR_ok, thenR_ok, dVar_ap, varR_ok, seqR_nx, seqR_rt, asgR_ok, gNm_ap, gCn_ap, gcnR_ok, gNl_ap, gTp_fr, gTp_ap, gLs_ap, dCons_ap, dNil_ap, asB_ap, dOr_ap, dAnd_ap, dNot_ap, dAndV_ap, dOrV_ap, dNotV_ap, dIf_ap, oAdd_int, oSub_int, oLt_int, oLe_int, oGt_int, oGe_int, oNeg_int, oEq_int, oNe_int, oEq_fr, oNe_fr, oEq_bl, oNe_bl, oTup_ap, oLst_ap, oCall_ap, oAbs_ap, oMax_ap, oMin_ap, oToInt_b, oToInt_i, oLen_lst, oLen_scr, oLen_tup, oIx_lst, oIx_scr, oAdd_lst, oIx_tup, oIx_fr0, oIx_fr1, ixR_ok, oItL_ap, oItT_ap, sFor_ap, startD, List.map_cons, List.map_nil, List.length_cons, List.length_nil, List.replicate_succ, List.replicate_zero, List.cons_append, List.nil_append, List.append_nil, List.getElem?_cons_zero, List.getElem?_cons_succ, List.set_cons_zero, List.set_cons_succ, Nat.reduceAdd, Nat.reduceSub, Nat.sub_self, Nat.reduceLeDiff, List.all_cons, List.all_nil, np_fr, np_int, np_bl, np_tup, np_lst, np_str, np_non, Bool.and_self, Bool.and_true, if_true_, if_false_, zero_add', if_tt, if_ff, decide_true, decide_false, Nat.le_refl, oItS_lst, oItS_tup, oTupOf_lst, oTupOf_tup, oLstOf_lst, oLstOf_tup, oRv_lst, oRv_tup, oAdd_tup, dChain_ap, asTru_bl, asTru_tup, asTru_lst, oIsN_ap, oNotN_ap, asI_ap, oSl_tup, oSl_lst, oZip_tup, oZip_lst, oAddI_ap, oEqS_ap, oNeS_ap, oNe_nil, oIsi_tup (d := .tup [.int i, .int j]) rfl, isT, l2, Bool.not_true, Bool.false_eq_true, forF_cons, forF_nil, forB_ok, L1, c1, ofR_rt, seqR_rt, f, decide_false, Bool.false_and]
    · by_cases c2 : j < 1
      · have f : ¬ 1 ≤ j := by omega
        simp -implicitDefEqProofs only [den__law_is_part, sSeq_ap, sAsg_ap, sPar_ap, sRet_ap, sIf_ap, sExpr_ap, sNext_ap, bnd_ap, ret_ap, bindR_ok, thenR_ok, dVar_ap, varR_ok, seqR_nx, seqR_rt, asgR_ok, gNm_ap, gCn_ap, gcnR_ok, gNl_ap, gTp_fr, gTp_ap, gLs_ap, dCons_ap, dNil_ap, asB_ap, dOr_ap, dAnd_ap, dNot_ap, dAndV_ap, dOrV_ap, dNotV_ap, dIf_ap, oAdd_int, oSub_int, oLt_int, oLe_int, oGt_int, oGe_int, oNeg_int, oEq_int, oNe_int, oEq_fr, oNe_fr, oEq_bl, oNe_bl, oTup_ap, oLst_ap, oCall_ap, oAbs_ap, oMax_ap, oMin_ap, oToInt_b, oToInt_i, oLen_lst, oLen_scr, oLen_tup, oIx_lst, oIx_scr, oAdd_lst, oIx_tup, oIx_fr0, oIx_fr1, ixR_ok, oItL_ap, oItT_ap, sFor_ap, startD, List.map_cons, List.map_nil, List.length_cons, List.length_nil, List.replicate_succ, List.replicate_zero, List.cons_append, List.nil_append, List.append_nil, List.getElem?_cons_zero, List.getElem?_cons_succ, List.set_cons_zero, List.set_cons_succ, Nat.reduceAdd, Nat.reduceSub, Nat.sub_self, Nat.reduceLeDiff, List.all_cons, List.all_nil, np_fr, np_int, np_bl, np_tup, np_lst, np_str, np_non, Bool.and_self, Bool.and_true, if_true_, if_false_, zero_add', if_tt, if_ff, decide_true, decide_false, Nat.le_refl, oItS_lst, oItS_tup, oTupOf_lst, oTupOf_tup, oLstOf_lst, oLstOf_tup, oRv_lst, oRv_tup, oAdd_tup, dChain_ap, asTru_bl, asTru_tup, asTru_lst, oIsN_ap, oNotN_ap, asI_ap, oSl_tup, oSl_lst, oZip_tup, oZip_lst, oAddI_ap, oEqS_ap, oNeS_ap, oNe_nil, oIsi_tup (d := .tup [.int i, .int j]) rfl, isT, l2, Bool.not_true, Bool.false_eq_true, forF_cons, forF_nil, forB_ok, L1, c1, c2, ofR_nx, ofR_rt, seqR_rt, f, decide_false, Bool.false_and, Bool.and_false]
      · have md := fun M => made_eq (t := i) (b := j) (by omega) hj M
        have f1 : 1 ≤ i := by omega
        have f2 : 1 ≤ j := by omega
        simp -implicitDefEqProofs only [den__law_is_part, sSeq_ap, sAsg_ap, sPar_ap, sRet_ap, sIf_ap, sExpr_ap, sNext_ap, bnd_ap, ret_ap, bindR_ok, thenR_ok, dVar_ap, varR_ok, seqR_nx, seqR_rt, asgR_ok, gNm_ap, gCn_ap, gcnR_ok, gNl_ap, gTp_fr, gTp_ap, gLs_ap, dCons_ap, dNil_ap, asB_ap, dOr_ap, dAnd_ap, dNot_ap, dAndV_ap, dOrV_ap, dNotV_ap, dIf_ap, oAdd_int, oSub_int, oLt_int, oLe_int, oGt_int, oGe_int, oNeg_int, oEq_int, oNe_int, oEq_fr, oNe_fr, oEq_bl, oNe_bl, oTup_ap, oLst_ap, oCall_ap, oAbs_ap, oMax_ap, oMin_ap, oToInt_b, oToInt_i, oLen_lst, oLen_scr, oLen_tup, oIx_lst, oIx_scr, oAdd_lst, oIx_tup, oIx_fr0, oIx_fr1, ixR_ok, oItL_ap, oItT_ap, sFor_ap, startD, List.map_cons, List.map_nil, List.length_cons, List.length_nil, List.replicate_succ, List.replicate_zero, List.cons_append, List.nil_append, List.append_nil, List.getElem?_cons_zero, List.getElem?_cons_succ, List.set_cons_zero, List.set_cons_succ, Nat.reduceAdd, Nat.reduceSub, Nat.sub_self, Nat.reduceLeDiff, List.all_cons, List.all_nil, np_fr, np_int, np_bl, np_tup, np_lst, np_str, np_non, Bool.and_self, Bool.and_true, if_true_, if_false_, zero_add', if_tt, if_ff, decide_true, decide_false, Nat.le_refl, oItS_lst, oItS_tup, oTupOf_lst, oTupOf_tup, oLstOf_lst, oLstOf_tup, oRv_lst, oRv_tup, oAdd_tup, dChain_ap, asTru_bl, asTru_tup, asTru_lst, oIsN_ap, oNotN_ap, asI_ap, oSl_tup, oSl_lst, oZip_tup, oZip_lst, oAddI_ap, oEqS_ap, oNeS_ap, oNe_nil, oIsi_tup (d := .tup [.int i, .int j]) rfl, isT, l2, Bool.not_true, Bool.false_eq_true, forF_cons, forF_nil, forB_ok, L1, c1, c2, ofR_nx, i2_0, i2_1, md, oEq_made f1 f2, f1, f2, Bool.true_and]
theorem part_bl1 : PartOk (.tup [.bl true, .int 1]) := by
  refine ⟨rfl, false, fun M => ?_, fun M => ?_⟩
  · refine runF_pure ?_ rfl
    have e : isF (.tup [.bl true, .int 1]) = false := rfl
    simp -implicitDefEqProofs only [den_is_positive, sSeq_ap, sAsg_ap, sPar_ap, sRet_ap, sIf_ap, sExpr_ap, sNext_ap, bnd_ap, ret_ap, bindR_ok, thenR_ok, dVar_ap, varR_ok, seqR_nx, seqR_rt, asgR_ok, gNm_ap, gCn_ap, gcnR_ok, gNl_ap, gTp_fr, gTp_ap, gLs_ap, dCons_ap, dNil_ap, asB_ap, dOr_ap, dAnd_ap, dNot_ap, dAndV_ap, dOrV_ap, dNotV_ap, dIf_ap, oAdd_int, oSub_int, oLt_int, oLe_int, oGt_int, oGe_int, oNeg_int, oEq_int, oNe_int, oEq_fr, oNe_fr, oEq_bl, oNe_bl, oTup_ap, oLst_ap, oCall_ap, oAbs_ap, oMax_ap, oMin_ap, oToInt_b, oToInt_i, oLen_lst, oLen_scr, oLen_tup, oIx_lst, oIx_scr, oAdd_lst, oIx_tup, oIx_fr0, oIx_fr1, ixR_ok, oItL_ap, oItT_ap, sFor_ap, startD, List.map_cons, List.map_nil, List.length_cons, List.length_nil, List.replicate_succ, List.replicate_zero, List.cons_append, List.nil_append, List.append_nil, List.getElem?_cons_zero, List.getElem?_cons_succ, List.set_cons_zero, List.set_cons_succ, Nat.reduceAdd, Nat.reduceSub, Nat.sub_self, Nat.reduceLeDiff, List.all_cons, List.all_nil, np_fr, np_int, np_bl, np_tup, np_lst, np_str, np_non, Bool.and_self, Bool.and_true, if_true_, if_false_, zero_add', if_tt, if_ff, decide_true, decide_false, Nat.le_refl, oItS_lst, oItS_tup, oTupOf_lst, oTupOf_tup, oLstOf_lst, oLstOf_tup, oRv_lst, oRv_tup, oAdd_tup, dChain_ap, asTru_bl, asTru_tup, asTru_lst, oIsN_ap, oNotN_ap, asI_ap, oSl_tup, oSl_lst, oZip_tup, oZip_lst, oAddI_ap, oEqS_ap, oNeS_ap, oNe_nil, isfr_two (x := .bl true) (y := .int 1) ⟨rfl, rfl⟩, e, Bool.false_eq_true]
  · refine runF_pure ?_ rfl
    have l2 : ∀ ρ M, oLen [.tup [.bl true, .int 1]] ρ M = some (.ok (.int 2), M) := fun _ _ => rfl
    have ih := fun ρ M => oIsi_int (d := .bl true) rfl (fun _ => none) ρ M
    have ib := fun ρ M => oIsi_bool (d := .bl true) rfl (fun _ => none) ρ M
    have L1 : ∀ (S : Option D) M, den__law_is_part_L1 [S, some (.bl true)] M = some (.rt (.bl false), M) := fun S M => by
      simp -implicitDefEqProofs only [den__law_is_part_L1, sSeq_ap, sAsg_ap, sPar_ap, sRet_ap, sIf_ap, sExpr_ap, sNext_ap, bnd_ap, ret_ap, bindR_ok, thenR_ok, dVar_ap, varR_ok, seqR_nx, seqR_rt, asgR_ok, gNm_ap, gCn_ap, gcnR_ok, gNl_ap, gTp_fr, gTp_ap, gLs_ap, dCons_ap, dNil_ap, asB_ap, dOr_ap, dAnd_ap, dNot_ap, dAndV_ap, dOrV_ap, dNotV_ap, dIf_ap, oAdd_int, oSub_int, oLt_int, oLe_int, oGt_int, oGe_int, oNeg_int, oEq_int, oNe_int, oEq_fr, oNe_fr, oEq_bl, oNe_bl, oTup_ap, oLst_ap, oCall_ap, oAbs_ap, oMax_ap, oMin_ap, oToInt_b, oToInt_i, oLen_lst, oLen_scr, oLen_tup, oIx_lst, oIx_scr, oAdd_lst, oIx_tup, oIx_fr0, oIx_fr1, ixR_ok, oItL_ap, oItT_ap, sFor_ap, startD, List.map_cons, List.map_nil, List.length_cons, List.length_nil, List.replicate_succ, List.replicate_zero, List.cons_append, List.nil_append, List.append_nil, List.getElem?_cons_zero, List.getElem?_cons_succ, List.set_cons_zero, List.set_cons_succ, Nat.reduceAdd, Nat.reduceSub, Nat.sub_self, Nat.reduceLeDiff, List.all_cons, List.all_nil, np_fr, np_int, np_bl, np_tup, np_lst, np_str, np_non, Bool.and_self, Bool.and_true, if_true_, if_false_, zero_add', if_tt, if_ff, decide_true, decide_false, Nat.le_refl, oItS_lst, oItS_tup, oTupOf_lst, oTupOf_tup, oLstOf_lst, oLstOf_tup, oRv_lst, oRv_tup, oAdd_tup, dChain_ap, asTru_bl, asTru_tup, asTru_lst, oIsN_ap, oNotN_ap, asI_ap, oSl_tup, oSl_lst, oZip_tup, oZip_lst, oAddI_ap, oEqS_ap, oNeS_ap, oNe_nil, ih, ib, isI, isBl, Bool.not_true, Bool.not_false, Bool.false_eq_true]
    simp -implicitDefEqProofs only [den__law_is_part, sSeq_ap, sAsg_ap, sPar_ap, sRet_ap, sIf_ap, sExpr_ap, sNext_ap, bnd_ap, ret_ap, bindR_ok, thenR_ok, dVar_ap, varR_ok, seqR_nx, seqR_rt, asgR_ok, gNm_ap, gCn_ap, gcnR_ok, gNl_ap, gTp_fr, gTp_ap, gLs_ap, dCons_ap, dNil_ap, asB_ap, dOr_ap, dAnd_ap, dNot_ap, dAndV_ap, dOrV_ap, dNotV_ap, dIf_ap, oAdd_int, oSub_int, oLt_int, oLe_int, oGt_int, oGe_int, oNeg_int, oEq_int, oNe_int, oEq_fr, oNe_fr, oEq_bl, oNe_bl, oTup_ap, oLst_ap, oCall_ap, oAbs_ap, oMax_ap, oMin_ap, oToInt_b, oToInt_i, oLen_lst, oLen_scr, oLen_tup, oIx_lst, oIx_scr, oAdd_lst, oIx_tup, oIx_fr0, oIx_fr1, ixR_ok, oItL_ap, oItT_ap, sFor_ap, startD, List.map_cons, List.map_nil, List.length_cons, List.length_nil, List.replicate_succ, List.replicate_zero, List.cons_append, List.nil_append, List.append_nil, List.getElem?_cons_zero, List.getElem?_cons_succ, List.set_cons_zero, List.set_cons_succ, Nat.reduceAdd, Nat.reduceSub, Nat.sub_self, Nat.reduceLeDiff, List.all_cons, List.all_nil, np_fr, np_int, np_bl, np_tup, np_lst, np_str, np_non, Bool.and_self, Bool.and_true, if_true_, if_false_, zero_add', if_tt, if_ff, decide_true, decide_false, Nat.le_refl, oItS_lst, oItS_tup, oTupOf_lst, oTupOf_tup, oLstOf_lst, oLstOf_tup, oRv_lst, oRv_tup, oAdd_tup, dChain_ap, asTru_bl, asTru_tup, asTru_lst, oIsN_ap, oNotN_ap, asI_ap, oSl_tup, oSl_lst, oZip_tup, oZip_lst, oAddI_ap, oEqS_ap, oNeS_ap, oNe_nil, oIsi_tup (d := .tup [.bl true, .int 1]) rfl, isT, l2, Bool.not_true, Bool.false_eq_true, forF_cons, forF_nil, forB_ok, L1, ofR_rt, seqR_rt]
theorem part_bl2 : PartOk (.tup [.int 1, .bl true]) := by
  refine ⟨rfl, false, fun M => ?_, fun M => ?_⟩
  · refine runF_pure ?_ rfl
    have e : isF (.tup [.int 1, .bl true]) = false := rfl
    simp -implicitDefEqProofs only [den_is_positive, sSeq_ap, sAsg_ap, sPar_ap, sRet_ap, sIf_ap, sExpr_ap, sNext_ap, bnd_ap, ret_ap, bindR_ok, thenR_ok, dVar_ap, varR_ok, seqR_nx, seqR_rt, asgR_ok, gNm_ap, gCn_ap, gcnR_ok, gNl_ap, gTp_fr, gTp_ap, gLs_ap, dCons_ap, dNil_ap, asB_ap, dOr_ap, dAnd_ap, dNot_ap, dAndV_ap, dOrV_ap, dNotV_ap, dIf_ap, oAdd_int, oSub_int, oLt_int, oLe_int, oGt_int, oGe_int, oNeg_int, oEq_int, oNe_int, oEq_fr, oNe_fr, oEq_bl, oNe_bl, oTup_ap, oLst_ap, oCall_ap, oAbs_ap, oMax_ap, oMin_ap, oToInt_b, oToInt_i, oLen_lst, oLen_scr, oLen_tup, oIx_lst, oIx_scr, oAdd_lst, oIx_tup, oIx_fr0, oIx_fr1, ixR_ok, oItL_ap, oItT_ap, sFor_ap, startD, List.map_cons, List.map_nil, List.length_cons, List.length_nil, List.replicate_succ, List.replicate_zero, List.cons_append, List.nil_append, List.append_nil, List.getElem?_cons_zero, List.getElem?_cons_succ, List.set_cons_zero, List.set_cons_succ, Nat.reduceAdd, Nat.reduceSub, Nat.sub_self, Nat.reduceLeDiff, List.all_cons, List.all_nil, np_fr, np_int, np_bl, np_tup, np_lst, np_str, np_non, Bool.and_self, Bool.and_true, if_true_, if_false_, zero_add', if_tt, if_ff, decide_true, decide_false, Nat.le_refl, oItS_lst, oItS_tup, oTupOf_lst, oTupOf_tup, oLstOf_lst, oLstOf_tup, oRv_lst, oRv_tup, oAdd_tup, dChain_ap, asTru_bl, asTru_tup, asTru_lst, oIsN_ap, oNotN_ap, asI_ap, oSl_tup, oSl_lst, oZip_tup, oZip_lst, oAddI_ap, oEqS_ap, oNeS_ap, oNe_nil, isfr_two (x := .int 1) (y := .bl true) ⟨rfl, rfl⟩, e, Bool.false_eq_true]
  · refine runF_pure ?_ rfl
    have l2 : ∀ ρ M, oLen [.tup [.int 1, .bl true]] ρ M = some (.ok (.int 2), M) := fun _ _ => rfl
    have ih := fun (d : D) h ρ M => oIsi_int (d := d) h (fun _ => none) ρ M
    have ib := fun (d : D) h ρ M => oIsi_bool (d := d) h (fun _ => none) ρ M
    have L0 : ∀ (S : Option D) M, den__law_is_part_L1 [S, some (.int 1)] M = some (.nx [S, some (.int 1)], M) := fun S M => by
      have c : ¬ (1 : Int) < 1 := by decide
      simp -implicitDefEqProofs only [den__law_is_part_L1, sSeq_ap, sAsg_ap, sPar_ap, sRet_ap, sIf_ap, sExpr_ap, sNext_ap, bnd_ap, ret_ap, bindR_ok, thenR_ok, dVar_ap, varR_ok, seqR_nx, seqR_rt, asgR_ok, gNm_ap, gCn_ap, gcnR_ok, gNl_ap, gTp_fr, gTp_ap, gLs_ap, dCons_ap, dNil_ap, asB_ap, dOr_ap, dAnd_ap, dNot_ap, dAndV_ap, dOrV_ap, dNotV_ap, dIf_ap, oAdd_int, oSub_int, oLt_int, oLe_int, oGt_int, oGe_int, oNeg_int, oEq_int, oNe_int, oEq_fr, oNe_fr, oEq_bl, oNe_bl, oTup_ap, oLst_ap, oCall_ap, oAbs_ap, oMax_ap, oMin_ap, oToInt_b, oToInt_i, oLen_lst, oLen_scr, oLen_tup, oIx_lst, oIx_scr, oAdd_lst, oIx_tup, oIx_fr0, oIx_fr1, ixR_ok, oItL_ap, oItT_ap, sFor_ap, startD, List.map_cons, List.map_nil, List.length_cons, List.length_nil, List.replicate_succ, List.replicate_zero, List.cons_append, List.nil_append, List.append_nil, List.getElem?_cons_zero, List.getElem?_cons_succ, List.set_cons_zero, List.set_cons_succ, Nat.reduceAdd, Nat.reduceSub, Nat.sub_self, Nat.reduceLeDiff, List.all_cons, List.all_nil, np_fr, np_int, np_bl, np_tup, np_lst, np_str, np_non, Bool.and_self, Bool.and_true, if_true_, if_false_, zero_add', if_tt, if_ff, decide_true, decide_false, Nat.le_refl, oItS_lst, oItS_tup, oTupOf_lst, oTupOf_tup, oLstOf_lst, oLstOf_tup, oRv_lst, oRv_tup, oAdd_tup, dChain_ap, asTru_bl, asTru_tup, asTru_lst, oIsN_ap, oNotN_ap, asI_ap, oSl_tup, oSl_lst, oZip_tup, oZip_lst, oAddI_ap, oEqS_ap, oNeS_ap, oNe_nil, ih, ib, isI, isBl, c, Bool.not_true, Bool.not_false, Bool.false_eq_true, decide_false]
    have L1 : ∀ (S : Option D) M, den__law_is_part_L1 [S, some (.bl true)] M = some (.rt (.bl false), M) := fun S M => by
      simp -implicitDefEqProofs only [den__law_is_part_L1, sSeq_ap, sAsg_ap, sPar_ap, sRet_ap, sIf_ap, sExpr_ap, sNext_ap, bnd_ap, ret_ap, bindR_ok, thenR_ok, dVar_ap, varR_ok, seqR_nx, seqR_rt, asgR_ok, gNm_ap, gCn_ap, gcnR_ok, gNl_ap, gTp_fr, gTp_ap, gLs_ap, dCons_ap, dNil_ap, asB_ap, dOr_ap, dAnd_ap, dNot_ap, dAndV_ap, dOrV_ap, dNotV_ap, dIf_ap, oAdd_int, oSub_int, oLt_int, oLe_int, oGt_int, oGe_int, oNeg_int, oEq_int, oNe_int, oEq_fr, oNe_fr, oEq_bl, oNe_bl, oTup_ap, oLst_ap, oCall_ap, oAbs_ap, oMax_ap, oMin_ap, oToInt_b, oToInt_i, oLen_lst, oLen_scr, oLen_tup, oIx_lst, oIx_scr, oAdd_lst, oIx_tup, oIx_fr0, oIx_fr1, ixR_ok, oItL_ap, oItT_ap, sFor_ap, startD, List.map_cons, List.map_nil, List.length_cons, List.length_nil, List.replicate_succ, List.replicate_zero, List.cons_append, List.nil_append, List.append_nil, List.getElem?_cons_zero, List.getElem?_cons_succ, List.set_cons_zero, List.set_cons_succ, Nat.reduceAdd, Nat.reduceSub, Nat.sub_self, Nat.reduceLeDiff, List.all_cons, List.all_nil, np_fr, np_int, np_bl, np_tup, np_lst, np_str, np_non, Bool.and_self, Bool.and_true, if_true_, if_false_, zero_add', if_tt, if_ff, decide_true, decide_false, Nat.le_refl, oItS_lst, oItS_tup, oTupOf_lst, oTupOf_tup, oLstOf_lst, oLstOf_tup, oRv_lst, oRv_tup, oAdd_tup, dChain_ap, asTru_bl, asTru_tup, asTru_lst, oIsN_ap, oNotN_ap, asI_ap, oSl_tup, oSl_lst, oZip_tup, oZip_lst, oAddI_ap, oEqS_ap, oNeS_ap, oNe_nil, ih, ib, isI, isBl, Bool.not_true, Bool.not_false, Bool.false_eq_true]
    simp -implicitDefEqProofs only [den__law_is_part, sSeq_ap, sAsg_ap, sPar_ap, sRet_ap, sIf_ap, sExpr_ap, sNext_ap, bnd_ap, ret_ap, bindR_ok, thenR_ok, dVar_ap, varR_ok, seqR_nx, seqR_rt, asgR_ok, gNm_ap, gCn_ap, gcnR_ok, gNl_ap, gTp_fr, gTp_ap, gLs_ap, dCons_ap, dNil_ap, asB_ap, dOr_ap, dAnd_ap, dNot_ap, dAndV_ap, dOrV_ap, dNotV_ap, dIf_ap, oAdd_int, oSub_int, oLt_int, oLe_int, oGt_int, oGe_int, oNeg_int, oEq_int, oNe_int, oEq_fr, oNe_fr, oEq_bl, oNe_bl, oTup_ap, oLst_ap, oCall_ap, oAbs_ap, oMax_ap, oMin_ap, oToInt_b, oToInt_i, oLen_lst, oLen_scr, oLen_tup, oIx_lst, oIx_scr, oAdd_lst, oIx_tup, oIx_fr0, oIx_fr1, ixR_ok, oItL_ap, oItT_ap, sFor_ap, startD, List.map_cons, List.map_nil, List.length_cons, List.length_nil, List.replicate_succ, List.replicate_zero, List.cons_append, List.nil_append, List.append_nil, List.getElem?_cons_zero, List.getElem?_cons_succ, List.set_cons_zero, List.set_cons_succ, Nat.reduceAdd, Nat.reduceSub, Nat.sub_self, Nat.reduceLeDiff, List.all_cons, List.all_nil, np_fr, np_int, np_bl, np_tup, np_lst, np_str, np_non, Bool.and_self, Bool.and_true, if_true_, if_false_, zero_add', if_tt, if_ff, decide_true, decide_false, Nat.le_refl, oItS_lst, oItS_tup, oTupOf_lst, oTupOf_tup, oLstOf_lst, oLstOf_tup, oRv_lst, oRv_tup, oAdd_tup, dChain_ap, asTru_bl, asTru_tup, asTru_lst, oIsN_ap, oNotN_ap, asI_ap, oSl_tup, oSl_lst, oZip_tup, oZip_lst, oAddI_ap, oEqS_ap, oNeS_ap, oNe_nil, oIsi_tup (d := .tup [.int 1, .bl true]) rfl, isT, l2, Bool.not_true, Bool.false_eq_true, forF_cons, forF_nil, forB_ok, L0, L1, ofR_nx, ofR_rt, seqR_rt]
theorem part_fr {q : Rat} (h : Bd 24 q) : PartOk (frQ q) := part_ints _ _ (nat_lt_pow 4000 (den_lt h) (by decide))
/-- both judges say the same -/
structure PanAlike (d : D) : Prop where
  np : d.np = true
  ev : ∃ b, (∀ M, F_is_pan [d] M = some (.ok (.bl b), M)) ∧ ∀ M, F__law_is_pan [d] M = some (.ok (.bl b), M)
theorem pan_two {x y : D} (hx : PartOk x) (hy : PartOk y) : PanAlike (.tup [x, y]) := by
  obtain ⟨_, b, x1, x2⟩ := hx
  obtain ⟨_, b', y1, y2⟩ := hy
  refine ⟨rfl, b && b', fun M => ?_, fun M => ?_⟩
  · refine runF_pure ?_ rfl
    have l2 : ∀ ρ M, oLen [.tup [x, y]] ρ M = some (.ok (.int 2), M) := fun _ _ => rfl
    have tp : ∀ c ρ, gTp 2 c (.tup [x, y]) ρ = c [x, y] ρ := fun _ _ => rfl
    cases b
    · simp -implicitDefEqProofs only [den_is_pan, sSeq_ap, sAsg_ap, sPar_ap, sRet_ap, sIf_ap, sExpr_ap, sNext_ap, bnd_ap, ret_ap, bindR_ok, thenR_ok, dVar_ap, varR_ok, seqR_nx, seqR_rt, asgR_ok, gNm_ap, gCn_ap, gcnR_ok, gNl_ap, gTp_fr, gTp_ap, gLs_ap, dCons_ap, dNil_ap, asB_ap, dOr_ap, dAnd_ap, dNot_ap, dAndV_ap, dOrV_ap, dNotV_ap, dIf_ap, oAdd_int, oSub_int, oLt_int, oLe_int, oGt_int, oGe_int, oNeg_int, oEq_int, oNe_int, oEq_fr, oNe_fr, oEq_bl, oNe_bl, oTup_ap, oLst_ap, oCall_ap, oAbs_ap, oMax_ap, oMin_ap, oToInt_b, oToInt_i, oLen_lst, oLen_scr, oLen_tup, oIx_lst, oIx_scr, oAdd_lst, oIx_tup, oIx_fr0, oIx_fr1, ixR_ok, oItL_ap, oItT_ap, sFor_ap, startD, List.map_cons, List.map_nil, List.length_cons, List.length_nil, List.replicate_succ, List.replicate_zero, List.cons_append, List.nil_append, List.append_nil, List.getElem?_cons_zero, List.getElem?_cons_succ, List.set_cons_zero, List.set_cons_succ, Nat.reduceAdd, Nat.reduceSub, Nat.sub_self, Nat.reduceLeDiff, List.all_cons, List.all_nil, np_fr, np_int, np_bl, np_tup, np_lst, np_str, np_non, Bool.and_self, Bool.and_true, if_true_, if_false_, zero_add', if_tt, if_ff, decide_true, decide_false, Nat.le_refl, oItS_lst, oItS_tup, oTupOf_lst, oTupOf_tup, oLstOf_lst, oLstOf_tup, oRv_lst, oRv_tup, oAdd_tup, dChain_ap, asTru_bl, asTru_tup, asTru_lst, oIsN_ap, oNotN_ap, asI_ap, oSl_tup, oSl_lst, oZip_tup, oZip_lst, oAddI_ap, oEqS_ap, oNeS_ap, oNe_nil, oIsi_tup (d := .tup [x, y]) rfl, isT, l2, tp, Bool.not_true, Bool.false_eq_true, x1, Bool.false_and]
    · simp -implicitDefEqProofs only [den_is_pan, sSeq_ap, sAsg_ap, sPar_ap, sRet_ap, sIf_ap, sExpr_ap, sNext_ap, bnd_ap, ret_ap, bindR_ok, thenR_ok, dVar_ap, varR_ok, seqR_nx, seqR_rt, asgR_ok, gNm_ap, gCn_ap, gcnR_ok, gNl_ap, gTp_fr, gTp_ap, gLs_ap, dCons_ap, dNil_ap, asB_ap, dOr_ap, dAnd_ap, dNot_ap, dAndV_ap, dOrV_ap, dNotV_ap, dIf_ap, oAdd_int, oSub_int, oLt_int, oLe_int, oGt_int, oGe_int, oNeg_int, oEq_int, oNe_int, oEq_fr, oNe_fr, oEq_bl, oNe_bl, oTup_ap, oLst_ap, oCall_ap, oAbs_ap, oMax_ap, oMin_ap, oToInt_b, oToInt_i, oLen_lst, oLen_scr, oLen_tup, oIx_lst, oIx_scr, oAdd_lst, oIx_tup, oIx_fr0, oIx_fr1, ixR_ok, oItL_ap, oItT_ap, sFor_ap, startD, List.map_cons, List.map_nil, List.length_cons, List.length_nil, List.replicate_succ, List.replicate_zero, List.cons_append, List.nil_append, List.append_nil, List.getElem?_cons_zero, List.getElem?_cons_succ, List.set_cons_zero, List.set_cons_succ, Nat.reduceAdd, Nat.reduceSub, Nat.sub_self, Nat.reduceLeDiff, List.all_cons, List.all_nil, np_fr, np_int, np_bl, np_tup, np_lst, np_str, np_non, Bool.and_self, Bool.and_true, if_true_, if_false_, zero_add', if_tt, if_ff, decide_true, decide_false, Nat.le_refl, oItS_lst, oItS_tup, oTupOf_lst, oTupOf_tup, oLstOf_lst, oLstOf_tup, oRv_lst, oRv_tup, oAdd_tup, dChain_ap, asTru_bl, asTru_tup, asTru_lst, oIsN_ap, oNotN_ap, asI_ap, oSl_tup, oSl_lst, oZip_tup, oZip_lst, oAddI_ap, oEqS_ap, oNeS_ap, oNe_nil, oIsi_tup (d := .tup [x, y]) rfl, isT, l2, tp, Bool.not_true, Bool.false_eq_true, x1, y1, Bool.true_and]
  · refine runF_pure ?_ rfl
    have l2 : ∀ ρ M, oLen [.tup [x, y]] ρ M = some (.ok (.int 2), M) := fun _ _ => rfl
    cases b
    · simp -implicitDefEqProofs only [den__law_is_pan, sSeq_ap, sAsg_ap, sPar_ap, sRet_ap, sIf_ap, sExpr_ap, sNext_ap, bnd_ap, ret_ap, bindR_ok, thenR_ok, dVar_ap, varR_ok, seqR_nx, seqR_rt, asgR_ok, gNm_ap, gCn_ap, gcnR_ok, gNl_ap, gTp_fr, gTp_ap, gLs_ap, dCons_ap, dNil_ap, asB_ap, dOr_ap, dAnd_ap, dNot_ap, dAndV_ap, dOrV_ap, dNotV_ap, dIf_ap, oAdd_int, oSub_int, oLt_int, oLe_int, oGt_int, oGe_int, oNeg_int, oEq_int, oNe_int, oEq_fr, oNe_fr, oEq_bl, oNe_bl, oTup_ap, oLst_ap, oCall_ap, oAbs_ap, oMax_ap, oMin_ap, oToInt_b, oToInt_i, oLen_lst, oLen_scr, oLen_tup, oIx_lst, oIx_scr, oAdd_lst, oIx_tup, oIx_fr0, oIx_fr1, ixR_ok, oItL_ap, oItT_ap, sFor_ap, startD, List.map_cons, List.map_nil, List.length_cons, List.length_nil, List.replicate_succ, List.replicate_zero, List.cons_append, List.nil_append, List.append_nil, List.getElem?_cons_zero, List.getElem?_cons_succ, List.set_cons_zero, List.set_cons_succ, Nat.reduceAdd, Nat.reduceSub, Nat.sub_self, Nat.reduceLeDiff, List.all_cons, List.all_nil, np_fr, np_int, np_bl, np_tup, np_lst, np_str, np_non, Bool.and_self, Bool.and_true, if_true_, if_false_, zero_add', if_tt, if_ff, decide_true, decide_false, Nat.le_refl, oItS_lst, oItS_tup, oTupOf_lst, oTupOf_tup, oLstOf_lst, oLstOf_tup, oRv_lst, oRv_tup, oAdd_tup, dChain_ap, asTru_bl, asTru_tup, asTru_lst, oIsN_ap, oNotN_ap, asI_ap, oSl_tup, oSl_lst, oZip_tup, oZip_lst, oAddI_ap, oEqS_ap, oNeS_ap, oNe_nil, oIsi_tup (d := .tup [x, y]) rfl, isT, l2, i2_0, i2_1, Bool.not_true, Bool.false_eq_true, x2, Bool.false_and]
    · simp -implicitDefEqProofs only [den__law_is_pan, sSeq_ap, sAsg_ap, sPar_ap, sRet_ap, sIf_ap, sExpr_ap, sNext_ap, bnd_ap, ret_ap, bindR_ok, thenR_ok, dVar_ap, varR_ok, seqR_nx, seqR_rt, asgR_ok, gNm_ap, gCn_ap, gcnR_ok, gNl_ap, gTp_fr, gTp_ap, gLs_ap, dCons_ap, dNil_ap, asB_ap, dOr_ap, dAnd_ap, dNot_ap, dAndV_ap, dOrV_ap, dNotV_ap, dIf_ap, oAdd_int, oSub_int, oLt_int, oLe_int, oGt_int, oGe_int, oNeg_int, oEq_int, oNe_int, oEq_fr, oNe_fr, oEq_bl, oNe_bl, oTup_ap, oLst_ap, oCall_ap, oAbs_ap, oMax_ap, oMin_ap, oToInt_b, oToInt_i, oLen_lst, oLen_scr, oLen_tup, oIx_lst, oIx_scr, oAdd_lst, oIx_tup, oIx_fr0, oIx_fr1, ixR_ok, oItL_ap, oItT_ap, sFor_ap, startD, List.map_cons, List.map_nil, List.length_cons, List.length_nil, List.replicate_succ, List.replicate_zero, List.cons_append, List.nil_append, List.append_nil, List.getElem?_cons_zero, List.getElem?_cons_succ, List.set_cons_zero, List.set_cons_succ, Nat.reduceAdd, Nat.reduceSub, Nat.sub_self, Nat.reduceLeDiff, List.all_cons, List.all_nil, np_fr, np_int, np_bl, np_tup, np_lst, np_str, np_non, Bool.and_self, Bool.and_true, if_true_, if_false_, zero_add', if_tt, if_ff, decide_true, decide_false, Nat.le_refl, oItS_lst, oItS_tup, oTupOf_lst, oTupOf_tup, oLstOf_lst, oLstOf_tup, oRv_lst, oRv_tup, oAdd_tup, dChain_ap, asTru_bl, asTru_tup, asTru_lst, oIsN_ap, oNotN_ap, asI_ap, oSl_tup, oSl_lst, oZip_tup, oZip_lst, oAddI_ap, oEqS_ap, oNeS_ap, oNe_nil, oIsi_tup (d := .tup [x, y]) rfl, isT, l2, i2_0, i2_1, Bool.not_true, Bool.false_eq_true, x2, y2, Bool.true_and]
theorem pan_not {d : D} (h : d.np = true) (hn : isT d = false) : PanAlike d := by
  refine ⟨h, false, fun M => ?_, fun M => ?_⟩
  · refine runF_pure ?_ rfl
    simp -implicitDefEqProofs only [den_is_pan, sSeq_ap, sAsg_ap, sPar_ap, sRet_ap, sIf_ap, sExpr_ap, sNext_ap, bnd_ap, ret_ap, bindR_ok, thenR_ok, dVar_ap, varR_ok, seqR_nx, seqR_rt, asgR_ok, gNm_ap, gCn_ap, gcnR_ok, gNl_ap, gTp_fr, gTp_ap, gLs_ap, dCons_ap, dNil_ap, asB_ap, dOr_ap, dAnd_ap, dNot_ap, dAndV_ap, dOrV_ap, dNotV_ap, dIf_ap, oAdd_int, oSub_int, oLt_int, oLe_int, oGt_int, oGe_int, oNeg_int, oEq_int, oNe_int, oEq_fr, oNe_fr, oEq_bl, oNe_bl, oTup_ap, oLst_ap, oCall_ap, oAbs_ap, oMax_ap, oMin_ap, oToInt_b, oToInt_i, oLen_lst, oLen_scr, oLen_tup, oIx_lst, oIx_scr, oAdd_lst, oIx_tup, oIx_fr0, oIx_fr1, ixR_ok, oItL_ap, oItT_ap, sFor_ap, startD, List.map_cons, List.map_nil, List.length_cons, List.length_nil, List.replicate_succ, List.replicate_zero, List.cons_append, List.nil_append, List.append_nil, List.getElem?_cons_zero, List.getElem?_cons_succ, List.set_cons_zero, List.set_cons_succ, Nat.reduceAdd, Nat.reduceSub, Nat.sub_self, Nat.reduceLeDiff, List.all_cons, List.all_nil, np_fr, np_int, np_bl, np_tup, np_lst, np_str, np_non, Bool.and_self, Bool.and_true, if_true_, if_false_, zero_add', if_tt, if_ff, decide_true, decide_false, Nat.le_refl, oItS_lst, oItS_tup, oTupOf_lst, oTupOf_tup, oLstOf_lst, oLstOf_tup, oRv_lst, oRv_tup, oAdd_tup, dChain_ap, asTru_bl, asTru_tup, asTru_lst, oIsN_ap, oNotN_ap, asI_ap, oSl_tup, oSl_lst, oZip_tup, oZip_lst, oAddI_ap, oEqS_ap, oNeS_ap, oNe_nil, oIsi_tup h, hn, Bool.not_false]
  · refine runF_pure ?_ rfl
    simp -implicitDefEqProofs only [den__law_is_pan, sSeq_ap, sAsg_ap, sPar_ap, sRet_ap, sIf_ap, sExpr_ap, sNext_ap, bnd_ap, ret_ap, bindR_ok, thenR_ok, dVar_ap, varR_ok, seqR_nx, seqR_rt, asgR_ok, gNm_ap, gCn_ap, gcnR_ok, gNl_ap, gTp_fr, gTp_ap, gLs_ap, dCons_ap, dNil_ap, asB_ap, dOr_ap, dAnd_ap, dNot_ap, dAndV_ap, dOrV_ap, dNotV_ap, dIf_ap, oAdd_int, oSub_int, oLt_int, oLe_int, oGt_int, oGe_int, oNeg_int, oEq_int, oNe_int, oEq_fr, oNe_fr, oEq_bl, oNe_bl, oTup_ap, oLst_ap, oCall_ap, oAbs_ap, oMax_ap, oMin_ap, oToInt_b, oToInt_i, oLen_lst, oLen_scr, oLen_tup, oIx_lst, oIx_scr, oAdd_lst, oIx_tup, oIx_fr0, oIx_fr1, ixR_ok, oItL_ap, oItT_ap, sFor_ap, startD, List.map_cons, List.map_nil, List.length_cons, List.length_nil, List.replicate_succ, List.replicate_zero, List.cons_append, List.nil_append, List.append_nil, List.getElem?_cons_zero, List.getElem?_cons_succ, List.set_cons_zero, List.set_cons_succ, Nat.reduceAdd, Nat.reduceSub, Nat.sub_self, Nat.reduceLeDiff, List.all_cons, List.all_nil, np_fr, np_int, np_bl, np_tup, np_lst, np_str, np_non, Bool.and_self, Bool.and_true, if_true_, if_false_, zero_add', if_tt, if_ff, decide_true, decide_false, Nat.le_refl, oItS_lst, oItS_tup, oTupOf_lst, oTupOf_tup, oLstOf_lst, oLstOf_tup, oRv_lst, oRv_tup, oAdd_tup, dChain_ap, asTru_bl, asTru_tup, asTru_lst, oIsN_ap, oNotN_ap, asI_ap, oSl_tup, oSl_lst, oZip_tup, oZip_lst, oAddI_ap, oEqS_ap, oNeS_ap, oNe_nil, oIsi_tup h, hn, Bool.not_false]
theorem pan_len {ds : List D} (hl : ds.length ≠ 2) : PanAlike (.tup ds) := by
  have l2 : ¬ ((ds.length : Int) = 2) := by omega
  refine ⟨rfl, false, fun M => ?_, fun M => ?_⟩
  · refine runF_pure ?_ rfl
    simp -implicitDefEqProofs only [den_is_pan, sSeq_ap, sAsg_ap, sPar_ap, sRet_ap, sIf_ap, sExpr_ap, sNext_ap, bnd_ap, ret_ap, bindR_ok, thenR_ok, dVar_ap, varR_ok, seqR_nx, seqR_rt, asgR_ok, gNm_ap, gCn_ap, gcnR_ok, gNl_ap, gTp_fr, gTp_ap, gLs_ap, dCons_ap, dNil_ap, asB_ap, dOr_ap, dAnd_ap, dNot_ap, dAndV_ap, dOrV_ap, dNotV_ap, dIf_ap, oAdd_int, oSub_int, oLt_int, oLe_int, oGt_int, oGe_int, oNeg_int, oEq_int, oNe_int, oEq_fr, oNe_fr, oEq_bl, oNe_bl, oTup_ap, oLst_ap, oCall_ap, oAbs_ap, oMax_ap, oMin_ap, oToInt_b, oToInt_i, oLen_lst, oLen_scr, oLen_tup, oIx_lst, oIx_scr, oAdd_lst, oIx_tup, oIx_fr0, oIx_fr1, ixR_ok, oItL_ap, oItT_ap, sFor_ap, startD, List.map_cons, List.map_nil, List.length_cons, List.length_nil, List.replicate_succ, List.replicate_zero, List.cons_append, List.nil_append, List.append_nil, List.getElem?_cons_zero, List.getElem?_cons_succ, List.set_cons_zero, List.set_cons_succ, Nat.reduceAdd, Nat.reduceSub, Nat.sub_self, Nat.reduceLeDiff, List.all_cons, List.all_nil, np_fr, np_int, np_bl, np_tup, np_lst, np_str, np_non, Bool.and_self, Bool.and_true, if_true_, if_false_, zero_add', if_tt, if_ff, decide_true, decide_false, Nat.le_refl, oItS_lst, oItS_tup, oTupOf_lst, oTupOf_tup, oLstOf_lst, oLstOf_tup, oRv_lst, oRv_tup, oAdd_tup, dChain_ap, asTru_bl, asTru_tup, asTru_lst, oIsN_ap, oNotN_ap, asI_ap, oSl_tup, oSl_lst, oZip_tup, oZip_lst, oAddI_ap, oEqS_ap, oNeS_ap, oNe_nil, oIsi_tup (d := .tup ds) rfl, isT, l2, decide_false, Bool.not_true, Bool.not_false, Bool.false_eq_true]
  · refine runF_pure ?_ rfl
    simp -implicitDefEqProofs only [den__law_is_pan, sSeq_ap, sAsg_ap, sPar_ap, sRet_ap, sIf_ap, sExpr_ap, sNext_ap, bnd_ap, ret_ap, bindR_ok, thenR_ok, dVar_ap, varR_ok, seqR_nx, seqR_rt, asgR_ok, gNm_ap, gCn_ap, gcnR_ok, gNl_ap, gTp_fr, gTp_ap, gLs_ap, dCons_ap, dNil_ap, asB_ap, dOr_ap, dAnd_ap, dNot_ap, dAndV_ap, dOrV_ap, dNotV_ap, dIf_ap, oAdd_int, oSub_int, oLt_int, oLe_int, oGt_int, oGe_int, oNeg_int, oEq_int, oNe_int, oEq_fr, oNe_fr, oEq_bl, oNe_bl, oTup_ap, oLst_ap, oCall_ap, oAbs_ap, oMax_ap, oMin_ap, oToInt_b, oToInt_i, oLen_lst, oLen_scr, oLen_tup, oIx_lst, oIx_scr, oAdd_lst, oIx_tup, oIx_fr0, oIx_fr1, ixR_ok, oItL_ap, oItT_ap, sFor_ap, startD, List.map_cons, List.map_nil, List.length_cons, List.length_nil, List.replicate_succ, List.replicate_zero, List.cons_append, List.nil_append, List.append_nil, List.getElem?_cons_zero, List.getElem?_cons_succ, List.set_cons_zero, List.set_cons_succ, Nat.reduceAdd, Nat.reduceSub, Nat.sub_self, Nat.reduceLeDiff, List.all_cons, List.all_nil, np_fr, np_int, np_bl, np_tup, np_lst, np_str, np_non, Bool.and_self, Bool.and_true, if_true_, if_false_, zero_add', if_tt, if_ff, decide_true, decide_false, Nat.le_refl, oItS_lst, oItS_tup, oTupOf_lst, oTupOf_tup, oLstOf_lst, oLstOf_tup, oRv_lst, oRv_tup, oAdd_tup, dChain_ap, asTru_bl, asTru_tup, asTru_lst, oIsN_ap, oNotN_ap, asI_ap, oSl_tup, oSl_lst, oZip_tup, oZip_lst, oAddI_ap, oEqS_ap, oNeS_ap, oNe_nil, oIsi_tup (d := .tup ds) rfl, isT, l2, decide_false, Bool.not_true, Bool.not_false, Bool.false_eq_true]
/-! k44 -/
section
variable {c n m : Nat} {M : Mem}
theorem drew_cut {c' : Nat} {M' : Mem} (hr : HasUrn c n m M) (l : M.length ≤ M'.length) (oth : ∀ j, j < M.length → j ≠ n → j ≠ m → M'[j]? = M[j]?) (h : HasUrn c' n m M') : Drew c' n m M (M'.take M.length) := by
  have nl : n < M.length ∧ m < M.length := by
    obtain ⟨cs, a, k, f, e1, e2, r⟩ := hr
    exact ⟨get_lt e1, get_lt e2⟩
  refine ⟨by rw [List.length_take]; omega, fun j h1 h2 => ?_, ?_⟩
  · by_cases hj : j < M.length
    · rw [List.getElem?_take_of_lt hj, oth j hj h1 h2]
    · rw [List.getElem?_eq_none (by rw [List.length_take]; omega), List.getElem?_eq_none (by omega)]
  · obtain ⟨cs, a, k, f, e1, e2, r⟩ := h
    exact ⟨cs, a, k, f, by rw [List.getElem?_take_of_lt nl.1]; exact e1, by rw [List.getElem?_take_of_lt nl.2]; exact e2, r⟩
theorem HasUrn.app {x : Option (List D)} (h : HasUrn c n m M) : HasUrn c n m (M ++ [x]) := by
  obtain ⟨cs, a, k, f, e1, e2, r⟩ := h
  exact ⟨cs, a, k, f, by rw [List.getElem?_append_left (get_lt e1)]; exact e1, by rw [List.getElem?_append_left (get_lt e2)]; exact e2, r⟩
theorem HasUrn.set {x : Option (List D)} {j : Nat} (h : HasUrn c n m M) (h1 : n ≠ j) (h2 : m ≠ j) : HasUrn c n m (M.set j x) := by
  obtain ⟨cs, a, k, f, e1, e2, r⟩ := h
  exact ⟨cs, a, k, f, by rw [List.getElem?_set_ne (Ne.symm h1)]; exact e1, by rw [List.getElem?_set_ne (Ne.symm h2)]; exact e2, r⟩
theorem HasUrn.lts (h : HasUrn c n m M) : n < M.length ∧ m < M.length := by
  obtain ⟨cs, a, k, f, e1, e2, r⟩ := h
  exact ⟨get_lt e1, get_lt e2⟩
theorem dI_pos {t b : Int} (hb : 0 < b) (ht : 0 < t) : 0 < Rat.divInt t b := by
  refine Rat.lt_of_le_of_ne (dI_nonneg hb (by omega)) fun e => ?_
  have h := divInt_cross t b (by omega)
  rw [← e] at h
  have e0 : (0 : Rat).num = 0 := rfl
  have e1 : (0 : Rat).den = 1 := rfl
  rw [e0, e1] at h
  omega
theorem num_pos_iff {b : Rat} : 0 < b.num ↔ 0 < b := by
  constructor
  · intro z
    rw [Rat.lt_iff]
    show 0 * (b.den : Int) < b.num * 1
    omega
  · intro z
    rw [Rat.lt_iff] at z
    have : (0 : Int) * (b.den : Int) < b.num * 1 := z
    omega
theorem above_eq (hr : HasUrn c n m M) (hc : c + 4 < 2 ^ 30) : ∃ q M', F__law_above [.npt n] M = some (.ok (frQ q), M') ∧ 0 < q ∧ Bd 24 q ∧ Drew (c + 4) n m M M' := by
  obtain ⟨q, M1, e1, q0, qb, t1⟩ := amount_eq hr hc
  by_cases h : 0 < q.num
  · refine ⟨q, M1, ?_, num_pos_iff.mp h, qb.mono (by decide), t1⟩
    have := runF_rt (N := ["_law_urn_here", "_law_found"]) (fb := den__law_above) (ds := [.npt n]) (M := M) (M2 := M1) (d := frQ q) (by
      simp -implicitDefEqProofs only [den__law_above, sSeq_ap, sAsg_ap, sPar_ap, sRet_ap, sIf_ap, sExpr_ap, sNext_ap, bnd_ap, ret_ap, bindR_ok, thenR_ok, dVar_ap, varR_ok, seqR_nx, seqR_rt, asgR_ok, gNm_ap, gCn_ap, gcnR_ok, gNl_ap, gTp_fr, gTp_ap, gLs_ap, dCons_ap, dNil_ap, asB_ap, dOr_ap, dAnd_ap, dNot_ap, dAndV_ap, dOrV_ap, dNotV_ap, dIf_ap, oAdd_int, oSub_int, oLt_int, oLe_int, oGt_int, oGe_int, oNeg_int, oEq_int, oNe_int, oEq_fr, oNe_fr, oEq_bl, oNe_bl, oTup_ap, oLst_ap, oCall_ap, oAbs_ap, oMax_ap, oMin_ap, oToInt_b, oToInt_i, oLen_lst, oLen_scr, oLen_tup, oIx_lst, oIx_scr, oAdd_lst, oIx_tup, oIx_fr0, oIx_fr1, ixR_ok, oItL_ap, oItT_ap, sFor_ap, startD, List.map_cons, List.map_nil, List.length_cons, List.length_nil, List.replicate_succ, List.replicate_zero, List.cons_append, List.nil_append, List.append_nil, List.getElem?_cons_zero, List.getElem?_cons_succ, List.set_cons_zero, List.set_cons_succ, Nat.reduceAdd, Nat.reduceSub, Nat.sub_self, Nat.reduceLeDiff, List.all_cons, List.all_nil, np_fr, np_int, np_bl, np_tup, np_lst, np_str, np_non, Bool.and_self, Bool.and_true, if_true_, if_false_, zero_add', if_tt, if_ff, decide_true, decide_false, Nat.le_refl, oItS_lst, oItS_tup, oTupOf_lst, oTupOf_tup, oLstOf_lst, oLstOf_tup, oRv_lst, oRv_tup, oAdd_tup, dChain_ap, asTru_bl, asTru_tup, asTru_lst, oIsN_ap, oNotN_ap, asI_ap, oSl_tup, oSl_lst, oZip_tup, oZip_lst, oAddI_ap, oEqS_ap, oNeS_ap, oNe_nil, e1, h]) (by rw [t1.len]; exact Nat.le_refl _) rfl
    rw [F__law_above, this, List.take_of_length_le (by rw [t1.len]; exact Nat.le_refl _)]
  · refine ⟨⟨1, 997, by decide, by decide⟩, M1, ?_, by decide +kernel, ⟨by decide, by decide⟩, t1⟩
    have e : D.tup [.int 1, .int 997] = frQ ⟨1, 997, by decide, by decide⟩ := rfl
    have := runF_rt (N := ["_law_urn_here", "_law_found"]) (fb := den__law_above) (ds := [.npt n]) (M := M) (M2 := M1) (d := frQ ⟨1, 997, by decide, by decide⟩) (by
      simp -implicitDefEqProofs only [den__law_above, sSeq_ap, sAsg_ap, sPar_ap, sRet_ap, sIf_ap, sExpr_ap, sNext_ap, bnd_ap, ret_ap, bindR_ok, thenR_ok, dVar_ap, varR_ok, seqR_nx, seqR_rt, asgR_ok, gNm_ap, gCn_ap, gcnR_ok, gNl_ap, gTp_fr, gTp_ap, gLs_ap, dCons_ap, dNil_ap, asB_ap, dOr_ap, dAnd_ap, dNot_ap, dAndV_ap, dOrV_ap, dNotV_ap, dIf_ap, oAdd_int, oSub_int, oLt_int, oLe_int, oGt_int, oGe_int, oNeg_int, oEq_int, oNe_int, oEq_fr, oNe_fr, oEq_bl, oNe_bl, oTup_ap, oLst_ap, oCall_ap, oAbs_ap, oMax_ap, oMin_ap, oToInt_b, oToInt_i, oLen_lst, oLen_scr, oLen_tup, oIx_lst, oIx_scr, oAdd_lst, oIx_tup, oIx_fr0, oIx_fr1, ixR_ok, oItL_ap, oItT_ap, sFor_ap, startD, List.map_cons, List.map_nil, List.length_cons, List.length_nil, List.replicate_succ, List.replicate_zero, List.cons_append, List.nil_append, List.append_nil, List.getElem?_cons_zero, List.getElem?_cons_succ, List.set_cons_zero, List.set_cons_succ, Nat.reduceAdd, Nat.reduceSub, Nat.sub_self, Nat.reduceLeDiff, List.all_cons, List.all_nil, np_fr, np_int, np_bl, np_tup, np_lst, np_str, np_non, Bool.and_self, Bool.and_true, if_true_, if_false_, zero_add', if_tt, if_ff, decide_true, decide_false, Nat.le_refl, oItS_lst, oItS_tup, oTupOf_lst, oTupOf_tup, oLstOf_lst, oLstOf_tup, oRv_lst, oRv_tup, oAdd_tup, dChain_ap, asTru_bl, asTru_tup, asTru_lst, oIsN_ap, oNotN_ap, asI_ap, oSl_tup, oSl_lst, oZip_tup, oZip_lst, oAddI_ap, oEqS_ap, oNeS_ap, oNe_nil, e1, h, decide_false, Bool.false_eq_true, e]) (by rw [t1.len]; exact Nat.le_refl _) rfl
    rw [F__law_above, this, List.take_of_length_le (by rw [t1.len]; exact Nat.le_refl _)]
theorem pan_eq (hr : HasUrn c n m M) (hc : c + 4 < 2 ^ 30) : ∃ p M', F__law_pan [.npt n] M = some (.ok (lyQ p), M') ∧ PanOk p ∧ Drew (c + 4) n m M M' := by
  obtain ⟨x, M1, e1, x0, x1, t1⟩ := udraw_eq hr (by omega) (w := 5) (by decide) (by decide)
  obtain ⟨y, M2, e2, y0, y1, t2⟩ := udraw_eq t1.has (by omega) (w := 2) (by decide) (by decide)
  have m1 := made_eq (t := 1 + x) (b := 1 + y) (by omega) (small_lt _ (by omega) (by omega)) M2
  obtain ⟨z, M3, e3, z0, z1, t3⟩ := udraw_eq t2.has (by omega) (w := 6) (by decide) (by decide)
  obtain ⟨w, M4, e4, w0, w1, t4⟩ := udraw_eq t3.has (by omega) (w := 2) (by decide) (by decide)
  have m2 := made_eq (t := 1 + z) (b := 1 + w) (by omega) (small_lt _ (by omega) (by omega)) M4
  have t := t1.trans (t2.trans (t3.trans t4))
  refine ⟨(Rat.divInt (1 + x) (1 + y), Rat.divInt (1 + z) (1 + w)), M4, ?_, ⟨bd_divInt (by omega) (by omega) (by omega), bd_divInt (by omega) (by omega) (by omega), dI_pos (by omega) (by omega), dI_pos (by omega) (by omega)⟩, t.mono (by omega)⟩
  have := runF_rt (N := ["_law_urn_here"]) (fb := den__law_pan) (ds := [.npt n]) (M := M) (M2 := M4) (d := lyQ (Rat.divInt (1 + x) (1 + y), Rat.divInt (1 + z) (1 + w))) (by
    simp -implicitDefEqProofs only [den__law_pan, sSeq_ap, sAsg_ap, sPar_ap, sRet_ap, sIf_ap, sExpr_ap, sNext_ap, bnd_ap, ret_ap, bindR_ok, thenR_ok, dVar_ap, varR_ok, seqR_nx, seqR_rt, asgR_ok, gNm_ap, gCn_ap, gcnR_ok, gNl_ap, gTp_fr, gTp_ap, gLs_ap, dCons_ap, dNil_ap, asB_ap, dOr_ap, dAnd_ap, dNot_ap, dAndV_ap, dOrV_ap, dNotV_ap, dIf_ap, oAdd_int, oSub_int, oLt_int, oLe_int, oGt_int, oGe_int, oNeg_int, oEq_int, oNe_int, oEq_fr, oNe_fr, oEq_bl, oNe_bl, oTup_ap, oLst_ap, oCall_ap, oAbs_ap, oMax_ap, oMin_ap, oToInt_b, oToInt_i, oLen_lst, oLen_scr, oLen_tup, oIx_lst, oIx_scr, oAdd_lst, oIx_tup, oIx_fr0, oIx_fr1, ixR_ok, oItL_ap, oItT_ap, sFor_ap, startD, List.map_cons, List.map_nil, List.length_cons, List.length_nil, List.replicate_succ, List.replicate_zero, List.cons_append, List.nil_append, List.append_nil, List.getElem?_cons_zero, List.getElem?_cons_succ, List.set_cons_zero, List.set_cons_succ, Nat.reduceAdd, Nat.reduceSub, Nat.sub_self, Nat.reduceLeDiff, List.all_cons, List.all_nil, np_fr, np_int, np_bl, np_tup, np_lst, np_str, np_non, Bool.and_self, Bool.and_true, if_true_, if_false_, zero_add', if_tt, if_ff, decide_true, decide_false, Nat.le_refl, oItS_lst, oItS_tup, oTupOf_lst, oTupOf_tup, oLstOf_lst, oLstOf_tup, oRv_lst, oRv_tup, oAdd_tup, dChain_ap, asTru_bl, asTru_tup, asTru_lst, oIsN_ap, oNotN_ap, asI_ap, oSl_tup, oSl_lst, oZip_tup, oZip_lst, oAddI_ap, oEqS_ap, oNeS_ap, oNe_nil, e1, e2, m1, e3, e4, m2]
    rfl) (by rw [t.len]; exact Nat.le_refl _) rfl
  rw [F__law_pan, this, List.take_of_length_le (by rw [t.len]; exact Nat.le_refl _)]
theorem weather_turn {u : D} {r : Nat} {T : List (Rat × Rat)} (hr : HasUrn c n m M) (hc : c + 20 < 2 ^ 30) (hn : n ≠ r) (hm : m ≠ r) (hM : M[r]? = some (some (T.map lyQ))) (hT : T.length ≤ 100) (k : D) (o4 o5 : Option D) : ∃ (x : Rat × Rat) (M' : Mem), SpOk x ∧ den__law_weather_L1 [some (.npt n), some u, some (.ptr r), some k, o4, o5] M = some (.nx [some (.npt n), some u, some (.ptr r), some k, some (frQ x.1), some (frQ x.2)], M') ∧ HasUrn (c + 20) n m M' ∧ M'.length = M.length ∧ (∀ j, j ≠ n → j ≠ m → j ≠ r → M'[j]? = M[j]?) ∧ M'[r]? = some (some ((T ++ [x]).map lyQ)) := by
  obtain ⟨a, M1, e1, a0, a1, t1⟩ := udraw_eq hr (by omega) (w := 4) (by decide) (by decide)
  obtain ⟨b, M2, e2, b0, b1, t2⟩ := udraw_eq t1.has (by omega) (w := 5) (by decide) (by decide)
  obtain ⟨bb, e3, bb0, bb1⟩ := atI_lit (l := [.int 1, .int 1, .int 2, .int 3, .int 4]) (P := fun v => 1 ≤ v ∧ v ≤ 4) b0 b1 fun d hd => by
    simp -implicitDefEqProofs only [List.mem_cons, List.not_mem_nil, or_false] at hd
    rcases hd with h | h | h | h | h <;> subst h <;> exact ⟨_, rfl, by omega, by omega⟩
  have m1 := made_eq (t := 1 + a) (b := bb) (by omega) (small_lt _ (by omega) (by omega)) M2
  obtain ⟨f, M3, e4, f0, f1, t3⟩ := udraw_eq t2.has (by omega) (w := 7) (by decide) (by decide)
  obtain ⟨g, M4, e5, g0, g1, t4⟩ := udraw_eq t3.has (by omega) (w := 4) (by decide) (by decide)
  obtain ⟨gg, e6, gg0, gg1⟩ := atI_lit (l := [.int 1, .int 1, .int 2, .int 3]) (P := fun v => 1 ≤ v ∧ v ≤ 3) g0 g1 fun d hd => by
    simp -implicitDefEqProofs only [List.mem_cons, List.not_mem_nil, or_false] at hd
    rcases hd with h | h | h | h <;> subst h <;> exact ⟨_, rfl, by omega, by omega⟩
  have m2 := made_eq (t := f - 3) (b := gg) (by omega) (small_lt _ (by omega) (by omega)) M4
  obtain ⟨v, M5, e7, v0, v1, t5⟩ := udraw_eq t4.has (by omega) (w := 12) (by decide) (by decide)
  have tt := t1.trans (t2.trans (t3.trans (t4.trans t5)))
  have xb : Bd 24 (Rat.divInt (1 + a) bb) := bd_divInt (by omega) (by omega) (by omega)
  have nb : Bd 24 (Rat.divInt (f - 3) gg) := bd_divInt (by omega) (by omega) (by omega)
  have fin : ∀ (net : Rat) (M6 : Mem) (c' : Nat), Drew c' n m M M6 → c' ≤ c + 20 → ∃ M' : Mem, (sExpr (bnd (dVar 2) fun d => bnd (okPtr d) fun d => bnd (bnd (dCons (dVar 4) (dCons (dVar 5) dNil)) oTup) fun y => oApp d y)) [some (.npt n), some u, some (.ptr r), some k, some (frQ (Rat.divInt (1 + a) bb)), some (frQ net)] M6 = some (.nx [some (.npt n), some u, some (.ptr r), some k, some (frQ (Rat.divInt (1 + a) bb)), some (frQ net)], M') ∧ HasUrn (c + 20) n m M' ∧ M'.length = M.length ∧ (∀ j, j ≠ n → j ≠ m → j ≠ r → M'[j]? = M[j]?) ∧ M'[r]? = some (some ((T ++ [(Rat.divInt (1 + a) bb, net)]).map lyQ)) := by
    intro net M6 c' t6 hc'
    have h6 : M6[r]? = some (some (T.map lyQ)) := by rw [t6.oth r (Ne.symm hn) (Ne.symm hm)]; exact hM
    have ap := fun ρ => oApp_ap (d := .tup [frQ (Rat.divInt (1 + a) bb), frQ net]) ρ h6 rfl (by rw [List.length_map]; omega)
    have ok := fun ρ => okPtr_ap ρ h6
    refine ⟨M6.set r (some (T.map lyQ ++ [.tup [frQ (Rat.divInt (1 + a) bb), frQ net]])), ?_, (t6.has.mono hc').set hn hm, by rw [List.length_set, t6.len], fun j h1 h2 h3 => by rw [List.getElem?_set_ne (Ne.symm h3), t6.oth j h1 h2], ?_⟩
    · simp -implicitDefEqProofs only [sSeq_ap, sAsg_ap, sPar_ap, sRet_ap, sIf_ap, sExpr_ap, sNext_ap, bnd_ap, ret_ap, bindR_ok, thenR_ok, dVar_ap, varR_ok, seqR_nx, seqR_rt, asgR_ok, gNm_ap, gCn_ap, gcnR_ok, gNl_ap, gTp_fr, gTp_ap, gLs_ap, dCons_ap, dNil_ap, asB_ap, dOr_ap, dAnd_ap, dNot_ap, dAndV_ap, dOrV_ap, dNotV_ap, dIf_ap, oAdd_int, oSub_int, oLt_int, oLe_int, oGt_int, oGe_int, oNeg_int, oEq_int, oNe_int, oEq_fr, oNe_fr, oEq_bl, oNe_bl, oTup_ap, oLst_ap, oCall_ap, oAbs_ap, oMax_ap, oMin_ap, oToInt_b, oToInt_i, oLen_lst, oLen_scr, oLen_tup, oIx_lst, oIx_scr, oAdd_lst, oIx_tup, oIx_fr0, oIx_fr1, ixR_ok, oItL_ap, oItT_ap, sFor_ap, startD, List.map_cons, List.map_nil, List.length_cons, List.length_nil, List.replicate_succ, List.replicate_zero, List.cons_append, List.nil_append, List.append_nil, List.getElem?_cons_zero, List.getElem?_cons_succ, List.set_cons_zero, List.set_cons_succ, Nat.reduceAdd, Nat.reduceSub, Nat.sub_self, Nat.reduceLeDiff, List.all_cons, List.all_nil, np_fr, np_int, np_bl, np_tup, np_lst, np_str, np_non, Bool.and_self, Bool.and_true, if_true_, if_false_, zero_add', if_tt, if_ff, decide_true, decide_false, Nat.le_refl, oItS_lst, oItS_tup, oTupOf_lst, oTupOf_tup, oLstOf_lst, oLstOf_tup, oRv_lst, oRv_tup, oAdd_tup, dChain_ap, asTru_bl, asTru_tup, asTru_lst, oIsN_ap, oNotN_ap, asI_ap, oSl_tup, oSl_lst, oZip_tup, oZip_lst, oAddI_ap, oEqS_ap, oNeS_ap, oNe_nil, ok, ap]
    · rw [List.getElem?_set_self (get_lt h6), List.map_append]
      rfl
  by_cases cv : v = 0
  · obtain ⟨q, M6, e8, qb, t6⟩ := any_eq t5.has (by omega)
    obtain ⟨M7, e9, g1, g2, g3, g4⟩ := fin q M6 _ (tt.trans t6) (by omega)
    refine ⟨(Rat.divInt (1 + a) bb, q), M7, ⟨xb, qb.mono (by decide)⟩, ?_, g1, g2, g3, g4⟩
    subst cv
    rw [den__law_weather_L1]
    simp -implicitDefEqProofs only [sSeq_ap, sAsg_ap, sPar_ap, sRet_ap, sIf_ap, sExpr_ap, sNext_ap, bnd_ap, ret_ap, bindR_ok, thenR_ok, dVar_ap, varR_ok, seqR_nx, seqR_rt, asgR_ok, gNm_ap, gCn_ap, gcnR_ok, gNl_ap, gTp_fr, gTp_ap, gLs_ap, dCons_ap, dNil_ap, asB_ap, dOr_ap, dAnd_ap, dNot_ap, dAndV_ap, dOrV_ap, dNotV_ap, dIf_ap, oAdd_int, oSub_int, oLt_int, oLe_int, oGt_int, oGe_int, oNeg_int, oEq_int, oNe_int, oEq_fr, oNe_fr, oEq_bl, oNe_bl, oTup_ap, oLst_ap, oCall_ap, oAbs_ap, oMax_ap, oMin_ap, oToInt_b, oToInt_i, oLen_lst, oLen_scr, oLen_tup, oIx_lst, oIx_scr, oAdd_lst, oIx_tup, oIx_fr0, oIx_fr1, ixR_ok, oItL_ap, oItT_ap, sFor_ap, startD, List.map_cons, List.map_nil, List.length_cons, List.length_nil, List.replicate_succ, List.replicate_zero, List.cons_append, List.nil_append, List.append_nil, List.getElem?_cons_zero, List.getElem?_cons_succ, List.set_cons_zero, List.set_cons_succ, Nat.reduceAdd, Nat.reduceSub, Nat.sub_self, Nat.reduceLeDiff, List.all_cons, List.all_nil, np_fr, np_int, np_bl, np_tup, np_lst, np_str, np_non, Bool.and_self, Bool.and_true, if_true_, if_false_, zero_add', if_tt, if_ff, decide_true, decide_false, Nat.le_refl, oItS_lst, oItS_tup, oTupOf_lst, oTupOf_tup, oLstOf_lst, oLstOf_tup, oRv_lst, oRv_tup, oAdd_tup, dChain_ap, asTru_bl, asTru_tup, asTru_lst, oIsN_ap, oNotN_ap, asI_ap, oSl_tup, oSl_lst, oZip_tup, oZip_lst, oAddI_ap, oEqS_ap, oNeS_ap, oNe_nil] at e9
    simp -implicitDefEqProofs only [sSeq_ap, sAsg_ap, sPar_ap, sRet_ap, sIf_ap, sExpr_ap, sNext_ap, bnd_ap, ret_ap, bindR_ok, thenR_ok, dVar_ap, varR_ok, seqR_nx, seqR_rt, asgR_ok, gNm_ap, gCn_ap, gcnR_ok, gNl_ap, gTp_fr, gTp_ap, gLs_ap, dCons_ap, dNil_ap, asB_ap, dOr_ap, dAnd_ap, dNot_ap, dAndV_ap, dOrV_ap, dNotV_ap, dIf_ap, oAdd_int, oSub_int, oLt_int, oLe_int, oGt_int, oGe_int, oNeg_int, oEq_int, oNe_int, oEq_fr, oNe_fr, oEq_bl, oNe_bl, oTup_ap, oLst_ap, oCall_ap, oAbs_ap, oMax_ap, oMin_ap, oToInt_b, oToInt_i, oLen_lst, oLen_scr, oLen_tup, oIx_lst, oIx_scr, oAdd_lst, oIx_tup, oIx_fr0, oIx_fr1, ixR_ok, oItL_ap, oItT_ap, sFor_ap, startD, List.map_cons, List.map_nil, List.length_cons, List.length_nil, List.replicate_succ, List.replicate_zero, List.cons_append, List.nil_append, List.append_nil, List.getElem?_cons_zero, List.getElem?_cons_succ, List.set_cons_zero, List.set_cons_succ, Nat.reduceAdd, Nat.reduceSub, Nat.sub_self, Nat.reduceLeDiff, List.all_cons, List.all_nil, np_fr, np_int, np_bl, np_tup, np_lst, np_str, np_non, Bool.and_self, Bool.and_true, if_true_, if_false_, zero_add', if_tt, if_ff, decide_true, decide_false, Nat.le_refl, oItS_lst, oItS_tup, oTupOf_lst, oTupOf_tup, oLstOf_lst, oLstOf_tup, oRv_lst, oRv_tup, oAdd_tup, dChain_ap, asTru_bl, asTru_tup, asTru_lst, oIsN_ap, oNotN_ap, asI_ap, oSl_tup, oSl_lst, oZip_tup, oZip_lst, oAddI_ap, oEqS_ap, oNeS_ap, oNe_nil, e1, e2, e3, m1, e4, e5, e6, m2, e7, e8]
    exact e9
  · obtain ⟨M7, e9, g1, g2, g3, g4⟩ := fin (Rat.divInt (f - 3) gg) M5 _ tt (by omega)
    refine ⟨(Rat.divInt (1 + a) bb, Rat.divInt (f - 3) gg), M7, ⟨xb, nb⟩, ?_, g1, g2, g3, g4⟩
    rw [den__law_weather_L1]
    simp -implicitDefEqProofs only [sSeq_ap, sAsg_ap, sPar_ap, sRet_ap, sIf_ap, sExpr_ap, sNext_ap, bnd_ap, ret_ap, bindR_ok, thenR_ok, dVar_ap, varR_ok, seqR_nx, seqR_rt, asgR_ok, gNm_ap, gCn_ap, gcnR_ok, gNl_ap, gTp_fr, gTp_ap, gLs_ap, dCons_ap, dNil_ap, asB_ap, dOr_ap, dAnd_ap, dNot_ap, dAndV_ap, dOrV_ap, dNotV_ap, dIf_ap, oAdd_int, oSub_int, oLt_int, oLe_int, oGt_int, oGe_int, oNeg_int, oEq_int, oNe_int, oEq_fr, oNe_fr, oEq_bl, oNe_bl, oTup_ap, oLst_ap, oCall_ap, oAbs_ap, oMax_ap, oMin_ap, oToInt_b, oToInt_i, oLen_lst, oLen_scr, oLen_tup, oIx_lst, oIx_scr, oAdd_lst, oIx_tup, oIx_fr0, oIx_fr1, ixR_ok, oItL_ap, oItT_ap, sFor_ap, startD, List.map_cons, List.map_nil, List.length_cons, List.length_nil, List.replicate_succ, List.replicate_zero, List.cons_append, List.nil_append, List.append_nil, List.getElem?_cons_zero, List.getElem?_cons_succ, List.set_cons_zero, List.set_cons_succ, Nat.reduceAdd, Nat.reduceSub, Nat.sub_self, Nat.reduceLeDiff, List.all_cons, List.all_nil, np_fr, np_int, np_bl, np_tup, np_lst, np_str, np_non, Bool.and_self, Bool.and_true, if_true_, if_false_, zero_add', if_tt, if_ff, decide_true, decide_false, Nat.le_refl, oItS_lst, oItS_tup, oTupOf_lst, oTupOf_tup, oLstOf_lst, oLstOf_tup, oRv_lst, oRv_tup, oAdd_tup, dChain_ap, asTru_bl, asTru_tup, asTru_lst, oIsN_ap, oNotN_ap, asI_ap, oSl_tup, oSl_lst, oZip_tup, oZip_lst, oAddI_ap, oEqS_ap, oNeS_ap, oNe_nil] at e9
    simp -implicitDefEqProofs only [sSeq_ap, sAsg_ap, sPar_ap, sRet_ap, sIf_ap, sExpr_ap, sNext_ap, bnd_ap, ret_ap, bindR_ok, thenR_ok, dVar_ap, varR_ok, seqR_nx, seqR_rt, asgR_ok, gNm_ap, gCn_ap, gcnR_ok, gNl_ap, gTp_fr, gTp_ap, gLs_ap, dCons_ap, dNil_ap, asB_ap, dOr_ap, dAnd_ap, dNot_ap, dAndV_ap, dOrV_ap, dNotV_ap, dIf_ap, oAdd_int, oSub_int, oLt_int, oLe_int, oGt_int, oGe_int, oNeg_int, oEq_int, oNe_int, oEq_fr, oNe_fr, oEq_bl, oNe_bl, oTup_ap, oLst_ap, oCall_ap, oAbs_ap, oMax_ap, oMin_ap, oToInt_b, oToInt_i, oLen_lst, oLen_scr, oLen_tup, oIx_lst, oIx_scr, oAdd_lst, oIx_tup, oIx_fr0, oIx_fr1, ixR_ok, oItL_ap, oItT_ap, sFor_ap, startD, List.map_cons, List.map_nil, List.length_cons, List.length_nil, List.replicate_succ, List.replicate_zero, List.cons_append, List.nil_append, List.append_nil, List.getElem?_cons_zero, List.getElem?_cons_succ, List.set_cons_zero, List.set_cons_succ, Nat.reduceAdd, Nat.reduceSub, Nat.sub_self, Nat.reduceLeDiff, List.all_cons, List.all_nil, np_fr, np_int, np_bl, np_tup, np_lst, np_str, np_non, Bool.and_self, Bool.and_true, if_true_, if_false_, zero_add', if_tt, if_ff, decide_true, decide_false, Nat.le_refl, oItS_lst, oItS_tup, oTupOf_lst, oTupOf_tup, oLstOf_lst, oLstOf_tup, oRv_lst, oRv_tup, oAdd_tup, dChain_ap, asTru_bl, asTru_tup, asTru_lst, oIsN_ap, oNotN_ap, asI_ap, oSl_tup, oSl_lst, oZip_tup, oZip_lst, oAddI_ap, oEqS_ap, oNeS_ap, oNe_nil, e1, e2, e3, m1, e4, e5, e6, m2, e7, cv, decide_false, Bool.false_eq_true]
    exact e9
theorem weather_loop {u : D} {r : Nat} : ∀ (ks : List D) (c : Nat) (M : Mem) (T : List (Rat × Rat)) (o3 o4 o5 : Option D), HasUrn c n m M → c + 20 * ks.length < 2 ^ 30 → n ≠ r → m ≠ r → M[r]? = some (some (T.map lyQ)) → T.length + ks.length ≤ 100 → (∀ x ∈ T, SpOk x) →
    ∃ (T' : List (Rat × Rat)) (o3' o4' o5' : Option D) (M' : Mem), forF (gNm 3) den__law_weather_L1 ks [some (.npt n), some u, some (.ptr r), o3, o4, o5] M = some (.nx [some (.npt n), some u, some (.ptr r), o3', o4', o5'], M') ∧ T'.length = T.length + ks.length ∧ (∀ x ∈ T', SpOk x) ∧ HasUrn (c + 20 * ks.length) n m M' ∧ M'.length = M.length ∧ (∀ j, j ≠ n → j ≠ m → j ≠ r → M'[j]? = M[j]?) ∧ M'[r]? = some (some (T'.map lyQ))
  | [], c, M, T, o3, o4, o5, hr, hc, hn, hm, hM, hl, hT => ⟨T, o3, o4, o5, M, rfl, by simp, hT, by simpa using hr, rfl, fun _ _ _ _ => rfl, hM⟩
  | k :: ks, c, M, T, o3, o4, o5, hr, hc, hn, hm, hM, hl, hT => by
    rw [List.length_cons] at hc hl
    obtain ⟨x, M1, hx, e, h1, l1, ot1, g1⟩ := weather_turn (u := u) hr (by omega) hn hm hM (by omega) k o4 o5
    obtain ⟨T', p3, p4, p5, M2, e2, lT, hT', h2, l2, ot2, g2⟩ := weather_loop (u := u) ks (c + 20) M1 (T ++ [x]) (some k) (some (frQ x.1)) (some (frQ x.2)) h1 (by omega) hn hm g1 (by simp; omega) (fun y hy => by
      rcases List.mem_append.mp hy with q | q
      · exact hT y q
      · simp -implicitDefEqProofs only [List.mem_cons, List.not_mem_nil, or_false] at q
        subst q; exact hx)
    refine ⟨T', p3, p4, p5, M2, ?_, by rw [lT]; simp; omega, hT', ?_, by rw [l2, l1], fun j a b d => by rw [ot2 j a b d, ot1 j a b d], g2⟩
    · rw [forF_cons]
      simp -implicitDefEqProofs only [sSeq_ap, sAsg_ap, sPar_ap, sRet_ap, sIf_ap, sExpr_ap, sNext_ap, bnd_ap, ret_ap, bindR_ok, thenR_ok, dVar_ap, varR_ok, seqR_nx, seqR_rt, asgR_ok, gNm_ap, gCn_ap, gcnR_ok, gNl_ap, gTp_fr, gTp_ap, gLs_ap, dCons_ap, dNil_ap, asB_ap, dOr_ap, dAnd_ap, dNot_ap, dAndV_ap, dOrV_ap, dNotV_ap, dIf_ap, oAdd_int, oSub_int, oLt_int, oLe_int, oGt_int, oGe_int, oNeg_int, oEq_int, oNe_int, oEq_fr, oNe_fr, oEq_bl, oNe_bl, oTup_ap, oLst_ap, oCall_ap, oAbs_ap, oMax_ap, oMin_ap, oToInt_b, oToInt_i, oLen_lst, oLen_scr, oLen_tup, oIx_lst, oIx_scr, oAdd_lst, oIx_tup, oIx_fr0, oIx_fr1, ixR_ok, oItL_ap, oItT_ap, sFor_ap, startD, List.map_cons, List.map_nil, List.length_cons, List.length_nil, List.replicate_succ, List.replicate_zero, List.cons_append, List.nil_append, List.append_nil, List.getElem?_cons_zero, List.getElem?_cons_succ, List.set_cons_zero, List.set_cons_succ, Nat.reduceAdd, Nat.reduceSub, Nat.sub_self, Nat.reduceLeDiff, List.all_cons, List.all_nil, np_fr, np_int, np_bl, np_tup, np_lst, np_str, np_non, Bool.and_self, Bool.and_true, if_true_, if_false_, zero_add', if_tt, if_ff, decide_true, decide_false, Nat.le_refl, oItS_lst, oItS_tup, oTupOf_lst, oTupOf_tup, oLstOf_lst, oLstOf_tup, oRv_lst, oRv_tup, oAdd_tup, dChain_ap, asTru_bl, asTru_tup, asTru_lst, oIsN_ap, oNotN_ap, asI_ap, oSl_tup, oSl_lst, oZip_tup, oZip_lst, oAddI_ap, oEqS_ap, oNeS_ap, oNe_nil, forB_ok, e, ofR_nx]
      exact e2
    · have : c + 20 * (k :: ks).length = c + 20 + 20 * ks.length := by rw [List.length_cons]; omega
      rw [this]; exact h2
theorem weather_eq (hr : HasUrn c n m M) (hc : c + 300 < 2 ^ 30) {w : Int} (w0 : 0 < w) (w1 : w ≤ 12) : ∃ (x : Rat × Rat) (W : List (Rat × Rat)) (M' : Mem), F__law_weather [.npt n, .int w] M = some (.ok (.tup ((x :: W).map lyQ)), M') ∧ SpOk x ∧ (∀ x ∈ W, SpOk x) ∧ W.length ≤ 12 ∧ Drew (c + 300) n m M M' := by
  obtain ⟨hn, hm⟩ := hr.lts
  obtain ⟨v, M1, e1, v0, v1, t1⟩ := udraw_eq (hr.app (x := some [])) (by omega) (w := w) w0 (small_lt w (by omega) (by omega))
  have g1 : M1[M.length]? = some (some (([] : List (Rat × Rat)).map lyQ)) := by rw [t1.oth _ (by omega) (by omega), last_cell]; rfl
  have R : ∀ ρ M, ∃ ks : List D, oRng1 [.int (1 + v)] ρ M = some (.ok ks, M) ∧ ks.length = (1 + v).toNat := fun ρ M => ⟨_, oRng1_ap _ _ _ (by omega) (by omega), by simp⟩
  obtain ⟨ks, r1, r2⟩ := R [some (.npt n), some (.int w), some (.ptr M.length), none, none, none] M1
  obtain ⟨T, p3, p4, p5, M2, e2, lT, hT, h2, l2, ot2, g2⟩ := weather_loop (n := n) (m := m) (u := .int w) ks (c + 1) M1 [] none none none t1.has (by omega) (by omega) (by omega) g1 (by simp; omega) (by simp)
  have n1 : ∀ ρ, oNew [] ρ M = some (.ok (.ptr M.length), M ++ [some []]) := fun _ => rfl
  have tp := fun ρ => oTupOf_ptr (ρ := ρ) g2
  cases T with
  | nil => simp at lT; omega
  | cons x W =>
    rw [List.length_cons, List.length_nil] at lT
    have lm2 : M2.length = M.length + 1 := by rw [l2, t1.len]; simp
    have dc := drew_cut (M' := M2) hr (by omega) (fun j hj a b => by rw [ot2 j a b (by omega), t1.oth j a b, List.getElem?_append_left hj]) h2
    refine ⟨x, W, M2.take M.length, runF_rt ?_ (by omega) rfl, hT x (by simp), fun y hy => hT y (by simp [hy]), by omega, dc.mono (by omega)⟩
    simp -implicitDefEqProofs only [den__law_weather, sSeq_ap, sAsg_ap, sPar_ap, sRet_ap, sIf_ap, sExpr_ap, sNext_ap, bnd_ap, ret_ap, bindR_ok, thenR_ok, dVar_ap, varR_ok, seqR_nx, seqR_rt, asgR_ok, gNm_ap, gCn_ap, gcnR_ok, gNl_ap, gTp_fr, gTp_ap, gLs_ap, dCons_ap, dNil_ap, asB_ap, dOr_ap, dAnd_ap, dNot_ap, dAndV_ap, dOrV_ap, dNotV_ap, dIf_ap, oAdd_int, oSub_int, oLt_int, oLe_int, oGt_int, oGe_int, oNeg_int, oEq_int, oNe_int, oEq_fr, oNe_fr, oEq_bl, oNe_bl, oTup_ap, oLst_ap, oCall_ap, oAbs_ap, oMax_ap, oMin_ap, oToInt_b, oToInt_i, oLen_lst, oLen_scr, oLen_tup, oIx_lst, oIx_scr, oAdd_lst, oIx_tup, oIx_fr0, oIx_fr1, ixR_ok, oItL_ap, oItT_ap, sFor_ap, startD, List.map_cons, List.map_nil, List.length_cons, List.length_nil, List.replicate_succ, List.replicate_zero, List.cons_append, List.nil_append, List.append_nil, List.getElem?_cons_zero, List.getElem?_cons_succ, List.set_cons_zero, List.set_cons_succ, Nat.reduceAdd, Nat.reduceSub, Nat.sub_self, Nat.reduceLeDiff, List.all_cons, List.all_nil, np_fr, np_int, np_bl, np_tup, np_lst, np_str, np_non, Bool.and_self, Bool.and_true, if_true_, if_false_, zero_add', if_tt, if_ff, decide_true, decide_false, Nat.le_refl, oItS_lst, oItS_tup, oTupOf_lst, oTupOf_tup, oLstOf_lst, oLstOf_tup, oRv_lst, oRv_tup, oAdd_tup, dChain_ap, asTru_bl, asTru_tup, asTru_lst, oIsN_ap, oNotN_ap, asI_ap, oSl_tup, oSl_lst, oZip_tup, oZip_lst, oAddI_ap, oEqS_ap, oNeS_ap, oNe_nil, n1, e1, r1, e2, tp]
end
/-! a thing, the law -/
structure Odd (d : D) : Prop where
  part : PartOk d
  ra : RA (.tup [d]) ∧ (∀ q, Bd 24 q → RA (.tup [d, frQ q]) ∧ RA (.tup [frQ q, d]))
theorem odd_e {k n : Nat} {d : D} (hp : PartOk d) (h : ShE k n d) (hk : k ≤ 3) (hn : n ≤ 30) : Odd d := by
  have one : ∀ {ds : List D}, (∀ z ∈ ds, ShE 3 30 z) → ds.length ≤ 2 → RA (.tup ds) := fun {ds} hz hl => by
    have t := ShE.tup (k := 3) (n := 30) hz
    exact .e (t.mono (by decide) (by omega))
  have hd := h.mono hk hn
  have hf : ∀ {q : Rat}, Bd 24 q → ShE 3 30 (frQ q) := fun h => (ShE.fr (h.mono (by decide))).mono (by decide) (by decide)
  refine ⟨hp, one (by simp -implicitDefEqProofs only [List.mem_cons, List.not_mem_nil, or_false]; rintro z rfl; exact hd) (by simp), fun q hq => ⟨one (by simp -implicitDefEqProofs only [List.mem_cons, List.not_mem_nil, or_false]; rintro z (rfl | rfl); exact hd; exact hf hq) (by simp), one (by simp -implicitDefEqProofs only [List.mem_cons, List.not_mem_nil, or_false]; rintro z (rfl | rfl); exact hf hq; exact hd) (by simp)⟩⟩
theorem odd_l {k n : Nat} {d : D} (hp : PartOk d) (h : Sh k n d) (ne : d.plE = false) (hk : k ≤ 3) (hn : n ≤ 30) : Odd d := by
  have one : ∀ {ds : List D}, (∀ z ∈ ds, Sh 3 30 z) → ds.length ≤ 2 → (D.tup ds).plE = false → RA (.tup ds) := fun {ds} hz hl ne => by
    have t := Sh.tup (k := 3) (n := 30) hz
    exact .l (t.mono (by decide) (by omega)) ne
  have hd := h.mono hk hn
  have hf : ∀ {q : Rat}, Bd 24 q → Sh 3 30 (frQ q) := fun h => (Sh.fr (h.mono (by decide))).mono (by decide) (by decide)
  refine ⟨hp, one (by simp -implicitDefEqProofs only [List.mem_cons, List.not_mem_nil, or_false]; rintro z rfl; exact hd) (by simp) (by simp -implicitDefEqProofs only [D.plE, plEL, ne, Bool.false_and]), fun q hq => ⟨one (by simp -implicitDefEqProofs only [List.mem_cons, List.not_mem_nil, or_false]; rintro z (rfl | rfl); exact hd; exact hf hq) (by simp) (by simp -implicitDefEqProofs only [D.plE, plEL, ne, Bool.false_and]), one (by simp -implicitDefEqProofs only [List.mem_cons, List.not_mem_nil, or_false]; rintro z (rfl | rfl); exact hf hq; exact hd) (by simp) (by simp -implicitDefEqProofs only [D.plE, plEL, ne, Bool.false_and, Bool.and_false])⟩⟩
theorem she_two {i j : Int} (hi : i.natAbs < 2 ^ 1900) (hj : j.natAbs < 2 ^ 1900) : ShE 1 5 (.tup [.int i, .int j]) := by
  have l1 := log2_le_of hi
  have l2 := log2_le_of hj
  exact ShE.tup (k := 0) (n := 1) (ds := [.int i, .int j]) (by
    simp -implicitDefEqProofs only [List.mem_cons, List.not_mem_nil, or_false]
    rintro z (rfl | rfl)
    · exact ShE.int (by omega)
    · exact ShE.int (by omega))
theorem odd_two {i j : Int} (hi : i.natAbs < 2 ^ 1900) (hj : j.natAbs < 2 ^ 1900) : Odd (.tup [.int i, .int j]) := odd_e (part_ints i j (nat_lt_pow 4000 hj (by decide))) (she_two hi hj) (by decide) (by decide)
theorem odd_row {ds : List D} (hl : ds.length ≠ 2) (hn : ds.length ≤ 3) (h : ∀ d ∈ ds, ∃ i : Int, d = .int i ∧ i.natAbs < 2 ^ 1900) : Odd (.tup ds) := by
  refine odd_e (part_len hl (List.all_eq_true.mpr fun d hd => by obtain ⟨i, rfl, _⟩ := h d hd; rfl)) ((ShE.tup (k := 0) (n := 1) fun d hd => ?_).mono (k' := 1) (n' := 7) (by decide) (by omega)) (by decide) (by decide)
  obtain ⟨i, rfl, hi⟩ := h d hd
  have := log2_le_of hi
  exact ShE.int (by omega)
theorem small1900 {i : Int} (h : i.natAbs < 2 ^ 128) : i.natAbs < 2 ^ 1900 := nat_lt_pow 1900 h (by decide)
/-- what both judges are asked of -/
structure Thing (d : D) : Prop where
  al : PanAlike d
  ra : RA d
section
variable {c n m : Nat} {M : Mem}
theorem odds_at {q : Rat} {x : Int} (hq : Bd 24 q) (h0 : 0 ≤ x) (h1 : x < 19) : ∃ d, atI ([D.tup [.int 0, .int 1], .tup [.int (0 - q.num), .int (q.den : Int)], .tup [.int (2 * q.num), .int (2 * (q.den : Int))], .int q.num, .non, .str (Str.ofString "1"), .lst [.int q.num, .int (q.den : Int)], .tup [.bl true, .int 1], .tup [.int 1, .bl true], .tup [.int 1, .int 0], .tup [.int 1, .int (-1)], .tup [.int q.num, .int (q.den : Int), .int 1], .tup [.int 1], .tup [], .tup [.int 0, .int 5], .emp] ++ [.tup [.int (10 ^ 6 + 1), .int 1], .tup [.int 1, .int 1001], .tup [.int (10 ^ 30 + 1), .int 7]]) x = some d ∧ Odd d := by
  have nq := hq.1
  have dq := den_lt hq
  have b1 : (0 - q.num).natAbs < 2 ^ 128 := by omega
  have b2 : (2 * q.num).natAbs < 2 ^ 128 := by omega
  have b3 : (2 * (q.den : Int)).natAbs < 2 ^ 128 := by omega
  have b4 : q.num.natAbs < 2 ^ 128 := by omega
  have b5 : ((q.den : Int)).natAbs < 2 ^ 128 := by omega
  have shI : ∀ {i : Int}, i.natAbs < 2 ^ 128 → i.natAbs.log2 < 1920 := fun h => by have := log2_le_of h; omega
  obtain ⟨d, e, mm⟩ := atI_mem (l := [D.tup [.int 0, .int 1], .tup [.int (0 - q.num), .int (q.den : Int)], .tup [.int (2 * q.num), .int (2 * (q.den : Int))], .int q.num, .non, .str (Str.ofString "1"), .lst [.int q.num, .int (q.den : Int)], .tup [.bl true, .int 1], .tup [.int 1, .bl true], .tup [.int 1, .int 0], .tup [.int 1, .int (-1)], .tup [.int q.num, .int (q.den : Int), .int 1], .tup [.int 1], .tup [], .tup [.int 0, .int 5], .emp] ++ [.tup [.int (10 ^ 6 + 1), .int 1], .tup [.int 1, .int 1001], .tup [.int (10 ^ 30 + 1), .int 7]]) h0 (by simpa using h1)
  refine ⟨d, e, ?_⟩
  have two : ∀ {i j : Int}, i.natAbs < 2 ^ 128 → j.natAbs < 2 ^ 128 → Odd (.tup [.int i, .int j]) := fun h1 h2 => odd_two (small1900 h1) (small1900 h2)
  simp -implicitDefEqProofs only [List.cons_append, List.nil_append, List.mem_cons, List.not_mem_nil, or_false] at mm
  rcases mm with h | h | h | h | h | h | h | h | h | h | h | h | h | h | h | h | h | h | h <;> subst h
  · exact two (by decide) (by decide)
  · exact two b1 b5
  · exact two b2 b3
  · exact odd_e (part_not rfl rfl) (ShE.int (shI b4)) (by decide) (by decide)
  · exact odd_e (part_not rfl rfl) ShE.non (by decide) (by decide)
  · exact odd_e (k := 1) (n := 1) (part_not rfl rfl) ⟨rfl, by decide +kernel, by decide +kernel, by decide +kernel⟩ (by decide) (by decide)
  · refine odd_l (part_not rfl rfl) (Sh.lst (k := 0) (n := 1) fun z hz => ?_) rfl (by decide) (by simp)
    simp -implicitDefEqProofs only [List.mem_cons, List.not_mem_nil, or_false] at hz
    rcases hz with rfl | rfl
    · exact Sh.int (shI b4)
    · exact Sh.int (shI b5)
  · refine odd_e part_bl1 (ShE.tup (k := 0) (n := 1) fun z hz => ?_) (by decide) (by simp)
    simp -implicitDefEqProofs only [List.mem_cons, List.not_mem_nil, or_false] at hz
    rcases hz with rfl | rfl
    · exact ShE.bl true
    · exact ShE.int (by decide)
  · refine odd_e part_bl2 (ShE.tup (k := 0) (n := 1) fun z hz => ?_) (by decide) (by simp)
    simp -implicitDefEqProofs only [List.mem_cons, List.not_mem_nil, or_false] at hz
    rcases hz with rfl | rfl
    · exact ShE.int (by decide)
    · exact ShE.bl true
  · exact two (by decide) (by decide)
  · exact two (by decide) (by decide)
  · refine odd_row (by simp) (by simp) fun z hz => ?_
    simp -implicitDefEqProofs only [List.mem_cons, List.not_mem_nil, or_false] at hz
    rcases hz with rfl | rfl | rfl
    · exact ⟨_, rfl, small1900 b4⟩
    · exact ⟨_, rfl, small1900 b5⟩
    · exact ⟨_, rfl, small1900 (by decide)⟩
  · refine odd_row (by simp) (by simp) fun z hz => ?_
    simp -implicitDefEqProofs only [List.mem_cons, List.not_mem_nil, or_false] at hz
    subst hz
    exact ⟨_, rfl, small1900 (by decide)⟩
  · exact odd_row (by simp) (by simp) fun z hz => by cases hz
  · exact two (by decide) (by decide)
  · exact odd_e (part_not rfl rfl) ShE.emp (by decide) (by decide)
  · exact two (by decide) (by decide)
  · exact two (by decide) (by decide)
  · exact two (by decide) (by decide)
theorem thing_e {d : D} {k n : Nat} (al : PanAlike d) (h : ShE k n d) (hk : k ≤ 4) (hn : n ≤ 200) : Thing d := ⟨al, .e (h.mono hk hn)⟩
theorem she_frs {qs : List Rat} (hl : qs.length ≤ 3) (h : ∀ q ∈ qs, Bd 24 q) : ShE 2 20 (.tup (qs.map frQ)) := (ShE.tup (k := 1) (n := 5) fun z hz => by
  obtain ⟨q, hq, rfl⟩ := List.mem_map.mp hz
  exact ShE.fr ((h q hq).mono (by decide))).mono (by decide) (by rw [List.length_map]; omega)
theorem things_at {p : Rat × Rat} {o : D} {q : Rat} {x : Int} (hp : PanOk p) (ho : Odd o) (one : Bd 24 q) {T : D} (hT : T = .tup [o, frQ p.2] ∨ T = .tup [frQ p.1, o]) (h0 : 0 ≤ x) (h1 : x < 16) : ∃ d, atI [T, T, T, T, .lst [frQ p.1, frQ p.2], .tup [frQ p.1, frQ p.2, frQ q], .tup [frQ p.1], .non, .bl true, .int 7, .str (Str.ofString "pan"), .emp, .tup [], .tup [frQ p.2, frQ p.1], lyQ p, frQ q] x = some d ∧ Thing d := by
  obtain ⟨d, e, mm⟩ := atI_mem (l := [T, T, T, T, .lst [frQ p.1, frQ p.2], .tup [frQ p.1, frQ p.2, frQ q], .tup [frQ p.1], .non, .bl true, .int 7, .str (Str.ofString "pan"), .emp, .tup [], .tup [frQ p.2, frQ p.1], lyQ p, frQ q]) h0 h1
  refine ⟨d, e, ?_⟩
  have tT : Thing T := by
    rcases hT with h | h <;> subst h
    · exact ⟨pan_two ho.part (part_fr hp.d), (ho.ra.2 _ hp.d).1⟩
    · exact ⟨pan_two (part_fr hp.a) ho.part, (ho.ra.2 _ hp.a).2⟩
  simp -implicitDefEqProofs only [List.mem_cons, List.not_mem_nil, or_false] at mm
  rcases mm with h | h | h | h | h | h | h | h | h | h | h | h | h | h | h | h
  · subst h; exact tT
  · subst h; exact tT
  · subst h; exact tT
  · subst h; exact tT
  · subst h
    refine ⟨pan_not rfl rfl, .l ((Sh.lst (k := 1) (n := 5) fun z hz => ?_).mono (by decide) (by simp)) rfl⟩
    simp -implicitDefEqProofs only [List.mem_cons, List.not_mem_nil, or_false] at hz
    rcases hz with rfl | rfl
    · exact Sh.fr (hp.a.mono (by decide))
    · exact Sh.fr (hp.d.mono (by decide))
  · subst h
    exact thing_e (pan_len (by simp)) (she_frs (qs := [p.1, p.2, q]) (by simp) (by
      simp -implicitDefEqProofs only [List.mem_cons, List.not_mem_nil, or_false]
      rintro z (rfl | rfl | rfl)
      · exact hp.a
      · exact hp.d
      · exact one)) (by decide) (by decide)
  · subst h
    exact thing_e (pan_len (by simp)) (she_frs (qs := [p.1]) (by simp) (by
      simp -implicitDefEqProofs only [List.mem_cons, List.not_mem_nil, or_false]
      rintro z rfl
      exact hp.a)) (by decide) (by decide)
  · subst h; exact thing_e (pan_not rfl rfl) ShE.non (by decide) (by decide)
  · subst h; exact thing_e (pan_not rfl rfl) (ShE.bl true) (by decide) (by decide)
  · subst h; exact thing_e (pan_not rfl rfl) (ShE.int (by decide)) (by decide) (by decide)
  · subst h; exact thing_e (k := 1) (n := 1) (pan_not rfl rfl) ⟨rfl, by decide +kernel, by decide +kernel, by decide +kernel⟩ (by decide) (by decide)
  · subst h; exact thing_e (pan_not rfl rfl) ShE.emp (by decide) (by decide)
  · subst h; exact thing_e (pan_len (by simp)) (she_frs (qs := []) (by simp) (by simp)) (by decide) (by decide)
  · subst h
    exact thing_e (pan_two (part_fr hp.d) (part_fr hp.a)) (she_frs (qs := [p.2, p.1]) (by simp) (by
      simp -implicitDefEqProofs only [List.mem_cons, List.not_mem_nil, or_false]
      rintro z (rfl | rfl)
      · exact hp.d
      · exact hp.a)) (by decide) (by decide)
  · subst h
    exact thing_e (pan_two (part_fr hp.a) (part_fr hp.d)) (she_frs (qs := [p.1, p.2]) (by simp) (by
      simp -implicitDefEqProofs only [List.mem_cons, List.not_mem_nil, or_false]
      rintro z (rfl | rfl)
      · exact hp.a
      · exact hp.d)) (by decide) (by decide)
  · subst h
    exact thing_e (pan_two (part_not rfl rfl) (part_not rfl rfl)) ((ShE.fr (one.mono (by decide))).mono (k' := 1) (n' := 5) (by decide) (by decide)) (by decide) (by decide)
theorem np_emp : D.emp.np = true := rfl
theorem pow10_30 (ρ : Env) (M : Mem) : oPow (.int 10) (.int 30) ρ M = some (.ok (.int (10 ^ 30)), M) := oPow_ap 10 30 ρ M (by decide) (by decide)
theorem thing_eq {p : Rat × Rat} (hp : PanOk p) (hr : HasUrn c n m M) (hc : c + 10 < 2 ^ 30) : ∃ d M', F__law_thing [.npt n, lyQ p] M = some (.ok d, M') ∧ Thing d ∧ Drew (c + 10) n m M M' := by
  obtain ⟨at_, M1, e1, a0, a1, t1⟩ := udraw_eq hr (by omega) (w := 2) (by decide) (by decide)
  have hone : ∃ q : Rat, atI [frQ p.1, frQ p.2] at_ = some (frQ q) ∧ Bd 24 q := by
    rcases (by omega : at_ = 0 ∨ at_ = 1) with h | h <;> subst h
    · exact ⟨p.1, rfl, hp.a⟩
    · exact ⟨p.2, rfl, hp.d⟩
  obtain ⟨q, eq, hq⟩ := hone
  have u1 := t1.has
  obtain ⟨ln, lm⟩ := u1.lts
  obtain ⟨x, M2, e2, x0, x1, t2⟩ := udraw_eq (u1.app (x := some [frQ p.1, frQ p.2])) (by omega) (w := 19) (by decide) (by decide)
  obtain ⟨o, eo, ho⟩ := odds_at hq x0 x1
  have g2 : M2[M1.length]? = some (some [frQ p.1, frQ p.2]) := by rw [t2.oth _ (by omega) (by omega)]; exact last_cell M1 _
  have ixa : ixN 2 at_ = some at_.toNat := by
    rcases (by omega : at_ = 0 ∨ at_ = 1) with h | h <;> subst h <;> rfl
  obtain ⟨T, hT, eT⟩ : ∃ T : D, (T = .tup [o, frQ p.2] ∨ T = .tup [frQ p.1, o]) ∧ D.tup ([frQ p.1, frQ p.2].set at_.toNat o) = T := by
    rcases (by omega : at_ = 0 ∨ at_ = 1) with h | h <;> subst h
    · exact ⟨_, .inl rfl, rfl⟩
    · exact ⟨_, .inr rfl, rfl⟩
  have g3 : (M2.set M1.length (some ([frQ p.1, frQ p.2].set at_.toNat o)))[M1.length]? = some (some ([frQ p.1, frQ p.2].set at_.toNat o)) := List.getElem?_set_self (get_lt g2)
  obtain ⟨y, M3, e3, y0, y1, t3⟩ := udraw_eq (t2.has.set (x := some ([frQ p.1, frQ p.2].set at_.toNat o)) (j := M1.length) (by omega) (by omega)) (by omega) (w := 16) (by decide) (by decide)
  obtain ⟨d, ed, hd⟩ := things_at hp ho hq hT y0 y1
  have tp := fun ρ => oTupOf_ptr (ρ := ρ) g3
  have l3 : M3.length = M.length + 1 := by rw [t3.len, List.length_set, t2.len]; simp [t1.len]
  have dc := drew_cut (M' := M3) hr (by omega) (fun j hj a b => by
    rw [t3.oth j a b, List.getElem?_set_ne (by rw [t1.len]; omega), t2.oth j a b, List.getElem?_append_left (by rw [t1.len]; exact hj), t1.oth j a b]) t3.has
  have lst1 : oLstOf [frQ q] = oLstOf [.tup [.int q.num, .int (q.den : Int)]] := rfl
  have np_o := ho.part.np
  have nT : T.np = true := by rcases hT with h | h <;> subst h <;> rfl
  have kk : MulOk 2 q.num := MulOk.of (a := 20) (b := 24) (by decide) hq.1
  have kd : MulOk 2 (q.den : Int) := MulOk.of (a := 20) (b := 24) (by decide) (den_lt hq)
  have ls : ∀ ρ M, oLstOf [frQ q] ρ M = some (.ok (.lst [.int q.num, .int (q.den : Int)]), M) := fun ρ M => rfl
  have lp : ∀ ρ M, oLstOf [lyQ p] ρ M = some (.ok (.lst [frQ p.1, frQ p.2]), M) := fun ρ M => rfl
  have ln' : ∀ ρ, oLstN [lyQ p] ρ M1 = some (.ok (.ptr M1.length), M1 ++ [some [frQ p.1, frQ p.2]]) := fun ρ => rfl
  have ad : ∀ ρ M, oAdd (lyQ p) (.tup [frQ q]) ρ M = some (.ok (.tup [frQ p.1, frQ p.2, frQ q]), M) := fun ρ M => oAdd_tup [frQ p.1, frQ p.2] [frQ q] ρ M (by simp)
  have sl : ∀ ρ M, oSl (lyQ p) none (some 1) ρ M = some (.ok (.tup [frQ p.1]), M) := fun ρ M => by
    have : cutD [frQ p.1, frQ p.2] none (some ((1 : Nat) : Int)) = [frQ p.1] := cut_take _ (by simp)
    show some (Res.ok (D.tup (cutD [frQ p.1, frQ p.2] none (some 1))), M) = _
    rw [show cutD [frQ p.1, frQ p.2] none (some 1) = [frQ p.1] from this]
  have rv : ∀ ρ M, oRv (lyQ p) ρ M = some (.ok (.tup [frQ p.2, frQ p.1]), M) := fun ρ M => rfl
  refine ⟨d, M3.take M.length, runF_rt (M2 := M3) ?_ (by omega) hd.al.np, hd, dc.mono (by omega)⟩
  have len2 : [frQ p.1, frQ p.2].length = 2 := rfl
  have eo' := eo
  simp -implicitDefEqProofs only [List.cons_append, List.nil_append] at eo'
  simp -implicitDefEqProofs only [den__law_thing, sSeq_ap, sAsg_ap, sPar_ap, sRet_ap, sIf_ap, sExpr_ap, sNext_ap, bnd_ap, ret_ap, bindR_ok, thenR_ok, dVar_ap, varR_ok, seqR_nx, seqR_rt, asgR_ok, gNm_ap, gCn_ap, gcnR_ok, gNl_ap, gTp_fr, gTp_ap, gLs_ap, dCons_ap, dNil_ap, asB_ap, dOr_ap, dAnd_ap, dNot_ap, dAndV_ap, dOrV_ap, dNotV_ap, dIf_ap, oAdd_int, oSub_int, oLt_int, oLe_int, oGt_int, oGe_int, oNeg_int, oEq_int, oNe_int, oEq_fr, oNe_fr, oEq_bl, oNe_bl, oTup_ap, oLst_ap, oCall_ap, oAbs_ap, oMax_ap, oMin_ap, oToInt_b, oToInt_i, oLen_lst, oLen_scr, oLen_tup, oIx_lst, oIx_scr, oAdd_lst, oIx_tup, oIx_fr0, oIx_fr1, ixR_ok, oItL_ap, oItT_ap, sFor_ap, startD, List.map_cons, List.map_nil, List.length_cons, List.length_nil, List.replicate_succ, List.replicate_zero, List.cons_append, List.nil_append, List.append_nil, List.getElem?_cons_zero, List.getElem?_cons_succ, List.set_cons_zero, List.set_cons_succ, Nat.reduceAdd, Nat.reduceSub, Nat.sub_self, Nat.reduceLeDiff, List.all_cons, List.all_nil, np_fr, np_int, np_bl, np_tup, np_lst, np_str, np_non, Bool.and_self, Bool.and_true, if_true_, if_false_, zero_add', if_tt, if_ff, decide_true, decide_false, Nat.le_refl, oItS_lst, oItS_tup, oTupOf_lst, oTupOf_tup, oLstOf_lst, oLstOf_tup, oRv_lst, oRv_tup, oAdd_tup, dChain_ap, asTru_bl, asTru_tup, asTru_lst, oIsN_ap, oNotN_ap, asI_ap, oSl_tup, oSl_lst, oZip_tup, oZip_lst, oAddI_ap, oEqS_ap, oNeS_ap, oNe_nil, e1, oIx_ly, eq, ls, np_emp, kk, oMul_int kk, oMul_int kd, pow10_6, pow10_30, ln', e2, eo', sStore_ap, g2, len2, ixa, np_o, tp, eT, nT, lp, ad, sl, rv, np_ly, e3, ed]
end
section
variable {c n m : Nat} {M : Mem}
theorem judged {d : D} (h : PanAlike d) (P0 : List (Option D)) (h8 : P0.length = 8) (o9 : Option D) (M : Mem) : ∃ b : Bool, den_law_L1 (P0 ++ [some d, o9]) M = some (.nx (P0 ++ [some d, some (.bl b)]), M) := by
  obtain ⟨_, b, e1, e2⟩ := h
  refine ⟨b, ?_⟩
  match P0, h8 with
  | [a0, a1, a2, a3, a4, a5, a6, a7], _ =>
    have ib := fun ρ M => oIsi_bool (d := .bl b) rfl (fun _ => none) ρ M
    simp -implicitDefEqProofs only [den_law_L1, sSeq_ap, sAsg_ap, sPar_ap, sRet_ap, sIf_ap, sExpr_ap, sNext_ap, bnd_ap, ret_ap, bindR_ok, thenR_ok, dVar_ap, varR_ok, seqR_nx, seqR_rt, asgR_ok, gNm_ap, gCn_ap, gcnR_ok, gNl_ap, gTp_fr, gTp_ap, gLs_ap, dCons_ap, dNil_ap, asB_ap, dOr_ap, dAnd_ap, dNot_ap, dAndV_ap, dOrV_ap, dNotV_ap, dIf_ap, oAdd_int, oSub_int, oLt_int, oLe_int, oGt_int, oGe_int, oNeg_int, oEq_int, oNe_int, oEq_fr, oNe_fr, oEq_bl, oNe_bl, oTup_ap, oLst_ap, oCall_ap, oAbs_ap, oMax_ap, oMin_ap, oToInt_b, oToInt_i, oLen_lst, oLen_scr, oLen_tup, oIx_lst, oIx_scr, oAdd_lst, oIx_tup, oIx_fr0, oIx_fr1, ixR_ok, oItL_ap, oItT_ap, sFor_ap, startD, List.map_cons, List.map_nil, List.length_cons, List.length_nil, List.replicate_succ, List.replicate_zero, List.cons_append, List.nil_append, List.append_nil, List.getElem?_cons_zero, List.getElem?_cons_succ, List.set_cons_zero, List.set_cons_succ, Nat.reduceAdd, Nat.reduceSub, Nat.sub_self, Nat.reduceLeDiff, List.all_cons, List.all_nil, np_fr, np_int, np_bl, np_tup, np_lst, np_str, np_non, Bool.and_self, Bool.and_true, if_true_, if_false_, zero_add', if_tt, if_ff, decide_true, decide_false, Nat.le_refl, oItS_lst, oItS_tup, oTupOf_lst, oTupOf_tup, oLstOf_lst, oLstOf_tup, oRv_lst, oRv_tup, oAdd_tup, dChain_ap, asTru_bl, asTru_tup, asTru_lst, oIsN_ap, oNotN_ap, asI_ap, oSl_tup, oSl_lst, oZip_tup, oZip_lst, oAddI_ap, oEqS_ap, oNeS_ap, oNe_nil, e1, e2, ib, isBl, Bool.not_true, Bool.false_eq_true]
theorem rng_ok {k : Int} (h0 : 0 ≤ k) (h : k < 2 ^ 62) (ρ : Env) (M : Mem) : ∃ ks : List D, oRng1 [.int k] ρ M = some (.ok ks, M) ∧ ks.length = k.toNat := ⟨_, oRng1_ap _ _ _ h0 h, by simp⟩
theorem turn44 (hr : HasUrn c n m M) (hc : c + 400 < 2 ^ 30) (S o2 o3 o4 o5 o6 o7 o8 o9 : Option D) : ∃ (o3' o4' o5' o6' o7' o8' o9' : Option D) (M' : Mem), den_law_L2 [S, some (.npt n), o2, o3, o4, o5, o6, o7, o8, o9] M = some (.nx [S, some (.npt n), o2, o3', o4', o5', o6', o7', o8', o9'], M') ∧ Drew (c + 400) n m M M' := by
  obtain ⟨q1, M1, e1, q10, q1b, t1⟩ := above_eq hr (by omega)
  obtain ⟨q2, M2, e2, q20, q2b, t2⟩ := above_eq t1.has (by omega)
  obtain ⟨p0, M3, e3, hp0, t3⟩ := pan_eq t2.has (by omega)
  obtain ⟨v, M4, e4, v0, v1, t4⟩ := udraw_eq t3.has (by omega) (w := 4) (by decide) (by decide)
  have anyp : D.tup [frQ q1, frQ q2] = lyQ (q1, q2) := rfl
  obtain ⟨p, e5, hp⟩ : ∃ p, atI [lyQ p0, lyQ (q1, q2)] (if decide (v = 0) = true then 1 else 0) = some (lyQ p) ∧ PanOk p := by
    by_cases h : v = 0
    · rw [if_pos (decide_eq_true h)]; exact ⟨(q1, q2), rfl, ⟨q1b, q2b, q10, q20⟩⟩
    · rw [if_neg (by rw [decide_eq_false h]; decide)]; exact ⟨p0, rfl, hp0⟩
  obtain ⟨w, M5, e6, w0, w1, t5⟩ := udraw_eq t4.has (by omega) (w := 2) (by decide) (by decide)
  obtain ⟨k, e7, k0, k1⟩ := atI_lit (l := [.int 3, .int 12]) (P := fun v => 0 < v ∧ v ≤ 12) w0 w1 fun d hd => by
    simp -implicitDefEqProofs only [List.mem_cons, List.not_mem_nil, or_false] at hd
    rcases hd with h | h <;> subst h <;> exact ⟨_, rfl, by omega, by omega⟩
  obtain ⟨x, W, M6, e8, hx, hW, hl, t6⟩ := weather_eq t5.has (by omega) k0 k1
  obtain ⟨d, M7, e9, hd, t7⟩ := thing_eq hp t6.has (by omega)
  have tt := t1.trans (t2.trans (t3.trans (t4.trans (t5.trans (t6.trans t7)))))
  obtain ⟨z, rz⟩ := hd.ra.three (p := p) (W := x :: W) ⟨hp.a.mono (by decide), hp.d.mono (by decide)⟩ (fun y hy => by
    rcases List.mem_cons.mp hy with q | q
    · subst q; exact ⟨hx.w.mono (by decide), hx.n.mono (by decide)⟩
    · exact ⟨(hW y q).w.mono (by decide), (hW y q).n.mono (by decide)⟩) (by simp; omega)
  have hpan : PanAlike (lyQ p) := pan_two (part_fr hp.a) (part_fr hp.d)
  obtain ⟨b1, j1⟩ := judged hpan [S, some (.npt n), o2, some (lyQ (q1, q2)), some (lyQ p), some (.tup ((x :: W).map lyQ)), some d, some (.str z)] rfl o9 M7
  obtain ⟨b2, j2⟩ := judged hd.al [S, some (.npt n), o2, some (lyQ (q1, q2)), some (lyQ p), some (.tup ((x :: W).map lyQ)), some d, some (.str z)] rfl (some (.bl b1)) M7
  have cr := clamp_right_eq hp hx hW hl
  have sm := same_frF (rimP p)
  refine ⟨some (lyQ (q1, q2)), some (lyQ p), some (.tup ((x :: W).map lyQ)), some d, some (.str z), some d, some (.bl b2), M7, ?_, tt.mono (by omega)⟩
  have npd := hd.al.np
  clear hW
  simp -implicitDefEqProofs only [List.cons_append, List.nil_append] at j1 j2
  generalize (x :: W).map lyQ = V at *
  simp -implicitDefEqProofs only [den_law_L2, sSeq_ap, sAsg_ap, sPar_ap, sRet_ap, sIf_ap, sExpr_ap, sNext_ap, bnd_ap, ret_ap, bindR_ok, thenR_ok, dVar_ap, varR_ok, seqR_nx, seqR_rt, asgR_ok, gNm_ap, gCn_ap, gcnR_ok, gNl_ap, gTp_fr, gTp_ap, gLs_ap, dCons_ap, dNil_ap, asB_ap, dOr_ap, dAnd_ap, dNot_ap, dAndV_ap, dOrV_ap, dNotV_ap, dIf_ap, oAdd_int, oSub_int, oLt_int, oLe_int, oGt_int, oGe_int, oNeg_int, oEq_int, oNe_int, oEq_fr, oNe_fr, oEq_bl, oNe_bl, oTup_ap, oLst_ap, oCall_ap, oAbs_ap, oMax_ap, oMin_ap, oToInt_b, oToInt_i, oLen_lst, oLen_scr, oLen_tup, oIx_lst, oIx_scr, oAdd_lst, oIx_tup, oIx_fr0, oIx_fr1, ixR_ok, oItL_ap, oItT_ap, sFor_ap, startD, List.map_cons, List.map_nil, List.length_cons, List.length_nil, List.replicate_succ, List.replicate_zero, List.cons_append, List.nil_append, List.append_nil, List.getElem?_cons_zero, List.getElem?_cons_succ, List.set_cons_zero, List.set_cons_succ, Nat.reduceAdd, Nat.reduceSub, Nat.sub_self, Nat.reduceLeDiff, List.all_cons, List.all_nil, np_fr, np_int, np_bl, np_tup, np_lst, np_str, np_non, Bool.and_self, Bool.and_true, if_true_, if_false_, zero_add', if_tt, if_ff, decide_true, decide_false, Nat.le_refl, oItS_lst, oItS_tup, oTupOf_lst, oTupOf_tup, oLstOf_lst, oLstOf_tup, oRv_lst, oRv_tup, oAdd_tup, dChain_ap, asTru_bl, asTru_tup, asTru_lst, oIsN_ap, oNotN_ap, asI_ap, oSl_tup, oSl_lst, oZip_tup, oZip_lst, oAddI_ap, oEqS_ap, oNeS_ap, oNe_nil, e1, e2, anyp, e3, np_ly, e4, e5, e6, e7, e8, e9, npd, rz, forF_cons, forF_nil, forB_ok, j1, j2, ofR_nx, rim_eq hp, oIx_ly, i2_0, i2_1, lrim_eq hp, sm, cr, Bool.not_true, Bool.false_eq_true]
theorem loop44 {S : Option D} : ∀ (ks : List D) (c : Nat) (M : Mem) (o2 o3 o4 o5 o6 o7 o8 o9 : Option D), HasUrn c n m M → c + 400 * ks.length < 2 ^ 30 → ∃ (o2' o3' o4' o5' o6' o7' o8' o9' : Option D) (M' : Mem), forF (gNm 2) den_law_L2 ks [S, some (.npt n), o2, o3, o4, o5, o6, o7, o8, o9] M = some (.nx [S, some (.npt n), o2', o3', o4', o5', o6', o7', o8', o9'], M') ∧ M'.length = M.length
  | [], c, M, o2, o3, o4, o5, o6, o7, o8, o9, _, _ => ⟨o2, o3, o4, o5, o6, o7, o8, o9, M, rfl, rfl⟩
  | k :: ks, c, M, o2, o3, o4, o5, o6, o7, o8, o9, hr, hc => by
    rw [List.length_cons] at hc
    obtain ⟨p3, p4, p5, p6, p7, p8, p9, M1, e, t⟩ := turn44 hr (by omega) S (some k) o3 o4 o5 o6 o7 o8 o9
    obtain ⟨q2, q3, q4, q5, q6, q7, q8, q9, M2, e2, l2⟩ := loop44 (S := S) ks (c + 400) M1 (some k) p3 p4 p5 p6 p7 p8 p9 t.has (by omega)
    refine ⟨q2, q3, q4, q5, q6, q7, q8, q9, M2, ?_, by rw [l2, t.len]⟩
    rw [forF_cons]
    simp -implicitDefEqProofs only [sSeq_ap, sAsg_ap, sPar_ap, sRet_ap, sIf_ap, sExpr_ap, sNext_ap, bnd_ap, ret_ap, bindR_ok, thenR_ok, dVar_ap, varR_ok, seqR_nx, seqR_rt, asgR_ok, gNm_ap, gCn_ap, gcnR_ok, gNl_ap, gTp_fr, gTp_ap, gLs_ap, dCons_ap, dNil_ap, asB_ap, dOr_ap, dAnd_ap, dNot_ap, dAndV_ap, dOrV_ap, dNotV_ap, dIf_ap, oAdd_int, oSub_int, oLt_int, oLe_int, oGt_int, oGe_int, oNeg_int, oEq_int, oNe_int, oEq_fr, oNe_fr, oEq_bl, oNe_bl, oTup_ap, oLst_ap, oCall_ap, oAbs_ap, oMax_ap, oMin_ap, oToInt_b, oToInt_i, oLen_lst, oLen_scr, oLen_tup, oIx_lst, oIx_scr, oAdd_lst, oIx_tup, oIx_fr0, oIx_fr1, ixR_ok, oItL_ap, oItT_ap, sFor_ap, startD, List.map_cons, List.map_nil, List.length_cons, List.length_nil, List.replicate_succ, List.replicate_zero, List.cons_append, List.nil_append, List.append_nil, List.getElem?_cons_zero, List.getElem?_cons_succ, List.set_cons_zero, List.set_cons_succ, Nat.reduceAdd, Nat.reduceSub, Nat.sub_self, Nat.reduceLeDiff, List.all_cons, List.all_nil, np_fr, np_int, np_bl, np_tup, np_lst, np_str, np_non, Bool.and_self, Bool.and_true, if_true_, if_false_, zero_add', if_tt, if_ff, decide_true, decide_false, Nat.le_refl, oItS_lst, oItS_tup, oTupOf_lst, oTupOf_tup, oLstOf_lst, oLstOf_tup, oRv_lst, oRv_tup, oAdd_tup, dChain_ap, asTru_bl, asTru_tup, asTru_lst, oIsN_ap, oNotN_ap, asI_ap, oSl_tup, oSl_lst, oZip_tup, oZip_lst, oAddI_ap, oEqS_ap, oNeS_ap, oNe_nil, forB_ok, e, ofR_nx]
    exact e2
end
theorem law_true (ns : List Int) (h : ns.length ≤ 63) : ∃ M', F_law [.scr (ns.map D.int)] [] = some (.ok (.bl true), M') := by
  obtain ⟨M1, e1, l1, _, hu⟩ := urn_eq ns (by omega) []
  obtain ⟨ks, r1, r2⟩ := rng_ok (k := 8) (by decide) (by decide) [some (.scr (ns.map D.int)), some (.npt 1), none, none, none, none, none, none, none, none] M1
  obtain ⟨q2, q3, q4, q5, q6, q7, q8, q9, M2, e2, l2⟩ := loop44 (S := some (.scr (ns.map D.int))) ks 0 M1 none none none none none none none none (show HasUrn 0 1 0 M1 from hu) (by rw [r2]; decide)
  refine ⟨_, runF_rt (M2 := M2) ?_ (by simp) rfl⟩
  have e1' : F__law_urn [.scr (ns.map D.int)] [] = some (.ok (.npt 1), M1) := e1
  simp -implicitDefEqProofs only [den_law, sSeq_ap, sAsg_ap, sPar_ap, sRet_ap, sIf_ap, sExpr_ap, sNext_ap, bnd_ap, ret_ap, bindR_ok, thenR_ok, dVar_ap, varR_ok, seqR_nx, seqR_rt, asgR_ok, gNm_ap, gCn_ap, gcnR_ok, gNl_ap, gTp_fr, gTp_ap, gLs_ap, dCons_ap, dNil_ap, asB_ap, dOr_ap, dAnd_ap, dNot_ap, dAndV_ap, dOrV_ap, dNotV_ap, dIf_ap, oAdd_int, oSub_int, oLt_int, oLe_int, oGt_int, oGe_int, oNeg_int, oEq_int, oNe_int, oEq_fr, oNe_fr, oEq_bl, oNe_bl, oTup_ap, oLst_ap, oCall_ap, oAbs_ap, oMax_ap, oMin_ap, oToInt_b, oToInt_i, oLen_lst, oLen_scr, oLen_tup, oIx_lst, oIx_scr, oAdd_lst, oIx_tup, oIx_fr0, oIx_fr1, ixR_ok, oItL_ap, oItT_ap, sFor_ap, startD, List.map_cons, List.map_nil, List.length_cons, List.length_nil, List.replicate_succ, List.replicate_zero, List.cons_append, List.nil_append, List.append_nil, List.getElem?_cons_zero, List.getElem?_cons_succ, List.set_cons_zero, List.set_cons_succ, Nat.reduceAdd, Nat.reduceSub, Nat.sub_self, Nat.reduceLeDiff, List.all_cons, List.all_nil, np_fr, np_int, np_bl, np_tup, np_lst, np_str, np_non, Bool.and_self, Bool.and_true, if_true_, if_false_, zero_add', if_tt, if_ff, decide_true, decide_false, Nat.le_refl, oItS_lst, oItS_tup, oTupOf_lst, oTupOf_tup, oLstOf_lst, oLstOf_tup, oRv_lst, oRv_tup, oAdd_tup, dChain_ap, asTru_bl, asTru_tup, asTru_lst, oIsN_ap, oNotN_ap, asI_ap, oSl_tup, oSl_lst, oZip_tup, oZip_lst, oAddI_ap, oEqS_ap, oNeS_ap, oNe_nil, e1', r1]
  rw [e2]
  rfl
end Bw
open PySem PySem.W PyProof.Rows
set_option maxRecDepth 100000 in
set_option maxHeartbeats 0 in
theorem PySem.Challenge.cw_brineways_k44_pans_and_their_clamps_holds : PySem.Challenge.rw_brineways_k44_pans_and_their_clamps.Holds := by
  w_on; o_law; k_head; (case hw => w_witness2)
  k_fill
  refine Bw.walkG (l := PySem.Challenge.rw_brineways_k44_pans_and_their_clamps) (n := 63) (k := 15) (x := "_law_script") (sp := fun w => Bw.spL _ 1 Bw.F_law) rfl (by decide) rfl ⟨rfl, by decide, by decide⟩ (fun w h Y => PySem.W.kIn_of Y) ?F (fun _ _ a ns hl hS => Bw.law_start hl hS Bw.law_true)
  case F =>
    intro w mg fa h KX G hmg
    refine' Bw.law_end KX G hmg ?a0 ?l0 ?c0 ?k0 ?a1 ?l1 ?c1 ?k1 ?a2 ?l2 ?c2 ?k2 ?a3 ?l3 ?c3 ?k3 ?a4 ?l4 ?c4 ?k4 ?a5 ?l5 ?c5 ?k5 ?a6 ?l6 ?c6 ?k6 ?a7 ?l7 ?c7 ?k7 ?a8 ?l8 ?c8 ?k8 ?a9 ?l9 ?c9 ?k9 ?a10 ?l10 ?c10 ?k10 ?a11 ?l11 ?c11 ?k11 ?a12 ?l12 ?c12 ?k12 ?a13 ?l13 ?c13 ?k13 ?a14 ?l14 ?c14 ?k14 ?a15 ?l15 ?c15 ?k15 ?a16 ?l16 ?c16 ?k16 ?a17 ?l17 ?c17 ?k17 ?a18 ?l18 ?c18 ?k18 ?a19 ?l19 ?c19 ?k19 ?a20 ?l20 ?c20 ?k20 ?a21 ?l21 ?c21 ?k21 ?a22 ?l22 ?c22 ?k22 ?a23 ?l23 ?c23 ?k23 ?a24 ?l24 ?c24 ?k24 ?a25 ?l25 ?c25 ?k25 ?a26 ?l26 ?c26 ?k26 ?a27 ?l27 ?c27 ?k27 ?a28 ?l28 ?c28 ?k28 ?a29 ?l29 ?c29 ?k29 ?a30 ?l30 ?c30 ?k30 ?a31 ?l31 ?c31 ?k31 ?a32 ?l32 ?c32 ?k32 ?a33 ?l33 ?c33 ?k33 ?a34 ?l34 ?c34 ?k34 ?a35 ?l35 ?c35 ?k35 ?a36 ?l36 ?c36 ?k36 ?a37 ?l37 ?c37 ?k37 ?z_abs ?z_all ?z_bool ?z_int ?z_isinstance ?z_len ?z_list ?z_range ?z_repr ?z_tuple ?z_zip ?m_NOUGHT ?l_NOUGHT
    (case a0 => k_is)
    (case l0 => k_is)
    (case c0 => k_is)
    (case k0 => k_is)
    (case a1 => k_is)
    (case l1 => k_is)
    (case c1 => k_is)
    (case k1 => k_is)
    (case a2 => k_is)
    (case l2 => k_is)
    (case c2 => k_is)
    (case k2 => k_is)
    (case a3 => k_is)
    (case l3 => k_is)
    (case c3 => k_is)
    (case k3 => k_is)
    (case a4 => k_is)
    (case l4 => k_is)
    (case c4 => k_is)
    (case k4 => k_is)
    (case a5 => k_is)
    (case l5 => k_is)
    (case c5 => k_is)
    (case k5 => k_is)
    (case a6 => k_is)
    (case l6 => k_is)
    (case c6 => k_is)
    (case k6 => k_is)
    (case a7 => k_is)
    (case l7 => k_is)
    (case c7 => k_is)
    (case k7 => k_is)
    (case a8 => k_is)
    (case l8 => k_is)
    (case c8 => k_is)
    (case k8 => k_is)
    (case a9 => k_is)
    (case l9 => k_is)
    (case c9 => k_is)
    (case k9 => k_is)
    (case a10 => k_is)
    (case l10 => k_is)
    (case c10 => k_is)
    (case k10 => k_is)
    (case a11 => k_is)
    (case l11 => k_is)
    (case c11 => k_is)
    (case k11 => k_is)
    (case a12 => k_is)
    (case l12 => k_is)
    (case c12 => k_is)
    (case k12 => k_is)
    (case a13 => k_is)
    (case l13 => k_is)
    (case c13 => k_is)
    (case k13 => k_is)
    (case a14 => k_is)
    (case l14 => k_is)
    (case c14 => k_is)
    (case k14 => k_is)
    (case a15 => k_is)
    (case l15 => k_is)
    (case c15 => k_is)
    (case k15 => k_is)
    (case a16 => k_is)
    (case l16 => k_is)
    (case c16 => k_is)
    (case k16 => k_is)
    (case a17 => k_is)
    (case l17 => k_is)
    (case c17 => k_is)
    (case k17 => k_is)
    (case a18 => k_is)
    (case l18 => k_is)
    (case c18 => k_is)
    (case k18 => k_is)
    (case a19 => k_is)
    (case l19 => k_is)
    (case c19 => k_is)
    (case k19 => k_is)
    (case a20 => k_is)
    (case l20 => k_is)
    (case c20 => k_is)
    (case k20 => k_is)
    (case a21 => k_is)
    (case l21 => k_is)
    (case c21 => k_is)
    (case k21 => k_is)
    (case a22 => k_is)
    (case l22 => k_is)
    (case c22 => k_is)
    (case k22 => k_is)
    (case a23 => k_is)
    (case l23 => k_is)
    (case c23 => k_is)
    (case k23 => k_is)
    (case a24 => k_is)
    (case l24 => k_is)
    (case c24 => k_is)
    (case k24 => k_is)
    (case a25 => k_is)
    (case l25 => k_is)
    (case c25 => k_is)
    (case k25 => k_is)
    (case a26 => k_is)
    (case l26 => k_is)
    (case c26 => k_is)
    (case k26 => k_is)
    (case a27 => k_is)
    (case l27 => k_is)
    (case c27 => k_is)
    (case k27 => k_is)
    (case a28 => k_is)
    (case l28 => k_is)
    (case c28 => k_is)
    (case k28 => k_is)
    (case a29 => k_is)
    (case l29 => k_is)
    (case c29 => k_is)
    (case k29 => k_is)
    (case a30 => k_is)
    (case l30 => k_is)
    (case c30 => k_is)
    (case k30 => k_is)
    (case a31 => k_is)
    (case l31 => k_is)
    (case c31 => k_is)
    (case k31 => k_is)
    (case a32 => k_is)
    (case l32 => k_is)
    (case c32 => k_is)
    (case k32 => k_is)
    (case a33 => k_is)
    (case l33 => k_is)
    (case c33 => k_is)
    (case k33 => k_is)
    (case a34 => k_is)
    (case l34 => k_is)
    (case c34 => k_is)
    (case k34 => k_is)
    (case a35 => k_is)
    (case l35 => k_is)
    (case c35 => k_is)
    (case k35 => k_is)
    (case a36 => k_is)
    (case l36 => k_is)
    (case c36 => k_is)
    (case k36 => k_is)
    (case a37 => k_is)
    (case l37 => k_is)
    (case c37 => k_is)
    (case k37 => k_is)
    (case z_abs => k_is)
    (case z_all => k_is)
    (case z_bool => k_is)
    (case z_int => k_is)
    (case z_isinstance => k_is)
    (case z_len => k_is)
    (case z_list => k_is)
    (case z_range => k_is)
    (case z_repr => k_is)
    (case z_tuple => k_is)
    (case z_zip => k_is)
    (case m_NOUGHT => k_is)
    (case l_NOUGHT => k_is)
