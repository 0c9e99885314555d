import PyProof.Rows.All
import Wide.All
import OpenK.AllK
import Wide.FinOn
import HandS.ForMost
import HandS.ForExc
import HandS.Wide
import HandS.SetFor
import HandS.ExcIs
import HandS.IsInst
import HandS.RaiseMore
import HandS.Style
import HandS.TupAny
import HandS.Zip
import HandS.Deep
import PyProof.Rows.ReprR
import PySem.Challenge.RW_brineways_k05_rows_of_fractions
set_option Elab.async false
set_option linter.all false
set_option maxRecDepth 100000
/-! data-level readings -/
namespace Bw
open PySem PySem.Spec PyProof.Rows L2
inductive D where
  | non | bl (b : Bool) | int (i : Int) | str (z : Str) | tup (ds : List D) | lst (ds : List D) | ptr (n : Nat) | exv (x : Str) | scr (ds : List D) | emp
abbrev Mem := List (Option (List D))
abbrev Env := List (Option D)
inductive Rp (K : PySem.W.Frag) (G : Hp) : V → D → Prop
  | non : Rp K G .non .non
  | bl (b : Bool) : Rp K G (.bl b) (.bl b)
  | int (i : Int) : Rp K G (.int i) (.int i)
  | str (z : Str) : Rp K G (.str z) (.str z)
  | tup {a : Addr} {xs : List V} {ds : List D} (h : SqT K G a xs) (l : xs.length = ds.length) (e : ∀ (i : Nat) (v : V) (d : D), xs[i]? = some v → ds[i]? = some d → Rp K G v d) : Rp K G (.ref a) (.tup ds)
  | emp {a : Addr} (h : G a = some (.dK [])) : Rp K G (.ref a) .emp
  | scr {a : Addr} {xs : List V} {ds : List D} (h : SqL K G a xs) (l : xs.length = ds.length) (e : ∀ (i : Nat) (v : V) (d : D), xs[i]? = some v → ds[i]? = some d → Rp K G v d) : Rp K G (.ref a) (.scr ds)
  | lst {a : Addr} {xs : List V} {ds : List D} (h : G a = some (.lst xs)) (l : xs.length = ds.length) (e : ∀ (i : Nat) (v : V) (d : D), xs[i]? = some v → ds[i]? = some d → Rp K G v d) : Rp K G (.ref a) (.lst ds)
theorem seqT {K : PySem.W.Frag} {H H' : Hp} {a : Addr} {xs : List V} (e : Same H H') (h : SqT K H a xs) : SqT K H' a xs := by
  rcases h with (h | ⟨o, h⟩) | h
  · exact .inl (.inl (e _ _ h))
  · exact .inl (.inr ⟨o, e _ _ h⟩)
  · exact .inr h
theorem Rp.mono {K : PySem.W.Frag} {G G' : Hp} (s : Same G G') {v : V} {d : D} (h : Rp K G v d) : Rp K G' v d := by
  induction h with
  | non => exact .non
  | bl b => exact .bl b
  | int i => exact .int i
  | str z => exact .str z
  | tup h l e ih => exact .tup (seqT s h) l ih
  | lst h l e ih => exact .lst (s _ _ h) l ih
  | scr h l e ih => exact .scr (s.seq h) l ih
  | emp h => exact .emp (s _ _ h)
/-- lists of values and data -/
structure RpL (K : PySem.W.Frag) (G : Hp) (xs : List V) (ds : List D) : Prop where
  len : xs.length = ds.length
  get : ∀ (i : Nat) (v : V) (d : D), xs[i]? = some v → ds[i]? = some d → Rp K G v d
theorem RpL.mono {K : PySem.W.Frag} {G G' : Hp} (s : Same G G') {xs : List V} {ds : List D} (h : RpL K G xs ds) : RpL K G' xs ds := ⟨h.len, fun i v d a b => (h.get i v d a b).mono s⟩
theorem RpL.nil {K : PySem.W.Frag} {G : Hp} : RpL K G [] [] := ⟨rfl, fun i v d h => by simp at h⟩
theorem RpL.cons {K : PySem.W.Frag} {G : Hp} {v : V} {d : D} {xs : List V} {ds : List D} (h : Rp K G v d) (r : RpL K G xs ds) : RpL K G (v :: xs) (d :: ds) := by
  refine ⟨by simp [r.len], fun i w e h1 h2 => ?_⟩
  cases i with
  | zero => simp at h1 h2; subst h1; subst h2; exact h
  | succ i => exact r.get i w e (by simpa using h1) (by simpa using h2)
theorem RpL.uncons {K : PySem.W.Frag} {G : Hp} {xs : List V} {d : D} {ds : List D} (r : RpL K G xs (d :: ds)) : ∃ v ys, xs = v :: ys ∧ Rp K G v d ∧ RpL K G ys ds := by
  cases xs with
  | nil => exact absurd r.len (by simp)
  | cons v ys => exact ⟨v, ys, rfl, r.get 0 v d rfl rfl, by have := r.len; simpa using this, fun i w e h1 h2 => r.get (i + 1) w e (by simpa using h1) (by simpa using h2)⟩
theorem RpL.nil_of {K : PySem.W.Frag} {G : Hp} {xs : List V} (r : RpL K G xs []) : xs = [] := by
  cases xs with
  | nil => rfl
  | cons v ys => exact absurd r.len (by simp)
theorem RpL.append {K : PySem.W.Frag} {G : Hp} {xs ys : List V} {ds es : List D} (h : RpL K G xs ds) (r : RpL K G ys es) : RpL K G (xs ++ ys) (ds ++ es) := by
  refine ⟨by simp [h.len, r.len], fun i w e h1 h2 => ?_⟩
  by_cases hi : i < xs.length
  · rw [List.getElem?_append_left hi] at h1
    rw [List.getElem?_append_left (by rw [← h.len]; exact hi)] at h2
    exact h.get i w e h1 h2
  · rw [List.getElem?_append_right (by omega)] at h1
    rw [List.getElem?_append_right (by rw [← h.len]; omega), ← h.len] at h2
    exact r.get _ w e h1 h2
theorem RpL.at {K : PySem.W.Frag} {G : Hp} {xs : List V} {ds : List D} (r : RpL K G xs ds) {i : Nat} {d : D} (h : ds[i]? = some d) : ∃ v, xs[i]? = some v ∧ Rp K G v d := by
  have hi : i < ds.length := by
    rcases Nat.lt_or_ge i ds.length with q | q
    · exact q
    · rw [List.getElem?_eq_none q] at h; cases h
  have hx : i < xs.length := by rw [r.len]; exact hi
  exact ⟨xs[i], List.getElem?_eq_getElem hx, r.get i _ d (List.getElem?_eq_getElem hx) h⟩
theorem RpL.set {K : PySem.W.Frag} {G : Hp} {xs : List V} {ds : List D} (r : RpL K G xs ds) {j : Nat} {v : V} {d : D} (h : Rp K G v d) : RpL K G (xs.set j v) (ds.set j d) := by
  refine ⟨by simp [r.len], fun i w e h1 h2 => ?_⟩
  by_cases hj : j = i
  · subst hj
    rw [List.getElem?_set_self'] at h1 h2
    cases e1 : xs[j]? with
    | none => rw [e1] at h1; cases h1
    | some a =>
      cases e2 : ds[j]? with
      | none => rw [e2] at h2; cases h2
      | some b =>
        rw [e1] at h1; rw [e2] at h2
        simp at h1 h2; subst h1; subst h2; exact h
  · rw [List.getElem?_set_ne hj] at h1 h2
    exact r.get i w e h1 h2
/-- at a an error of the class cls, without a dict of its own -/
def ExQ (cls : Value) (a : Addr) : HO := .ext fun h => ∃ (oe : Obj) (vs : Array Value), h.get? a = some oe ∧ Zc cls none oe ∧ oe.data = .fields vs
/-- a value: data, or a mutable list by its number, or an error by its class's name -/
inductive Rv (K : PySem.W.Frag) (θ : List Addr) (G : Hp) : V → D → Prop
  | dat {v : V} {d : D} (h : Rp K G v d) : Rv K θ G v d
  | ptr {n : Nat} {a : Addr} (h : θ[n]? = some a) : Rv K θ G (.ref a) (.ptr n)
  | exv {x : Str} {a C : Addr} (hn : PySem.W.nsIn K mainGlobals x = some (some (.ref C))) (h : G a = some (ExQ (.ref C) a)) : Rv K θ G (.ref a) (.exv x)
theorem pre_get {θ θ' : List Addr} (p : θ <+: θ') {n : Nat} {a : Addr} (h : θ[n]? = some a) : θ'[n]? = some a := by
  obtain ⟨r, rfl⟩ := p
  have hn : n < θ.length := by
    rcases Nat.lt_or_ge n θ.length with q | q
    · exact q
    · rw [List.getElem?_eq_none q] at h; cases h
  rw [List.getElem?_append_left hn]; exact h
theorem Rv.mono {K : PySem.W.Frag} {θ θ' : List Addr} {G G' : Hp} (p : θ <+: θ') (s : Same G G') {v : V} {d : D} (h : Rv K θ G v d) : Rv K θ' G' v d := by
  cases h with
  | dat h => exact .dat (h.mono s)
  | ptr h => exact .ptr (pre_get p h)
  | exv hn h => exact .exv hn (s _ _ h)
/-- the heap -/
structure Rs (K : PySem.W.Frag) (θ : List Addr) (G H : Hp) (M : Mem) : Prop where
  sub : Same G H
  len : θ.length = M.length
  nd : θ.Nodup
  live : ∀ (n : Nat) (a : Addr), θ[n]? = some a → H a ≠ none
  mem : ∀ (n : Nat) (a : Addr) (ds : List D), θ[n]? = some a → M[n]? = some (some ds) → G a = none ∧ ∃ xs, H a = some (.lst xs) ∧ RpL K G xs ds
/-- the slots -/
structure Rσ (K : PySem.W.Frag) (θ : List Addr) (G : Hp) (σ : L2.St) (ρ : Env) : Prop where
  len : σ.length = ρ.length
  get : ∀ (i : Nat) (d : D), ρ[i]? = some (some d) → ∃ v, σ[i]? = some (some v) ∧ Rv K θ G v d
theorem Rσ.mono {K : PySem.W.Frag} {θ θ' : List Addr} {G G' : Hp} (p : θ <+: θ') (s : Same G G') {σ : L2.St} {ρ : Env} (h : Rσ K θ G σ ρ) : Rσ K θ' G' σ ρ :=
  ⟨h.len, fun i d e => by obtain ⟨v, a, b⟩ := h.get i d e; exact ⟨v, a, b.mono p s⟩⟩
theorem Rσ.set {K : PySem.W.Frag} {θ : List Addr} {G : Hp} {σ : L2.St} {ρ : Env} (h : Rσ K θ G σ ρ) {i : Nat} {v : V} {d : D} (r : Rv K θ G v d) : Rσ K θ G (σ.set i (some v)) (ρ.set i (some d)) := by
  refine ⟨by simp [h.len], fun j e hj => ?_⟩
  by_cases hij : i = j
  · subst hij
    rw [List.getElem?_set_self'] at hj ⊢
    cases e1 : ρ[i]? with
    | none => rw [e1] at hj; cases hj
    | some a =>
      rw [e1] at hj
      simp at hj; subst hj
      have hi : i < σ.length := by
        rw [h.len]
        rcases Nat.lt_or_ge i ρ.length with q | q
        · exact q
        · rw [List.getElem?_eq_none q] at e1; cases e1
      rw [List.getElem?_eq_getElem hi]
      exact ⟨v, rfl, r⟩
  · rw [List.getElem?_set_ne hij] at hj ⊢
    exact h.get j e hj
theorem Rσ.start {K : PySem.W.Frag} {θ : List Addr} {G : Hp} {N : List Str} {vs : List V} {ds : List D} (l : vs.length = ds.length) (h : ∀ (i : Nat) (v : V) (d : D), vs[i]? = some v → ds[i]? = some d → Rv K θ G v d) (k : Nat) (hk : k = N.length - ds.length) :
    Rσ K θ G (L2.start N vs) (ds.map some ++ List.replicate k none) := by
  unfold L2.start
  refine ⟨by simp [l, hk], fun i d hi => ?_⟩
  by_cases q : i < ds.length
  · rw [List.getElem?_append_left (by simpa using q)] at hi
    rw [List.getElem?_append_left (by simpa [l] using q)]
    rw [List.getElem?_map, List.getElem?_eq_getElem q] at hi
    rw [List.getElem?_map, List.getElem?_eq_getElem (by rw [l]; exact q)]
    simp at hi; subst hi
    exact ⟨_, rfl, h i _ _ (List.getElem?_eq_getElem (by rw [l]; exact q)) (List.getElem?_eq_getElem q)⟩
  · rw [List.getElem?_append_right (by simpa using q), List.getElem?_replicate] at hi
    split at hi <;> cases hi
/-! ### a new object, a store -/
theorem Rs.fresh {K : PySem.W.Frag} {θ : List Addr} {G H : Hp} {M : Mem} (r : Rs K θ G H M) {p : Addr} (hp : H p = none) : G p = none := by
  cases e : G p with
  | none => rfl
  | some o => rw [r.sub _ _ e] at hp; cases hp
theorem same_upd {H : Hp} {p : Addr} {o : HO} (h : H p = none) : Same H (upd H p o) := fun b x e => by
  rw [upd_ne (ne_of_none e h)]
  exact e
theorem live_upd {H : Hp} {a p : Addr} {o : HO} (h : H a ≠ none) : (upd H p o) a ≠ none := by
  by_cases q : a = p
  · subst q; rw [upd_same]; exact fun z => by cases z
  · rw [upd_ne q]; exact h
/-- an immutable thing laid -/
theorem Rs.laid {K : PySem.W.Frag} {θ : List Addr} {G H : Hp} {M : Mem} (r : Rs K θ G H M) {p : Addr} (hp : H p = none) (o : HO) : Rs K θ (upd G p o) (upd H p o) M := by
  refine ⟨fun b x e => ?_, r.len, r.nd, fun n a h => live_upd (r.live n a h), fun n a ds h1 h2 => ?_⟩
  · by_cases hb : b = p
    · subst hb; rw [upd_same] at e ⊢; exact e
    · rw [upd_ne hb] at e ⊢; exact r.sub _ _ e
  · obtain ⟨g, xs, hx, rl⟩ := r.mem n a ds h1 h2
    have ha : a ≠ p := ne_of_none hx hp
    refine ⟨by rw [upd_ne ha]; exact g, xs, by rw [upd_ne ha]; exact hx, rl.mono (same_upd (r.fresh hp))⟩
/-- a mutable list laid -/
theorem Rs.laidM {K : PySem.W.Frag} {θ : List Addr} {G H : Hp} {M : Mem} (r : Rs K θ G H M) {p : Addr} (hp : H p = none) {xs : List V} {ds : List D} (h : RpL K G xs ds) :
    Rs K (θ ++ [p]) G (upd H p (.lst xs)) (M ++ [some ds]) := by
  refine ⟨fun b x e => same_upd hp _ _ (r.sub _ _ e), by simp [r.len], ?_, fun n a h => ?_, fun n a es h1 h2 => ?_⟩
  · rw [List.nodup_append]
    refine ⟨r.nd, by simp, fun a ha b hb => ?_⟩
    simp at hb; subst hb
    rintro rfl
    obtain ⟨n, hn⟩ := List.mem_iff_getElem?.mp ha
    exact r.live n a hn hp
  · by_cases hn : n < θ.length
    · rw [List.getElem?_append_left hn] at h
      exact live_upd (r.live n a h)
    · rw [List.getElem?_append_right (by omega)] at h
      have : n - θ.length = 0 := by
        rcases Nat.eq_zero_or_pos (n - θ.length) with q | q
        · exact q
        · rw [List.getElem?_eq_none (by simp; omega)] at h; cases h
      rw [this] at h
      simp at h; subst h
      rw [upd_same]; exact fun z => by cases z
  · by_cases hn : n < M.length
    · rw [List.getElem?_append_left (by rw [r.len]; exact hn)] at h1
      rw [List.getElem?_append_left hn] at h2
      obtain ⟨g, ys, hy, rl⟩ := r.mem n a es h1 h2
      have ha : a ≠ p := ne_of_none hy hp
      exact ⟨g, ys, by rw [upd_ne ha]; exact hy, rl⟩
    · rw [List.getElem?_append_right (by omega)] at h2
      rw [List.getElem?_append_right (by rw [r.len]; omega), r.len] at h1
      have : n - M.length = 0 := by
        rcases Nat.eq_zero_or_pos (n - M.length) with q | q
        · exact q
        · rw [List.getElem?_eq_none (by simp; omega)] at h2; cases h2
      rw [this] at h1 h2
      simp at h1 h2; subst h1; subst h2
      exact ⟨r.fresh hp, xs, upd_same, h⟩
end Bw
namespace Bw
open PySem PySem.Spec PyProof.Rows L2
/-- a wish of an error, by its class's name -/
abbrev WN := Str → L2.St → Hp → Prop
inductive Res (α : Type) where
  | ok (a : α) | exc (C : Str)
abbrev Ev (α : Type) := Env → Mem → Option (Res α × Mem)
def ret {α : Type} (a : α) : Ev α := fun _ M => some (.ok a, M)
def stk {α : Type} : Ev α := fun _ _ => none
def bnd {α β : Type} (f : Ev α) (g : α → Ev β) : Ev β := fun ρ M =>
  match f ρ M with
  | some (.ok a, M1) => g a ρ M1
  | some (.exc C, M1) => some (.exc C, M1)
  | none => none
abbrev Rd' (A B : Type) := List Addr → Hp → A → B → Prop
/-- a reading t and what it gives, f, from θ0, G0 on -/
def Snd (K : PySem.W.Frag) (W : WN) {A α : Type} (R : List Addr → Hp → A → α → Prop) (θ0 : List Addr) (G0 : Hp) (t : L2.St → Hp → (A → Hp → Prop) → Prop) (f : Ev α) : Prop :=
  ∀ (ρ : Env) (M : Mem) (r : Res α) (M' : Mem) (θ : List Addr) (G : Hp) (σ : L2.St) (H : Hp) (Q : A → Hp → Prop), θ0 <+: θ → Same G0 G → f ρ M = some (r, M') → Rs K θ G H M → Rσ K θ G σ ρ →
    (∀ (θ' : List Addr) (G' H' : Hp), θ <+: θ' → Same G G' → Rs K θ' G' H' M' → (∀ C, r = .exc C → W C σ H') ∧ (∀ d v, r = .ok d → R θ' G' v d → Q v H')) → t σ H Q
section
variable {K : PySem.W.Frag} {W : WN} {A B α β : Type} {R : List Addr → Hp → A → α → Prop} {R2 : List Addr → Hp → B → β → Prop} {θ0 θ1 : List Addr} {G0 G1 : Hp}
theorem Snd.mono {t : L2.St → Hp → (A → Hp → Prop) → Prop} {f : Ev α} (h : Snd K W R θ0 G0 t f) (p : θ0 <+: θ1) (s : Same G0 G1) : Snd K W R θ1 G1 t f :=
  fun ρ M r M' θ G σ H Q p' s' e rs rv k => h ρ M r M' θ G σ H Q (p.trans p') (s.trans s') e rs rv k
theorem Snd.bind {t : L2.St → Hp → (A → Hp → Prop) → Prop} {f : Ev α} {k : A → L2.St → Hp → (B → Hp → Prop) → Prop} {g : α → Ev β} (h : Snd K W R θ0 G0 t f)
    (h2 : ∀ θ G v d, θ0 <+: θ → Same G0 G → R θ G v d → Snd K W R2 θ G (k v) (g d)) : Snd K W R2 θ0 G0 (fun σ H Q => t σ H fun v H1 => k v σ H1 Q) (bnd f g) := by
  intro ρ M r M' θ G σ H Q p s e rs rv kk
  unfold bnd at e
  cases q : f ρ M with
  | none => rw [q] at e; cases e
  | some z =>
    obtain ⟨r1, M1⟩ := z
    rw [q] at e
    refine h ρ M r1 M1 θ G σ H _ p s q rs rv fun θ' G' H' p' s' rs' => ?_
    cases r1 with
    | exc C =>
      simp at e
      obtain ⟨e1, e2⟩ := e
      subst e1; subst e2
      exact ⟨fun C' h => (kk θ' G' H' p' s' rs').1 C' (by cases h; rfl), fun d v h => by cases h⟩
    | ok a =>
      refine ⟨fun C' h => (by cases h), fun d v h rel => ?_⟩
      cases h
      exact h2 θ' G' v a (p.trans p') (s.trans s') rel ρ M1 r M' θ' G' σ H' Q (List.prefix_refl _) (Same.refl _) e rs' (rv.mono p' s')
        fun θ2 G2 H2 p2 s2 rs2 => kk θ2 G2 H2 (p'.trans p2) (s'.trans s2) rs2
theorem Snd.ret {v : A} {d : α} (h : ∀ θ G, θ0 <+: θ → Same G0 G → R θ G v d) : Snd K W R θ0 G0 (fun _ H Q => Q v H) (ret d) := by
  intro ρ M r M' θ G σ H Q p s e rs rv kk
  unfold Bw.ret at e
  simp at e
  obtain ⟨e1, e2⟩ := e
  subst e1; subst e2
  exact (kk θ G H (List.prefix_refl _) (Same.refl _) rs).2 d v rfl (h θ G p s)
theorem Snd.stk {t : L2.St → Hp → (A → Hp → Prop) → Prop} : Snd K W R θ0 G0 t (stk (α := α)) := by
  intro ρ M r M' θ G σ H Q p s e
  cases e
theorem Snd.of_eq {t t' : L2.St → Hp → (A → Hp → Prop) → Prop} {f : Ev α} (h : Snd K W R θ0 G0 t f) (e : t = t') : Snd K W R θ0 G0 t' f := e ▸ h
end
/-! ### the relations -/
abbrev RV (K : PySem.W.Frag) : List Addr → Hp → V → D → Prop := fun θ G v d => Rv K θ G v d
abbrev RB : List Addr → Hp → Bool → Bool → Prop := fun _ _ b c => b = c
structure RvL (K : PySem.W.Frag) (θ : List Addr) (G : Hp) (xs : List V) (ds : List D) : Prop where
  len : xs.length = ds.length
  get : ∀ (i : Nat) (v : V) (d : D), xs[i]? = some v → ds[i]? = some d → Rv K θ G v d
abbrev RL (K : PySem.W.Frag) : List Addr → Hp → List V → List D → Prop := fun θ G v d => RvL K θ G v d
theorem RvL.nil {K : PySem.W.Frag} {θ : List Addr} {G : Hp} : RvL K θ G [] [] := ⟨rfl, fun i v d h => by simp at h⟩
theorem RvL.cons {K : PySem.W.Frag} {θ : List Addr} {G : Hp} {v : V} {d : D} {xs : List V} {ds : List D} (h : Rv K θ G v d) (r : RvL K θ G xs ds) : RvL K θ G (v :: xs) (d :: ds) := by
  refine ⟨by simp [r.len], fun i w e h1 h2 => ?_⟩
  cases i with
  | zero => simp at h1 h2; subst h1; subst h2; exact h
  | succ i => exact r.get i w e (by simpa using h1) (by simpa using h2)
theorem RvL.mono {K : PySem.W.Frag} {θ θ' : List Addr} {G G' : Hp} (p : θ <+: θ') (s : Same G G') {xs : List V} {ds : List D} (h : RvL K θ G xs ds) : RvL K θ' G' xs ds := ⟨h.len, fun i v d a b => (h.get i v d a b).mono p s⟩
theorem RvL.uncons {K : PySem.W.Frag} {θ : List Addr} {G : Hp} {xs : List V} {d : D} {ds : List D} (r : RvL K θ G xs (d :: ds)) : ∃ v ys, xs = v :: ys ∧ Rv K θ G v d ∧ RvL K θ G ys ds := by
  cases xs with
  | nil => exact absurd r.len (by simp)
  | cons v ys => exact ⟨v, ys, rfl, r.get 0 v d rfl rfl, by have := r.len; simpa using this, fun i w e h1 h2 => r.get (i + 1) w e (by simpa using h1) (by simpa using h2)⟩
theorem RvL.nil_of {K : PySem.W.Frag} {θ : List Addr} {G : Hp} {xs : List V} (r : RvL K θ G xs []) : xs = [] := by
  cases xs with
  | nil => rfl
  | cons v ys => exact absurd r.len (by simp)
/-- no pointers -/
def D.np : D → Bool
  | .ptr _ => false
  | .exv _ => false
  | _ => true
theorem Rv.rp {K : PySem.W.Frag} {θ : List Addr} {G : Hp} {v : V} {d : D} (h : Rv K θ G v d) (n : d.np = true) : Rp K G v d := by
  cases h with
  | dat h => exact h
  | ptr h => cases n
  | exv _ h => cases n
theorem RvL.rp {K : PySem.W.Frag} {θ : List Addr} {G : Hp} {xs : List V} {ds : List D} (h : RvL K θ G xs ds) (n : ds.all D.np = true) : RpL K G xs ds :=
  ⟨h.len, fun i v d a b => (h.get i v d a b).rp (by rw [List.all_eq_true] at n; exact n d (List.mem_of_getElem? b))⟩
/-! ### expressions -/
def DE (X : Cx) (W : WN) (e : Expr) (f : Ev D) : Prop := ∃ t, PE X e t ∧ ∀ θ G, Snd X.K W (RV X.K) θ G t f
def DT (X : Cx) (W : WN) (e : Expr) (f : Ev Bool) : Prop := ∃ t, PT X e t ∧ ∀ θ G, Snd X.K W RB θ G t f
def DW (X : Cx) (W : WN) (e : Expr) (f : Ev Bool) : Prop := ∃ t, PW X e t ∧ ∀ θ G, Snd X.K W RB θ G t f
def DA (X : Cx) (W : WN) (es : List Expr) (f : Ev (List D)) : Prop := ∃ t, PA X es t ∧ ∀ θ G, Snd X.K W (RL X.K) θ G t f
section
variable {X : Cx} {W : WN} {pos : Pos}
def dVar (i : Nat) : Ev D := fun ρ M => match ρ[i]? with
  | some (some d) => some (.ok d, M)
  | _ => none
theorem de_var (i : Nat) {x : Str} (hN : X.N[i]? = some x := by rfl) (hv : Vis X.env.scope x := by first | exact Or.inl rfl | exact Or.inr (Or.inl rfl) | exact Or.inr (Or.inr rfl)) (hd : (x == ("__debug__" : Str)) = false := by decide)
    (hcd : (x == ("__classdict__" : Str)) = false := by decide) : DE X W (.Name x pos) (dVar i) := by
  refine ⟨tVar i, pe_var hN hv hd hcd, fun θ0 G0 ρ M r M' θ G σ H Q p s e rs rv kk => ?_⟩
  unfold dVar at e
  cases q : ρ[i]? with
  | none => rw [q] at e; cases e
  | some z =>
    cases z with
    | none => rw [q] at e; cases e
    | some d =>
      rw [q] at e
      simp at e
      obtain ⟨e1, e2⟩ := e
      subst e1; subst e2
      obtain ⟨v, hv, r⟩ := rv.get i d q
      exact ⟨v, hv, (kk θ G H (List.prefix_refl _) (Same.refl _) rs).2 d v rfl r⟩
theorem snd_c {K : PySem.W.Frag} {θ : List Addr} {G : Hp} {v : V} {d : D} (h : ∀ G, Rp K G v d) : Snd K W (RV K) θ G (tC v) (ret d) := Snd.ret fun _ G _ _ => .dat (h G)
theorem de_int {i : Int} {j : Nat} : DE X W (.Constant (.int i) j pos) (ret (.int i)) := ⟨_, pe_int, fun _ _ => snd_c fun _ => .int i⟩
theorem de_bl {b : Bool} {j : Nat} : DE X W (.Constant (.bool b) j pos) (ret (.bl b)) := ⟨_, pe_bl, fun _ _ => snd_c fun _ => .bl b⟩
theorem de_non {j : Nat} : DE X W (.Constant .none j pos) (ret .non) := ⟨_, pe_non, fun _ _ => snd_c fun _ => .non⟩
theorem de_str {z : Str} {j : Nat} : DE X W (.Constant (.str z) j pos) (ret (.str z)) := ⟨_, pe_str, fun _ _ => snd_c fun _ => .str z⟩
/-- by two values -/
def SndO (K : PySem.W.Frag) (W : WN) (r : R2) (o : D → D → Ev D) : Prop := ∀ θ G x y d e, Rv K θ G x d → Rv K θ G y e → Snd K W (RV K) θ G (fun _ H Q => r x y H Q) (o d e)
theorem snd_op {K : PySem.W.Frag} {r : R2} {o : D → D → Ev D} {ta tb : TE} {f g : Ev D} (h : SndO K W r o) {θ : List Addr} {G : Hp} (ha : ∀ θ G, Snd K W (RV K) θ G ta f) (hb : ∀ θ G, Snd K W (RV K) θ G tb g) :
    Snd K W (RV K) θ G (tOp r ta tb) (bnd f fun d => bnd g fun e => o d e) :=
  (ha θ G).bind (k := fun x σ H1 Q => tb σ H1 fun y H2 => r x y H2 Q) fun θ1 G1 v d _ _ hv => (hb θ1 G1).bind (k := fun y σ H2 Q => r v y H2 Q) fun θ2 G2 u e p s hu => h θ2 G2 v u d e (hv.mono p s) hu
theorem de_op {op : Operator} {r : R2} {o : D → D → Ev D} {a b : Expr} {f g : Ev D} (ho : OpR X (binaryOp op) r) (so : SndO X.K W r o) (ha : DE X W a f) (hb : DE X W b g) : DE X W (.BinOp a op b pos) (bnd f fun d => bnd g fun e => o d e) := by
  obtain ⟨ta, pa, sa⟩ := ha
  obtain ⟨tb, pb, sb⟩ := hb
  exact ⟨_, pe_op ho pa pb, fun θ G => snd_op so sa sb⟩
theorem de_cmp {op : CmpOp} {r : R2} {o : D → D → Ev D} {a b : Expr} {f g : Ev D} (ho : OpR X (compareOp op) r) (so : SndO X.K W r o) (ha : DE X W a f) (hb : DE X W b g) (hm : behindInMarks op b = false) : DE X W (.Compare a [op] [b] pos) (bnd f fun d => bnd g fun e => o d e) := by
  obtain ⟨ta, pa, sa⟩ := ha
  obtain ⟨tb, pb, sb⟩ := hb
  exact ⟨_, pe_cmpR ho pa pb hm, fun θ G => snd_op so sa sb⟩
/-- a bool as a test -/
def asB (d : D) : Ev Bool := match d with
  | .bl b => ret b
  | _ => stk
theorem snd_tB {K : PySem.W.Frag} {t : TE} {f : Ev D} (h : ∀ θ G, Snd K W (RV K) θ G t f) (θ : List Addr) (G : Hp) : Snd K W RB θ G (tB t) (bnd f asB) := by
  refine (h θ G).bind (k := fun x _ H1 Q => ∃ c, x = .bl c ∧ Q c H1) fun θ1 G1 v d _ _ hv => ?_
  cases d with
  | bl b =>
    cases hv with
    | dat hv =>
      cases hv
      intro ρ M r M' θ G σ H Q p s e rs rv kk
      exact ⟨b, rfl, Snd.ret (K := K) (W := W) (R := RB) (θ0 := θ1) (G0 := G1) (v := b) (d := b) (fun _ _ _ _ => rfl) ρ M r M' θ G σ H Q p s e rs rv kk⟩
  | _ => exact Snd.stk
theorem dt_val {e : Expr} {f : Ev D} (h : DE X W e f) (he : ∀ whole, isTrue e X.env whole = (do let v ← whole; standAt e.pos; holding [v] (truthy v)) := by intro _; rfl) : DT X W e (bnd f asB) := by
  obtain ⟨t, p, s⟩ := h
  exact ⟨_, pt_val p he, snd_tB s⟩
theorem dt_cmp {op : CmpOp} {r : R2} {o : D → D → Ev D} {a b : Expr} {f g : Ev D} (ho : OpR X (compareOp op) r) (so : SndO X.K W r o) (ha : DE X W a f) (hb : DE X W b g) (hm : behindInMarks op b = false) : DT X W (.Compare a [op] [b] pos) (bnd (bnd f fun d => bnd g fun e => o d e) asB) := by
  obtain ⟨ta, pa, sa⟩ := ha
  obtain ⟨tb, pb, sb⟩ := hb
  exact ⟨_, pt_cmpR ho pa pb hm, snd_tB fun θ G => snd_op so sa sb⟩
/-! tests -/
def dAnd (f g : Ev Bool) : Ev Bool := bnd f fun c => if c = true then g else ret false
def dOr (f g : Ev Bool) : Ev Bool := bnd f fun c => if c = true then ret true else g
def dNot (f : Ev Bool) : Ev Bool := bnd f fun c => ret (!c)
theorem snd_b {K : PySem.W.Frag} {θ : List Addr} {G : Hp} {b : Bool} : Snd K W RB θ G (fun _ H Q => Q b H) (ret b) := Snd.ret fun _ _ _ _ => rfl
theorem dw_and1 {a : Expr} {f : Ev Bool} (h : DT X W a f) : DW X W (.BoolOp .And [a] pos) f := by obtain ⟨t, p, s⟩ := h; exact ⟨_, pw_and1 p, s⟩
theorem dw_or1 {a : Expr} {f : Ev Bool} (h : DT X W a f) : DW X W (.BoolOp .Or [a] pos) f := by obtain ⟨t, p, s⟩ := h; exact ⟨_, pw_or1 p, s⟩
theorem dw_and {a b : Expr} {rest : List Expr} {f g : Ev Bool} (h : DT X W a f) (h2 : DW X W (.BoolOp .And (b :: rest) pos) g) : DW X W (.BoolOp .And (a :: b :: rest) pos) (dAnd f g) := by
  obtain ⟨t, p, s⟩ := h
  obtain ⟨u, p2, s2⟩ := h2
  refine ⟨_, pw_and p p2, fun θ G => (s θ G).bind (k := fun c σ H1 Q => if c = true then u σ H1 Q else Q false H1) fun θ1 G1 v d _ _ hv => ?_⟩
  cases hv
  cases v with
  | true => simpa using s2 θ1 G1
  | false => simpa using snd_b (K := X.K) (W := W) (θ := θ1) (G := G1) (b := false)
theorem dw_or {a b : Expr} {rest : List Expr} {f g : Ev Bool} (h : DT X W a f) (h2 : DW X W (.BoolOp .Or (b :: rest) pos) g) : DW X W (.BoolOp .Or (a :: b :: rest) pos) (dOr f g) := by
  obtain ⟨t, p, s⟩ := h
  obtain ⟨u, p2, s2⟩ := h2
  refine ⟨_, pw_or p p2, fun θ G => (s θ G).bind (k := fun c σ H1 Q => if c = true then Q true H1 else u σ H1 Q) fun θ1 G1 v d _ _ hv => ?_⟩
  cases hv
  cases v with
  | false => simpa using s2 θ1 G1
  | true => simpa using snd_b (K := X.K) (W := W) (θ := θ1) (G := G1) (b := true)
theorem DW.dt {e : Expr} {f : Ev Bool} (h : DW X W e f) : DT X W e f := by obtain ⟨t, p, s⟩ := h; exact ⟨t, p.pt, s⟩
theorem dt_not {a : Expr} {f : Ev Bool} (h : DT X W a f) : DT X W (.UnaryOp .Not a pos) (dNot f) := by
  obtain ⟨t, p, s⟩ := h
  refine ⟨_, pt_not p, fun θ G => (s θ G).bind (k := fun c σ H1 Q => Q (!c) H1) fun θ1 G1 v d _ _ hv => ?_⟩
  cases hv
  exact snd_b
/-! as values -/
def dAndV (f g : Ev D) : Ev D := bnd f fun d => bnd (asB d) fun c => if c = true then g else ret (.bl false)
def dOrV (f g : Ev D) : Ev D := bnd f fun d => bnd (asB d) fun c => if c = true then ret (.bl true) else g
def dNotV (f : Ev D) : Ev D := bnd f fun d => bnd (asB d) fun c => ret (.bl (!c))
theorem bnd_ret {α β : Type} (a : α) (g : α → Ev β) : bnd (ret a) g = g a := rfl
theorem bnd_stk {α β : Type} (g : α → Ev β) : bnd stk g = stk := rfl
theorem rv_bl {K : PySem.W.Frag} {θ : List Addr} {G : Hp} {b : Bool} : Rv K θ G (.bl b) (.bl b) := .dat (.bl b)
theorem snd_asB {K : PySem.W.Frag} {A α : Type} {R : List Addr → Hp → A → α → Prop} {θ : List Addr} {G : Hp} {v : V} {d : D} {k : Bool → L2.St → Hp → (A → Hp → Prop) → Prop} {g : Bool → Ev α} (hv : Rv K θ G v d) (h : ∀ c, Snd K W R θ G (k c) (g c)) :
    Snd K W R θ G (fun σ H1 Q => ∃ c, v = .bl c ∧ k c σ H1 Q) (bnd (asB d) g) := by
  cases d with
  | bl b =>
    cases hv with
    | dat hv =>
      cases hv
      intro ρ M r M' θ G σ H Q p s e rs rv kk
      exact ⟨b, rfl, h b ρ M r M' θ G σ H Q p s e rs rv kk⟩
  | _ => exact Snd.stk
theorem de_one {op : BoolOp} {a : Expr} {f : Ev D} (h : DE X W a f) : DE X W (.BoolOp op [a] pos) f := by obtain ⟨t, p, s⟩ := h; exact ⟨_, pe_one p, s⟩
theorem de_and {a b : Expr} {rest : List Expr} {f g : Ev D} (h : DE X W a f) (h2 : DE X W (.BoolOp .And (b :: rest) pos) g) : DE X W (.BoolOp .And (a :: b :: rest) pos) (dAndV f g) := by
  obtain ⟨t, p, s⟩ := h
  obtain ⟨u, p2, s2⟩ := h2
  refine ⟨_, pe_and p p2, fun θ G => (s θ G).bind (k := fun x σ H1 Q => ∃ c, x = .bl c ∧ if c = true then u σ H1 Q else Q (.bl false) H1) fun θ1 G1 v d _ _ hv => snd_asB hv fun c => ?_⟩
  cases c with
  | true => simpa using s2 θ1 G1
  | false => simpa using Snd.ret (K := X.K) (W := W) (R := RV X.K) (θ0 := θ1) (G0 := G1) (v := .bl false) (d := .bl false) fun _ _ _ _ => rv_bl
theorem de_or {a b : Expr} {rest : List Expr} {f g : Ev D} (h : DE X W a f) (h2 : DE X W (.BoolOp .Or (b :: rest) pos) g) : DE X W (.BoolOp .Or (a :: b :: rest) pos) (dOrV f g) := by
  obtain ⟨t, p, s⟩ := h
  obtain ⟨u, p2, s2⟩ := h2
  refine ⟨_, pe_or p p2, fun θ G => (s θ G).bind (k := fun x σ H1 Q => ∃ c, x = .bl c ∧ if c = true then Q (.bl true) H1 else u σ H1 Q) fun θ1 G1 v d _ _ hv => snd_asB hv fun c => ?_⟩
  cases c with
  | false => simpa using s2 θ1 G1
  | true => simpa using Snd.ret (K := X.K) (W := W) (R := RV X.K) (θ0 := θ1) (G0 := G1) (v := .bl true) (d := .bl true) fun _ _ _ _ => rv_bl
theorem de_not {a : Expr} {f : Ev D} (h : DE X W a f) : DE X W (.UnaryOp .Not a pos) (dNotV f) := by
  obtain ⟨t, p, s⟩ := h
  refine ⟨_, pe_not p, fun θ G => (s θ G).bind (R2 := RV X.K) (k := fun (x : V) (σ : L2.St) (H1 : Hp) (Q : V → Hp → Prop) => ∃ c, x = .bl c ∧ Q (.bl (!c)) H1) fun θ1 G1 v d _ _ hv => snd_asB (k := fun (c : Bool) (_ : L2.St) (H1 : Hp) (Q : V → Hp → Prop) => Q (V.bl (!c)) H1) hv fun c => Snd.ret fun _ _ _ _ => rv_bl⟩
def dIf (c : Ev Bool) (f g : Ev D) : Ev D := bnd c fun b => if b = true then f else g
theorem de_if {c a b : Expr} {h : Ev Bool} {f g : Ev D} (hc : DT X W c h) (ha : DE X W a f) (hb : DE X W b g) : DE X W (.IfExp c a b pos) (dIf h f g) := by
  obtain ⟨t, p, s⟩ := hc
  obtain ⟨u, p2, s2⟩ := ha
  obtain ⟨z, p3, s3⟩ := hb
  refine ⟨_, pe_ifExp p p2 p3, fun θ G => (s θ G).bind (k := fun c σ H1 Q => if c = true then u σ H1 Q else z σ H1 Q) fun θ1 G1 v d _ _ hv => ?_⟩
  cases hv
  cases v with
  | true => simpa using s2 θ1 G1
  | false => simpa using s3 θ1 G1
/-! arguments -/
def dNil : Ev (List D) := ret []
def dCons (f : Ev D) (g : Ev (List D)) : Ev (List D) := bnd f fun d => bnd g fun ds => ret (d :: ds)
theorem da_nil : DA X W [] dNil := ⟨_, pa_nil, fun _ _ => Snd.ret fun _ _ _ _ => RvL.nil⟩
theorem da_cons {e : Expr} {es : List Expr} {f : Ev D} {g : Ev (List D)} (ha : DE X W e f) (hr : DA X W es g) (hs : starEach (e :: es) X.env = (false, eval e X.env) :: starEach es X.env := by rfl) : DA X W (e :: es) (dCons f g) := by
  obtain ⟨t, p, s⟩ := ha
  obtain ⟨u, p2, s2⟩ := hr
  exact ⟨_, pa_cons p p2 hs, fun θ G => (s θ G).bind (k := fun x σ H1 Q => u σ H1 fun xs H2 => Q (x :: xs) H2) fun θ1 G1 v d _ _ hv => (s2 θ1 G1).bind (k := fun xs σ H2 Q => Q (v :: xs) H2) fun θ2 G2 vs ds p s hvs => Snd.ret fun θ3 G3 p3 s3 => RvL.cons (hv.mono (p.trans p3) (s.trans s3)) (hvs.mono p3 s3)⟩
/-- by a list of values -/
def SndC (K : PySem.W.Frag) (W : WN) (r : List V → Hp → VK → Prop) (o : List D → Ev D) : Prop := ∀ θ G xs ds, RvL K θ G xs ds → Snd K W (RV K) θ G (fun _ H Q => r xs H Q) (o ds)
theorem snd_args {K : PySem.W.Frag} {r : List V → Hp → VK → Prop} {o : List D → Ev D} (h : SndC K W r o) {t : TA} {f : Ev (List D)} (s : ∀ θ G, Snd K W (RL K) θ G t f) (θ : List Addr) (G : Hp) : Snd K W (RV K) θ G (fun σ H Q => t σ H fun vs H1 => r vs H1 Q) (bnd f o) :=
  (s θ G).bind (k := fun vs _ H1 Q => r vs H1 Q) fun θ1 G1 v d _ _ hv => h θ1 G1 v d hv
/-- a tuple, a list that stays as it is -/
def oTup (ds : List D) : Ev D := if ds.all D.np = true ∧ ds.length ≤ 16777216 then ret (.tup ds) else stk
def oLst (ds : List D) : Ev D := if ds.all D.np = true ∧ ds.length ≤ 16777216 then ret (.lst ds) else stk
theorem snd_new {K : PySem.W.Frag} {θ : List Addr} {G : Hp} {o : HO} {d : D} (h : ∀ G p, G p = some o → Rp K G (.ref p) d ∨ True) : True := trivial
theorem rp_tup {K : PySem.W.Frag} {G : Hp} {p : Addr} {xs : List V} {ds : List D} (h : G p = some (.tup xs)) (r : RpL K G xs ds) : Rp K G (.ref p) (.tup ds) := .tup (.inl (.inl h)) r.len r.get
theorem rp_lst {K : PySem.W.Frag} {G : Hp} {p : Addr} {xs : List V} {ds : List D} (h : G p = some (.lst xs)) (r : RpL K G xs ds) : Rp K G (.ref p) (.lst ds) := .lst h r.len r.get
theorem snd_tup {K : PySem.W.Frag} : SndC K W (fun xs H1 Q => xs.length ≤ sizeLine ∧ ∀ p, H1 p = none → Q (.ref p) (upd H1 p (.tup xs))) oTup := by
  intro θ0 G0 xs ds hx
  unfold oTup
  split
  · rename_i hc
    have hp := hx.rp hc.1
    intro ρ M r M' θ G σ H Q p s e rs rv kk
    unfold ret at e
    simp at e
    obtain ⟨e1, e2⟩ := e
    subst e1; subst e2
    refine ⟨by rw [hp.len, sizeLine_eq]; exact hc.2, fun a ha => ?_⟩
    have g := rs.fresh ha
    exact (kk θ (upd G a (.tup xs)) _ (List.prefix_refl _) (same_upd g) (rs.laid ha _)).2 _ _ rfl (.dat (rp_tup upd_same (hp.mono (s.trans (same_upd g)))))
  · exact Snd.stk
theorem snd_lst {K : PySem.W.Frag} : SndC K W (fun xs H1 Q => xs.length ≤ sizeLine ∧ ∀ p, H1 p = none → Q (.ref p) (upd H1 p (.lst xs))) oLst := by
  intro θ0 G0 xs ds hx
  unfold oLst
  split
  · rename_i hc
    have hp := hx.rp hc.1
    intro ρ M r M' θ G σ H Q p s e rs rv kk
    unfold ret at e
    simp at e
    obtain ⟨e1, e2⟩ := e
    subst e1; subst e2
    refine ⟨by rw [hp.len, sizeLine_eq]; exact hc.2, fun a ha => ?_⟩
    have g := rs.fresh ha
    exact (kk θ (upd G a (.lst xs)) _ (List.prefix_refl _) (same_upd g) (rs.laid ha _)).2 _ _ rfl (.dat (rp_lst upd_same (hp.mono (s.trans (same_upd g)))))
  · exact Snd.stk
/-- a list that will change -/
def oNew (ds : List D) : Ev D := fun _ M => if ds.all D.np = true ∧ ds.length ≤ 16777216 then some (.ok (.ptr M.length), M ++ [some ds]) else none
theorem snd_lstM {K : PySem.W.Frag} : SndC K W (fun xs H1 Q => xs.length ≤ sizeLine ∧ ∀ p, H1 p = none → Q (.ref p) (upd H1 p (.lst xs))) oNew := by
  intro θ0 G0 xs ds hx ρ M r M' θ G σ H Q p s e rs rv kk
  unfold oNew at e
  split at e
  · rename_i hc
    have hp := hx.rp hc.1
    simp at e
    obtain ⟨e1, e2⟩ := e
    subst e1; subst e2
    refine ⟨by rw [hp.len, sizeLine_eq]; exact hc.2, fun a ha => ?_⟩
    refine (kk (θ ++ [a]) G _ (List.prefix_append _ _) (Same.refl _) (rs.laidM ha (hp.mono s))).2 _ _ rfl (.ptr ?_)
    rw [← rs.len, List.getElem?_append_right (Nat.le_refl _), Nat.sub_self]
    rfl
  · cases e
theorem de_tup {es : List Expr} {f : Ev (List D)} {x1 : Nat} (h : DA X W es f) : DE X W (.Tuple es x1 pos) (bnd f oTup) := by
  obtain ⟨t, p, s⟩ := h
  exact ⟨_, pe_tup p, snd_args snd_tup s⟩
theorem de_lst {es : List Expr} {f : Ev (List D)} (h : DA X W es f) : DE X W (.List es pos) (bnd f oLst) := by
  obtain ⟨t, p, s⟩ := h
  exact ⟨_, pe_lst p, snd_args snd_lst s⟩
theorem de_lstM {es : List Expr} {f : Ev (List D)} (h : DA X W es f) : DE X W (.List es pos) (bnd f oNew) := by
  obtain ⟨t, p, s⟩ := h
  exact ⟨_, pe_lst p, snd_args snd_lstM s⟩
end
end Bw
namespace Bw
open PySem PySem.Spec PyProof.Rows L2
section
variable {X : Cx} {W : WN} {pos : Pos}
/-! ### numbers -/
def oI (C : Int → Int → Bool) (g : Int → Int → D) (d e : D) : Ev D := match d, e with
  | .int i, .int j => if C i j = true then ret (g i j) else stk
  | _, _ => stk
theorem snd_rI {K : PySem.W.Frag} {C : Int → Int → Prop} {C' : Int → Int → Bool} {g : Int → Int → V} {g' : Int → Int → D} (hC : ∀ i j, C' i j = true → C i j) (hg : ∀ i j G, Rp K G (g i j) (g' i j)) : SndO K W (rI C g) (oI C' g') := by
  intro θ G x y d e hx hy
  unfold oI
  split
  · rename_i i j
    split
    · rename_i c
      cases hx with
      | dat hx =>
        cases hy with
        | dat hy =>
          cases hx; cases hy
          intro ρ M r M' θ1 G1 σ H Q p s e rs rv kk
          exact ⟨i, j, rfl, rfl, hC i j c, Snd.ret (K := K) (W := W) (R := RV K) (θ0 := θ) (G0 := G) (v := g i j) (d := g' i j) (fun _ G _ _ => .dat (hg i j G)) ρ M r M' θ1 G1 σ H Q p s e rs rv kk⟩
    · exact Snd.stk
  · exact Snd.stk
theorem snd_rI0 {K : PySem.W.Frag} {g : Int → Int → V} {g' : Int → Int → D} (hg : ∀ i j G, Rp K G (g i j) (g' i j)) : SndO K W (rI0 g) (oI (fun _ _ => true) g') := by
  intro θ G x y d e hx hy
  have h := snd_rI (K := K) (W := W) (C := fun _ _ => True) (C' := fun _ _ => true) (g := g) (g' := g') (fun _ _ _ => trivial) hg θ G x y d e hx hy
  intro ρ M r M' θ1 G1 σ H Q p s e rs rv kk
  obtain ⟨i, j, a, b, _, q⟩ := h ρ M r M' θ1 G1 σ H Q p s e rs rv kk
  exact ⟨i, j, a, b, q⟩
def oAdd (d e : D) : Ev D := match d, e with
  | .int i, .int j => ret (.int (i + j))
  | .lst a, .lst b => if a.length + b.length ≤ 16777216 then ret (.lst (a ++ b)) else stk
  | .tup a, .tup b => if a.length + b.length ≤ 16777216 then ret (.tup (a ++ b)) else stk
  | _, _ => stk
def rAdd2 (K : PySem.W.Frag) : R2 := fun x y H Q => rI0 (fun i j => .int (i + j)) x y H Q ∨ rCat x y H Q ∨ rCatA K x y H Q
theorem op_add2 : OpR X (binaryOp .Add) (rAdd2 X.K) := by
  intro pins s σ H x y v u Q I rx ry h
  rcases h with h | h | h
  · exact op_add pins s σ H x y v u Q I rx ry h
  · exact op_cat pins s σ H x y v u Q I rx ry h
  · exact op_catA pins s σ H x y v u Q I rx ry h
theorem RpL.nil_iff {K : PySem.W.Frag} {G : Hp} {xs : List V} {ds : List D} (r : RpL K G xs ds) : xs = [] ↔ ds = [] := by
  constructor
  · intro e; subst e; exact List.eq_nil_of_length_eq_zero r.len.symm
  · intro e; subst e; exact r.nil_of
theorem snd_add {K : PySem.W.Frag} : SndO K W (rAdd2 K) oAdd := by
  intro θ G x y d e hx hy
  unfold oAdd
  split
  · rename_i i j
    intro ρ M r M' θ1 G1 σ H Q p s e rs rv kk
    exact .inl (snd_rI0 (K := K) (W := W) (g := fun i j => .int (i + j)) (g' := fun i j => .int (i + j)) (fun i j _ => .int _) θ G x y (.int i) (.int j) hx hy ρ M r M' θ1 G1 σ H Q p s e rs rv kk)
  · rename_i a b
    split
    · rename_i hl
      cases hx with
      | dat hx =>
        cases hy with
        | dat hy =>
          cases hx with
          | lst h1 l1 g1 =>
            cases hy with
            | lst h2 l2 g2 =>
              rename_i pa xs pb ys
              intro ρ M r M' θ1 G1 σ H Q p s e rs rv kk
              unfold ret at e
              cases e
              refine .inr (.inl ⟨pa, pb, xs, ys, rfl, rfl, rs.sub _ _ (s _ _ h1), rs.sub _ _ (s _ _ h2), by rw [l1, l2, sizeLine_eq]; exact hl, fun q hq => ?_⟩)
              have g := rs.fresh hq
              have r12 : RpL K G (xs ++ ys) (a ++ b) := RpL.append ⟨l1, g1⟩ ⟨l2, g2⟩
              exact (kk θ1 (upd G1 q (.lst (xs ++ ys))) _ (List.prefix_refl _) (same_upd g) (rs.laid hq _)).2 _ _ rfl (.dat (rp_lst upd_same (r12.mono (s.trans (same_upd g)))))
    · exact Snd.stk
  · rename_i a b
    split
    · rename_i hl
      cases hx with
      | dat hx =>
        cases hy with
        | dat hy =>
          cases hx with
          | tup h1 l1 g1 =>
            cases hy with
            | tup h2 l2 g2 =>
              rename_i pa xs pb ys
              intro ρ M r M' θ1 G1 σ H Q p s e rs rv kk
              unfold ret at e
              cases e
              have r1 : RpL K G xs a := ⟨l1, g1⟩
              have r2 : RpL K G ys b := ⟨l2, g2⟩
              refine .inr (.inr ⟨pa, pb, xs, ys, rfl, rfl, seqT rs.sub (seqT s h1), seqT rs.sub (seqT s h2), by rw [l1, l2, sizeLine_eq]; exact hl, fun z => ?_, fun _ z => ?_, fun _ _ q hq => ?_⟩)
              · rw [r1.nil_iff.mp z, List.nil_append] at kk
                exact (kk θ1 G1 H (List.prefix_refl _) (Same.refl _) rs).2 _ _ rfl (.dat ((Rp.tup h2 l2 g2).mono s))
              · rw [r2.nil_iff.mp z, List.append_nil] at kk
                exact (kk θ1 G1 H (List.prefix_refl _) (Same.refl _) rs).2 _ _ rfl (.dat ((Rp.tup h1 l1 g1).mono s))
              · have g := rs.fresh hq
                exact (kk θ1 (upd G1 q (.tup (xs ++ ys))) _ (List.prefix_refl _) (same_upd g) (rs.laid hq _)).2 _ _ rfl (.dat (rp_tup upd_same ((r1.append r2).mono (s.trans (same_upd g)))))
    · exact Snd.stk
  · exact Snd.stk
def oSub : D → D → Ev D := oI (fun _ _ => true) fun i j => .int (i - j)
def oMul : D → D → Ev D := oI (fun i j => decide (i.natAbs.log2 + j.natAbs.log2 < 1000000)) fun i j => .int (i * j)
def oDiv : D → D → Ev D := oI (fun i j => decide (j ≠ 0 ∧ j.natAbs.log2 < 9000)) fun i j => .int (i.fdiv j)
def oMod : D → D → Ev D := oI (fun i j => decide (j ≠ 0)) fun i j => .int (i.fmod j)
def oPow : D → D → Ev D := oI (fun i j => decide (0 ≤ j ∧ j ≤ 1000000 ∧ i.natAbs < 2 ^ 64)) fun i j => .int (i ^ j.toNat)
def CDivZ (_ j : Int) : Prop := j ≠ 0 ∧ j.natAbs.log2 < 9000
theorem op_fdivZ : OpR X (binaryOp .FloorDiv) (rI CDivZ fun i j => .int (i.fdiv j)) := opI fun i j _ _ _ _ _ hc q => floordiv_int hc.1 q (.inl (PyProof.noPylong_of_log2 hc.2))
variable {a b : Expr} {f g : Ev D}
theorem de_add (ha : DE X W a f) (hb : DE X W b g) : DE X W (.BinOp a .Add b pos) (bnd f fun d => bnd g fun e => oAdd d e) := de_op op_add2 snd_add ha hb
theorem de_sub (ha : DE X W a f) (hb : DE X W b g) : DE X W (.BinOp a .Sub b pos) (bnd f fun d => bnd g fun e => oSub d e) := de_op op_sub (snd_rI0 fun i j _ => .int _) ha hb
theorem de_mul (ha : DE X W a f) (hb : DE X W b g) : DE X W (.BinOp a .Mult b pos) (bnd f fun d => bnd g fun e => oMul d e) := de_op op_mulW (snd_rI (fun i j h => by unfold CMulW; exact of_decide_eq_true h) fun i j _ => .int _) ha hb
theorem de_div (ha : DE X W a f) (hb : DE X W b g) : DE X W (.BinOp a .FloorDiv b pos) (bnd f fun d => bnd g fun e => oDiv d e) := de_op op_fdivZ (snd_rI (fun i j h => by unfold CDivZ; exact of_decide_eq_true h) fun i j _ => .int _) ha hb
theorem de_mod (ha : DE X W a f) (hb : DE X W b g) : DE X W (.BinOp a .Mod b pos) (bnd f fun d => bnd g fun e => oMod d e) := de_op op_modN (snd_rI (fun i j h => of_decide_eq_true h) fun i j _ => .int _) ha hb
theorem de_pow (ha : DE X W a f) (hb : DE X W b g) : DE X W (.BinOp a .Pow b pos) (bnd f fun d => bnd g fun e => oPow d e) := de_op op_pow (snd_rI (fun i j h => by unfold CPow; exact of_decide_eq_true h) fun i j _ => .int _) ha hb
def oLt : D → D → Ev D := oI (fun _ _ => true) fun i j => .bl (decide (i < j))
def oLe : D → D → Ev D := oI (fun _ _ => true) fun i j => .bl (decide (i ≤ j))
def oGt : D → D → Ev D := oI (fun _ _ => true) fun i j => .bl (decide (j < i))
def oGe : D → D → Ev D := oI (fun _ _ => true) fun i j => .bl (decide (j ≤ i))
theorem de_lt (ha : DE X W a f) (hb : DE X W b g) : DE X W (.Compare a [.Lt] [b] pos) (bnd f fun d => bnd g fun e => oLt d e) := de_cmp op_lt (snd_rI0 fun i j _ => .bl _) ha hb (nomark _)
theorem de_le (ha : DE X W a f) (hb : DE X W b g) : DE X W (.Compare a [.LtE] [b] pos) (bnd f fun d => bnd g fun e => oLe d e) := de_cmp op_le (snd_rI0 fun i j _ => .bl _) ha hb (nomark _)
theorem de_gt (ha : DE X W a f) (hb : DE X W b g) : DE X W (.Compare a [.Gt] [b] pos) (bnd f fun d => bnd g fun e => oGt d e) := de_cmp op_gt (snd_rI0 fun i j _ => .bl _) ha hb (nomark _)
theorem de_ge (ha : DE X W a f) (hb : DE X W b g) : DE X W (.Compare a [.GtE] [b] pos) (bnd f fun d => bnd g fun e => oGe d e) := de_cmp op_ge (snd_rI0 fun i j _ => .bl _) ha hb (nomark _)
theorem dt_lt (ha : DE X W a f) (hb : DE X W b g) : DT X W (.Compare a [.Lt] [b] pos) (bnd (bnd f fun d => bnd g fun e => oLt d e) asB) := dt_cmp op_lt (snd_rI0 fun i j _ => .bl _) ha hb (nomark _)
theorem dt_le (ha : DE X W a f) (hb : DE X W b g) : DT X W (.Compare a [.LtE] [b] pos) (bnd (bnd f fun d => bnd g fun e => oLe d e) asB) := dt_cmp op_le (snd_rI0 fun i j _ => .bl _) ha hb (nomark _)
theorem dt_gt (ha : DE X W a f) (hb : DE X W b g) : DT X W (.Compare a [.Gt] [b] pos) (bnd (bnd f fun d => bnd g fun e => oGt d e) asB) := dt_cmp op_gt (snd_rI0 fun i j _ => .bl _) ha hb (nomark _)
theorem dt_ge (ha : DE X W a f) (hb : DE X W b g) : DT X W (.Compare a [.GtE] [b] pos) (bnd (bnd f fun d => bnd g fun e => oGe d e) asB) := dt_cmp op_ge (snd_rI0 fun i j _ => .bl _) ha hb (nomark _)
/-! ### equality of data -/
mutual
def toPy : D → PyData
  | .non => .none
  | .bl b => .bool b
  | .int i => .int i
  | .str z => .str z
  | .tup ds => .tuple (toPys ds)
  | .lst ds => .list (toPys ds)
  | .ptr _ => .none
  | .exv _ => .none
  | .emp => .none
  | .scr ds => .list (toPys ds)
def toPys : List D → List PyData
  | [] => []
  | d :: ds => toPy d :: toPys ds
end
theorem toPys_get : ∀ (ds : List D) (i : Nat), (toPys ds)[i]? = (ds[i]?).map toPy
  | [], i => by simp [toPys]
  | d :: ds, 0 => by simp [toPys]
  | d :: ds, i + 1 => by simpa [toPys] using toPys_get ds i
theorem dpAll_of {K : PySem.W.Frag} {H : Hp} : ∀ {xs : List V} {ds : List D}, xs.length = ds.length → (∀ (i : Nat) (v : V) (d : D), xs[i]? = some v → ds[i]? = some d → Dp K H v (toPy d)) → DpAll K H xs (toPys ds)
  | [], [], _, _ => .nil
  | v :: xs, d :: ds, l, h => .cons (h 0 v d rfl rfl) (dpAll_of (by simpa using l) fun i v d a b => h (i + 1) v d (by simpa using a) (by simpa using b))
  | [], _ :: _, l, _ => absurd l (by simp)
  | _ :: _, [], l, _ => absurd l (by simp)
mutual
/-- data that may be compared -/
def D.pl : D → Bool
  | .ptr _ => false
  | .exv _ => false
  | .emp => false
  | .tup ds => plL ds
  | .lst ds => plL ds
  | .scr ds => plL ds
  | _ => true
def plL : List D → Bool
  | [] => true
  | d :: ds => D.pl d && plL ds
end
theorem plL_get : ∀ (ds : List D) (i : Nat) (d : D), plL ds = true → ds[i]? = some d → d.pl = true
  | [], i, d, _, h => by simp at h
  | e :: ds, 0, d, h, h2 => by
    simp at h2; subst h2
    unfold plL at h
    exact (Bool.and_eq_true_iff.mp h).1
  | e :: ds, i + 1, d, h, h2 => by
    unfold plL at h
    exact plL_get ds i d (Bool.and_eq_true_iff.mp h).2 (by simpa using h2)
theorem pl_np {d : D} (h : d.pl = true) : d.np = true := by
  cases d <;> first | rfl | (unfold D.pl at h; cases h)
theorem Rp.dp {K : PySem.W.Frag} {G : Hp} {v : V} {d : D} (h : Rp K G v d) (pl : d.pl = true) : Dp K G v (toPy d) := by
  induction h with
  | non => exact .non
  | bl b => exact .bl b
  | int i => exact .int i
  | str z => exact .str z
  | emp h => unfold D.pl at pl; cases pl
  | tup h l e ih => exact .tup h (dpAll_of l fun i v d a b => ih i v d a b (plL_get _ i d (by unfold D.pl at pl; exact pl) b))
  | lst h l e ih => exact .lst (.inl (.inl h)) (dpAll_of l fun i v d a b => ih i v d a b (plL_get _ i d (by unfold D.pl at pl; exact pl) b))
  | scr h l e ih => exact .lst h (dpAll_of l fun i v d a b => ih i v d a b (plL_get _ i d (by unfold D.pl at pl; exact pl) b))
def oEq (d e : D) : Ev D := if d.pl = true ∧ e.pl = true ∧ SeqAt.shaped (toPy d) = true ∧ SeqAt.shaped (toPy e) = true then ret (.bl (PyData.eqv (toPy d) (toPy e))) else stk
def oNe (d e : D) : Ev D := if d.pl = true ∧ e.pl = true ∧ SeqAt.shaped (toPy d) = true ∧ SeqAt.shaped (toPy e) = true then ret (.bl (!PyData.eqv (toPy d) (toPy e))) else stk
theorem snd_eqD {K : PySem.W.Frag} : SndO K W (rEqD K) oEq := by
  intro θ G x y d e hx hy
  unfold oEq
  split
  · rename_i c
    intro ρ M r M' θ1 G1 σ H Q p s e1 rs rv kk
    exact ⟨_, _, (((hx.rp (pl_np c.1)).mono s).mono rs.sub).dp c.1, (((hy.rp (pl_np c.2.1)).mono s).mono rs.sub).dp c.2.1, c.2.2.1, c.2.2.2, Snd.ret (K := K) (W := W) (R := RV K) (θ0 := θ) (G0 := G) (fun _ _ _ _ => rv_bl) ρ M r M' θ1 G1 σ H Q p s e1 rs rv kk⟩
  · exact Snd.stk
theorem snd_neD {K : PySem.W.Frag} : SndO K W (rNeD K) oNe := by
  intro θ G x y d e hx hy
  unfold oNe
  split
  · rename_i c
    intro ρ M r M' θ1 G1 σ H Q p s e1 rs rv kk
    exact ⟨_, _, (((hx.rp (pl_np c.1)).mono s).mono rs.sub).dp c.1, (((hy.rp (pl_np c.2.1)).mono s).mono rs.sub).dp c.2.1, c.2.2.1, c.2.2.2, Snd.ret (K := K) (W := W) (R := RV K) (θ0 := θ) (G0 := G) (fun _ _ _ _ => rv_bl) ρ M r M' θ1 G1 σ H Q p s e1 rs rv kk⟩
  · exact Snd.stk
theorem de_eq (hu : X.A.units + 64 < cLine) (ha : DE X W a f) (hb : DE X W b g) : DE X W (.Compare a [.Eq] [b] pos) (bnd f fun d => bnd g fun e => oEq d e) := de_cmp (op_eqD hu) snd_eqD ha hb (nomark _)
theorem de_ne (hu : X.A.units + 64 < cLine) (ha : DE X W a f) (hb : DE X W b g) : DE X W (.Compare a [.NotEq] [b] pos) (bnd f fun d => bnd g fun e => oNe d e) := de_cmp (op_neD hu) snd_neD ha hb (nomark _)
theorem dt_eq (hu : X.A.units + 64 < cLine) (ha : DE X W a f) (hb : DE X W b g) : DT X W (.Compare a [.Eq] [b] pos) (bnd (bnd f fun d => bnd g fun e => oEq d e) asB) := dt_cmp (op_eqD hu) snd_eqD ha hb (nomark _)
theorem dt_ne (hu : X.A.units + 64 < cLine) (ha : DE X W a f) (hb : DE X W b g) : DT X W (.Compare a [.NotEq] [b] pos) (bnd (bnd f fun d => bnd g fun e => oNe d e) asB) := dt_cmp (op_neD hu) snd_neD ha hb (nomark _)
/-! ### -x, abs, max, min, int, len -/
def oNeg (d : D) : Ev D := match d with
  | .int i => ret (.int (-i))
  | _ => stk
theorem de_neg (ha : DE X W a f) : DE X W (.UnaryOp .USub a pos) (bnd f oNeg) := by
  obtain ⟨t, p, s⟩ := ha
  refine ⟨_, pe_un un_neg p, fun θ G => (s θ G).bind (R2 := RV X.K) (k := fun (x : V) (_ : L2.St) (H : Hp) (Q : V → Hp → Prop) => rU (fun i => .int (-i)) x H Q) fun θ1 G1 v d _ _ hv => ?_⟩
  unfold oNeg
  split
  · rename_i i
    cases hv with
    | dat hv =>
      cases hv
      intro ρ M r M' θ2 G2 σ H Q p s e rs rv kk
      exact ⟨i, rfl, Snd.ret (K := X.K) (W := W) (R := RV X.K) (θ0 := θ1) (G0 := G1) (d := .int (-i)) (fun _ G _ _ => .dat (.int _)) ρ M r M' θ2 G2 σ H Q p s e rs rv kk⟩
  · exact Snd.stk
theorem de_callB {id : String} {r : List V → Hp → VK → Prop} {o : List D → Ev D} {x : Str} {p : Pos} {e : Expr} {es : List Expr} {h : Ev (List D)} (hc : CallR X (.builtin id) r) (so : SndC X.K W r o) (hm : X.mg x = none) (hv : bootBuiltins x = some (.builtin id)) (ha : DA X W (e :: es) h) (hg : Gl X x := by rfl) (hn : x ≠ "__name__" := by decide) (hdb : (x == ("__debug__" : Str)) = false := by decide)
    (he : starEach (e :: es) X.env = (false, eval e X.env) :: starEach es X.env := by rfl) (hpl : (backTo pos (starEach es X.env)).any (·.1) = false := by rfl) : DE X W (.Call (.Name x p) (e :: es) [] pos) (bnd h o) := by
  obtain ⟨t, q, s⟩ := ha
  exact ⟨_, pe_callB hc hg hm hv q hn hdb he hpl, snd_args so s⟩
theorem de_callTy {T : String} {r : List V → Hp → VK → Prop} {o : List D → Ev D} {x : Str} {p : Pos} {e : Expr} {es : List Expr} {h : Ev (List D)} (hc : CallR X (.type T) r) (so : SndC X.K W r o) (hm : X.mg x = none) (hv : bootBuiltins x = some (.type T)) (ha : DA X W (e :: es) h) (hg : Gl X x := by rfl) (hn : x ≠ "__name__" := by decide) (hdb : (x == ("__debug__" : Str)) = false := by decide)
    (he : starEach (e :: es) X.env = (false, eval e X.env) :: starEach es X.env := by rfl) (hpl : (backTo pos (starEach es X.env)).any (·.1) = false := by rfl) : DE X W (.Call (.Name x p) (e :: es) [] pos) (bnd h o) := by
  obtain ⟨t, q, s⟩ := ha
  exact ⟨_, pe_callTy hc hg hm hv q hn hdb he hpl, snd_args so s⟩
def o1I (h : Int → D) (ds : List D) : Ev D := match ds with
  | [.int i] => ret (h i)
  | _ => stk
def o2I (h : Int → Int → D) (ds : List D) : Ev D := match ds with
  | [.int i, .int j] => ret (h i j)
  | _ => stk
theorem vals1 {K : PySem.W.Frag} {θ : List Addr} {G : Hp} {xs : List V} {d : D} (h : RvL K θ G xs [d]) : ∃ v, xs = [v] ∧ Rv K θ G v d := by
  obtain ⟨v, ys, rfl, hv, r⟩ := h.uncons
  rw [r.nil_of]
  exact ⟨v, rfl, hv⟩
theorem vals2 {K : PySem.W.Frag} {θ : List Addr} {G : Hp} {xs : List V} {d e : D} (h : RvL K θ G xs [d, e]) : ∃ v u, xs = [v, u] ∧ Rv K θ G v d ∧ Rv K θ G u e := by
  obtain ⟨v, ys, rfl, hv, r⟩ := h.uncons
  obtain ⟨u, rfl, hu⟩ := vals1 r
  exact ⟨v, u, rfl, hv, hu⟩
theorem Rv.int_of {K : PySem.W.Frag} {θ : List Addr} {G : Hp} {v : V} {i : Int} (h : Rv K θ G v (.int i)) : v = .int i := by
  cases h with
  | dat h => cases h; rfl
theorem Rv.bl_of {K : PySem.W.Frag} {θ : List Addr} {G : Hp} {v : V} {i : Bool} (h : Rv K θ G v (.bl i)) : v = .bl i := by
  cases h with
  | dat h => cases h; rfl
theorem snd_1I {K : PySem.W.Frag} {r : List V → Hp → VK → Prop} {h : Int → D} {h' : Int → V} (hr : ∀ i H Q, Q (h' i) H → r [.int i] H Q) (hh : ∀ i G, Rp K G (h' i) (h i)) : SndC K W r (o1I h) := by
  intro θ0 G0 xs ds hx
  unfold o1I
  split
  · rename_i i
    obtain ⟨v, rfl, hv⟩ := vals1 hx
    rw [hv.int_of]
    intro ρ M r M' θ G σ H Q p s e rs rv kk
    exact hr i H Q (Snd.ret (K := K) (W := W) (R := RV K) (θ0 := θ0) (G0 := G0) (d := h i) (fun _ G _ _ => .dat (hh i G)) ρ M r M' θ G σ H Q p s e rs rv kk)
  · exact Snd.stk
theorem snd_2I {K : PySem.W.Frag} {r : List V → Hp → VK → Prop} {h : Int → Int → D} {h' : Int → Int → V} (hr : ∀ i j H Q, Q (h' i j) H → r [.int i, .int j] H Q) (hh : ∀ i j G, Rp K G (h' i j) (h i j)) : SndC K W r (o2I h) := by
  intro θ0 G0 xs ds hx
  unfold o2I
  split
  · rename_i i j
    obtain ⟨v, u, rfl, hv, hu⟩ := vals2 hx
    rw [hv.int_of, hu.int_of]
    intro ρ M r M' θ G σ H Q p s e rs rv kk
    exact hr i j H Q (Snd.ret (K := K) (W := W) (R := RV K) (θ0 := θ0) (G0 := G0) (d := h i j) (fun _ G _ _ => .dat (hh i j G)) ρ M r M' θ G σ H Q p s e rs rv kk)
  · exact Snd.stk
def oAbs : List D → Ev D := o1I fun i => .int (if i < 0 then -i else i)
def oMax : List D → Ev D := o2I fun i j => .int (if j > i then j else i)
def oMin : List D → Ev D := o2I fun i j => .int (if j < i then j else i)
def oToInt (ds : List D) : Ev D := match ds with
  | [.int i] => ret (.int i)
  | [.bl b] => ret (.int (if b then 1 else 0))
  | _ => stk
variable {p : Pos} {e : Expr} {es : List Expr} {h : Ev (List D)}
theorem de_abs (hm : X.mg "abs" = none) (ha : DA X W (e :: es) h) (hg : Gl X "abs" := by rfl) (he : starEach (e :: es) X.env = (false, eval e X.env) :: starEach es X.env := by rfl) (hpl : (backTo pos (starEach es X.env)).any (·.1) = false := by rfl) : DE X W (.Call (.Name "abs" p) (e :: es) [] pos) (bnd h oAbs) :=
  de_callB call_abs (snd_1I (h' := fun i => .int (if i < 0 then -i else i)) (fun i H Q q => ⟨i, rfl, q⟩) fun i G => .int _) hm (by decide +kernel) ha hg (by decide) (by decide) he hpl
theorem de_max (hc : X.calm = true) (hm : X.mg "max" = none) (ha : DA X W (e :: es) h) (hg : Gl X "max" := by rfl) (he : starEach (e :: es) X.env = (false, eval e X.env) :: starEach es X.env := by rfl) (hpl : (backTo pos (starEach es X.env)).any (·.1) = false := by rfl) : DE X W (.Call (.Name "max" p) (e :: es) [] pos) (bnd h oMax) :=
  de_callB (call_max2 hc) (snd_2I (h' := fun i j => .int (if j > i then j else i)) (fun i j H Q q => ⟨i, j, rfl, q⟩) fun i j G => .int _) hm (by decide +kernel) ha hg (by decide) (by decide) he hpl
theorem de_min (hc : X.calm = true) (hm : X.mg "min" = none) (ha : DA X W (e :: es) h) (hg : Gl X "min" := by rfl) (he : starEach (e :: es) X.env = (false, eval e X.env) :: starEach es X.env := by rfl) (hpl : (backTo pos (starEach es X.env)).any (·.1) = false := by rfl) : DE X W (.Call (.Name "min" p) (e :: es) [] pos) (bnd h oMin) :=
  de_callB (call_min2 hc) (snd_2I (h' := fun i j => .int (if j < i then j else i)) (fun i j H Q q => ⟨i, j, rfl, q⟩) fun i j G => .int _) hm (by decide +kernel) ha hg (by decide) (by decide) he hpl
theorem snd_toInt {K : PySem.W.Frag} : SndC K W (fun xs H Q => (∃ i, xs = [.int i] ∧ Q (.int i) H) ∨ ∃ k, xs = [.bl k] ∧ Q (.int (if k then 1 else 0)) H) oToInt := by
  intro θ0 G0 xs ds hx
  unfold oToInt
  split
  · rename_i i
    obtain ⟨v, rfl, hv⟩ := vals1 hx
    rw [hv.int_of]
    intro ρ M r M' θ G σ H Q p s e rs rv kk
    exact .inl ⟨i, rfl, Snd.ret (K := K) (W := W) (R := RV K) (θ0 := θ0) (G0 := G0) (d := .int i) (fun _ G _ _ => .dat (.int _)) ρ M r M' θ G σ H Q p s e rs rv kk⟩
  · rename_i i
    obtain ⟨v, rfl, hv⟩ := vals1 hx
    rw [hv.bl_of]
    intro ρ M r M' θ G σ H Q p s e rs rv kk
    exact .inr ⟨i, rfl, Snd.ret (K := K) (W := W) (R := RV K) (θ0 := θ0) (G0 := G0) (d := .int (if i then 1 else 0)) (fun _ G _ _ => .dat (.int _)) ρ M r M' θ G σ H Q p s e rs rv kk⟩
  · exact Snd.stk
theorem de_toInt (hm : X.mg "int" = none) (ha : DA X W (e :: es) h) (hg : Gl X "int" := by rfl) (he : starEach (e :: es) X.env = (false, eval e X.env) :: starEach es X.env := by rfl) (hpl : (backTo pos (starEach es X.env)).any (·.1) = false := by rfl) : DE X W (.Call (.Name "int" p) (e :: es) [] pos) (bnd h oToInt) :=
  de_callTy call_int1 snd_toInt hm (by decide +kernel) ha hg (by decide) (by decide) he hpl
/-! sequences -/
def seqOf (d : D) (M : Mem) : Option (List D) := match d with
  | .tup ds => some ds
  | .lst ds => some ds
  | .scr ds => some ds
  | .ptr n => match M[n]? with
    | some (some ds) => some ds
    | _ => none
  | _ => none
theorem seq_of {K : PySem.W.Frag} {θ : List Addr} {G H : Hp} {M : Mem} {v : V} {d : D} {ds : List D} (rs : Rs K θ G H M) (hv : Rv K θ G v d) (h : seqOf d M = some ds) : ∃ a xs, v = .ref a ∧ (SqL K H a xs ∨ SqT K H a xs) ∧ RpL K G xs ds := by
  unfold seqOf at h
  split at h
  · cases h
    cases hv with
    | dat hv =>
      cases hv with
      | tup q l e => exact ⟨_, _, rfl, .inr (seqT rs.sub q), l, e⟩
  · cases h
    cases hv with
    | dat hv =>
      cases hv with
      | lst q l e => exact ⟨_, _, rfl, .inl (.inl (.inl (rs.sub _ _ q))), l, e⟩
  · cases h
    cases hv with
    | dat hv =>
      cases hv with
      | scr q l e => exact ⟨_, _, rfl, .inl (rs.sub.seq q), l, e⟩
  · rename_i n
    split at h
    · rename_i es hm
      cases h
      cases hv with
      | dat hv => cases hv
      | ptr hn =>
        obtain ⟨g, xs, hx, rl⟩ := rs.mem n _ _ hn hm
        exact ⟨_, xs, rfl, .inl (.inl (.inl hx)), rl⟩
    · cases h
  · cases h
def oLen (ds : List D) : Ev D := fun ρ M => match ds with
  | [d] => match seqOf d M with
    | some es => some (.ok (.int es.length), M)
    | none => none
  | _ => none
theorem snd_len {K : PySem.W.Frag} : SndC K W (fun xs H Q => ∃ p ys, xs = [.ref p] ∧ (SqL K H p ys ∨ SqT K H p ys) ∧ Q (.int ys.length) H) oLen := by
  intro θ0 G0 xs ds hx ρ M r M' θ G σ H Q p s e rs rv kk
  unfold oLen at e
  split at e
  · rename_i d
    split at e
    · rename_i es he
      cases e
      obtain ⟨v, rfl, hv⟩ := vals1 hx
      obtain ⟨a, xs, rfl, q, rl⟩ := seq_of rs (hv.mono p s) he
      refine ⟨a, xs, rfl, q, (kk θ G H (List.prefix_refl _) (Same.refl _) rs).2 _ _ rfl ?_⟩
      rw [rl.len]
      exact .dat (.int _)
    · cases e
  · cases e
theorem de_len (hm : X.mg "len" = none) (ha : DA X W (e :: es) h) (hg : Gl X "len" := by rfl) (he : starEach (e :: es) X.env = (false, eval e X.env) :: starEach es X.env := by rfl) (hpl : (backTo pos (starEach es X.env)).any (·.1) = false := by rfl) : DE X W (.Call (.Name "len" p) (e :: es) [] pos) (bnd h oLen) :=
  de_callB call_len_seq snd_len hm PySem.boot_len ha hg (by decide) (by decide) he hpl
/-! x[i] -/
def oIx (d e : D) : Ev D := fun ρ M => match e, seqOf d M with
  | .int i, some ds => match atI ds i with
    | some x => some (.ok x, M)
    | none => none
  | _, _ => none
theorem atI_of {K : PySem.W.Frag} {G : Hp} {xs : List V} {ds : List D} (r : RpL K G xs ds) {i : Int} {d : D} (h : atI ds i = some d) : ∃ v, atI xs i = some v ∧ Rp K G v d := by
  unfold atI at h ⊢
  rw [r.len]
  cases q : ixN ds.length i with
  | none => rw [q] at h; cases h
  | some j =>
    rw [q] at h
    exact r.at h
def rIxLT (K : PySem.W.Frag) : R2 := fun x y H Q => rIxL K x y H Q ∨ rIxT K x y H Q
theorem ix_LT : IxR X (rIxLT X.K) := ix_list.or ix_tup
theorem snd_ix {K : PySem.W.Frag} : SndO K W (rIxLT K) oIx := by
  intro θ0 G0 x y d e hx hy ρ M r M' θ G σ H Q p s e1 rs rv kk
  unfold oIx at e1
  split at e1
  · rename_i i ds hd
    split at e1
    · rename_i z hz
      cases e1
      have hi := hy.int_of
      subst hi
      obtain ⟨a, xs, rfl, q, rl⟩ := seq_of rs (hx.mono p s) hd
      obtain ⟨v, ev, rz⟩ := atI_of rl hz
      have fin := (kk θ G H (List.prefix_refl _) (Same.refl _) rs).2 _ v rfl (.dat rz)
      rcases q with q | q
      · exact .inl ⟨a, xs, i, v, rfl, rfl, q, ev, fin⟩
      · exact .inr ⟨a, xs, i, v, rfl, rfl, q, ev, fin⟩
    · cases e1
  · cases e1
theorem de_ix (ha : DE X W a f) (hb : DE X W b g) (hs : PlainIx b := by exact fun _ _ => rfl) : DE X W (.Subscript a b pos) (bnd f fun d => bnd g fun e => oIx d e) := by
  obtain ⟨ta, pa, sa⟩ := ha
  obtain ⟨tb, pb, sb⟩ := hb
  exact ⟨_, pe_ix ix_LT pa pb hs, fun θ G => snd_op snd_ix sa sb⟩
end
end Bw
namespace Bw
open PySem PySem.Spec PyProof.Rows L2
inductive Out where
  | nx (ρ : Env) | rt (d : D) | bk (ρ : Env) | ct (ρ : Env) | ex (C : Str) (ρ : Env)
abbrev Sv := Env → Mem → Option (Out × Mem)
/-- what the ends ask -/
structure Cont (K : PySem.W.Frag) (W : WN) (Dn : Ends) (o : Out) (θ : List Addr) (G H : Hp) : Prop where
  nx : ∀ ρ σ, o = .nx ρ → Rσ K θ G σ ρ → Dn.nx σ H
  bk : ∀ ρ σ, o = .bk ρ → Rσ K θ G σ ρ → Dn.bk σ H
  ct : ∀ ρ σ, o = .ct ρ → Rσ K θ G σ ρ → Dn.ct σ H
  rt : ∀ d v, o = .rt d → Rv K θ G v d → Dn.rt v H
  ex : ∀ C ρ σ, o = .ex C ρ → Rσ K θ G σ ρ → W C σ H
def SndS (K : PySem.W.Frag) (W : WN) (t : TS) (f : Sv) : Prop :=
  ∀ (ρ : Env) (M : Mem) (o : Out) (M' : Mem) (θ : List Addr) (G : Hp) (σ : L2.St) (H : Hp) (Dn : Ends), f ρ M = some (o, M') → Rs K θ G H M → Rσ K θ G σ ρ →
    (∀ (θ' : List Addr) (G' H' : Hp), θ <+: θ' → Same G G' → Rs K θ' G' H' M' → Cont K W Dn o θ' G' H') → t Dn σ H
def DS (X : Cx) (W : WN) (st : Stmt) (f : Sv) : Prop := ∃ t, PS X st t ∧ SndS X.K W t f
def DSs (X : Cx) (W : WN) (st : List Stmt) (f : Sv) : Prop := ∃ t, PSs X st t ∧ SndS X.K W t f
/-- an expression, then a statement by its value -/
def thenS {α : Type} (f : Ev α) (g : α → Sv) : Sv := fun ρ M => match f ρ M with
  | some (.ok a, M1) => g a ρ M1
  | some (.exc C, M1) => some (.ex C ρ, M1)
  | none => none
def sNext : Sv := fun ρ M => some (.nx ρ, M)
def sSeq (f g : Sv) : Sv := fun ρ M => match f ρ M with
  | some (.nx ρ1, M1) => g ρ1 M1
  | r => r
section
variable {X : Cx} {W : WN} {pos : Pos} {K : PySem.W.Frag}
theorem snd_then {A α : Type} {R : List Addr → Hp → A → α → Prop} {t : L2.St → Hp → (A → Hp → Prop) → Prop} {f : Ev α} {k : A → TS} {g : α → Sv} (h : ∀ θ G, Snd K W R θ G t f)
    (h2 : ∀ θ G v d, R θ G v d → ∀ (ρ : Env) (M : Mem) (o : Out) (M' : Mem) (σ : L2.St) (H : Hp) (Dn : Ends), g d ρ M = some (o, M') → Rs K θ G H M → Rσ K θ G σ ρ →
      (∀ (θ' : List Addr) (G' H' : Hp), θ <+: θ' → Same G G' → Rs K θ' G' H' M' → Cont K W Dn o θ' G' H') → k v Dn σ H) :
    SndS K W (fun Dn σ H => t σ H fun v H1 => k v Dn σ H1) (thenS f g) := by
  intro ρ M o M' θ G σ H Dn e rs rv kk
  unfold thenS at e
  cases q : f ρ M with
  | none => rw [q] at e; cases e
  | some z =>
    obtain ⟨r1, M1⟩ := z
    rw [q] at e
    refine h θ G ρ M r1 M1 θ G σ H _ (List.prefix_refl _) (Same.refl _) q rs rv fun θ' G' H' p' s' rs' => ?_
    cases r1 with
    | exc C =>
      simp at e
      obtain ⟨e1, e2⟩ := e
      subst e1; subst e2
      exact ⟨fun C' h => by cases h; exact (kk θ' G' H' p' s' rs').ex C ρ σ rfl (rv.mono p' s'), fun d v h => (by cases h)⟩
    | ok a =>
      refine ⟨fun C' h => (by cases h), fun d v h rel => ?_⟩
      cases h
      exact h2 θ' G' v a rel ρ M1 o M' σ H' Dn e rs' (rv.mono p' s') fun θ2 G2 H2 p2 s2 rs2 => kk θ2 G2 H2 (p'.trans p2) (s'.trans s2) rs2
theorem dss_nil : DSs X W [] sNext := by
  refine ⟨_, pss_nil, fun ρ M o M' θ G σ H Dn e rs rv kk => ?_⟩
  unfold sNext at e
  cases e
  exact (kk θ G H (List.prefix_refl _) (Same.refl _) rs).nx ρ σ rfl rv
theorem snd_seq {t u : TS} {f g : Sv} (s1 : SndS K W t f) (s2 : SndS K W u g) : SndS K W (tSeq t u) (sSeq f g) := by
  intro ρ M o M' θ G σ H Dn e rs rv kk
  unfold sSeq at e
  cases q : f ρ M with
  | none => rw [q] at e; cases e
  | some z =>
    obtain ⟨o1, M1⟩ := z
    rw [q] at e
    refine s1 ρ M o1 M1 θ G σ H _ q rs rv fun θ' G' H' p' s' rs' => ?_
    cases o1 with
    | nx ρ1 =>
      refine ⟨fun ρ2 σ2 h r2 => ?_, fun ρ2 σ2 h => (by cases h), fun ρ2 σ2 h => (by cases h), fun d v h => (by cases h), fun C ρ2 σ2 h => (by cases h)⟩
      cases h
      exact s2 ρ1 M1 o M' θ' G' σ2 H' Dn e rs' r2 fun θ2 G2 H2 p2 s2 rs2 => kk θ2 G2 H2 (p'.trans p2) (s'.trans s2) rs2
    | bk ρ1 =>
      cases e
      have c := kk θ' G' H' p' s' rs'
      exact ⟨fun ρ2 σ2 h => (by cases h), c.bk, c.ct, c.rt, c.ex⟩
    | ct ρ1 =>
      cases e
      have c := kk θ' G' H' p' s' rs'
      exact ⟨fun ρ2 σ2 h => (by cases h), c.bk, c.ct, c.rt, c.ex⟩
    | rt d =>
      cases e
      have c := kk θ' G' H' p' s' rs'
      exact ⟨fun ρ2 σ2 h => (by cases h), c.bk, c.ct, c.rt, c.ex⟩
    | ex C ρ1 =>
      cases e
      have c := kk θ' G' H' p' s' rs'
      exact ⟨fun ρ2 σ2 h => (by cases h), c.bk, c.ct, c.rt, c.ex⟩
theorem dss_cons {st : Stmt} {rest : List Stmt} {f g : Sv} (h1 : DS X W st f) (h2 : DSs X W rest g) : DSs X W (st :: rest) (sSeq f g) := by
  obtain ⟨t, p, s⟩ := h1
  obtain ⟨u, p2, s2⟩ := h2
  exact ⟨_, pss_cons p p2, snd_seq s s2⟩
theorem dss_one {st : Stmt} {f : Sv} (h1 : DS X W st f) : DSs X W [st] f := by
  obtain ⟨t, p, s⟩ := h1
  exact ⟨_, pss_one p, s⟩
/-! ### targets -/
abbrev Tg := D → Env → Option Env
/-- which slots a target writes -/
def Wr (sl : List Nat) (σ σ' : L2.St) : Prop := ∀ vs : List Nat, (∀ i ∈ sl, i ∈ vs) → wipe σ' vs = wipe σ vs
theorem wipe_set {σ : L2.St} {i : Nat} {x : Option V} : ∀ vs : List Nat, wipe (σ.set i x) vs = if i ∈ vs then wipe σ vs else (wipe σ vs).set i x
  | [] => by simp [wipe]
  | v :: vs => by
    unfold wipe
    rw [wipe_set vs]
    by_cases h : i ∈ vs
    · simp [h]
    · by_cases hv : i = v
      · subst hv; simp [h]
      · simp [h, hv, List.set_comm _ _ hv]
theorem Wr.refl {sl : List Nat} {σ : L2.St} : Wr sl σ σ := fun _ _ => rfl
def SndG (K : PySem.W.Frag) (g : TG) (b : Tg) (sl : List Nat) : Prop := ∀ (d : D) (ρ ρ' : Env) (θ : List Addr) (G : Hp) (σ : L2.St) (H : Hp) (M : Mem) (Q : L2.St → Hp → Prop) (v : V), b d ρ = some ρ' → Rs K θ G H M → Rσ K θ G σ ρ → Rv K θ G v d → (∀ σ', Rσ K θ G σ' ρ' → Wr sl σ σ' → Q σ' H) → g v σ H Q
def SndGs (K : PySem.W.Frag) (g : TGs) (b : List D → Env → Option Env) (sl : List Nat) : Prop := ∀ (ds : List D) (ρ ρ' : Env) (θ : List Addr) (G : Hp) (σ : L2.St) (H : Hp) (M : Mem) (Q : L2.St → Hp → Prop) (vs : List V), b ds ρ = some ρ' → Rs K θ G H M → Rσ K θ G σ ρ → RpL K G vs ds → (∀ σ', Rσ K θ G σ' ρ' → Wr sl σ σ' → Q σ' H) → g vs σ H Q
def DG (X : Cx) (tg : Expr) (b : Tg) (sl : List Nat) : Prop := ∃ g, PG X tg g ∧ SndG X.K g b sl
def DGs (X : Cx) (tg : List Expr) (b : List D → Env → Option Env) (sl : List Nat) : Prop := ∃ g, PGs X tg g ∧ SndGs X.K g b sl
def gNm (i : Nat) : Tg := fun d ρ => some (ρ.set i (some d))
def gNl : List D → Env → Option Env := fun ds ρ => match ds with
  | [] => some ρ
  | _ => none
def gCn (b : Tg) (c : List D → Env → Option Env) : List D → Env → Option Env := fun ds ρ => match ds with
  | d :: r => match b d ρ with
    | some ρ1 => c r ρ1
    | none => none
  | [] => none
def gTp (n : Nat) (c : List D → Env → Option Env) : Tg := fun d ρ => match d with
  | .tup ds => if ds.length = n then c ds ρ else none
  | _ => none
def gLs (n : Nat) (c : List D → Env → Option Env) : Tg := fun d ρ => match d with
  | .lst ds => if ds.length = n then c ds ρ else none
  | _ => none
theorem dg_name (i : Nat) {x : Str} (hN : X.N.Nodup) (hi : X.N[i]? = some x := by rfl) (hx : Loc X.env.scope x := by first | exact .inl rfl | exact .inr rfl) (hf : X.fn x = true ∨ X.env.scope.names.lookup x = some .local := by first | exact .inl rfl | exact .inr rfl) : DG X (.Name x pos) (gNm i) [i] := by
  refine ⟨_, pg_name hN hi hx hf, fun d ρ ρ' θ G σ H M Q v e rs rv hv k => ?_⟩
  unfold gNm at e
  cases e
  exact k _ (rv.set hv) fun vs h => by rw [wipe_set, if_pos (h i (by simp))]
theorem dgs_nil : DGs X [] gNl [] := by
  refine ⟨_, pgs_nil, fun ds ρ ρ' θ G σ H M Q vs e rs rv hv k => ?_⟩
  unfold gNl at e
  split at e
  · cases e
    exact ⟨hv.nil_of, k _ rv Wr.refl⟩
  · cases e
theorem dgs_cons {e : Expr} {es : List Expr} {b : Tg} {c : List D → Env → Option Env} {sl sl2 : List Nat} (h1 : DG X e b sl) (h2 : DGs X es c sl2) (hs : (assignEach (e :: es) X.env).map (·.2) = assign e X.env :: (assignEach es X.env).map (·.2) := by rfl) : DGs X (e :: es) (gCn b c) (sl ++ sl2) := by
  obtain ⟨g, p, s⟩ := h1
  obtain ⟨u, p2, s2⟩ := h2
  refine ⟨_, pgs_cons p p2 hs, fun ds ρ ρ' θ G σ H M Q vs e rs rv hv k => ?_⟩
  unfold gCn at e
  split at e
  · rename_i d r
    split at e
    · rename_i ρ1 h1
      obtain ⟨v, ys, rfl, hv1, hvs⟩ := hv.uncons
      exact ⟨v, ys, rfl, s d ρ ρ1 θ G σ H M _ v h1 rs rv (.dat hv1) fun σ1 r1 w1 => s2 r ρ1 ρ' θ G σ1 H M Q ys e rs r1 hvs fun σ2 r2 w2 => k σ2 r2 fun vs h => (w2 vs fun i hi => h i (by simp [hi])).trans (w1 vs fun i hi => h i (by simp [hi]))⟩
    · cases e
  · cases e
theorem dg_tup {es : List Expr} {k n : Nat} {c : List D → Env → Option Env} {sl : List Nat} (hc : X.calm = true) (h : DGs X es c sl) (hn : (assignEach es X.env).length = n := by rfl) (hst : (assignEach es X.env).findIdx? (·.1) = none := by rfl) : DG X (.Tuple es k pos) (gTp n c) sl := by
  obtain ⟨g, p, s⟩ := h
  refine ⟨_, pg_tup hc p hn hst, fun d ρ ρ' θ G σ H M Q v e rs rv hv k => ?_⟩
  unfold gTp at e
  split at e
  · rename_i ds
    split at e
    · rename_i hl
      cases hv with
      | dat hv =>
        cases hv with
        | tup q l g => exact ⟨_, _, rfl, seqT rs.sub q, l.trans hl, s ds ρ ρ' θ G σ H M Q _ e rs rv ⟨l, g⟩ k⟩
    · cases e
  · cases e
theorem dg_lst {es : List Expr} {k n : Nat} {c : List D → Env → Option Env} {sl : List Nat} (hc : X.calm = true) (h : DGs X es c sl) (hn : (assignEach es X.env).length = n := by rfl) (hst : (assignEach es X.env).findIdx? (·.1) = none := by rfl) : DG X (.Tuple es k pos) (gLs n c) sl := by
  obtain ⟨g, p, s⟩ := h
  refine ⟨_, pg_lst hc p hn hst, fun d ρ ρ' θ G σ H M Q v e rs rv hv k => ?_⟩
  unfold gLs at e
  split at e
  · rename_i ds
    split at e
    · rename_i hl
      cases hv with
      | dat hv =>
        cases hv with
        | lst q l g => exact ⟨_, _, rfl, .inl (.inl (rs.sub _ _ q)), l.trans hl, s ds ρ ρ' θ G σ H M Q _ e rs rv ⟨l, g⟩ k⟩
    · cases e
  · cases e
/-! ### statements -/
def sAsg (f : Ev D) (b : Tg) : Sv := thenS f fun d ρ M => match b d ρ with
  | some ρ1 => some (.nx ρ1, M)
  | none => none
theorem snd_asg {t : TE} {g : TG} {f : Ev D} {b : Tg} {sl : List Nat} (s : ∀ θ G, Snd K W (RV K) θ G t f) (s2 : SndG K g b sl) : SndS K W (tAsg t g) (sAsg f b) := by
  refine snd_then (k := fun v (Dn : Ends) σ H1 => g v σ H1 Dn.nx) s fun θ G v d hv ρ M o M' σ H Dn e rs rv kk => ?_
  split at e
  · rename_i ρ1 h1
    cases e
    exact s2 d ρ ρ1 θ G σ H M _ v h1 rs rv hv fun σ' r' _ => (kk θ G H (List.prefix_refl _) (Same.refl _) rs).nx ρ1 σ' rfl r'
  · cases e
theorem ds_set (i : Nat) {x : Str} {e : Expr} {f : Ev D} {pos' : Pos} (hN : X.N.Nodup) (he : DE X W e f) (hi : X.N[i]? = some x := by rfl) (hx : Loc X.env.scope x := by first | exact .inl rfl | exact .inr rfl) (hs : swapsWith e (some (.Name x pos')) pos.line X.env = pure false := by rfl) (hf : X.fn x = true ∨ X.env.scope.names.lookup x = some .local := by first | exact .inl rfl | exact .inr rfl) :
    DS X W (.Assign [.Name x pos'] e pos) (sAsg f (gNm i)) := by
  obtain ⟨t, p, s⟩ := he
  refine ⟨_, ps_set hN hi hx p hs hf, snd_asg (sl := [i]) s fun d ρ ρ' θ G σ H M Q v e rs rv hv k => ?_⟩
  unfold gNm at e
  cases e
  exact k _ (rv.set hv) fun vs h => by rw [wipe_set, if_pos (h i (by simp))]
theorem ds_asg {tg e : Expr} {f : Ev D} {b : Tg} {sl : List Nat} (he : DE X W e f) (hg : DG X tg b sl) (hs : swapsWithSole [tg] e pos.line X.env = pure false := by rfl) (hw : swappedStores [tg] e X.env = pure none := by rfl)
    (h1 : (assignEach [tg] X.env).map (·.2) = [assign tg X.env] := by rfl) : DS X W (.Assign [tg] e pos) (sAsg f b) := by
  obtain ⟨t, p, s⟩ := he
  obtain ⟨g, p2, s2⟩ := hg
  exact ⟨_, ps_asg p p2 hs hw h1, snd_asg s s2⟩
/-- a, b = x, y -/
def sPar (i j : Nat) (f : Ev (List D)) : Sv := thenS f fun ds ρ M => match ds with
  | [d, e] => some (.nx ((ρ.set i (some d)).set j (some e)), M)
  | _ => none
theorem ds_par (i j : Nat) {x y : Str} {a b : Expr} {f : Ev (List D)} {px py pt : Pos} {kt k2 : Nat} {pt2 : Pos} (hN : X.N.Nodup) (ha : DA X W [a, b] f) (hc : X.calm = true := by rfl) (hi : X.N[i]? = some x := by rfl) (hj : X.N[j]? = some y := by rfl) (hij : i ≠ j := by decide)
    (hx : X.env.scope.names.lookup x = some .local := by rfl) (hy : X.env.scope.names.lookup y = some .local := by rfl)
    (hw : swappedStores [.Tuple [.Name x px, .Name y py] kt pt] (.Tuple [a, b] k2 pt2) X.env = pure (some [x, y]) := by rfl)
    (hs : swapsWithSole [.Tuple [.Name x px, .Name y py] kt pt] (.Tuple [a, b] k2 pt2) pos.line X.env = pure false := by rfl) :
    DS X W (.Assign [.Tuple [.Name x px, .Name y py] kt pt] (.Tuple [a, b] k2 pt2) pos) (sPar i j f) := by
  obtain ⟨t, p, s⟩ := ha
  refine ⟨_, ps_par hc hN hi hj hij hx hy p hw hs, ?_⟩
  refine snd_then (k := fun vs (Dn : Ends) σ H1 => ∃ v w, vs = [v, w] ∧ Dn.nx ((σ.set i (some v)).set j (some w)) H1) s fun θ G vs ds hv ρ M o M' σ H Dn e rs rv kk => ?_
  split at e
  · rename_i d e'
    cases e
    obtain ⟨v, u, rfl, h1, h2⟩ := vals2 hv
    exact ⟨v, u, rfl, (kk θ G H (List.prefix_refl _) (Same.refl _) rs).nx _ _ rfl ((rv.set h1).set h2)⟩
  · cases e
def sRet (f : Ev D) : Sv := thenS f fun d _ M => some (.rt d, M)
theorem ds_ret {e : Expr} {f : Ev D} (he : DE X W e f) : DS X W (.Return (some e) pos) (sRet f) := by
  obtain ⟨t, p, s⟩ := he
  refine ⟨_, ps_ret p, ?_⟩
  refine snd_then (k := fun v (Dn : Ends) σ H1 => Dn.rt v H1) s fun θ G v d hv ρ M o M' σ H Dn e rs rv kk => ?_
  cases e
  exact (kk θ G H (List.prefix_refl _) (Same.refl _) rs).rt d v rfl hv
def sExpr (f : Ev D) : Sv := thenS f fun _ ρ M => some (.nx ρ, M)
theorem ds_expr {e : Expr} {f : Ev D} (he : DE X W e f) (hs : swapsWith e none pos.line X.env = pure false := by rfl) : DS X W (.Expr e pos) (sExpr f) := by
  obtain ⟨t, p, s⟩ := he
  refine ⟨_, ps_expr p hs, ?_⟩
  refine snd_then (k := fun v (Dn : Ends) σ H1 => Dn.nx σ H1) s fun θ G v d hv ρ M o M' σ H Dn e rs rv kk => ?_
  cases e
  exact (kk θ G H (List.prefix_refl _) (Same.refl _) rs).nx ρ σ rfl rv
def sIf (c : Ev Bool) (f g : Sv) : Sv := thenS c fun b => if b = true then f else g
theorem ds_if {c : Expr} {a b : List Stmt} {h : Ev Bool} {f g : Sv} (hc : DT X W c h) (ha : DSs X W a f) (hb : DSs X W b g) : DS X W (.If c a b pos) (sIf h f g) := by
  obtain ⟨t, p, s⟩ := hc
  obtain ⟨u, p2, s2⟩ := ha
  obtain ⟨z, p3, s3⟩ := hb
  refine ⟨_, ps_if p p2 p3, ?_⟩
  refine snd_then (k := fun (b : Bool) (Dn : Ends) σ H1 => if b = true then u Dn σ H1 else z Dn σ H1) s fun θ G v d hv ρ M o M' σ H Dn e rs rv kk => ?_
  cases hv
  cases v with
  | true =>
    rw [if_pos rfl] at e ⊢
    exact s2 ρ M o M' θ G σ H Dn e rs rv kk
  | false =>
    rw [if_neg Bool.false_ne_true] at e ⊢
    exact s3 ρ M o M' θ G σ H Dn e rs rv kk
def sNever : Sv := fun _ _ => none
theorem ds_never {st : Stmt} : DS X W st sNever := ⟨_, ps_never, fun ρ M o M' θ G σ H Dn e => by cases e⟩
theorem dss_never {st : List Stmt} : DSs X W st sNever := ⟨_, pss_never, fun ρ M o M' θ G σ H Dn e => by cases e⟩
theorem ds_pass : DS X W (.Pass pos) sNext := by
  refine ⟨_, ps_pass, fun ρ M o M' θ G σ H Dn e rs rv kk => ?_⟩
  unfold sNext at e
  cases e
  exact (kk θ G H (List.prefix_refl _) (Same.refl _) rs).nx ρ σ rfl rv
/-! ### while -/
def whileF (c : Ev Bool) (b : Sv) : Nat → Sv
  | 0 => fun _ _ => none
  | n + 1 => fun ρ M => match c ρ M with
    | some (.ok true, M1) => match b ρ M1 with
      | some (.nx ρ2, M2) => whileF c b n ρ2 M2
      | some (.ct ρ2, M2) => whileF c b n ρ2 M2
      | some (.bk ρ2, M2) => some (.nx ρ2, M2)
      | r => r
    | some (.ok false, M1) => some (.nx ρ, M1)
    | some (.exc C, M1) => some (.ex C ρ, M1)
    | none => none
theorem whileF_succ {c : Ev Bool} {b : Sv} : ∀ {n : Nat} {ρ : Env} {M : Mem} {r : Out × Mem}, whileF c b n ρ M = some r → whileF c b (n + 1) ρ M = some r
  | 0, ρ, M, r, h => by cases h
  | n + 1, ρ, M, r, h => by
    unfold whileF at h ⊢
    cases q : c ρ M with
    | none => rw [q] at h; cases h
    | some z =>
      obtain ⟨x, M1⟩ := z
      rw [q] at h
      cases x with
      | exc C => exact h
      | ok k =>
        cases k with
        | false => exact h
        | true =>
          dsimp only at h ⊢
          cases q2 : b ρ M1 with
          | none => rw [q2] at h; cases h
          | some z2 =>
            obtain ⟨o, M2⟩ := z2
            rw [q2] at h
            cases o with
            | nx ρ2 => exact whileF_succ h
            | ct ρ2 => exact whileF_succ h
            | bk ρ2 => exact h
            | rt d => exact h
            | ex C ρ2 => exact h
theorem whileF_le {c : Ev Bool} {b : Sv} {m n : Nat} (h : m ≤ n) {ρ : Env} {M : Mem} {r : Out × Mem} (e : whileF c b m ρ M = some r) : whileF c b n ρ M = some r := by
  induction h with
  | refl => exact e
  | step _ ih => exact whileF_succ ih
open Classical in
noncomputable def sWhile (c : Ev Bool) (b : Sv) : Sv := fun ρ M => if h : ∃ r n, whileF c b n ρ M = some r then some (Classical.choose h) else none
theorem sWhile_eq {c : Ev Bool} {b : Sv} {n : Nat} {ρ : Env} {M : Mem} {r : Out × Mem} (e : whileF c b n ρ M = some r) : sWhile c b ρ M = some r := by
  have h : ∃ r n, whileF c b n ρ M = some r := ⟨r, n, e⟩
  unfold sWhile
  rw [dif_pos h]
  obtain ⟨m, hm⟩ := Classical.choose_spec h
  have e1 := whileF_le (Nat.le_max_left m n) hm
  have e2 := whileF_le (Nat.le_max_right m n) e
  rw [e1] at e2
  exact e2
theorem sWhile_of {c : Ev Bool} {b : Sv} {ρ : Env} {M : Mem} {r : Out × Mem} (e : sWhile c b ρ M = some r) : ∃ n, whileF c b n ρ M = some r := by
  unfold sWhile at e
  split at e
  · rename_i h
    obtain ⟨m, hm⟩ := Classical.choose_spec h
    exact ⟨m, by rw [hm]; exact e⟩
  · cases e
theorem ds_while {c : Expr} {body : List Stmt} {h : Ev Bool} {f : Sv} (hp : PassesOwn (model X.prog X.w) X.A X.env X.xe) (hc : DT X W c h) (hb : DSs X W body f) : DS X W (.While c body [] pos) (sWhile h f) := by
  obtain ⟨tc, p, s⟩ := hc
  obtain ⟨tb, p2, s2⟩ := hb
  refine ⟨_, ps_while hp p p2, fun ρ M o M' θ G σ H Dn e rs rv kk => ?_⟩
  obtain ⟨n, hn⟩ := sWhile_of e
  refine ⟨fun m σ1 H1 => ∃ ρ1 M1 θ1 G1, θ <+: θ1 ∧ Same G G1 ∧ Rs X.K θ1 G1 H1 M1 ∧ Rσ X.K θ1 G1 σ1 ρ1 ∧ whileF h f m ρ1 M1 = some (o, M'), ⟨n, ρ, M, θ, G, List.prefix_refl _, Same.refl _, rs, rv, hn⟩, ?_⟩
  rintro m σ1 H1 ⟨ρ1, M1, θ1, G1, pr, sa, rs1, rv1, w⟩
  cases m with
  | zero => cases w
  | succ m =>
    unfold whileF at w
    cases q : h ρ1 M1 with
    | none => rw [q] at w; cases w
    | some z =>
      obtain ⟨x, M2⟩ := z
      rw [q] at w
      refine s θ1 G1 ρ1 M1 x M2 θ1 G1 σ1 H1 _ (List.prefix_refl _) (Same.refl _) q rs1 rv1 fun θ2 G2 H2 p2 sa2 rs2 => ?_
      cases x with
      | exc C =>
        cases w
        exact ⟨fun C' h => by cases h; exact (kk θ2 G2 H2 (pr.trans p2) (sa.trans sa2) rs2).ex C ρ1 σ1 rfl (rv1.mono p2 sa2), fun d v h => (by cases h)⟩
      | ok k =>
        refine ⟨fun C' h => (by cases h), fun d v h hv => ?_⟩
        cases h
        cases hv
        cases k with
        | false =>
          cases w
          rw [if_neg Bool.false_ne_true]
          exact (kk θ2 G2 H2 (pr.trans p2) (sa.trans sa2) rs2).nx ρ1 σ1 rfl (rv1.mono p2 sa2)
        | true =>
          rw [if_pos rfl]
          dsimp only at w
          refine ⟨fun σ3 H3 => ∃ ρ3 M3 θ3 G3, θ <+: θ3 ∧ Same G G3 ∧ Rs X.K θ3 G3 H3 M3 ∧ Rσ X.K θ3 G3 σ3 ρ3 ∧ whileF h f m ρ3 M3 = some (o, M'), fun σ' H' hN => ⟨m, Nat.lt_succ_self m, hN⟩, ?_⟩
          cases q2 : f ρ1 M2 with
          | none => rw [q2] at w; cases w
          | some z2 =>
            obtain ⟨o2, M3⟩ := z2
            rw [q2] at w
            refine s2 ρ1 M2 o2 M3 θ2 G2 σ1 H2 _ q2 rs2 (rv1.mono p2 sa2) fun θ3 G3 H3 p3 sa3 rs3 => ?_
            have pr3 := (pr.trans p2).trans p3
            have sm3 := (sa.trans sa2).trans sa3
            cases o2 with
            | nx ρ3 => exact ⟨fun ρ4 σ4 h r4 => by cases h; exact ⟨ρ3, M3, θ3, G3, pr3, sm3, rs3, r4, w⟩, fun _ _ h => (by cases h), fun _ _ h => (by cases h), fun _ _ h => (by cases h), fun _ _ _ h => (by cases h)⟩
            | ct ρ3 => exact ⟨fun _ _ h => (by cases h), fun _ _ h => (by cases h), fun ρ4 σ4 h r4 => by cases h; exact ⟨ρ3, M3, θ3, G3, pr3, sm3, rs3, r4, w⟩, fun _ _ h => (by cases h), fun _ _ _ h => (by cases h)⟩
            | bk ρ3 =>
              cases w
              exact ⟨fun _ _ h => (by cases h), fun ρ4 σ4 h r4 => by cases h; exact (kk θ3 G3 H3 pr3 sm3 rs3).nx ρ3 σ4 rfl r4, fun _ _ h => (by cases h), fun _ _ h => (by cases h), fun _ _ _ h => (by cases h)⟩
            | rt d =>
              cases w
              exact ⟨fun _ _ h => (by cases h), fun _ _ h => (by cases h), fun _ _ h => (by cases h), (kk θ3 G3 H3 pr3 sm3 rs3).rt, fun _ _ _ h => (by cases h)⟩
            | ex C ρ3 =>
              cases w
              exact ⟨fun _ _ h => (by cases h), fun _ _ h => (by cases h), fun _ _ h => (by cases h), fun _ _ h => (by cases h), (kk θ3 G3 H3 pr3 sm3 rs3).ex⟩
/-! ### for -/
def forF (b : Tg) (f : Sv) : List D → Sv
  | [] => fun ρ M => some (.nx ρ, M)
  | d :: ds => fun ρ M => match b d ρ with
    | none => none
    | some ρ1 => match f ρ1 M with
      | some (.nx ρ2, M2) => forF b f ds ρ2 M2
      | some (.ct ρ2, M2) => forF b f ds ρ2 M2
      | some (.bk ρ2, M2) => some (.nx ρ2, M2)
      | r => r
/-- what an iterator yields, from θ, G on -/
structure RI (K : PySem.W.Frag) (θ0 : List Addr) (G0 : Hp) (J : It) (ds : List D) : Prop where
  go : ∀ (i : Nat) (θ : List Addr) (G H : Hp) (M : Mem), θ0 <+: θ → Same G0 G → Rs K θ G H M → i < ds.length → J.go i H
  stop : ∀ (θ : List Addr) (G H : Hp) (M : Mem), θ0 <+: θ → Same G0 G → Rs K θ G H M → J.stop ds.length H
  yld : ∀ (i : Nat) (d : D) (θ : List Addr) (G H : Hp) (M : Mem) (x : V) (H' : Hp), θ0 <+: θ → Same G0 G → Rs K θ G H M → ds[i]? = some d → J.yld i H x H' → ∃ G', Same G G' ∧ Rs K θ G' H' M ∧ Rv K θ G' x d
def DI (X : Cx) (W : WN) (tg iter : Expr) (f : Ev (List D)) : Prop := ∃ wi, PI X tg iter wi ∧ ∀ θ G, Snd X.K W (RI X.K) θ G wi f
def sFor (h : Ev (List D)) (b : Tg) (f : Sv) : Sv := thenS h fun ds => forF b f ds
theorem ds_for {tg iter : Expr} {body : List Stmt} {h : Ev (List D)} {b : Tg} {f : Sv} {sl : List Nat} (hp : PassesOwn (model X.prog X.w) X.A X.env X.xe) (hi : DI X W tg iter h) (hg : DG X tg b sl) (hb : DSs X W body f) (hc : X.calm = true := by rfl)
    (hs : ∀ x, foldedSetIterable iter X.env x = pure x := by intro _; rfl) : DS X W (.For tg iter body [] pos) (sFor h b f) := by
  obtain ⟨wi, p, s⟩ := hi
  obtain ⟨g, pg, sg⟩ := hg
  obtain ⟨tb, p2, s2⟩ := hb
  refine ⟨_, ps_for hp hc p pg p2 hs, ?_⟩
  refine snd_then (R := RI X.K) (k := fun (J : It) (Dn : Ends) σ H1 => ∃ W : Nat → Nat → L2.St → Hp → Prop, (∃ m, W 0 m σ H1) ∧ ∀ i m σ H, W i m σ H →
    (J.stop i H ∧ Dn.nx σ H) ∨ (J.go i H ∧ ∃ N : L2.St → Hp → Prop, (∀ σ' H', N σ' H' → ∃ m', m' < m ∧ W (i + 1) m' σ' H') ∧ ∀ x H', J.yld i H x H' → g x σ H' fun σ2 H2 => tb { Dn with nx := N, ct := N, bk := Dn.nx } σ2 H2)) s ?_
  intro θ G J ds hJ ρ M o M' σ H Dn e rs rv kk
  refine ⟨fun i m σ1 H1 => ∃ ρ1 M1 θ1 G1, m + i = ds.length ∧ θ <+: θ1 ∧ Same G G1 ∧ Rs X.K θ1 G1 H1 M1 ∧ Rσ X.K θ1 G1 σ1 ρ1 ∧ forF b f (ds.drop i) ρ1 M1 = some (o, M'), ⟨ds.length, ρ, M, θ, G, rfl, List.prefix_refl _, Same.refl _, rs, rv, e⟩, ?_⟩
  rintro i m σ1 H1 ⟨ρ1, M1, θ1, G1, hm, pr, sa, rs1, rv1, w⟩
  by_cases hi : i < ds.length
  · right
    have hd : ds.drop i = ds[i] :: ds.drop (i + 1) := List.drop_eq_getElem_cons hi
    rw [hd] at w
    unfold forF at w
    refine ⟨hJ.go i θ1 G1 H1 M1 pr sa rs1 hi, fun σ3 H3 => ∃ ρ3 M3 θ3 G3, θ <+: θ3 ∧ Same G G3 ∧ Rs X.K θ3 G3 H3 M3 ∧ Rσ X.K θ3 G3 σ3 ρ3 ∧ forF b f (ds.drop (i + 1)) ρ3 M3 = some (o, M'), fun σ' H' hN => ?_, fun x H' hy => ?_⟩
    · obtain ⟨ρ3, M3, θ3, G3, a1, a2, a3, a4, a5⟩ := hN
      exact ⟨m - 1, by omega, ρ3, M3, θ3, G3, by omega, a1, a2, a3, a4, a5⟩
    · obtain ⟨G2, sa2, rs2, rx⟩ := hJ.yld i ds[i] θ1 G1 H1 M1 x H' pr sa rs1 (List.getElem?_eq_getElem hi) hy
      cases q : b ds[i] ρ1 with
      | none => rw [q] at w; cases w
      | some ρ2 =>
        rw [q] at w
        dsimp only at w
        refine sg ds[i] ρ1 ρ2 θ1 G2 σ1 H' M1 _ x q rs2 (rv1.mono (List.prefix_refl _) sa2) rx fun σ2 r2 _ => ?_
        cases q2 : f ρ2 M1 with
        | none => rw [q2] at w; cases w
        | some z2 =>
          obtain ⟨o2, M3⟩ := z2
          rw [q2] at w
          refine s2 ρ2 M1 o2 M3 θ1 G2 σ2 H' _ q2 rs2 r2 fun θ3 G3 H3 p3 sa3 rs3 => ?_
          have pr3 := pr.trans p3
          have sm3 := (sa.trans sa2).trans sa3
          cases o2 with
          | nx ρ3 => exact ⟨fun ρ4 σ4 h r4 => by cases h; exact ⟨ρ3, M3, θ3, G3, pr3, sm3, rs3, r4, w⟩, fun _ _ h => (by cases h), fun _ _ h => (by cases h), fun _ _ h => (by cases h), fun _ _ _ h => (by cases h)⟩
          | ct ρ3 => exact ⟨fun _ _ h => (by cases h), fun _ _ h => (by cases h), fun ρ4 σ4 h r4 => by cases h; exact ⟨ρ3, M3, θ3, G3, pr3, sm3, rs3, r4, w⟩, fun _ _ h => (by cases h), fun _ _ _ h => (by cases h)⟩
          | bk ρ3 =>
            cases w
            exact ⟨fun _ _ h => (by cases h), fun ρ4 σ4 h r4 => by cases h; exact (kk θ3 G3 H3 pr3 sm3 rs3).nx ρ3 σ4 rfl r4, fun _ _ h => (by cases h), fun _ _ h => (by cases h), fun _ _ _ h => (by cases h)⟩
          | rt d =>
            cases w
            exact ⟨fun _ _ h => (by cases h), fun _ _ h => (by cases h), fun _ _ h => (by cases h), (kk θ3 G3 H3 pr3 sm3 rs3).rt, fun _ _ _ h => (by cases h)⟩
          | ex C ρ3 =>
            cases w
            exact ⟨fun _ _ h => (by cases h), fun _ _ h => (by cases h), fun _ _ h => (by cases h), fun _ _ h => (by cases h), (kk θ3 G3 H3 pr3 sm3 rs3).ex⟩
  · left
    have hd : ds.drop i = [] := List.drop_eq_nil_of_le (by omega)
    rw [hd] at w
    cases w
    have hi2 : i = ds.length := by omega
    subst hi2
    exact ⟨hJ.stop θ1 G1 H1 _ pr sa rs1, (kk θ1 G1 H1 pr sa rs1).nx ρ1 σ1 rfl rv1⟩
end
end Bw
namespace Bw
open PySem PySem.Spec PyProof.Rows L2
/-! ### the heap once more -/
theorem Rs.take {K : PySem.W.Frag} {θ : List Addr} {G H : Hp} {M : Mem} (r : Rs K θ G H M) (n : Nat) : Rs K (θ.take n) G H (M.take n) := by
  have gt : ∀ (m : Nat) (a : Addr), (θ.take n)[m]? = some a → θ[m]? = some a := fun m a h => by
    rw [List.getElem?_take] at h
    split at h
    · exact h
    · cases h
  refine ⟨r.sub, by simp [r.len], r.nd.sublist (List.take_sublist _ _), fun m a h => r.live m a (gt m a h), fun m a ds h1 h2 => r.mem m a ds (gt m a h1) ?_⟩
  rw [List.getElem?_take] at h2
  split at h2
  · exact h2
  · cases h2
theorem Rs.freeze {K : PySem.W.Frag} {θ : List Addr} {G H : Hp} {M : Mem} (r : Rs K θ G H M) {n : Nat} {a : Addr} {ds : List D} (h1 : θ[n]? = some a) (h2 : M[n]? = some (some ds)) :
    ∃ G', Same G G' ∧ Rp K G' (.ref a) (.lst ds) ∧ Rs K θ G' H (M.set n none) := by
  obtain ⟨g, xs, hx, rl⟩ := r.mem n a ds h1 h2
  have sm : Same G (upd G a (.lst xs)) := same_upd g
  refine ⟨upd G a (.lst xs), sm, rp_lst upd_same (rl.mono sm), fun b o e => ?_, by simp [r.len], r.nd, r.live, fun m b es e1 e2 => ?_⟩
  · by_cases hb : b = a
    · subst hb; rw [upd_same] at e; cases e; exact hx
    · rw [upd_ne hb] at e; exact r.sub _ _ e
  · by_cases hm : n = m
    · subst hm
      rw [List.getElem?_set_self'] at e2
      cases q : M[n]? with
      | none => rw [q] at e2; cases e2
      | some z => rw [q] at e2; cases e2
    · rw [List.getElem?_set_ne hm] at e2
      obtain ⟨g2, ys, hy, rl2⟩ := r.mem m b es e1 e2
      have hb : b ≠ a := fun z => hm (by
        subst z
        have i1 : n < θ.length := by
          rcases Nat.lt_or_ge n θ.length with q | q
          · exact q
          · rw [List.getElem?_eq_none q] at h1; cases h1
        exact (List.getElem?_inj i1 r.nd).mp (h1.trans e1.symm))
      exact ⟨by rw [upd_ne hb]; exact g2, ys, hy, rl2.mono sm⟩
/-- a mutable list is changed -/
theorem Rs.put {K : PySem.W.Frag} {θ : List Addr} {G H : Hp} {M : Mem} (r : Rs K θ G H M) {n : Nat} {a : Addr} {ds : List D} {xs : List V} (h1 : θ[n]? = some a) (g : G a = none) (rl : RpL K G xs ds) :
    Rs K θ G (upd H a (.lst xs)) (M.set n (some ds)) := by
  refine ⟨fun b o e => ?_, by simp [r.len], r.nd, fun m b h => live_upd (r.live m b h), fun m b es e1 e2 => ?_⟩
  · have hb : b ≠ a := ne_of_none e g
    rw [upd_ne hb]; exact r.sub _ _ e
  · have i1 : n < θ.length := by
      rcases Nat.lt_or_ge n θ.length with q | q
      · exact q
      · rw [List.getElem?_eq_none q] at h1; cases h1
    by_cases hm : n = m
    · subst hm
      rw [h1] at e1; cases e1
      rw [List.getElem?_set_self (by rw [← r.len]; exact i1)] at e2
      cases e2
      exact ⟨g, xs, upd_same, rl⟩
    · rw [List.getElem?_set_ne hm] at e2
      obtain ⟨g2, ys, hy, rl2⟩ := r.mem m b es e1 e2
      have hb : b ≠ a := fun z => hm (by subst z; exact (List.getElem?_inj i1 r.nd).mp (h1.trans e1.symm))
      exact ⟨g2, ys, by rw [upd_ne hb]; exact hy, rl2⟩
theorem pre_take {θ θ' : List Addr} (p : θ <+: θ') {n : Nat} (h : θ.length ≤ n) : θ <+: θ'.take n := by
  obtain ⟨r, rfl⟩ := p
  rw [List.take_append]
  rw [List.take_of_length_le h]
  exact List.prefix_append _ _
section
variable {X : Cx} {W : WN} {pos : Pos} {K : PySem.W.Frag}
/-! ### what a for walks -/
def oRng1 (ds : List D) : Ev (List D) := match ds with
  | [.int j] => if -(2 ^ 62) ≤ j ∧ j < 2 ^ 62 then ret ((List.range j.toNat).map fun (i : Nat) => D.int (i : Int)) else stk
  | _ => stk
theorem ri_range {θ : List Addr} {G : Hp} {n : Nat} : RI K θ G (Itr 0 n) ((List.range n).map fun (i : Nat) => D.int (i : Int)) := by
  refine ⟨fun i θ G H M _ _ _ h => by simpa [Itr] using h, fun θ G H M _ _ _ => by simp [Itr], fun i d θ G H M x H' _ _ rs h y => ?_⟩
  obtain ⟨rfl, rfl⟩ := y
  refine ⟨G, Same.refl _, rs, ?_⟩
  rw [List.getElem?_map] at h
  have hi : i < n := by
    rcases Nat.lt_or_ge i n with q | q
    · exact q
    · rw [List.getElem?_eq_none (by simpa using q)] at h; cases h
  rw [List.getElem?_range hi] at h
  cases h
  rw [Int.zero_add]
  exact .dat (.int _)
theorem di_range1 {tg : Expr} {a : Expr} {p : Pos} {h : Ev (List D)} (hm : X.mg "range" = none) (ha : DA X W [a] h) (hg : Gl X "range" := by rfl) (hs : starEach [a] X.env = [(false, eval a X.env)] := by rfl) : DI X W tg (.Call (.Name "range" p) [a] [] pos) (bnd h oRng1) := by
  obtain ⟨t, q, s⟩ := ha
  refine ⟨_, pi_range1 hg hm q hs, fun θ G => (s θ G).bind (R2 := RI X.K) (k := fun (vs : List V) (_ : L2.St) (H1 : Hp) (R : It → Hp → Prop) => ∃ j : Int, vs = [.int j] ∧ -(2 ^ 62) ≤ j ∧ j < 2 ^ 62 ∧ R (Itr 0 j.toNat) H1) fun θ1 G1 v d _ _ hv => ?_⟩
  unfold oRng1
  split
  · rename_i j
    split
    · rename_i hj
      obtain ⟨u, rfl, hu⟩ := vals1 hv
      rw [hu.int_of]
      intro ρ M r M' θ2 G2 σ H Q p s e rs rv kk
      exact ⟨j, rfl, hj.1, hj.2, Snd.ret (K := X.K) (W := W) (R := RI X.K) (θ0 := θ1) (G0 := G1) (fun _ _ _ _ => ri_range) ρ M r M' θ2 G2 σ H Q p s e rs rv kk⟩
    · exact Snd.stk
  · exact Snd.stk
def oItL (d : D) : Ev (List D) := match d with
  | .lst ds => ret ds
  | _ => stk
def oItT (d : D) : Ev (List D) := match d with
  | .tup ds => ret ds
  | _ => stk
theorem ri_list {θ : List Addr} {G : Hp} {a : Addr} {xs : List V} {ds : List D} (h : SqL K G a xs) (r : RpL K G xs ds) : RI K θ G (Itl K a) ds := by
  refine ⟨fun i θ1 G1 H M _ s rs hi => ?_, fun θ1 G1 H M _ s rs => ?_, fun i d θ1 G1 H M x H' _ s rs hd y => ?_⟩
  · obtain ⟨v, hv, _⟩ := r.at (List.getElem?_eq_getElem hi)
    exact ⟨xs, v, rs.sub.seq (s.seq h), hv⟩
  · exact ⟨xs, rs.sub.seq (s.seq h), by rw [r.len]; exact Nat.le_refl _⟩
  · obtain ⟨rfl, y⟩ := y
    have := y xs (rs.sub.seq (s.seq h))
    exact ⟨G1, Same.refl _, rs, .dat ((r.get i x d this hd).mono s)⟩
theorem ri_tup {θ : List Addr} {G : Hp} {a : Addr} {xs : List V} {ds : List D} (h : SqT K G a xs) (r : RpL K G xs ds) : RI K θ G (Itt K a) ds := by
  refine ⟨fun i θ1 G1 H M _ s rs hi => ?_, fun θ1 G1 H M _ s rs => ?_, fun i d θ1 G1 H M x H' _ s rs hd y => ?_⟩
  · obtain ⟨v, hv, _⟩ := r.at (List.getElem?_eq_getElem hi)
    exact ⟨xs, v, seqT rs.sub (seqT s h), hv⟩
  · exact ⟨xs, seqT rs.sub (seqT s h), by rw [r.len]; exact Nat.le_refl _⟩
  · obtain ⟨rfl, y⟩ := y
    have := y xs (seqT rs.sub (seqT s h))
    exact ⟨G1, Same.refl _, rs, .dat ((r.get i x d this hd).mono s)⟩
theorem RI.mono {θ0 θ1 : List Addr} {G0 G1 : Hp} {J : It} {ds : List D} (h : RI K θ0 G0 J ds) (p : θ0 <+: θ1) (s : Same G0 G1) : RI K θ1 G1 J ds :=
  ⟨fun i θ G H M p1 s1 => h.go i θ G H M (p.trans p1) (s.trans s1), fun θ G H M p1 s1 => h.stop θ G H M (p.trans p1) (s.trans s1), fun i d θ G H M x H' p1 s1 => h.yld i d θ G H M x H' (p.trans p1) (s.trans s1)⟩
theorem di_list {tg e : Expr} {f : Ev D} (h : DE X W e f) : DI X W tg e (bnd f oItL) := by
  obtain ⟨t, q, s⟩ := h
  refine ⟨_, pi_list q, fun θ G => (s θ G).bind (R2 := RI X.K) (k := fun (x : V) (_ : L2.St) (H1 : Hp) (R : It → Hp → Prop) => ∃ a, x = .ref a ∧ (∃ xs, SqL X.K H1 a xs) ∧ R (Itl X.K a) H1) fun θ1 G1 v d _ _ hv => ?_⟩
  unfold oItL
  split
  · rename_i ds
    cases hv with
    | dat hv =>
      cases hv with
      | lst hq l g =>
        rename_i a xs
        intro ρ M r M' θ2 G2 σ H Q p s e rs rv kk
        exact ⟨a, rfl, ⟨xs, .inl (.inl (rs.sub _ _ (s _ _ hq)))⟩, Snd.ret (K := X.K) (W := W) (R := RI X.K) (θ0 := θ1) (G0 := G1) (fun _ _ p s => (ri_list (.inl (.inl hq)) ⟨l, g⟩).mono p s) ρ M r M' θ2 G2 σ H Q p s e rs rv kk⟩
  · exact Snd.stk
theorem di_tup {tg e : Expr} {f : Ev D} (h : DE X W e f) : DI X W tg e (bnd f oItT) := by
  obtain ⟨t, q, s⟩ := h
  refine ⟨_, pi_tup q, fun θ G => (s θ G).bind (R2 := RI X.K) (k := fun (x : V) (_ : L2.St) (H1 : Hp) (R : It → Hp → Prop) => ∃ a, x = .ref a ∧ (∃ xs, SqT X.K H1 a xs) ∧ R (Itt X.K a) H1) fun θ1 G1 v d _ _ hv => ?_⟩
  unfold oItT
  split
  · rename_i ds
    cases hv with
    | dat hv =>
      cases hv with
      | tup hq l g =>
        rename_i a xs
        intro ρ M r M' θ2 G2 σ H Q p s e rs rv kk
        exact ⟨a, rfl, ⟨xs, seqT rs.sub (seqT s hq)⟩, Snd.ret (K := X.K) (W := W) (R := RI X.K) (θ0 := θ1) (G0 := G1) (fun _ _ p s => (ri_tup hq ⟨l, g⟩).mono p s) ρ M r M' θ2 G2 σ H Q p s e rs rv kk⟩
  · exact Snd.stk
/-! ### x[i] = e -/
def sStore (f fo fi : Ev D) : Sv := thenS f fun d => thenS fo fun o => thenS fi fun i => fun ρ M => match o, i with
  | .ptr n, .int k => match M[n]? with
    | some (some ds) => match ixN ds.length k with
      | some j => if d.np = true then some (.nx ρ, M.set n (some (ds.set j d))) else none
      | none => none
    | _ => none
  | _, _ => none
theorem snd_then' {A α : Type} {R : List Addr → Hp → A → α → Prop} {t : L2.St → Hp → (A → Hp → Prop) → Prop} {f : Ev α} {k : A → TS} {g : α → Sv} {θ0 : List Addr} {G0 : Hp} (h : ∀ θ G, Snd K W R θ G t f)
    (h2 : ∀ θ G v d, θ0 <+: θ → Same G0 G → R θ G v d → ∀ (ρ : Env) (M : Mem) (o : Out) (M' : Mem) (σ : L2.St) (H : Hp) (Dn : Ends), g d ρ M = some (o, M') → Rs K θ G H M → Rσ K θ G σ ρ →
      (∀ (θ' : List Addr) (G' H' : Hp), θ <+: θ' → Same G G' → Rs K θ' G' H' M' → Cont K W Dn o θ' G' H') → k v Dn σ H) :
    ∀ (ρ : Env) (M : Mem) (o : Out) (M' : Mem) (θ : List Addr) (G : Hp) (σ : L2.St) (H : Hp) (Dn : Ends), θ0 <+: θ → Same G0 G → thenS f g ρ M = some (o, M') → Rs K θ G H M → Rσ K θ G σ ρ →
      (∀ (θ' : List Addr) (G' H' : Hp), θ <+: θ' → Same G G' → Rs K θ' G' H' M' → Cont K W Dn o θ' G' H') → t σ H fun v H1 => k v Dn σ H1 := by
  intro ρ M o M' θ G σ H Dn p0 s0 e rs rv kk
  unfold thenS at e
  cases q : f ρ M with
  | none => rw [q] at e; cases e
  | some z =>
    obtain ⟨r1, M1⟩ := z
    rw [q] at e
    refine h θ G ρ M r1 M1 θ G σ H _ (List.prefix_refl _) (Same.refl _) q rs rv fun θ' G' H' p' s' rs' => ?_
    cases r1 with
    | exc C =>
      simp at e
      obtain ⟨e1, e2⟩ := e
      subst e1; subst e2
      exact ⟨fun C' h => by cases h; exact (kk θ' G' H' p' s' rs').ex C ρ σ rfl (rv.mono p' s'), fun d v h => (by cases h)⟩
    | ok a =>
      refine ⟨fun C' h => (by cases h), fun d v h rel => ?_⟩
      cases h
      exact h2 θ' G' v a (p0.trans p') (s0.trans s') rel ρ M1 o M' σ H' Dn e rs' (rv.mono p' s') fun θ2 G2 H2 p2 s2 rs2 => kk θ2 G2 H2 (p'.trans p2) (s'.trans s2) rs2
theorem ds_store {o i e : Expr} {f fo fi : Ev D} {spos : Pos} (he : DE X W e f) (ho : DE X W o fo) (hi : DE X W i fi)
    (ha : ∀ v, assign (.Subscript o i pos) X.env v = (do
      let ov ← holding [v] (eval o X.env)
      let iv ← holding [v, ov] (eval i X.env)
      standAt pos
      holding [v, ov, iv] (setItem ov iv v)
      release [v, ov, iv] []) := by intro _; rfl)
    (hs : swapsWithSole [.Subscript o i pos] e spos.line X.env = pure false := by rfl) (hw : swappedStores [.Subscript o i pos] e X.env = pure none := by rfl)
    (h1 : (assignEach [.Subscript o i pos] X.env).map (·.2) = [assign (.Subscript o i pos) X.env] := by rfl) : DS X W (.Assign [.Subscript o i pos] e spos) (sStore f fo fi) := by
  obtain ⟨t, p, s⟩ := he
  obtain ⟨to, po, so⟩ := ho
  obtain ⟨ti, pi, si⟩ := hi
  refine ⟨_, ps_asg p (pg_sub po pi set_list ha) hs hw h1, ?_⟩
  unfold sStore
  refine snd_then (k := fun v (Dn : Ends) σ H1 => to σ H1 fun o H1 => ti σ H1 fun i H2 => rSetL o i v H2 fun H3 => Dn.nx σ H3) s fun θ G v d hv ρ M o M' σ H Dn e rs rv kk => ?_
  refine snd_then' (θ0 := θ) (G0 := G) (k := fun o (Dn : Ends) σ H1 => ti σ H1 fun i H2 => rSetL o i v H2 fun H3 => Dn.nx σ H3) so (fun θ1 G1 vo do' p1 s1 hvo ρ M o M' σ H Dn e rs rv kk => ?_) ρ M o M' θ G σ H Dn (List.prefix_refl _) (Same.refl _) e rs rv kk
  refine snd_then' (θ0 := θ1) (G0 := G1) (k := fun i (Dn : Ends) σ H2 => rSetL vo i v H2 fun H3 => Dn.nx σ H3) si (fun θ2 G2 vi di p2 s2 hvi ρ M o M' σ H Dn e rs rv kk => ?_) ρ M o M' θ1 G1 σ H Dn (List.prefix_refl _) (Same.refl _) e rs rv kk
  split at e
  · rename_i n k hyp
    split at e
    · rename_i ds hm
      split at e
      · rename_i j hj
        split at e
        · rename_i hnp
          simp at e
          obtain ⟨e1, e2⟩ := e
          subst e1; subst e2
          have hvi' := hvi.int_of
          subst hvi'
          cases hvo with
          | dat hvo => cases hvo
          | ptr hn =>
            have hn2 := pre_get p2 hn
            obtain ⟨g, xs, hx, rl⟩ := rs.mem n _ ds hn2 hm
            refine ⟨_, xs, k, j, rfl, rfl, hx, by rw [rl.len]; exact hj, ?_⟩
            have rd := (hv.rp hnp).mono (s1.trans s2)
            exact (kk θ2 G2 _ (List.prefix_refl _) (Same.refl _) (rs.put hn2 g (rl.set (j := j) rd))).nx ρ σ rfl rv
        · cases e
      · cases e
    · cases e
  · cases e
/-! ### x.append(e) -/
def oApp (o d : D) : Ev D := fun ρ M => match o with
  | .ptr n => match M[n]? with
    | some (some ds) => if d.np = true ∧ ds.length < 16777216 then some (.ok .non, M.set n (some (ds ++ [d]))) else none
    | _ => none
  | _ => none
def okPtr (o : D) : Ev D := fun ρ M => match o with
  | .ptr n => match M[n]? with
    | some (some _) => some (.ok o, M)
    | _ => none
  | _ => none
/-! ### comprehensions -/
def wipeD (ρ : Env) : List Nat → Env
  | [] => ρ
  | v :: vs => (wipeD ρ vs).set v none
theorem rσ_none {θ : List Addr} {G : Hp} {σ : L2.St} {ρ : Env} (r : Rσ K θ G σ ρ) (i : Nat) : Rσ K θ G (σ.set i none) (ρ.set i none) := by
  refine ⟨by simp [r.len], fun j d h => ?_⟩
  by_cases hij : i = j
  · subst hij
    rw [List.getElem?_set_self'] at h
    cases q : ρ[i]? with
    | none => rw [q] at h; cases h
    | some z => rw [q] at h; simp at h
  · rw [List.getElem?_set_ne hij] at h ⊢
    exact r.get j d h
theorem rσ_wipe {θ : List Addr} {G : Hp} {σ : L2.St} {ρ : Env} (r : Rσ K θ G σ ρ) : ∀ vs : List Nat, Rσ K θ G (wipe σ vs) (wipeD ρ vs)
  | [] => r
  | v :: vs => rσ_none (rσ_wipe r vs) v
theorem wipe_wipe {σ : L2.St} : ∀ {vs : List Nat}, (∀ us : List Nat, (∀ i ∈ vs, i ∈ us) → wipe (wipe σ vs) us = wipe σ us)
  | [] => fun us h => rfl
  | v :: vs => fun us h => by
    show wipe ((wipe σ vs).set v none) us = wipe σ us
    rw [wipe_set, if_pos (h v (by simp))]
    exact wipe_wipe us fun i hi => h i (by simp [hi])
def lcGo (b : Tg) (tt : Ev Bool) (te : Ev D) (n0 : Nat) (ρw : Env) : List D → Mem → Option Mem
  | [], M => some M
  | d :: ds, M => match b d ρw with
    | none => none
    | some ρ1 => match tt ρ1 M with
      | some (.ok true, M1) => match te ρ1 M1 with
        | some (.ok y, M2) => match M2[n0]? with
          | some (some acc) => if y.np = true ∧ acc.length < 16777216 then lcGo b tt te n0 ρw ds (M2.set n0 (some (acc ++ [y]))) else none
          | _ => none
        | _ => none
      | some (.ok false, M1) => lcGo b tt te n0 ρw ds M1
      | _ => none
def lcEnd (n0 : Nat) (M' : Mem) : Option (Res D × Mem) := match M'[n0]? with
  | some (some acc) => some (.ok (.lst acc), if M'.length = n0 + 1 then M'.take n0 else M'.set n0 none)
  | _ => none
def oLc (b : Tg) (tt : Ev Bool) (te : Ev D) (vs : List Nat) (ds : List D) : Ev D := fun ρ M => match lcGo b tt te M.length (wipeD ρ vs) ds (M ++ [some []]) with
  | some M' => lcEnd M.length M'
  | none => none
def W0 : WN := fun _ _ _ => False
theorem snd_lc {wi : TI} {g : TG} {tt : TT} {te : TE} {vs : List Nat} {h : Ev (List D)} {b : Tg} {ft : Ev Bool} {fe : Ev D} {sl : List Nat} (hsl : ∀ i ∈ sl, i ∈ vs) (s : ∀ θ G, Snd K W (RI K) θ G wi h) (sg : SndG K g b sl) (st : ∀ θ G, Snd K W0 RB θ G tt ft) (se : ∀ θ G, Snd K W0 (RV K) θ G te fe) (θ : List Addr) (G : Hp) :
    Snd K W (RV K) θ G (tLc wi g tt te vs) (bnd h (oLc b ft fe vs)) := by
  refine (s θ G).bind (R2 := RV K) (k := fun (J : It) (σ : L2.St) (H1 : Hp) (Q : V → Hp → Prop) => ∀ D, H1 D = none → ∃ W : Nat → Nat → Hp → Prop, (∃ m, W 0 m (upd H1 D (.lst []))) ∧ ∀ i m H, W i m H →
    (J.stop i H ∧ Q (.ref D) H) ∨ (J.go i H ∧ ∃ Nx : Hp → Prop, (∀ H', Nx H' → ∃ m', m' < m ∧ W (i + 1) m' H') ∧ ∀ x H', J.yld i H x H' → g x (wipe σ vs) H' fun σ2 H2 => wipe σ2 vs = wipe σ vs ∧ tt σ2 H2 fun b H3 =>
      if b = true then te σ2 H3 fun y H4 => ∃ acc, H4 D = some (.lst acc) ∧ acc.length < sizeLine ∧ Nx (upd H4 D (.lst (acc ++ [y]))) else Nx H3)) fun θ1 G1 J ds _ _ hJ => ?_
  intro ρ M r M' θ2 G2 σ H Q p2 s2 e rs rv kk a ha
  unfold oLc at e
  cases q : lcGo b ft fe M.length (wipeD ρ vs) ds (M ++ [some []]) with
  | none => rw [q] at e; cases e
  | some Me =>
    rw [q] at e
    have rs0 : Rs K (θ2 ++ [a]) G2 (upd H a (.lst [])) (M ++ [some []]) := rs.laidM ha RpL.nil
    have hN0 : (θ2 ++ [a])[M.length]? = some a := by
      rw [← rs.len, List.getElem?_append_right (Nat.le_refl _), Nat.sub_self]; rfl
    refine ⟨fun i m H3 => ∃ M3 θ3 G3, m + i = ds.length ∧ (θ2 ++ [a]) <+: θ3 ∧ Same G2 G3 ∧ Rs K θ3 G3 H3 M3 ∧ lcGo b ft fe M.length (wipeD ρ vs) (ds.drop i) M3 = some Me, ⟨ds.length, _, _, G2, rfl, List.prefix_refl _, Same.refl _, rs0, q⟩, ?_⟩
    rintro i m H3 ⟨M3, θ3, G3, hm, p3, s3, rs3, w⟩
    have p23 : θ2 <+: θ3 := (List.prefix_append _ _).trans p3
    by_cases hi : i < ds.length
    · right
      have hd : ds.drop i = ds[i] :: ds.drop (i + 1) := List.drop_eq_getElem_cons hi
      rw [hd] at w
      unfold lcGo at w
      refine ⟨hJ.go i θ3 G3 H3 M3 (p2.trans p23) (s2.trans s3) rs3 hi, fun H4 => ∃ M4 θ4 G4, (θ2 ++ [a]) <+: θ4 ∧ Same G2 G4 ∧ Rs K θ4 G4 H4 M4 ∧ lcGo b ft fe M.length (wipeD ρ vs) (ds.drop (i + 1)) M4 = some Me, fun H4 hN => ?_, fun x H4 hy => ?_⟩
      · obtain ⟨M4, θ4, G4, a1, a2, a3, a4⟩ := hN
        exact ⟨m - 1, by omega, M4, θ4, G4, by omega, a1, a2, a3, a4⟩
      · obtain ⟨G4, s4, rs4, rx⟩ := hJ.yld i ds[i] θ3 G3 H3 M3 x H4 (p2.trans p23) (s2.trans s3) rs3 (List.getElem?_eq_getElem hi) hy
        cases qb : b ds[i] (wipeD ρ vs) with
        | none => rw [qb] at w; cases w
        | some ρ1 =>
          rw [qb] at w
          dsimp only at w
          refine sg ds[i] (wipeD ρ vs) ρ1 θ3 G4 (wipe σ vs) H4 M3 _ x qb rs4 (rσ_wipe (rv.mono p23 (s3.trans s4)) vs) rx fun σ5 r5 w5 => ?_
          refine ⟨by rw [w5 vs hsl]; exact wipe_wipe vs fun i hi => hi, ?_⟩
          cases qt : ft ρ1 M3 with
          | none => rw [qt] at w; cases w
          | some zt =>
            obtain ⟨rt, M5⟩ := zt
            rw [qt] at w
            refine st θ3 G4 ρ1 M3 rt M5 θ3 G4 σ5 H4 _ (List.prefix_refl _) (Same.refl _) qt rs4 r5 fun θ6 G6 H6 p6 s6 rs6 => ?_
            cases rt with
            | exc C => cases w
            | ok c =>
              refine ⟨fun C h => (by cases h), fun d v hd hv => ?_⟩
              cases hd
              cases hv
              cases c with
              | false =>
                rw [if_neg Bool.false_ne_true]
                exact ⟨M5, θ6, G6, p3.trans p6, (s3.trans s4).trans s6, rs6, w⟩
              | true =>
                rw [if_pos rfl]
                dsimp only at w
                cases qe : fe ρ1 M5 with
                | none => rw [qe] at w; cases w
                | some ze =>
                  obtain ⟨re, M7⟩ := ze
                  rw [qe] at w
                  refine se θ6 G6 ρ1 M5 re M7 θ6 G6 σ5 H6 _ (List.prefix_refl _) (Same.refl _) qe rs6 (r5.mono p6 s6) fun θ8 G8 H8 p8 s8 rs8 => ?_
                  cases re with
                  | exc C => cases w
                  | ok y =>
                    refine ⟨fun C h => (by cases h), fun d v hd hv => ?_⟩
                    cases hd
                    dsimp only at w
                    split at w
                    · rename_i acc hacc
                      split at w
                      · rename_i hc
                        have h8 : θ8[M.length]? = some a := pre_get ((p3.trans p6).trans p8) hN0
                        obtain ⟨g8, xs, hx, rl⟩ := rs8.mem _ _ _ h8 hacc
                        refine ⟨xs, hx, by rw [rl.len, sizeLine_eq]; exact hc.2, _, θ8, G8, (p3.trans p6).trans p8, ((s3.trans s4).trans s6).trans s8, rs8.put h8 g8 (rl.append (RpL.cons (hv.rp hc.1) RpL.nil)), w⟩
                      · cases w
                    · cases w
    · left
      have hd : ds.drop i = [] := List.drop_eq_nil_of_le (by omega)
      rw [hd] at w
      unfold lcGo at w
      cases w
      have hi2 : i = ds.length := by omega
      subst hi2
      refine ⟨hJ.stop θ3 G3 H3 _ (p2.trans p23) (s2.trans s3) rs3, ?_⟩
      unfold lcEnd at e
      dsimp only at e
      split at e
      · rename_i acc hacc
        simp at e
        obtain ⟨e1, e2⟩ := e
        subst e1
        have h3 : θ3[M.length]? = some a := pre_get p3 hN0
        obtain ⟨G9, s9, rp9, rs9⟩ := rs3.freeze h3 hacc
        split at e2
        · rename_i hl
          subst e2
          have rs10 := rs9.take M.length
          rw [List.take_set_of_le (Nat.le_refl _)] at rs10
          exact (kk (θ3.take M.length) G9 H3 (pre_take p23 (by rw [rs.len]; exact Nat.le_refl _)) (s3.trans s9) rs10).2 _ _ rfl (.dat rp9)
        · subst e2
          exact (kk θ3 G9 H3 p23 (s3.trans s9) rs9).2 _ _ rfl (.dat rp9)
      · cases e
end
end Bw
namespace Bw
open PySem PySem.Spec PyProof.Rows L2
/-! ### xs.count(True) -/
def eqkB (k : Bool) (v : Value) : Bool := match v with
  | .bool n => n == k
  | _ => false
section
variable {X : Cx} {W : WN} {pos : Pos} {K : PySem.W.Frag}
def rCntB (K : PySem.W.Frag) : V → List V → Hp → VK → Prop := fun x xs H Q => ∃ (p : Addr) (ns : List Bool) (k : Bool), x = .ref p ∧ xs = [.bl k] ∧ SqL K H p (ns.map V.bl) ∧ Q (.int (ns.count k : Nat)) H
theorem bls_of : ∀ {ns : List Bool} {its : List Value}, Vals (ns.map V.bl) its → its = ns.map Value.bool
  | [], _, h => by cases h; rfl
  | n :: ns, _, h => by
    cases h with
    | cons a b => rw [bls_of b]; cases a; rfl
theorem cntB (k : Bool) : ∀ ns : List Bool, (ns.map Value.bool).countP (eqkB k) = ns.count k
  | [] => rfl
  | n :: ns => by rw [List.map_cons, List.countP_cons, List.count_cons, cntB k ns] <;> rfl
theorem mt_bcount : MtR X "list.count" (rCntB X.K) := by
  intro pins s σ H x xs v us Q I rx rxs h
  obtain ⟨p, ns, k, rfl, rfl, hs, q⟩ := h
  cases rx
  obtain ⟨u, rfl, ru⟩ := rxs.one
  cases ru
  obtain ⟨its, rv, ⟨⟨cls, dd, data, sl⟩, n, ho, hc, hdn, hd⟩, hlen⟩ := I.list hs
  simp only at hc hd
  subst hc hd
  have hi := bls_of rv
  subst hi
  refine call_meets PySem.F.slot_list_count ⟨_, ho, rfl⟩ PySem.F.entry_list_count (PySem.F.args_list_count_2 _ _)
    (SeqAt.list_countAt p (ns.map Value.bool).toArray n dd sl (.bool k) (eqkB k)) ⟨ho, fun y hy => ?_, ?_⟩
  · simp at hy
    rcases hy with ⟨hy, rfl⟩ | ⟨hy, rfl⟩ <;> exact SeqAt.EqAt.bool_bool _ k
  · have ec : (ns.map Value.bool).toArray.toList.countP (eqkB k) = ns.count k := cntB k ns
    refine ⟨.int (ns.count k : Nat), H, I.tok _, ⟨s.toks, ?_⟩, q⟩
    show Value.int (((ns.map Value.bool).toArray.toList.countP (eqkB k) : Nat) : Int) s.toks = Value.int ((ns.count k : Nat) : Int) s.toks
    rw [ec]
def blsOf : List D → Option (List Bool)
  | [] => some []
  | .bl b :: r => (blsOf r).map (b :: ·)
  | _ => none
def oCntB (d : D) (es : List D) : Ev D := match d, es with
  | .lst ds, [.bl k] => match blsOf ds with
    | some ns => ret (.int (ns.count k : Nat))
    | none => stk
  | _, _ => stk
theorem rpl_bls {G : Hp} : ∀ {ds : List D} {xs : List V} {ns : List Bool}, blsOf ds = some ns → RpL K G xs ds → xs = ns.map V.bl
  | [], xs, ns, h, r => by cases h; rw [r.nil_of]; rfl
  | d :: ds, xs, ns, h, r => by
    cases d with
    | bl b =>
      simp only [blsOf] at h
      cases q : blsOf ds with
      | none => rw [q] at h; cases h
      | some ms =>
        rw [q] at h
        cases h
        obtain ⟨v, ys, rfl, hv, rs⟩ := r.uncons
        rw [rpl_bls q rs]
        cases hv; rfl
    | _ => cases h
/-- o.m(e, ..) of a list that stays as it is -/
theorem de_cntB {o e : Expr} {es : List Expr} {apos : Pos} {f : Ev D} {h : Ev (List D)} (ho : DE X W o f) (ha : DA X W (e :: es) h)
    (hbase : attributeBase o "count" X.env (eval o X.env) = eval o X.env := by rfl)
    (hfew : ((backTo pos (starEach (e :: es) X.env)).all (fun x => !x.1) && (backToKw pos (keywordEach [] X.env)).all (fun x => x.1.isSome)
      && decide ((e :: es).length + ([] : List Keyword).length + (if ([] : List Keyword).isEmpty then 0 else 1) < 30)) = true := by rfl)
    (hline : (apos.endLine == pos.line) = true := by rfl) (hs : starEach (e :: es) X.env = (false, eval e X.env) :: starEach es X.env := by rfl) (hplain : (backTo pos (starEach es X.env)).any (·.1) = false := by rfl) :
    DE X W (.Call (.Attribute o "count" apos) (e :: es) [] pos) (bnd f fun d => bnd (oItL d) fun _ => bnd h fun es => oCntB d es) := by
  obtain ⟨to, po, so⟩ := ho
  obtain ⟨t, p, s⟩ := ha
  refine ⟨_, pe_bm PySem.F.plainAttrs_list PySem.F.slot_list_count PySem.F.type_list_count mt_bcount po p hbase hfew hline hs hplain, fun θ G => ?_⟩
  refine (so θ G).bind (R2 := RV X.K) (k := fun (x : V) (σ : L2.St) (H1 : Hp) (Q : V → Hp → Prop) => tyV X.K "list" x H1 ∧ t σ H1 fun xs H2 => rCntB X.K x xs H2 Q) fun θ1 G1 v d _ _ hv => ?_
  unfold oItL
  split
  · rename_i ds
    cases hv with
    | dat hv =>
      cases hv with
      | lst hq l g =>
        rename_i a xs
        intro ρ M r M' θ2 G2 σ H Q p s1 e rs rv kk
        refine ⟨.inl ⟨rfl, xs, .inl (.inl (rs.sub _ _ (s1 _ _ hq)))⟩, ?_⟩
        refine (s θ1 G1).bind (R2 := RV X.K) (k := fun (ys : List V) (_ : L2.St) (H2 : Hp) (Q : V → Hp → Prop) => rCntB X.K (.ref a) ys H2 Q) (g := fun es => oCntB (.lst ds) es) (fun θ3 G3 ys es _ s3 hy => ?_) ρ M r M' θ2 G2 σ H Q p s1 e rs rv kk
        unfold oCntB
        split
        · rename_i d1 d2 k e1
          split
          · rename_i ns hns
            cases e1
            obtain ⟨u, rfl, hu⟩ := vals1 hy
            rw [hu.bl_of]
            have ex := rpl_bls hns ⟨l, g⟩
            subst ex
            intro ρ M r M' θ4 G4 σ H Q p4 s4 e rs rv kk
            exact ⟨a, ns, k, rfl, rfl, .inl (.inl (rs.sub _ _ (s4 _ _ (s3 _ _ hq)))), Snd.ret (K := X.K) (W := W) (R := RV X.K) (θ0 := θ3) (G0 := G3) (fun _ _ _ _ => .dat (.int _)) ρ M r M' θ4 G4 σ H Q p4 s4 e rs rv kk⟩
          · exact Snd.stk
        · exact Snd.stk
  · exact Snd.stk
/-- xs.append(e) -/
theorem de_append {o e : Expr} {apos : Pos} {f fe : Ev D} (ho : DE X W o f) (ha : DE X W e fe)
    (hbase : attributeBase o "append" X.env (eval o X.env) = eval o X.env := by rfl)
    (hfew : ((backTo pos (starEach [e] X.env)).all (fun x => !x.1) && (backToKw pos (keywordEach [] X.env)).all (fun x => x.1.isSome)
      && decide ([e].length + ([] : List Keyword).length + (if ([] : List Keyword).isEmpty then 0 else 1) < 30)) = true := by rfl)
    (hline : (apos.endLine == pos.line) = true := by rfl) (hs : starEach [e] X.env = (false, eval e X.env) :: starEach [] X.env := by rfl) (hplain : (backTo pos (starEach [] X.env)).any (·.1) = false := by rfl) :
    DE X W (.Call (.Attribute o "append" apos) [e] [] pos) (bnd f fun d => bnd (okPtr d) fun d => bnd fe fun y => oApp d y) := by
  obtain ⟨to, po, so⟩ := ho
  obtain ⟨t, p, s⟩ := ha
  refine ⟨_, pe_bm PySem.F.plainAttrs_list PySem.F.slot_list_append PySem.F.type_list_append mt_append po (pa_cons p pa_nil hs) hbase hfew hline hs hplain, fun θ G => ?_⟩
  refine (so θ G).bind (R2 := RV X.K) (k := fun (x : V) (σ : L2.St) (H1 : Hp) (Q : V → Hp → Prop) => tyV X.K "list" x H1 ∧ (tCons t tNil) σ H1 fun xs H2 => rAppend x xs H2 Q) fun θ1 G1 v d _ _ hv => ?_
  intro ρ M r M' θ2 G2 σ H Q p2 s1 e rs rv kk
  unfold bnd at e
  unfold okPtr at e
  cases hv with
  | dat hv => cases hv <;> cases e
  | exv _ _ => cases e
  | ptr hn =>
    rename_i n a
    dsimp only at e
    cases q : M[n]? with
    | none => rw [q] at e; cases e
    | some z =>
      cases z with
      | none => rw [q] at e; cases e
      | some ds0 =>
        rw [q] at e
        dsimp only at e
        obtain ⟨g0, xs0, hx0, rl0⟩ := rs.mem n a ds0 (pre_get p2 hn) q
        refine ⟨.inl ⟨rfl, xs0, .inl (.inl hx0)⟩, ?_⟩
        show t σ H fun x H1 => rAppend (.ref a) [x] H1 Q
        cases qe : fe ρ M with
        | none => rw [qe] at e; cases e
        | some ze =>
          obtain ⟨re, M3⟩ := ze
          rw [qe] at e
          refine s θ2 G2 ρ M re M3 θ2 G2 σ H _ (List.prefix_refl _) (Same.refl _) qe rs rv fun θ4 G4 H4 p4 s4 rs4 => ?_
          cases re with
          | exc C =>
            dsimp only at e
            simp at e
            obtain ⟨e1, e2⟩ := e
            subst e1; subst e2
            exact ⟨fun C' h => (kk θ4 G4 H4 p4 s4 rs4).1 C' (by cases h; rfl), fun d v h => (by cases h)⟩
          | ok y =>
            refine ⟨fun C h => (by cases h), fun d v hd hv => ?_⟩
            cases hd
            unfold oApp at e
            dsimp only at e
            split at e
            · rename_i ds hds
              split at e
              · rename_i hc
                simp at e
                obtain ⟨e1, e2⟩ := e
                subst e1; subst e2
                have h4 := pre_get (p2.trans p4) hn
                obtain ⟨g, xs, hx, rl⟩ := rs4.mem n a ds h4 hds
                exact ⟨a, xs, v, rfl, rfl, hx, by rw [rl.len, sizeLine_eq]; exact hc.2, (kk θ4 G4 _ p4 s4 (rs4.put h4 g (rl.append (RpL.cons (hv.rp hc.1) RpL.nil)))).2 _ _ rfl (.dat .non)⟩
              · cases e
            · cases e
/-! ### comprehension rules -/
def DTs (X : Cx) (W : WN) (es : List Expr) (f : Ev Bool) : Prop := ∃ t, PTs X es t ∧ ∀ θ G, Snd X.K W RB θ G t f
theorem dts_nil : DTs X W [] (ret true) := ⟨_, pts_nil, fun _ _ => snd_b⟩
theorem dts_one {c : Expr} {f : Ev Bool} (h : DT X W c f) : DTs X W [c] f := by obtain ⟨t, p, s⟩ := h; exact ⟨_, pts_one p, s⟩
/-- the reading of what is given -/
def tOf (K : PySem.W.Frag) (W : WN) {A α : Type} (R : List Addr → Hp → A → α → Prop) (f : Ev α) : L2.St → Hp → (A → Hp → Prop) → Prop := fun σ H Q => ∃ (ρ : Env) (M : Mem) (r : Res α) (M' : Mem) (θ : List Addr) (G : Hp), f ρ M = some (r, M') ∧ Rs K θ G H M ∧ Rσ K θ G σ ρ ∧
  ∀ (θ' : List Addr) (G' H' : Hp), θ <+: θ' → Same G G' → Rs K θ' G' H' M' → (∀ C, r = .exc C → W C σ H') ∧ (∀ d v, r = .ok d → R θ' G' v d → Q v H')
theorem snd_of {A α : Type} {R : List Addr → Hp → A → α → Prop} {f : Ev α} (θ : List Addr) (G : Hp) : Snd K W R θ G (tOf K W R f) f :=
  fun ρ M r M' θ1 G1 σ H Q _ _ e rs rv kk => ⟨ρ, M, r, M', θ1, G1, e, rs, rv, kk⟩
theorem Snd.can {A α : Type} {R : List Addr → Hp → A → α → Prop} {f : Ev α} {t : L2.St → Hp → (A → Hp → Prop) → Prop} (s : ∀ θ G, Snd K W R θ G t f) {σ : L2.St} {H : Hp} {Q : A → Hp → Prop} (h : tOf K W R f σ H Q) : t σ H Q := by
  obtain ⟨ρ, M, r, M', θ, G, e, rs, rv, kk⟩ := h
  exact s θ G ρ M r M' θ G σ H Q (List.prefix_refl _) (Same.refl _) e rs rv kk
theorem DE.can {e : Expr} {f : Ev D} (h : DE X W e f) : PE X e (tOf X.K W (RV X.K) f) := by
  obtain ⟨t, p, s⟩ := h
  exact ⟨fun pins s1 σ H Q I q => p.run pins s1 σ H Q I (Snd.can s q)⟩
theorem DTs.can {es : List Expr} {f : Ev Bool} (h : DTs X W es f) : PTs X es (tOf X.K W RB f) := by
  obtain ⟨t, p, s⟩ := h
  exact ⟨fun pins s1 σ H Q I q => p.run pins s1 σ H Q I (Snd.can s q)⟩
def gOf (K : PySem.W.Frag) (b : Tg) (sl : List Nat) : TG := fun v σ H Q => ∃ (d : D) (ρ ρ' : Env) (θ : List Addr) (G : Hp) (M : Mem), b d ρ = some ρ' ∧ Rs K θ G H M ∧ Rσ K θ G σ ρ ∧ Rv K θ G v d ∧ ∀ σ', Rσ K θ G σ' ρ' → Wr sl σ σ' → Q σ' H
theorem sndG_of {b : Tg} {sl : List Nat} : SndG K (gOf K b sl) b sl := fun d ρ ρ' θ G σ H M Q v e rs rv hv k => ⟨d, ρ, ρ', θ, G, M, e, rs, rv, hv, k⟩
theorem DG.can {tg : Expr} {b : Tg} {sl : List Nat} (h : DG X tg b sl) : PG X tg (gOf X.K b sl) := by
  obtain ⟨t, p, s⟩ := h
  refine ⟨fun pins s1 σ H v u Q I r q => p.run pins s1 σ H v u Q I r ?_⟩
  obtain ⟨d, ρ, ρ', θ, G, M, e, rs, rv, hv, k⟩ := q
  exact s d ρ ρ' θ G σ H M Q v e rs rv hv k
theorem de_lc {elt tg iter : Expr} {ifs : List Expr} {scope : Scope} (own : List (Str × Nat)) {h : Ev (List D)} {b : Tg} {ft : Ev Bool} {fe : Ev D} {sl : List Nat} (hN : X.N.Nodup) (ok : BlkOk X.N X.env.scope scope own) (hi : DI X W tg iter h)
    (hg : ∀ (s : Shared) (H : Hp) (C : Addr) (cl : List (Str × Addr)) (fp : List Addr), DG (X.blk s H scope (compEnvC scope cl C X.env) fp) tg b sl)
    (ht : ∀ (s : Shared) (H : Hp) (C : Addr) (cl : List (Str × Addr)) (fp : List Addr), DTs (X.blk s H scope (compEnvC scope cl C X.env) fp) W0 ifs ft)
    (he : ∀ (s : Shared) (H : Hp) (C : Addr) (cl : List (Str × Addr)) (fp : List Addr), DE (X.blk s H scope (compEnvC scope cl C X.env) fp) W0 elt fe)
    (hsl : ∀ i ∈ sl, i ∈ own.map (·.2) := by decide)
    (hc : X.calm = true := by rfl) (hs : ∀ x, foldedSetIterable iter X.env x = pure x := by intro _; rfl) : DE X W (.ListComp elt [⟨tg, iter, ifs, 0⟩] scope pos) (bnd h (oLc b ft fe (own.map (·.2)))) := by
  obtain ⟨wi, pi, si⟩ := hi
  exact ⟨_, pe_lc (g := gOf X.K b sl) (tt := tOf X.K W0 RB ft) (te := tOf X.K W0 (RV X.K) fe) hc hN pi ok (fun s H C cl fp => (hg s H C cl fp).can) (fun s H C cl fp => (ht s H C cl fp).can) (fun s H C cl fp => (he s H C cl fp).can) hs, snd_lc hsl si sndG_of (fun θ G => snd_of θ G) fun θ G => snd_of θ G⟩
/-- y = [..] -/
theorem ds_setLc (i : Nat) {y : Str} {py : Pos} {spos : Pos} {elt tg iter : Expr} {ifs : List Expr} {scope : Scope} (own : List (Str × Nat)) {h : Ev (List D)} {b : Tg} {ft : Ev Bool} {fe : Ev D} {sl : List Nat} (hN : X.N.Nodup) (ok : BlkOk X.N X.env.scope scope own) (hsw : swapsWith (.ListComp elt [⟨tg, iter, ifs, 0⟩] scope pos) (some (.Name y py)) spos.line X.env = pure true) (hi : DI X W tg iter h)
    (hg : ∀ (s : Shared) (H : Hp) (C : Addr) (cl : List (Str × Addr)) (fp : List Addr), DG (X.blk s H scope (compEnvC scope cl C X.env) fp) tg b sl)
    (ht : ∀ (s : Shared) (H : Hp) (C : Addr) (cl : List (Str × Addr)) (fp : List Addr), DTs (X.blk s H scope (compEnvC scope cl C X.env) fp) W0 ifs ft)
    (he : ∀ (s : Shared) (H : Hp) (C : Addr) (cl : List (Str × Addr)) (fp : List Addr), DE (X.blk s H scope (compEnvC scope cl C X.env) fp) W0 elt fe)
    (hy : X.N[i]? = some y := by rfl) (hyl : X.env.scope.names.lookup y = some .local := by rfl)
    (hsl : ∀ i ∈ sl, i ∈ own.map (·.2) := by decide)
    (hc : X.calm = true := by rfl) (hs : ∀ x, foldedSetIterable iter X.env x = pure x := by intro _; rfl) : DS X W (.Assign [.Name y py] (.ListComp elt [⟨tg, iter, ifs, 0⟩] scope pos) spos) (sAsg (bnd h (oLc b ft fe (own.map (·.2)))) (gNm i)) := by
  obtain ⟨wi, pi, si⟩ := hi
  refine ⟨_, ps_setLc (g := gOf X.K b sl) (tt := tOf X.K W0 RB ft) (te := tOf X.K W0 (RV X.K) fe) hc hN hy hyl hsw pi ok (fun s H C cl fp => (hg s H C cl fp).can) (fun s H C cl fp => (ht s H C cl fp).can) (fun s H C cl fp => (he s H C cl fp).can) hs, ?_⟩
  refine snd_asg (sl := [i]) (snd_lc hsl si sndG_of (fun θ G => snd_of θ G) fun θ G => snd_of θ G) fun d ρ ρ' θ G σ H M Q v e rs rv hv k => ?_
  unfold gNm at e
  cases e
  exact k _ (rv.set hv) fun vs h => by rw [wipe_set, if_pos (h i (by simp))]
/-! ### calls of defs -/
abbrev Fd := List D → Mem → Option (Res D × Mem)
def spF (K : PySem.W.Frag) (mg : Str → Option Value) (n : Nat) (F : Fd) : Sp := fun vs H Q E => ∃ (θ : List Addr) (G : Hp) (ds : List D) (M : Mem) (r : Res D) (M' : Mem), Rs K θ G H M ∧ RvL K θ G vs ds ∧ ds.length = n ∧ F ds M = some (r, M') ∧
  ∀ (θ' : List Addr) (G' H' : Hp), θ <+: θ' → Same G G' → Rs K θ' G' H' M' → (∀ x C, r = .exc x → mg x = some (.ref C) → E (.ref C) none H') ∧ (∀ d v, r = .ok d → Rv K θ' G' v d → Q v H')
def oCall (n : Nat) (F : Fd) (ds : List D) : Ev D := fun _ M => if ds.length = n then F ds M else none
/-- how the wishes by names and by classes go together -/
def WOk (mg : Str → Option Value) (WC : WX) (W : WN) : Prop := ∀ x σ H, W x σ H → ∀ C, mg x = some (.ref C) → WC (.ref C) none σ H
theorem de_call {CX : CXT} {WC : WX} {k n : Nat} {f : Addr} {fd : FuncData} {ps : List Str} {F : Fd} {x : Str} {p : Pos} {e : Expr} {es : List Expr} {h : Ev (List D)} (hw : WOk X.mg WC W) (FO : FnOk X.prog X.w X.K X.mg X.base CX k f fd ps (spF X.K X.mg n F)) (hr : Room k X.A) (hm : X.mg x = some (.ref f)) (hk : PySem.W.keepIn X.K (.ref f) = true) (hb : Binds X.K fd ps []) (hx : ∀ σ, PassesAt CX X σ (WE WC σ))
    (ha : DA X W (e :: es) h) (hg : Gl X x := by rfl) (hdb : (x == ("__debug__" : Str)) = false := by decide) (he : starEach (e :: es) X.env = (false, eval e X.env) :: starEach es X.env := by rfl) (hpl : (backTo pos (starEach es X.env)).any (·.1) = false := by rfl) :
    DE X W (.Call (.Name x p) (e :: es) [] pos) (bnd h (oCall n F)) := by
  obtain ⟨t, q, s⟩ := ha
  refine ⟨_, pe_callS FO hr hg hm hk hb hx q hdb he hpl, fun θ G => ?_⟩
  refine (s θ G).bind (R2 := RV X.K) (k := fun (vs : List V) (σ : L2.St) (H1 : Hp) (Q : V → Hp → Prop) => spF X.K X.mg n F vs H1 Q (WE WC σ)) fun θ1 G1 vs ds _ _ hv => ?_
  intro ρ M r M' θ2 G2 σ H Q p2 s2 e rs rv kk
  unfold oCall at e
  split at e
  · rename_i hl
    exact ⟨θ2, G2, ds, M, r, M', rs, hv.mono p2 s2, hl, e, fun θ' G' H' a b c => ⟨fun x C h1 h2 => hw _ _ _ ((kk θ' G' H' a b c).1 x h1) C h2, (kk θ' G' H' a b c).2⟩⟩
  · cases e
theorem wok0 {mg : Str → Option Value} : WOk mg (fun _ _ _ _ => False) W0 := fun _ _ _ h => h.elim
theorem pass_0 {σ : L2.St} {E : XK} : PassesAt CX0 X σ E := fun _ _ _ _ _ _ h => h.elim
/-- how a body's end is the call's -/
inductive Exit : Out → Mem → Res D → Mem → Prop
  | rt {d : D} {M' g : Mem} (h : ∀ n, d = .ptr n → n < M'.length) : Exit (.rt d) (M' ++ g) (.ok d) M'
  | nx {ρ : Env} {M' g : Mem} : Exit (.nx ρ) (M' ++ g) (.ok .non) M'
  | ex {C : Str} {ρ : Env} {M' g : Mem} : Exit (.ex C ρ) (M' ++ g) (.exc C) M'
def startD (N : List Str) (ds : List D) : Env := ds.map some ++ List.replicate (N.length - ds.length) none
theorem body_ok {mg : Str → Option Value} {N : List Str} {n : Nat} {F : Fd} {t : TS} {fb : Sv} {W : WN} {vs : List V} {H : Hp} {Q : VK} {E : XK} (hW : ∀ x σ H, (∀ C, mg x = some (.ref C) → E (.ref C) none H) → W x σ H) (s : SndS K W t fb)
    (hF : ∀ ds M r M', ds.length = n → F ds M = some (r, M') → M.length ≤ M'.length ∧ ∃ o M2, fb (startD N ds) M = some (o, M2) ∧ Exit o M2 r M') (h : spF K mg n F vs H Q E) : t { nx := fun _ H' => Q .non H', rt := Q } (L2.start N vs) H := by
  obtain ⟨θ, G, ds, M, r, M', rs, rv, hl, e, kk⟩ := h
  obtain ⟨hle, o, M2, e2, ex⟩ := hF ds M r M' hl e
  refine s (startD N ds) M o M2 θ G (L2.start N vs) H _ e2 rs (Rσ.start rv.len rv.get _ rfl) fun θ' G' H' p' s' rs' => ?_
  have tk : ∀ {g : Mem}, M2 = M' ++ g → Rs K (θ'.take M'.length) G' H' M' ∧ θ <+: θ'.take M'.length := fun {g} h => by
    subst h
    have := rs'.take M'.length
    rw [List.take_left] at this
    exact ⟨this, pre_take p' (by rw [rs.len]; exact hle)⟩
  cases ex with
  | rt hp =>
    obtain ⟨r1, r2⟩ := tk rfl
    refine ⟨fun ρ σ h => (by cases h), fun ρ σ h => (by cases h), fun ρ σ h => (by cases h), fun d v h hv => ?_, fun C ρ σ h => (by cases h)⟩
    cases h
    refine (kk _ G' H' r2 s' r1).2 _ v rfl ?_
    cases hv with
    | dat hv => exact .dat hv
    | exv hn h => exact .exv hn h
    | ptr hn =>
      refine .ptr ?_
      rw [List.getElem?_take_of_lt (hp _ rfl)]
      exact hn
  | nx =>
    obtain ⟨r1, r2⟩ := tk rfl
    refine ⟨fun ρ σ h _ => ?_, fun ρ σ h => (by cases h), fun ρ σ h => (by cases h), fun d v h => (by cases h), fun C ρ σ h => (by cases h)⟩
    exact (kk _ G' H' r2 s' r1).2 .non .non rfl (.dat .non)
  | ex =>
    obtain ⟨r1, r2⟩ := tk rfl
    refine ⟨fun ρ σ h => (by cases h), fun ρ σ h => (by cases h), fun ρ σ h => (by cases h), fun d v h => (by cases h), fun C ρ σ h _ => ?_⟩
    cases h
    exact hW _ _ _ fun C hC => (kk _ G' H' r2 s' r1).1 _ C rfl hC
theorem spF_len {mg : Str → Option Value} {n : Nat} {F : Fd} {vs : List V} {H : Hp} {Q : VK} {E : XK} (h : spF K mg n F vs H Q E) : vs.length = n := by
  obtain ⟨θ, G, ds, M, r, M', rs, rv, hl, e, kk⟩ := h
  rw [rv.len]; exact hl
/-- a def out of which nothing is raised -/
theorem fn_ok {P : Program} {w : World} {mg : Str → Option Value} {base : Heap} {x qual : Str} {st : Stmt} {f : Addr} {fd : FuncData} {N ps : List Str} {k n : Nat} {F : Fd} {fb : Sv} (FU : Fun K x qual st f fd) (S : FnScope N ps (defScope st)) (hn : ps.length = n)
    (body : ∀ (cdv : Value) (A : Around) (outer : List PySem.Env) (s : Shared) (H : Hp) (E : XK), Room k (A.deeper (envOfC qual (defScope st) s.heap.objs.size f cdv)) → DSs (cxOf CX0 P w K mg base N qual (defScope st) f cdv A outer s H E).nox W0 (defBody st) fb)
    (hF : ∀ ds M r M', ds.length = n → F ds M = some (r, M') → M.length ≤ M'.length ∧ ∃ o M2, fb (startD N ds) M = some (o, M2) ∧ Exit o M2 r M')
    (hx : ∀ ds M C M', F ds M ≠ some (.exc C, M')) : FnOk P w K mg base CX0 (k + 1) f fd ps (spF K mg n F) := by
  refine FU.ok S (fun vs H Q E h => (spF_len h).trans hn.symm) fun cdv A outer s H vs Q E hr h => ?_
  obtain ⟨t, p, sn⟩ := body cdv A outer s H E hr
  refine ⟨t, p, ?_⟩
  obtain ⟨θ, G, ds, M, r, M', rs, rv, hl, e, kk⟩ := h
  obtain ⟨hle, o, M2, e2, ex⟩ := hF ds M r M' hl e
  cases r with
  | exc C => exact absurd e (hx ds M C M')
  | ok d =>
    exact body_ok (mg := fun _ => some (.ref 0)) (W := W0) (E := fun _ _ _ => False) (fun _ _ _ h => h 0 rfl) sn hF ⟨θ, G, ds, M, .ok d, M', rs, rv, hl, e, fun θ' G' H' p' s' rs' => ⟨fun x C hC => (by cases hC), (kk θ' G' H' p' s' rs').2⟩⟩
/-- a def that may raise -/
theorem fn_okX {P : Program} {w : World} {mg : Str → Option Value} {base : Heap} {x qual : Str} {st : Stmt} {f : Addr} {fd : FuncData} {N ps : List Str} {k n : Nat} {F : Fd} {fb : Sv} (FU : Fun K x qual st f fd) (S : FnScope N ps (defScope st)) (hn : ps.length = n)
    (body : ∀ (cdv : Value) (A : Around) (outer : List PySem.Env) (s : Shared) (H : Hp) (E : XK), Room k (A.deeper (envOfC qual (defScope st) s.heap.objs.size f cdv)) → DSs (cxOf (L2.CX P w) P w K mg base N qual (defScope st) f cdv A outer s H E) (fun x _ H => ∀ C, mg x = some (.ref C) → E (.ref C) none H) (defBody st) fb)
    (hF : ∀ ds M r M', ds.length = n → F ds M = some (r, M') → M.length ≤ M'.length ∧ ∃ o M2, fb (startD N ds) M = some (o, M2) ∧ Exit o M2 r M') : FnOk P w K mg base (L2.CX P w) (k + 1) f fd ps (spF K mg n F) := by
  refine FU.okX S (fun vs H Q E h => (spF_len h).trans hn.symm) fun cdv A outer s H vs Q E hr h => ?_
  obtain ⟨t, p, sn⟩ := body cdv A outer s H E hr
  exact ⟨t, p, body_ok (fun _ _ _ h => h) sn hF h⟩
theorem wokX {mg : Str → Option Value} {E : XK} : WOk mg (fun cls d _ H => E cls d H) (fun x _ H => ∀ C, mg x = some (.ref C) → E (.ref C) none H) := fun _ _ _ h C hC => h C hC
end
end Bw
namespace Bw
open PySem PySem.Spec PyProof.Rows L2
def D.ptLt (d : D) (k : Nat) : Bool := match d with
  | .ptr n => decide (n < k)
  | _ => true
/-- a def's worth, from its body; so many new lists stay -/
def runF (keep : Nat) (N : List Str) (fb : Sv) : Fd := fun ds M => match fb (startD N ds) M with
  | some (.rt d, M2) => if M.length + keep ≤ M2.length ∧ d.ptLt (M.length + keep) = true then some (.ok d, M2.take (M.length + keep)) else none
  | some (.nx _, M2) => if M.length + keep ≤ M2.length then some (.ok .non, M2.take (M.length + keep)) else none
  | _ => none
theorem runF_ok {keep n : Nat} {N : List Str} {fb : Sv} : ∀ ds M r M', ds.length = n → runF keep N fb ds M = some (r, M') → M.length ≤ M'.length ∧ ∃ o M2, fb (startD N ds) M = some (o, M2) ∧ Exit o M2 r M' := by
  intro ds M r M' _ h
  unfold runF at h
  split at h
  · rename_i d M2 e
    split at h
    · rename_i hc
      cases h
      refine ⟨by rw [List.length_take]; omega, _, _, e, ?_⟩
      have e2 : M2 = M2.take (M.length + keep) ++ M2.drop (M.length + keep) := (List.take_append_drop _ _).symm
      have ex := Exit.rt (d := d) (M' := M2.take (M.length + keep)) (g := M2.drop (M.length + keep)) fun n hn => by
        subst hn
        rw [List.length_take]
        have := of_decide_eq_true hc.2
        omega
      rw [← e2] at ex
      exact ex
    · cases h
  · rename_i ρ M2 e
    split at h
    · rename_i hc
      cases h
      refine ⟨by rw [List.length_take]; omega, _, _, e, ?_⟩
      have e2 : M2 = M2.take (M.length + keep) ++ M2.drop (M.length + keep) := (List.take_append_drop _ _).symm
      have ex := Exit.nx (ρ := ρ) (M' := M2.take (M.length + keep)) (g := M2.drop (M.length + keep))
      rw [← e2] at ex
      exact ex
    · cases h
  · cases h
theorem runF_nx {keep : Nat} {N : List Str} {fb : Sv} : ∀ ds M C M', runF keep N fb ds M ≠ some (.exc C, M') := by
  intro ds M C M' h
  unfold runF at h
  split at h
  · split at h <;> cases h
  · split at h <;> cases h
  · cases h
/-- what a body gives, as the def's worth -/
theorem runF_rt {N : List Str} {fb : Sv} {ds : List D} {M M2 : Mem} {d : D} (h : fb (startD N ds) M = some (.rt d, M2)) (hl : M.length ≤ M2.length) (hp : d.np = true) : runF 0 N fb ds M = some (.ok d, M2.take M.length) := by
  unfold runF
  rw [h]
  dsimp only
  rw [if_pos]
  · rfl
  · refine ⟨hl, ?_⟩
    cases d <;> first | rfl | cases hp
theorem runF_pure {N : List Str} {fb : Sv} {ds : List D} {M : Mem} {d : D} (h : fb (startD N ds) M = some (.rt d, M)) (hp : d.np = true) : runF 0 N fb ds M = some (.ok d, M) := by
  rw [runF_rt h (Nat.le_refl _) hp, List.take_length]
/-- the law's promise: no error -/
def spL (K : PySem.W.Frag) (n : Nat) (F : Fd) : Sp := fun vs H Q _ => ∃ (θ : List Addr) (G : Hp) (ds : List D) (M : Mem) (d : D) (M' : Mem), Rs K θ G H M ∧ RvL K θ G vs ds ∧ ds.length = n ∧ F ds M = some (.ok d, M') ∧
  ∀ (θ' : List Addr) (G' H' : Hp), θ <+: θ' → Same G G' → Rs K θ' G' H' M' → ∀ v, Rv K θ' G' v d → Q v H'
theorem spL_imp {K : PySem.W.Frag} {mg : Str → Option Value} {n : Nat} {F : Fd} (vs : List V) (H : Hp) (Q : VK) (E : XK) (h : spL K n F vs H Q E) : spF K mg n F vs H Q E := by
  obtain ⟨θ, G, ds, M, d, M', rs, rv, hl, e, kk⟩ := h
  exact ⟨θ, G, ds, M, .ok d, M', rs, rv, hl, e, fun θ' G' H' p s rs' => ⟨fun x C h => (by cases h), fun d' v h hv => by cases h; exact kk θ' G' H' p s rs' v hv⟩⟩
/-- the law's start -/
theorem law_start {K : PySem.W.Frag} {F : Fd} {H : Hp} {a : Addr} {ns : List Int} (hl : ns.length ≤ 63) (hS : SqL K H a (ns.map V.int)) (hF : ∀ ns : List Int, ns.length ≤ 63 → ∃ M', F [.scr (ns.map D.int)] [] = some (.ok (.bl true), M')) : spL K 1 F [.ref a] H (fun v _ => v = .bl true) fun _ _ _ => False := by
  obtain ⟨M', e⟩ := hF ns hl
  refine ⟨[], H, _, [], _, M', ⟨Same.refl _, rfl, List.nodup_nil, fun n a h => by simp at h, fun n a ds h => by simp at h⟩, RvL.cons (.dat (.scr hS (by simp) fun i v d h1 h2 => ?_)) RvL.nil, rfl, e, fun θ' G' H' p s rs v hv => hv.bl_of⟩
  rw [List.getElem?_map] at h1 h2
  cases q : ns[i]? with
  | none => rw [q] at h1; cases h1
  | some n =>
    rw [q] at h1 h2
    cases h1; cases h2
    exact .int n
end Bw
namespace Bw
open PySem PySem.Spec PyProof.Rows L2
/-! ### an error that was caught, kept as a value -/
theorem exq_ok {P : Program} {w : World} {H : Hp} {h : Heap} {a : Addr} {cls : Value} {oe : Obj} {vs : Array Value} (e : h.get? a = some oe) (z : Zc cls none oe) (d : oe.data = .fields vs) : ObjOk P w H h a (ExQ cls a) :=
  ⟨⟨oe, vs, e, z, d⟩, ⟨oe, e⟩, fun _ h2 ⟨o1, v1, e1, z1, d1⟩ k => ⟨o1, v1, k o1 e1, z1, d1⟩⟩
section
variable {X : Cx} {pins : List (Addr × Obj)} {σ : L2.St} {H : Hp} {s : Shared}
/-- an object that is there and is not tracked, new since the entry, is tracked from here on -/
theorem inv_track {a : Addr} {oe : Obj} {vs : Array Value} {cls : Value} (I : Inv X pins σ H s) (new : X.s_0.heap.get? a = none) (np : ∀ p ∈ X.pn ++ pins, p.1 ≠ a) (e : s.heap.get? a = some oe) (d : oe.data = .fields vs) (z : Zc cls none oe) (na : H a = none) (nL : a ≠ X.env.locals) :
    Inv X pins σ (upd H a (ExQ cls a)) s := by
  have ne : ∀ {b : Addr} {o : HO}, H b = some o → b ≠ a := fun q => ne_of_none q na
  obtain ⟨hok, hos, hbare, hbase, hloc, hcell, hfree, hfreeC, hpin, hh, hlen⟩ := I
  refine ⟨hok, hos, hbare, ⟨hbase.keep, hbase.slot, fun b o q n x => ?_, hbase.there, fun b xs q => ?_, fun b o u q => ?_, fun b ps q => ?_⟩, hloc, hcell, ?_, fun x c q => ?_, fun p hp => ?_, ?_, hlen⟩
  · rw [upd_ne (fun t => by rw [t, new] at q; cases q)]
    exact hbase.free b o q n x
  · have q2 := hbase.tups b xs q
    rw [upd_ne (ne q2)]; exact q2
  · have q2 := hbase.frzs b o u q
    rw [upd_ne (ne q2)]; exact q2
  · obtain ⟨more, q2⟩ := hbase.tbls b ps q
    exact ⟨more, by rw [upd_ne (ne q2)]; exact q2⟩
  · rw [upd_ne (Ne.symm nL)]; exact hfree
  · have nc : c ≠ a := fun t => by
      obtain ⟨v, ⟨o, eo, ho⟩⟩ := hcell x c q
      rw [t, e] at eo
      cases eo
      first
        | (rw [d] at ho; cases ho)
        | (obtain ⟨_, ho⟩ := ho; rw [d] at ho; cases ho)
    rw [upd_ne nc]; exact hfreeC x c q
  · obtain ⟨p1, p2, p3⟩ := hpin p hp
    exact ⟨p1, by rw [upd_ne (np p hp)]; exact p2, p3⟩
  · intro b u q
    by_cases hb : b = a
    · subst hb
      rw [upd_same] at q
      cases q
      exact exq_ok e z d
    · rw [upd_ne hb] at q
      exact (hh b u q).stay (fun _ _ _ t => t) (fun c t => by rw [upd_ne (ne t)]; exact t) fun c xs t => by rw [upd_ne (ne t)]; exact t
end
end Bw
namespace Bw
open PySem PySem.Spec PyProof.Rows L2
/-- the wish of the body of a try whose one clause is «except c as n», n in slot i; behind the suite the error stands as a value -/
def wK (K : PySem.W.Frag) (c : Value) (i : Nat) (ts : Addr → Value → Option Addr → TS) (Wo : WX) (Dn : Ends) : WX := fun cls d σ H =>
  d = none ∧ ∃ b, PySem.W.exmOne K cls c = some b ∧ (b = false → Wo cls d σ H) ∧
    (b = true → ∀ a, H a = none → ts a cls d { nx := fun σ1 H1 => Dn.nx (σ1.set i none) (upd H1 a (ExQ cls a)), rt := fun v H1 => Dn.rt v (upd H1 a (ExQ cls a)), bk := fun σ1 H1 => Dn.bk (σ1.set i none) (upd H1 a (ExQ cls a)), ct := fun σ1 H1 => Dn.ct (σ1.set i none) (upd H1 a (ExQ cls a)) } (σ.set i (some (.ref a))) H)
section
variable {X : Cx} {x n : Str} {c : Value} {i : Nat} {body more : List Stmt} {first : Stmt} {np pos hpos : Pos} {tb : WX → TS} {ts : Addr → Value → Option Addr → TS} {Wo : WX}
theorem ps_tryK (hst : X.stack = X.env :: X.outer) (hfr : X.env.frame = some X.env.locals) (hex : X.ex = []) (nd : X.N.Nodup) (hi : X.N[i]? = some n) (hl : X.env.kindOf n = some .local) (hc : Names X x c) (tk : Takes X Wo)
    (hb : ∀ (W : WX) (pn : List (Addr × Obj)) (xe : Value → Shared → Prop), Takes (X.tr pn xe) W → PassesOwn (model X.prog X.w) X.A X.env xe → PSs (X.tr pn xe) body (tb W))
    (hsu : ∀ (a : Addr) (oe : Obj) (cls : Value) (d : Option Addr) (pn : List (Addr × Obj)), Zc cls d oe → (∃ vs, oe.data = .fields vs) → PSs (X.suite a ((a, oe) :: pn)) (first :: more) (ts a cls d)) :
    PS X (.Try body [.ExceptHandler (some (.Name x np)) (some n) (first :: more) hpos] [] [] pos) (fun Dn σ H => tb (wK X.K c i ts Wo Dn) Dn σ H) := by
  refine ⟨fun pins s σ H Dn I rd => ?_⟩
  have ok := I.ok
  have frs' : X.A.frames = some (X.env :: X.outer) := ok.frames.trans (by rw [hst])
  refine wpAny_Try_except (wpAny_mono ((hb (wK X.K c i ts Wo Dn) (X.pn ++ pins) _ (fun u t air => ?_) PassesOwn.looking).run [] s σ H Dn (I.toTry _) rd) (fun fl t r => ?_) fun _ _ z => z)
  · obtain ⟨a, B, t0, pins0, σ1, H1, cls, d, rfl, I0, nb, up, sky, na, os, ag, rfl, b, hm, hno, hyes⟩ := air
    have J : Inv X pins σ1 H1 t0 := I0.ofTry ok
    rw [hst] at sky
    -- the error comes to this frame
    refine Sky.land Zc.steady frs' hfr sky fun g3 fly3 up3 => ?_
    have J3 : Inv X pins σ1 H1 { t with heap := g3 } := J.landed nb fly3.1 (up.trans up3) os ag
    have apart : ∀ {g : Heap} {o : Obj} {v : Array Value}, g.FunFrames B (X.env :: X.outer) → g.get? a = some o → o.data = .fields v → a ∉ frs (X.env :: X.outer) := by
      intro g o v ff e dd hin
      obtain ⟨_, o2, e2, nf⟩ := ff.mem hin
      exact nf v (by rw [e] at e2; cases e2; exact dd)
    obtain ⟨o3, v3, e3, z3, d3⟩ := fly3.there
    have out := apart fly3.2.2.1 e3 d3
    have nL : a ≠ X.env.locals := by
      intro q
      exact out (List.mem_filterMap.mpr ⟨X.env, by simp, by rw [hfr, q]⟩)
    have nF : a ∉ X.fs := by
      intro q
      obtain ⟨env', m1, m2⟩ := List.mem_filterMap.mp q
      exact out (List.mem_filterMap.mpr ⟨env', by simp [m1], m2⟩)
    -- it is new
    have gone0 : t0.heap.get? a = none := by
      cases q : t0.heap.get? a with
      | none => rfl
      | some o =>
        have : a ∉ frs X.stack := by rw [hst]; exact out
        have q2 := nb a o q this
        rw [fly3.2.1] at q2
        cases q2
    have new : X.s_0.heap.get? a = none := by
      cases q : X.s_0.heap.get? a with
      | none => rfl
      | some o =>
        obtain ⟨o2, q2⟩ := J.base.there a o q (by rw [hex]; simp)
        rw [gone0] at q2; cases q2
    have npin : ∀ p ∈ X.pn ++ pins, p.1 ≠ a := by
      intro p hp q
      have q2 := (J.pin p hp).1
      rw [q, gone0] at q2
      cases q2
    refine wpAny_handleBy_cons (codeAny_handlers_test ?_) (fun q => by cases q)
    have inS := J3.suite e3 d3 na nL nF
    have kind : PySem.W.Looks (model X.prog X.w) g3 (typeOf (.ref a)) cls := by
      intro A' Q' E' s' k q
      exact wpAny_typeOf_ref (k _ _ e3) (by rw [z3.1]; exact q)
    have match_ := PySem.W.exm_one (M := model X.prog X.w) J3.kIn kind hm
    have named : ∀ {Q : Value → Shared → Prop} {E : Value → Shared → Prop}, Q c { t with heap := g3 } → wpAny (model X.prog X.w) (X.A.mark (some (.ref a))) (eval (.Name x np) X.env) Q E { t with heap := g3 } := by
      intro Q E q
      obtain ⟨gl, nodbg, h1⟩ := hc
      rcases h1 with h1 | ⟨h1, h2, h3⟩
      · exact ld_glob (X := X.suite a ((a, o3) :: (X.pn ++ pins))) inS gl h1 q nodbg
      · exact ld_blt (X := X.suite a ((a, o3) :: (X.pn ++ pins))) inS gl h1 h2 q h3 nodbg
    refine named (match_.here ?_)
    cases b with
    | false =>
      -- another class: it goes on
      show wpAny _ X.A (handleBy (.ref a) X.env []) _ _ _
      refine wpAny_handleBy_nil ?_
      obtain ⟨_, _, _, o, v, T, oT, w1, he, hz, hd, h1, hr⟩ := id fly3
      unfold PySem.passOn
      refine wpAny_bind (wpAny_field he hd h1 ?_)
      rw [if_neg (by simp : ¬ ((Value.ref T == Value.none) = true))]
      have go : wpAny (model X.prog X.w) X.A (setFlight (.ref a) X.env.frame) (fun _ t4 => wpAny (model X.prog X.w) X.A (throw (.ref a) : Sem Flow) (SP X pins Dn) X.xe t4) X.xe { t with heap := g3 } := by
        rw [hfr]
        refine HandSPX.setFlight_upZ fly3 fun g4 hh4 up4 => wpAny_throw (tk _ _ ⟨a, B, t0, pins, σ1, H1, cls, none, rfl, J, nb, (up.trans up3).trans up4, .inr (.inr ?_), na, os, ag, hno rfl⟩)
        rw [hst]; exact hh4
      first
        | exact wpAny_bind (wpAny_pure (wpAny_bind go))
        | exact wpAny_bind go
    | true =>
      refine codeAny_handlers_suite_as (HandSPX.lands_againZ fly3 fun g4 fly4 up4 => ?_)
      have J4 : Inv X pins σ1 H1 { t with heap := g4 } := J.landed nb fly4.1 ((up.trans up3).trans up4) os ag
      obtain ⟨o4, v4, e4, z4, d4⟩ := fly4.there
      refine store_ok (X := X.suite a ((a, o4) :: (X.pn ++ pins))) (v := .ref a) (J4.suite e4 d4 na nL nF) nd hi (.inl hl) rfl (fun t5 S5 => ?_) (.inr hl)
      refine wpAny_mono ((hsu a o4 cls none (X.pn ++ pins) z4 ⟨_, d4⟩).run [] t5 _ H1 _ S5 (hyes rfl a na)) (fun fl t6 r6 => ?_) fun _ _ z => z.elim
      have fin : ∀ {σ6 : L2.St} {H6 : Hp} {Q : Shared → Prop}, Inv (X.suite a ((a, o4) :: (X.pn ++ pins))) [] σ6 H6 t6 → (∀ t7, Inv X pins (σ6.set i none) (upd H6 a (ExQ cls a)) t7 → Q t7) → wpAny (model X.prog X.w) X.A (do bindName X.env n .none; unbindBehindTheSuite X.env n hpos) (fun _ t7 => Q t7) X.xe t6 := by
        intro σ6 H6 Q S6 hq
        obtain ⟨e6, n6, _⟩ := S6.pin (a, o4) (by simp)
        exact gone_ok (inv_track (S6.unsuite ok) new npin e6 d4 z4 n6 nL) nd hi hl hq
      cases fl with
      | next => obtain ⟨σ6, H6, S6, q6⟩ := r6; exact fin S6 fun t7 J7 => ⟨_, _, J7, q6⟩
      | brk => obtain ⟨σ6, H6, S6, q6⟩ := r6; exact fin S6 fun t7 J7 => ⟨_, _, J7, q6⟩
      | cont => obtain ⟨σ6, H6, S6, q6⟩ := r6; exact fin S6 fun t7 J7 => ⟨_, _, J7, q6⟩
      | ret u => obtain ⟨v6, σ6, H6, S6, rr, q6⟩ := r6; exact fin S6 fun t7 J7 => ⟨_, _, _, J7, rr, q6⟩
  · cases fl with
    | next => obtain ⟨σ1, H1, J1, q⟩ := r; exact wpAny_execs_nil ⟨σ1, H1, J1.ofTry ok, q⟩
    | brk => obtain ⟨σ1, H1, J1, q⟩ := r; exact ⟨σ1, H1, J1.ofTry ok, q⟩
    | cont => obtain ⟨σ1, H1, J1, q⟩ := r; exact ⟨σ1, H1, J1.ofTry ok, q⟩
    | ret u => obtain ⟨v, σ1, H1, J1, rr, q⟩ := r; exact ⟨v, σ1, H1, J1.ofTry ok, rr, q⟩
end
end Bw
namespace Bw
open PySem PySem.Spec PyProof.Rows L2
section
variable {X : Cx} {W : WN} {pos : Pos} {K : PySem.W.Frag}
/-! ### isinstance -/
/-- a value's kind, errors that were caught too -/
def TyQ (K : PySem.W.Frag) (H : Hp) (x : V) (t : Value) : Prop := TyX K H x t ∨ ∃ a C, x = .ref a ∧ t = .ref C ∧ H a = some (ExQ (.ref C) a) ∧ ExcC K C
theorem kitq {pins : List (Addr × Obj)} {σ : L2.St} {H : Hp} {s : Shared} {x : V} {u t : Value} (I : Inv X pins σ H s) (rx : RelV x u) (ty : TyQ X.K H x t) : ∃ P : Heap → Prop, PySem.W.KitX X.K u t P ∧ P s.heap ∧ u ≠ .builtin "__main__.__loader__#opaque" := by
  rcases ty with ty | ⟨a, C, rfl, rfl, ha, c⟩
  · exact kit_of I rx ty
  · cases rx
    obtain ⟨⟨⟨oc, od, oda, osl⟩, vs, e, ⟨z1, z2⟩, d⟩, _, _⟩ := I.hok a _ ha
    dsimp only at z1 z2 d
    subst z1 z2 d
    exact ⟨_, PySem.W.handS_kitx_exc c.hg c.hk c.hs c.hd c.ha c.hn c.ht c.hm, ⟨e, rfl, rfl, trivial⟩, fun z => nomatch z⟩
def rQ1 (K : PySem.W.Frag) (c : V) (u : Value) : List V → Hp → VK → Prop := fun xs H Q => ∃ (x : V) (t : Value) (b : Bool), xs = [x, c] ∧ TyQ K H x t ∧ PySem.W.kitOne K t u = some b ∧ Q (.bl b) H
theorem call_Q1 {c : V} {u : Value} (k : ClsV c u) : CallR X (.builtin "isinstance") (rQ1 X.K c u) := by
  intro pins s σ H xs us Q I r h
  obtain ⟨x, t, b, rfl, ty, e, q⟩ := h
  obtain ⟨u1, u2, rfl, r1, r2⟩ := L2.vals2 r
  cases k.eq r2
  obtain ⟨P, Z, p, hx⟩ := kitq I r1 ty
  exact PySem.W.kia_one Z I.kIn p e hx fun tk => ⟨.bl b, H, I.tok tk, rfl, q⟩
def rQT (K : PySem.W.Frag) (cs : List V) (ws : List Value) : List V → Hp → VK → Prop := fun xs H Q => ∃ (x : V) (tp : Addr) (t : Value) (b : Bool), xs = [x, .ref tp] ∧ H tp = some (.tup cs) ∧ TyQ K H x t ∧ PySem.W.kitAny K t ws = some b ∧ Q (.bl b) H
theorem call_QT {cs : List V} {ws : List Value} (k : Paired ClsV cs ws) : CallR X (.builtin "isinstance") (rQT X.K cs ws) := by
  intro pins s σ H xs us Q I r h
  obtain ⟨x, tp, t, b, rfl, hT, ty, e, q⟩ := h
  obtain ⟨u1, u2, rfl, r1, r2⟩ := L2.vals2 r
  cases r2
  obtain ⟨P, Z, p, hx⟩ := kitq I r1 ty
  obtain ⟨_, its, rv, ⟨oc, od, dt, sl⟩, h1, h2, n, h3⟩ := I.hok tp _ hT
  cases ClsV.all k rv
  dsimp only at h2 h3
  subst h2 h3
  exact PySem.W.kia_tup Z I.kIn p h1 e hx fun tk => ⟨.bl b, H, I.tok tk, rfl, q⟩
/-- the answer, by the kind: tb of a built-in type, tx of an error's class -/
def oIsi (tb : String → Option Bool) (tx : Str → Option Bool) (d : D) : Ev D := fun _ M =>
  let o : Option Bool := match d with
    | .non => tb "NoneType"
    | .bl _ => tb "bool"
    | .int _ => tb "int"
    | .str _ => tb "str"
    | .tup _ => tb "tuple"
    | .lst _ => tb "list"
    | .scr _ => tb "list"
    | .emp => tb "dict"
    | .ptr n => match M[n]? with
      | some (some _) => tb "list"
      | _ => none
    | .exv x => tx x
  match o with
  | some b => some (.ok (.bl b), M)
  | none => none
/-- what is to be known of the classes that are asked for -/
structure IsiOk (K : PySem.W.Frag) (ask : Value → Option Bool) (tb : String → Option Bool) (tx : Str → Option Bool) : Prop where
  tb : ∀ a b, tb a = some b → ask (.type a) = some b
  tx : ∀ x C b, tx x = some b → PySem.W.nsIn K mainGlobals x = some (some (.ref C)) → ask (.ref C) = some b ∧ ExcC K C
theorem tyq_of {θ : List Addr} {G H : Hp} {M : Mem} {v : V} {d : D} {ask : Value → Option Bool} {tb : String → Option Bool} {tx : Str → Option Bool} (rs : Rs K θ G H M) (hv : Rv K θ G v d) (ok : IsiOk K ask tb tx) {ρ : Env} {r : Res D} {M' : Mem} (e : oIsi tb tx d ρ M = some (r, M')) : ∃ b t, r = .ok (.bl b) ∧ M' = M ∧ TyQ K H v t ∧ ask t = some b := by
  have sqT : ∀ {a xs}, SqT K G a xs → TyX K H (.ref a) (.type "tuple") := fun {a xs} h => by
    rcases seqT rs.sub h with (h | ⟨o, h⟩) | ⟨o, its, n, h1, h2, _⟩
    · exact .base (.tup h)
    · exact .fTuple h
    · exact .kTuple h1 h2
  have sqL : ∀ {a xs}, SqL K H a xs → TyX K H (.ref a) (.type "list") := fun {a xs} h => by
    rcases h with (h | ⟨o, h⟩) | ⟨o, its, n, h1, h2, _⟩
    · exact .base (.lst h)
    · exact .base (.frz h)
    · exact .kList h1 h2
  have go : ∀ {o : Option Bool} {t : Value}, (match o with | some b => some (Res.ok (D.bl b), M) | none => none) = some (r, M') → TyQ K H v t → (∀ b, o = some b → ask t = some b) → ∃ b t, r = .ok (.bl b) ∧ M' = M ∧ TyQ K H v t ∧ ask t = some b := by
    intro o t h1 h2 h3
    cases o with
    | none => cases h1
    | some b => cases h1; exact ⟨b, t, rfl, rfl, h2, h3 b rfl⟩
  unfold oIsi at e
  cases hv with
  | dat hv =>
    cases hv with
    | non => exact go e (.inl (.base .non)) fun b h => ok.tb _ b h
    | bl _ => exact go e (.inl (.base (.bl _))) fun b h => ok.tb _ b h
    | int _ => exact go e (.inl (.base (.int _))) fun b h => ok.tb _ b h
    | str _ => exact go e (.inl (.base (.str _))) fun b h => ok.tb _ b h
    | tup h _ _ => exact go e (.inl (sqT h)) fun b h => ok.tb _ b h
    | lst h _ _ => exact go e (.inl (.base (.lst (rs.sub _ _ h)))) fun b h => ok.tb _ b h
    | scr h _ _ => exact go e (.inl (sqL (rs.sub.seq h))) fun b h => ok.tb _ b h
    | emp h => exact go e (.inl (.base (.dK (rs.sub _ _ h)))) fun b h => ok.tb _ b h
  | @ptr n a hn =>
    cases q : M[n]? with
    | none => dsimp only at e; rw [q] at e; cases e
    | some z =>
      cases z with
      | none => dsimp only at e; rw [q] at e; cases e
      | some ds =>
        dsimp only at e
        rw [q] at e
        obtain ⟨_, xs, hx, _⟩ := rs.mem n a ds hn q
        exact go e (.inl (sqL (.inl (.inl hx)))) fun b h => ok.tb _ b h
  | @exv x a C hn h =>
    dsimp only at e
    cases q : tx x with
    | none => rw [q] at e; cases e
    | some b =>
      rw [q] at e
      obtain ⟨q1, q2⟩ := ok.tx x C b q hn
      exact go (o := some b) e (.inr ⟨a, C, rfl, rfl, rs.sub _ _ h, q2⟩) fun b' h' => by cases h'; exact q1
variable {p p2 : Pos} {e : Expr} {f : Ev D}
/-- isinstance(e, c), c by its name -/
theorem de_isi {cx : Str} {c : V} {u : Value} {tb : String → Option Bool} {tx : Str → Option Bool} (hc : PE X (.Name cx p2) (tC c)) (k : ClsV c u) (ok : IsiOk X.K (fun t => PySem.W.kitOne X.K t u) tb tx) (hm : X.mg "isinstance" = none) (he : DE X W e f) (hg : Gl X "isinstance" := by rfl)
    (hs : starEach [e, .Name cx p2] X.env = (false, eval e X.env) :: starEach [.Name cx p2] X.env := by rfl) (hs2 : starEach [.Name cx p2] X.env = (false, eval (.Name cx p2) X.env) :: starEach [] X.env := by rfl) (hpl : (backTo pos (starEach [.Name cx p2] X.env)).any (·.1) = false := by rfl) :
    DE X W (.Call (.Name "isinstance" p) [e, .Name cx p2] [] pos) (bnd f (oIsi tb tx)) := by
  obtain ⟨t, q, s⟩ := he
  refine ⟨_, pe_callB (call_Q1 k) hg hm (by decide +kernel) (pa_cons q (pa_cons hc pa_nil hs2) hs) (by decide) (by decide) hs hpl, fun θ G => ?_⟩
  refine (s θ G).bind (R2 := RV X.K) (k := fun (x : V) (_ : L2.St) (H1 : Hp) (Q : V → Hp → Prop) => rQ1 X.K c u [x, c] H1 Q) fun θ1 G1 v d _ _ hv => ?_
  intro ρ M r M' θ2 G2 σ H Q p2 s2 e rs rv kk
  obtain ⟨b, t, rfl, rfl, ty, q2⟩ := tyq_of rs (hv.mono p2 s2) ok e
  exact ⟨v, t, b, rfl, ty, q2, (kk θ2 G2 H (List.prefix_refl _) (Same.refl _) rs).2 _ _ rfl rv_bl⟩
/-- isinstance(e, (c, ..)) -/
theorem de_isiT {es : List Expr} {k1 : Nat} {cs : List V} {ws : List Value} {tb : String → Option Bool} {tx : Str → Option Bool} (hc : PA X es (fun _ H Q => Q cs H)) (k : Paired ClsV cs ws) (hlen : cs.length ≤ 16777216) (ok : IsiOk X.K (fun t => PySem.W.kitAny X.K t ws) tb tx) (hm : X.mg "isinstance" = none) (he : DE X W e f) (hg : Gl X "isinstance" := by rfl)
    (hs : starEach [e, .Tuple es k1 p2] X.env = (false, eval e X.env) :: starEach [.Tuple es k1 p2] X.env := by rfl) (hs2 : starEach [.Tuple es k1 p2] X.env = (false, eval (.Tuple es k1 p2) X.env) :: starEach [] X.env := by rfl) (hpl : (backTo pos (starEach [.Tuple es k1 p2] X.env)).any (·.1) = false := by rfl) :
    DE X W (.Call (.Name "isinstance" p) [e, .Tuple es k1 p2] [] pos) (bnd f (oIsi tb tx)) := by
  obtain ⟨t, q, s⟩ := he
  refine ⟨_, pe_callB (call_QT k) hg hm (by decide +kernel) (pa_cons q (pa_cons (pe_tup hc) pa_nil hs2) hs) (by decide) (by decide) hs hpl, fun θ G => ?_⟩
  refine (s θ G).bind (R2 := RV X.K) (k := fun (x : V) (_ : L2.St) (H1 : Hp) (Q : V → Hp → Prop) => cs.length ≤ sizeLine ∧ ∀ tp, H1 tp = none → rQT X.K cs ws [x, .ref tp] (upd H1 tp (.tup cs)) Q) fun θ1 G1 v d _ _ hv => ?_
  intro ρ M r M' θ2 G2 σ H Q p2 s2 e rs rv kk
  refine ⟨by rw [sizeLine_eq]; exact hlen, fun tp htp => ?_⟩
  have g := rs.fresh htp
  have rs' := rs.laid htp (.tup cs)
  obtain ⟨b, t, rfl, rfl, ty, q2⟩ := tyq_of rs' (hv.mono p2 (s2.trans (same_upd g))) ok e
  exact ⟨v, tp, t, b, rfl, upd_same, ty, q2, (kk θ2 _ _ (List.prefix_refl _) (same_upd g) rs').2 _ _ rfl rv_bl⟩
theorem pa_cls_nil : PA X [] (fun _ H Q => Q [] H) := pa_nil
theorem pa_cls {cx : Expr} {es : List Expr} {c : V} {cs : List V} (hc : PE X cx (tC c)) (hr : PA X es (fun _ H Q => Q cs H)) (hs : starEach (cx :: es) X.env = (false, eval cx X.env) :: starEach es X.env := by rfl) : PA X (cx :: es) (fun _ H Q => Q (c :: cs) H) := pa_cons hc hr hs
/-! ### repr of a truth -/
def oRepr (ds : List D) : Ev D := match ds with
  | [.bl b] => ret (.str (if b then "True" else "False"))
  | _ => stk
theorem call_reprB : CallR X (.builtin "repr") (fun xs H Q => ∃ b : Bool, xs = [.bl b] ∧ Q (.str (if b then "True" else "False")) H) := by
  intro pins s σ H xs us Q I r h
  obtain ⟨b, rfl, q⟩ := h
  obtain ⟨u, rfl, hu⟩ := L2.vals1 r
  cases hu
  exact PySem.P.repr_of_bool ⟨.str _, H, I.tok _, ⟨_, rfl⟩, q⟩
theorem snd_repr : SndC K W (fun xs H Q => ∃ b : Bool, xs = [.bl b] ∧ Q (.str (if b then "True" else "False")) H) oRepr := by
  intro θ0 G0 xs ds hx
  unfold oRepr
  split
  · rename_i b
    obtain ⟨v, rfl, hv⟩ := vals1 hx
    rw [hv.bl_of]
    intro ρ M r M' θ G σ H Q p s e rs rv kk
    exact ⟨b, rfl, Snd.ret (K := K) (W := W) (R := RV K) (θ0 := θ0) (G0 := G0) (d := .str (if b then "True" else "False")) (fun _ G _ _ => .dat (.str _)) ρ M r M' θ G σ H Q p s e rs rv kk⟩
  · exact Snd.stk
theorem de_repr {es : List Expr} {h : Ev (List D)} (hm : X.mg "repr" = none) (ha : DA X W (e :: es) h) (hg : Gl X "repr" := by rfl) (he : starEach (e :: es) X.env = (false, eval e X.env) :: starEach es X.env := by rfl) (hpl : (backTo pos (starEach es X.env)).any (·.1) = false := by rfl) : DE X W (.Call (.Name "repr" p) (e :: es) [] pos) (bnd h oRepr) :=
  de_callB call_reprB snd_repr hm (by decide +kernel) ha hg (by decide) (by decide) he hpl
/-! ### x in a list of truths; is True, is False -/
def oInB (d e : D) : Ev D := match d, e with
  | .bl b, .lst ds => match blsOf ds with
    | some bs => ret (.bl (bs.contains b))
    | none => stk
  | _, _ => stk
theorem inV_bl (b : Bool) : ∀ bs : List Bool, inV (.bl b) (bs.map V.bl) = bs.contains b
  | [] => rfl
  | c :: bs => by
    have ih := inV_bl b bs
    unfold inV at ih ⊢
    rw [List.map_cons, List.any_cons, ih, List.contains_cons]
    congr 1
    cases b <;> cases c <;> rfl
theorem flat_bl : ∀ bs : List Bool, (bs.map V.bl).all flatV = true
  | [] => rfl
  | c :: bs => by rw [List.map_cons, List.all_cons, flat_bl bs]; rfl
theorem snd_inB : SndO K W (rIn K false) oInB := by
  intro θ G x y d e hx hy
  unfold oInB
  split
  · rename_i b ds
    split
    · rename_i bs hbs
      have hx' := hx.bl_of
      subst hx'
      cases hy with
      | dat hy =>
        cases hy with
        | lst hq l g =>
          rename_i a xs
          have ex := rpl_bls hbs ⟨l, g⟩
          subst ex
          intro ρ M r M' θ1 G1 σ H Q p s e rs rv kk
          refine ⟨a, _, rfl, .inl (.inl (.inl (rs.sub _ _ (s _ _ hq)))), rfl, flat_bl bs, ?_⟩
          rw [inV_bl]
          exact Snd.ret (K := K) (W := W) (R := RV K) (θ0 := θ) (G0 := G) (fun _ _ _ _ => rv_bl) ρ M r M' θ1 G1 σ H Q p s e rs rv kk
    · exact Snd.stk
  · exact Snd.stk
variable {a b : Expr} {g : Ev D}
theorem de_inB (ha : DE X W a f) (hb : DE X W b g) (hm : behindInMarks .In b = false := by rfl) : DE X W (.Compare a [.In] [b] pos) (bnd f fun d => bnd g fun e => oInB d e) := de_cmp op_in_seq snd_inB ha hb hm
theorem dt_inB (ha : DE X W a f) (hb : DE X W b g) (hm : behindInMarks .In b = false := by rfl) : DT X W (.Compare a [.In] [b] pos) (bnd (bnd f fun d => bnd g fun e => oInB d e) asB) := dt_cmp op_in_seq snd_inB ha hb hm
/-! ### raise, try -/
def sRaise (x : Str) : Sv := fun ρ M => some (.ex x ρ, M)
theorem ds_raise {WC : WX} {x : Str} {C : Addr} {m : Str} {j : Nat} {p3 pos2 : Pos} (hw : WOk X.mg WC W) (hc : X.calm = true) (tk : Takes X WC) (q : PySem.W.excIn X.K C [.type "ValueError", .type "Exception", .type "BaseException", .type "object"] "ValueError.__new__" = true) (gC : X.mg x = some (.ref C)) (kC : PySem.W.keepIn X.K (.ref C) = true) (r : Raises X (.ref C)) (hg : Gl X x := by rfl) (hdb : (x == ("__debug__" : Str)) = false := by decide) :
    DS X W (.Raise (some (.Call (.Name x p) [.Constant (.str m) j p3] [] pos)) none pos2) (sRaise x) := by
  refine ⟨_, ps_raise hc tk (pmk_own PySem.F.excBase_ValueError q gC kC r hg hdb), fun ρ M o M' θ G σ H Dn e rs rv kk => ?_⟩
  unfold sRaise at e
  cases e
  exact hw x σ H ((kk θ G H (List.prefix_refl _) (Same.refl _) rs).ex x ρ σ rfl rv) C gC
end
end Bw
namespace Bw
open PySem PySem.Spec PyProof.Rows L2
section
variable {X : Cx} {W : WN} {pos : Pos} {K : PySem.W.Frag}
/-- the reading of a body's worth -/
def tSOf (K : PySem.W.Frag) (W : WN) (f : Sv) : TS := fun Dn σ H => ∃ (ρ : Env) (M : Mem) (o : Out) (M' : Mem) (θ : List Addr) (G : Hp), f ρ M = some (o, M') ∧ Rs K θ G H M ∧ Rσ K θ G σ ρ ∧
  ∀ (θ' : List Addr) (G' H' : Hp), θ <+: θ' → Same G G' → Rs K θ' G' H' M' → Cont K W Dn o θ' G' H'
theorem DSs.can {sts : List Stmt} {f : Sv} (h : DSs X W sts f) : PSs X sts (tSOf X.K W f) := by
  obtain ⟨t, p, s⟩ := h
  refine ⟨fun pins s1 σ H Dn I q => p.run pins s1 σ H Dn I ?_⟩
  obtain ⟨ρ, M, o, M', θ, G, e, rs, rv, kk⟩ := q
  exact s ρ M o M' θ G σ H Dn e rs rv kk
/-- wishes by names, out of wishes by classes -/
def wnOf (mg : Str → Option Value) (WC : WX) : WN := fun x σ H => ∀ C, mg x = some (.ref C) → WC (.ref C) none σ H
theorem wokT {mg : Str → Option Value} {WC : WX} : WOk mg WC (wnOf mg WC) := fun _ _ _ h C hC => h C hC
/-- try: .. except c as n: m = n; mt: which classes the clause takes -/
def sTry (mt : Str → Option Bool) (i j : Nat) (f : Sv) : Sv := fun ρ M => match f ρ M with
  | some (.ex x ρ1, M1) => match mt x with
    | some true => if i < ρ1.length then some (.nx (((ρ1.set i (some (.exv x))).set j (some (.exv x))).set i none), M1) else none
    | some false => some (.ex x ρ1, M1)
    | none => none
  | r => r
theorem ds_try {i j : Nat} {n m bx : Str} {cB : Addr} {body : List Stmt} {np hpos pm pn pa : Pos} {f : Sv} {WC : WX} {mt : Str → Option Bool} (hw : WOk X.mg WC W) (tk : Takes X WC) (nd : X.N.Nodup) (hc : X.mg bx = some (.ref cB))
    (hmt : ∀ x b, mt x = some b → ∃ C, X.mg x = some (.ref C) ∧ PySem.W.nsIn X.K mainGlobals x = some (some (.ref C)) ∧ PySem.W.exmOne X.K (.ref C) (.ref cB) = some b)
    (hb : ∀ (WC' : WX) (pl : List (Addr × Obj)) (xe : Value → Shared → Prop), Takes (X.tr pl xe) WC' → PassesOwn (model X.prog X.w) X.A X.env xe → DSs (X.tr pl xe) (wnOf X.mg WC') body f)
    (hi : X.N[i]? = some n := by rfl) (hl : X.env.kindOf n = some .local := by rfl) (hj : X.N[j]? = some m := by rfl) (hlj : X.env.scope.names.lookup m = some .local := by rfl) (hv : Vis X.env.scope n := by exact Or.inl rfl)
    (hst : X.stack = X.env :: X.outer := by rfl) (hfr : X.env.frame = some X.env.locals := by rfl) (hex : X.ex = [] := by rfl) (hg : Gl X bx := by rfl) (hdb : (bx == ("__debug__" : Str)) = false := by decide)
    (hd1 : (n == ("__debug__" : Str)) = false := by decide) (hd2 : (n == ("__classdict__" : Str)) = false := by decide)
    (hsw : swapsWith (.Name n pn) (some (.Name m pm)) pa.line X.env = pure false := by rfl) :
    DS X W (.Try body [.ExceptHandler (some (.Name bx np)) (some n) [.Assign [.Name m pm] (.Name n pn) pa] hpos] [] [] pos) (sTry mt i j f) := by
  refine ⟨_, ps_tryK (i := i) (Wo := WC) (tb := fun WC' => tSOf X.K (wnOf X.mg WC') f) (ts := fun _ _ _ => tAsg (tVar i) (gName j)) hst hfr hex nd hi hl ⟨hg, hdb, .inl hc⟩ tk (fun WC' pl xe tk' po => (hb WC' pl xe tk' po).can) (fun a oe cls d pl z hf => pss_one (ps_set (X := X.suite a ((a, oe) :: pl)) (i := j) nd hj (.inl hlj) (pe_var hi hv hd1 hd2) hsw (.inr hlj))), fun ρ M o M' θ G σ H Dn e rs rv kk => ?_⟩
  unfold sTry at e
  cases q : f ρ M with
  | none => rw [q] at e; cases e
  | some z =>
    obtain ⟨o1, M1⟩ := z
    rw [q] at e
    refine ⟨ρ, M, o1, M1, θ, G, q, rs, rv, fun θ' G' H' p' s' rs' => ?_⟩
    cases o1 with
    | ex x ρ1 =>
      refine ⟨fun ρ2 σ2 h => (by cases h), fun ρ2 σ2 h => (by cases h), fun ρ2 σ2 h => (by cases h), fun d v h => (by cases h), fun x' ρ2 σ2 h r2 C hC => ?_⟩
      cases h
      dsimp only at e
      cases qm : mt x with
      | none => rw [qm] at e; cases e
      | some b =>
        rw [qm] at e
        obtain ⟨C2, g2, n2, m2⟩ := hmt x b qm
        have eC : C = C2 := by rw [hC] at g2; cases g2; rfl
        subst eC
        refine ⟨rfl, b, m2, fun hb0 => ?_, fun hb1 a ha => ?_⟩
        · subst hb0
          cases e
          exact hw x σ2 H' ((kk θ' G' H' p' s' rs').ex x ρ1 σ2 rfl r2) C hC
        · subst hb1
          dsimp only at e
          split at e
          · rename_i hlt
            cases e
            have hi2 : i < σ2.length := by rw [r2.len]; exact hlt
            refine ⟨.ref a, List.getElem?_set_self hi2, ?_⟩
            have g := rs'.fresh ha
            have rs2 := rs'.laid ha (ExQ (.ref C) a)
            have rel : Rv X.K θ' (upd G' a (ExQ (.ref C) a)) (.ref a) (.exv x) := .exv n2 upd_same
            exact (kk θ' _ _ p' (s'.trans (same_upd g)) rs2).nx _ _ rfl (rσ_none (((r2.mono (List.prefix_refl _) (same_upd g)).set rel).set rel) i)
          · cases e
    | nx ρ1 => cases e; exact ⟨(kk θ' G' H' p' s' rs').nx, (kk θ' G' H' p' s' rs').bk, (kk θ' G' H' p' s' rs').ct, (kk θ' G' H' p' s' rs').rt, fun _ _ _ h => (by cases h)⟩
    | bk ρ1 => cases e; exact ⟨(kk θ' G' H' p' s' rs').nx, (kk θ' G' H' p' s' rs').bk, (kk θ' G' H' p' s' rs').ct, (kk θ' G' H' p' s' rs').rt, fun _ _ _ h => (by cases h)⟩
    | ct ρ1 => cases e; exact ⟨(kk θ' G' H' p' s' rs').nx, (kk θ' G' H' p' s' rs').bk, (kk θ' G' H' p' s' rs').ct, (kk θ' G' H' p' s' rs').rt, fun _ _ _ h => (by cases h)⟩
    | rt d => cases e; exact ⟨(kk θ' G' H' p' s' rs').nx, (kk θ' G' H' p' s' rs').bk, (kk θ' G' H' p' s' rs').ct, (kk θ' G' H' p' s' rs').rt, fun _ _ _ h => (by cases h)⟩
end
/-- a def's worth, errors too -/
def runX (N : List Str) (fb : Sv) : Fd := fun ds M => match fb (startD N ds) M with
  | some (.rt d, M2) => if M.length ≤ M2.length ∧ d.ptLt M.length = true then some (.ok d, M2.take M.length) else none
  | some (.nx _, M2) => if M.length ≤ M2.length then some (.ok .non, M2.take M.length) else none
  | some (.ex x _, M2) => if M.length ≤ M2.length then some (.exc x, M2.take M.length) else none
  | _ => none
theorem runX_ok {n : Nat} {N : List Str} {fb : Sv} : ∀ ds M r M', ds.length = n → runX N fb ds M = some (r, M') → M.length ≤ M'.length ∧ ∃ o M2, fb (startD N ds) M = some (o, M2) ∧ Exit o M2 r M' := by
  intro ds M r M' _ h
  unfold runX at h
  have cut : ∀ M2 : Mem, M2 = M2.take M.length ++ M2.drop M.length := fun M2 => (List.take_append_drop _ _).symm
  split at h
  · rename_i d M2 e
    split at h
    · rename_i hc
      cases h
      refine ⟨by rw [List.length_take]; omega, _, _, e, ?_⟩
      have ex := Exit.rt (d := d) (M' := M2.take M.length) (g := M2.drop M.length) fun n hn => by
        subst hn
        rw [List.length_take]
        have := of_decide_eq_true hc.2
        omega
      rw [← cut M2] at ex
      exact ex
    · cases h
  · rename_i ρ M2 e
    split at h
    · cases h
      refine ⟨by rw [List.length_take]; omega, _, _, e, ?_⟩
      have ex := Exit.nx (ρ := ρ) (M' := M2.take M.length) (g := M2.drop M.length)
      rw [← cut M2] at ex
      exact ex
    · cases h
  · rename_i x ρ M2 e
    split at h
    · cases h
      refine ⟨by rw [List.length_take]; omega, _, _, e, ?_⟩
      have ex := Exit.ex (C := x) (ρ := ρ) (M' := M2.take M.length) (g := M2.drop M.length)
      rw [← cut M2] at ex
      exact ex
    · cases h
  · cases h
theorem runX_rt {N : List Str} {fb : Sv} {ds : List D} {M : Mem} {d : D} (h : fb (startD N ds) M = some (.rt d, M)) (hp : d.np = true) : runX N fb ds M = some (.ok d, M) := by
  unfold runX
  rw [h]
  dsimp only
  rw [if_pos ⟨Nat.le_refl _, by cases d <;> first | rfl | cases hp⟩, List.take_length]
theorem runX_ex {N : List Str} {fb : Sv} {ds : List D} {M : Mem} {x : Str} {ρ : Env} (h : fb (startD N ds) M = some (.ex x ρ, M)) : runX N fb ds M = some (.exc x, M) := by
  unfold runX
  rw [h]
  dsimp only
  rw [if_pos (Nat.le_refl _), List.take_length]
theorem isi_ty {K : PySem.W.Frag} {T : String} : IsiOk K (fun t => PySem.W.kitOne K t (.type T)) (fun a => kitB a T) (fun _ => none) := ⟨fun a b h => kit_ty h, fun x C b h => (by cases h)⟩
/-- x is True, x is False -/
def oIsB (d e : D) : Ev D := match d, e with
  | .bl a, .bl b => ret (.bl (decide (a = b)))
  | _, _ => stk
theorem snd_isB {K : PySem.W.Frag} {W : WN} : SndO K W rIsB oIsB := by
  intro θ G x y d e hx hy
  unfold oIsB
  split
  · rename_i a b
    rw [hx.bl_of, hy.bl_of]
    intro ρ M r M' θ1 G1 σ H Q p s e rs rv kk
    exact ⟨a, b, rfl, rfl, Snd.ret (K := K) (W := W) (R := RV K) (θ0 := θ) (G0 := G) (fun _ _ _ _ => rv_bl) ρ M r M' θ1 G1 σ H Q p s e rs rv kk⟩
  · exact Snd.stk
section
variable {X : Cx} {W : WN} {pos : Pos} {a b : Expr} {f g : Ev D}
theorem de_isB (ha : DE X W a f) (hb : DE X W b g) : DE X W (.Compare a [.Is] [b] pos) (bnd f fun d => bnd g fun e => oIsB d e) := de_cmp op_isBl snd_isB ha hb (nomark _)
theorem dt_isB (ha : DE X W a f) (hb : DE X W b g) : DT X W (.Compare a [.Is] [b] pos) (bnd (bnd f fun d => bnd g fun e => oIsB d e) asB) := dt_cmp op_isBl snd_isB ha hb (nomark _)
end
theorem kit_own {K : PySem.W.Frag} {E C : Addr} {b : Bool} (hd : PySem.W.hasDictIn K C = true) (ht : PySem.W.typeIn K (.ref C) = some (.type "type")) (hs : PySem.W.subIn K (.ref E) (.ref C) = some b) (he : PySem.W.subIn K (.ref E) (.ref E) = some true) : PySem.W.kitOne K (.ref E) (.ref C) = some b := by
  unfold PySem.W.kitOne
  split
  · rename_i h
    have e : Value.ref E = Value.ref C := by simpa using h
    cases e
    rw [he] at hs
    exact hs
  · obtain ⟨cd, hc, _⟩ := PySem.W.any_some hd
    unfold PySem.W.kitCls
    dsimp only
    rw [if_pos (by rw [hc, ht]; rfl)]
    exact hs
theorem kit_type {K : PySem.W.Frag} {E : Addr} {T : String} {b : Bool} (hm : PySem.W.kitMeta T = true) (hs : PySem.W.subIn K (.ref E) (.type T) = some b) : PySem.W.kitOne K (.ref E) (.type T) = some b := by
  unfold PySem.W.kitOne
  rw [if_neg (by simp)]
  unfold PySem.W.kitCls
  dsimp only
  rw [if_pos hm]
  exact hs
/-- x is not True, x is not False -/
def oIsnB (d e : D) : Ev D := match d, e with
  | .bl a, .bl b => ret (.bl (!decide (a = b)))
  | _, _ => stk
theorem snd_isnB {K : PySem.W.Frag} {W : WN} : SndO K W rNotB oIsnB := by
  intro θ G x y d e hx hy
  unfold oIsnB
  split
  · rename_i a b
    rw [hx.bl_of, hy.bl_of]
    intro ρ M r M' θ1 G1 σ H Q p s e rs rv kk
    exact ⟨a, b, rfl, rfl, Snd.ret (K := K) (W := W) (R := RV K) (θ0 := θ) (G0 := G) (fun _ _ _ _ => rv_bl) ρ M r M' θ1 G1 σ H Q p s e rs rv kk⟩
  · exact Snd.stk
section
variable {X : Cx} {W : WN} {pos : Pos} {a b : Expr} {f g : Ev D}
theorem de_isnB (ha : DE X W a f) (hb : DE X W b g) : DE X W (.Compare a [.IsNot] [b] pos) (bnd f fun d => bnd g fun e => oIsnB d e) := de_cmp op_notBl snd_isnB ha hb (nomark _)
theorem dt_isnB (ha : DE X W a f) (hb : DE X W b g) : DT X W (.Compare a [.IsNot] [b] pos) (bnd (bnd f fun d => bnd g fun e => oIsnB d e) asB) := dt_cmp op_notBl snd_isnB ha hb (nomark _)
/-- {} -/
theorem de_emp : DE X W (.Dict [] [] pos) (ret .emp) := by
  refine ⟨_, pe_dnewK, fun θ0 G0 ρ M r M' θ G σ H Q p s e rs rv kk => ?_⟩
  unfold ret at e
  cases e
  intro a ha
  have g := rs.fresh ha
  exact (kk θ _ _ (List.prefix_refl _) (same_upd g) (rs.laid ha _)).2 _ _ rfl (.dat (.emp upd_same))
end
end Bw
namespace Bw
open PySem PySem.Spec PyProof.Rows L2
/-! ### fractions as rationals -/
def frQ (q : Rat) : D := .tup [.int q.num, .int (q.den : Int)]
def Bd (n : Nat) (q : Rat) : Prop := q.num.natAbs < 2 ^ n ∧ q.den < 2 ^ n
theorem Bd.mono {m n : Nat} {q : Rat} (h : Bd m q) (l : m ≤ n) : Bd n q := ⟨Nat.lt_of_lt_of_le h.1 (Nat.pow_le_pow_right (by decide) l), Nat.lt_of_lt_of_le h.2 (Nat.pow_le_pow_right (by decide) l)⟩
def MulOk (i j : Int) : Prop := i.natAbs.log2 + j.natAbs.log2 < 1000000
def DivOk (j : Int) : Prop := j ≠ 0 ∧ j.natAbs.log2 < 9000
theorem log2_le_of {n a : Nat} (h : n < 2 ^ a) : n.log2 ≤ a := by
  rcases Nat.eq_zero_or_pos n with rfl | hp
  · simp
  · exact Nat.le_of_lt ((Nat.log2_lt (by omega)).mpr h)
theorem MulOk.of {i j : Int} {a b : Nat} (hi : i.natAbs < 2 ^ a) (hj : j.natAbs < 2 ^ b) (h : a + b < 1000000 := by decide) : MulOk i j := by
  have := log2_le_of hi
  have := log2_le_of hj
  unfold MulOk; omega
theorem DivOk.of {j : Int} {b : Nat} (h0 : j ≠ 0) (hj : j.natAbs < 2 ^ b) (h : b < 9000 := by decide) : DivOk j := ⟨h0, Nat.lt_of_le_of_lt (log2_le_of hj) h⟩
theorem oMul_int {i j : Int} (h : MulOk i j) (ρ : Env) (M : Mem) : oMul (.int i) (.int j) ρ M = some (.ok (.int (i * j)), M) := by
  unfold oMul oI
  dsimp only
  rw [if_pos (decide_eq_true (show i.natAbs.log2 + j.natAbs.log2 < 1000000 from h))]; rfl
theorem oDiv_int {i j : Int} (h : DivOk j) (ρ : Env) (M : Mem) : oDiv (.int i) (.int j) ρ M = some (.ok (.int (i.fdiv j)), M) := by
  unfold oDiv oI
  dsimp only
  rw [if_pos (decide_eq_true (show j ≠ 0 ∧ j.natAbs.log2 < 9000 from h))]; rfl
theorem oMod_int {i j : Int} (h : j ≠ 0) (ρ : Env) (M : Mem) : oMod (.int i) (.int j) ρ M = some (.ok (.int (i.fmod j)), M) := by
  unfold oMod oI
  dsimp only
  rw [if_pos (decide_eq_true h)]; rfl
theorem oAdd_int {i j : Int} (ρ : Env) (M : Mem) : oAdd (.int i) (.int j) ρ M = some (.ok (.int (i + j)), M) := rfl
theorem oSub_int {i j : Int} (ρ : Env) (M : Mem) : oSub (.int i) (.int j) ρ M = some (.ok (.int (i - j)), M) := rfl
theorem oLt_int {i j : Int} (ρ : Env) (M : Mem) : oLt (.int i) (.int j) ρ M = some (.ok (.bl (decide (i < j))), M) := rfl
theorem oLe_int {i j : Int} (ρ : Env) (M : Mem) : oLe (.int i) (.int j) ρ M = some (.ok (.bl (decide (i ≤ j))), M) := rfl
theorem oGt_int {i j : Int} (ρ : Env) (M : Mem) : oGt (.int i) (.int j) ρ M = some (.ok (.bl (decide (j < i))), M) := rfl
theorem oGe_int {i j : Int} (ρ : Env) (M : Mem) : oGe (.int i) (.int j) ρ M = some (.ok (.bl (decide (j ≤ i))), M) := rfl
theorem oNeg_int {i : Int} (ρ : Env) (M : Mem) : oNeg (.int i) ρ M = some (.ok (.int (-i)), M) := rfl
theorem oEq_int {i j : Int} (ρ : Env) (M : Mem) : oEq (.int i) (.int j) ρ M = some (.ok (.bl (decide (i = j))), M) := by
  unfold oEq
  rw [if_pos ⟨rfl, rfl, by rfl, by rfl⟩]
  show some (Res.ok (D.bl (PyData.eqv (.int i) (.int j))), M) = _
  simp only [PyData.eqv]
  congr
theorem oNe_int {i j : Int} (ρ : Env) (M : Mem) : oNe (.int i) (.int j) ρ M = some (.ok (.bl (!decide (i = j))), M) := by
  unfold oNe
  rw [if_pos ⟨rfl, rfl, by rfl, by rfl⟩]
  show some (Res.ok (D.bl (!PyData.eqv (.int i) (.int j))), M) = _
  simp only [PyData.eqv]
  congr
theorem eqv_fr (x y : Rat) : PyData.eqv (toPy (frQ x)) (toPy (frQ y)) = decide (x = y) := by
  simp only [frQ, toPy, toPys, PyData.eqv, PyData.eqvAll, Bool.and_true]
  rw [Bool.eq_iff_iff]
  simp only [Bool.and_eq_true, beq_iff_eq, decide_eq_true_eq]
  constructor
  · rintro ⟨a, b⟩
    exact Rat.ext a (by exact_mod_cast b)
  · rintro rfl; exact ⟨rfl, rfl⟩
theorem shaped_fr (x : Rat) : SeqAt.shaped (toPy (frQ x)) = true := by rfl
theorem oEq_fr (x y : Rat) (ρ : Env) (M : Mem) : oEq (frQ x) (frQ y) ρ M = some (.ok (.bl (decide (x = y))), M) := by
  unfold oEq
  rw [if_pos ⟨rfl, rfl, shaped_fr x, shaped_fr y⟩, eqv_fr]; rfl
theorem oNe_fr (x y : Rat) (ρ : Env) (M : Mem) : oNe (frQ x) (frQ y) ρ M = some (.ok (.bl (!decide (x = y))), M) := by
  unfold oNe
  rw [if_pos ⟨rfl, rfl, shaped_fr x, shaped_fr y⟩, eqv_fr]; rfl
theorem oEq_bl {i j : Bool} (ρ : Env) (M : Mem) : oEq (.bl i) (.bl j) ρ M = some (.ok (.bl (decide (i = j))), M) := by
  cases i <;> cases j <;> rfl
theorem oNe_bl {i j : Bool} (ρ : Env) (M : Mem) : oNe (.bl i) (.bl j) ρ M = some (.ok (.bl (!decide (i = j))), M) := by
  cases i <;> cases j <;> rfl
theorem np_fr (x : Rat) : (frQ x).np = true := rfl
/-! uniqueness of lowest terms -/
theorem rat_uniq {q : Rat} {n : Int} {d : Nat} (hd : d ≠ 0) (hc : n.natAbs.Coprime d) (h : n * (q.den : Int) = q.num * (d : Int)) : q.num = n ∧ q.den = d := by
  have e : mkRat n d = q := by
    rw [← Rat.mkRat_self q, Rat.mkRat_eq_iff hd q.den_nz]; exact h
  have e2 : mkRat n d = ⟨n, d, hd, hc⟩ := by
    rw [← Rat.normalize_eq_mkRat hd, Rat.normalize_eq]
    have g : n.natAbs.gcd d = 1 := hc
    simp [g]
  rw [e2] at e
  subst e
  exact ⟨rfl, rfl⟩
theorem fr_of {q : Rat} {n d : Int} (hd : 0 < d) (hc : Int.gcd n d = 1) (h : n * (q.den : Int) = q.num * d) : D.tup [.int n, .int d] = frQ q := by
  obtain ⟨k, rfl⟩ : ∃ k : Nat, d = k := ⟨d.toNat, by omega⟩
  have hk : k ≠ 0 := by omega
  obtain ⟨a, b⟩ := rat_uniq (q := q) hk (by simpa [Nat.Coprime, Int.gcd] using hc) h
  unfold frQ
  rw [a, b]
theorem fdiv_nat (i : Int) (n : Nat) : i.fdiv (n : Int) = i / (n : Int) := Int.fdiv_eq_ediv_of_nonneg i (Int.natCast_nonneg n)
theorem fmod_nat (i : Int) (n : Nat) : i.fmod (n : Int) = i % (n : Int) := Int.fmod_eq_emod_of_nonneg i (Int.natCast_nonneg n)
theorem gcd_fmod (a b : Int) : Int.gcd b (a.fmod b) = Int.gcd a b := by
  have h : a.fmod b = a - b * (a.fdiv b) := by have := Int.mul_fdiv_add_fmod a b; omega
  rw [h, Int.gcd_sub_mul_left_right, Int.gcd_comm]
theorem natAbs_fmod_lt (a : Int) {b : Int} (h : b ≠ 0) : (a.fmod b).natAbs < b.natAbs := by
  rcases Int.lt_or_gt_of_ne h with hb | hb
  · have h3 := Int.fmod_eq_emod (a := a) (b := b)
    have h1 := Int.emod_nonneg a h
    have h2 := Int.emod_lt_of_neg a hb
    have h4 : ¬ (0 ≤ b) := by omega
    simp only [h4, false_or] at h3
    split at h3
    · rename_i hd
      have := Int.emod_eq_zero_of_dvd hd
      omega
    · rename_i hd
      have : a % b ≠ 0 := fun z => hd (Int.dvd_of_emod_eq_zero z)
      omega
  · have h1 := Int.fmod_nonneg_of_pos a hb
    have h2 := Int.fmod_lt_of_pos a hb
    omega
end Bw
namespace Bw
open PySem PySem.Spec PyProof.Rows L2
/-! ### evaluation, step by step -/
section
variable {α β : Type}
def bindR (x : Option (Res α × Mem)) (k : α → Mem → Option (Res β × Mem)) : Option (Res β × Mem) := match x with
  | some (.ok a, M) => k a M
  | some (.exc C, M) => some (.exc C, M)
  | none => none
theorem bindR_ok (a : α) (M : Mem) (k : α → Mem → Option (Res β × Mem)) : bindR (some (.ok a, M)) k = k a M := rfl
theorem bindR_exc (C : Str) (M : Mem) (k : α → Mem → Option (Res β × Mem)) : bindR (some (.exc C, M)) k = some (.exc C, M) := rfl
def thenR (x : Option (Res α × Mem)) (ρ : Env) (k : α → Mem → Option (Out × Mem)) : Option (Out × Mem) := match x with
  | some (.ok a, M) => k a M
  | some (.exc C, M) => some (.ex C ρ, M)
  | none => none
theorem thenR_ok (a : α) (M : Mem) (ρ : Env) (k : α → Mem → Option (Out × Mem)) : thenR (some (.ok a, M)) ρ k = k a M := rfl
theorem thenR_exc (C : Str) (M : Mem) (ρ : Env) (k : α → Mem → Option (Out × Mem)) : thenR (some (.exc C, M)) ρ k = some (.ex C ρ, M) := rfl
theorem bnd_ap (f : Ev α) (g : α → Ev β) (ρ : Env) (M : Mem) : bnd f g ρ M = bindR (f ρ M) fun a M1 => g a ρ M1 := rfl
theorem ret_ap (a : α) (ρ : Env) (M : Mem) : ret a ρ M = some (.ok a, M) := rfl
theorem thenS_ap (f : Ev α) (g : α → Sv) (ρ : Env) (M : Mem) : thenS f g ρ M = thenR (f ρ M) ρ fun a M1 => g a ρ M1 := rfl
def varR (x : Option (Option D)) (M : Mem) : Option (Res D × Mem) := match x with
  | some (some d) => some (.ok d, M)
  | _ => none
theorem varR_ok (d : D) (M : Mem) : varR (some (some d)) M = some (.ok d, M) := rfl
theorem dVar_ap (i : Nat) (ρ : Env) (M : Mem) : dVar i ρ M = varR ρ[i]? M := by
  unfold dVar varR
  rfl
def seqR (x : Option (Out × Mem)) (g : Sv) : Option (Out × Mem) := match x with
  | some (.nx ρ1, M1) => g ρ1 M1
  | r => r
theorem seqR_nx (ρ : Env) (M : Mem) (g : Sv) : seqR (some (.nx ρ, M)) g = g ρ M := rfl
theorem seqR_rt (d : D) (M : Mem) (g : Sv) : seqR (some (.rt d, M)) g = some (.rt d, M) := rfl
theorem seqR_bk (d : Env) (M : Mem) (g : Sv) : seqR (some (.bk d, M)) g = some (.bk d, M) := rfl
theorem seqR_ct (d : Env) (M : Mem) (g : Sv) : seqR (some (.ct d, M)) g = some (.ct d, M) := rfl
theorem seqR_ex (C : Str) (d : Env) (M : Mem) (g : Sv) : seqR (some (.ex C d, M)) g = some (.ex C d, M) := rfl
theorem sSeq_ap (f g : Sv) (ρ : Env) (M : Mem) : sSeq f g ρ M = seqR (f ρ M) g := by
  unfold sSeq seqR
  rfl
def asgR (x : Option Env) (M : Mem) : Option (Out × Mem) := match x with
  | some ρ => some (.nx ρ, M)
  | none => none
theorem asgR_ok (ρ : Env) (M : Mem) : asgR (some ρ) M = some (.nx ρ, M) := rfl
theorem sAsg_ap (f : Ev D) (b : Tg) (ρ : Env) (M : Mem) : sAsg f b ρ M = thenR (f ρ M) ρ fun d M1 => asgR (b d ρ) M1 := by
  unfold sAsg
  rw [thenS_ap]
  congr
theorem gNm_ap (i : Nat) (d : D) (ρ : Env) : gNm i d ρ = some (ρ.set i (some d)) := rfl
def gcnR (x : Option Env) (k : Env → Option Env) : Option Env := match x with
  | some ρ => k ρ
  | none => none
theorem gcnR_ok (ρ : Env) (k : Env → Option Env) : gcnR (some ρ) k = k ρ := rfl
theorem gCn_ap (b : Tg) (c : List D → Env → Option Env) (d : D) (r : List D) (ρ : Env) : gCn b c (d :: r) ρ = gcnR (b d ρ) fun ρ1 => c r ρ1 := by
  unfold gCn gcnR
  rfl
theorem gNl_ap (ρ : Env) : gNl [] ρ = some ρ := rfl
theorem gTp_ap (n : Nat) (c : List D → Env → Option Env) (ds : List D) (ρ : Env) (h : ds.length = n) : gTp n c (.tup ds) ρ = c ds ρ := by
  unfold gTp
  dsimp only
  rw [if_pos h]
theorem gTp_fr (c : List D → Env → Option Env) (q : Rat) (ρ : Env) : gTp 2 c (frQ q) ρ = c [.int q.num, .int (q.den : Int)] ρ := rfl
theorem gLs_ap (n : Nat) (c : List D → Env → Option Env) (ds : List D) (ρ : Env) (h : ds.length = n) : gLs n c (.lst ds) ρ = c ds ρ := by
  unfold gLs
  dsimp only
  rw [if_pos h]
theorem sPar_ap (i j : Nat) (f : Ev (List D)) (ρ : Env) (M : Mem) : sPar i j f ρ M = thenR (f ρ M) ρ fun ds M1 => match ds with
  | [d, e] => some (.nx ((ρ.set i (some d)).set j (some e)), M1)
  | _ => none := rfl
theorem sRet_ap (f : Ev D) (ρ : Env) (M : Mem) : sRet f ρ M = thenR (f ρ M) ρ fun d M1 => some (.rt d, M1) := rfl
theorem sExpr_ap (f : Ev D) (ρ : Env) (M : Mem) : sExpr f ρ M = thenR (f ρ M) ρ fun d M1 => some (.nx ρ, M1) := rfl
theorem sNext_ap (ρ : Env) (M : Mem) : sNext ρ M = some (.nx ρ, M) := rfl
theorem sIf_ap (c : Ev Bool) (f g : Sv) (ρ : Env) (M : Mem) : sIf c f g ρ M = thenR (c ρ M) ρ fun b M1 => if b = true then f ρ M1 else g ρ M1 := by
  unfold sIf
  rw [thenS_ap]
  congr
  funext b M1
  split <;> rfl
theorem dNil_ap (ρ : Env) (M : Mem) : dNil ρ M = some (.ok [], M) := rfl
theorem dCons_ap (f : Ev D) (g : Ev (List D)) (ρ : Env) (M : Mem) : dCons f g ρ M = bindR (f ρ M) fun d M1 => bindR (g ρ M1) fun ds M2 => some (.ok (d :: ds), M2) := rfl
theorem oTup_ap (ds : List D) (ρ : Env) (M : Mem) (h : ds.all D.np = true) (l : ds.length ≤ 16777216) : oTup ds ρ M = some (.ok (.tup ds), M) := by
  unfold oTup
  rw [if_pos ⟨h, l⟩]; rfl
theorem oLst_ap (ds : List D) (ρ : Env) (M : Mem) (h : ds.all D.np = true) (l : ds.length ≤ 16777216) : oLst ds ρ M = some (.ok (.lst ds), M) := by
  unfold oLst
  rw [if_pos ⟨h, l⟩]; rfl
theorem oNew_ap (ds : List D) (ρ : Env) (M : Mem) (h : ds.all D.np = true) (l : ds.length ≤ 16777216) : oNew ds ρ M = some (.ok (.ptr M.length), M ++ [some ds]) := by
  unfold oNew
  rw [if_pos ⟨h, l⟩]
theorem oCall_ap (n : Nat) (F : Fd) (ds : List D) (ρ : Env) (M : Mem) (h : ds.length = n) : oCall n F ds ρ M = F ds M := by
  unfold oCall
  rw [if_pos h]
theorem asB_ap (b : Bool) (ρ : Env) (M : Mem) : asB (.bl b) ρ M = some (.ok b, M) := rfl
theorem dAnd_ap (f g : Ev Bool) (ρ : Env) (M : Mem) : dAnd f g ρ M = bindR (f ρ M) fun c M1 => if c = true then g ρ M1 else some (.ok false, M1) := by
  unfold dAnd
  rw [bnd_ap]
  congr
  funext b M1
  split <;> rfl
theorem dOr_ap (f g : Ev Bool) (ρ : Env) (M : Mem) : dOr f g ρ M = bindR (f ρ M) fun c M1 => if c = true then some (.ok true, M1) else g ρ M1 := by
  unfold dOr
  rw [bnd_ap]
  congr
  funext b M1
  split <;> rfl
theorem dNot_ap (f : Ev Bool) (ρ : Env) (M : Mem) : dNot f ρ M = bindR (f ρ M) fun c M1 => some (.ok (!c), M1) := rfl
theorem dAndV_ap (f g : Ev D) (ρ : Env) (M : Mem) : dAndV f g ρ M = bindR (f ρ M) fun d M1 => bindR (asB d ρ M1) fun c M1 => if c = true then g ρ M1 else some (.ok (.bl false), M1) := by
  unfold dAndV
  rw [bnd_ap]
  congr
  funext b M1
  rw [bnd_ap]
  congr
  funext b M1
  split <;> rfl
theorem dOrV_ap (f g : Ev D) (ρ : Env) (M : Mem) : dOrV f g ρ M = bindR (f ρ M) fun d M1 => bindR (asB d ρ M1) fun c M1 => if c = true then some (.ok (.bl true), M1) else g ρ M1 := by
  unfold dOrV
  rw [bnd_ap]
  congr
  funext b M1
  rw [bnd_ap]
  congr
  funext b M1
  split <;> rfl
theorem dNotV_ap (f : Ev D) (ρ : Env) (M : Mem) : dNotV f ρ M = bindR (f ρ M) fun d M1 => bindR (asB d ρ M1) fun c M1 => some (.ok (.bl (!c)), M1) := rfl
theorem dIf_ap (c : Ev Bool) (f g : Ev D) (ρ : Env) (M : Mem) : dIf c f g ρ M = bindR (c ρ M) fun b M1 => if b = true then f ρ M1 else g ρ M1 := by
  unfold dIf
  rw [bnd_ap]
  congr
  funext b M1
  split <;> rfl
theorem oPow_ap (i : Int) (n : Nat) (ρ : Env) (M : Mem) (h : n ≤ 1000000) (hi : i.natAbs < 2 ^ 64) : oPow (.int i) (.int (n : Int)) ρ M = some (.ok (.int (i ^ n)), M) := by
  unfold oPow oI
  dsimp only
  rw [if_pos (decide_eq_true ⟨by omega, by omega, hi⟩)]; rfl
theorem oAdd_lst (a b : List D) (ρ : Env) (M : Mem) (h : a.length + b.length ≤ 16777216) : oAdd (.lst a) (.lst b) ρ M = some (.ok (.lst (a ++ b)), M) := by
  unfold oAdd
  dsimp only
  rw [if_pos h]; rfl
theorem oAbs_ap (i : Int) (ρ : Env) (M : Mem) : oAbs [.int i] ρ M = some (.ok (.int (if i < 0 then -i else i)), M) := rfl
theorem oMax_ap (i j : Int) (ρ : Env) (M : Mem) : oMax [.int i, .int j] ρ M = some (.ok (.int (if j > i then j else i)), M) := rfl
theorem oMin_ap (i j : Int) (ρ : Env) (M : Mem) : oMin [.int i, .int j] ρ M = some (.ok (.int (if j < i then j else i)), M) := rfl
theorem oToInt_b (b : Bool) (ρ : Env) (M : Mem) : oToInt [.bl b] ρ M = some (.ok (.int (if b then 1 else 0)), M) := rfl
theorem oToInt_i (b : Int) (ρ : Env) (M : Mem) : oToInt [.int b] ρ M = some (.ok (.int b), M) := rfl
theorem oLen_lst (ds : List D) (ρ : Env) (M : Mem) : oLen [.lst ds] ρ M = some (.ok (.int ds.length), M) := rfl
theorem oLen_scr (ds : List D) (ρ : Env) (M : Mem) : oLen [.scr ds] ρ M = some (.ok (.int ds.length), M) := rfl
theorem oLen_tup (ds : List D) (ρ : Env) (M : Mem) : oLen [.tup ds] ρ M = some (.ok (.int ds.length), M) := rfl
def ixR (x : Option D) (M : Mem) : Option (Res D × Mem) := match x with
  | some d => some (.ok d, M)
  | none => none
theorem ixR_ok (d : D) (M : Mem) : ixR (some d) M = some (.ok d, M) := rfl
theorem oIx_lst (ds : List D) (i : Int) (ρ : Env) (M : Mem) : oIx (.lst ds) (.int i) ρ M = ixR (atI ds i) M := by
  unfold oIx ixR seqOf
  dsimp only
  all_goals (split <;> rename_i h <;> rw [h])
theorem oIx_scr (ds : List D) (i : Int) (ρ : Env) (M : Mem) : oIx (.scr ds) (.int i) ρ M = ixR (atI ds i) M := by
  unfold oIx ixR seqOf
  dsimp only
  all_goals (split <;> rename_i h <;> rw [h])
theorem oIx_tup (ds : List D) (i : Int) (ρ : Env) (M : Mem) : oIx (.tup ds) (.int i) ρ M = ixR (atI ds i) M := by
  unfold oIx ixR seqOf
  dsimp only
  all_goals (split <;> rename_i h <;> rw [h])
theorem oIx_ptr {n : Nat} {ds : List D} (i : Int) (ρ : Env) {M : Mem} (h : M[n]? = some (some ds)) : oIx (.ptr n) (.int i) ρ M = ixR (atI ds i) M := by
  unfold oIx ixR seqOf
  dsimp only
  rw [h]
  all_goals (try dsimp only)
  all_goals (split <;> rename_i h <;> rw [h])
theorem oIx_fr0 (q : Rat) (ρ : Env) (M : Mem) : oIx (frQ q) (.int 0) ρ M = some (.ok (.int q.num), M) := rfl
theorem oIx_fr1 (q : Rat) (ρ : Env) (M : Mem) : oIx (frQ q) (.int 1) ρ M = some (.ok (.int (q.den : Int)), M) := rfl
theorem oRng1_ap (j : Int) (ρ : Env) (M : Mem) (h1 : 0 ≤ j) (h : j < 2 ^ 62) : oRng1 [.int j] ρ M = some (.ok ((List.range j.toNat).map fun (i : Nat) => D.int (i : Int)), M) := by
  unfold oRng1
  dsimp only
  rw [if_pos ⟨by omega, h⟩]; rfl
theorem oItL_ap (ds : List D) (ρ : Env) (M : Mem) : oItL (.lst ds) ρ M = some (.ok ds, M) := rfl
theorem oItT_ap (ds : List D) (ρ : Env) (M : Mem) : oItT (.tup ds) ρ M = some (.ok ds, M) := rfl
theorem sFor_ap (h : Ev (List D)) (b : Tg) (f : Sv) (ρ : Env) (M : Mem) : sFor h b f ρ M = thenR (h ρ M) ρ fun ds M1 => forF b f ds ρ M1 := rfl
def ofR (x : Option (Out × Mem)) (k : Env → Mem → Option (Out × Mem)) : Option (Out × Mem) := match x with
  | some (.nx ρ2, M2) => k ρ2 M2
  | some (.ct ρ2, M2) => k ρ2 M2
  | some (.bk ρ2, M2) => some (.nx ρ2, M2)
  | r => r
theorem ofR_nx (ρ : Env) (M : Mem) (k : Env → Mem → Option (Out × Mem)) : ofR (some (.nx ρ, M)) k = k ρ M := rfl
theorem ofR_rt (d : D) (M : Mem) (k : Env → Mem → Option (Out × Mem)) : ofR (some (.rt d, M)) k = some (.rt d, M) := rfl
theorem ofR_bk (ρ : Env) (M : Mem) (k : Env → Mem → Option (Out × Mem)) : ofR (some (.bk ρ, M)) k = some (.nx ρ, M) := rfl
def forB (x : Option Env) (k : Env → Option (Out × Mem)) : Option (Out × Mem) := match x with
  | none => none
  | some ρ => k ρ
theorem forB_ok (ρ : Env) (k : Env → Option (Out × Mem)) : forB (some ρ) k = k ρ := rfl
theorem forF_nil (b : Tg) (f : Sv) (ρ : Env) (M : Mem) : forF b f [] ρ M = some (.nx ρ, M) := rfl
theorem forF_cons (b : Tg) (f : Sv) (d : D) (ds : List D) (ρ : Env) (M : Mem) : forF b f (d :: ds) ρ M = forB (b d ρ) fun ρ1 => ofR (f ρ1 M) fun ρ2 M2 => forF b f ds ρ2 M2 := by
  conv => lhs; unfold forF
  unfold forB ofR
  rfl
/-- x[i] = e -/
theorem sStore_ap (f fo fi : Ev D) (ρ : Env) (M : Mem) : sStore f fo fi ρ M = thenR (f ρ M) ρ fun d M1 => thenR (fo ρ M1) ρ fun o M2 => thenR (fi ρ M2) ρ fun i M3 => match o, i with
  | .ptr n, .int k => match M3[n]? with
    | some (some ds) => match ixN ds.length k with
      | some j => if d.np = true then some (.nx ρ, M3.set n (some (ds.set j d))) else none
      | none => none
    | _ => none
  | _, _ => none := rfl
end
theorem atI_0 {α : Type} (a : α) (l : List α) : atI (a :: l) 0 = some a := by
  unfold atI ixN
  simp
theorem atI_nat' {α : Type} (l : List α) (n : Nat) : atI l (n : Int) = l[n]? := by
  unfold atI ixN
  rw [if_pos (by omega)]
  by_cases h : n < l.length
  · rw [if_pos (by omega)]; simp
  · rw [if_neg (by omega)]; simp; omega
end Bw
/-! calls where no repr is under way -/
namespace Bw
open PySem PySem.Spec PyProof.Rows L2
structure Rg (k : Nat) (A : Around) : Prop where
  r : Room k A
  g : A.guards = some []
theorem Rg.mono {j k : Nat} {A : Around} (h : Rg k A) (l : j ≤ k) : Rg j A := ⟨h.r.mono l, h.g⟩
theorem Rg.units {k : Nat} {A : Around} (h : Rg k A) : A.units + 64 < cLine := h.r.units
theorem Rg.un200 {k : Nat} {A : Around} (h : Rg k A) : A.units + 200 < cLine := by have := h.r.un; omega
/-- a def's promise, no repr under way -/
structure GOk (P : Program) (w : World) (K : PySem.W.Frag) (mg : Str → Option Value) (base : Heap) (C : CXT) (k : Nat) (f : Addr) (fd : FuncData) (ps : List Str) (sp : Sp) : Prop where
  n : ∀ vs H Q E, sp vs H Q E → vs.length = ps.length
  go : ∀ (A : Around) (ou : List PySem.Env) (s : Shared) (H : Hp) (ar : Args) (us : List Value) (vs : List V) (Q : VK) (E : XK), Rg k A → Env0 P w K mg base A ou s H → BindsTo s fd ar (ps.zip us) → Vals vs us → sp vs H Q E → codeAny (model P w) A (.call (.ref f) ar) (CR C ou P w H s Q E) s
section
variable {P : Program} {w : World} {K : PySem.W.Frag} {mg : Str → Option Value} {base : Heap} {C : CXT} {k : Nat} {f : Addr} {fd : FuncData} {ps : List Str} {sp : Sp}
theorem GOk.mono {j : Nat} (F : GOk P w K mg base C j f fd ps sp) (l : j ≤ k) : GOk P w K mg base C k f fd ps sp := ⟨F.n, fun A ou s H ar us vs Q E hr => F.go A ou s H ar us vs Q E (hr.mono l)⟩
theorem GOk.imp {sp' : Sp} (F : GOk P w K mg base C k f fd ps sp) (h : ∀ vs H Q E, sp' vs H Q E → sp vs H Q E) : GOk P w K mg base C k f fd ps sp' :=
  ⟨fun vs H Q E q => F.n vs H Q E (h vs H Q E q), fun A ou s H ar us vs Q E hr he hb hv hs => F.go A ou s H ar us vs Q E hr he hb hv (h vs H Q E hs)⟩
/-- by its body -/
theorem gok_of {x qual : Str} {st : Stmt} {N : List Str} (FU : Fun K x qual st f fd) (S : FnScope N ps (defScope st)) (hn : ∀ vs H Q E, sp vs H Q E → vs.length = ps.length)
    (hbody : ∀ (cdv : Value) (A : Around) (ou : List PySem.Env) (s : Shared) (H : Hp) (vs : List V) (Q : VK) (E : XK), Rg k (A.deeper (envOfC qual (defScope st) s.heap.objs.size f cdv)) → sp vs H Q E →
      ∃ t, PSs (cxOf C P w K mg base N qual (defScope st) f cdv A ou s H E) (defBody st) t ∧ t { nx := fun _ H' => Q .non H', rt := Q } (L2.start N vs) H) : GOk P w K mg base C (k + 1) f fd ps sp := by
  obtain ⟨oc, od, kV, doc, pm, an, cdv, ct, osl, e, lk, hcd⟩ := FU.ex
  subst e
  refine ⟨hn, fun A ou s H ar us vs Q E hr e0 hb rv hsp => ?_⟩
  have stay := fun (b : Addr) (o : Obj) (q : base.get? b = some o) => (e0.bs b o q).1
  have KX : K.In s.heap := e0.mod.kin.keeps stay
  have lim : s.heap.NoLimit := e0.mod.nolimit.keeps stay
  refine codeAny_call_function hr.r.depth (KX _ _ lk) rfl S.co S.gen rfl (PySem.W.codeRec_of KX hcd) (hb _ _ _ _ (wpAny_newFunctionEnv_cells S.kind (fun z hz => ?_) fun env he s1 ic => ?_))
  · rcases S.par z.1 (List.of_mem_zip hz).1 with q | q
    · exact Or.inl q
    · exact Or.inr ⟨q, PySem.W.cellsFrom_some _ _ _ (Or.inl q)⟩
  · subst he
    refine ⟨lim.keeps ic.toInCall.keep, codeAny_func ?_⟩
    obtain ⟨t, ht, hq⟩ := hbody cdv A ou s H vs Q E ⟨hr.r.deeper _, hr.g⟩ hsp
    refine wpAny_mono (ht.run [] s1 (L2.start N vs) H _ (inv_start S hr.r.hd e0 (hn _ _ _ _ hsp) rv ic) hq) (fun fl s2 hs => ?_) fun _ _ z => z
    cases fl with
    | brk => obtain ⟨_, _, _, z⟩ := hs; exact z.elim
    | cont => obtain ⟨_, _, _, z⟩ := hs; exact z.elim
    | next => obtain ⟨σ2, H2, J, z⟩ := hs; exact ⟨.non, H2, J.os, J.bare, J.base, J.hok, rfl, z⟩
    | ret u => obtain ⟨v, σ2, H2, J, ru, z⟩ := hs; exact ⟨v, H2, J.os, J.bare, J.base, J.hok, ru, z⟩
end
/-- g(e, ..) of a def -/
theorem pe_callG {X : Cx} {C : CXT} {k : Nat} {f : Addr} {fd : FuncData} {ps : List Str} {sp : Sp} {x : Str} {p pos : Pos} {e : Expr} {es : List Expr} {ta : TA} {E : L2.St → XK} (F : GOk X.prog X.w X.K X.mg X.base C k f fd ps sp) (hr : Rg k X.A) (hg : Gl X x) (hm : X.mg x = some (.ref f)) (hk : PySem.W.keepIn X.K (.ref f) = true) (hb : Binds X.K fd ps []) (hx : ∀ σ, PassesAt C X σ (E σ))
    (hargs : PA X (e :: es) ta) (hdb : (x == ("__debug__" : Str)) = false := by decide) (he : starEach (e :: es) X.env = (false, eval e X.env) :: starEach es X.env := by rfl) (hpl : (backTo pos (starEach es X.env)).any (·.1) = false := by rfl) :
    PE X (.Call (.Name x p) (e :: es) [] pos) (tCallS sp E ta) := by
  refine ⟨fun pins s σ H Q I h => wpAny_Call_Name_kw (ld_glob I hg hm (PySem.W.callWith_K (h₀ := X.base) I.ok.mod.kin hk (thn (hargs.run pos pins s σ H _ I h) fun us s1 z => ?_) he hpl) hdb)⟩
  obtain ⟨vs, H1, I1, rv, q⟩ := z
  have hl : us.length = ps.length := rv.length.symm.trans (F.n _ _ _ _ q)
  have b := hb s1 us I1.kIn (by rw [List.append_nil]; exact hl)
  rw [List.append_nil] at b
  refine ⟨I1.kIn, wpAny_call (codeAny_mono (F.go X.A X.stack s1 H1 ⟨us, []⟩ us vs Q (E σ) hr I1.env0 b rv q) fun res s2 hq => ?_)⟩
  rcases res with er | fl
  · exact hx σ pins H1 s1 er s2 I1 hq
  · cases fl <;> first | exact I1.after hq | exact False.elim hq
/-- the head: the law's promise at the heap behind the top -/
theorem headG {P : Program} {w : World} {K : PySem.W.Frag} {mg mb : Str → Option Value} {k : Nat} {fa sa : Addr} {fd : FuncData} {x : Str} {sp : Sp} {st : Shared} {us : List Value} {ns : List Int} (KX : K.In st.heap) (nsG : st.heap.Ns mainGlobals mg) (nsB : st.heap.Ns builtinsNs mb) (bbt : ∀ y : Str, y ≠ "__name__" → mb y = bootBuiltins y) (lim : st.heap.NoLimit) (ng : st.gens = #[])
    (hs : st.heap.get? sa = some { cls := .type "list", data := .seq us.toArray }) (ii : IntsAre us ns) (hl : ns.length ≤ sizeLine) (hr : Room k callerA) (F : ∀ b : Heap, K.In b → b.Ns mainGlobals mg → GOk P w K mg b CX0 k fa fd [x] sp) (bi : ∀ (s : Shared) (u : Value), BindsTo s fd ⟨[u], []⟩ [(x, u)])
    (hsp : ∀ H : Hp, SqL K H sa (ns.map V.int) → sp [.ref sa] H (fun v _ => v = .bl true) fun _ _ _ => False) : codeAny (model P w) callerA (.call (.ref fa) ⟨[.ref sa], []⟩) (fun r s' => r = .ok (.ret (.bool true)) ∧ OldK st.heap s'.heap ∧ s'.os = st.os ∧ AllBare s'.gens) st := by
  have main : ∀ H : Hp, Only H → SqL K H sa (ns.map V.int) → HOk P w H st.heap → (∀ b, H b ≠ none → b = sa ∧ K.lookup sa = none) → codeAny (model P w) callerA (.call (.ref fa) ⟨[.ref sa], []⟩) (fun r s' => r = .ok (.ret (.bool true)) ∧ OldK st.heap s'.heap ∧ s'.os = st.os ∧ AllBare s'.gens) st := by
    intro H oH sH kH only
    have offD : ∀ {b : Addr} {o : Obj} {es : Array DictEntry} {ep : Nat}, st.heap.get? b = some o → o.data = .dict es ep → H b = none := by
      intro b o es ep e d
      by_cases z : H b = none
      · exact z
      · have zz := (only b z).1
        rw [zz, hs] at e
        cases e
        cases d
    have back : ∀ {b : Addr} {m : Str → Option Value}, st.heap.Ns b m → (hidT st.heap H).Ns b m := by
      rintro b m ⟨o, es, ep, e, d, rest⟩
      exact ⟨o, es, ep, hidT_get e (offD e d), d, rest⟩
    have kin : K.In (hidT st.heap H) := by
      intro b o e
      refine hidT_get (KX b o e) ?_
      by_cases z : H b = none
      · exact z
      · obtain ⟨z1, z2⟩ := only b z
        rw [z1, z2] at e
        cases e
    obtain ⟨ml, nl, ql⟩ := lim
    have md : Mod K mg (hidT st.heap H) := ⟨kin, back nsG, ⟨mb, back nsB, bbt⟩, ml, back nl, ql⟩
    have en : Env0 P w K mg (hidT st.heap H) callerA [] st H := ⟨rfl, md, fun b o e => of_hidT e, Nat.le_of_eq (hidT_size _ _), trivial, fun b hb => (by cases hb), kH, .of_eq ng⟩
    refine codeAny_mono ((F _ kin (back nsG)).go callerA [] st H ⟨[.ref sa], []⟩ [.ref sa] [.ref sa] _ _ ⟨hr, rfl⟩ en (bi st (.ref sa)) (.cons rfl .nil) (hsp H sH)) fun r s' h => ?_
    rcases r with er | fl
    · exact False.elim h
    · cases fl with
      | ret u =>
        obtain ⟨v, H2, os, bare, un, k2, ru, q⟩ := h
        have qv : v = .bl true := q
        subst qv
        have eu : u = Value.bool true := ru
        subst eu
        refine ⟨rfl, OldK.of_keep fun b o e => ?_, os, bare⟩
        by_cases z : H b = none
        · exact un.keep b o e z (fun y => by cases y) (fun y => by cases y)
        · rcases oH b with y | ⟨ob, xs, y⟩
          · exact absurd y z
          · have e1 := (kH b _ y).1
            have e2 := (k2 b _ (un.frzs b ob _ y)).1
            rw [e] at e1
            cases e1
            exact e2
      | _ => exact False.elim h
  have rv := vals_ints ii
  cases hk : K.lookup sa with
  | some o =>
    have e := KX sa o hk
    rw [hs] at e
    cases e
    exact main (fun _ => none) (fun _ => Or.inl rfl) (.inr ⟨_, us.toArray, _, hk, rfl, rfl, rfl, by rw [List.size_toArray, ii.length]; exact hl, by simpa using rv⟩) (fun b u z => by cases z) fun b z => absurd rfl z
  | none =>
    let Hs : Hp := fun b => if b = sa then some (.frz { cls := .type "list", data := .seq us.toArray } (.lst (ns.map V.int))) else none
    have at_ : Hs sa = some (.frz { cls := .type "list", data := .seq us.toArray } (.lst (ns.map V.int))) := if_pos rfl
    have off : ∀ b, b ≠ sa → Hs b = none := fun b z => if_neg z
    refine main Hs (fun b => ?_) (.inl (.inr ⟨_, at_⟩)) (fun b u z => ?_) fun b z => ?_
    · by_cases y : b = sa
      · subst y; exact Or.inr ⟨_, _, at_⟩
      · exact Or.inl (off b y)
    · by_cases y : b = sa
      · subst y
        rw [at_] at z
        cases z
        exact ⟨hs, by rw [List.length_map]; exact hl, us, _, rv, hs⟩
      · rw [off b y] at z; cases z
    · by_cases y : b = sa
      · exact ⟨y, hk⟩
      · exact absurd (off b y) z
theorem walkG {l : PySem.W.OpenLaw} {n k : Nat} {q : Program} {loose : List Str} {XP : (Str → Option Value) → Heap → Prop} {YP : World → Heap → Prop} {d : DefRec} {K : Params → PySem.W.Frag} {sp : World → Sp} {x : Str} (mo : l.most = some n) (hz : n ≤ sizeLine) (df : d.params.defaults = []) (hr : Room k callerA) (hY : ∀ (w : World) (h : Heap), YP w h → (K w.params).In h)
    (F : ∀ (w : World) (mg : Str → Option Value) (fa : Addr) (h : Heap), (K w.params).In h → h.Ns mainGlobals mg → mg d.name = some (.ref fa) → ∃ fd : FuncData, (∀ (s : Shared) (u : Value), BindsTo s fd ⟨[u], []⟩ [(x, u)]) ∧ ∀ b : Heap, (K w.params).In b → b.Ns mainGlobals mg → GOk l.prog w (K w.params) mg b CX0 k fa fd [x] (sp w))
    (hsp : ∀ (w : World) (H : Hp) (a : Addr) (ns : List Int), ns.length ≤ n → SqL (K w.params) H a (ns.map V.int) → sp w [.ref a] H (fun v _ => v = .bl true) fun _ _ _ => False) : PySem.W.WalkO q loose XP YP l.row.toRowW d [] (fun f vs => PySem.call f vs) := by
  refine Att.attach_call mo df fun w s0 s1 mg mb fa o pm cd doc a vs ns G Y ho hd hcd hmg hobj hints hlen hgen => ?_
  have KX := hY w _ Y
  obtain ⟨fd, b, hF⟩ := F w mg fa _ KX G.T.g hmg
  exact headG KX G.T.g G.T.b G.T.builtins G.T.nolimit hgen hobj hints (Nat.le_trans hlen hz) hr hF b fun H hS => hsp w H a ns hlen hS
end Bw
set_option maxHeartbeats 4000000
/-! t[::-1] of a tuple; x in a tuple; repr of data -/
namespace Bw
open PySem PySem.Spec PyProof.Rows L2 HT
section
variable {prog : Program} {w : World} {A : Around} {E : Value → Shared → Prop} {s : Shared}
theorem adj_rev (n : Nat) : Builtin.Slice.sliceAdjust none none (-1) (n : Int) = ((n : Int) - 1, -1) := by
  unfold Builtin.Slice.sliceAdjust
  simp
theorem places_rev (n : Nat) : Builtin.Slice.slicePlaces ((n : Int) - 1) (-1) (-1) = n := by
  unfold Builtin.Slice.slicePlaces
  simp
  omega
theorem applied_rev {sl : Addr} {vk : Value} {n : Nat} {Q : Int × Int × Nat → Shared → Prop} (hs : s.heap.IsSliceOf sl .none .none vk) (pk : IsPart vk (some (-1))) (h : Q ((n : Int) - 1, -1, n) s) : wpAny (model prog w) A (Builtin.Slice.sliceApplied (.ref sl) (pure (n : Int))) Q E s := by
  obtain ⟨os, hos, hcs, hds⟩ := id hs
  unfold Builtin.Slice.sliceApplied Builtin.Slice.sliceFields
  refine wpAny_bind (wpAny_bind (wpAny_field hos hds (x := .none) rfl (wpAny_bind (wpAny_field hos hds (x := .none) rfl (wpAny_bind (wpAny_field hos hds (x := vk) rfl (wpAny_pure ?z)))))))
  case z =>
    refine wpAny_bind (slicePart_ pk ?_)
    show wpAny _ _ (if ((-1 : Int) == 0) = true then _ else _) _ _ s
    rw [if_neg (by decide)]
    refine wpAny_bind (slicePart_ .none (wpAny_bind (slicePart_ .none (wpAny_bind (wpAny_pure ?_)))))
    show wpAny _ _ (match Builtin.Slice.sliceAdjust none none (-1) (n : Int) with | (lo, hi) => pure (lo, (-1 : Int), Builtin.Slice.slicePlaces lo hi (-1))) _ _ s
    rw [adj_rev]
    show wpAny _ _ (pure ((n : Int) - 1, (-1 : Int), Builtin.Slice.slicePlaces ((n : Int) - 1) (-1) (-1))) _ _ s
    rw [places_rev]
    exact wpAny_pure h
theorem pick_rev (xs : Array Value) : ((List.range xs.size).filterMap fun (m : Nat) => xs[(((xs.size : Int) - 1) + (m : Int) * -1).toNat]?).toArray = xs.toList.reverse.toArray := by
  congr 1
  have e : ∀ k : Nat, k ≤ xs.size → ((List.range k).filterMap fun (m : Nat) => xs[(((xs.size : Int) - 1) + (m : Int) * -1).toNat]?) = xs.toList.reverse.take k := by
    intro k
    induction k with
    | zero => intro _; simp
    | succ k ih =>
      intro hk
      rw [List.range_succ, List.filterMap_append, ih (by omega), List.take_succ]
      congr 1
      have e1 : (((xs.size : Int) - 1) + (k : Int) * -1).toNat = xs.size - 1 - k := by omega
      have e2 : xs.size - 1 - k < xs.size := by omega
      rw [List.getElem?_reverse (by rw [Array.length_toList]; omega)]
      simp only [List.filterMap_cons, List.filterMap_nil, e1, Array.getElem?_toList, Array.length_toList]
      rw [Array.getElem?_eq_getElem e2]
      rfl
  rw [e _ (Nat.le_refl _), List.take_of_length_le (by simp)]
theorem getItem_tuple_rev {t sl : Addr} {items : Array Value} {vk : Value} {Q : Value → Shared → Prop} (ht : IsTup s.heap t items) (hs : s.heap.IsSliceOf sl .none .none vk) (pk : IsPart vk (some (-1)))
    (h : Q (.ref s.heap.objs.size) { s with heap := s.heap.push { cls := .type "tuple", data := .seq items.toList.reverse.toArray } }) (hz : items.size ≤ sizeLine) : wpAny (model prog w) A (getItem (.ref t) (.ref sl)) Q E s := by
  have ok : sizeOk (.seq items.toList.reverse.toArray) := by
    show items.toList.reverse.toArray.size ≤ sizeLine
    simpa using hz
  obtain ⟨os, hos, hcs, hds⟩ := id hs
  have ty : s.TypeIs (.ref sl) "slice" := ⟨os, hos, hcs⟩
  unfold getItem
  try with_reducible refine wpAny_holding ?_
  first | refine wpAny_bind (wpAny_pure ?_) | skip
  refine wpAny_bind (wpAny_sequenceKey ht.typeIs (by decide) (wpAny_bind (wpAny_callSpecial?_slot (name := Str.ofString "__getitem__") ht.typeIs PyProof.Rows.slot_tuple_getitem (wpAny_call_entry PyProof.Rows.slot_tuple_getitem ht.typeIs entry_tuple_getitem ?z (args_tuple_getitem _ _)))))
  case z =>
    show wpAny _ _ (Builtin.Tuple.tupleItemsOf (.ref t) >>= _) _ _ s
    refine wpAny_bind (tupleItemsOf_ ht (wpAny_bind (wpAny_typeOf ty ?_)))
    rw [if_pos (by decide)]
    refine wpAny_bind (applied_rev hs pk ?_)
    have no : ¬ ((((items.size : Int) - 1) == 0 && (-1 : Int) == 1 && items.size == items.size) = true) := by simp
    show wpAny _ _ (if (((items.size : Int) - 1) == 0 && (-1 : Int) == 1 && items.size == items.size) = true then _ else _) _ _ s
    rw [if_neg no, pick_rev]
    first
      | exact wpAny_bind (m := Builtin.Tuple.tupleExact _) (wpAny_newObj_type (wpAny_pure ⟨_, rfl, wpAny_pure h⟩) ok)
      | exact wpAny_bind (m := Builtin.Tuple.tupleExact _) (wpAny_newObj_type (wpAny_bind (wpAny_pure (wpAny_pure ⟨_, rfl, wpAny_pure h⟩))) ok)
      | exact wpAny_bind (wpAny_bind (m := Builtin.Tuple.tupleExact _) (wpAny_newObj_type (wpAny_pure (wpAny_pure ⟨_, rfl, wpAny_pure h⟩)) ok))
      | exact wpAny_bind (wpAny_bind (m := Builtin.Tuple.tupleExact _) (wpAny_newObj_type (wpAny_pure ⟨_, rfl, wpAny_pure h⟩) ok))
end
section
variable {X : Cx}
/-- x[::-1] of a list or a tuple -/
def tRv (K : PySem.W.Frag) (te : TE) : TE := fun σ H Q => te σ H fun x H1 => ∃ a xs, x = .ref a ∧ ((SqL K H1 a xs ∧ ∀ p, H1 p = none → Q (.ref p) (upd H1 p (.lst xs.reverse))) ∨ (SqT K H1 a xs ∧ ∀ p, H1 p = none → Q (.ref p) (upd H1 p (.tup xs.reverse))))
theorem pe_rv {e : Expr} {te : TE} {k : Nat} {p1 p2 p3 pos : Pos} (he : PE X e te) : PE X (.Subscript e (.Slice none none (some (.UnaryOp .USub (.Constant (.int 1) k p1) p2)) p3) pos) (tRv X.K te) := by
  refine ⟨fun pins s σ H Q I h => Subscript_ (thn (he.run pins s σ H _ I h) fun v s1 z1 => ?_)⟩
  obtain ⟨x, H1, I1, r1, a, xs, ex, q⟩ := z1
  subst ex
  cases r1
  have step : PO X (some (.UnaryOp .USub (.Constant (.int 1) k p1) p2)) (tPart (tUn (rU fun i => .int (-i)) (tC (.int 1)))) := po_some (pe_un un_neg pe_int)
  refine wpAny_Slice (thn (po_none.run pins s1 σ H1 (fun o H2 => o = none ∧ H2 = H1) I1 ⟨rfl, rfl⟩) fun vl s2 z2 => ?_)
  obtain ⟨l, H2, I2, pl, el, e2⟩ := z2
  subst el e2
  refine thn (po_none.run pins s2 σ H2 (fun o H3 => o = none ∧ H3 = H2) I2 ⟨rfl, rfl⟩) fun vu s3 z3 => ?_
  obtain ⟨u, H3, I3, pu, eu, e3⟩ := z3
  subst eu e3
  refine thn (step.run pins s3 σ H3 (fun o H4 => o = some (-1) ∧ H4 = H3) I3 ⟨1, rfl, -1, rfl, rfl, rfl⟩) fun vk s4 z4 => ?_
  obtain ⟨o, H4, I4, pk, eo, e4⟩ := z4
  subst eo e4
  have I5 : Inv X pins σ H4 { s4 with heap := s4.heap.push { cls := .type "slice", data := .fields #[vl, vu, vk] } } := I4.kept (t' := s4.toks) fun b ob q => Heap.get?_push_of_some _ q
  show wpAny (model X.prog X.w) X.A (subscriptTail e (.Slice none none (some (.UnaryOp .USub (.Constant (.int 1) k p1) p2)) p3) (.ref a) (.ref s4.heap.objs.size)) (EP X pins σ Q) X.xe _
  rcases q with ⟨hx, q⟩ | ⟨hx, q⟩
  · obtain ⟨its, r, ht, hz⟩ := I5.list hx
    have hn := r.length
    refine tail_any (ops := [.ref a, .ref s4.heap.objs.size]) ht.isList.typeIs (PySem.slot_list_getitem.lookup) (wpAny_getItem_list_slice ht.isList (Heap.IsSliceOf.new _ vl vu vk) pl pu pk (by decide) ?_ (by rw [List.size_toArray]; omega)) (by with_unfolding_all rfl)
    rw [PySem.W.krv_pick]
    exact ⟨.ref _, _, I5.laid (t' := s4.toks) (o := .lst xs.reverse) (fun b ob q => Heap.get?_push_of_some _ q) (Nat.le_refl _) ⟨by rw [List.length_reverse]; exact hz, _, 0, r.reverse, Heap.get?_push_size _ rfl⟩, rfl, q _ (I5.hok.fresh (Nat.le_refl _))⟩
  · obtain ⟨its, r, ht, hz⟩ := I5.tuple hx
    have hn := r.length
    cases pl
    cases pu
    refine tail_any (ops := [.ref a, .ref s4.heap.objs.size]) ht.typeIs (PyProof.Rows.slot_tuple_getitem.lookup) (getItem_tuple_rev ht (Heap.IsSliceOf.new _ .none .none vk) pk ?_ (by rw [List.size_toArray]; omega)) (by with_unfolding_all rfl)
    exact ⟨.ref _, _, I5.laid (t' := s4.toks) (o := .tup xs.reverse) (fun b ob q => Heap.get?_push_of_some _ q) (Nat.le_refl _) ⟨by rw [List.length_reverse]; exact hz, _, r.reverse, IsTup.new _ _⟩, rfl, q _ (I5.hok.fresh (Nat.le_refl _))⟩
/-- x in t, x not in t -/
def rInT (K : PySem.W.Frag) (neg : Bool) : R2 := fun x y H Q => ∃ d ds, Dp K H x d ∧ Dp K H y (.tuple ds) ∧ SeqAt.shaped d = true ∧ SeqAt.shaped (.tuple ds) = true ∧ Q (.bl (if neg then !ds.any fun z => PyData.eqv z d else ds.any fun z => PyData.eqv z d)) H
theorem op_inT (hu : X.A.units + 65 < cLine) : OpR X (compareOp .In) (rInT X.K false) := by
  intro pins s σ H x y v u Q I rx ry h
  obtain ⟨d, ds, hd, he, sd, se, q⟩ := h
  obtain ⟨_, r1⟩ := Dp.reads I d x v hd rx
  obtain ⟨_, r2⟩ := Dp.reads I (.tuple ds) y u he ry
  exact SeqAt.in_tuple_reads r2 r1 (SeqAt.canLay_of_shaped se) (SeqAt.canLay_of_shaped sd) (room_in_shaped sd hu) ⟨.bl _, H, I, rfl, q⟩
theorem op_notInT (hu : X.A.units + 65 < cLine) : OpR X (compareOp .NotIn) (rInT X.K true) := by
  intro pins s σ H x y v u Q I rx ry h
  obtain ⟨d, ds, hd, he, sd, se, q⟩ := h
  obtain ⟨_, r1⟩ := Dp.reads I d x v hd rx
  obtain ⟨_, r2⟩ := Dp.reads I (.tuple ds) y u he ry
  exact SeqAt.notIn_tuple_reads r2 r1 (SeqAt.canLay_of_shaped se) (SeqAt.canLay_of_shaped sd) (room_in_shaped sd hu) ⟨.bl _, H, I, rfl, q⟩
/-- repr of data -/
def rRepr (K : PySem.W.Frag) : List V → Hp → VK → Prop := fun xs H Q => ∃ x d, xs = [x] ∧ Dp K H x d ∧ d.showable = true ∧ d.hasDict = false ∧ d.depth ≤ 100 ∧ d.shown.length ≤ sizeLine ∧ Q (.str d.shown) H
theorem call_reprD (hg : X.A.guards = some []) (hu : X.A.units + 200 < cLine) : CallR X (.builtin "repr") (rRepr X.K) := by
  intro pins s σ H xs us Q I r h
  obtain ⟨x, d, rfl, hd, hs, hn, hp, hz, q⟩ := h
  obtain ⟨u, rfl, ru⟩ := L2.vals1 r
  obtain ⟨as, rd⟩ := Dp.reads I d x u hd ru
  cases rd with
  | none => exact PySem.P.repr_of_none ⟨.str _, H, I.tok _, ⟨_, rfl⟩, q⟩
  | bool b => exact PySem.P.repr_of_bool ⟨.str _, H, I.tok _, ⟨_, by cases b <;> rfl⟩, q⟩
  | int i t => exact PySem.P.repr_of_int (by simpa [PyData.showable] using hs) ⟨.str _, H, I.tok _, ⟨_, rfl⟩, q⟩
  | str z t => exact PySem.P.repr_of_str ⟨.str _, H, I.tok _, ⟨_, rfl⟩, q⟩ hz
  | list a b c e => exact repr_of_reads' (Reads.list a b c e) hs (PyData.noDict_hsm hn) hg (by omega) (fun _ _ z => z) (fun h' v tk k => ⟨.str _, H, I.kept (t' := tk) k, ⟨_, rfl⟩, q⟩) hz
  | tuple a b c e => exact repr_of_reads' (Reads.tuple a b c e) hs (PyData.noDict_hsm hn) hg (by omega) (fun _ _ z => z) (fun h' v tk k => ⟨.str _, H, I.kept (t' := tk) k, ⟨_, rfl⟩, q⟩) hz
  | dict _ _ _ _ _ => cases hn
end
end Bw
namespace Bw
open PySem PySem.Spec PyProof.Rows L2 RZ
section
variable {X : Cx} {W : WN} {pos : Pos} {K : PySem.W.Frag}
/-! ### calls of defs, no repr under way -/
theorem de_callG {C : CXT} {WC : WX} {k n : Nat} {f : Addr} {fd : FuncData} {ps : List Str} {F : Fd} {x : Str} {p : Pos} {e : Expr} {es : List Expr} {h : Ev (List D)} (hw : WOk X.mg WC W) (FO : GOk X.prog X.w X.K X.mg X.base C k f fd ps (spF X.K X.mg n F)) (hr : Rg k X.A) (hm : X.mg x = some (.ref f)) (hk : PySem.W.keepIn X.K (.ref f) = true) (hb : Binds X.K fd ps []) (hx : ∀ σ, PassesAt C X σ (WE WC σ))
    (hargs : DA X W (e :: es) h) (hg : Gl X x := by rfl) (hdb : (x == ("__debug__" : Str)) = false := by decide) (he : starEach (e :: es) X.env = (false, eval e X.env) :: starEach es X.env := by rfl) (hpl : (backTo pos (starEach es X.env)).any (·.1) = false := by rfl) :
    DE X W (.Call (.Name x p) (e :: es) [] pos) (bnd h (oCall n F)) := by
  obtain ⟨t, q, s⟩ := hargs
  refine ⟨_, pe_callG FO hr hg hm hk hb hx q hdb he hpl, fun θ G => ?_⟩
  refine (s θ G).bind (R2 := RV X.K) (k := fun (vs : List V) (σ : L2.St) (H1 : Hp) (Q : V → Hp → Prop) => spF X.K X.mg n F vs H1 Q (WE WC σ)) fun θ1 G1 vs ds _ _ hv => ?_
  intro ρ M r M' θ2 G2 σ H Q p2 s2 e rs rv kk
  unfold oCall at e
  split at e
  · rename_i hl
    exact ⟨θ2, G2, ds, M, r, M', rs, hv.mono p2 s2, hl, e, fun θ' G' H' a b c => ⟨fun x C h1 h2 => hw _ _ _ ((kk θ' G' H' a b c).1 x h1) C h2, (kk θ' G' H' a b c).2⟩⟩
  · cases e
/-! ### repr of data -/
def oReprD (ds : List D) : Ev D := match ds with
  | [d] => if d.pl = true ∧ (toPy d).showable = true ∧ (toPy d).hasDict = false ∧ (toPy d).depth ≤ 100 ∧ (toPy d).shown.length ≤ 16777216 then ret (.str (toPy d).shown) else stk
  | _ => stk
theorem snd_reprD : SndC K W (rRepr K) oReprD := by
  intro θ0 G0 xs ds hx
  unfold oReprD
  split
  · rename_i d
    split
    · rename_i c
      obtain ⟨v, rfl, hv⟩ := vals1 hx
      intro ρ M r M' θ G σ H Q p s e rs rv kk
      exact ⟨v, toPy d, rfl, (((hv.rp (pl_np c.1)).mono s).mono rs.sub).dp c.1, c.2.1, c.2.2.1, c.2.2.2.1, by rw [sizeLine_eq]; exact c.2.2.2.2, Snd.ret (K := K) (W := W) (R := RV K) (θ0 := θ0) (G0 := G0) (fun _ _ _ _ => .dat (.str _)) ρ M r M' θ G σ H Q p s e rs rv kk⟩
    · exact Snd.stk
  · exact Snd.stk
variable {p p2 : Pos} {e : Expr} {es : List Expr} {h : Ev (List D)} {f g : Ev D} {a b c : Expr}
theorem de_reprD (hr : ∃ k, Rg k X.A) (hm : X.mg "repr" = none) (ha : DA X W (e :: es) h) (hg : Gl X "repr" := by rfl) (he : starEach (e :: es) X.env = (false, eval e X.env) :: starEach es X.env := by rfl) (hpl : (backTo pos (starEach es X.env)).any (·.1) = false := by rfl) : DE X W (.Call (.Name "repr" p) (e :: es) [] pos) (bnd h oReprD) := by
  obtain ⟨k, hr⟩ := hr
  exact de_callB (call_reprD hr.g hr.un200) snd_reprD hm (by decide +kernel) ha hg (by decide) (by decide) he hpl
/-! ### tuple(..), list(..) -/
theorem seqL_of {θ : List Addr} {G H : Hp} {M : Mem} {v : V} {d : D} {ds : List D} (rs : Rs K θ G H M) (hv : Rv K θ G v d) (h : seqOf d M = some ds) : (∃ a xs, v = .ref a ∧ SqL K H a xs ∧ RpL K G xs ds) ∨ ∃ a xs, v = .ref a ∧ SqT K H a xs ∧ RpL K G xs ds ∧ Rp K G v (.tup ds) := by
  cases hv with
  | dat q =>
    cases q with
    | tup h1 l g => cases h; exact .inr ⟨_, _, rfl, seqT rs.sub h1, ⟨l, g⟩, .tup h1 l g⟩
    | lst h1 l g => cases h; exact .inl ⟨_, _, rfl, .inl (.inl (rs.sub _ _ h1)), l, g⟩
    | scr h1 l g => cases h; exact .inl ⟨_, _, rfl, rs.sub.seq h1, l, g⟩
    | _ => cases h
  | ptr hn =>
    rename_i n a
    unfold seqOf at h
    dsimp only at h
    split at h
    · rename_i es hm
      cases h
      obtain ⟨g, xs, hx, rl⟩ := rs.mem n _ _ hn hm
      exact .inl ⟨_, xs, rfl, .inl (.inl hx), rl⟩
    · cases h
  | exv _ _ => cases h
def oSq (k : List D → D) (ds : List D) : Ev D := fun ρ M => match ds with
  | [d] => match seqOf d M with
    | some es => some (.ok (k es), M)
    | none => none
  | _ => none
def oTupOf : List D → Ev D := oSq .tup
def oLstOf : List D → Ev D := oSq .lst
theorem snd_tupOf : SndC K W (fun xs H Q => ∃ p ys, xs = [.ref p] ∧ ((SqL K H p ys ∧ ∀ l, H l = none → Q (.ref l) (upd H l (.tup ys))) ∨ (SqT K H p ys ∧ Q (.ref p) H))) oTupOf := by
  intro θ0 G0 xs ds hx ρ M r M' θ G σ H Q p s e rs rv kk
  unfold oTupOf oSq at e
  split at e
  · rename_i d
    split at e
    · rename_i es he
      cases e
      obtain ⟨v, rfl, hv⟩ := vals1 hx
      rcases seqL_of rs (hv.mono p s) he with ⟨a, xs, rfl, q, rl⟩ | ⟨a, xs, rfl, q, rl, rp⟩
      · refine ⟨a, xs, rfl, .inl ⟨q, fun l hl => ?_⟩⟩
        have g := rs.fresh hl
        exact (kk θ (upd G l (.tup xs)) _ (List.prefix_refl _) (same_upd g) (rs.laid hl _)).2 _ _ rfl (.dat (rp_tup upd_same (rl.mono (same_upd g))))
      · exact ⟨a, xs, rfl, .inr ⟨q, (kk θ G H (List.prefix_refl _) (Same.refl _) rs).2 _ _ rfl (.dat rp)⟩⟩
    · cases e
  · cases e
theorem snd_lstOf : SndC K W (fun xs H Q => ∃ p ys, xs = [.ref p] ∧ (SqL K H p ys ∨ SqT K H p ys) ∧ ∀ l, H l = none → Q (.ref l) (upd H l (.lst ys))) oLstOf := by
  intro θ0 G0 xs ds hx ρ M r M' θ G σ H Q p s e rs rv kk
  unfold oLstOf oSq at e
  split at e
  · rename_i d
    split at e
    · rename_i es he
      cases e
      obtain ⟨v, rfl, hv⟩ := vals1 hx
      obtain ⟨a, xs, rfl, q, rl⟩ := seq_of rs (hv.mono p s) he
      refine ⟨a, xs, rfl, q, fun l hl => ?_⟩
      have g := rs.fresh hl
      exact (kk θ (upd G l (.lst xs)) _ (List.prefix_refl _) (same_upd g) (rs.laid hl _)).2 _ _ rfl (.dat (rp_lst upd_same (rl.mono (same_upd g))))
    · cases e
  · cases e
theorem de_tupOf (hm : X.mg "tuple" = none) (ha : DA X W (e :: es) h) (hg : Gl X "tuple" := by rfl) (he : starEach (e :: es) X.env = (false, eval e X.env) :: starEach es X.env := by rfl) (hpl : (backTo pos (starEach es X.env)).any (·.1) = false := by rfl) : DE X W (.Call (.Name "tuple" p) (e :: es) [] pos) (bnd h oTupOf) :=
  de_callTy call_tuple_of snd_tupOf hm (by decide +kernel) ha hg (by decide) (by decide) he hpl
theorem de_lstOf (hm : X.mg "list" = none) (ha : DA X W (e :: es) h) (hg : Gl X "list" := by rfl) (he : starEach (e :: es) X.env = (false, eval e X.env) :: starEach es X.env := by rfl) (hpl : (backTo pos (starEach es X.env)).any (·.1) = false := by rfl) : DE X W (.Call (.Name "list" p) (e :: es) [] pos) (bnd h oLstOf) :=
  de_callTy call_list_of snd_lstOf hm (by decide +kernel) ha hg (by decide) (by decide) he hpl
/-! ### any, all -/
def oBs (k : List Bool → Bool) (ds : List D) : Ev D := match ds with
  | [.lst es] => match blsOf es with
    | some bs => ret (.bl (k bs))
    | none => stk
  | _ => stk
def oAny : List D → Ev D := oBs fun bs => bs.any id
def oAll : List D → Ev D := oBs fun bs => bs.all id
theorem snd_bs {k : List Bool → Bool} : SndC K W (fun vs H Q => ∃ (a : Addr) (bs : List Bool), vs = [V.ref a] ∧ SqL K H a (bs.map V.bl) ∧ Q (.bl (k bs)) H) (oBs k) := by
  intro θ0 G0 xs ds hx
  unfold oBs
  split
  · rename_i es
    split
    · rename_i bs hb
      obtain ⟨v, rfl, hv⟩ := vals1 hx
      cases hv with
      | dat q =>
        cases q with
        | lst h1 l g1 =>
          rename_i a ys
          have ey := rpl_bls hb ⟨l, g1⟩
          subst ey
          intro ρ M r M' θ G σ H Q p s e rs rv kk
          exact ⟨a, bs, rfl, .inl (.inl (rs.sub _ _ (s _ _ h1))), Snd.ret (K := K) (W := W) (R := RV K) (θ0 := θ0) (G0 := G0) (fun _ _ _ _ => rv_bl) ρ M r M' θ G σ H Q p s e rs rv kk⟩
    · exact Snd.stk
  · exact Snd.stk
theorem de_any (hc : X.calm = true) (hm : X.mg "any" = none) (ha : DA X W (e :: es) h) (hg : Gl X "any" := by rfl) (he : starEach (e :: es) X.env = (false, eval e X.env) :: starEach es X.env := by rfl) (hpl : (backTo pos (starEach es X.env)).any (·.1) = false := by rfl) : DE X W (.Call (.Name "any" p) (e :: es) [] pos) (bnd h oAny) :=
  de_callB (cr_any hc) snd_bs hm (by decide +kernel) ha hg (by decide) (by decide) he hpl
theorem de_all (hc : X.calm = true) (hm : X.mg "all" = none) (ha : DA X W (e :: es) h) (hg : Gl X "all" := by rfl) (he : starEach (e :: es) X.env = (false, eval e X.env) :: starEach es X.env := by rfl) (hpl : (backTo pos (starEach es X.env)).any (·.1) = false := by rfl) : DE X W (.Call (.Name "all" p) (e :: es) [] pos) (bnd h oAll) :=
  de_callB (cr_all hc) snd_bs hm (by decide +kernel) ha hg (by decide) (by decide) he hpl
/-! ### constants of the module -/
theorem de_const {x : Str} {ca : Addr} {d : D} (hm : X.mg x = some (.ref ca)) (hd : ∀ G, Rp X.K G (.ref ca) d) (hg : Gl X x := by rfl) (hdb : (x == ("__debug__" : Str)) = false := by decide) : DE X W (.Name x pos) (ret d) := ⟨_, pe_glob (v := .ref ca) hg hm rfl (hd := hdb), fun _ _ => snd_c hd⟩
theorem rp_const {ca : Addr} {o : Obj} {its : Array Value} {n : Nat} {xs : List V} {ds : List D} (hl : K.lookup ca = some o) (hc : o.cls = .type "tuple") (hd : o.data = .seq its n) (hz : its.size ≤ 16777216) (hv : Vals xs its.toList) (r : ∀ G, RpL K G xs ds) (hq : ∀ G, SqT K G ca xs) (G : Hp) : Rp K G (.ref ca) (.tup ds) := .tup (hq G) (r G).len (r G).get
/-! ### is None -/
def D.isN : D → Bool
  | .non => true
  | _ => false
theorem Rv.isN {θ : List Addr} {G : Hp} {v : V} {d : D} (h : Rv K θ G v d) : decide (v = .non) = d.isN := by
  cases h with
  | dat h => cases h <;> first | rfl | exact decide_eq_false (fun z => by cases z)
  | ptr h => exact decide_eq_false (fun z => by cases z)
  | exv _ h => exact decide_eq_false (fun z => by cases z)
def oIsN (d e : D) : Ev D := match e with
  | .non => ret (.bl d.isN)
  | _ => stk
def oNotN (d e : D) : Ev D := match e with
  | .non => ret (.bl (!d.isN))
  | _ => stk
theorem snd_isN : SndO K W (fun x y H Q => y = .non ∧ Q (.bl (decide (x = .non))) H) oIsN := by
  intro θ G x y d e hx hy
  unfold oIsN
  split
  · cases hy with
    | dat q =>
      cases q
      intro ρ M r M' θ1 G1 σ H Q p s e rs rv kk
      refine ⟨rfl, ?_⟩
      rw [hx.isN]
      exact Snd.ret (K := K) (W := W) (R := RV K) (θ0 := θ) (G0 := G) (fun _ _ _ _ => rv_bl) ρ M r M' θ1 G1 σ H Q p s e rs rv kk
  · exact Snd.stk
theorem snd_notN : SndO K W (fun x y H Q => y = .non ∧ Q (.bl (!decide (x = .non))) H) oNotN := by
  intro θ G x y d e hx hy
  unfold oNotN
  split
  · cases hy with
    | dat q =>
      cases q
      intro ρ M r M' θ1 G1 σ H Q p s e rs rv kk
      refine ⟨rfl, ?_⟩
      rw [hx.isN]
      exact Snd.ret (K := K) (W := W) (R := RV K) (θ0 := θ) (G0 := G) (fun _ _ _ _ => rv_bl) ρ M r M' θ1 G1 σ H Q p s e rs rv kk
  · exact Snd.stk
theorem de_isN (ha : DE X W a f) (hb : DE X W b g) : DE X W (.Compare a [.Is] [b] pos) (bnd f fun d => bnd g fun e => oIsN d e) := de_cmp op_isN snd_isN ha hb (nomark _)
theorem dt_isN (ha : DE X W a f) (hb : DE X W b g) : DT X W (.Compare a [.Is] [b] pos) (bnd (bnd f fun d => bnd g fun e => oIsN d e) asB) := dt_cmp op_isN snd_isN ha hb (nomark _)
theorem de_notN (ha : DE X W a f) (hb : DE X W b g) : DE X W (.Compare a [.IsNot] [b] pos) (bnd f fun d => bnd g fun e => oNotN d e) := de_cmp op_notN snd_notN ha hb (nomark _)
theorem dt_notN (ha : DE X W a f) (hb : DE X W b g) : DT X W (.Compare a [.IsNot] [b] pos) (bnd (bnd f fun d => bnd g fun e => oNotN d e) asB) := dt_cmp op_notN snd_notN ha hb (nomark _)
/-! ### truth of a sequence -/
def asTru (d : D) : Ev Bool := fun ρ M => match d with
  | .bl b => some (.ok b, M)
  | d => match seqOf d M with
    | some es => some (.ok (!es.isEmpty), M)
    | none => none
theorem dt_tru (h : DE X W e f) (he : ∀ whole, isTrue e X.env whole = (do let v ← whole; standAt e.pos; holding [v] (truthy v)) := by intro _; rfl) : DT X W e (bnd f asTru) := by
  obtain ⟨t, q, s⟩ := h
  refine ⟨_, pt_truth q he, fun θ G => (s θ G).bind (R2 := RB) (k := fun (x : V) (_ : L2.St) (H : Hp) (Q : Bool → Hp → Prop) => ∃ k, TruV X.K x H k ∧ Q k H) fun θ1 G1 v d _ _ hv => ?_⟩
  intro ρ M r M' θ2 G2 σ H Q p s e rs rv kk
  unfold asTru at e
  split at e
  · rename_i b
    cases e
    rw [hv.bl_of]
    exact ⟨b, rfl, (kk θ2 G2 H (List.prefix_refl _) (Same.refl _) rs).2 _ _ rfl rfl⟩
  · split at e
    · rename_i es he
      cases e
      obtain ⟨a, xs, rfl, q, rl⟩ := seq_of rs (hv.mono p s) he
      have ee : xs.isEmpty = es.isEmpty := by
        have := rl.len
        cases xs <;> cases es <;> simp_all
      refine ⟨!es.isEmpty, ?_, (kk θ2 G2 H (List.prefix_refl _) (Same.refl _) rs).2 _ _ rfl rfl⟩
      rw [← ee]
      rcases q with q | q
      · exact .inl ⟨xs, q, rfl⟩
      · exact .inr (.inl ⟨xs, q, rfl⟩)
    · cases e
/-! ### a < b < c -/
def dChain (f g h : Ev D) (o o' : D → D → Ev D) : Ev D := bnd f fun x => bnd g fun y => bnd (o x y) fun z => bnd (asB z) fun k => if k = true then bnd h fun w => o' y w else ret (.bl false)
theorem snd_chain {r r' : R2} {o o' : D → D → Ev D} {ta tb tc : TE} {f g h : Ev D} (so : SndO K W r o) (so' : SndO K W r' o') (sa : ∀ θ G, Snd K W (RV K) θ G ta f) (sb : ∀ θ G, Snd K W (RV K) θ G tb g) (sc : ∀ θ G, Snd K W (RV K) θ G tc h) (θ : List Addr) (G : Hp) : Snd K W (RV K) θ G (tChain r r' ta tb tc) (dChain f g h o o') := by
  refine (sa θ G).bind (R2 := RV K) (k := fun x σ H1 (Q : V → Hp → Prop) => tb σ H1 fun y H2 => r x y H2 fun z H3 => ∃ k, z = .bl k ∧ (if k = true then tc σ H3 fun w' H4 => r' y w' H4 Q else Q (.bl false) H3)) fun θ1 G1 v d _ _ hv => ?_
  refine (sb θ1 G1).bind (R2 := RV K) (k := fun y σ H2 (Q : V → Hp → Prop) => r v y H2 fun z H3 => ∃ k, z = .bl k ∧ (if k = true then tc σ H3 fun w' H4 => r' y w' H4 Q else Q (.bl false) H3)) fun θ2 G2 u e p2 s2 hu => ?_
  refine (so θ2 G2 v u d e (hv.mono p2 s2) hu).bind (R2 := RV K) (k := fun z σ H3 (Q : V → Hp → Prop) => ∃ k, z = .bl k ∧ (if k = true then tc σ H3 fun w' H4 => r' u w' H4 Q else Q (.bl false) H3)) fun θ3 G3 z dz p3 s3 hz => ?_
  refine snd_asB (k := fun (k : Bool) σ H3 (Q : V → Hp → Prop) => if k = true then tc σ H3 fun w' H4 => r' u w' H4 Q else Q (.bl false) H3) hz fun k => ?_
  cases k with
  | true => simpa using (sc θ3 G3).bind (R2 := RV K) (k := fun w' (_ : L2.St) H4 (Q : V → Hp → Prop) => r' u w' H4 Q) (g := fun w => o' e w) fun θ4 G4 w dw p4 s4 hw => so' θ4 G4 u w e dw (hu.mono (p3.trans p4) (s3.trans s4)) hw
  | false => simpa using Snd.ret (K := K) (W := W) (R := RV K) (θ0 := θ3) (G0 := G3) (v := .bl false) (d := .bl false) fun _ _ _ _ => rv_bl
theorem de_chain {op op' : CmpOp} {r r' : R2} {o o' : D → D → Ev D} {hh : Ev D} (ho : OpR X (compareOp op) r) (ho' : OpR X (compareOp op') r') (so : SndO X.K W r o) (so' : SndO X.K W r' o') (ha : DE X W a f) (hb : DE X W b g) (hc : DE X W c hh) (hm : lastMarks [op, op'] [b, c] = false := by with_unfolding_all rfl) : DE X W (.Compare a [op, op'] [b, c] pos) (dChain f g hh o o') := by
  obtain ⟨ta, pa, sa⟩ := ha
  obtain ⟨tb, pb, sb⟩ := hb
  obtain ⟨tc, pc, sc⟩ := hc
  exact ⟨_, pe_chain ho ho' pa pb pc hm, snd_chain so so' sa sb sc⟩
theorem dt_chain {op op' : CmpOp} {r r' : R2} {o o' : D → D → Ev D} {hh : Ev D} (ho : OpR X (compareOp op) r) (ho' : OpR X (compareOp op') r') (so : SndO X.K W r o) (so' : SndO X.K W r' o') (ha : DE X W a f) (hb : DE X W b g) (hc : DE X W c hh) (hm : lastMarks [op, op'] [b, c] = false := by with_unfolding_all rfl) : DT X W (.Compare a [op, op'] [b, c] pos) (bnd (dChain f g hh o o') asB) := by
  obtain ⟨ta, pa, sa⟩ := ha
  obtain ⟨tb, pb, sb⟩ := hb
  obtain ⟨tc, pc, sc⟩ := hc
  exact ⟨_, pt_chain ho ho' pa pb pc hm, snd_tB fun θ G => snd_chain so so' sa sb sc θ G⟩
theorem slt : SndO K W (rI0 fun i j => .bl (decide (i < j))) oLt := snd_rI0 fun i j _ => .bl _
theorem sle : SndO K W (rI0 fun i j => .bl (decide (i ≤ j))) oLe := snd_rI0 fun i j _ => .bl _
theorem sgt : SndO K W (rI0 fun i j => .bl (decide (j < i))) oGt := snd_rI0 fun i j _ => .bl _
theorem sge : SndO K W (rI0 fun i j => .bl (decide (j ≤ i))) oGe := snd_rI0 fun i j _ => .bl _
/-! ### == of lists that change -/
def frz (M : Mem) (d : D) : D := match d with
  | .ptr n => match M[n]? with
    | some (some ds) => .lst ds
    | _ => d
  | _ => d
def oEqM (d e : D) : Ev D := fun ρ M => oEq (frz M d) (frz M e) ρ M
def oNeM (d e : D) : Ev D := fun ρ M => oNe (frz M d) (frz M e) ρ M
theorem frz_dp {θ : List Addr} {G H : Hp} {M : Mem} {v : V} {d : D} (rs : Rs K θ G H M) (hv : Rv K θ G v d) (pl : (frz M d).pl = true) : Dp K H v (toPy (frz M d)) := by
  have base : ∀ {d : D}, Rv K θ G v d → d.pl = true → Dp K H v (toPy d) := fun hv pl => ((hv.rp (pl_np pl)).mono rs.sub).dp pl
  cases hv with
  | dat q =>
    have ef : frz M d = d := by cases q <;> rfl
    rw [ef] at pl ⊢
    exact base (.dat q) pl
  | exv hn q => exact base (.exv hn q) pl
  | ptr hn =>
    rename_i n a
    unfold frz at pl ⊢
    dsimp only at pl ⊢
    split at pl
    · rename_i ds hm
      obtain ⟨g, xs, hx, rl⟩ := rs.mem n _ _ hn hm
      exact .lst (.inl (.inl hx)) (dpAll_of rl.len fun i v d a b => ((rl.get i v d a b).mono rs.sub).dp (plL_get _ i d (by unfold D.pl at pl; exact pl) b))
    · cases pl
theorem snd_eqM : SndO K W (rEqD K) oEqM := by
  intro θ G x y d e hx hy ρ M r M' θ1 G1 σ H Q p s e1 rs rv kk
  unfold oEqM oEq at e1
  split at e1
  · rename_i c
    exact ⟨_, _, frz_dp rs (hx.mono p s) c.1, frz_dp rs (hy.mono p s) c.2.1, c.2.2.1, c.2.2.2, Snd.ret (K := K) (W := W) (R := RV K) (θ0 := θ) (G0 := G) (fun _ _ _ _ => rv_bl) ρ M r M' θ1 G1 σ H Q p s e1 rs rv kk⟩
  · cases e1
theorem snd_neM : SndO K W (rNeD K) oNeM := by
  intro θ G x y d e hx hy ρ M r M' θ1 G1 σ H Q p s e1 rs rv kk
  unfold oNeM oNe at e1
  split at e1
  · rename_i c
    exact ⟨_, _, frz_dp rs (hx.mono p s) c.1, frz_dp rs (hy.mono p s) c.2.1, c.2.2.1, c.2.2.2, Snd.ret (K := K) (W := W) (R := RV K) (θ0 := θ) (G0 := G) (fun _ _ _ _ => rv_bl) ρ M r M' θ1 G1 σ H Q p s e1 rs rv kk⟩
  · cases e1
theorem de_eqM (hu : X.A.units + 64 < cLine) (ha : DE X W a f) (hb : DE X W b g) : DE X W (.Compare a [.Eq] [b] pos) (bnd f fun d => bnd g fun e => oEqM d e) := de_cmp (op_eqD hu) snd_eqM ha hb (nomark _)
theorem de_neM (hu : X.A.units + 64 < cLine) (ha : DE X W a f) (hb : DE X W b g) : DE X W (.Compare a [.NotEq] [b] pos) (bnd f fun d => bnd g fun e => oNeM d e) := de_cmp (op_neD hu) snd_neM ha hb (nomark _)
theorem dt_eqM (hu : X.A.units + 64 < cLine) (ha : DE X W a f) (hb : DE X W b g) : DT X W (.Compare a [.Eq] [b] pos) (bnd (bnd f fun d => bnd g fun e => oEqM d e) asB) := dt_cmp (op_eqD hu) snd_eqM ha hb (nomark _)
theorem dt_neM (hu : X.A.units + 64 < cLine) (ha : DE X W a f) (hb : DE X W b g) : DT X W (.Compare a [.NotEq] [b] pos) (bnd (bnd f fun d => bnd g fun e => oNeM d e) asB) := dt_cmp (op_neD hu) snd_neM ha hb (nomark _)
/-! ### x in a row -/
def oInD (neg : Bool) (d e : D) : Ev D :=
  if d.pl = true ∧ e.pl = true ∧ SeqAt.shaped (toPy d) = true ∧ SeqAt.shaped (toPy e) = true then match e with
    | .tup es => ret (.bl (if neg then !(toPys es).any fun z => PyData.eqv z (toPy d) else (toPys es).any fun z => PyData.eqv z (toPy d)))
    | .lst es => ret (.bl (if neg then !(toPys es).any fun z => PyData.eqv z (toPy d) else (toPys es).any fun z => PyData.eqv z (toPy d)))
    | _ => stk
  else stk
def rInLT (K : PySem.W.Frag) (neg : Bool) : R2 := fun x y H Q => rInT K neg x y H Q ∨ ∃ d ds, Dp K H x d ∧ Dp K H y (.list ds) ∧ SeqAt.shaped d = true ∧ SeqAt.shaped (.list ds) = true ∧ Q (.bl (if neg then !ds.any fun z => PyData.eqv z d else ds.any fun z => PyData.eqv z d)) H
theorem op_inLT (hu : X.A.units + 65 < cLine) : OpR X (compareOp .In) (rInLT X.K false) := by
  intro pins s σ H x y v u Q I rx ry h
  rcases h with h | h
  · exact op_inT hu pins s σ H x y v u Q I rx ry h
  · exact op_inD hu pins s σ H x y v u Q I rx ry h
theorem op_notInLT (hu : X.A.units + 65 < cLine) : OpR X (compareOp .NotIn) (rInLT X.K true) := by
  intro pins s σ H x y v u Q I rx ry h
  rcases h with h | h
  · exact op_notInT hu pins s σ H x y v u Q I rx ry h
  · exact op_notInD hu pins s σ H x y v u Q I rx ry h
theorem snd_inD {neg : Bool} : SndO K W (rInLT K neg) (oInD neg) := by
  intro θ G x y d e hx hy
  unfold oInD
  split
  · rename_i c
    split
    · rename_i es
      intro ρ M r M' θ1 G1 σ H Q p s e1 rs rv kk
      exact .inl ⟨_, _, (((hx.rp (pl_np c.1)).mono s).mono rs.sub).dp c.1, (((hy.rp (pl_np c.2.1)).mono s).mono rs.sub).dp c.2.1, c.2.2.1, c.2.2.2, Snd.ret (K := K) (W := W) (R := RV K) (θ0 := θ) (G0 := G) (fun _ _ _ _ => rv_bl) ρ M r M' θ1 G1 σ H Q p s e1 rs rv kk⟩
    · rename_i es
      intro ρ M r M' θ1 G1 σ H Q p s e1 rs rv kk
      exact .inr ⟨_, _, (((hx.rp (pl_np c.1)).mono s).mono rs.sub).dp c.1, (((hy.rp (pl_np c.2.1)).mono s).mono rs.sub).dp c.2.1, c.2.2.1, c.2.2.2, Snd.ret (K := K) (W := W) (R := RV K) (θ0 := θ) (G0 := G) (fun _ _ _ _ => rv_bl) ρ M r M' θ1 G1 σ H Q p s e1 rs rv kk⟩
    · exact Snd.stk
  · exact Snd.stk
theorem de_inD (hr : ∃ k, Rg k X.A) (ha : DE X W a f) (hb : DE X W b g) (hm : behindInMarks .In b = false := by rfl) : DE X W (.Compare a [.In] [b] pos) (bnd f fun d => bnd g fun e => oInD false d e) := by
  obtain ⟨k, hr⟩ := hr
  exact de_cmp (op_inLT (by have := hr.un200; omega)) snd_inD ha hb hm
theorem dt_inD (hr : ∃ k, Rg k X.A) (ha : DE X W a f) (hb : DE X W b g) (hm : behindInMarks .In b = false := by rfl) : DT X W (.Compare a [.In] [b] pos) (bnd (bnd f fun d => bnd g fun e => oInD false d e) asB) := by
  obtain ⟨k, hr⟩ := hr
  exact dt_cmp (op_inLT (by have := hr.un200; omega)) snd_inD ha hb hm
theorem de_ninD (hr : ∃ k, Rg k X.A) (ha : DE X W a f) (hb : DE X W b g) (hm : behindInMarks .NotIn b = false := by rfl) : DE X W (.Compare a [.NotIn] [b] pos) (bnd f fun d => bnd g fun e => oInD true d e) := by
  obtain ⟨k, hr⟩ := hr
  exact de_cmp (op_notInLT (by have := hr.un200; omega)) snd_inD ha hb hm
theorem dt_ninD (hr : ∃ k, Rg k X.A) (ha : DE X W a f) (hb : DE X W b g) (hm : behindInMarks .NotIn b = false := by rfl) : DT X W (.Compare a [.NotIn] [b] pos) (bnd (bnd f fun d => bnd g fun e => oInD true d e) asB) := by
  obtain ⟨k, hr⟩ := hr
  exact dt_cmp (op_notInLT (by have := hr.un200; omega)) snd_inD ha hb hm
/-! ### slices -/
abbrev RO : List Addr → Hp → Option Int → Option Int → Prop := fun _ _ x y => x = y
def DO (X : Cx) (W : WN) (e : Option Expr) (g : Ev (Option Int)) : Prop := ∃ t, PO X e t ∧ ∀ θ G, Snd X.K W RO θ G t g
def asI (d : D) : Ev (Option Int) := match d with
  | .int i => ret (some i)
  | _ => stk
theorem do_none : DO X W none (ret none) := ⟨_, po_none, fun _ _ => Snd.ret fun _ _ _ _ => rfl⟩
theorem do_some (h : DE X W e f) : DO X W (some e) (bnd f asI) := by
  obtain ⟨t, q, s⟩ := h
  refine ⟨_, po_some q, fun θ G => (s θ G).bind (R2 := RO) (k := fun (x : V) (_ : L2.St) (H : Hp) (Q : Option Int → Hp → Prop) => ∃ i, x = .int i ∧ Q (some i) H) fun θ1 G1 v d _ _ hv => ?_⟩
  unfold asI
  split
  · rename_i i
    rw [hv.int_of]
    intro ρ M r M' θ2 G2 σ H Q p s e rs rv kk
    exact ⟨i, rfl, Snd.ret (K := X.K) (W := W) (R := RO) (θ0 := θ1) (G0 := G1) (fun _ _ _ _ => rfl) ρ M r M' θ2 G2 σ H Q p s e rs rv kk⟩
  · exact Snd.stk
def cutD (ds : List D) (lo hi : Option Int) : List D := (ds.drop (HT.sIx ds.length 0 lo)).take (HT.sIx ds.length ds.length hi - HT.sIx ds.length 0 lo)
theorem RpL.drop {G : Hp} {xs : List V} {ds : List D} (r : RpL K G xs ds) (n : Nat) : RpL K G (xs.drop n) (ds.drop n) := ⟨by simp [r.len], fun i v d h1 h2 => r.get (n + i) v d (by simpa using h1) (by simpa using h2)⟩
theorem RpL.take {G : Hp} {xs : List V} {ds : List D} (r : RpL K G xs ds) (n : Nat) : RpL K G (xs.take n) (ds.take n) := by
  refine ⟨by simp [r.len], fun i v d h1 h2 => ?_⟩
  rw [List.getElem?_take] at h1 h2
  split at h1
  · rename_i hi
    rw [if_pos hi] at h2
    exact r.get i v d h1 h2
  · cases h1
theorem RpL.cut {G : Hp} {xs : List V} {ds : List D} (r : RpL K G xs ds) (lo hi : Option Int) : RpL K G (cutV xs lo hi) (cutD ds lo hi) := by
  unfold cutV cutD
  rw [r.len]
  exact (r.drop _).take _
theorem RpL.reverse {G : Hp} {xs : List V} {ds : List D} (r : RpL K G xs ds) : RpL K G xs.reverse ds.reverse := by
  refine ⟨by simp [r.len], fun i v d h1 h2 => ?_⟩
  have hi : i < xs.length := by
    rcases Nat.lt_or_ge i xs.length with q | q
    · exact q
    · rw [List.getElem?_eq_none (by simpa using q)] at h1; cases h1
  rw [List.getElem?_reverse hi] at h1
  rw [List.getElem?_reverse (by rw [← r.len]; exact hi), ← r.len] at h2
  exact r.get _ v d h1 h2
/-- a list's items -/
def lseq (d : D) (M : Mem) : Option (List D) := match d with
  | .tup _ => none
  | d => seqOf d M
theorem lseq_of {θ : List Addr} {G H : Hp} {M : Mem} {v : V} {d : D} {ds : List D} (rs : Rs K θ G H M) (hv : Rv K θ G v d) (h : lseq d M = some ds) : ∃ a xs, v = .ref a ∧ SqL K H a xs ∧ RpL K G xs ds := by
  cases hv with
  | dat q =>
    cases q with
    | lst h1 l g => cases h; exact ⟨_, _, rfl, .inl (.inl (rs.sub _ _ h1)), l, g⟩
    | scr h1 l g => cases h; exact ⟨_, _, rfl, rs.sub.seq h1, l, g⟩
    | _ => cases h
  | ptr hn =>
    rename_i n a
    unfold lseq seqOf at h
    dsimp only at h
    split at h
    · rename_i es hm
      cases h
      obtain ⟨g, xs, hx, rl⟩ := rs.mem n _ _ hn hm
      exact ⟨_, xs, rfl, .inl (.inl hx), rl⟩
    · cases h
  | exv _ _ => cases h
def oSl (d : D) (lo hi : Option Int) : Ev D := fun ρ M => match d with
  | .tup ds => some (.ok (.tup (cutD ds lo hi)), M)
  | d => match lseq d M with
    | some ds => some (.ok (.lst (cutD ds lo hi)), M)
    | none => none
theorem de_slice {lo hi : Option Expr} {gl gh : Ev (Option Int)} (ha : DE X W a f) (hl : DO X W lo gl) (hh : DO X W hi gh) : DE X W (.Subscript a (.Slice lo hi none p2) pos) (bnd f fun d => bnd gl fun l => bnd gh fun u => oSl d l u) := by
  obtain ⟨t, q, s⟩ := ha
  obtain ⟨tl, pl, sl⟩ := hl
  obtain ⟨th, ph, sh⟩ := hh
  refine ⟨_, pe_slice (sl_tupA.or sl_list) q pl ph, fun θ G => ?_⟩
  refine (s θ G).bind (R2 := RV X.K) (k := fun (x : V) (σ : L2.St) (H1 : Hp) (Q : V → Hp → Prop) => tl σ H1 fun l H2 => th σ H2 fun u H3 => rSlA X.K x l u H3 Q ∨ rSlL X.K x l u H3 Q) fun θ1 G1 v d _ _ hv => ?_
  refine (sl θ1 G1).bind (R2 := RV X.K) (k := fun (l : Option Int) (σ : L2.St) (H2 : Hp) (Q : V → Hp → Prop) => th σ H2 fun u H3 => rSlA X.K v l u H3 Q ∨ rSlL X.K v l u H3 Q) fun θ2 G2 l l' p2 s2 hl => ?_
  cases hl
  refine (sh θ2 G2).bind (R2 := RV X.K) (k := fun (u : Option Int) (_ : L2.St) (H3 : Hp) (Q : V → Hp → Prop) => rSlA X.K v l u H3 Q ∨ rSlL X.K v l u H3 Q) fun θ3 G3 u u' p3 s3 hu => ?_
  cases hu
  intro ρ M r M' θ4 G4 σ H Q p4 s4 e rs rv kk
  have hv4 := hv.mono ((p2.trans p3).trans p4) ((s2.trans s3).trans s4)
  have lay : ∀ {xs : List V} {ds : List D}, RpL X.K G4 xs ds → ∀ q, H q = none → (r = .ok (.lst (cutD ds l u))) → M' = M → Q (.ref q) (upd H q (.lst (cutV xs l u))) := by
    intro xs ds rl q hq e1 e2
    subst e1; subst e2
    have g := rs.fresh hq
    exact (kk θ4 (upd G4 q (.lst (cutV xs l u))) _ (List.prefix_refl _) (same_upd g) (rs.laid hq _)).2 _ _ rfl (.dat (rp_lst upd_same ((rl.cut l u).mono (same_upd g))))
  unfold oSl at e
  split at e
  · rename_i ds
    cases e
    cases hv4 with
    | dat hd =>
      cases hd with
      | tup h1 l1 g1 =>
        rename_i a xs
        have rl : RpL X.K G4 xs ds := ⟨l1, g1⟩
        refine .inl ⟨a, xs, rfl, seqT rs.sub h1, fun hw => ?_, fun _ q hq => ?_⟩
        · have ec : cutD ds l u = ds := by
            unfold cutD
            rw [rl.len] at hw
            rw [hw.1, hw.2]
            simp
          rw [ec] at kk
          exact (kk θ4 G4 H (List.prefix_refl _) (Same.refl _) rs).2 _ _ rfl (.dat (.tup h1 l1 g1))
        · have g := rs.fresh hq
          exact (kk θ4 (upd G4 q (.tup (cutV xs l u))) _ (List.prefix_refl _) (same_upd g) (rs.laid hq _)).2 _ _ rfl (.dat (rp_tup upd_same ((rl.cut l u).mono (same_upd g))))
  · split at e
    · rename_i ds hd
      cases e
      obtain ⟨a, xs, rfl, q, rl⟩ := lseq_of rs hv4 hd
      exact .inr ⟨a, xs, rfl, q, fun q hq => lay rl q hq rfl rfl⟩
    · cases e
/-! ### x[::-1] -/
def oRv (d : D) : Ev D := fun ρ M => match d with
  | .tup ds => some (.ok (.tup ds.reverse), M)
  | d => match lseq d M with
    | some ds => some (.ok (.lst ds.reverse), M)
    | none => none
theorem de_rv {k : Nat} {p1 p3 p4 : Pos} (ha : DE X W a f) : DE X W (.Subscript a (.Slice none none (some (.UnaryOp .USub (.Constant (.int 1) k p1) p3)) p4) pos) (bnd f oRv) := by
  obtain ⟨t, q, s⟩ := ha
  refine ⟨_, pe_rv q, fun θ G => ?_⟩
  refine (s θ G).bind (R2 := RV X.K) (k := fun (x : V) (σ : L2.St) (H1 : Hp) (Q : V → Hp → Prop) => ∃ a xs, x = .ref a ∧ ((SqL X.K H1 a xs ∧ ∀ p, H1 p = none → Q (.ref p) (upd H1 p (.lst xs.reverse))) ∨ (SqT X.K H1 a xs ∧ ∀ p, H1 p = none → Q (.ref p) (upd H1 p (.tup xs.reverse))))) fun θ1 G1 v d _ _ hv => ?_
  intro ρ M r M' θ4 G4 σ H Q p4 s4 e rs rv kk
  have hv4 := hv.mono p4 s4
  unfold oRv at e
  split at e
  · rename_i ds
    cases e
    cases hv4 with
    | dat hd =>
      cases hd with
      | tup h1 l1 g1 =>
        rename_i a xs
        have rl : RpL X.K G4 xs ds := ⟨l1, g1⟩
        refine ⟨a, xs, rfl, .inr ⟨seqT rs.sub h1, fun q hq => ?_⟩⟩
        have g := rs.fresh hq
        exact (kk θ4 (upd G4 q (.tup xs.reverse)) _ (List.prefix_refl _) (same_upd g) (rs.laid hq _)).2 _ _ rfl (.dat (rp_tup upd_same (rl.reverse.mono (same_upd g))))
  · split at e
    · rename_i ds hd
      cases e
      obtain ⟨a, xs, rfl, q, rl⟩ := lseq_of rs hv4 hd
      refine ⟨a, xs, rfl, .inl ⟨q, fun q hq => ?_⟩⟩
      have g := rs.fresh hq
      exact (kk θ4 (upd G4 q (.lst xs.reverse)) _ (List.prefix_refl _) (same_upd g) (rs.laid hq _)).2 _ _ rfl (.dat (rp_lst upd_same (rl.reverse.mono (same_upd g))))
    · cases e
/-! ### for over a list or a tuple -/
def iSeq (K : PySem.W.Frag) (tl : TE) : TI := fun σ H R => tl σ H fun x H1 => (∃ a, x = .ref a ∧ (∃ xs, SqL K H1 a xs) ∧ R (Itl K a) H1) ∨ ∃ a, x = .ref a ∧ (∃ xs, SqT K H1 a xs) ∧ R (Itt K a) H1
theorem pi_seq {tg l : Expr} {tl : TE} (hl : PE X l tl) : PI X tg l (iSeq X.K tl) := by
  refine ⟨fun pins s σ H R I h => thn (hl.run pins s σ H _ I h) fun v s1 z => ?_⟩
  obtain ⟨x, H1, I1, r1, q1⟩ := z
  have new : ∀ b, b ∈ [s1.heap.objs.size] → b = s1.heap.objs.size := fun b hb => by simpa using hb
  rcases q1 with ⟨a, e, ⟨xs, hq⟩, q⟩ | ⟨a, e, ⟨xs, hq⟩, q⟩
  · subst e
    cases r1
    obtain ⟨its, _, pl, _⟩ := I1.list hq
    refine wpAny_pyIter_list pl.isList ⟨_, [s1.heap.objs.size], _, _, H1, rfl, I1.kept (t' := s1.toks) fun b o e => Heap.get?_push_of_some _ e, turn_list a _, ⟨_, Heap.get?_push_size _ rfl, rfl, rfl⟩, fun b hb => ?_, q⟩
    rw [new b hb]
    exact I1.fpOk (Nat.le_refl _) (I1.hok.fresh (Nat.le_refl _))
  · subst e
    cases r1
    obtain ⟨its, _, pl, _⟩ := I1.tuple hq
    refine wpAny_pyIter_tuple (show s1.heap.IsTuple a its.toArray from pl) ⟨_, [s1.heap.objs.size], _, _, H1, rfl, I1.kept (t' := s1.toks) fun b o e => Heap.get?_push_of_some _ e, turn_tuple a _, ⟨_, Heap.get?_push_size _ rfl, rfl, rfl⟩, fun b hb => ?_, q⟩
    rw [new b hb]
    exact I1.fpOk (Nat.le_refl _) (I1.hok.fresh (Nat.le_refl _))
def oItS (d : D) : Ev (List D) := match d with
  | .lst ds => ret ds
  | .tup ds => ret ds
  | _ => stk
theorem di_seq {tg : Expr} (h : DE X W e f) : DI X W tg e (bnd f oItS) := by
  obtain ⟨t, q, s⟩ := h
  refine ⟨_, pi_seq q, fun θ G => (s θ G).bind (R2 := RI X.K) (k := fun (x : V) (_ : L2.St) (H1 : Hp) (R : It → Hp → Prop) => (∃ a, x = .ref a ∧ (∃ xs, SqL X.K H1 a xs) ∧ R (Itl X.K a) H1) ∨ ∃ a, x = .ref a ∧ (∃ xs, SqT X.K H1 a xs) ∧ R (Itt X.K a) H1) fun θ1 G1 v d _ _ hv => ?_⟩
  unfold oItS
  split
  · rename_i ds
    cases hv with
    | dat hv =>
      cases hv with
      | lst hq l g =>
        rename_i a xs
        intro ρ M r M' θ2 G2 σ H Q p s e rs rv kk
        exact .inl ⟨a, rfl, ⟨xs, .inl (.inl (rs.sub _ _ (s _ _ hq)))⟩, Snd.ret (K := X.K) (W := W) (R := RI X.K) (θ0 := θ1) (G0 := G1) (fun _ _ p s => (ri_list (.inl (.inl hq)) ⟨l, g⟩).mono p s) ρ M r M' θ2 G2 σ H Q p s e rs rv kk⟩
  · rename_i ds
    cases hv with
    | dat hv =>
      cases hv with
      | tup hq l g =>
        rename_i a xs
        intro ρ M r M' θ2 G2 σ H Q p s e rs rv kk
        exact .inr ⟨a, rfl, ⟨xs, seqT rs.sub (seqT s hq)⟩, Snd.ret (K := X.K) (W := W) (R := RI X.K) (θ0 := θ1) (G0 := G1) (fun _ _ p s => (ri_tup hq ⟨l, g⟩).mono p s) ρ M r M' θ2 G2 σ H Q p s e rs rv kk⟩
  · exact Snd.stk
/-! ### zip of two tuples, of two lists -/
def zipD (a b : List D) : List D := (a.zip b).map fun q => .tup [q.1, q.2]
def oZip (ds : List D) : Ev (List D) := match ds with
  | [.tup a, .tup b] => ret (zipD a b)
  | [.lst a, .lst b] => ret (zipD a b)
  | _ => stk
theorem zip_get {a b : List D} {i : Nat} {d : D} (h : (zipD a b)[i]? = some d) : ∃ u v, a[i]? = some u ∧ b[i]? = some v ∧ d = .tup [u, v] := by
  unfold zipD at h
  rw [List.getElem?_map] at h
  cases q : (a.zip b)[i]? with
  | none => rw [q] at h; cases h
  | some z =>
    rw [q] at h
    cases h
    rw [List.getElem?_zip_eq_some] at q
    exact ⟨z.1, z.2, q.1, q.2, rfl⟩
theorem zip_len (a b : List D) : (zipD a b).length = min a.length b.length := by simp [zipD]
theorem rp_pair {G : Hp} {q : Addr} {x y : V} {u v : D} (h : G q = some (.tup [x, y])) (hx : Rp K G x u) (hy : Rp K G y v) : Rp K G (.ref q) (.tup [u, v]) := rp_tup h (RpL.cons hx (RpL.cons hy RpL.nil))
theorem ri_zipT {θ : List Addr} {G : Hp} {a b : Addr} {xs ys : List V} {ds es : List D} (ha : SqT K G a xs) (hb : SqT K G b ys) (r1 : RpL K G xs ds) (r2 : RpL K G ys es) : RI K θ G (ItzT K a b) (zipD ds es) := by
  refine ⟨fun i θ1 G1 H M _ s rs hi => ?_, fun θ1 G1 H M _ s rs => ?_, fun i d θ1 G1 H M x H' _ s rs hd y => ?_⟩
  · rw [zip_len] at hi
    obtain ⟨v, hv, _⟩ := r1.at (List.getElem?_eq_getElem (show i < ds.length by omega))
    obtain ⟨u, hu, _⟩ := r2.at (List.getElem?_eq_getElem (show i < es.length by omega))
    exact ⟨xs, ys, v, u, seqT rs.sub (seqT s ha), seqT rs.sub (seqT s hb), hv, hu⟩
  · refine ⟨xs, ys, seqT rs.sub (seqT s ha), seqT rs.sub (seqT s hb), ?_⟩
    rw [zip_len, r1.len, r2.len]
    omega
  · obtain ⟨T, x1, y1, rfl, hT, rfl, h1, h2⟩ := y
    obtain ⟨u, v, hu, hv, rfl⟩ := zip_get hd
    have g := rs.fresh hT
    have e1 := h1 xs (seqT rs.sub (seqT s ha))
    have e2 := h2 ys (seqT rs.sub (seqT s hb))
    exact ⟨upd G1 T (.tup [x1, y1]), same_upd g, rs.laid hT _, .dat (rp_pair upd_same (((r1.get i _ _ e1 hu).mono s).mono (same_upd g)) (((r2.get i _ _ e2 hv).mono s).mono (same_upd g)))⟩
theorem ri_zipL {θ : List Addr} {G : Hp} {a b : Addr} {xs ys : List V} {ds es : List D} (ha : SqL K G a xs) (hb : SqL K G b ys) (r1 : RpL K G xs ds) (r2 : RpL K G ys es) : RI K θ G (Itz K a b) (zipD ds es) := by
  refine ⟨fun i θ1 G1 H M _ s rs hi => ?_, fun θ1 G1 H M _ s rs => ?_, fun i d θ1 G1 H M x H' _ s rs hd y => ?_⟩
  · rw [zip_len] at hi
    obtain ⟨v, hv, _⟩ := r1.at (List.getElem?_eq_getElem (show i < ds.length by omega))
    obtain ⟨u, hu, _⟩ := r2.at (List.getElem?_eq_getElem (show i < es.length by omega))
    exact ⟨xs, ys, v, u, rs.sub.seq (s.seq ha), rs.sub.seq (s.seq hb), hv, hu⟩
  · refine ⟨xs, ys, rs.sub.seq (s.seq ha), rs.sub.seq (s.seq hb), ?_⟩
    rw [zip_len, r1.len, r2.len]
    omega
  · obtain ⟨T, x1, y1, rfl, hT, rfl, h1, h2⟩ := y
    obtain ⟨u, v, hu, hv, rfl⟩ := zip_get hd
    have g := rs.fresh hT
    have e1 := h1 xs (rs.sub.seq (s.seq ha))
    have e2 := h2 ys (rs.sub.seq (s.seq hb))
    exact ⟨upd G1 T (.tup [x1, y1]), same_upd g, rs.laid hT _, .dat (rp_pair upd_same (((r1.get i _ _ e1 hu).mono s).mono (same_upd g)) (((r2.get i _ _ e2 hv).mono s).mono (same_upd g)))⟩
theorem di_zip {elts : List Expr} {kk : Nat} {tpos : Pos} {e2 : Expr} (hm : X.mg "zip" = none) (ha : DA X W [e, e2] h) (hg : Gl X "zip" := by rfl) (hs : starEach [e, e2] X.env = (false, eval e X.env) :: starEach [e2] X.env := by rfl) (hpl : (backTo pos (starEach [e2] X.env)).any (·.1) = false := by rfl) :
    DI X W (.Tuple elts kk tpos) (.Call (.Name "zip" p) [e, e2] [] pos) (bnd h oZip) := by
  obtain ⟨t, q, s⟩ := ha
  refine ⟨_, pi_zipA hg hm q hs hpl, fun θ G => (s θ G).bind (R2 := RI X.K) (k := fun (vs : List V) (_ : L2.St) (H1 : Hp) (R : It → Hp → Prop) => ∃ a b xs ys, vs = [.ref a, .ref b] ∧ ((SqL X.K H1 a xs ∧ SqL X.K H1 b ys ∧ R (Itz X.K a b) H1) ∨ (SqT X.K H1 a xs ∧ SqT X.K H1 b ys ∧ R (ItzT X.K a b) H1))) fun θ1 G1 vs ds _ _ hv => ?_⟩
  unfold oZip
  split
  · rename_i da db
    obtain ⟨v, u, rfl, h1, h2⟩ := vals2 hv
    cases h1 with
    | dat h1 =>
      cases h2 with
      | dat h2 =>
        cases h1 with
        | tup q1 l1 g1 =>
          cases h2 with
          | tup q2 l2 g2 =>
            intro ρ M r M' θ2 G2 σ H Q p s e rs rv kk
            exact ⟨_, _, _, _, rfl, .inr ⟨seqT rs.sub (seqT s q1), seqT rs.sub (seqT s q2), Snd.ret (K := X.K) (W := W) (R := RI X.K) (θ0 := θ1) (G0 := G1) (fun _ _ p s => (ri_zipT q1 q2 ⟨l1, g1⟩ ⟨l2, g2⟩).mono p s) ρ M r M' θ2 G2 σ H Q p s e rs rv kk⟩⟩
  · rename_i da db
    obtain ⟨v, u, rfl, h1, h2⟩ := vals2 hv
    cases h1 with
    | dat h1 =>
      cases h2 with
      | dat h2 =>
        cases h1 with
        | lst q1 l1 g1 =>
          cases h2 with
          | lst q2 l2 g2 =>
            intro ρ M r M' θ2 G2 σ H Q p s e rs rv kk
            exact ⟨_, _, _, _, rfl, .inl ⟨.inl (.inl (rs.sub _ _ (s _ _ q1))), .inl (.inl (rs.sub _ _ (s _ _ q2))), Snd.ret (K := X.K) (W := W) (R := RI X.K) (θ0 := θ1) (G0 := G1) (fun _ _ p s => (ri_zipL (.inl (.inl q1)) (.inl (.inl q2)) ⟨l1, g1⟩ ⟨l2, g2⟩).mono p s) ρ M r M' θ2 G2 σ H Q p s e rs rv kk⟩⟩
  · exact Snd.stk
/-! ### x += e of numbers -/
def sAug (i : Nat) (f : Ev D) (o : D → D → Ev D) : Sv := fun ρ M => match ρ[i]? with
  | some (some d) => thenS f (fun e => thenS (o d e) fun z ρ M => some (.nx (ρ.set i (some z)), M)) ρ M
  | _ => none
theorem snd_aug {t : TE} {i : Nat} {w : Int → Int → Int} {f : Ev D} {o : D → D → Ev D} (s : ∀ θ G, Snd K W (RV K) θ G t f) (ho : ∀ x y ρ M r M', o x y ρ M = some (r, M') → ∃ i j, x = .int i ∧ y = .int j ∧ r = .ok (.int (w i j)) ∧ M' = M) : SndS K W (tAug i t (ipI w)) (sAug i f o) := by
  intro ρ M ou M' θ G σ H Dn e rs rv kk
  unfold sAug at e
  split at e
  · rename_i d hd
    obtain ⟨v, hv, rd⟩ := rv.get i d hd
    refine ⟨v, hv, ?_⟩
    unfold thenS at e
    cases q : f ρ M with
    | none => rw [q] at e; cases e
    | some z =>
      obtain ⟨r1, M1⟩ := z
      rw [q] at e
      refine s θ G ρ M r1 M1 θ G σ H _ (List.prefix_refl _) (Same.refl _) q rs rv fun θ' G' H' p' s' rs' => ?_
      cases r1 with
      | exc C =>
        cases e
        exact ⟨fun C' h => by cases h; exact (kk θ' G' H' p' s' rs').ex C ρ σ rfl (rv.mono p' s'), fun d v h => (by cases h)⟩
      | ok y =>
        refine ⟨fun C' h => (by cases h), fun d2 v2 h2 rel => ?_⟩
        cases h2
        dsimp only at e
        try unfold thenS at e
        cases q2 : o d y ρ M1 with
        | none => rw [q2] at e; cases e
        | some z2 =>
          obtain ⟨r2, M2⟩ := z2
          rw [q2] at e
          obtain ⟨a, b, rfl, rfl, rfl, rfl⟩ := ho d y ρ M1 r2 M2 q2
          cases e
          have e1 := rd.int_of
          have e2 := rel.int_of
          subst e1; subst e2
          exact ⟨a, b, rfl, rfl, (kk θ' G' H' p' s' rs').nx _ _ rfl ((rv.mono p' s').set (.dat (.int _)))⟩
  · cases e
def oAddI (d e : D) : Ev D := match d, e with
  | .int i, .int j => ret (.int (i + j))
  | _, _ => stk
def oSubI (d e : D) : Ev D := match d, e with
  | .int i, .int j => ret (.int (i - j))
  | _, _ => stk
theorem ds_augAdd (i : Nat) {x : Str} {px : Pos} (hN : X.N.Nodup) (he : DE X W e f) (hi : X.N[i]? = some x := by rfl) (hx : Loc X.env.scope x := by first | exact .inl rfl | exact .inr rfl) (hf : X.fn x = true ∨ X.env.scope.names.lookup x = some .local := by first | exact .inl rfl | exact .inr rfl) : DS X W (.AugAssign (.Name x px) .Add e pos) (sAug i f oAddI) := by
  obtain ⟨t, q, s⟩ := he
  refine ⟨_, ps_aug hN hi hx q ip_add hf, snd_aug s fun x y ρ M r M' h => ?_⟩
  unfold oAddI at h
  split at h
  · cases h; exact ⟨_, _, rfl, rfl, rfl, rfl⟩
  · cases h
theorem ds_augSub (i : Nat) {x : Str} {px : Pos} (hN : X.N.Nodup) (he : DE X W e f) (hi : X.N[i]? = some x := by rfl) (hx : Loc X.env.scope x := by first | exact .inl rfl | exact .inr rfl) (hf : X.fn x = true ∨ X.env.scope.names.lookup x = some .local := by first | exact .inl rfl | exact .inr rfl) : DS X W (.AugAssign (.Name x px) .Sub e pos) (sAug i f oSubI) := by
  obtain ⟨t, q, s⟩ := he
  refine ⟨_, ps_aug hN hi hx q ip_sub hf, snd_aug s fun x y ρ M r M' h => ?_⟩
  unfold oSubI at h
  split at h
  · cases h; exact ⟨_, _, rfl, rfl, rfl, rfl⟩
  · cases h
end
/-! ### defs -/
section
variable {K : PySem.W.Frag} {P : Program} {w : World} {mg : Str → Option Value} {base : Heap} {x qual : Str} {st : Stmt} {f : Addr} {fd : FuncData} {N ps : List Str} {k n : Nat} {F : Fd} {fb : Sv}
theorem fn_okG (FU : Fun K x qual st f fd) (S : FnScope N ps (defScope st)) (hn : ps.length = n)
    (body : ∀ (cdv : Value) (A : Around) (outer : List PySem.Env) (s : Shared) (H : Hp) (E : XK), Rg k (A.deeper (envOfC qual (defScope st) s.heap.objs.size f cdv)) → DSs (cxOf CX0 P w K mg base N qual (defScope st) f cdv A outer s H E).nox W0 (defBody st) fb)
    (hF : ∀ ds M r M', ds.length = n → F ds M = some (r, M') → M.length ≤ M'.length ∧ ∃ o M2, fb (startD N ds) M = some (o, M2) ∧ Exit o M2 r M')
    (hx : ∀ ds M C M', F ds M ≠ some (.exc C, M')) : GOk P w K mg base CX0 (k + 1) f fd ps (spF K mg n F) := by
  refine gok_of FU S (fun vs H Q E h => (spF_len h).trans hn.symm) fun cdv A outer s H vs Q E hr h => ?_
  obtain ⟨t, p, sn⟩ := body cdv A outer s H E hr
  refine ⟨t, p.nox, ?_⟩
  obtain ⟨θ, G, ds, M, r, M', rs, rv, hl, e, kk⟩ := h
  obtain ⟨hle, o, M2, e2, ex⟩ := hF ds M r M' hl e
  cases r with
  | exc C => exact absurd e (hx ds M C M')
  | ok d =>
    exact body_ok (mg := fun _ => some (.ref 0)) (W := W0) (E := fun _ _ _ => False) (fun _ _ _ h => h 0 rfl) sn hF ⟨θ, G, ds, M, .ok d, M', rs, rv, hl, e, fun θ' G' H' p' s' rs' => ⟨fun x C hC => (by cases hC), (kk θ' G' H' p' s' rs').2⟩⟩
theorem fn_okXG (FU : Fun K x qual st f fd) (S : FnScope N ps (defScope st)) (hn : ps.length = n)
    (body : ∀ (cdv : Value) (A : Around) (outer : List PySem.Env) (s : Shared) (H : Hp) (E : XK), Rg k (A.deeper (envOfC qual (defScope st) s.heap.objs.size f cdv)) → DSs (cxOf (L2.CX P w) P w K mg base N qual (defScope st) f cdv A outer s H E) (fun x _ H => ∀ C, mg x = some (.ref C) → E (.ref C) none H) (defBody st) fb)
    (hF : ∀ ds M r M', ds.length = n → F ds M = some (r, M') → M.length ≤ M'.length ∧ ∃ o M2, fb (startD N ds) M = some (o, M2) ∧ Exit o M2 r M') : GOk P w K mg base (L2.CX P w) (k + 1) f fd ps (spF K mg n F) := by
  refine gok_of FU S (fun vs H Q E h => (spF_len h).trans hn.symm) fun cdv A outer s H vs Q E hr h => ?_
  obtain ⟨t, p, sn⟩ := body cdv A outer s H E hr
  exact ⟨t, p, body_ok (fun _ _ _ h => h) sn hF h⟩
end
end Bw
namespace Bw
open PySem PySem.Spec PyProof.Rows L2
theorem rp_c2 {K : PySem.W.Frag} {a : Addr} {od : Option Addr} {n : Nat} {sl : Array (Option Value)} {t0 t1 : Tok} {i j : Int} (l : K.lookup a = some ⟨.type "tuple", od, .seq #[.int i t0, .int j t1] n, sl⟩) (G : Hp) : Rp K G (.ref a) (.tup [.int i, .int j]) := by
  have r : RpL K G [V.int i, V.int j] [.int i, .int j] := RpL.cons (.int i) (RpL.cons (.int j) RpL.nil)
  have v : Vals [V.int i, V.int j] [Value.int i t0, Value.int j t1] := .cons ⟨t0, rfl⟩ (.cons ⟨t1, rfl⟩ .nil)
  have z : (#[Value.int i t0, Value.int j t1] : Array Value).size ≤ sizeLine := by rw [sizeLine_eq]; simp
  exact .tup (.inr ⟨_, _, n, l, rfl, rfl, z, v⟩) r.len r.get
end Bw
namespace Bw
open PySem PySem.Spec PyProof.Rows L2
/-! ### == of texts -/
def oEqS (d e : D) : Ev D := match d, e with
  | .str a, .str b => ret (.bl (decide (a = b)))
  | _, _ => stk
def oNeS (d e : D) : Ev D := match d, e with
  | .str a, .str b => ret (.bl (!decide (a = b)))
  | _, _ => stk
section
variable {X : Cx} {W : WN} {pos : Pos} {K : PySem.W.Frag} {a b : Expr} {f g : Ev D}
theorem Rv.str_of {θ : List Addr} {G : Hp} {v : V} {z : Str} (h : Rv K θ G v (.str z)) : v = .str z := by
  cases h with
  | dat h => cases h; rfl
theorem dec_str (a b : Str) : decide (V.str a = V.str b) = decide (a = b) := by
  by_cases h : a = b
  · subst h; simp
  · rw [decide_eq_false h, decide_eq_false fun z => h (by cases z; rfl)]
theorem snd_eqS : SndO K W rEq oEqS := by
  intro θ G x y d e hx hy
  unfold oEqS
  split
  · rename_i a b
    rw [hx.str_of, hy.str_of]
    intro ρ M r M' θ1 G1 σ H Q p s e rs rv kk
    refine ⟨rfl, ?_⟩
    rw [dec_str]
    exact Snd.ret (K := K) (W := W) (R := RV K) (θ0 := θ) (G0 := G) (fun _ _ _ _ => rv_bl) ρ M r M' θ1 G1 σ H Q p s e rs rv kk
  · exact Snd.stk
theorem snd_neS : SndO K W rNe oNeS := by
  intro θ G x y d e hx hy
  unfold oNeS
  split
  · rename_i a b
    rw [hx.str_of, hy.str_of]
    intro ρ M r M' θ1 G1 σ H Q p s e rs rv kk
    refine ⟨rfl, ?_⟩
    rw [dec_str]
    exact Snd.ret (K := K) (W := W) (R := RV K) (θ0 := θ) (G0 := G) (fun _ _ _ _ => rv_bl) ρ M r M' θ1 G1 σ H Q p s e rs rv kk
  · exact Snd.stk
theorem de_eqS (ha : DE X W a f) (hb : DE X W b g) : DE X W (.Compare a [.Eq] [b] pos) (bnd f fun d => bnd g fun e => oEqS d e) := de_cmp op_eq snd_eqS ha hb (nomark _)
theorem de_neS (ha : DE X W a f) (hb : DE X W b g) : DE X W (.Compare a [.NotEq] [b] pos) (bnd f fun d => bnd g fun e => oNeS d e) := de_cmp op_ne snd_neS ha hb (nomark _)
theorem dt_eqS (ha : DE X W a f) (hb : DE X W b g) : DT X W (.Compare a [.Eq] [b] pos) (bnd (bnd f fun d => bnd g fun e => oEqS d e) asB) := dt_cmp op_eq snd_eqS ha hb (nomark _)
theorem dt_neS (ha : DE X W a f) (hb : DE X W b g) : DT X W (.Compare a [.NotEq] [b] pos) (bnd (bnd f fun d => bnd g fun e => oNeS d e) asB) := dt_cmp op_ne snd_neS ha hb (nomark _)
end
theorem oEqS_ap (a b : Str) (ρ : Env) (M : Mem) : oEqS (.str a) (.str b) ρ M = some (.ok (.bl (decide (a = b))), M) := rfl
theorem oNeS_ap (a b : Str) (ρ : Env) (M : Mem) : oNeS (.str a) (.str b) ρ M = some (.ok (.bl (!decide (a = b))), M) := rfl
/-! ### what is shown -/
structure Sh (k n : Nat) (d : D) : Prop where
  pl : d.pl = true
  sh : (toPy d).showable = true
  nd : (toPy d).hasDict = false
  dp : (toPy d).depth ≤ k
  ln : (toPy d).shown.length ≤ 2000 * n
theorem Sh.mono {k n k' n' : Nat} {d : D} (h : Sh k n d) (hk : k ≤ k') (hn : n ≤ n') : Sh k' n' d := ⟨h.pl, h.sh, h.nd, Nat.le_trans h.dp hk, Nat.le_trans h.ln (Nat.mul_le_mul_left _ hn)⟩
theorem Sh.int {i : Int} (h : i.natAbs.log2 < 1920) : Sh 0 1 (.int i) := ⟨rfl, by simpa [toPy, PyData.showable] using h, rfl, by simp [toPy, PyData.depth], by
  have := int_text_len_1921 h
  simp only [toPy, PyData.shown]
  omega⟩
theorem Sh.non : Sh 0 1 .non := ⟨rfl, rfl, rfl, by simp [toPy, PyData.depth], by show (PySem.Str.ofString "None").length ≤ _; decide⟩
theorem Sh.bl (b : Bool) : Sh 0 1 (.bl b) := ⟨rfl, rfl, rfl, by simp [toPy, PyData.depth], by cases b <;> simp only [toPy, PyData.shown] <;> decide⟩
theorem plL_of : ∀ {ds : List D}, (∀ d ∈ ds, d.pl = true) → plL ds = true
  | [], _ => rfl
  | d :: ds, h => by
    unfold plL
    rw [h d (by simp), plL_of fun e he => h e (by simp [he])]
    rfl
theorem shL_of : ∀ {ds : List D}, (∀ d ∈ ds, (toPy d).showable = true) → PyData.showableAll (toPys ds) = true
  | [], _ => rfl
  | d :: ds, h => by
    simp only [toPys, PyData.showableAll]
    rw [h d (by simp), shL_of fun e he => h e (by simp [he])]
    rfl
theorem ndL_of : ∀ {ds : List D}, (∀ d ∈ ds, (toPy d).hasDict = false) → PyData.hasDictAll (toPys ds) = false
  | [], _ => rfl
  | d :: ds, h => by
    simp only [toPys, PyData.hasDictAll]
    rw [h d (by simp), ndL_of fun e he => h e (by simp [he])]
    rfl
theorem dpL_of {k : Nat} : ∀ {ds : List D}, (∀ d ∈ ds, (toPy d).depth ≤ k) → PyData.depthAll (toPys ds) ≤ k
  | [], _ => by simp [toPys, PyData.depthAll]
  | d :: ds, h => by
    simp only [toPys, PyData.depthAll]
    have h1 := h d (by simp)
    have h2 := dpL_of (ds := ds) fun e he => h e (by simp [he])
    omega
theorem lnL_of {n : Nat} : ∀ {ds : List D}, (∀ d ∈ ds, (toPy d).shown.length ≤ n) → piled (PyData.shownAll (toPys ds)) ≤ ds.length * (n + 2)
  | [], _ => by simp [toPys, PyData.shownAll, piled]
  | d :: ds, h => by
    simp only [toPys, PyData.shownAll]
    rw [piled_cons]
    have h1 := h d (by simp)
    have h2 := lnL_of (ds := ds) fun e he => h e (by simp [he])
    rw [List.length_cons, Nat.succ_mul]
    omega
theorem textFrom_le : ∀ (ts : List Str) (k : Nat) (acc : Str), (textFrom k acc ts).length ≤ acc.length + piled ts
  | [], k, acc => by simp [textFrom]
  | t :: ts, k, acc => by
    unfold textFrom
    refine Nat.le_trans (textFrom_le ts _ _) ?_
    rw [strLen_append, strLen_append, piled_cons]
    have : ((if k > 0 then ", " else "" : String) : Str).length ≤ 2 := by split <;> decide
    omega
theorem join_le (ts : List Str) : (Str.join ", " ts).length ≤ piled ts := by
  cases ts with
  | nil => exact Nat.zero_le _
  | cons t r =>
    have := join_length_add (t :: r) (by simp)
    omega
theorem Sh.tup {k n : Nat} {ds : List D} (h : ∀ d ∈ ds, Sh k n d) : Sh (k + 1) (ds.length * (n + 1) + 1) (.tup ds) := by
  refine ⟨?_, ?_, ?_, ?_, ?_⟩
  · unfold D.pl; exact plL_of fun d hd => (h d hd).pl
  · simp only [toPy, PyData.showable]; exact shL_of fun d hd => (h d hd).sh
  · simp only [toPy, PyData.hasDict]; exact ndL_of fun d hd => (h d hd).nd
  · simp only [toPy, PyData.depth]
    have := dpL_of fun d hd => (h d hd).dp
    omega
  · simp only [toPy, PyData.shown]
    have h1 := lnL_of fun d hd => (h d hd).ln
    have h2 := join_le (PyData.shownAll (toPys ds))
    unfold tupleText
    rw [strLen_append, strLen_append]
    have e1 : (("(" : String) : Str).length = 1 := by decide
    have e2 : ((if (PyData.shownAll (toPys ds)).length == 1 then ",)" else ")" : String) : Str).length ≤ 2 := by split <;> decide
    have e3 : ds.length * (2000 * n + 2) ≤ 2000 * (ds.length * (n + 1)) := by
      have a1 : 2000 * n + 2 ≤ 2000 * (n + 1) := by omega
      have a2 := Nat.mul_le_mul_left ds.length a1
      have a3 : ds.length * (2000 * (n + 1)) = 2000 * (ds.length * (n + 1)) := Nat.mul_left_comm _ _ _
      omega
    rw [e1]
    omega
theorem Sh.lst {k n : Nat} {ds : List D} (h : ∀ d ∈ ds, Sh k n d) : Sh (k + 1) (ds.length * (n + 1) + 1) (.lst ds) := by
  refine ⟨?_, ?_, ?_, ?_, ?_⟩
  · unfold D.pl; exact plL_of fun d hd => (h d hd).pl
  · simp only [toPy, PyData.showable]; exact shL_of fun d hd => (h d hd).sh
  · simp only [toPy, PyData.hasDict]; exact ndL_of fun d hd => (h d hd).nd
  · simp only [toPy, PyData.depth]
    have := dpL_of fun d hd => (h d hd).dp
    omega
  · simp only [toPy, PyData.shown]
    have h1 := lnL_of fun d hd => (h d hd).ln
    have h2 := textFrom_le (PyData.shownAll (toPys ds)) 0 "["
    unfold listText
    rw [strLen_append]
    have e1 : (("[" : String) : Str).length = 1 := by decide
    have e2 : (("]" : String) : Str).length = 1 := by decide
    have e3 : ds.length * (2000 * n + 2) ≤ 2000 * (ds.length * (n + 1)) := by
      have a1 : 2000 * n + 2 ≤ 2000 * (n + 1) := by omega
      have a2 := Nat.mul_le_mul_left ds.length a1
      have a3 : ds.length * (2000 * (n + 1)) = 2000 * (ds.length * (n + 1)) := Nat.mul_left_comm _ _ _
      omega
    rw [e1] at h2
    rw [e2]
    omega
theorem bd_log {q : Rat} (h : Bd 1900 q) : q.num.natAbs.log2 < 1920 ∧ ((q.den : Int)).natAbs.log2 < 1920 := by
  have h1 := log2_le_of h.1
  have h2 := log2_le_of h.2
  rw [Int.natAbs_natCast]
  omega
theorem Sh.fr {q : Rat} (h : Bd 1900 q) : Sh 1 5 (frQ q) := by
  obtain ⟨h1, h2⟩ := bd_log h
  have t := Sh.tup (k := 0) (n := 1) (ds := [.int q.num, .int (q.den : Int)]) (by
    simp only [List.mem_cons, List.not_mem_nil, or_false]
    rintro d (rfl | rfl)
    · exact Sh.int h1
    · exact Sh.int h2)
  exact t
theorem oReprD_ap {k n : Nat} {d : D} (h : Sh k n d) (hk : k ≤ 100) (hn : n ≤ 8000) (ρ : Env) (M : Mem) : oReprD [d] ρ M = some (.ok (.str (toPy d).shown), M) := by
  unfold oReprD
  dsimp only
  rw [if_pos ⟨h.pl, h.sh, h.nd, Nat.le_trans h.dp hk, by have := h.ln; omega⟩]
  rfl
/-! ### evaluation of the new parts -/
theorem oItS_lst (ds : List D) (ρ : Env) (M : Mem) : oItS (.lst ds) ρ M = some (.ok ds, M) := rfl
theorem oItS_tup (ds : List D) (ρ : Env) (M : Mem) : oItS (.tup ds) ρ M = some (.ok ds, M) := rfl
theorem oTupOf_lst (ds : List D) (ρ : Env) (M : Mem) : oTupOf [.lst ds] ρ M = some (.ok (.tup ds), M) := rfl
theorem oTupOf_tup (ds : List D) (ρ : Env) (M : Mem) : oTupOf [.tup ds] ρ M = some (.ok (.tup ds), M) := rfl
theorem oLstOf_lst (ds : List D) (ρ : Env) (M : Mem) : oLstOf [.lst ds] ρ M = some (.ok (.lst ds), M) := rfl
theorem oLstOf_tup (ds : List D) (ρ : Env) (M : Mem) : oLstOf [.tup ds] ρ M = some (.ok (.lst ds), M) := rfl
theorem oTupOf_ptr {n : Nat} {ds : List D} (ρ : Env) {M : Mem} (h : M[n]? = some (some ds)) : oTupOf [.ptr n] ρ M = some (.ok (.tup ds), M) := by
  unfold oTupOf oSq seqOf
  dsimp only
  rw [h]
theorem oRv_lst (ds : List D) (ρ : Env) (M : Mem) : oRv (.lst ds) ρ M = some (.ok (.lst ds.reverse), M) := rfl
theorem oRv_tup (ds : List D) (ρ : Env) (M : Mem) : oRv (.tup ds) ρ M = some (.ok (.tup ds.reverse), M) := rfl
theorem oAdd_tup (a b : List D) (ρ : Env) (M : Mem) (h : a.length + b.length ≤ 16777216) : oAdd (.tup a) (.tup b) ρ M = some (.ok (.tup (a ++ b)), M) := by
  unfold oAdd
  dsimp only
  rw [if_pos h]; rfl
theorem dChain_ap (f g h : Ev D) (o o' : D → D → Ev D) (ρ : Env) (M : Mem) : dChain f g h o o' ρ M = bindR (f ρ M) fun x M1 => bindR (g ρ M1) fun y M2 => bindR (o x y ρ M2) fun z M3 => bindR (asB z ρ M3) fun k M4 => if k = true then bindR (h ρ M4) fun w M5 => o' y w ρ M5 else some (.ok (.bl false), M4) := by
  unfold dChain
  simp only [bnd_ap]
  congr
  funext x M1
  congr
  funext y M2
  congr
  funext z M3
  congr
  funext k M4
  split <;> rfl
theorem oLen_ptr {n : Nat} {ds : List D} (ρ : Env) {M : Mem} (h : M[n]? = some (some ds)) : oLen [.ptr n] ρ M = some (.ok (.int ds.length), M) := by
  unfold oLen seqOf
  dsimp only
  rw [h]
theorem okPtr_ap {n : Nat} {ds : List D} (ρ : Env) {M : Mem} (h : M[n]? = some (some ds)) : okPtr (.ptr n) ρ M = some (.ok (.ptr n), M) := by
  unfold okPtr
  dsimp only
  rw [h]
theorem oApp_ap {n : Nat} {ds : List D} {d : D} (ρ : Env) {M : Mem} (h : M[n]? = some (some ds)) (hd : d.np = true) (hl : ds.length < 16777216) : oApp (.ptr n) d ρ M = some (.ok .non, M.set n (some (ds ++ [d]))) := by
  unfold oApp
  dsimp only
  rw [h]
  dsimp only
  rw [if_pos ⟨hd, hl⟩]
theorem asTru_bl (b : Bool) (ρ : Env) (M : Mem) : asTru (.bl b) ρ M = some (.ok b, M) := rfl
theorem asTru_tup (ds : List D) (ρ : Env) (M : Mem) : asTru (.tup ds) ρ M = some (.ok (!ds.isEmpty), M) := rfl
theorem asTru_lst (ds : List D) (ρ : Env) (M : Mem) : asTru (.lst ds) ρ M = some (.ok (!ds.isEmpty), M) := rfl
theorem oIsN_ap (d : D) (ρ : Env) (M : Mem) : oIsN d .non ρ M = some (.ok (.bl d.isN), M) := rfl
theorem oNotN_ap (d : D) (ρ : Env) (M : Mem) : oNotN d .non ρ M = some (.ok (.bl (!d.isN)), M) := rfl
theorem asI_ap (i : Int) (ρ : Env) (M : Mem) : asI (.int i) ρ M = some (.ok (some i), M) := rfl
theorem oSl_tup (ds : List D) (l u : Option Int) (ρ : Env) (M : Mem) : oSl (.tup ds) l u ρ M = some (.ok (.tup (cutD ds l u)), M) := rfl
theorem oSl_lst (ds : List D) (l u : Option Int) (ρ : Env) (M : Mem) : oSl (.lst ds) l u ρ M = some (.ok (.lst (cutD ds l u)), M) := rfl
theorem oZip_tup (a b : List D) (ρ : Env) (M : Mem) : oZip [.tup a, .tup b] ρ M = some (.ok (zipD a b), M) := rfl
theorem oZip_lst (a b : List D) (ρ : Env) (M : Mem) : oZip [.lst a, .lst b] ρ M = some (.ok (zipD a b), M) := rfl
theorem oAddI_ap (i j : Int) (ρ : Env) (M : Mem) : oAddI (.int i) (.int j) ρ M = some (.ok (.int (i + j)), M) := rfl
theorem sAug_ap (i : Nat) (f : Ev D) (o : D → D → Ev D) (ρ : Env) (M : Mem) (d : D) (h : ρ[i]? = some (some d)) : sAug i f o ρ M = thenR (f ρ M) ρ fun e M1 => thenR (o d e ρ M1) ρ fun z M2 => some (.nx (ρ.set i (some z)), M2) := by
  unfold sAug
  rw [h]
  rfl
/-! ### rows of plain data -/
theorem shaped_row {ds : List D} (h : ∀ d ∈ ds, (toPy d).canLay0 = true ∧ (toPy d).depth ≤ 60) : SeqAt.shaped (.list (toPys ds)) = true ∧ SeqAt.shaped (.tuple (toPys ds)) = true := by
  have h1 : PyData.canLayAll0 (toPys ds) = true := by
    induction ds with
    | nil => rfl
    | cons d ds ih =>
      simp only [toPys, PyData.canLayAll0]
      rw [(h d (by simp)).1, ih fun e he => h e (by simp [he])]
      rfl
  have h2 := dpL_of (k := 60) fun d hd => (h d hd).2
  constructor <;> (unfold SeqAt.shaped; simp only [PyData.canLay0, PyData.depth, h1, Bool.true_and]; exact decide_eq_true (by omega))
theorem fr_lay (q : Rat) : (toPy (frQ q)).canLay0 = true ∧ (toPy (frQ q)).depth ≤ 60 := ⟨rfl, by simp [frQ, toPy, toPys, PyData.depth, PyData.depthAll]⟩
theorem shaped_frs (qs : List Rat) : SeqAt.shaped (.list (toPys (qs.map frQ))) = true ∧ SeqAt.shaped (.tuple (toPys (qs.map frQ))) = true := shaped_row (by
  simp only [List.mem_map]
  rintro d ⟨q, _, rfl⟩
  exact fr_lay q)
theorem plL_frs (qs : List Rat) : plL (qs.map frQ) = true := plL_of (by
  simp only [List.mem_map]
  rintro d ⟨q, _, rfl⟩
  rfl)
theorem any_frs (q : Rat) : ∀ qs : List Rat, ((toPys (qs.map frQ)).any fun z => PyData.eqv z (toPy (frQ q))) = qs.any fun z => decide (z = q)
  | [] => rfl
  | x :: qs => by
    rw [List.map_cons, toPys, List.any_cons, any_frs q qs, eqv_fr, List.any_cons]
theorem oInD_frs (neg : Bool) (q : Rat) (qs : List Rat) (ρ : Env) (M : Mem) : oInD neg (frQ q) (.tup (qs.map frQ)) ρ M = some (.ok (.bl (if neg then !qs.any (fun z => decide (z = q)) else qs.any fun z => decide (z = q))), M) := by
  unfold oInD
  rw [if_pos ⟨rfl, plL_frs qs, shaped_fr q, (shaped_frs qs).2⟩]
  dsimp only
  rw [any_frs]
  rfl
theorem oNeM_nil {n : Nat} {qs : List Rat} (ρ : Env) {M : Mem} (h : M[n]? = some (some (qs.map frQ))) : oNeM (.ptr n) (.lst []) ρ M = some (.ok (.bl (!qs.isEmpty)), M) := by
  unfold oNeM frz
  dsimp only
  rw [h]
  dsimp only
  unfold oNe
  rw [if_pos ⟨plL_frs qs, rfl, (shaped_frs qs).1, rfl⟩]
  cases qs <;> rfl
theorem oNe_nil (ρ : Env) (M : Mem) : oNe (.lst []) (.lst []) ρ M = some (.ok (.bl false), M) := rfl
end Bw
namespace Bw
open PySem PySem.Spec PyProof.Rows L2
def C_NOUGHT : D := .tup [.int 0, .int 1]
noncomputable def den_common_L1 : Sv :=
  (sPar 0 1 (dCons (dVar 1) (dCons (bnd (dVar 0) fun d => bnd (dVar 1) fun e => oMod d e) dNil)))
noncomputable def den_common : Sv :=
  (sSeq (sWhile (bnd (bnd (dVar 1) fun d => bnd (ret (.int 0)) fun e => oNe d e) asB) den_common_L1)
  (sRet (bnd (dCons (dVar 0) dNil) oAbs)))
noncomputable def F_common : Fd := runF 0 ["a", "b"] den_common
theorem hF_common : ∀ ds M r M', ds.length = 2 → F_common ds M = some (r, M') → M.length ≤ M'.length ∧ ∃ o M2, den_common (startD ["a", "b"] ds) M = some (o, M2) ∧ Exit o M2 r M' := runF_ok
theorem hX_common : ∀ ds M C M', F_common ds M ≠ some (.exc C, M') := runF_nx
noncomputable def den_plus : Sv :=
  (sSeq (sAsg (dVar 0) (gTp 2 (gCn (gNm 5) (gCn (gNm 6) gNl))))
  (sSeq (sAsg (dVar 1) (gTp 2 (gCn (gNm 7) (gCn (gNm 8) gNl))))
  (sSeq (sAsg (bnd (dCons (dVar 6) (dCons (dVar 8) dNil)) (oCall 2 F_common)) (gNm 2))
  (sSeq (sAsg (bnd (bnd (dVar 5) fun d => bnd (bnd (dVar 8) fun d => bnd (dVar 2) fun e => oDiv d e) fun e => oMul d e) fun d => bnd (bnd (dVar 7) fun d => bnd (bnd (dVar 6) fun d => bnd (dVar 2) fun e => oDiv d e) fun e => oMul d e) fun e => oAdd d e) (gNm 3))
  (sSeq (sAsg (bnd (dCons (dVar 3) (dCons (dVar 2) dNil)) (oCall 2 F_common)) (gNm 4))
  (sRet (bnd (dCons (bnd (dVar 3) fun d => bnd (dVar 4) fun e => oDiv d e) (dCons (bnd (bnd (dVar 6) fun d => bnd (dVar 2) fun e => oDiv d e) fun d => bnd (bnd (dVar 8) fun d => bnd (dVar 4) fun e => oDiv d e) fun e => oMul d e) dNil)) oTup)))))))
noncomputable def F_plus : Fd := runF 0 ["one", "other", "shared", "top", "again", "a", "b", "c", "d"] den_plus
theorem hF_plus : ∀ ds M r M', ds.length = 2 → F_plus ds M = some (r, M') → M.length ≤ M'.length ∧ ∃ o M2, den_plus (startD ["one", "other", "shared", "top", "again", "a", "b", "c", "d"] ds) M = some (o, M2) ∧ Exit o M2 r M' := runF_ok
theorem hX_plus : ∀ ds M C M', F_plus ds M ≠ some (.exc C, M') := runF_nx
noncomputable def den_less : Sv :=
  (sSeq (sAsg (dVar 1) (gTp 2 (gCn (gNm 2) (gCn (gNm 3) gNl))))
  (sRet (bnd (dCons (dVar 0) (dCons (bnd (dCons (bnd (dVar 2) oNeg) (dCons (dVar 3) dNil)) oTup) dNil)) (oCall 2 F_plus))))
noncomputable def F_less : Fd := runF 0 ["one", "other", "c", "d"] den_less
theorem hF_less : ∀ ds M r M', ds.length = 2 → F_less ds M = some (r, M') → M.length ≤ M'.length ∧ ∃ o M2, den_less (startD ["one", "other", "c", "d"] ds) M = some (o, M2) ∧ Exit o M2 r M' := runF_ok
theorem hX_less : ∀ ds M C M', F_less ds M ≠ some (.exc C, M') := runF_nx
noncomputable def den_times : Sv :=
  (sSeq (sAsg (dVar 0) (gTp 2 (gCn (gNm 4) (gCn (gNm 5) gNl))))
  (sSeq (sAsg (dVar 1) (gTp 2 (gCn (gNm 6) (gCn (gNm 7) gNl))))
  (sSeq (sAsg (bnd (dCons (dVar 4) (dCons (dVar 7) dNil)) (oCall 2 F_common)) (gNm 2))
  (sSeq (sAsg (bnd (dCons (dVar 6) (dCons (dVar 5) dNil)) (oCall 2 F_common)) (gNm 3))
  (sRet (bnd (dCons (bnd (bnd (dVar 4) fun d => bnd (dVar 2) fun e => oDiv d e) fun d => bnd (bnd (dVar 6) fun d => bnd (dVar 3) fun e => oDiv d e) fun e => oMul d e) (dCons (bnd (bnd (dVar 5) fun d => bnd (dVar 3) fun e => oDiv d e) fun d => bnd (bnd (dVar 7) fun d => bnd (dVar 2) fun e => oDiv d e) fun e => oMul d e) dNil)) oTup))))))
noncomputable def F_times : Fd := runF 0 ["one", "other", "left", "right", "a", "b", "c", "d"] den_times
theorem hF_times : ∀ ds M r M', ds.length = 2 → F_times ds M = some (r, M') → M.length ≤ M'.length ∧ ∃ o M2, den_times (startD ["one", "other", "left", "right", "a", "b", "c", "d"] ds) M = some (o, M2) ∧ Exit o M2 r M' := runF_ok
theorem hX_times : ∀ ds M C M', F_times ds M ≠ some (.exc C, M') := runF_nx
noncomputable def den_is_less : Sv :=
  (sSeq (sAsg (dVar 0) (gTp 2 (gCn (gNm 2) (gCn (gNm 3) gNl))))
  (sSeq (sAsg (dVar 1) (gTp 2 (gCn (gNm 4) (gCn (gNm 5) gNl))))
  (sRet (bnd (bnd (dVar 2) fun d => bnd (dVar 5) fun e => oMul d e) fun d => bnd (bnd (dVar 4) fun d => bnd (dVar 3) fun e => oMul d e) fun e => oLt d e))))
noncomputable def F_is_less : Fd := runF 0 ["one", "other", "a", "b", "c", "d"] den_is_less
theorem hF_is_less : ∀ ds M r M', ds.length = 2 → F_is_less ds M = some (r, M') → M.length ≤ M'.length ∧ ∃ o M2, den_is_less (startD ["one", "other", "a", "b", "c", "d"] ds) M = some (o, M2) ∧ Exit o M2 r M' := runF_ok
theorem hX_is_less : ∀ ds M C M', F_is_less ds M ≠ some (.exc C, M') := runF_nx
noncomputable def den_least_L1 : Sv :=
  (sIf (bnd (bnd (dCons (dVar 2) (dCons (dVar 1) dNil)) (oCall 2 F_is_less)) asB) (sAsg (dVar 2) (gNm 1)) sNext)
noncomputable def den_least : Sv :=
  (sSeq (sAsg (bnd (dVar 0) fun d => bnd (ret (.int 0)) fun e => oIx d e) (gNm 1))
  (sSeq (sFor (bnd (dVar 0) oItS) (gNm 2) den_least_L1)
  (sRet (dVar 1))))
noncomputable def F_least : Fd := runF 0 ["some", "best", "one"] den_least
theorem hF_least : ∀ ds M r M', ds.length = 1 → F_least ds M = some (r, M') → M.length ≤ M'.length ∧ ∃ o M2, den_least (startD ["some", "best", "one"] ds) M = some (o, M2) ∧ Exit o M2 r M' := runF_ok
theorem hX_least : ∀ ds M C M', F_least ds M ≠ some (.exc C, M') := runF_nx
noncomputable def den_greatest_L1 : Sv :=
  (sIf (bnd (bnd (dCons (dVar 1) (dCons (dVar 2) dNil)) (oCall 2 F_is_less)) asB) (sAsg (dVar 2) (gNm 1)) sNext)
noncomputable def den_greatest : Sv :=
  (sSeq (sAsg (bnd (dVar 0) fun d => bnd (ret (.int 0)) fun e => oIx d e) (gNm 1))
  (sSeq (sFor (bnd (dVar 0) oItS) (gNm 2) den_greatest_L1)
  (sRet (dVar 1))))
noncomputable def F_greatest : Fd := runF 0 ["some", "best", "one"] den_greatest
theorem hF_greatest : ∀ ds M r M', ds.length = 1 → F_greatest ds M = some (r, M') → M.length ≤ M'.length ∧ ∃ o M2, den_greatest (startD ["some", "best", "one"] ds) M = some (o, M2) ∧ Exit o M2 r M' := runF_ok
theorem hX_greatest : ∀ ds M C M', F_greatest ds M ≠ some (.exc C, M') := runF_nx
noncomputable def den_summed_L1 : Sv :=
  (sAsg (bnd (dCons (dVar 1) (dCons (dVar 2) dNil)) (oCall 2 F_plus)) (gNm 1))
noncomputable def den_summed : Sv :=
  (sSeq (sAsg (ret C_NOUGHT) (gNm 1))
  (sSeq (sFor (bnd (dVar 0) oItS) (gNm 2) den_summed_L1)
  (sRet (dVar 1))))
noncomputable def F_summed : Fd := runF 0 ["some", "total", "one"] den_summed
theorem hF_summed : ∀ ds M r M', ds.length = 1 → F_summed ds M = some (r, M') → M.length ≤ M'.length ∧ ∃ o M2, den_summed (startD ["some", "total", "one"] ds) M = some (o, M2) ∧ Exit o M2 r M' := runF_ok
theorem hX_summed : ∀ ds M C M', F_summed ds M ≠ some (.exc C, M') := runF_nx
noncomputable def den_floor : Sv :=
  (sSeq (sAsg (dVar 0) (gTp 2 (gCn (gNm 1) (gCn (gNm 2) gNl))))
  (sRet (bnd (dVar 1) fun d => bnd (dVar 2) fun e => oDiv d e)))
noncomputable def F_floor : Fd := runF 0 ["one", "a", "b"] den_floor
theorem hF_floor : ∀ ds M r M', ds.length = 1 → F_floor ds M = some (r, M') → M.length ≤ M'.length ∧ ∃ o M2, den_floor (startD ["one", "a", "b"] ds) M = some (o, M2) ∧ Exit o M2 r M' := runF_ok
theorem hX_floor : ∀ ds M C M', F_floor ds M ≠ some (.exc C, M') := runF_nx
noncomputable def den__law_reel : Sv :=
  (sSeq (sAsg (ret (.int 0)) (gNm 2))
  (sSeq (sIf (bnd (bnd (dVar 1) fun d => bnd (bnd (dCons (dVar 0) dNil) oLen) fun e => oLt d e) asB) (sAsg (bnd (dVar 0) fun d => bnd (dVar 1) fun e => oIx d e) (gNm 2)) sNext)
  (sRet (bnd (dCons (bnd (dCons (ret (.int 0)) (dCons (bnd (dVar 2) fun d => bnd (bnd (ret (.int 10)) fun d => bnd (ret (.int 18)) fun e => oPow d e) fun e => oSub d e) dNil)) oMax) (dCons (bnd (bnd (dVar 2) fun d => bnd (ret (.int 2147483629)) fun e => oMod d e) fun d => bnd (bnd (ret (.int 104729)) fun d => bnd (dVar 1) fun e => oMul d e) fun e => oAdd d e) (dCons (ret (.int 0)) dNil))) oNew))))
noncomputable def F__law_reel : Fd := runF 1 ["_law_script", "_law_k", "_law_cell"] den__law_reel
theorem hF__law_reel : ∀ ds M r M', ds.length = 2 → F__law_reel ds M = some (r, M') → M.length ≤ M'.length ∧ ∃ o M2, den__law_reel (startD ["_law_script", "_law_k", "_law_cell"] ds) M = some (o, M2) ∧ Exit o M2 r M' := runF_ok
theorem hX__law_reel : ∀ ds M C M', F__law_reel ds M ≠ some (.exc C, M') := runF_nx
noncomputable def den__law_draw : Sv :=
  (sSeq (sIf (bnd (bnd (bnd (dVar 0) fun d => bnd (ret (.int 0)) fun e => oIx d e) fun d => bnd (ret (.int 0)) fun e => oGt d e) asB) (sSeq (sAsg (bnd (bnd (dVar 0) fun d => bnd (ret (.int 0)) fun e => oIx d e) fun d => bnd (dVar 1) fun e => oMod d e) (gNm 5))
  (sSeq (sStore (bnd (bnd (dVar 0) fun d => bnd (ret (.int 0)) fun e => oIx d e) fun d => bnd (dVar 1) fun e => oDiv d e) (dVar 0) (ret (.int 0)))
  (sRet (dVar 5)))) sNext)
  (sSeq (sStore (bnd (bnd (dVar 0) fun d => bnd (ret (.int 2)) fun e => oIx d e) fun d => bnd (ret (.int 1)) fun e => oAdd d e) (dVar 0) (ret (.int 2)))
  (sSeq (sAsg (bnd (dVar 0) fun d => bnd (ret (.int 2)) fun e => oIx d e) (gNm 2))
  (sSeq (sAsg (bnd (dCons (ret (.int 2147483587)) (dCons (ret (.int 2147483579)) (dCons (ret (.int 2147483563)) (dCons (ret (.int 2147483549)) (dCons (ret (.int 2147483543)) (dCons (ret (.int 2147483497)) (dCons (ret (.int 2147483489)) dNil))))))) oLst) (gNm 3))
  (sSeq (sAsg (bnd (bnd (bnd (bnd (dVar 0) fun d => bnd (ret (.int 1)) fun e => oIx d e) fun d => bnd (ret (.int 7)) fun e => oAdd d e) fun d => bnd (bnd (bnd (dVar 2) fun d => bnd (dVar 2) fun e => oMul d e) fun d => bnd (ret (.int 48271)) fun e => oAdd d e) fun e => oMul d e) fun d => bnd (bnd (dVar 3) fun d => bnd (bnd (dVar 2) fun d => bnd (ret (.int 7)) fun e => oMod d e) fun e => oIx d e) fun e => oMod d e) (gNm 4))
  (sSeq (sAsg (bnd (bnd (bnd (bnd (dVar 4) fun d => bnd (dVar 4) fun e => oMul d e) fun d => bnd (bnd (ret (.int 69621)) fun d => bnd (dVar 2) fun e => oMul d e) fun e => oAdd d e) fun d => bnd (ret (.int 12345)) fun e => oAdd d e) fun d => bnd (bnd (dVar 3) fun d => bnd (bnd (bnd (dVar 2) fun d => bnd (ret (.int 3)) fun e => oAdd d e) fun d => bnd (ret (.int 7)) fun e => oMod d e) fun e => oIx d e) fun e => oMod d e) (gNm 4))
  (sRet (bnd (bnd (bnd (bnd (dVar 4) fun d => bnd (bnd (dVar 4) fun d => bnd (ret (.int 40692)) fun e => oAdd d e) fun e => oMul d e) fun d => bnd (ret (.int 2147483629)) fun e => oMod d e) fun d => bnd (ret (.int 7)) fun e => oDiv d e) fun d => bnd (dVar 1) fun e => oMod d e))))))))
noncomputable def F__law_draw : Fd := runF 0 ["_law_reel_here", "_law_many", "_law_turn", "_law_primes", "_law_one", "_law_digit"] den__law_draw
theorem hF__law_draw : ∀ ds M r M', ds.length = 2 → F__law_draw ds M = some (r, M') → M.length ≤ M'.length ∧ ∃ o M2, den__law_draw (startD ["_law_reel_here", "_law_many", "_law_turn", "_law_primes", "_law_one", "_law_digit"] ds) M = some (o, M2) ∧ Exit o M2 r M' := runF_ok
theorem hX__law_draw : ∀ ds M C M', F__law_draw ds M ≠ some (.exc C, M') := runF_nx
noncomputable def den__law_low_L1 : Sv :=
  (sPar 3 4 (dCons (dVar 4) (dCons (bnd (dVar 3) fun d => bnd (dVar 4) fun e => oMod d e) dNil)))
noncomputable def den__law_low : Sv :=
  (sSeq (sPar 3 4 (dCons (bnd (dCons (dVar 0) dNil) oAbs) (dCons (bnd (dCons (dVar 1) dNil) oAbs) dNil)))
  (sSeq (sWhile (bnd (bnd (dVar 4) fun d => bnd (ret (.int 0)) fun e => oGt d e) asB) den__law_low_L1)
  (sSeq (sAsg (bnd (dVar 3) fun d => bnd (bnd (bnd (dCons (ret (.int 1)) (dCons (bnd (ret (.int 1)) oNeg) dNil)) oLst) fun d => bnd (bnd (dCons (bnd (dVar 1) fun d => bnd (ret (.int 0)) fun e => oLt d e) dNil) oToInt) fun e => oIx d e) fun e => oMul d e) (gNm 2))
  (sRet (bnd (dCons (bnd (dVar 0) fun d => bnd (dVar 2) fun e => oDiv d e) (dCons (bnd (dVar 1) fun d => bnd (dVar 2) fun e => oDiv d e) dNil)) oTup)))))
noncomputable def F__law_low : Fd := runF 0 ["_law_top", "_law_bottom", "_law_by", "_law_one", "_law_other"] den__law_low
theorem hF__law_low : ∀ ds M r M', ds.length = 2 → F__law_low ds M = some (r, M') → M.length ≤ M'.length ∧ ∃ o M2, den__law_low (startD ["_law_top", "_law_bottom", "_law_by", "_law_one", "_law_other"] ds) M = some (o, M2) ∧ Exit o M2 r M' := runF_ok
theorem hX__law_low : ∀ ds M C M', F__law_low ds M ≠ some (.exc C, M') := runF_nx
noncomputable def den__law_pair : Sv :=
  (sSeq (sAsg (bnd (dCons (dVar 0) (dCons (ret (.int 6)) dNil)) (oCall 2 F__law_draw)) (gNm 1))
  (sSeq (sAsg (bnd (bnd (dCons (ret (.int 1)) (dCons (bnd (bnd (dCons (ret (.int 2)) (dCons (ret (.int 3)) (dCons (ret (.int 4)) (dCons (ret (.int 6)) (dCons (ret (.int 12)) dNil))))) oLst) fun d => bnd (bnd (dCons (dVar 0) (dCons (ret (.int 5)) dNil)) (oCall 2 F__law_draw)) fun e => oIx d e) (dCons (bnd (bnd (dCons (ret (.int 7)) (dCons (ret (.int 11)) (dCons (ret (.int 13)) (dCons (ret (.int 997)) dNil)))) oLst) fun d => bnd (bnd (dCons (dVar 0) (dCons (ret (.int 4)) dNil)) (oCall 2 F__law_draw)) fun e => oIx d e) (dCons (bnd (ret (.int 1)) fun d => bnd (bnd (dCons (dVar 0) (dCons (ret (.int 1000)) dNil)) (oCall 2 F__law_draw)) fun e => oAdd d e) (dCons (bnd (ret (.int 1000)) fun d => bnd (bnd (dCons (dVar 0) (dCons (ret (.int 3)) dNil)) (oCall 2 F__law_draw)) fun e => oSub d e) (dCons (ret (.int 1)) dNil)))))) oLst) fun d => bnd (dVar 1) fun e => oIx d e) (gNm 2))
  (sSeq (sAsg (bnd (bnd (dCons (bnd (dCons (dVar 0) (dCons (ret (.int 4)) dNil)) (oCall 2 F__law_draw)) (dCons (bnd (dCons (dVar 0) (dCons (ret (.int 30)) dNil)) (oCall 2 F__law_draw)) (dCons (bnd (dCons (dVar 0) (dCons (ret (.int 40)) dNil)) (oCall 2 F__law_draw)) (dCons (bnd (dCons (dVar 0) (dCons (bnd (bnd (ret (.int 10)) fun d => bnd (ret (.int 6)) fun e => oPow d e) fun d => bnd (ret (.int 1)) fun e => oAdd d e) dNil)) (oCall 2 F__law_draw)) (dCons (bnd (bnd (ret (.int 10)) fun d => bnd (ret (.int 6)) fun e => oPow d e) fun d => bnd (bnd (dCons (dVar 0) (dCons (ret (.int 3)) dNil)) (oCall 2 F__law_draw)) fun e => oSub d e) (dCons (ret (.int 0)) dNil)))))) oLst) fun d => bnd (dVar 1) fun e => oIx d e) (gNm 3))
  (sRet (bnd (dCons (bnd (dVar 3) fun d => bnd (bnd (bnd (dCons (ret (.int 1)) (dCons (bnd (ret (.int 0)) fun d => bnd (ret (.int 1)) fun e => oSub d e) dNil)) oLst) fun d => bnd (bnd (dCons (dVar 0) (dCons (ret (.int 2)) dNil)) (oCall 2 F__law_draw)) fun e => oIx d e) fun e => oMul d e) (dCons (dVar 2) dNil)) (oCall 2 F__law_low))))))
noncomputable def F__law_pair : Fd := runF 0 ["_law_reel_here", "_law_way", "_law_bottom", "_law_top"] den__law_pair
theorem hF__law_pair : ∀ ds M r M', ds.length = 1 → F__law_pair ds M = some (r, M') → M.length ≤ M'.length ∧ ∃ o M2, den__law_pair (startD ["_law_reel_here", "_law_way", "_law_bottom", "_law_top"] ds) M = some (o, M2) ∧ Exit o M2 r M' := runF_ok
theorem hX__law_pair : ∀ ds M C M', F__law_pair ds M ≠ some (.exc C, M') := runF_nx
noncomputable def den__law_row_I1 : Sv :=
  (sIf (dAnd (bnd (bnd (dVar 1) fun d => bnd (bnd dNil oLst) fun e => oNeM d e) asB) (bnd (bnd (bnd (dCons (dVar 0) (dCons (ret (.int 6)) dNil)) (oCall 2 F__law_draw)) fun d => bnd (ret (.int 0)) fun e => oEq d e) asB)) (sSeq (sAsg (bnd (dCons (bnd (dCons (bnd (dCons (ret (.int 1)) (dCons (ret (.int 997)) dNil)) oTup) (dCons (bnd (dCons (ret (.int 1)) (dCons (ret (.int 1000)) dNil)) oTup) dNil)) (oCall 2 F_times)) (dCons (bnd (dCons (bnd (dCons (ret (.int 1)) (dCons (ret (.int 991)) dNil)) oTup) (dCons (bnd (dCons (ret (.int 1)) (dCons (bnd (ret (.int 1000)) fun d => bnd (bnd (dCons (dVar 0) (dCons (ret (.int 9)) dNil)) (oCall 2 F__law_draw)) fun e => oSub d e) dNil)) oTup) dNil)) (oCall 2 F_times)) dNil)) (oCall 2 F_times)) (gNm 4))
  (sSeq (sAsg (bnd (bnd (dCons (dVar 4) (dCons (bnd (dCons (dVar 4) (dCons (dVar 4) dNil)) (oCall 2 F_times)) dNil)) oLst) fun d => bnd (bnd (dCons (dVar 0) (dCons (ret (.int 2)) dNil)) (oCall 2 F__law_draw)) fun e => oIx d e) (gNm 4))
  (sSeq (sAsg (bnd (dVar 1) fun d => bnd (bnd (dCons (dVar 0) (dCons (bnd (dCons (dVar 1) dNil) oLen) dNil)) (oCall 2 F__law_draw)) fun e => oIx d e) (gNm 5))
  (sAsg (dIf (bnd (bnd (bnd (dCons (dVar 0) (dCons (ret (.int 2)) dNil)) (oCall 2 F__law_draw)) fun d => bnd (ret (.int 0)) fun e => oEq d e) asB) (bnd (dCons (dVar 5) (dCons (dVar 4) dNil)) (oCall 2 F_plus)) (bnd (dCons (dVar 5) (dCons (dVar 4) dNil)) (oCall 2 F_less))) (gNm 3))))) sNext)
noncomputable def den__law_row_I2 : Sv :=
  (sIf (dAnd (bnd (bnd (dVar 1) fun d => bnd (bnd dNil oLst) fun e => oNeM d e) asB) (bnd (bnd (bnd (dCons (dVar 0) (dCons (ret (.int 4)) dNil)) (oCall 2 F__law_draw)) fun d => bnd (ret (.int 0)) fun e => oEq d e) asB)) (sAsg (bnd (dVar 1) fun d => bnd (bnd (dCons (dVar 0) (dCons (bnd (dCons (dVar 1) dNil) oLen) dNil)) (oCall 2 F__law_draw)) fun e => oIx d e) (gNm 3)) sNext)
noncomputable def den__law_row_L1 : Sv :=
  (sSeq (sAsg (bnd (dCons (dVar 0) dNil) (oCall 1 F__law_pair)) (gNm 3))
  (sSeq den__law_row_I1
  (sSeq den__law_row_I2
  (sExpr (bnd (dVar 1) fun d => bnd (okPtr d) fun d => bnd (dVar 3) fun y => oApp d y)))))
noncomputable def den__law_row : Sv :=
  (sSeq (sAsg (bnd dNil oNew) (gNm 1))
  (sSeq (sFor (bnd (dCons (bnd (ret (.int 1)) fun d => bnd (bnd (dCons (dVar 0) (dCons (bnd (bnd (dCons (ret (.int 12)) (dCons (ret (.int 40)) dNil)) oLst) fun d => bnd (bnd (dCons (bnd (bnd (dCons (dVar 0) (dCons (ret (.int 5)) dNil)) (oCall 2 F__law_draw)) fun d => bnd (ret (.int 0)) fun e => oEq d e) dNil) oToInt) fun e => oIx d e) dNil)) (oCall 2 F__law_draw)) fun e => oAdd d e) dNil) oRng1) (gNm 2) den__law_row_L1)
  (sRet (bnd (dCons (dVar 1) dNil) oTupOf))))
noncomputable def F__law_row : Fd := runF 0 ["_law_reel_here", "_law_found", "_law_turn", "_law_one", "_law_near", "_law_other"] den__law_row
theorem hF__law_row : ∀ ds M r M', ds.length = 1 → F__law_row ds M = some (r, M') → M.length ≤ M'.length ∧ ∃ o M2, den__law_row (startD ["_law_reel_here", "_law_found", "_law_turn", "_law_one", "_law_near", "_law_other"] ds) M = some (o, M2) ∧ Exit o M2 r M' := runF_ok
theorem hX__law_row : ∀ ds M C M', F__law_row ds M ≠ some (.exc C, M') := runF_nx
noncomputable def den__law_below : Sv :=
  (sRet (bnd (bnd (bnd (dVar 0) fun d => bnd (ret (.int 0)) fun e => oIx d e) fun d => bnd (bnd (dVar 1) fun d => bnd (ret (.int 1)) fun e => oIx d e) fun e => oMul d e) fun d => bnd (bnd (bnd (dVar 1) fun d => bnd (ret (.int 0)) fun e => oIx d e) fun d => bnd (bnd (dVar 0) fun d => bnd (ret (.int 1)) fun e => oIx d e) fun e => oMul d e) fun e => oLt d e))
noncomputable def F__law_below : Fd := runF 0 ["_law_one", "_law_other"] den__law_below
theorem hF__law_below : ∀ ds M r M', ds.length = 2 → F__law_below ds M = some (r, M') → M.length ≤ M'.length ∧ ∃ o M2, den__law_below (startD ["_law_one", "_law_other"] ds) M = some (o, M2) ∧ Exit o M2 r M' := runF_ok
theorem hX__law_below : ∀ ds M C M', F__law_below ds M ≠ some (.exc C, M') := runF_nx
noncomputable def den__law_floor_right : Sv :=
  (sSeq (sAsg (bnd (dCons (dVar 0) dNil) (oCall 1 F_floor)) (gNm 1))
  (sSeq (sIf (dOr (dNot (bnd (bnd (dVar 1) (oIsi (fun a => kitB a "int") (fun _ => none))) asB)) (bnd (bnd (dVar 1) (oIsi (fun a => kitB a "bool") (fun _ => none))) asB)) (sRet (ret (.bl false))) sNext)
  (sRet (dChain (bnd (dVar 1) fun d => bnd (bnd (dVar 0) fun d => bnd (ret (.int 1)) fun e => oIx d e) fun e => oMul d e) (bnd (dVar 0) fun d => bnd (ret (.int 0)) fun e => oIx d e) (bnd (bnd (dVar 1) fun d => bnd (ret (.int 1)) fun e => oAdd d e) fun d => bnd (bnd (dVar 0) fun d => bnd (ret (.int 1)) fun e => oIx d e) fun e => oMul d e) oLe oLt))))
noncomputable def F__law_floor_right : Fd := runF 0 ["_law_one", "_law_found"] den__law_floor_right
theorem hF__law_floor_right : ∀ ds M r M', ds.length = 1 → F__law_floor_right ds M = some (r, M') → M.length ≤ M'.length ∧ ∃ o M2, den__law_floor_right (startD ["_law_one", "_law_found"] ds) M = some (o, M2) ∧ Exit o M2 r M' := runF_ok
theorem hX__law_floor_right : ∀ ds M C M', F__law_floor_right ds M ≠ some (.exc C, M') := runF_nx
noncomputable def den_law_I1 : Sv :=
  (sIf (dOr (bnd (bnd (dVar 6) fun d => bnd (dVar 3) fun e => oInD true d e) asB) (bnd (bnd (dVar 7) fun d => bnd (dVar 3) fun e => oInD true d e) asB)) (sRet (ret (.bl false))) sNext)
noncomputable def den_law_I2 : Sv :=
  (sIf (bnd (bnd (bnd (bnd (dVar 3) oItS) (oLc (gNm 4) (dOr (bnd (bnd (dCons (dVar 4) (dCons (dVar 6) dNil)) (oCall 2 F__law_below)) asB) (bnd (bnd (dCons (dVar 7) (dCons (dVar 4) dNil)) (oCall 2 F__law_below)) asB)) (dVar 4) [4])) fun d => bnd (bnd dNil oLst) fun e => oNe d e) asB) (sRet (ret (.bl false))) sNext)
noncomputable def den_law_I3 : Sv :=
  (sIf (dNot (bnd (bnd (dCons (dVar 4) dNil) (oCall 1 F__law_floor_right)) asB)) (sRet (ret (.bl false))) sNext)
noncomputable def den_law_L1 : Sv :=
  (sSeq (sAsg (bnd (dCons (bnd (bnd (dVar 8) fun d => bnd (bnd (dVar 4) fun d => bnd (ret (.int 1)) fun e => oIx d e) fun e => oMul d e) fun d => bnd (bnd (bnd (dVar 4) fun d => bnd (ret (.int 0)) fun e => oIx d e) fun d => bnd (dVar 9) fun e => oMul d e) fun e => oAdd d e) (dCons (bnd (dVar 9) fun d => bnd (bnd (dVar 4) fun d => bnd (ret (.int 1)) fun e => oIx d e) fun e => oMul d e) dNil)) (oCall 2 F__law_low)) (gTp 2 (gCn (gNm 8) (gCn (gNm 9) gNl))))
  den_law_I3)
noncomputable def den_law_I4 : Sv :=
  (sIf (bnd (bnd (bnd (dCons (bnd (dCons (dVar 5) dNil) (oCall 1 F_summed)) dNil) oReprD) fun d => bnd (bnd (dCons (bnd (dCons (dVar 8) (dCons (dVar 9) dNil)) oTup) dNil) oReprD) fun e => oNeS d e) asB) (sRet (ret (.bl false))) sNext)
noncomputable def den_law_I5 : Sv :=
  (sIf (dOr (bnd (bnd (bnd (dCons (dVar 5) dNil) (oCall 1 F_least)) fun d => bnd (dVar 6) fun e => oNe d e) asB) (bnd (bnd (bnd (dCons (dVar 5) dNil) (oCall 1 F_greatest)) fun d => bnd (dVar 7) fun e => oNe d e) asB)) (sRet (ret (.bl false))) sNext)
noncomputable def den_law_L2 : Sv :=
  (sSeq den_law_I4
  den_law_I5)
noncomputable def den_law_L3 : Sv :=
  (sSeq (sAsg (bnd (dCons (dVar 0) (dCons (dVar 1) dNil)) (oCall 2 F__law_reel)) (gNm 2))
  (sSeq (sAsg (bnd (dCons (dVar 2) dNil) (oCall 1 F__law_row)) (gNm 3))
  (sSeq (sAsg (bnd (dCons (bnd (dCons (dVar 3) dNil) (oCall 1 F_least)) (dCons (bnd (dCons (dVar 3) dNil) (oCall 1 F_greatest)) dNil)) oTup) (gTp 2 (gCn (gNm 6) (gCn (gNm 7) gNl))))
  (sSeq den_law_I1
  (sSeq den_law_I2
  (sSeq (sAsg (bnd (dCons (ret (.int 0)) (dCons (ret (.int 1)) dNil)) oTup) (gTp 2 (gCn (gNm 8) (gCn (gNm 9) gNl))))
  (sSeq (sFor (bnd (dVar 3) oItS) (gNm 4) den_law_L1)
  (sFor (bnd (bnd (dCons (dVar 3) (dCons (bnd (dVar 3) oRv) dNil)) oLst) oItL) (gNm 5) den_law_L2))))))))
noncomputable def den_law : Sv :=
  (sSeq (sFor (bnd (dCons (bnd (dCons (ret (.int 2)) (dCons (bnd (dCons (ret (.int 63)) (dCons (bnd (dCons (dVar 0) dNil) oLen) dNil)) oMin) dNil)) oMax) dNil) oRng1) (gNm 1) den_law_L3)
  (sRet (dAndV (bnd (bnd (dCons (bnd dNil oTup) dNil) (oCall 1 F_summed)) fun d => bnd (bnd (dCons (ret (.int 0)) (dCons (ret (.int 1)) dNil)) oTup) fun e => oEq d e) (bnd (bnd (dCons (bnd (dCons (bnd (ret (.int 1)) oNeg) (dCons (ret (.int 2)) dNil)) oTup) dNil) (oCall 1 F_floor)) fun d => bnd (bnd (ret (.int 1)) oNeg) fun e => oEq d e))))
noncomputable def F_law : Fd := runF 0 ["_law_script", "_law_k", "_law_reel_here", "_law_some", "_law_one", "_law_row_here", "_law_low_here", "_law_high", "_law_top", "_law_bottom"] den_law
theorem hF_law : ∀ ds M r M', ds.length = 1 → F_law ds M = some (r, M') → M.length ≤ M'.length ∧ ∃ o M2, den_law (startD ["_law_script", "_law_k", "_law_reel_here", "_law_some", "_law_one", "_law_row_here", "_law_low_here", "_law_high", "_law_top", "_law_bottom"] ds) M = some (o, M2) ∧ Exit o M2 r M' := runF_ok
theorem hX_law : ∀ ds M C M', F_law ds M ≠ some (.exc C, M') := runF_nx
def topS (i : Nat) : Stmt := PySem.Challenge.pw_brineways_k05_rows_of_fractions.main.body.getD i (.Pass ⟨0, 0, 0, 0⟩)
abbrev s_common : Stmt := topS 2
abbrev N_common : List Str := ["a", "b"]
theorem S_common : FnScope N_common ["a", "b"] (defScope s_common) := ⟨rfl, rfl, rfl, by decide +kernel, rfl, by decide +kernel, by decide +kernel⟩
abbrev s_plus : Stmt := topS 3
abbrev N_plus : List Str := ["one", "other", "shared", "top", "again", "a", "b", "c", "d"]
theorem S_plus : FnScope N_plus ["one", "other"] (defScope s_plus) := ⟨rfl, rfl, rfl, by decide +kernel, rfl, by decide +kernel, by decide +kernel⟩
abbrev s_less : Stmt := topS 4
abbrev N_less : List Str := ["one", "other", "c", "d"]
theorem S_less : FnScope N_less ["one", "other"] (defScope s_less) := ⟨rfl, rfl, rfl, by decide +kernel, rfl, by decide +kernel, by decide +kernel⟩
abbrev s_times : Stmt := topS 5
abbrev N_times : List Str := ["one", "other", "left", "right", "a", "b", "c", "d"]
theorem S_times : FnScope N_times ["one", "other"] (defScope s_times) := ⟨rfl, rfl, rfl, by decide +kernel, rfl, by decide +kernel, by decide +kernel⟩
abbrev s_is_less : Stmt := topS 6
abbrev N_is_less : List Str := ["one", "other", "a", "b", "c", "d"]
theorem S_is_less : FnScope N_is_less ["one", "other"] (defScope s_is_less) := ⟨rfl, rfl, rfl, by decide +kernel, rfl, by decide +kernel, by decide +kernel⟩
abbrev s_least : Stmt := topS 7
abbrev N_least : List Str := ["some", "best", "one"]
theorem S_least : FnScope N_least ["some"] (defScope s_least) := ⟨rfl, rfl, rfl, by decide +kernel, rfl, by decide +kernel, by decide +kernel⟩
abbrev s_greatest : Stmt := topS 8
abbrev N_greatest : List Str := ["some", "best", "one"]
theorem S_greatest : FnScope N_greatest ["some"] (defScope s_greatest) := ⟨rfl, rfl, rfl, by decide +kernel, rfl, by decide +kernel, by decide +kernel⟩
abbrev s_summed : Stmt := topS 9
abbrev N_summed : List Str := ["some", "total", "one"]
theorem S_summed : FnScope N_summed ["some"] (defScope s_summed) := ⟨rfl, rfl, rfl, by decide +kernel, rfl, by decide +kernel, by decide +kernel⟩
abbrev s_floor : Stmt := topS 10
abbrev N_floor : List Str := ["one", "a", "b"]
theorem S_floor : FnScope N_floor ["one"] (defScope s_floor) := ⟨rfl, rfl, rfl, by decide +kernel, rfl, by decide +kernel, by decide +kernel⟩
abbrev s__law_reel : Stmt := topS 12
abbrev N__law_reel : List Str := ["_law_script", "_law_k", "_law_cell"]
theorem S__law_reel : FnScope N__law_reel ["_law_script", "_law_k"] (defScope s__law_reel) := ⟨rfl, rfl, rfl, by decide +kernel, rfl, by decide +kernel, by decide +kernel⟩
abbrev s__law_draw : Stmt := topS 13
abbrev N__law_draw : List Str := ["_law_reel_here", "_law_many", "_law_turn", "_law_primes", "_law_one", "_law_digit"]
theorem S__law_draw : FnScope N__law_draw ["_law_reel_here", "_law_many"] (defScope s__law_draw) := ⟨rfl, rfl, rfl, by decide +kernel, rfl, by decide +kernel, by decide +kernel⟩
abbrev s__law_low : Stmt := topS 14
abbrev N__law_low : List Str := ["_law_top", "_law_bottom", "_law_by", "_law_one", "_law_other"]
theorem S__law_low : FnScope N__law_low ["_law_top", "_law_bottom"] (defScope s__law_low) := ⟨rfl, rfl, rfl, by decide +kernel, rfl, by decide +kernel, by decide +kernel⟩
abbrev s__law_pair : Stmt := topS 15
abbrev N__law_pair : List Str := ["_law_reel_here", "_law_way", "_law_bottom", "_law_top"]
theorem S__law_pair : FnScope N__law_pair ["_law_reel_here"] (defScope s__law_pair) := ⟨rfl, rfl, rfl, by decide +kernel, rfl, by decide +kernel, by decide +kernel⟩
abbrev s__law_row : Stmt := topS 16
abbrev N__law_row : List Str := ["_law_reel_here", "_law_found", "_law_turn", "_law_one", "_law_near", "_law_other"]
theorem S__law_row : FnScope N__law_row ["_law_reel_here"] (defScope s__law_row) := ⟨rfl, rfl, rfl, by decide +kernel, rfl, by decide +kernel, by decide +kernel⟩
abbrev s__law_below : Stmt := topS 17
abbrev N__law_below : List Str := ["_law_one", "_law_other"]
theorem S__law_below : FnScope N__law_below ["_law_one", "_law_other"] (defScope s__law_below) := ⟨rfl, rfl, rfl, by decide +kernel, rfl, by decide +kernel, by decide +kernel⟩
abbrev s__law_floor_right : Stmt := topS 18
abbrev N__law_floor_right : List Str := ["_law_one", "_law_found"]
theorem S__law_floor_right : FnScope N__law_floor_right ["_law_one"] (defScope s__law_floor_right) := ⟨rfl, rfl, rfl, by decide +kernel, rfl, by decide +kernel, by decide +kernel⟩
abbrev s_law : Stmt := topS 19
abbrev N_law : List Str := ["_law_script", "_law_k", "_law_reel_here", "_law_some", "_law_one", "_law_row_here", "_law_low_here", "_law_high", "_law_top", "_law_bottom"]
theorem S_law : FnScope N_law ["_law_script"] (defScope s_law) := ⟨rfl, rfl, rfl, by decide +kernel, rfl, by decide +kernel, by decide +kernel⟩
structure Top (K : PySem.W.Frag) (mg : Str → Option Value) where
  a_common : Addr
  fd_common : FuncData
  F_common : Fun K "common" "common" s_common a_common fd_common
  b_common : Binds K fd_common ["a", "b"] []
  g_common : mg "common" = some (.ref a_common)
  a_plus : Addr
  fd_plus : FuncData
  F_plus : Fun K "plus" "plus" s_plus a_plus fd_plus
  b_plus : Binds K fd_plus ["one", "other"] []
  g_plus : mg "plus" = some (.ref a_plus)
  a_less : Addr
  fd_less : FuncData
  F_less : Fun K "less" "less" s_less a_less fd_less
  b_less : Binds K fd_less ["one", "other"] []
  g_less : mg "less" = some (.ref a_less)
  a_times : Addr
  fd_times : FuncData
  F_times : Fun K "times" "times" s_times a_times fd_times
  b_times : Binds K fd_times ["one", "other"] []
  g_times : mg "times" = some (.ref a_times)
  a_is_less : Addr
  fd_is_less : FuncData
  F_is_less : Fun K "is_less" "is_less" s_is_less a_is_less fd_is_less
  b_is_less : Binds K fd_is_less ["one", "other"] []
  g_is_less : mg "is_less" = some (.ref a_is_less)
  a_least : Addr
  fd_least : FuncData
  F_least : Fun K "least" "least" s_least a_least fd_least
  b_least : Binds K fd_least ["some"] []
  g_least : mg "least" = some (.ref a_least)
  a_greatest : Addr
  fd_greatest : FuncData
  F_greatest : Fun K "greatest" "greatest" s_greatest a_greatest fd_greatest
  b_greatest : Binds K fd_greatest ["some"] []
  g_greatest : mg "greatest" = some (.ref a_greatest)
  a_summed : Addr
  fd_summed : FuncData
  F_summed : Fun K "summed" "summed" s_summed a_summed fd_summed
  b_summed : Binds K fd_summed ["some"] []
  g_summed : mg "summed" = some (.ref a_summed)
  a_floor : Addr
  fd_floor : FuncData
  F_floor : Fun K "floor" "floor" s_floor a_floor fd_floor
  b_floor : Binds K fd_floor ["one"] []
  g_floor : mg "floor" = some (.ref a_floor)
  a__law_reel : Addr
  fd__law_reel : FuncData
  F__law_reel : Fun K "_law_reel" "_law_reel" s__law_reel a__law_reel fd__law_reel
  b__law_reel : Binds K fd__law_reel ["_law_script", "_law_k"] []
  g__law_reel : mg "_law_reel" = some (.ref a__law_reel)
  a__law_draw : Addr
  fd__law_draw : FuncData
  F__law_draw : Fun K "_law_draw" "_law_draw" s__law_draw a__law_draw fd__law_draw
  b__law_draw : Binds K fd__law_draw ["_law_reel_here", "_law_many"] []
  g__law_draw : mg "_law_draw" = some (.ref a__law_draw)
  a__law_low : Addr
  fd__law_low : FuncData
  F__law_low : Fun K "_law_low" "_law_low" s__law_low a__law_low fd__law_low
  b__law_low : Binds K fd__law_low ["_law_top", "_law_bottom"] []
  g__law_low : mg "_law_low" = some (.ref a__law_low)
  a__law_pair : Addr
  fd__law_pair : FuncData
  F__law_pair : Fun K "_law_pair" "_law_pair" s__law_pair a__law_pair fd__law_pair
  b__law_pair : Binds K fd__law_pair ["_law_reel_here"] []
  g__law_pair : mg "_law_pair" = some (.ref a__law_pair)
  a__law_row : Addr
  fd__law_row : FuncData
  F__law_row : Fun K "_law_row" "_law_row" s__law_row a__law_row fd__law_row
  b__law_row : Binds K fd__law_row ["_law_reel_here"] []
  g__law_row : mg "_law_row" = some (.ref a__law_row)
  a__law_below : Addr
  fd__law_below : FuncData
  F__law_below : Fun K "_law_below" "_law_below" s__law_below a__law_below fd__law_below
  b__law_below : Binds K fd__law_below ["_law_one", "_law_other"] []
  g__law_below : mg "_law_below" = some (.ref a__law_below)
  a__law_floor_right : Addr
  fd__law_floor_right : FuncData
  F__law_floor_right : Fun K "_law_floor_right" "_law_floor_right" s__law_floor_right a__law_floor_right fd__law_floor_right
  b__law_floor_right : Binds K fd__law_floor_right ["_law_one"] []
  g__law_floor_right : mg "_law_floor_right" = some (.ref a__law_floor_right)
  a_law : Addr
  fd_law : FuncData
  F_law : Fun K "law" "law" s_law a_law fd_law
  b_law : Binds K fd_law ["_law_script"] []
  g_law : mg "law" = some (.ref a_law)
  z_abs : mg "abs" = none
  z_bool : mg "bool" = none
  z_int : mg "int" = none
  z_isinstance : mg "isinstance" = none
  z_len : mg "len" = none
  z_max : mg "max" = none
  z_min : mg "min" = none
  z_range : mg "range" = none
  z_repr : mg "repr" = none
  z_tuple : mg "tuple" = none
  c_NOUGHT : Addr
  g_NOUGHT : mg "NOUGHT" = some (.ref c_NOUGHT)
  r_NOUGHT : ∀ G, Rp K G (.ref c_NOUGHT) C_NOUGHT
section
variable {P : Program} {w : World} {K : PySem.W.Frag} {mg : Str → Option Value} {base : Heap}
set_option maxHeartbeats 4000000 in
theorem ok_common (T : Top K mg) : GOk P w K mg base CX0 1 T.a_common T.fd_common ["a", "b"] (spF K mg 2 F_common) :=
  fn_okG (k := 0) (fb := den_common) T.F_common S_common rfl (fun cdv A outer s H E hr => 
  (dss_cons (ds_while PassesOwn.never (dt_ne hr.units (de_var 1) de_int) (dss_one (ds_par 0 1 S_common.nd (da_cons (de_var 1) (da_cons (de_mod (de_var 0) (de_var 1)) da_nil)))))
  (dss_one (ds_ret (de_abs T.z_abs (da_cons (de_var 0) da_nil)))))) hF_common hX_common
set_option maxHeartbeats 4000000 in
theorem ok_plus (T : Top K mg) : GOk P w K mg base CX0 2 T.a_plus T.fd_plus ["one", "other"] (spF K mg 2 F_plus) :=
  fn_okG (k := 1) (fb := den_plus) T.F_plus S_plus rfl (fun cdv A outer s H E hr => 
  (dss_cons (ds_asg (de_var 0) (dg_tup rfl (dgs_cons (dg_name 5 S_plus.nd) (dgs_cons (dg_name 6 S_plus.nd) dgs_nil))))
  (dss_cons (ds_asg (de_var 1) (dg_tup rfl (dgs_cons (dg_name 7 S_plus.nd) (dgs_cons (dg_name 8 S_plus.nd) dgs_nil))))
  (dss_cons (ds_set 2 S_plus.nd (de_callG wok0 (ok_common T) (hr.mono (by decide)) T.g_common T.F_common.kp T.b_common (fun _ => pass_0) (da_cons (de_var 6) (da_cons (de_var 8) da_nil))))
  (dss_cons (ds_set 3 S_plus.nd (de_add (de_mul (de_var 5) (de_div (de_var 8) (de_var 2))) (de_mul (de_var 7) (de_div (de_var 6) (de_var 2)))))
  (dss_cons (ds_set 4 S_plus.nd (de_callG wok0 (ok_common T) (hr.mono (by decide)) T.g_common T.F_common.kp T.b_common (fun _ => pass_0) (da_cons (de_var 3) (da_cons (de_var 2) da_nil))))
  (dss_one (ds_ret (de_tup (da_cons (de_div (de_var 3) (de_var 4)) (da_cons (de_mul (de_div (de_var 6) (de_var 2)) (de_div (de_var 8) (de_var 4))) da_nil))))))))))) hF_plus hX_plus
set_option maxHeartbeats 4000000 in
theorem ok_less (T : Top K mg) : GOk P w K mg base CX0 3 T.a_less T.fd_less ["one", "other"] (spF K mg 2 F_less) :=
  fn_okG (k := 2) (fb := den_less) T.F_less S_less rfl (fun cdv A outer s H E hr => 
  (dss_cons (ds_asg (de_var 1) (dg_tup rfl (dgs_cons (dg_name 2 S_less.nd) (dgs_cons (dg_name 3 S_less.nd) dgs_nil))))
  (dss_one (ds_ret (de_callG wok0 (ok_plus T) (hr.mono (by decide)) T.g_plus T.F_plus.kp T.b_plus (fun _ => pass_0) (da_cons (de_var 0) (da_cons (de_tup (da_cons (de_neg (de_var 2)) (da_cons (de_var 3) da_nil))) da_nil))))))) hF_less hX_less
set_option maxHeartbeats 4000000 in
theorem ok_times (T : Top K mg) : GOk P w K mg base CX0 2 T.a_times T.fd_times ["one", "other"] (spF K mg 2 F_times) :=
  fn_okG (k := 1) (fb := den_times) T.F_times S_times rfl (fun cdv A outer s H E hr => 
  (dss_cons (ds_asg (de_var 0) (dg_tup rfl (dgs_cons (dg_name 4 S_times.nd) (dgs_cons (dg_name 5 S_times.nd) dgs_nil))))
  (dss_cons (ds_asg (de_var 1) (dg_tup rfl (dgs_cons (dg_name 6 S_times.nd) (dgs_cons (dg_name 7 S_times.nd) dgs_nil))))
  (dss_cons (ds_set 2 S_times.nd (de_callG wok0 (ok_common T) (hr.mono (by decide)) T.g_common T.F_common.kp T.b_common (fun _ => pass_0) (da_cons (de_var 4) (da_cons (de_var 7) da_nil))))
  (dss_cons (ds_set 3 S_times.nd (de_callG wok0 (ok_common T) (hr.mono (by decide)) T.g_common T.F_common.kp T.b_common (fun _ => pass_0) (da_cons (de_var 6) (da_cons (de_var 5) da_nil))))
  (dss_one (ds_ret (de_tup (da_cons (de_mul (de_div (de_var 4) (de_var 2)) (de_div (de_var 6) (de_var 3))) (da_cons (de_mul (de_div (de_var 5) (de_var 3)) (de_div (de_var 7) (de_var 2))) da_nil)))))))))) hF_times hX_times
set_option maxHeartbeats 4000000 in
theorem ok_is_less (T : Top K mg) : GOk P w K mg base CX0 1 T.a_is_less T.fd_is_less ["one", "other"] (spF K mg 2 F_is_less) :=
  fn_okG (k := 0) (fb := den_is_less) T.F_is_less S_is_less rfl (fun cdv A outer s H E hr => 
  (dss_cons (ds_asg (de_var 0) (dg_tup rfl (dgs_cons (dg_name 2 S_is_less.nd) (dgs_cons (dg_name 3 S_is_less.nd) dgs_nil))))
  (dss_cons (ds_asg (de_var 1) (dg_tup rfl (dgs_cons (dg_name 4 S_is_less.nd) (dgs_cons (dg_name 5 S_is_less.nd) dgs_nil))))
  (dss_one (ds_ret (de_lt (de_mul (de_var 2) (de_var 5)) (de_mul (de_var 4) (de_var 3)))))))) hF_is_less hX_is_less
set_option maxHeartbeats 4000000 in
theorem ok_least (T : Top K mg) : GOk P w K mg base CX0 2 T.a_least T.fd_least ["some"] (spF K mg 1 F_least) :=
  fn_okG (k := 1) (fb := den_least) T.F_least S_least rfl (fun cdv A outer s H E hr => 
  (dss_cons (ds_set 1 S_least.nd (de_ix (de_var 0) de_int))
  (dss_cons (ds_for PassesOwn.never (di_seq (de_var 0)) (dg_name 2 S_least.nd) (dss_one (ds_if (dt_val (de_callG wok0 (ok_is_less T) (hr.mono (by decide)) T.g_is_less T.F_is_less.kp T.b_is_less (fun _ => pass_0) (da_cons (de_var 2) (da_cons (de_var 1) da_nil)))) (dss_one (ds_set 1 S_least.nd (de_var 2))) dss_nil)))
  (dss_one (ds_ret (de_var 1)))))) hF_least hX_least
set_option maxHeartbeats 4000000 in
theorem ok_greatest (T : Top K mg) : GOk P w K mg base CX0 2 T.a_greatest T.fd_greatest ["some"] (spF K mg 1 F_greatest) :=
  fn_okG (k := 1) (fb := den_greatest) T.F_greatest S_greatest rfl (fun cdv A outer s H E hr => 
  (dss_cons (ds_set 1 S_greatest.nd (de_ix (de_var 0) de_int))
  (dss_cons (ds_for PassesOwn.never (di_seq (de_var 0)) (dg_name 2 S_greatest.nd) (dss_one (ds_if (dt_val (de_callG wok0 (ok_is_less T) (hr.mono (by decide)) T.g_is_less T.F_is_less.kp T.b_is_less (fun _ => pass_0) (da_cons (de_var 1) (da_cons (de_var 2) da_nil)))) (dss_one (ds_set 1 S_greatest.nd (de_var 2))) dss_nil)))
  (dss_one (ds_ret (de_var 1)))))) hF_greatest hX_greatest
set_option maxHeartbeats 4000000 in
theorem ok_summed (T : Top K mg) : GOk P w K mg base CX0 3 T.a_summed T.fd_summed ["some"] (spF K mg 1 F_summed) :=
  fn_okG (k := 2) (fb := den_summed) T.F_summed S_summed rfl (fun cdv A outer s H E hr => 
  (dss_cons (ds_set 1 S_summed.nd (de_const T.g_NOUGHT T.r_NOUGHT))
  (dss_cons (ds_for PassesOwn.never (di_seq (de_var 0)) (dg_name 2 S_summed.nd) (dss_one (ds_set 1 S_summed.nd (de_callG wok0 (ok_plus T) (hr.mono (by decide)) T.g_plus T.F_plus.kp T.b_plus (fun _ => pass_0) (da_cons (de_var 1) (da_cons (de_var 2) da_nil))))))
  (dss_one (ds_ret (de_var 1)))))) hF_summed hX_summed
set_option maxHeartbeats 4000000 in
theorem ok_floor (T : Top K mg) : GOk P w K mg base CX0 1 T.a_floor T.fd_floor ["one"] (spF K mg 1 F_floor) :=
  fn_okG (k := 0) (fb := den_floor) T.F_floor S_floor rfl (fun cdv A outer s H E hr => 
  (dss_cons (ds_asg (de_var 0) (dg_tup rfl (dgs_cons (dg_name 1 S_floor.nd) (dgs_cons (dg_name 2 S_floor.nd) dgs_nil))))
  (dss_one (ds_ret (de_div (de_var 1) (de_var 2)))))) hF_floor hX_floor
set_option maxHeartbeats 4000000 in
theorem ok__law_reel (T : Top K mg) : GOk P w K mg base CX0 1 T.a__law_reel T.fd__law_reel ["_law_script", "_law_k"] (spF K mg 2 F__law_reel) :=
  fn_okG (k := 0) (fb := den__law_reel) T.F__law_reel S__law_reel rfl (fun cdv A outer s H E hr => 
  (dss_cons (ds_set 2 S__law_reel.nd de_int)
  (dss_cons (ds_if (dt_lt (de_var 1) (de_len T.z_len (da_cons (de_var 0) da_nil))) (dss_one (ds_set 2 S__law_reel.nd (de_ix (de_var 0) (de_var 1)))) dss_nil)
  (dss_one (ds_ret (de_lstM (da_cons (de_max rfl T.z_max (da_cons de_int (da_cons (de_sub (de_var 2) (de_pow de_int de_int)) da_nil))) (da_cons (de_add (de_mod (de_var 2) de_int) (de_mul de_int (de_var 1))) (da_cons de_int da_nil))))))))) hF__law_reel hX__law_reel
set_option maxHeartbeats 4000000 in
theorem ok__law_draw (T : Top K mg) : GOk P w K mg base CX0 1 T.a__law_draw T.fd__law_draw ["_law_reel_here", "_law_many"] (spF K mg 2 F__law_draw) :=
  fn_okG (k := 0) (fb := den__law_draw) T.F__law_draw S__law_draw rfl (fun cdv A outer s H E hr => 
  (dss_cons (ds_if (dt_gt (de_ix (de_var 0) de_int) de_int) (dss_cons (ds_set 5 S__law_draw.nd (de_mod (de_ix (de_var 0) de_int) (de_var 1)))
  (dss_cons (ds_store (de_div (de_ix (de_var 0) de_int) (de_var 1)) (de_var 0) de_int)
  (dss_one (ds_ret (de_var 5))))) dss_nil)
  (dss_cons (ds_store (de_add (de_ix (de_var 0) de_int) de_int) (de_var 0) de_int)
  (dss_cons (ds_set 2 S__law_draw.nd (de_ix (de_var 0) de_int))
  (dss_cons (ds_set 3 S__law_draw.nd (de_lst (da_cons de_int (da_cons de_int (da_cons de_int (da_cons de_int (da_cons de_int (da_cons de_int (da_cons de_int da_nil)))))))))
  (dss_cons (ds_set 4 S__law_draw.nd (de_mod (de_mul (de_add (de_ix (de_var 0) de_int) de_int) (de_add (de_mul (de_var 2) (de_var 2)) de_int)) (de_ix (de_var 3) (de_mod (de_var 2) de_int))))
  (dss_cons (ds_set 4 S__law_draw.nd (de_mod (de_add (de_add (de_mul (de_var 4) (de_var 4)) (de_mul de_int (de_var 2))) de_int) (de_ix (de_var 3) (de_mod (de_add (de_var 2) de_int) de_int))))
  (dss_one (ds_ret (de_mod (de_div (de_mod (de_mul (de_var 4) (de_add (de_var 4) de_int)) de_int) de_int) (de_var 1))))))))))) hF__law_draw hX__law_draw
set_option maxHeartbeats 4000000 in
theorem ok__law_low (T : Top K mg) : GOk P w K mg base CX0 1 T.a__law_low T.fd__law_low ["_law_top", "_law_bottom"] (spF K mg 2 F__law_low) :=
  fn_okG (k := 0) (fb := den__law_low) T.F__law_low S__law_low rfl (fun cdv A outer s H E hr => 
  (dss_cons (ds_par 3 4 S__law_low.nd (da_cons (de_abs T.z_abs (da_cons (de_var 0) da_nil)) (da_cons (de_abs T.z_abs (da_cons (de_var 1) da_nil)) da_nil)))
  (dss_cons (ds_while PassesOwn.never (dt_gt (de_var 4) de_int) (dss_one (ds_par 3 4 S__law_low.nd (da_cons (de_var 4) (da_cons (de_mod (de_var 3) (de_var 4)) da_nil)))))
  (dss_cons (ds_set 2 S__law_low.nd (de_mul (de_var 3) (de_ix (de_lst (da_cons de_int (da_cons (de_neg de_int) da_nil))) (de_toInt T.z_int (da_cons (de_lt (de_var 1) de_int) da_nil)))))
  (dss_one (ds_ret (de_tup (da_cons (de_div (de_var 0) (de_var 2)) (da_cons (de_div (de_var 1) (de_var 2)) da_nil))))))))) hF__law_low hX__law_low
set_option maxHeartbeats 4000000 in
theorem ok__law_pair (T : Top K mg) : GOk P w K mg base CX0 2 T.a__law_pair T.fd__law_pair ["_law_reel_here"] (spF K mg 1 F__law_pair) :=
  fn_okG (k := 1) (fb := den__law_pair) T.F__law_pair S__law_pair rfl (fun cdv A outer s H E hr => 
  (dss_cons (ds_set 1 S__law_pair.nd (de_callG wok0 (ok__law_draw T) (hr.mono (by decide)) T.g__law_draw T.F__law_draw.kp T.b__law_draw (fun _ => pass_0) (da_cons (de_var 0) (da_cons de_int da_nil))))
  (dss_cons (ds_set 2 S__law_pair.nd (de_ix (de_lst (da_cons de_int (da_cons (de_ix (de_lst (da_cons de_int (da_cons de_int (da_cons de_int (da_cons de_int (da_cons de_int da_nil)))))) (de_callG wok0 (ok__law_draw T) (hr.mono (by decide)) T.g__law_draw T.F__law_draw.kp T.b__law_draw (fun _ => pass_0) (da_cons (de_var 0) (da_cons de_int da_nil)))) (da_cons (de_ix (de_lst (da_cons de_int (da_cons de_int (da_cons de_int (da_cons de_int da_nil))))) (de_callG wok0 (ok__law_draw T) (hr.mono (by decide)) T.g__law_draw T.F__law_draw.kp T.b__law_draw (fun _ => pass_0) (da_cons (de_var 0) (da_cons de_int da_nil)))) (da_cons (de_add de_int (de_callG wok0 (ok__law_draw T) (hr.mono (by decide)) T.g__law_draw T.F__law_draw.kp T.b__law_draw (fun _ => pass_0) (da_cons (de_var 0) (da_cons de_int da_nil)))) (da_cons (de_sub de_int (de_callG wok0 (ok__law_draw T) (hr.mono (by decide)) T.g__law_draw T.F__law_draw.kp T.b__law_draw (fun _ => pass_0) (da_cons (de_var 0) (da_cons de_int da_nil)))) (da_cons de_int da_nil))))))) (de_var 1)))
  (dss_cons (ds_set 3 S__law_pair.nd (de_ix (de_lst (da_cons (de_callG wok0 (ok__law_draw T) (hr.mono (by decide)) T.g__law_draw T.F__law_draw.kp T.b__law_draw (fun _ => pass_0) (da_cons (de_var 0) (da_cons de_int da_nil))) (da_cons (de_callG wok0 (ok__law_draw T) (hr.mono (by decide)) T.g__law_draw T.F__law_draw.kp T.b__law_draw (fun _ => pass_0) (da_cons (de_var 0) (da_cons de_int da_nil))) (da_cons (de_callG wok0 (ok__law_draw T) (hr.mono (by decide)) T.g__law_draw T.F__law_draw.kp T.b__law_draw (fun _ => pass_0) (da_cons (de_var 0) (da_cons de_int da_nil))) (da_cons (de_callG wok0 (ok__law_draw T) (hr.mono (by decide)) T.g__law_draw T.F__law_draw.kp T.b__law_draw (fun _ => pass_0) (da_cons (de_var 0) (da_cons (de_add (de_pow de_int de_int) de_int) da_nil))) (da_cons (de_sub (de_pow de_int de_int) (de_callG wok0 (ok__law_draw T) (hr.mono (by decide)) T.g__law_draw T.F__law_draw.kp T.b__law_draw (fun _ => pass_0) (da_cons (de_var 0) (da_cons de_int da_nil)))) (da_cons de_int da_nil))))))) (de_var 1)))
  (dss_one (ds_ret (de_callG wok0 (ok__law_low T) (hr.mono (by decide)) T.g__law_low T.F__law_low.kp T.b__law_low (fun _ => pass_0) (da_cons (de_mul (de_var 3) (de_ix (de_lst (da_cons de_int (da_cons (de_sub de_int de_int) da_nil))) (de_callG wok0 (ok__law_draw T) (hr.mono (by decide)) T.g__law_draw T.F__law_draw.kp T.b__law_draw (fun _ => pass_0) (da_cons (de_var 0) (da_cons de_int da_nil))))) (da_cons (de_var 2) da_nil))))))))) hF__law_pair hX__law_pair
set_option maxHeartbeats 4000000 in
theorem ok__law_row (T : Top K mg) : GOk P w K mg base CX0 4 T.a__law_row T.fd__law_row ["_law_reel_here"] (spF K mg 1 F__law_row) :=
  fn_okG (k := 3) (fb := den__law_row) T.F__law_row S__law_row rfl (fun cdv A outer s H E hr => 
  (dss_cons (ds_set 1 S__law_row.nd (de_lstM da_nil))
  (dss_cons (ds_for PassesOwn.never (di_range1 T.z_range (da_cons (de_add de_int (de_callG wok0 (ok__law_draw T) (hr.mono (by decide)) T.g__law_draw T.F__law_draw.kp T.b__law_draw (fun _ => pass_0) (da_cons (de_var 0) (da_cons (de_ix (de_lst (da_cons de_int (da_cons de_int da_nil))) (de_toInt T.z_int (da_cons (de_eq hr.units (de_callG wok0 (ok__law_draw T) (hr.mono (by decide)) T.g__law_draw T.F__law_draw.kp T.b__law_draw (fun _ => pass_0) (da_cons (de_var 0) (da_cons de_int da_nil))) de_int) da_nil))) da_nil)))) da_nil)) (dg_name 2 S__law_row.nd) (dss_cons (ds_set 3 S__law_row.nd (de_callG wok0 (ok__law_pair T) (hr.mono (by decide)) T.g__law_pair T.F__law_pair.kp T.b__law_pair (fun _ => pass_0) (da_cons (de_var 0) da_nil)))
  (dss_cons (ds_if (DW.dt (dw_and (dt_neM hr.units (de_var 1) (de_lst da_nil)) (dw_and1 (dt_eq hr.units (de_callG wok0 (ok__law_draw T) (hr.mono (by decide)) T.g__law_draw T.F__law_draw.kp T.b__law_draw (fun _ => pass_0) (da_cons (de_var 0) (da_cons de_int da_nil))) de_int)))) (dss_cons (ds_set 4 S__law_row.nd (de_callG wok0 (ok_times T) (hr.mono (by decide)) T.g_times T.F_times.kp T.b_times (fun _ => pass_0) (da_cons (de_callG wok0 (ok_times T) (hr.mono (by decide)) T.g_times T.F_times.kp T.b_times (fun _ => pass_0) (da_cons (de_tup (da_cons de_int (da_cons de_int da_nil))) (da_cons (de_tup (da_cons de_int (da_cons de_int da_nil))) da_nil))) (da_cons (de_callG wok0 (ok_times T) (hr.mono (by decide)) T.g_times T.F_times.kp T.b_times (fun _ => pass_0) (da_cons (de_tup (da_cons de_int (da_cons de_int da_nil))) (da_cons (de_tup (da_cons de_int (da_cons (de_sub de_int (de_callG wok0 (ok__law_draw T) (hr.mono (by decide)) T.g__law_draw T.F__law_draw.kp T.b__law_draw (fun _ => pass_0) (da_cons (de_var 0) (da_cons de_int da_nil)))) da_nil))) da_nil))) da_nil))))
  (dss_cons (ds_set 4 S__law_row.nd (de_ix (de_lst (da_cons (de_var 4) (da_cons (de_callG wok0 (ok_times T) (hr.mono (by decide)) T.g_times T.F_times.kp T.b_times (fun _ => pass_0) (da_cons (de_var 4) (da_cons (de_var 4) da_nil))) da_nil))) (de_callG wok0 (ok__law_draw T) (hr.mono (by decide)) T.g__law_draw T.F__law_draw.kp T.b__law_draw (fun _ => pass_0) (da_cons (de_var 0) (da_cons de_int da_nil)))))
  (dss_cons (ds_set 5 S__law_row.nd (de_ix (de_var 1) (de_callG wok0 (ok__law_draw T) (hr.mono (by decide)) T.g__law_draw T.F__law_draw.kp T.b__law_draw (fun _ => pass_0) (da_cons (de_var 0) (da_cons (de_len T.z_len (da_cons (de_var 1) da_nil)) da_nil)))))
  (dss_one (ds_set 3 S__law_row.nd (de_if (dt_eq hr.units (de_callG wok0 (ok__law_draw T) (hr.mono (by decide)) T.g__law_draw T.F__law_draw.kp T.b__law_draw (fun _ => pass_0) (da_cons (de_var 0) (da_cons de_int da_nil))) de_int) (de_callG wok0 (ok_plus T) (hr.mono (by decide)) T.g_plus T.F_plus.kp T.b_plus (fun _ => pass_0) (da_cons (de_var 5) (da_cons (de_var 4) da_nil))) (de_callG wok0 (ok_less T) (hr.mono (by decide)) T.g_less T.F_less.kp T.b_less (fun _ => pass_0) (da_cons (de_var 5) (da_cons (de_var 4) da_nil))))))))) dss_nil)
  (dss_cons (ds_if (DW.dt (dw_and (dt_neM hr.units (de_var 1) (de_lst da_nil)) (dw_and1 (dt_eq hr.units (de_callG wok0 (ok__law_draw T) (hr.mono (by decide)) T.g__law_draw T.F__law_draw.kp T.b__law_draw (fun _ => pass_0) (da_cons (de_var 0) (da_cons de_int da_nil))) de_int)))) (dss_one (ds_set 3 S__law_row.nd (de_ix (de_var 1) (de_callG wok0 (ok__law_draw T) (hr.mono (by decide)) T.g__law_draw T.F__law_draw.kp T.b__law_draw (fun _ => pass_0) (da_cons (de_var 0) (da_cons (de_len T.z_len (da_cons (de_var 1) da_nil)) da_nil)))))) dss_nil)
  (dss_one (ds_expr (de_append (de_var 1) (de_var 3))))))))
  (dss_one (ds_ret (de_tupOf T.z_tuple (da_cons (de_var 1) da_nil))))))) hF__law_row hX__law_row
set_option maxHeartbeats 4000000 in
theorem ok__law_below (T : Top K mg) : GOk P w K mg base CX0 1 T.a__law_below T.fd__law_below ["_law_one", "_law_other"] (spF K mg 2 F__law_below) :=
  fn_okG (k := 0) (fb := den__law_below) T.F__law_below S__law_below rfl (fun cdv A outer s H E hr => 
  (dss_one (ds_ret (de_lt (de_mul (de_ix (de_var 0) de_int) (de_ix (de_var 1) de_int)) (de_mul (de_ix (de_var 1) de_int) (de_ix (de_var 0) de_int)))))) hF__law_below hX__law_below
set_option maxHeartbeats 4000000 in
theorem ok__law_floor_right (T : Top K mg) : GOk P w K mg base CX0 2 T.a__law_floor_right T.fd__law_floor_right ["_law_one"] (spF K mg 1 F__law_floor_right) :=
  fn_okG (k := 1) (fb := den__law_floor_right) T.F__law_floor_right S__law_floor_right rfl (fun cdv A outer s H E hr => 
  (dss_cons (ds_set 1 S__law_floor_right.nd (de_callG wok0 (ok_floor T) (hr.mono (by decide)) T.g_floor T.F_floor.kp T.b_floor (fun _ => pass_0) (da_cons (de_var 0) da_nil)))
  (dss_cons (ds_if (DW.dt (dw_or (dt_not (dt_val (de_isi (pe_bltn (v := .ty "int") (u := .type "int") rfl T.z_int (by decide +kernel) rfl) (ClsV.ty "int") isi_ty T.z_isinstance (de_var 1)))) (dw_or1 (dt_val (de_isi (pe_bltn (v := .ty "bool") (u := .type "bool") rfl T.z_bool (by decide +kernel) rfl) (ClsV.ty "bool") isi_ty T.z_isinstance (de_var 1)))))) (dss_one (ds_ret de_bl)) dss_nil)
  (dss_one (ds_ret (de_chain op_le op_lt sle slt (de_mul (de_var 1) (de_ix (de_var 0) de_int)) (de_ix (de_var 0) de_int) (de_mul (de_add (de_var 1) de_int) (de_ix (de_var 0) de_int)))))))) hF__law_floor_right hX__law_floor_right
set_option maxHeartbeats 4000000 in
theorem ok_law (T : Top K mg) : GOk P w K mg base CX0 5 T.a_law T.fd_law ["_law_script"] (spF K mg 1 F_law) :=
  fn_okG (k := 4) (fb := den_law) T.F_law S_law rfl (fun cdv A outer s H E hr => 
  (dss_cons (ds_for PassesOwn.never (di_range1 T.z_range (da_cons (de_max rfl T.z_max (da_cons de_int (da_cons (de_min rfl T.z_min (da_cons de_int (da_cons (de_len T.z_len (da_cons (de_var 0) da_nil)) da_nil))) da_nil))) da_nil)) (dg_name 1 S_law.nd) (dss_cons (ds_set 2 S_law.nd (de_callG wok0 (ok__law_reel T) (hr.mono (by decide)) T.g__law_reel T.F__law_reel.kp T.b__law_reel (fun _ => pass_0) (da_cons (de_var 0) (da_cons (de_var 1) da_nil))))
  (dss_cons (ds_set 3 S_law.nd (de_callG wok0 (ok__law_row T) (hr.mono (by decide)) T.g__law_row T.F__law_row.kp T.b__law_row (fun _ => pass_0) (da_cons (de_var 2) da_nil)))
  (dss_cons (ds_asg (de_tup (da_cons (de_callG wok0 (ok_least T) (hr.mono (by decide)) T.g_least T.F_least.kp T.b_least (fun _ => pass_0) (da_cons (de_var 3) da_nil)) (da_cons (de_callG wok0 (ok_greatest T) (hr.mono (by decide)) T.g_greatest T.F_greatest.kp T.b_greatest (fun _ => pass_0) (da_cons (de_var 3) da_nil)) da_nil))) (dg_tup rfl (dgs_cons (dg_name 6 S_law.nd) (dgs_cons (dg_name 7 S_law.nd) dgs_nil))))
  (dss_cons (ds_if (DW.dt (dw_or (dt_ninD ⟨_, hr⟩ (de_var 6) (de_var 3)) (dw_or1 (dt_ninD ⟨_, hr⟩ (de_var 7) (de_var 3))))) (dss_one (ds_ret de_bl)) dss_nil)
  (dss_cons (ds_if (dt_ne hr.units (de_lc [("_law_one", 4)] (S_law.nd) (blkOk_by (N := N_law) (sc := defScope s_law) (own := [("_law_one", 4)]) (by decide +kernel)) (di_seq (de_var 3)) (fun _ _ _ _ _ => (dg_name 4 S_law.nd)) (fun _ _ _ _ _ => (dts_one (DW.dt (dw_or (dt_val (de_callG wok0 (ok__law_below T) (hr.mono (by decide)) T.g__law_below T.F__law_below.kp T.b__law_below (fun _ => pass_0) (da_cons (de_var 4) (da_cons (de_var 6) da_nil)))) (dw_or1 (dt_val (de_callG wok0 (ok__law_below T) (hr.mono (by decide)) T.g__law_below T.F__law_below.kp T.b__law_below (fun _ => pass_0) (da_cons (de_var 7) (da_cons (de_var 4) da_nil))))))))) (fun _ _ _ _ _ => (de_var 4))) (de_lst da_nil)) (dss_one (ds_ret de_bl)) dss_nil)
  (dss_cons (ds_asg (de_tup (da_cons de_int (da_cons de_int da_nil))) (dg_tup rfl (dgs_cons (dg_name 8 S_law.nd) (dgs_cons (dg_name 9 S_law.nd) dgs_nil))))
  (dss_cons (ds_for PassesOwn.never (di_seq (de_var 3)) (dg_name 4 S_law.nd) (dss_cons (ds_asg (de_callG wok0 (ok__law_low T) (hr.mono (by decide)) T.g__law_low T.F__law_low.kp T.b__law_low (fun _ => pass_0) (da_cons (de_add (de_mul (de_var 8) (de_ix (de_var 4) de_int)) (de_mul (de_ix (de_var 4) de_int) (de_var 9))) (da_cons (de_mul (de_var 9) (de_ix (de_var 4) de_int)) da_nil))) (dg_tup rfl (dgs_cons (dg_name 8 S_law.nd) (dgs_cons (dg_name 9 S_law.nd) dgs_nil))))
  (dss_one (ds_if (dt_not (dt_val (de_callG wok0 (ok__law_floor_right T) (hr.mono (by decide)) T.g__law_floor_right T.F__law_floor_right.kp T.b__law_floor_right (fun _ => pass_0) (da_cons (de_var 4) da_nil)))) (dss_one (ds_ret de_bl)) dss_nil))))
  (dss_one (ds_for PassesOwn.never (di_list (de_lst (da_cons (de_var 3) (da_cons (de_rv (de_var 3)) da_nil)))) (dg_name 5 S_law.nd) (dss_cons (ds_if (dt_neS (de_reprD ⟨_, hr⟩ T.z_repr (da_cons (de_callG wok0 (ok_summed T) (hr.mono (by decide)) T.g_summed T.F_summed.kp T.b_summed (fun _ => pass_0) (da_cons (de_var 5) da_nil)) da_nil)) (de_reprD ⟨_, hr⟩ T.z_repr (da_cons (de_tup (da_cons (de_var 8) (da_cons (de_var 9) da_nil))) da_nil))) (dss_one (ds_ret de_bl)) dss_nil)
  (dss_one (ds_if (DW.dt (dw_or (dt_ne hr.units (de_callG wok0 (ok_least T) (hr.mono (by decide)) T.g_least T.F_least.kp T.b_least (fun _ => pass_0) (da_cons (de_var 5) da_nil)) (de_var 6)) (dw_or1 (dt_ne hr.units (de_callG wok0 (ok_greatest T) (hr.mono (by decide)) T.g_greatest T.F_greatest.kp T.b_greatest (fun _ => pass_0) (da_cons (de_var 5) da_nil)) (de_var 7))))) (dss_one (ds_ret de_bl)) dss_nil)))))))))))))
  (dss_one (ds_ret (de_and (de_eq hr.units (de_callG wok0 (ok_summed T) (hr.mono (by decide)) T.g_summed T.F_summed.kp T.b_summed (fun _ => pass_0) (da_cons (de_tup da_nil) da_nil)) (de_tup (da_cons de_int (da_cons de_int da_nil)))) (de_one (de_eq hr.units (de_callG wok0 (ok_floor T) (hr.mono (by decide)) T.g_floor T.F_floor.kp T.b_floor (fun _ => pass_0) (da_cons (de_tup (da_cons (de_neg de_int) (da_cons de_int da_nil))) da_nil)) (de_neg de_int)))))))) hF_law hX_law
end
theorem all_mk {K : PySem.W.Frag} {h : Heap} {mg : Str → Option Value} (X : K.In h) (G : h.Ns mainGlobals mg)
    {f0 : Addr} {od0 an0 : Option Addr} {sl0 : Array (Option Value)} {oc0 kV0 dc0 pm0 cd0 ct0 : Value}
    (a0 : PySem.W.nsIn K mainGlobals "common" = some (some (.ref f0))) (l0 : K.lookup f0 = some ⟨oc0, od0, .func (PySem.W.fnOf "common" "common" (defArgs s_common) (defBody s_common) (defScope s_common) .none kV0 dc0 pm0 an0 cd0 ct0), sl0⟩) (c0 : PySem.W.codeIn K cd0 "common" = true) (k0 : PySem.W.keepIn K (.ref f0) = true)
    {f1 : Addr} {od1 an1 : Option Addr} {sl1 : Array (Option Value)} {oc1 kV1 dc1 pm1 cd1 ct1 : Value}
    (a1 : PySem.W.nsIn K mainGlobals "plus" = some (some (.ref f1))) (l1 : K.lookup f1 = some ⟨oc1, od1, .func (PySem.W.fnOf "plus" "plus" (defArgs s_plus) (defBody s_plus) (defScope s_plus) .none kV1 dc1 pm1 an1 cd1 ct1), sl1⟩) (c1 : PySem.W.codeIn K cd1 "plus" = true) (k1 : PySem.W.keepIn K (.ref f1) = true)
    {f2 : Addr} {od2 an2 : Option Addr} {sl2 : Array (Option Value)} {oc2 kV2 dc2 pm2 cd2 ct2 : Value}
    (a2 : PySem.W.nsIn K mainGlobals "less" = some (some (.ref f2))) (l2 : K.lookup f2 = some ⟨oc2, od2, .func (PySem.W.fnOf "less" "less" (defArgs s_less) (defBody s_less) (defScope s_less) .none kV2 dc2 pm2 an2 cd2 ct2), sl2⟩) (c2 : PySem.W.codeIn K cd2 "less" = true) (k2 : PySem.W.keepIn K (.ref f2) = true)
    {f3 : Addr} {od3 an3 : Option Addr} {sl3 : Array (Option Value)} {oc3 kV3 dc3 pm3 cd3 ct3 : Value}
    (a3 : PySem.W.nsIn K mainGlobals "times" = some (some (.ref f3))) (l3 : K.lookup f3 = some ⟨oc3, od3, .func (PySem.W.fnOf "times" "times" (defArgs s_times) (defBody s_times) (defScope s_times) .none kV3 dc3 pm3 an3 cd3 ct3), sl3⟩) (c3 : PySem.W.codeIn K cd3 "times" = true) (k3 : PySem.W.keepIn K (.ref f3) = true)
    {f4 : Addr} {od4 an4 : Option Addr} {sl4 : Array (Option Value)} {oc4 kV4 dc4 pm4 cd4 ct4 : Value}
    (a4 : PySem.W.nsIn K mainGlobals "is_less" = some (some (.ref f4))) (l4 : K.lookup f4 = some ⟨oc4, od4, .func (PySem.W.fnOf "is_less" "is_less" (defArgs s_is_less) (defBody s_is_less) (defScope s_is_less) .none kV4 dc4 pm4 an4 cd4 ct4), sl4⟩) (c4 : PySem.W.codeIn K cd4 "is_less" = true) (k4 : PySem.W.keepIn K (.ref f4) = true)
    {f5 : Addr} {od5 an5 : Option Addr} {sl5 : Array (Option Value)} {oc5 kV5 dc5 pm5 cd5 ct5 : Value}
    (a5 : PySem.W.nsIn K mainGlobals "least" = some (some (.ref f5))) (l5 : K.lookup f5 = some ⟨oc5, od5, .func (PySem.W.fnOf "least" "least" (defArgs s_least) (defBody s_least) (defScope s_least) .none kV5 dc5 pm5 an5 cd5 ct5), sl5⟩) (c5 : PySem.W.codeIn K cd5 "least" = true) (k5 : PySem.W.keepIn K (.ref f5) = true)
    {f6 : Addr} {od6 an6 : Option Addr} {sl6 : Array (Option Value)} {oc6 kV6 dc6 pm6 cd6 ct6 : Value}
    (a6 : PySem.W.nsIn K mainGlobals "greatest" = some (some (.ref f6))) (l6 : K.lookup f6 = some ⟨oc6, od6, .func (PySem.W.fnOf "greatest" "greatest" (defArgs s_greatest) (defBody s_greatest) (defScope s_greatest) .none kV6 dc6 pm6 an6 cd6 ct6), sl6⟩) (c6 : PySem.W.codeIn K cd6 "greatest" = true) (k6 : PySem.W.keepIn K (.ref f6) = true)
    {f7 : Addr} {od7 an7 : Option Addr} {sl7 : Array (Option Value)} {oc7 kV7 dc7 pm7 cd7 ct7 : Value}
    (a7 : PySem.W.nsIn K mainGlobals "summed" = some (some (.ref f7))) (l7 : K.lookup f7 = some ⟨oc7, od7, .func (PySem.W.fnOf "summed" "summed" (defArgs s_summed) (defBody s_summed) (defScope s_summed) .none kV7 dc7 pm7 an7 cd7 ct7), sl7⟩) (c7 : PySem.W.codeIn K cd7 "summed" = true) (k7 : PySem.W.keepIn K (.ref f7) = true)
    {f8 : Addr} {od8 an8 : Option Addr} {sl8 : Array (Option Value)} {oc8 kV8 dc8 pm8 cd8 ct8 : Value}
    (a8 : PySem.W.nsIn K mainGlobals "floor" = some (some (.ref f8))) (l8 : K.lookup f8 = some ⟨oc8, od8, .func (PySem.W.fnOf "floor" "floor" (defArgs s_floor) (defBody s_floor) (defScope s_floor) .none kV8 dc8 pm8 an8 cd8 ct8), sl8⟩) (c8 : PySem.W.codeIn K cd8 "floor" = true) (k8 : PySem.W.keepIn K (.ref f8) = true)
    {f9 : Addr} {od9 an9 : Option Addr} {sl9 : Array (Option Value)} {oc9 kV9 dc9 pm9 cd9 ct9 : Value}
    (a9 : PySem.W.nsIn K mainGlobals "_law_reel" = some (some (.ref f9))) (l9 : K.lookup f9 = some ⟨oc9, od9, .func (PySem.W.fnOf "_law_reel" "_law_reel" (defArgs s__law_reel) (defBody s__law_reel) (defScope s__law_reel) .none kV9 dc9 pm9 an9 cd9 ct9), sl9⟩) (c9 : PySem.W.codeIn K cd9 "_law_reel" = true) (k9 : PySem.W.keepIn K (.ref f9) = true)
    {f10 : Addr} {od10 an10 : Option Addr} {sl10 : Array (Option Value)} {oc10 kV10 dc10 pm10 cd10 ct10 : Value}
    (a10 : PySem.W.nsIn K mainGlobals "_law_draw" = some (some (.ref f10))) (l10 : K.lookup f10 = some ⟨oc10, od10, .func (PySem.W.fnOf "_law_draw" "_law_draw" (defArgs s__law_draw) (defBody s__law_draw) (defScope s__law_draw) .none kV10 dc10 pm10 an10 cd10 ct10), sl10⟩) (c10 : PySem.W.codeIn K cd10 "_law_draw" = true) (k10 : PySem.W.keepIn K (.ref f10) = true)
    {f11 : Addr} {od11 an11 : Option Addr} {sl11 : Array (Option Value)} {oc11 kV11 dc11 pm11 cd11 ct11 : Value}
    (a11 : PySem.W.nsIn K mainGlobals "_law_low" = some (some (.ref f11))) (l11 : K.lookup f11 = some ⟨oc11, od11, .func (PySem.W.fnOf "_law_low" "_law_low" (defArgs s__law_low) (defBody s__law_low) (defScope s__law_low) .none kV11 dc11 pm11 an11 cd11 ct11), sl11⟩) (c11 : PySem.W.codeIn K cd11 "_law_low" = true) (k11 : PySem.W.keepIn K (.ref f11) = true)
    {f12 : Addr} {od12 an12 : Option Addr} {sl12 : Array (Option Value)} {oc12 kV12 dc12 pm12 cd12 ct12 : Value}
    (a12 : PySem.W.nsIn K mainGlobals "_law_pair" = some (some (.ref f12))) (l12 : K.lookup f12 = some ⟨oc12, od12, .func (PySem.W.fnOf "_law_pair" "_law_pair" (defArgs s__law_pair) (defBody s__law_pair) (defScope s__law_pair) .none kV12 dc12 pm12 an12 cd12 ct12), sl12⟩) (c12 : PySem.W.codeIn K cd12 "_law_pair" = true) (k12 : PySem.W.keepIn K (.ref f12) = true)
    {f13 : Addr} {od13 an13 : Option Addr} {sl13 : Array (Option Value)} {oc13 kV13 dc13 pm13 cd13 ct13 : Value}
    (a13 : PySem.W.nsIn K mainGlobals "_law_row" = some (some (.ref f13))) (l13 : K.lookup f13 = some ⟨oc13, od13, .func (PySem.W.fnOf "_law_row" "_law_row" (defArgs s__law_row) (defBody s__law_row) (defScope s__law_row) .none kV13 dc13 pm13 an13 cd13 ct13), sl13⟩) (c13 : PySem.W.codeIn K cd13 "_law_row" = true) (k13 : PySem.W.keepIn K (.ref f13) = true)
    {f14 : Addr} {od14 an14 : Option Addr} {sl14 : Array (Option Value)} {oc14 kV14 dc14 pm14 cd14 ct14 : Value}
    (a14 : PySem.W.nsIn K mainGlobals "_law_below" = some (some (.ref f14))) (l14 : K.lookup f14 = some ⟨oc14, od14, .func (PySem.W.fnOf "_law_below" "_law_below" (defArgs s__law_below) (defBody s__law_below) (defScope s__law_below) .none kV14 dc14 pm14 an14 cd14 ct14), sl14⟩) (c14 : PySem.W.codeIn K cd14 "_law_below" = true) (k14 : PySem.W.keepIn K (.ref f14) = true)
    {f15 : Addr} {od15 an15 : Option Addr} {sl15 : Array (Option Value)} {oc15 kV15 dc15 pm15 cd15 ct15 : Value}
    (a15 : PySem.W.nsIn K mainGlobals "_law_floor_right" = some (some (.ref f15))) (l15 : K.lookup f15 = some ⟨oc15, od15, .func (PySem.W.fnOf "_law_floor_right" "_law_floor_right" (defArgs s__law_floor_right) (defBody s__law_floor_right) (defScope s__law_floor_right) .none kV15 dc15 pm15 an15 cd15 ct15), sl15⟩) (c15 : PySem.W.codeIn K cd15 "_law_floor_right" = true) (k15 : PySem.W.keepIn K (.ref f15) = true)
    {f16 : Addr} {od16 an16 : Option Addr} {sl16 : Array (Option Value)} {oc16 kV16 dc16 pm16 cd16 ct16 : Value}
    (a16 : PySem.W.nsIn K mainGlobals "law" = some (some (.ref f16))) (l16 : K.lookup f16 = some ⟨oc16, od16, .func (PySem.W.fnOf "law" "law" (defArgs s_law) (defBody s_law) (defScope s_law) .none kV16 dc16 pm16 an16 cd16 ct16), sl16⟩) (c16 : PySem.W.codeIn K cd16 "law" = true) (k16 : PySem.W.keepIn K (.ref f16) = true)
    (z_abs : PySem.W.nsIn K mainGlobals "abs" = some none)
    (z_bool : PySem.W.nsIn K mainGlobals "bool" = some none)
    (z_int : PySem.W.nsIn K mainGlobals "int" = some none)
    (z_isinstance : PySem.W.nsIn K mainGlobals "isinstance" = some none)
    (z_len : PySem.W.nsIn K mainGlobals "len" = some none)
    (z_max : PySem.W.nsIn K mainGlobals "max" = some none)
    (z_min : PySem.W.nsIn K mainGlobals "min" = some none)
    (z_range : PySem.W.nsIn K mainGlobals "range" = some none)
    (z_repr : PySem.W.nsIn K mainGlobals "repr" = some none)
    (z_tuple : PySem.W.nsIn K mainGlobals "tuple" = some none)
    {c_NOUGHT : Addr} {od_NOUGHT : Option Addr} {n_NOUGHT : Nat} {sl_NOUGHT : Array (Option Value)} {t0_NOUGHT t1_NOUGHT : Tok} (m_NOUGHT : PySem.W.nsIn K mainGlobals "NOUGHT" = some (some (.ref c_NOUGHT))) (l_NOUGHT : K.lookup c_NOUGHT = some ⟨.type "tuple", od_NOUGHT, .seq #[.int 0 t0_NOUGHT, .int 1 t1_NOUGHT] n_NOUGHT, sl_NOUGHT⟩)
    : ∃ T : Top K mg, T.a_law = f16 ∧ T.fd_law = PySem.W.fnOf "law" "law" (defArgs s_law) (defBody s_law) (defScope s_law) .none kV16 dc16 pm16 an16 cd16 ct16 := by
  have F0 := fun_mk (st := s_common) l0 c0 k0
  have b0 := F0.binds (ps := ["a", "b"]) fun _ _ _ _ _ _ us hl => match us, hl with | [_, _], _ => rfl
  have F1 := fun_mk (st := s_plus) l1 c1 k1
  have b1 := F1.binds (ps := ["one", "other"]) fun _ _ _ _ _ _ us hl => match us, hl with | [_, _], _ => rfl
  have F2 := fun_mk (st := s_less) l2 c2 k2
  have b2 := F2.binds (ps := ["one", "other"]) fun _ _ _ _ _ _ us hl => match us, hl with | [_, _], _ => rfl
  have F3 := fun_mk (st := s_times) l3 c3 k3
  have b3 := F3.binds (ps := ["one", "other"]) fun _ _ _ _ _ _ us hl => match us, hl with | [_, _], _ => rfl
  have F4 := fun_mk (st := s_is_less) l4 c4 k4
  have b4 := F4.binds (ps := ["one", "other"]) fun _ _ _ _ _ _ us hl => match us, hl with | [_, _], _ => rfl
  have F5 := fun_mk (st := s_least) l5 c5 k5
  have b5 := F5.binds (ps := ["some"]) fun _ _ _ _ _ _ us hl => match us, hl with | [_], _ => rfl
  have F6 := fun_mk (st := s_greatest) l6 c6 k6
  have b6 := F6.binds (ps := ["some"]) fun _ _ _ _ _ _ us hl => match us, hl with | [_], _ => rfl
  have F7 := fun_mk (st := s_summed) l7 c7 k7
  have b7 := F7.binds (ps := ["some"]) fun _ _ _ _ _ _ us hl => match us, hl with | [_], _ => rfl
  have F8 := fun_mk (st := s_floor) l8 c8 k8
  have b8 := F8.binds (ps := ["one"]) fun _ _ _ _ _ _ us hl => match us, hl with | [_], _ => rfl
  have F9 := fun_mk (st := s__law_reel) l9 c9 k9
  have b9 := F9.binds (ps := ["_law_script", "_law_k"]) fun _ _ _ _ _ _ us hl => match us, hl with | [_, _], _ => rfl
  have F10 := fun_mk (st := s__law_draw) l10 c10 k10
  have b10 := F10.binds (ps := ["_law_reel_here", "_law_many"]) fun _ _ _ _ _ _ us hl => match us, hl with | [_, _], _ => rfl
  have F11 := fun_mk (st := s__law_low) l11 c11 k11
  have b11 := F11.binds (ps := ["_law_top", "_law_bottom"]) fun _ _ _ _ _ _ us hl => match us, hl with | [_, _], _ => rfl
  have F12 := fun_mk (st := s__law_pair) l12 c12 k12
  have b12 := F12.binds (ps := ["_law_reel_here"]) fun _ _ _ _ _ _ us hl => match us, hl with | [_], _ => rfl
  have F13 := fun_mk (st := s__law_row) l13 c13 k13
  have b13 := F13.binds (ps := ["_law_reel_here"]) fun _ _ _ _ _ _ us hl => match us, hl with | [_], _ => rfl
  have F14 := fun_mk (st := s__law_below) l14 c14 k14
  have b14 := F14.binds (ps := ["_law_one", "_law_other"]) fun _ _ _ _ _ _ us hl => match us, hl with | [_, _], _ => rfl
  have F15 := fun_mk (st := s__law_floor_right) l15 c15 k15
  have b15 := F15.binds (ps := ["_law_one"]) fun _ _ _ _ _ _ us hl => match us, hl with | [_], _ => rfl
  have F16 := fun_mk (st := s_law) l16 c16 k16
  have b16 := F16.binds (ps := ["_law_script"]) fun _ _ _ _ _ _ us hl => match us, hl with | [_], _ => rfl
  exact ⟨⟨f0, _, F0, b0, PySem.W.mg_of X G a0, f1, _, F1, b1, PySem.W.mg_of X G a1, f2, _, F2, b2, PySem.W.mg_of X G a2, f3, _, F3, b3, PySem.W.mg_of X G a3, f4, _, F4, b4, PySem.W.mg_of X G a4, f5, _, F5, b5, PySem.W.mg_of X G a5, f6, _, F6, b6, PySem.W.mg_of X G a6, f7, _, F7, b7, PySem.W.mg_of X G a7, f8, _, F8, b8, PySem.W.mg_of X G a8, f9, _, F9, b9, PySem.W.mg_of X G a9, f10, _, F10, b10, PySem.W.mg_of X G a10, f11, _, F11, b11, PySem.W.mg_of X G a11, f12, _, F12, b12, PySem.W.mg_of X G a12, f13, _, F13, b13, PySem.W.mg_of X G a13, f14, _, F14, b14, PySem.W.mg_of X G a14, f15, _, F15, b15, PySem.W.mg_of X G a15, f16, _, F16, b16, PySem.W.mg_of X G a16, PySem.W.mg_none_of X G z_abs, PySem.W.mg_none_of X G z_bool, PySem.W.mg_none_of X G z_int, PySem.W.mg_none_of X G z_isinstance, PySem.W.mg_none_of X G z_len, PySem.W.mg_none_of X G z_max, PySem.W.mg_none_of X G z_min, PySem.W.mg_none_of X G z_range, PySem.W.mg_none_of X G z_repr, PySem.W.mg_none_of X G z_tuple, c_NOUGHT, PySem.W.mg_of X G m_NOUGHT, rp_c2 l_NOUGHT⟩, rfl, rfl⟩
theorem law_end {l : PySem.W.OpenLaw} {w : World} {fa : Addr} {K : PySem.W.Frag} {h : Heap} {mg : Str → Option Value} (X : K.In h) (G : h.Ns mainGlobals mg) (hfa : mg "law" = some (.ref fa))
    {f0 : Addr} {od0 an0 : Option Addr} {sl0 : Array (Option Value)} {oc0 kV0 dc0 pm0 cd0 ct0 : Value}
    (a0 : PySem.W.nsIn K mainGlobals "common" = some (some (.ref f0))) (l0 : K.lookup f0 = some ⟨oc0, od0, .func (PySem.W.fnOf "common" "common" (defArgs s_common) (defBody s_common) (defScope s_common) .none kV0 dc0 pm0 an0 cd0 ct0), sl0⟩) (c0 : PySem.W.codeIn K cd0 "common" = true) (k0 : PySem.W.keepIn K (.ref f0) = true)
    {f1 : Addr} {od1 an1 : Option Addr} {sl1 : Array (Option Value)} {oc1 kV1 dc1 pm1 cd1 ct1 : Value}
    (a1 : PySem.W.nsIn K mainGlobals "plus" = some (some (.ref f1))) (l1 : K.lookup f1 = some ⟨oc1, od1, .func (PySem.W.fnOf "plus" "plus" (defArgs s_plus) (defBody s_plus) (defScope s_plus) .none kV1 dc1 pm1 an1 cd1 ct1), sl1⟩) (c1 : PySem.W.codeIn K cd1 "plus" = true) (k1 : PySem.W.keepIn K (.ref f1) = true)
    {f2 : Addr} {od2 an2 : Option Addr} {sl2 : Array (Option Value)} {oc2 kV2 dc2 pm2 cd2 ct2 : Value}
    (a2 : PySem.W.nsIn K mainGlobals "less" = some (some (.ref f2))) (l2 : K.lookup f2 = some ⟨oc2, od2, .func (PySem.W.fnOf "less" "less" (defArgs s_less) (defBody s_less) (defScope s_less) .none kV2 dc2 pm2 an2 cd2 ct2), sl2⟩) (c2 : PySem.W.codeIn K cd2 "less" = true) (k2 : PySem.W.keepIn K (.ref f2) = true)
    {f3 : Addr} {od3 an3 : Option Addr} {sl3 : Array (Option Value)} {oc3 kV3 dc3 pm3 cd3 ct3 : Value}
    (a3 : PySem.W.nsIn K mainGlobals "times" = some (some (.ref f3))) (l3 : K.lookup f3 = some ⟨oc3, od3, .func (PySem.W.fnOf "times" "times" (defArgs s_times) (defBody s_times) (defScope s_times) .none kV3 dc3 pm3 an3 cd3 ct3), sl3⟩) (c3 : PySem.W.codeIn K cd3 "times" = true) (k3 : PySem.W.keepIn K (.ref f3) = true)
    {f4 : Addr} {od4 an4 : Option Addr} {sl4 : Array (Option Value)} {oc4 kV4 dc4 pm4 cd4 ct4 : Value}
    (a4 : PySem.W.nsIn K mainGlobals "is_less" = some (some (.ref f4))) (l4 : K.lookup f4 = some ⟨oc4, od4, .func (PySem.W.fnOf "is_less" "is_less" (defArgs s_is_less) (defBody s_is_less) (defScope s_is_less) .none kV4 dc4 pm4 an4 cd4 ct4), sl4⟩) (c4 : PySem.W.codeIn K cd4 "is_less" = true) (k4 : PySem.W.keepIn K (.ref f4) = true)
    {f5 : Addr} {od5 an5 : Option Addr} {sl5 : Array (Option Value)} {oc5 kV5 dc5 pm5 cd5 ct5 : Value}
    (a5 : PySem.W.nsIn K mainGlobals "least" = some (some (.ref f5))) (l5 : K.lookup f5 = some ⟨oc5, od5, .func (PySem.W.fnOf "least" "least" (defArgs s_least) (defBody s_least) (defScope s_least) .none kV5 dc5 pm5 an5 cd5 ct5), sl5⟩) (c5 : PySem.W.codeIn K cd5 "least" = true) (k5 : PySem.W.keepIn K (.ref f5) = true)
    {f6 : Addr} {od6 an6 : Option Addr} {sl6 : Array (Option Value)} {oc6 kV6 dc6 pm6 cd6 ct6 : Value}
    (a6 : PySem.W.nsIn K mainGlobals "greatest" = some (some (.ref f6))) (l6 : K.lookup f6 = some ⟨oc6, od6, .func (PySem.W.fnOf "greatest" "greatest" (defArgs s_greatest) (defBody s_greatest) (defScope s_greatest) .none kV6 dc6 pm6 an6 cd6 ct6), sl6⟩) (c6 : PySem.W.codeIn K cd6 "greatest" = true) (k6 : PySem.W.keepIn K (.ref f6) = true)
    {f7 : Addr} {od7 an7 : Option Addr} {sl7 : Array (Option Value)} {oc7 kV7 dc7 pm7 cd7 ct7 : Value}
    (a7 : PySem.W.nsIn K mainGlobals "summed" = some (some (.ref f7))) (l7 : K.lookup f7 = some ⟨oc7, od7, .func (PySem.W.fnOf "summed" "summed" (defArgs s_summed) (defBody s_summed) (defScope s_summed) .none kV7 dc7 pm7 an7 cd7 ct7), sl7⟩) (c7 : PySem.W.codeIn K cd7 "summed" = true) (k7 : PySem.W.keepIn K (.ref f7) = true)
    {f8 : Addr} {od8 an8 : Option Addr} {sl8 : Array (Option Value)} {oc8 kV8 dc8 pm8 cd8 ct8 : Value}
    (a8 : PySem.W.nsIn K mainGlobals "floor" = some (some (.ref f8))) (l8 : K.lookup f8 = some ⟨oc8, od8, .func (PySem.W.fnOf "floor" "floor" (defArgs s_floor) (defBody s_floor) (defScope s_floor) .none kV8 dc8 pm8 an8 cd8 ct8), sl8⟩) (c8 : PySem.W.codeIn K cd8 "floor" = true) (k8 : PySem.W.keepIn K (.ref f8) = true)
    {f9 : Addr} {od9 an9 : Option Addr} {sl9 : Array (Option Value)} {oc9 kV9 dc9 pm9 cd9 ct9 : Value}
    (a9 : PySem.W.nsIn K mainGlobals "_law_reel" = some (some (.ref f9))) (l9 : K.lookup f9 = some ⟨oc9, od9, .func (PySem.W.fnOf "_law_reel" "_law_reel" (defArgs s__law_reel) (defBody s__law_reel) (defScope s__law_reel) .none kV9 dc9 pm9 an9 cd9 ct9), sl9⟩) (c9 : PySem.W.codeIn K cd9 "_law_reel" = true) (k9 : PySem.W.keepIn K (.ref f9) = true)
    {f10 : Addr} {od10 an10 : Option Addr} {sl10 : Array (Option Value)} {oc10 kV10 dc10 pm10 cd10 ct10 : Value}
    (a10 : PySem.W.nsIn K mainGlobals "_law_draw" = some (some (.ref f10))) (l10 : K.lookup f10 = some ⟨oc10, od10, .func (PySem.W.fnOf "_law_draw" "_law_draw" (defArgs s__law_draw) (defBody s__law_draw) (defScope s__law_draw) .none kV10 dc10 pm10 an10 cd10 ct10), sl10⟩) (c10 : PySem.W.codeIn K cd10 "_law_draw" = true) (k10 : PySem.W.keepIn K (.ref f10) = true)
    {f11 : Addr} {od11 an11 : Option Addr} {sl11 : Array (Option Value)} {oc11 kV11 dc11 pm11 cd11 ct11 : Value}
    (a11 : PySem.W.nsIn K mainGlobals "_law_low" = some (some (.ref f11))) (l11 : K.lookup f11 = some ⟨oc11, od11, .func (PySem.W.fnOf "_law_low" "_law_low" (defArgs s__law_low) (defBody s__law_low) (defScope s__law_low) .none kV11 dc11 pm11 an11 cd11 ct11), sl11⟩) (c11 : PySem.W.codeIn K cd11 "_law_low" = true) (k11 : PySem.W.keepIn K (.ref f11) = true)
    {f12 : Addr} {od12 an12 : Option Addr} {sl12 : Array (Option Value)} {oc12 kV12 dc12 pm12 cd12 ct12 : Value}
    (a12 : PySem.W.nsIn K mainGlobals "_law_pair" = some (some (.ref f12))) (l12 : K.lookup f12 = some ⟨oc12, od12, .func (PySem.W.fnOf "_law_pair" "_law_pair" (defArgs s__law_pair) (defBody s__law_pair) (defScope s__law_pair) .none kV12 dc12 pm12 an12 cd12 ct12), sl12⟩) (c12 : PySem.W.codeIn K cd12 "_law_pair" = true) (k12 : PySem.W.keepIn K (.ref f12) = true)
    {f13 : Addr} {od13 an13 : Option Addr} {sl13 : Array (Option Value)} {oc13 kV13 dc13 pm13 cd13 ct13 : Value}
    (a13 : PySem.W.nsIn K mainGlobals "_law_row" = some (some (.ref f13))) (l13 : K.lookup f13 = some ⟨oc13, od13, .func (PySem.W.fnOf "_law_row" "_law_row" (defArgs s__law_row) (defBody s__law_row) (defScope s__law_row) .none kV13 dc13 pm13 an13 cd13 ct13), sl13⟩) (c13 : PySem.W.codeIn K cd13 "_law_row" = true) (k13 : PySem.W.keepIn K (.ref f13) = true)
    {f14 : Addr} {od14 an14 : Option Addr} {sl14 : Array (Option Value)} {oc14 kV14 dc14 pm14 cd14 ct14 : Value}
    (a14 : PySem.W.nsIn K mainGlobals "_law_below" = some (some (.ref f14))) (l14 : K.lookup f14 = some ⟨oc14, od14, .func (PySem.W.fnOf "_law_below" "_law_below" (defArgs s__law_below) (defBody s__law_below) (defScope s__law_below) .none kV14 dc14 pm14 an14 cd14 ct14), sl14⟩) (c14 : PySem.W.codeIn K cd14 "_law_below" = true) (k14 : PySem.W.keepIn K (.ref f14) = true)
    {f15 : Addr} {od15 an15 : Option Addr} {sl15 : Array (Option Value)} {oc15 kV15 dc15 pm15 cd15 ct15 : Value}
    (a15 : PySem.W.nsIn K mainGlobals "_law_floor_right" = some (some (.ref f15))) (l15 : K.lookup f15 = some ⟨oc15, od15, .func (PySem.W.fnOf "_law_floor_right" "_law_floor_right" (defArgs s__law_floor_right) (defBody s__law_floor_right) (defScope s__law_floor_right) .none kV15 dc15 pm15 an15 cd15 ct15), sl15⟩) (c15 : PySem.W.codeIn K cd15 "_law_floor_right" = true) (k15 : PySem.W.keepIn K (.ref f15) = true)
    {f16 : Addr} {od16 an16 : Option Addr} {sl16 : Array (Option Value)} {oc16 kV16 dc16 pm16 cd16 ct16 : Value}
    (a16 : PySem.W.nsIn K mainGlobals "law" = some (some (.ref f16))) (l16 : K.lookup f16 = some ⟨oc16, od16, .func (PySem.W.fnOf "law" "law" (defArgs s_law) (defBody s_law) (defScope s_law) .none kV16 dc16 pm16 an16 cd16 ct16), sl16⟩) (c16 : PySem.W.codeIn K cd16 "law" = true) (k16 : PySem.W.keepIn K (.ref f16) = true)
    (z_abs : PySem.W.nsIn K mainGlobals "abs" = some none)
    (z_bool : PySem.W.nsIn K mainGlobals "bool" = some none)
    (z_int : PySem.W.nsIn K mainGlobals "int" = some none)
    (z_isinstance : PySem.W.nsIn K mainGlobals "isinstance" = some none)
    (z_len : PySem.W.nsIn K mainGlobals "len" = some none)
    (z_max : PySem.W.nsIn K mainGlobals "max" = some none)
    (z_min : PySem.W.nsIn K mainGlobals "min" = some none)
    (z_range : PySem.W.nsIn K mainGlobals "range" = some none)
    (z_repr : PySem.W.nsIn K mainGlobals "repr" = some none)
    (z_tuple : PySem.W.nsIn K mainGlobals "tuple" = some none)
    {c_NOUGHT : Addr} {od_NOUGHT : Option Addr} {n_NOUGHT : Nat} {sl_NOUGHT : Array (Option Value)} {t0_NOUGHT t1_NOUGHT : Tok} (m_NOUGHT : PySem.W.nsIn K mainGlobals "NOUGHT" = some (some (.ref c_NOUGHT))) (l_NOUGHT : K.lookup c_NOUGHT = some ⟨.type "tuple", od_NOUGHT, .seq #[.int 0 t0_NOUGHT, .int 1 t1_NOUGHT] n_NOUGHT, sl_NOUGHT⟩)
    : ∃ fd : FuncData, (∀ (s : Shared) (v : Value), BindsTo s fd ⟨[v], []⟩ [("_law_script", v)]) ∧ ∀ base : Heap, K.In base → base.Ns mainGlobals mg → GOk l.prog w K mg base CX0 5 fa fd ["_law_script"] (spL K 1 F_law) := by
  obtain ⟨T, e1, e2⟩ := all_mk X G a0 l0 c0 k0 a1 l1 c1 k1 a2 l2 c2 k2 a3 l3 c3 k3 a4 l4 c4 k4 a5 l5 c5 k5 a6 l6 c6 k6 a7 l7 c7 k7 a8 l8 c8 k8 a9 l9 c9 k9 a10 l10 c10 k10 a11 l11 c11 k11 a12 l12 c12 k12 a13 l13 c13 k13 a14 l14 c14 k14 a15 l15 c15 k15 a16 l16 c16 k16 z_abs z_bool z_int z_isinstance z_len z_max z_min z_range z_repr z_tuple m_NOUGHT l_NOUGHT
  have e := hfa.symm.trans (PySem.W.mg_of X G a16)
  cases e
  exact ⟨PySem.W.fnOf "law" "law" (defArgs s_law) (defBody s_law) (defScope s_law) .none kV16 dc16 pm16 an16 cd16 ct16, fun s v => .of_eq rfl, fun base _ _ => by have := ok_law (P := l.prog) (w := w) (base := base) T; rw [e1, e2] at this; exact this.imp spL_imp⟩
theorem np_int (i : Int) : (D.int i).np = true := rfl
theorem np_bl (i : Bool) : (D.bl i).np = true := rfl
theorem np_tup (i : List D) : (D.tup i).np = true := rfl
theorem np_lst (i : List D) : (D.lst i).np = true := rfl
theorem np_str (i : Str) : (D.str i).np = true := rfl
theorem np_non : D.non.np = true := rfl
theorem if_true_ {α : Type} (a b : α) : (if true = true then a else b) = a := rfl
theorem if_false_ {α : Type} (a b : α) : (if false = true then a else b) = b := rfl
theorem zero_add' (n : Nat) : 0 + n = n := Nat.zero_add n
theorem nat_lt_pow {n k : Nat} (m : Nat) (h : n < 2 ^ k) (l : k ≤ m) : n < 2 ^ m := Nat.lt_of_lt_of_le h (Nat.pow_le_pow_right (by decide) l)
theorem if_tt {α : Type} (a b : α) : (if True then a else b) = a := if_pos trivial
theorem if_ff {α : Type} (a b : α) : (if False then a else b) = b := if_neg id
/-! common -/
theorem common_loop : ∀ (n : Nat) (a b : Int) (M : Mem), b.natAbs < n → ∃ a', a'.natAbs = Int.gcd a b ∧
    whileF (bnd (bnd (dVar 1) fun d => bnd (ret (.int 0)) fun e => oNe d e) asB) den_common_L1 n [some (.int a), some (.int b)] M = some (.nx [some (.int a'), some (.int 0)], M)
  | 0, a, b, M, h => absurd h (by omega)
  | n + 1, a, b, M, h => by
    by_cases hb : b = 0
    · subst hb
      refine ⟨a, by simp, ?_⟩
      unfold whileF
      simp -implicitDefEqProofs only [sSeq_ap, sAsg_ap, sPar_ap, sRet_ap, sIf_ap, sExpr_ap, sNext_ap, bnd_ap, ret_ap, bindR_ok, thenR_ok, dVar_ap, varR_ok, seqR_nx, seqR_rt, asgR_ok, gNm_ap, gCn_ap, gcnR_ok, gNl_ap, gTp_fr, gTp_ap, gLs_ap, dCons_ap, dNil_ap, asB_ap, dOr_ap, dAnd_ap, dNot_ap, dAndV_ap, dOrV_ap, dNotV_ap, dIf_ap, oAdd_int, oSub_int, oLt_int, oLe_int, oGt_int, oGe_int, oNeg_int, oEq_int, oNe_int, oEq_fr, oNe_fr, oEq_bl, oNe_bl, oTup_ap, oLst_ap, oCall_ap, oAbs_ap, oMax_ap, oMin_ap, oToInt_b, oToInt_i, oLen_lst, oLen_scr, oLen_tup, oIx_lst, oIx_scr, oAdd_lst, oIx_tup, oIx_fr0, oIx_fr1, ixR_ok, oItL_ap, oItT_ap, sFor_ap, startD, List.map_cons, List.map_nil, List.length_cons, List.length_nil, List.replicate_succ, List.replicate_zero, List.cons_append, List.nil_append, List.append_nil, List.getElem?_cons_zero, List.getElem?_cons_succ, List.set_cons_zero, List.set_cons_succ, Nat.reduceAdd, Nat.reduceSub, Nat.sub_self, Nat.reduceLeDiff, List.all_cons, List.all_nil, np_fr, np_int, np_bl, np_tup, np_lst, np_str, np_non, Bool.and_self, Bool.and_true, if_true_, if_false_, zero_add', if_tt, if_ff, decide_true, decide_false, Nat.le_refl, oItS_lst, oItS_tup, oTupOf_lst, oTupOf_tup, oLstOf_lst, oLstOf_tup, oRv_lst, oRv_tup, oAdd_tup, dChain_ap, asTru_bl, asTru_tup, asTru_lst, oIsN_ap, oNotN_ap, asI_ap, oSl_tup, oSl_lst, oZip_tup, oZip_lst, oAddI_ap, oEqS_ap, oNeS_ap, oNe_nil, Bool.not_true, Bool.false_eq_true]
    · obtain ⟨a', e1, e2⟩ := common_loop n b (a.fmod b) M (by have := natAbs_fmod_lt a hb; omega)
      refine ⟨a', by rw [e1, gcd_fmod], ?_⟩
      unfold whileF
      simp -implicitDefEqProofs only [sSeq_ap, sAsg_ap, sPar_ap, sRet_ap, sIf_ap, sExpr_ap, sNext_ap, bnd_ap, ret_ap, bindR_ok, thenR_ok, dVar_ap, varR_ok, seqR_nx, seqR_rt, asgR_ok, gNm_ap, gCn_ap, gcnR_ok, gNl_ap, gTp_fr, gTp_ap, gLs_ap, dCons_ap, dNil_ap, asB_ap, dOr_ap, dAnd_ap, dNot_ap, dAndV_ap, dOrV_ap, dNotV_ap, dIf_ap, oAdd_int, oSub_int, oLt_int, oLe_int, oGt_int, oGe_int, oNeg_int, oEq_int, oNe_int, oEq_fr, oNe_fr, oEq_bl, oNe_bl, oTup_ap, oLst_ap, oCall_ap, oAbs_ap, oMax_ap, oMin_ap, oToInt_b, oToInt_i, oLen_lst, oLen_scr, oLen_tup, oIx_lst, oIx_scr, oAdd_lst, oIx_tup, oIx_fr0, oIx_fr1, ixR_ok, oItL_ap, oItT_ap, sFor_ap, startD, List.map_cons, List.map_nil, List.length_cons, List.length_nil, List.replicate_succ, List.replicate_zero, List.cons_append, List.nil_append, List.append_nil, List.getElem?_cons_zero, List.getElem?_cons_succ, List.set_cons_zero, List.set_cons_succ, Nat.reduceAdd, Nat.reduceSub, Nat.sub_self, Nat.reduceLeDiff, List.all_cons, List.all_nil, np_fr, np_int, np_bl, np_tup, np_lst, np_str, np_non, Bool.and_self, Bool.and_true, if_true_, if_false_, zero_add', if_tt, if_ff, decide_true, decide_false, Nat.le_refl, oItS_lst, oItS_tup, oTupOf_lst, oTupOf_tup, oLstOf_lst, oLstOf_tup, oRv_lst, oRv_tup, oAdd_tup, dChain_ap, asTru_bl, asTru_tup, asTru_lst, oIsN_ap, oNotN_ap, asI_ap, oSl_tup, oSl_lst, oZip_tup, oZip_lst, oAddI_ap, oEqS_ap, oNeS_ap, oNe_nil, hb, Bool.not_false]
      have e4 : den_common_L1 [some (.int a), some (.int b)] M = some (.nx [some (.int b), some (.int (a.fmod b))], M) := by
        simp -implicitDefEqProofs only [den_common_L1, sSeq_ap, sAsg_ap, sPar_ap, sRet_ap, sIf_ap, sExpr_ap, sNext_ap, bnd_ap, ret_ap, bindR_ok, thenR_ok, dVar_ap, varR_ok, seqR_nx, seqR_rt, asgR_ok, gNm_ap, gCn_ap, gcnR_ok, gNl_ap, gTp_fr, gTp_ap, gLs_ap, dCons_ap, dNil_ap, asB_ap, dOr_ap, dAnd_ap, dNot_ap, dAndV_ap, dOrV_ap, dNotV_ap, dIf_ap, oAdd_int, oSub_int, oLt_int, oLe_int, oGt_int, oGe_int, oNeg_int, oEq_int, oNe_int, oEq_fr, oNe_fr, oEq_bl, oNe_bl, oTup_ap, oLst_ap, oCall_ap, oAbs_ap, oMax_ap, oMin_ap, oToInt_b, oToInt_i, oLen_lst, oLen_scr, oLen_tup, oIx_lst, oIx_scr, oAdd_lst, oIx_tup, oIx_fr0, oIx_fr1, ixR_ok, oItL_ap, oItT_ap, sFor_ap, startD, List.map_cons, List.map_nil, List.length_cons, List.length_nil, List.replicate_succ, List.replicate_zero, List.cons_append, List.nil_append, List.append_nil, List.getElem?_cons_zero, List.getElem?_cons_succ, List.set_cons_zero, List.set_cons_succ, Nat.reduceAdd, Nat.reduceSub, Nat.sub_self, Nat.reduceLeDiff, List.all_cons, List.all_nil, np_fr, np_int, np_bl, np_tup, np_lst, np_str, np_non, Bool.and_self, Bool.and_true, if_true_, if_false_, zero_add', if_tt, if_ff, decide_true, decide_false, Nat.le_refl, oItS_lst, oItS_tup, oTupOf_lst, oTupOf_tup, oLstOf_lst, oLstOf_tup, oRv_lst, oRv_tup, oAdd_tup, dChain_ap, asTru_bl, asTru_tup, asTru_lst, oIsN_ap, oNotN_ap, asI_ap, oSl_tup, oSl_lst, oZip_tup, oZip_lst, oAddI_ap, oEqS_ap, oNeS_ap, oNe_nil, oMod_int hb]
      simp -implicitDefEqProofs only [e4, e2]
theorem common_eq (a b : Int) (M : Mem) : F_common [.int a, .int b] M = some (.ok (.int (Int.gcd a b : Nat)), M) := by
  obtain ⟨a', e1, e2⟩ := common_loop (b.natAbs + 1) a b M (by omega)
  refine runF_pure ?_ rfl
  have e3 := sWhile_eq e2
  simp -implicitDefEqProofs only [den_common, sSeq_ap, sAsg_ap, sPar_ap, sRet_ap, sIf_ap, sExpr_ap, sNext_ap, bnd_ap, ret_ap, bindR_ok, thenR_ok, dVar_ap, varR_ok, seqR_nx, seqR_rt, asgR_ok, gNm_ap, gCn_ap, gcnR_ok, gNl_ap, gTp_fr, gTp_ap, gLs_ap, dCons_ap, dNil_ap, asB_ap, dOr_ap, dAnd_ap, dNot_ap, dAndV_ap, dOrV_ap, dNotV_ap, dIf_ap, oAdd_int, oSub_int, oLt_int, oLe_int, oGt_int, oGe_int, oNeg_int, oEq_int, oNe_int, oEq_fr, oNe_fr, oEq_bl, oNe_bl, oTup_ap, oLst_ap, oCall_ap, oAbs_ap, oMax_ap, oMin_ap, oToInt_b, oToInt_i, oLen_lst, oLen_scr, oLen_tup, oIx_lst, oIx_scr, oAdd_lst, oIx_tup, oIx_fr0, oIx_fr1, ixR_ok, oItL_ap, oItT_ap, sFor_ap, startD, List.map_cons, List.map_nil, List.length_cons, List.length_nil, List.replicate_succ, List.replicate_zero, List.cons_append, List.nil_append, List.append_nil, List.getElem?_cons_zero, List.getElem?_cons_succ, List.set_cons_zero, List.set_cons_succ, Nat.reduceAdd, Nat.reduceSub, Nat.sub_self, Nat.reduceLeDiff, List.all_cons, List.all_nil, np_fr, np_int, np_bl, np_tup, np_lst, np_str, np_non, Bool.and_self, Bool.and_true, if_true_, if_false_, zero_add', if_tt, if_ff, decide_true, decide_false, Nat.le_refl, oItS_lst, oItS_tup, oTupOf_lst, oTupOf_tup, oLstOf_lst, oLstOf_tup, oRv_lst, oRv_tup, oAdd_tup, dChain_ap, asTru_bl, asTru_tup, asTru_lst, oIsN_ap, oNotN_ap, asI_ap, oSl_tup, oSl_lst, oZip_tup, oZip_lst, oAddI_ap, oEqS_ap, oNeS_ap, oNe_nil, e3]
  rw [← e1]
  congr
  split <;> omega
/-! plus -/
theorem plus_math (x y : Rat) : let g := Nat.gcd x.den y.den
    let top : Int := x.num * ((y.den / g : Nat) : Int) + y.num * ((x.den / g : Nat) : Int)
    (x + y).num = top / (Int.gcd top g : Nat) ∧ (x + y).den = (x.den / g) * (y.den / Int.gcd top g) := by
  intro g top
  have hx := x.den_pos
  have hy := y.den_pos
  have gp : 0 < g := Nat.gcd_pos_of_pos_left _ hx
  obtain ⟨b', hb⟩ : g ∣ x.den := Nat.gcd_dvd_left _ _
  obtain ⟨d', hd⟩ : g ∣ y.den := Nat.gcd_dvd_right _ _
  have eb : x.den / g = b' := by rw [hb]; exact Nat.mul_div_cancel_left _ gp
  have ed : y.den / g = d' := by rw [hd]; exact Nat.mul_div_cancel_left _ gp
  have aux := Rat.add.aux x y (g := g) rfl rfl rfl
  simp only at aux
  have et : top = x.num * (d' : Int) + y.num * (b' : Int) := by show x.num * ((y.den / g : Nat) : Int) + y.num * ((x.den / g : Nat) : Int) = _; rw [eb, ed]
  have aux2 : top.natAbs.gcd g = top.natAbs.gcd (b' * y.den) := by
    have : top = x.num * ((y.den / g : Nat) : Int) + y.num * ((x.den / g : Nat) : Int) := rfl
    rw [this, aux, eb]
  have eg : Int.gcd top (g : Int) = top.natAbs.gcd g := by simp [Int.gcd]
  have hg1 : Int.gcd top g = top.natAbs.gcd (b' * y.den) := eg.trans aux2
  have g1g : Int.gcd top g ∣ g := by rw [eg]; exact Nat.gcd_dvd_right _ _
  have g1p : 0 < Int.gcd top g := Nat.pos_of_dvd_of_pos g1g gp
  obtain ⟨r, hr⟩ : Int.gcd top g ∣ y.den := Nat.dvd_trans g1g (Nat.gcd_dvd_right _ _)
  have er : y.den / Int.gcd top g = r := by rw [hr]; rw [← hr]; conv => lhs; lhs; rw [hr]
                                            exact Nat.mul_div_cancel_left _ g1p
  obtain ⟨t, ht⟩ : ((Int.gcd top g : Nat) : Int) ∣ top := Int.gcd_dvd_left ..
  have ett : top / (Int.gcd top g : Nat) = t := by
    conv => lhs; lhs; rw [ht]
    exact Int.mul_ediv_cancel_left _ (by omega)
  rw [eb, er, ett]
  have bp : 0 < b' := Nat.pos_of_ne_zero fun z => by rw [z] at hb; omega
  have rp : 0 < r := Nat.pos_of_ne_zero fun z => by rw [z] at hr; omega
  have hnz : b' * r ≠ 0 := Nat.ne_of_gt (Nat.mul_pos bp rp)
  have gp2 : 0 < top.natAbs.gcd (b' * y.den) := by rw [← hg1]; exact g1p
  refine rat_uniq hnz ?_ ?_
  · -- coprime
    have cop := Nat.coprime_div_gcd_div_gcd (m := top.natAbs) (n := b' * y.den) gp2
    rw [← hg1] at cop
    have e1 : top.natAbs / Int.gcd top g = t.natAbs := by
      conv => lhs; lhs; rw [ht]
      rw [Int.natAbs_mul, Int.natAbs_natCast]
      exact Nat.mul_div_cancel_left _ g1p
    have e2 : b' * y.den / Int.gcd top g = b' * r := by
      conv => lhs; lhs; rw [hr]
      rw [← Nat.mul_assoc, Nat.mul_comm b', Nat.mul_assoc]
      exact Nat.mul_div_cancel_left _ g1p
    rw [e1, e2] at cop
    exact cop
  · have e0 : mkRat (x + y).num (x + y).den = mkRat (x.num * y.den + y.num * x.den) (x.den * y.den) := by
      rw [Rat.mkRat_self, Rat.add_def, Rat.normalize_eq_mkRat]
    rw [Rat.mkRat_eq_iff (x + y).den_nz (Nat.ne_of_gt (Nat.mul_pos hx hy))] at e0
    have c1 : x.num * (y.den : Int) + y.num * (x.den : Int) = (g : Int) * ((Int.gcd top g : Nat) : Int) * t := by
      rw [Int.mul_assoc, ← ht, et, hb, hd]
      push_cast
      grind
    have c2 : ((x.den * y.den : Nat) : Int) = (g : Int) * ((Int.gcd top g : Nat) : Int) * ((b' * r : Nat) : Int) := by
      rw [hb, hr]
      push_cast
      grind
    rw [c1, c2] at e0
    have nz : (g : Int) * ((Int.gcd top g : Nat) : Int) ≠ 0 := by
      have : 0 < (g : Int) * ((Int.gcd top g : Nat) : Int) := Int.mul_pos (by omega) (by omega)
      omega
    refine Int.eq_of_mul_eq_mul_left nz ?_
    grind
theorem nat_div_lt {n g k : Nat} (h : n < 2 ^ k) : n / g < 2 ^ k := Nat.lt_of_le_of_lt (Nat.div_le_self _ _) h
theorem den_nat_lt {q : Rat} {k : Nat} (h : Bd k q) : ((q.den : Int)).natAbs < 2 ^ k := by simpa using h.2
/-- F_plus -/
theorem plus_eq {x y : Rat} (hx : Bd 4000 x) (hy : Bd 4000 y) (M : Mem) : F_plus [frQ x, frQ y] M = some (.ok (frQ (x + y)), M) := by
  obtain ⟨m1, m2⟩ := plus_math x y
  refine runF_pure ?_ rfl
  have gp : 0 < Nat.gcd x.den y.den := Nat.gcd_pos_of_pos_left _ x.den_pos
  have gl : Nat.gcd x.den y.den < 2 ^ 4000 := Nat.lt_of_le_of_lt (Nat.gcd_le_left _ x.den_pos) hx.2
  have ig : Int.gcd (x.den : Int) (y.den : Int) = Nat.gcd x.den y.den := by simp [Int.gcd]
  have d1 : DivOk ((Nat.gcd x.den y.den : Nat) : Int) := DivOk.of (b := 4000) (by omega) (by simpa using gl)
  have q1 : ((y.den : Int)).fdiv ((Nat.gcd x.den y.den : Nat) : Int) = ((y.den / Nat.gcd x.den y.den : Nat) : Int) := by rw [fdiv_nat]; rfl
  have q2 : ((x.den : Int)).fdiv ((Nat.gcd x.den y.den : Nat) : Int) = ((x.den / Nat.gcd x.den y.den : Nat) : Int) := by rw [fdiv_nat]; rfl
  have k1 : MulOk x.num ((y.den / Nat.gcd x.den y.den : Nat) : Int) := MulOk.of (a := 4000) (b := 4000) hx.1 (by rw [Int.natAbs_natCast]; exact nat_div_lt hy.2)
  have k2 : MulOk y.num ((x.den / Nat.gcd x.den y.den : Nat) : Int) := MulOk.of (a := 4000) (b := 4000) hy.1 (by rw [Int.natAbs_natCast]; exact nat_div_lt hx.2)
  generalize ht : x.num * ((y.den / Nat.gcd x.den y.den : Nat) : Int) + y.num * ((x.den / Nat.gcd x.den y.den : Nat) : Int) = top at m1 m2
  have ggd : Int.gcd top (Nat.gcd x.den y.den : Nat) ∣ Nat.gcd x.den y.den := by
    have : Int.gcd top (Nat.gcd x.den y.den : Nat) = Nat.gcd top.natAbs (Nat.gcd x.den y.den) := by simp [Int.gcd]
    rw [this]; exact Nat.gcd_dvd_right _ _
  have ggp : 0 < Int.gcd top (Nat.gcd x.den y.den : Nat) := Nat.pos_of_dvd_of_pos ggd gp
  have d2 : DivOk ((Int.gcd top (Nat.gcd x.den y.den : Nat) : Nat) : Int) := DivOk.of (b := 4000) (by omega) (by simpa using Nat.lt_of_le_of_lt (Nat.le_of_dvd gp ggd) gl)
  have q3 : ((y.den : Int)).fdiv ((Int.gcd top (Nat.gcd x.den y.den : Nat) : Nat) : Int) = ((y.den / Int.gcd top (Nat.gcd x.den y.den : Nat) : Nat) : Int) := by rw [fdiv_nat]; rfl
  have k3 : MulOk ((x.den / Nat.gcd x.den y.den : Nat) : Int) ((y.den / Int.gcd top (Nat.gcd x.den y.den : Nat) : Nat) : Int) := MulOk.of (a := 4000) (b := 4000) (by rw [Int.natAbs_natCast]; exact nat_div_lt hx.2) (by rw [Int.natAbs_natCast]; exact nat_div_lt hy.2)
  simp -implicitDefEqProofs only [den_plus, sSeq_ap, sAsg_ap, sPar_ap, sRet_ap, sIf_ap, sExpr_ap, sNext_ap, bnd_ap, ret_ap, bindR_ok, thenR_ok, dVar_ap, varR_ok, seqR_nx, seqR_rt, asgR_ok, gNm_ap, gCn_ap, gcnR_ok, gNl_ap, gTp_fr, gTp_ap, gLs_ap, dCons_ap, dNil_ap, asB_ap, dOr_ap, dAnd_ap, dNot_ap, dAndV_ap, dOrV_ap, dNotV_ap, dIf_ap, oAdd_int, oSub_int, oLt_int, oLe_int, oGt_int, oGe_int, oNeg_int, oEq_int, oNe_int, oEq_fr, oNe_fr, oEq_bl, oNe_bl, oTup_ap, oLst_ap, oCall_ap, oAbs_ap, oMax_ap, oMin_ap, oToInt_b, oToInt_i, oLen_lst, oLen_scr, oLen_tup, oIx_lst, oIx_scr, oAdd_lst, oIx_tup, oIx_fr0, oIx_fr1, ixR_ok, oItL_ap, oItT_ap, sFor_ap, startD, List.map_cons, List.map_nil, List.length_cons, List.length_nil, List.replicate_succ, List.replicate_zero, List.cons_append, List.nil_append, List.append_nil, List.getElem?_cons_zero, List.getElem?_cons_succ, List.set_cons_zero, List.set_cons_succ, Nat.reduceAdd, Nat.reduceSub, Nat.sub_self, Nat.reduceLeDiff, List.all_cons, List.all_nil, np_fr, np_int, np_bl, np_tup, np_lst, np_str, np_non, Bool.and_self, Bool.and_true, if_true_, if_false_, zero_add', if_tt, if_ff, decide_true, decide_false, Nat.le_refl, oItS_lst, oItS_tup, oTupOf_lst, oTupOf_tup, oLstOf_lst, oLstOf_tup, oRv_lst, oRv_tup, oAdd_tup, dChain_ap, asTru_bl, asTru_tup, asTru_lst, oIsN_ap, oNotN_ap, asI_ap, oSl_tup, oSl_lst, oZip_tup, oZip_lst, oAddI_ap, oEqS_ap, oNeS_ap, oNe_nil, common_eq, ig, oDiv_int d1, q1, q2, oMul_int k1, oMul_int k2, ht, oDiv_int d2, q3, oMul_int k3, fdiv_nat]
  congr
  · exact m1.symm
  · rw [m2]; push_cast; rfl
/-- times -/
theorem times_math (x y : Rat) : (x * y).num = (x.num / (Int.gcd x.num y.den : Nat)) * (y.num / (Int.gcd y.num x.den : Nat)) ∧ (x * y).den = (x.den / Int.gcd y.num x.den) * (y.den / Int.gcd x.num y.den) := by
  have e : x * y = Rat.mul x y := rfl
  have g1 : Int.gcd x.num y.den = x.num.natAbs.gcd y.den := by simp [Int.gcd]
  have g2 : Int.gcd y.num x.den = y.num.natAbs.gcd x.den := by simp [Int.gcd]
  rw [e, g1, g2]
  unfold Rat.mul
  simp -implicitDefEqProofs only [Int.divExact_eq_ediv, Nat.divExact_eq_div]
  exact ⟨trivial, trivial⟩
theorem times_eq {x y : Rat} (hx : Bd 4000 x) (hy : Bd 4000 y) (M : Mem) : F_times [frQ x, frQ y] M = some (.ok (frQ (x * y)), M) := by
  obtain ⟨m1, m2⟩ := times_math x y
  refine runF_pure ?_ rfl
  have gd : ∀ (n : Int) (d : Nat), 0 < d → 0 < Int.gcd n d ∧ Int.gcd n d ≤ d := fun n d hd => by
    have e : Int.gcd n d = n.natAbs.gcd d := by simp [Int.gcd]
    rw [e]
    exact ⟨Nat.gcd_pos_of_pos_right _ hd, Nat.gcd_le_right _ hd⟩
  obtain ⟨p1, l1⟩ := gd x.num y.den y.den_pos
  obtain ⟨p2, l2⟩ := gd y.num x.den x.den_pos
  have d1 : DivOk ((Int.gcd x.num y.den : Nat) : Int) := DivOk.of (b := 4000) (by omega) (by simpa using Nat.lt_of_le_of_lt l1 hy.2)
  have d2 : DivOk ((Int.gcd y.num x.den : Nat) : Int) := DivOk.of (b := 4000) (by omega) (by simpa using Nat.lt_of_le_of_lt l2 hx.2)
  have ab : ∀ (n : Int) (g : Nat), (n / (g : Int)).natAbs ≤ n.natAbs := fun n g => Int.natAbs_ediv_le_natAbs n g
  have k1 : MulOk (x.num / ((Int.gcd x.num y.den : Nat) : Int)) (y.num / ((Int.gcd y.num x.den : Nat) : Int)) := MulOk.of (a := 4000) (b := 4000) (Nat.lt_of_le_of_lt (ab _ _) hx.1) (Nat.lt_of_le_of_lt (ab _ _) hy.1)
  have k2 : MulOk ((x.den : Int) / ((Int.gcd y.num x.den : Nat) : Int)) ((y.den : Int) / ((Int.gcd x.num y.den : Nat) : Int)) := MulOk.of (a := 4000) (b := 4000) (Nat.lt_of_le_of_lt (ab _ _) (by simpa using hx.2)) (Nat.lt_of_le_of_lt (ab _ _) (by simpa using hy.2))
  simp -implicitDefEqProofs only [den_times, sSeq_ap, sAsg_ap, sPar_ap, sRet_ap, sIf_ap, sExpr_ap, sNext_ap, bnd_ap, ret_ap, bindR_ok, thenR_ok, dVar_ap, varR_ok, seqR_nx, seqR_rt, asgR_ok, gNm_ap, gCn_ap, gcnR_ok, gNl_ap, gTp_fr, gTp_ap, gLs_ap, dCons_ap, dNil_ap, asB_ap, dOr_ap, dAnd_ap, dNot_ap, dAndV_ap, dOrV_ap, dNotV_ap, dIf_ap, oAdd_int, oSub_int, oLt_int, oLe_int, oGt_int, oGe_int, oNeg_int, oEq_int, oNe_int, oEq_fr, oNe_fr, oEq_bl, oNe_bl, oTup_ap, oLst_ap, oCall_ap, oAbs_ap, oMax_ap, oMin_ap, oToInt_b, oToInt_i, oLen_lst, oLen_scr, oLen_tup, oIx_lst, oIx_scr, oAdd_lst, oIx_tup, oIx_fr0, oIx_fr1, ixR_ok, oItL_ap, oItT_ap, sFor_ap, startD, List.map_cons, List.map_nil, List.length_cons, List.length_nil, List.replicate_succ, List.replicate_zero, List.cons_append, List.nil_append, List.append_nil, List.getElem?_cons_zero, List.getElem?_cons_succ, List.set_cons_zero, List.set_cons_succ, Nat.reduceAdd, Nat.reduceSub, Nat.sub_self, Nat.reduceLeDiff, List.all_cons, List.all_nil, np_fr, np_int, np_bl, np_tup, np_lst, np_str, np_non, Bool.and_self, Bool.and_true, if_true_, if_false_, zero_add', if_tt, if_ff, decide_true, decide_false, Nat.le_refl, oItS_lst, oItS_tup, oTupOf_lst, oTupOf_tup, oLstOf_lst, oLstOf_tup, oRv_lst, oRv_tup, oAdd_tup, dChain_ap, asTru_bl, asTru_tup, asTru_lst, oIsN_ap, oNotN_ap, asI_ap, oSl_tup, oSl_lst, oZip_tup, oZip_lst, oAddI_ap, oEqS_ap, oNeS_ap, oNe_nil, common_eq, oDiv_int d1, oDiv_int d2, fdiv_nat, oMul_int k1, oMul_int k2]
  congr
  · exact m1.symm
  · rw [m2]; push_cast; rfl
/-- less -/
theorem fr_neg (y : Rat) : D.tup [.int (-y.num), .int (y.den : Int)] = frQ (-y) := by
  unfold frQ
  rw [Rat.neg_num, Rat.neg_den]
theorem Bd.neg {n : Nat} {q : Rat} (h : Bd n q) : Bd n (-q) := by
  unfold Bd
  rw [Rat.neg_num, Rat.neg_den, Int.natAbs_neg]
  exact h
theorem less_eq {x y : Rat} (hx : Bd 4000 x) (hy : Bd 4000 y) (M : Mem) : F_less [frQ x, frQ y] M = some (.ok (frQ (x - y)), M) := by
  refine runF_pure ?_ rfl
  simp -implicitDefEqProofs only [den_less, sSeq_ap, sAsg_ap, sPar_ap, sRet_ap, sIf_ap, sExpr_ap, sNext_ap, bnd_ap, ret_ap, bindR_ok, thenR_ok, dVar_ap, varR_ok, seqR_nx, seqR_rt, asgR_ok, gNm_ap, gCn_ap, gcnR_ok, gNl_ap, gTp_fr, gTp_ap, gLs_ap, dCons_ap, dNil_ap, asB_ap, dOr_ap, dAnd_ap, dNot_ap, dAndV_ap, dOrV_ap, dNotV_ap, dIf_ap, oAdd_int, oSub_int, oLt_int, oLe_int, oGt_int, oGe_int, oNeg_int, oEq_int, oNe_int, oEq_fr, oNe_fr, oEq_bl, oNe_bl, oTup_ap, oLst_ap, oCall_ap, oAbs_ap, oMax_ap, oMin_ap, oToInt_b, oToInt_i, oLen_lst, oLen_scr, oLen_tup, oIx_lst, oIx_scr, oAdd_lst, oIx_tup, oIx_fr0, oIx_fr1, ixR_ok, oItL_ap, oItT_ap, sFor_ap, startD, List.map_cons, List.map_nil, List.length_cons, List.length_nil, List.replicate_succ, List.replicate_zero, List.cons_append, List.nil_append, List.append_nil, List.getElem?_cons_zero, List.getElem?_cons_succ, List.set_cons_zero, List.set_cons_succ, Nat.reduceAdd, Nat.reduceSub, Nat.sub_self, Nat.reduceLeDiff, List.all_cons, List.all_nil, np_fr, np_int, np_bl, np_tup, np_lst, np_str, np_non, Bool.and_self, Bool.and_true, if_true_, if_false_, zero_add', if_tt, if_ff, decide_true, decide_false, Nat.le_refl, oItS_lst, oItS_tup, oTupOf_lst, oTupOf_tup, oLstOf_lst, oLstOf_tup, oRv_lst, oRv_tup, oAdd_tup, dChain_ap, asTru_bl, asTru_tup, asTru_lst, oIsN_ap, oNotN_ap, asI_ap, oSl_tup, oSl_lst, oZip_tup, oZip_lst, oAddI_ap, oEqS_ap, oNeS_ap, oNe_nil, fr_neg, plus_eq hx hy.neg]
  rw [Rat.sub_eq_add_neg]
/-- over -/
theorem inv_fr {y : Rat} : (0 < y.num → D.tup [.int (y.den : Int), .int y.num] = frQ y⁻¹) ∧ (y.num < 0 → D.tup [.int (-(y.den : Int)), .int (-y.num)] = frQ y⁻¹) := by
  have e : y⁻¹ = Rat.inv y := rfl
  constructor
  · intro h
    rw [e]
    unfold Rat.inv frQ
    rw [dif_neg (by omega), dif_pos h]
    simp only
    congr
    omega
  · intro h
    rw [e]
    unfold Rat.inv frQ
    rw [dif_pos h]
    simp only
    congr
    omega
theorem Bd.inv {n : Nat} {q : Rat} (h : Bd n q) : Bd n q⁻¹ := by
  have e : q⁻¹ = Rat.inv q := rfl
  rw [e]
  unfold Rat.inv
  split
  · refine ⟨?_, h.1⟩
    show (-(q.den : Int)).natAbs < _
    rw [Int.natAbs_neg]
    exact h.2
  · split
    · exact ⟨h.2, h.1⟩
    · exact h
theorem num_ne {y : Rat} (h : y ≠ 0) : y.num ≠ 0 := fun z => h (Rat.num_eq_zero.mp z)
theorem isless_eq {x y : Rat} (hx : Bd 4000 x) (hy : Bd 4000 y) (M : Mem) : F_is_less [frQ x, frQ y] M = some (.ok (.bl (decide (x < y))), M) := by
  refine runF_pure ?_ rfl
  have k1 : MulOk x.num (y.den : Int) := MulOk.of (a := 4000) (b := 4000) hx.1 (den_nat_lt hy)
  have k2 : MulOk y.num (x.den : Int) := MulOk.of (a := 4000) (b := 4000) hy.1 (den_nat_lt hx)
  simp -implicitDefEqProofs only [den_is_less, sSeq_ap, sAsg_ap, sPar_ap, sRet_ap, sIf_ap, sExpr_ap, sNext_ap, bnd_ap, ret_ap, bindR_ok, thenR_ok, dVar_ap, varR_ok, seqR_nx, seqR_rt, asgR_ok, gNm_ap, gCn_ap, gcnR_ok, gNl_ap, gTp_fr, gTp_ap, gLs_ap, dCons_ap, dNil_ap, asB_ap, dOr_ap, dAnd_ap, dNot_ap, dAndV_ap, dOrV_ap, dNotV_ap, dIf_ap, oAdd_int, oSub_int, oLt_int, oLe_int, oGt_int, oGe_int, oNeg_int, oEq_int, oNe_int, oEq_fr, oNe_fr, oEq_bl, oNe_bl, oTup_ap, oLst_ap, oCall_ap, oAbs_ap, oMax_ap, oMin_ap, oToInt_b, oToInt_i, oLen_lst, oLen_scr, oLen_tup, oIx_lst, oIx_scr, oAdd_lst, oIx_tup, oIx_fr0, oIx_fr1, ixR_ok, oItL_ap, oItT_ap, sFor_ap, startD, List.map_cons, List.map_nil, List.length_cons, List.length_nil, List.replicate_succ, List.replicate_zero, List.cons_append, List.nil_append, List.append_nil, List.getElem?_cons_zero, List.getElem?_cons_succ, List.set_cons_zero, List.set_cons_succ, Nat.reduceAdd, Nat.reduceSub, Nat.sub_self, Nat.reduceLeDiff, List.all_cons, List.all_nil, np_fr, np_int, np_bl, np_tup, np_lst, np_str, np_non, Bool.and_self, Bool.and_true, if_true_, if_false_, zero_add', if_tt, if_ff, decide_true, decide_false, Nat.le_refl, oItS_lst, oItS_tup, oTupOf_lst, oTupOf_tup, oLstOf_lst, oLstOf_tup, oRv_lst, oRv_tup, oAdd_tup, dChain_ap, asTru_bl, asTru_tup, asTru_lst, oIsN_ap, oNotN_ap, asI_ap, oSl_tup, oSl_lst, oZip_tup, oZip_lst, oAddI_ap, oEqS_ap, oNeS_ap, oNe_nil, oMul_int k1, oMul_int k2, Rat.lt_iff]
/-! sizes -/
theorem bd_of {q : Rat} {N : Int} {Dn n : Nat} (hD : Dn ≠ 0) (e : q = mkRat N Dn) (hN : N.natAbs < 2 ^ n) (hDn : Dn < 2 ^ n) : Bd n q := by
  subst e
  rw [← Rat.normalize_eq_mkRat hD, Rat.normalize_eq]
  refine ⟨?_, ?_⟩
  · exact Nat.lt_of_le_of_lt (Int.natAbs_ediv_le_natAbs _ _) hN
  · exact nat_div_lt hDn
theorem mul_lt_pow {a b m n : Nat} (ha : a < 2 ^ m) (hb : b < 2 ^ n) : a * b < 2 ^ (m + n) := by
  rw [Nat.pow_add]; exact Nat.mul_lt_mul'' ha hb
theorem Bd.add {m n : Nat} {x y : Rat} (hx : Bd m x) (hy : Bd n y) : Bd (m + n + 1) (x + y) := by
  refine bd_of (Nat.ne_of_gt (Nat.mul_pos x.den_pos y.den_pos)) (by rw [Rat.add_def, Rat.normalize_eq_mkRat]) ?_ ?_
  · have h1 := mul_lt_pow hx.1 hy.2
    have h2 := mul_lt_pow hy.1 hx.2
    rw [Nat.add_comm n m] at h2
    have e1 : (x.num * (y.den : Int)).natAbs = x.num.natAbs * y.den := by rw [Int.natAbs_mul, Int.natAbs_natCast]
    have e2 : (y.num * (x.den : Int)).natAbs = y.num.natAbs * x.den := by rw [Int.natAbs_mul, Int.natAbs_natCast]
    have := Int.natAbs_add_le (x.num * (y.den : Int)) (y.num * (x.den : Int))
    rw [Nat.pow_succ]
    omega
  · have h3 := mul_lt_pow hx.2 hy.2
    exact nat_lt_pow _ h3 (by omega)
theorem Bd.mul {m n : Nat} {x y : Rat} (hx : Bd m x) (hy : Bd n y) : Bd (m + n) (x * y) := by
  refine bd_of (Nat.ne_of_gt (Nat.mul_pos x.den_pos y.den_pos)) (by rw [Rat.mul_def, Rat.normalize_eq_mkRat]) ?_ ?_
  · rw [Int.natAbs_mul]; exact mul_lt_pow hx.1 hy.1
  · exact mul_lt_pow hx.2 hy.2
theorem Bd.sub {m n : Nat} {x y : Rat} (hx : Bd m x) (hy : Bd n y) : Bd (m + n + 1) (x - y) := by
  rw [Rat.sub_eq_add_neg]; exact hx.add hy.neg
theorem Bd.div {m n : Nat} {x y : Rat} (hx : Bd m x) (hy : Bd n y) : Bd (m + n) (x / y) := by
  rw [Rat.div_def]; exact hx.mul hy.inv
/-! _law_low -/
theorem divInt_cross (t b : Int) (hb : b ≠ 0) : (Rat.divInt t b).num * b = t * ((Rat.divInt t b).den : Int) := by
  have h := Rat.num_divInt_den (Rat.divInt t b)
  rw [Rat.divInt_eq_divInt_iff (by have := (Rat.divInt t b).den_pos; omega) hb] at h
  exact h
theorem low_math {t b by' : Int} (hb : b ≠ 0) (e : by' = (Int.gcd t b : Int) * (if b < 0 then -1 else 1)) : D.tup [.int (t.fdiv by'), .int (b.fdiv by')] = frQ (Rat.divInt t b) := by
  have gp : 0 < Int.gcd t b := Int.gcd_pos_of_ne_zero_right t hb
  obtain ⟨t', ht⟩ : ((Int.gcd t b : Nat) : Int) ∣ t := Int.gcd_dvd_left ..
  obtain ⟨b', hb'⟩ : ((Int.gcd t b : Nat) : Int) ∣ b := Int.gcd_dvd_right ..
  have cop : Int.gcd t' b' = 1 := by
    have h := Int.gcd_mul_left ((Int.gcd t b : Nat) : Int) t' b'
    rw [← ht, ← hb', Int.natAbs_natCast] at h
    have h2 : Int.gcd t b * Int.gcd t' b' = Int.gcd t b * 1 := by rw [Nat.mul_one]; exact h.symm
    exact Nat.eq_of_mul_eq_mul_left gp h2
  have cr := divInt_cross t b hb
  generalize hg : ((Int.gcd t b : Nat) : Int) = g at *
  have gp' : 0 < g := by omega
  have s : ∃ s : Int, (s = 1 ∨ s = -1) ∧ by' = g * s ∧ 0 < b' * s := by
    split at e
    · rename_i h
      refine ⟨-1, .inr rfl, e, ?_⟩
      have : b' < 0 := by
        rcases Int.lt_or_le b' 0 with q | q
        · exact q
        · have := Int.mul_nonneg (Int.le_of_lt gp') q; omega
      omega
    · rename_i h
      refine ⟨1, .inl rfl, e, ?_⟩
      have : 0 < b' := by
        rcases Int.lt_or_le 0 b' with q | q
        · exact q
        · have h2 : g * b' ≤ 0 := Int.mul_nonpos_of_nonneg_of_nonpos (Int.le_of_lt gp') q
          omega
      omega
  obtain ⟨s, hs, e2, pb⟩ := s
  have q : ∀ z : Int, (g * z).fdiv (g * s) = z * s := fun z => by
    have : g * z = (z * s) * (g * s) := by rcases hs with h | h <;> subst h <;> grind
    rw [this]
    refine Int.mul_fdiv_cancel _ ?_
    rcases hs with h | h <;> subst h <;> omega
  have e3 : t.fdiv by' = t' * s := by rw [e2]; conv => lhs; lhs; rw [ht]
                                      exact q t'
  have e4 : b.fdiv by' = b' * s := by rw [e2]; conv => lhs; lhs; rw [hb']
                                      exact q b'
  rw [e3, e4]
  refine fr_of pb ?_ ?_
  · rcases hs with h | h <;> subst h <;> simp [cop]
  · refine Int.eq_of_mul_eq_mul_left (a := g) (by omega) ?_
    have c2 : (Rat.divInt t b).num * (g * b') = g * t' * ((Rat.divInt t b).den : Int) := by rw [← hb', ← ht]; exact cr
    grind
theorem low_loop : ∀ (n : Nat) (x y z : Option D) (a b : Nat) (M : Mem), b < n →
    whileF (bnd (bnd (dVar 4) fun d => bnd (ret (.int 0)) fun e => oGt d e) asB) den__law_low_L1 n [x, y, z, some (.int (a : Int)), some (.int (b : Int))] M = some (.nx [x, y, z, some (.int (Nat.gcd a b : Nat)), some (.int 0)], M)
  | 0, x, y, z, a, b, M, h => absurd h (by omega)
  | n + 1, x, y, z, a, b, M, h => by
    by_cases hb : b = 0
    · subst hb
      unfold whileF
      simp -implicitDefEqProofs only [sSeq_ap, sAsg_ap, sPar_ap, sRet_ap, sIf_ap, sExpr_ap, sNext_ap, bnd_ap, ret_ap, bindR_ok, thenR_ok, dVar_ap, varR_ok, seqR_nx, seqR_rt, asgR_ok, gNm_ap, gCn_ap, gcnR_ok, gNl_ap, gTp_fr, gTp_ap, gLs_ap, dCons_ap, dNil_ap, asB_ap, dOr_ap, dAnd_ap, dNot_ap, dAndV_ap, dOrV_ap, dNotV_ap, dIf_ap, oAdd_int, oSub_int, oLt_int, oLe_int, oGt_int, oGe_int, oNeg_int, oEq_int, oNe_int, oEq_fr, oNe_fr, oEq_bl, oNe_bl, oTup_ap, oLst_ap, oCall_ap, oAbs_ap, oMax_ap, oMin_ap, oToInt_b, oToInt_i, oLen_lst, oLen_scr, oLen_tup, oIx_lst, oIx_scr, oAdd_lst, oIx_tup, oIx_fr0, oIx_fr1, ixR_ok, oItL_ap, oItT_ap, sFor_ap, startD, List.map_cons, List.map_nil, List.length_cons, List.length_nil, List.replicate_succ, List.replicate_zero, List.cons_append, List.nil_append, List.append_nil, List.getElem?_cons_zero, List.getElem?_cons_succ, List.set_cons_zero, List.set_cons_succ, Nat.reduceAdd, Nat.reduceSub, Nat.sub_self, Nat.reduceLeDiff, List.all_cons, List.all_nil, np_fr, np_int, np_bl, np_tup, np_lst, np_str, np_non, Bool.and_self, Bool.and_true, if_true_, if_false_, zero_add', if_tt, if_ff, decide_true, decide_false, Nat.le_refl, oItS_lst, oItS_tup, oTupOf_lst, oTupOf_tup, oLstOf_lst, oLstOf_tup, oRv_lst, oRv_tup, oAdd_tup, dChain_ap, asTru_bl, asTru_tup, asTru_lst, oIsN_ap, oNotN_ap, asI_ap, oSl_tup, oSl_lst, oZip_tup, oZip_lst, oAddI_ap, oEqS_ap, oNeS_ap, oNe_nil]
      simp
    · have ih := low_loop n x y z b (a % b) M (by have := Nat.mod_lt a (Nat.pos_of_ne_zero hb); omega)
      unfold whileF
      have hb' : (b : Int) ≠ 0 := by omega
      have hb2 : (0 : Int) < (b : Int) := by omega
      have e : ((a : Int)).fmod (b : Int) = ((a % b : Nat) : Int) := by rw [fmod_nat]; rfl
      have e2 : Nat.gcd b (a % b) = Nat.gcd a b := by rw [Nat.gcd_comm b, ← Nat.gcd_rec, Nat.gcd_comm]
      have e4 : den__law_low_L1 [x, y, z, some (.int (a : Int)), some (.int (b : Int))] M = some (.nx [x, y, z, some (.int (b : Int)), some (.int ((a % b : Nat) : Int))], M) := by
        simp -implicitDefEqProofs only [den__law_low_L1, sSeq_ap, sAsg_ap, sPar_ap, sRet_ap, sIf_ap, sExpr_ap, sNext_ap, bnd_ap, ret_ap, bindR_ok, thenR_ok, dVar_ap, varR_ok, seqR_nx, seqR_rt, asgR_ok, gNm_ap, gCn_ap, gcnR_ok, gNl_ap, gTp_fr, gTp_ap, gLs_ap, dCons_ap, dNil_ap, asB_ap, dOr_ap, dAnd_ap, dNot_ap, dAndV_ap, dOrV_ap, dNotV_ap, dIf_ap, oAdd_int, oSub_int, oLt_int, oLe_int, oGt_int, oGe_int, oNeg_int, oEq_int, oNe_int, oEq_fr, oNe_fr, oEq_bl, oNe_bl, oTup_ap, oLst_ap, oCall_ap, oAbs_ap, oMax_ap, oMin_ap, oToInt_b, oToInt_i, oLen_lst, oLen_scr, oLen_tup, oIx_lst, oIx_scr, oAdd_lst, oIx_tup, oIx_fr0, oIx_fr1, ixR_ok, oItL_ap, oItT_ap, sFor_ap, startD, List.map_cons, List.map_nil, List.length_cons, List.length_nil, List.replicate_succ, List.replicate_zero, List.cons_append, List.nil_append, List.append_nil, List.getElem?_cons_zero, List.getElem?_cons_succ, List.set_cons_zero, List.set_cons_succ, Nat.reduceAdd, Nat.reduceSub, Nat.sub_self, Nat.reduceLeDiff, List.all_cons, List.all_nil, np_fr, np_int, np_bl, np_tup, np_lst, np_str, np_non, Bool.and_self, Bool.and_true, if_true_, if_false_, zero_add', if_tt, if_ff, decide_true, decide_false, Nat.le_refl, oItS_lst, oItS_tup, oTupOf_lst, oTupOf_tup, oLstOf_lst, oLstOf_tup, oRv_lst, oRv_tup, oAdd_tup, dChain_ap, asTru_bl, asTru_tup, asTru_lst, oIsN_ap, oNotN_ap, asI_ap, oSl_tup, oSl_lst, oZip_tup, oZip_lst, oAddI_ap, oEqS_ap, oNeS_ap, oNe_nil, oMod_int hb', e]
      simp -implicitDefEqProofs only [sSeq_ap, sAsg_ap, sPar_ap, sRet_ap, sIf_ap, sExpr_ap, sNext_ap, bnd_ap, ret_ap, bindR_ok, thenR_ok, dVar_ap, varR_ok, seqR_nx, seqR_rt, asgR_ok, gNm_ap, gCn_ap, gcnR_ok, gNl_ap, gTp_fr, gTp_ap, gLs_ap, dCons_ap, dNil_ap, asB_ap, dOr_ap, dAnd_ap, dNot_ap, dAndV_ap, dOrV_ap, dNotV_ap, dIf_ap, oAdd_int, oSub_int, oLt_int, oLe_int, oGt_int, oGe_int, oNeg_int, oEq_int, oNe_int, oEq_fr, oNe_fr, oEq_bl, oNe_bl, oTup_ap, oLst_ap, oCall_ap, oAbs_ap, oMax_ap, oMin_ap, oToInt_b, oToInt_i, oLen_lst, oLen_scr, oLen_tup, oIx_lst, oIx_scr, oAdd_lst, oIx_tup, oIx_fr0, oIx_fr1, ixR_ok, oItL_ap, oItT_ap, sFor_ap, startD, List.map_cons, List.map_nil, List.length_cons, List.length_nil, List.replicate_succ, List.replicate_zero, List.cons_append, List.nil_append, List.append_nil, List.getElem?_cons_zero, List.getElem?_cons_succ, List.set_cons_zero, List.set_cons_succ, Nat.reduceAdd, Nat.reduceSub, Nat.sub_self, Nat.reduceLeDiff, List.all_cons, List.all_nil, np_fr, np_int, np_bl, np_tup, np_lst, np_str, np_non, Bool.and_self, Bool.and_true, if_true_, if_false_, zero_add', if_tt, if_ff, decide_true, decide_false, Nat.le_refl, oItS_lst, oItS_tup, oTupOf_lst, oTupOf_tup, oLstOf_lst, oLstOf_tup, oRv_lst, oRv_tup, oAdd_tup, dChain_ap, asTru_bl, asTru_tup, asTru_lst, oIsN_ap, oNotN_ap, asI_ap, oSl_tup, oSl_lst, oZip_tup, oZip_lst, oAddI_ap, oEqS_ap, oNeS_ap, oNe_nil, hb2, e4, ih, e2]
theorem low_eq {t b : Int} (hb : b ≠ 0) (hs : b.natAbs < 2 ^ 4000) (M : Mem) : F__law_low [.int t, .int b] M = some (.ok (frQ (Rat.divInt t b)), M) := by
  refine runF_pure ?_ rfl
  have a1 : (if t < 0 then -t else t) = ((t.natAbs : Nat) : Int) := by split <;> omega
  have a2 : (if b < 0 then -b else b) = ((b.natAbs : Nat) : Int) := by split <;> omega
  have lp := sWhile_eq (low_loop (b.natAbs + 1) (some (.int t)) (some (.int b)) none t.natAbs b.natAbs M (by omega))
  have gp : 0 < Int.gcd t b := Int.gcd_pos_of_ne_zero_right t hb
  have gl : Int.gcd t b < 2 ^ 4000 := Nat.lt_of_le_of_lt (Nat.gcd_le_right _ (by omega)) hs
  have eg : Nat.gcd t.natAbs b.natAbs = Int.gcd t b := rfl
  have k1 : ∀ s : Int, (s = 1 ∨ s = -1) → MulOk ((Int.gcd t b : Nat) : Int) s := fun s h => MulOk.of (a := 4000) (b := 2) (by rw [Int.natAbs_natCast]; exact gl) (by rcases h with h | h <;> subst h <;> decide)
  have k2 : ∀ s : Int, (s = 1 ∨ s = -1) → DivOk (((Int.gcd t b : Nat) : Int) * s) := fun s h => DivOk.of (b := 4000) (by rcases h with h | h <;> subst h <;> omega) (by rw [Int.natAbs_mul, Int.natAbs_natCast]; rcases h with h | h <;> subst h <;> simpa using gl)
  simp -implicitDefEqProofs only [den__law_low, sSeq_ap, sAsg_ap, sPar_ap, sRet_ap, sIf_ap, sExpr_ap, sNext_ap, bnd_ap, ret_ap, bindR_ok, thenR_ok, dVar_ap, varR_ok, seqR_nx, seqR_rt, asgR_ok, gNm_ap, gCn_ap, gcnR_ok, gNl_ap, gTp_fr, gTp_ap, gLs_ap, dCons_ap, dNil_ap, asB_ap, dOr_ap, dAnd_ap, dNot_ap, dAndV_ap, dOrV_ap, dNotV_ap, dIf_ap, oAdd_int, oSub_int, oLt_int, oLe_int, oGt_int, oGe_int, oNeg_int, oEq_int, oNe_int, oEq_fr, oNe_fr, oEq_bl, oNe_bl, oTup_ap, oLst_ap, oCall_ap, oAbs_ap, oMax_ap, oMin_ap, oToInt_b, oToInt_i, oLen_lst, oLen_scr, oLen_tup, oIx_lst, oIx_scr, oAdd_lst, oIx_tup, oIx_fr0, oIx_fr1, ixR_ok, oItL_ap, oItT_ap, sFor_ap, startD, List.map_cons, List.map_nil, List.length_cons, List.length_nil, List.replicate_succ, List.replicate_zero, List.cons_append, List.nil_append, List.append_nil, List.getElem?_cons_zero, List.getElem?_cons_succ, List.set_cons_zero, List.set_cons_succ, Nat.reduceAdd, Nat.reduceSub, Nat.sub_self, Nat.reduceLeDiff, List.all_cons, List.all_nil, np_fr, np_int, np_bl, np_tup, np_lst, np_str, np_non, Bool.and_self, Bool.and_true, if_true_, if_false_, zero_add', if_tt, if_ff, decide_true, decide_false, Nat.le_refl, oItS_lst, oItS_tup, oTupOf_lst, oTupOf_tup, oLstOf_lst, oLstOf_tup, oRv_lst, oRv_tup, oAdd_tup, dChain_ap, asTru_bl, asTru_tup, asTru_lst, oIsN_ap, oNotN_ap, asI_ap, oSl_tup, oSl_lst, oZip_tup, oZip_lst, oAddI_ap, oEqS_ap, oNeS_ap, oNe_nil, a1, a2, lp, eg]
  by_cases hn : b < 0
  · have i1 : atI [D.int 1, D.int (-1)] 1 = some (D.int (-1)) := rfl
    simp -implicitDefEqProofs only [sSeq_ap, sAsg_ap, sPar_ap, sRet_ap, sIf_ap, sExpr_ap, sNext_ap, bnd_ap, ret_ap, bindR_ok, thenR_ok, dVar_ap, varR_ok, seqR_nx, seqR_rt, asgR_ok, gNm_ap, gCn_ap, gcnR_ok, gNl_ap, gTp_fr, gTp_ap, gLs_ap, dCons_ap, dNil_ap, asB_ap, dOr_ap, dAnd_ap, dNot_ap, dAndV_ap, dOrV_ap, dNotV_ap, dIf_ap, oAdd_int, oSub_int, oLt_int, oLe_int, oGt_int, oGe_int, oNeg_int, oEq_int, oNe_int, oEq_fr, oNe_fr, oEq_bl, oNe_bl, oTup_ap, oLst_ap, oCall_ap, oAbs_ap, oMax_ap, oMin_ap, oToInt_b, oToInt_i, oLen_lst, oLen_scr, oLen_tup, oIx_lst, oIx_scr, oAdd_lst, oIx_tup, oIx_fr0, oIx_fr1, ixR_ok, oItL_ap, oItT_ap, sFor_ap, startD, List.map_cons, List.map_nil, List.length_cons, List.length_nil, List.replicate_succ, List.replicate_zero, List.cons_append, List.nil_append, List.append_nil, List.getElem?_cons_zero, List.getElem?_cons_succ, List.set_cons_zero, List.set_cons_succ, Nat.reduceAdd, Nat.reduceSub, Nat.sub_self, Nat.reduceLeDiff, List.all_cons, List.all_nil, np_fr, np_int, np_bl, np_tup, np_lst, np_str, np_non, Bool.and_self, Bool.and_true, if_true_, if_false_, zero_add', if_tt, if_ff, decide_true, decide_false, Nat.le_refl, oItS_lst, oItS_tup, oTupOf_lst, oTupOf_tup, oLstOf_lst, oLstOf_tup, oRv_lst, oRv_tup, oAdd_tup, dChain_ap, asTru_bl, asTru_tup, asTru_lst, oIsN_ap, oNotN_ap, asI_ap, oSl_tup, oSl_lst, oZip_tup, oZip_lst, oAddI_ap, oEqS_ap, oNeS_ap, oNe_nil, hn, decide_true, i1, oMul_int (k1 (-1) (.inr rfl)), oDiv_int (k2 (-1) (.inr rfl))]
    rw [low_math hb (by rw [if_pos hn])]
  · have i1 : atI [D.int 1, D.int (-1)] 0 = some (D.int 1) := rfl
    simp -implicitDefEqProofs only [sSeq_ap, sAsg_ap, sPar_ap, sRet_ap, sIf_ap, sExpr_ap, sNext_ap, bnd_ap, ret_ap, bindR_ok, thenR_ok, dVar_ap, varR_ok, seqR_nx, seqR_rt, asgR_ok, gNm_ap, gCn_ap, gcnR_ok, gNl_ap, gTp_fr, gTp_ap, gLs_ap, dCons_ap, dNil_ap, asB_ap, dOr_ap, dAnd_ap, dNot_ap, dAndV_ap, dOrV_ap, dNotV_ap, dIf_ap, oAdd_int, oSub_int, oLt_int, oLe_int, oGt_int, oGe_int, oNeg_int, oEq_int, oNe_int, oEq_fr, oNe_fr, oEq_bl, oNe_bl, oTup_ap, oLst_ap, oCall_ap, oAbs_ap, oMax_ap, oMin_ap, oToInt_b, oToInt_i, oLen_lst, oLen_scr, oLen_tup, oIx_lst, oIx_scr, oAdd_lst, oIx_tup, oIx_fr0, oIx_fr1, ixR_ok, oItL_ap, oItT_ap, sFor_ap, startD, List.map_cons, List.map_nil, List.length_cons, List.length_nil, List.replicate_succ, List.replicate_zero, List.cons_append, List.nil_append, List.append_nil, List.getElem?_cons_zero, List.getElem?_cons_succ, List.set_cons_zero, List.set_cons_succ, Nat.reduceAdd, Nat.reduceSub, Nat.sub_self, Nat.reduceLeDiff, List.all_cons, List.all_nil, np_fr, np_int, np_bl, np_tup, np_lst, np_str, np_non, Bool.and_self, Bool.and_true, if_true_, if_false_, zero_add', if_tt, if_ff, decide_true, decide_false, Nat.le_refl, oItS_lst, oItS_tup, oTupOf_lst, oTupOf_tup, oLstOf_lst, oLstOf_tup, oRv_lst, oRv_tup, oAdd_tup, dChain_ap, asTru_bl, asTru_tup, asTru_lst, oIsN_ap, oNotN_ap, asI_ap, oSl_tup, oSl_lst, oZip_tup, oZip_lst, oAddI_ap, oEqS_ap, oNeS_ap, oNe_nil, hn, decide_false, Bool.false_eq_true, i1, oMul_int (k1 1 (.inl rfl)), oDiv_int (k2 1 (.inl rfl))]
    rw [low_math hb (by rw [if_neg hn])]
theorem bd_divInt {t b : Int} {n : Nat} (hb : b ≠ 0) (ht : t.natAbs < 2 ^ n) (hs : b.natAbs < 2 ^ n) : Bd n (Rat.divInt t b) := by
  rcases Int.lt_or_gt_of_ne hb with h | h
  · have e : Rat.divInt t b = mkRat (-t) b.natAbs := by
      have : -b = ((b.natAbs : Nat) : Int) := by omega
      rw [← Rat.neg_divInt_neg t b, this, Rat.divInt_ofNat]
    exact bd_of (by omega) e (by omega) (by omega)
  · have e : Rat.divInt t b = mkRat t b.natAbs := by
      have : b = ((b.natAbs : Nat) : Int) := by omega
      conv => lhs; rw [this]
      rw [Rat.divInt_ofNat]
    exact bd_of (by omega) e ht hs
/-! the reel -/
/-- at n a reel that was drawn of at most c times -/
def HasReel (c n : Nat) (M : Mem) : Prop := ∃ a r t : Int, M[n]? = some (some [.int a, .int r, .int t]) ∧ 0 ≤ a ∧ 0 ≤ r ∧ r < 2 ^ 40 ∧ 0 ≤ t ∧ t ≤ c
/-- all else stays -/
structure Turned (c n : Nat) (M M' : Mem) : Prop where
  len : M'.length = M.length
  oth : ∀ j, j ≠ n → M'[j]? = M[j]?
  has : HasReel c n M'
theorem Turned.trans {c c' n : Nat} {M M1 M2 : Mem} (a : Turned c n M M1) (b : Turned c' n M1 M2) : Turned c' n M M2 := ⟨b.len.trans a.len, fun j h => (b.oth j h).trans (a.oth j h), b.has⟩
theorem HasReel.mono {c c' n : Nat} {M : Mem} (h : HasReel c n M) (l : c ≤ c') : HasReel c' n M := by
  obtain ⟨a, r, t, e, h1, h2, h3, h4, h5⟩ := h
  exact ⟨a, r, t, e, h1, h2, h3, h4, by omega⟩
theorem Turned.mono {c c' n : Nat} {M M1 : Mem} (a : Turned c n M M1) (l : c ≤ c') : Turned c' n M M1 := ⟨a.len, a.oth, a.has.mono l⟩
theorem HasReel.self {c n : Nat} {M : Mem} (h : HasReel c n M) : Turned c n M M := ⟨rfl, fun _ _ => rfl, h⟩
theorem HasReel.lt {c n : Nat} {M : Mem} (h : HasReel c n M) : n < M.length := by
  obtain ⟨a, r, t, e, _⟩ := h
  rcases Nat.lt_or_ge n M.length with q | q
  · exact q
  · rw [List.getElem?_eq_none q] at e; cases e
theorem atI_mem {α : Type} {l : List α} {i : Int} (h0 : 0 ≤ i) (h : i < l.length) : ∃ d, atI l i = some d ∧ d ∈ l := by
  obtain ⟨j, rfl⟩ : ∃ j : Nat, i = j := ⟨i.toNat, by omega⟩
  have hj : j < l.length := by omega
  exact ⟨l[j], by rw [atI_nat', List.getElem?_eq_getElem hj], List.getElem_mem hj⟩
theorem atI3_0 {α : Type} (x y z : α) : atI [x, y, z] 0 = some x := rfl
theorem atI3_1 {α : Type} (x y z : α) : atI [x, y, z] 1 = some y := rfl
theorem atI3_2 {α : Type} (x y z : α) : atI [x, y, z] 2 = some z := rfl
theorem ixN3_0 : ixN 3 0 = some 0 := rfl
theorem ixN3_2 : ixN 3 2 = some 2 := rfl
theorem fmod_pos {i m : Int} (h : 0 < m) : 0 ≤ i.fmod m ∧ i.fmod m < m := ⟨Int.fmod_nonneg_of_pos i h, Int.fmod_lt_of_pos i h⟩
theorem prime_at {i : Int} (h0 : 0 ≤ i) (h : i < 7) : ∃ p : Int, atI [D.int 2147483587, .int 2147483579, .int 2147483563, .int 2147483549, .int 2147483543, .int 2147483497, .int 2147483489] i = some (.int p) ∧ 0 < p ∧ p < 2 ^ 31 := by
  obtain ⟨d, e, m⟩ := atI_mem (l := [D.int 2147483587, .int 2147483579, .int 2147483563, .int 2147483549, .int 2147483543, .int 2147483497, .int 2147483489]) h0 h
  simp -implicitDefEqProofs only [List.mem_cons, List.not_mem_nil, or_false] at m
  rcases m with m | m | m | m | m | m | m <;> subst m <;> exact ⟨_, e, by decide, by decide⟩
theorem natAbs_lt_of {x : Int} {k : Nat} (h0 : 0 ≤ x) (h : x < 2 ^ k) : x.natAbs < 2 ^ k := by
  have : (x.natAbs : Int) = x := by omega
  have h2 : (x.natAbs : Int) < ((2 ^ k : Nat) : Int) := by rw [this]; push_cast; exact h
  exact_mod_cast h2
theorem draw_eq {c n : Nat} {M : Mem} {m : Int} (hr : HasReel c n M) (hc : c < 2 ^ 30) (h0 : 0 < m) (hm : m.natAbs < 2 ^ 4000) :
    ∃ v M', F__law_draw [.ptr n, .int m] M = some (.ok (.int v), M') ∧ 0 ≤ v ∧ v < m ∧ Turned (c + 1) n M M' := by
  have hn := hr.lt
  obtain ⟨a, r, t, e, ha, hr0, hr1, ht0, ht1⟩ := hr
  have hm0 : m ≠ 0 := by omega
  by_cases hp : 0 < a
  · refine ⟨a.fmod m, M.set n (some [.int (a.fdiv m), .int r, .int t]), ?_, (fmod_pos h0).1, (fmod_pos h0).2, by simp, fun j h => List.getElem?_set_ne (Ne.symm h), a.fdiv m, r, t, List.getElem?_set_self hn, ?_, hr0, hr1, ht0, by omega⟩
    · have hd : DivOk m := DivOk.of (b := 4000) hm0 hm
      have := runF_rt (N := ["_law_reel_here", "_law_many", "_law_turn", "_law_primes", "_law_one", "_law_digit"]) (fb := den__law_draw) (ds := [.ptr n, .int m]) (M := M) (M2 := M.set n (some [.int (a.fdiv m), .int r, .int t])) (d := .int (a.fmod m)) (by
        simp -implicitDefEqProofs only [den__law_draw, sSeq_ap, sAsg_ap, sPar_ap, sRet_ap, sIf_ap, sExpr_ap, sNext_ap, bnd_ap, ret_ap, bindR_ok, thenR_ok, dVar_ap, varR_ok, seqR_nx, seqR_rt, asgR_ok, gNm_ap, gCn_ap, gcnR_ok, gNl_ap, gTp_fr, gTp_ap, gLs_ap, dCons_ap, dNil_ap, asB_ap, dOr_ap, dAnd_ap, dNot_ap, dAndV_ap, dOrV_ap, dNotV_ap, dIf_ap, oAdd_int, oSub_int, oLt_int, oLe_int, oGt_int, oGe_int, oNeg_int, oEq_int, oNe_int, oEq_fr, oNe_fr, oEq_bl, oNe_bl, oTup_ap, oLst_ap, oCall_ap, oAbs_ap, oMax_ap, oMin_ap, oToInt_b, oToInt_i, oLen_lst, oLen_scr, oLen_tup, oIx_lst, oIx_scr, oAdd_lst, oIx_tup, oIx_fr0, oIx_fr1, ixR_ok, oItL_ap, oItT_ap, sFor_ap, startD, List.map_cons, List.map_nil, List.length_cons, List.length_nil, List.replicate_succ, List.replicate_zero, List.cons_append, List.nil_append, List.append_nil, List.getElem?_cons_zero, List.getElem?_cons_succ, List.set_cons_zero, List.set_cons_succ, Nat.reduceAdd, Nat.reduceSub, Nat.sub_self, Nat.reduceLeDiff, List.all_cons, List.all_nil, np_fr, np_int, np_bl, np_tup, np_lst, np_str, np_non, Bool.and_self, Bool.and_true, if_true_, if_false_, zero_add', if_tt, if_ff, decide_true, decide_false, Nat.le_refl, oItS_lst, oItS_tup, oTupOf_lst, oTupOf_tup, oLstOf_lst, oLstOf_tup, oRv_lst, oRv_tup, oAdd_tup, dChain_ap, asTru_bl, asTru_tup, asTru_lst, oIsN_ap, oNotN_ap, asI_ap, oSl_tup, oSl_lst, oZip_tup, oZip_lst, oAddI_ap, oEqS_ap, oNeS_ap, oNe_nil, oIx_ptr _ _ e, atI3_0, hp, decide_true, oMod_int hm0, oDiv_int hd, sStore_ap, e, ixN3_0]) (by simp) rfl
      rw [F__law_draw, this, List.take_of_length_le (by simp)]
    · exact Int.fdiv_nonneg ha (by omega)
  · have ea : a = 0 := by omega
    subst ea
    obtain ⟨p, e1, p0, p1⟩ := prime_at (fmod_pos (i := t + 1) (m := 7) (by decide)).1 (fmod_pos (by decide)).2
    obtain ⟨p', e2, q0, q1⟩ := prime_at (fmod_pos (i := t + 1 + 3) (m := 7) (by decide)).1 (fmod_pos (by decide)).2
    have hpz : p ≠ 0 := by omega
    have hqz : p' ≠ 0 := by omega
    have hcz : (c : Int) < 2 ^ 30 := by exact_mod_cast hc
    have tl : (t + 1).natAbs < 2 ^ 31 := natAbs_lt_of (by omega) (by omega)
    have k1 : MulOk (t + 1) (t + 1) := MulOk.of tl tl
    have tt : ((t + 1) * (t + 1)).natAbs < 2 ^ 62 := by rw [Int.natAbs_mul]; exact mul_lt_pow tl tl
    have tt2 : ((t + 1) * (t + 1) + 48271).natAbs < 2 ^ 63 := by omega
    have k2 : MulOk (r + 7) ((t + 1) * (t + 1) + 48271) := MulOk.of (a := 41) (b := 63) (natAbs_lt_of (by omega) (by omega)) tt2
    generalize hv1 : ((r + 7) * ((t + 1) * (t + 1) + 48271)).fmod p = v1
    have b1 : 0 ≤ v1 ∧ v1 < 2 ^ 31 := by
      have := fmod_pos (i := (r + 7) * ((t + 1) * (t + 1) + 48271)) p0
      rw [hv1] at this; omega
    have l1 : v1.natAbs < 2 ^ 31 := natAbs_lt_of b1.1 b1.2
    have k3 : MulOk v1 v1 := MulOk.of l1 l1
    have k4 : MulOk 69621 (t + 1) := MulOk.of (a := 20) (b := 31) (by decide) tl
    generalize hv2 : (v1 * v1 + 69621 * (t + 1) + 12345).fmod p' = v2
    have b2 : 0 ≤ v2 ∧ v2 < 2 ^ 31 := by
      have := fmod_pos (i := v1 * v1 + 69621 * (t + 1) + 12345) q0
      rw [hv2] at this; omega
    have l2 : v2.natAbs < 2 ^ 31 := natAbs_lt_of b2.1 b2.2
    have k5 : MulOk v2 (v2 + 40692) := MulOk.of (a := 31) (b := 32) l2 (natAbs_lt_of (by omega) (by omega))
    have d7 : DivOk 7 := DivOk.of (b := 4) (by decide) (by decide)
    generalize hv3 : (((v2 * (v2 + 40692)).fmod 2147483629).fdiv 7).fmod m = v3
    have b3 : 0 ≤ v3 ∧ v3 < m := by rw [← hv3]; exact fmod_pos h0
    have z1 : (2147483629 : Int) ≠ 0 := by decide
    have z7 : (7 : Int) ≠ 0 := by decide
    have eM : (M.set n (some [D.int 0, .int r, .int (t + 1)]))[n]? = some (some [D.int 0, .int r, .int (t + 1)]) := List.getElem?_set_self hn
    refine ⟨v3, M.set n (some [.int 0, .int r, .int (t + 1)]), ?_, b3.1, b3.2, by simp, fun j h => List.getElem?_set_ne (Ne.symm h), 0, r, t + 1, eM, by omega, hr0, hr1, by omega, by push_cast; omega⟩
    have := runF_rt (N := ["_law_reel_here", "_law_many", "_law_turn", "_law_primes", "_law_one", "_law_digit"]) (fb := den__law_draw) (ds := [.ptr n, .int m]) (M := M) (M2 := M.set n (some [.int 0, .int r, .int (t + 1)])) (d := .int v3) (by
      have z0 : ¬ ((0 : Int) < 0) := by decide
      simp -implicitDefEqProofs only [den__law_draw, sSeq_ap, sAsg_ap, sPar_ap, sRet_ap, sIf_ap, sExpr_ap, sNext_ap, bnd_ap, ret_ap, bindR_ok, thenR_ok, dVar_ap, varR_ok, seqR_nx, seqR_rt, asgR_ok, gNm_ap, gCn_ap, gcnR_ok, gNl_ap, gTp_fr, gTp_ap, gLs_ap, dCons_ap, dNil_ap, asB_ap, dOr_ap, dAnd_ap, dNot_ap, dAndV_ap, dOrV_ap, dNotV_ap, dIf_ap, oAdd_int, oSub_int, oLt_int, oLe_int, oGt_int, oGe_int, oNeg_int, oEq_int, oNe_int, oEq_fr, oNe_fr, oEq_bl, oNe_bl, oTup_ap, oLst_ap, oCall_ap, oAbs_ap, oMax_ap, oMin_ap, oToInt_b, oToInt_i, oLen_lst, oLen_scr, oLen_tup, oIx_lst, oIx_scr, oAdd_lst, oIx_tup, oIx_fr0, oIx_fr1, ixR_ok, oItL_ap, oItT_ap, sFor_ap, startD, List.map_cons, List.map_nil, List.length_cons, List.length_nil, List.replicate_succ, List.replicate_zero, List.cons_append, List.nil_append, List.append_nil, List.getElem?_cons_zero, List.getElem?_cons_succ, List.set_cons_zero, List.set_cons_succ, Nat.reduceAdd, Nat.reduceSub, Nat.sub_self, Nat.reduceLeDiff, List.all_cons, List.all_nil, np_fr, np_int, np_bl, np_tup, np_lst, np_str, np_non, Bool.and_self, Bool.and_true, if_true_, if_false_, zero_add', if_tt, if_ff, decide_true, decide_false, Nat.le_refl, oItS_lst, oItS_tup, oTupOf_lst, oTupOf_tup, oLstOf_lst, oLstOf_tup, oRv_lst, oRv_tup, oAdd_tup, dChain_ap, asTru_bl, asTru_tup, asTru_lst, oIsN_ap, oNotN_ap, asI_ap, oSl_tup, oSl_lst, oZip_tup, oZip_lst, oAddI_ap, oEqS_ap, oNeS_ap, oNe_nil, oIx_ptr _ _ e, atI3_0, atI3_2, z0, decide_false, Bool.false_eq_true, sStore_ap, e, ixN3_2, oIx_ptr _ _ eM, atI3_1, oMul_int k1, oMul_int k2, oMod_int z7, e1, oMod_int hpz, hv1, oMul_int k3, oMul_int k4, e2, oMod_int hqz, hv2, oMul_int k5, oMod_int z1, oDiv_int d7, oMod_int hm0, hv3]) (by simp) rfl
    rw [F__law_draw, this, List.take_of_length_le (by simp)]
theorem runF1 {N : List Str} {fb : Sv} {ds es : List D} {M : Mem} (h : fb (startD N ds) M = some (.rt (.ptr M.length), M ++ [some es])) : runF 1 N fb ds M = some (.ok (.ptr M.length), M ++ [some es]) := by
  unfold runF
  rw [h]
  dsimp only
  rw [if_pos ⟨by simp, by unfold D.ptLt; simp⟩, List.take_of_length_le (by simp)]
theorem oNew3 (x y z : Int) (ρ : Env) (M : Mem) : oNew [.int x, .int y, .int z] ρ M = some (.ok (.ptr M.length), M ++ [some [.int x, .int y, .int z]]) := rfl
theorem pow10_18 (ρ : Env) (M : Mem) : oPow (.int 10) (.int 18) ρ M = some (.ok (.int (10 ^ 18)), M) := rfl
theorem pow10_6 (ρ : Env) (M : Mem) : oPow (.int 10) (.int 6) ρ M = some (.ok (.int (10 ^ 6)), M) := rfl
theorem reel_eq (ns : List Int) (k : Nat) (hk : k < 64) (M : Mem) : ∃ M', F__law_reel [.scr (ns.map D.int), .int (k : Int)] M = some (.ok (.ptr M.length), M') ∧ M'.length = M.length + 1 ∧ (∀ j, j < M.length → M'[j]? = M[j]?) ∧ HasReel 0 M.length M' := by
  have z1 : (2147483629 : Int) ≠ 0 := by decide
  have k1 : MulOk 104729 (k : Int) := MulOk.of (a := 20) (b := 10) (by decide) (by rw [Int.natAbs_natCast]; omega)
  have main : ∀ cell : Int, ∃ M', (fun (x : Option (Out × Mem)) => x) (some (.rt (.ptr M.length), M ++ [some [D.int (if cell - 10 ^ 18 > 0 then cell - 10 ^ 18 else 0), .int (cell.fmod 2147483629 + 104729 * (k : Int)), .int 0]])) = some (Out.rt (.ptr M.length), M') ∧ M' = M ++ [some [D.int (if cell - 10 ^ 18 > 0 then cell - 10 ^ 18 else 0), .int (cell.fmod 2147483629 + 104729 * (k : Int)), .int 0]] ∧ M'.length = M.length + 1 ∧ (∀ j, j < M.length → M'[j]? = M[j]?) ∧ HasReel 0 M.length M' := by
    intro cell
    refine ⟨_, rfl, rfl, by simp, fun j h => by rw [List.getElem?_append_left h], _, _, _, by rw [List.getElem?_append_right (Nat.le_refl _), Nat.sub_self]; rfl, ?_, ?_, ?_, by omega, by omega⟩
    · split <;> omega
    · have := fmod_pos (i := cell) (m := 2147483629) (by decide); omega
    · have := fmod_pos (i := cell) (m := 2147483629) (by decide); omega
  by_cases h : (k : Int) < ns.length
  · obtain ⟨d, e, m⟩ := atI_mem (l := ns.map D.int) (i := (k : Int)) (by omega) (by simpa using h)
    simp -implicitDefEqProofs only [List.mem_map] at m
    obtain ⟨cell, _, rfl⟩ := m
    obtain ⟨M', e1, e0, e2⟩ := main cell
    refine ⟨M', ?_, e2⟩
    subst e0
    refine runF1 ?_
    simp -implicitDefEqProofs only [den__law_reel, sSeq_ap, sAsg_ap, sPar_ap, sRet_ap, sIf_ap, sExpr_ap, sNext_ap, bnd_ap, ret_ap, bindR_ok, thenR_ok, dVar_ap, varR_ok, seqR_nx, seqR_rt, asgR_ok, gNm_ap, gCn_ap, gcnR_ok, gNl_ap, gTp_fr, gTp_ap, gLs_ap, dCons_ap, dNil_ap, asB_ap, dOr_ap, dAnd_ap, dNot_ap, dAndV_ap, dOrV_ap, dNotV_ap, dIf_ap, oAdd_int, oSub_int, oLt_int, oLe_int, oGt_int, oGe_int, oNeg_int, oEq_int, oNe_int, oEq_fr, oNe_fr, oEq_bl, oNe_bl, oTup_ap, oLst_ap, oCall_ap, oAbs_ap, oMax_ap, oMin_ap, oToInt_b, oToInt_i, oLen_lst, oLen_scr, oLen_tup, oIx_lst, oIx_scr, oAdd_lst, oIx_tup, oIx_fr0, oIx_fr1, ixR_ok, oItL_ap, oItT_ap, sFor_ap, startD, List.map_cons, List.map_nil, List.length_cons, List.length_nil, List.replicate_succ, List.replicate_zero, List.cons_append, List.nil_append, List.append_nil, List.getElem?_cons_zero, List.getElem?_cons_succ, List.set_cons_zero, List.set_cons_succ, Nat.reduceAdd, Nat.reduceSub, Nat.sub_self, Nat.reduceLeDiff, List.all_cons, List.all_nil, np_fr, np_int, np_bl, np_tup, np_lst, np_str, np_non, Bool.and_self, Bool.and_true, if_true_, if_false_, zero_add', if_tt, if_ff, decide_true, decide_false, Nat.le_refl, oItS_lst, oItS_tup, oTupOf_lst, oTupOf_tup, oLstOf_lst, oLstOf_tup, oRv_lst, oRv_tup, oAdd_tup, dChain_ap, asTru_bl, asTru_tup, asTru_lst, oIsN_ap, oNotN_ap, asI_ap, oSl_tup, oSl_lst, oZip_tup, oZip_lst, oAddI_ap, oEqS_ap, oNeS_ap, oNe_nil, List.length_map, h, decide_true, e, pow10_18, oMod_int z1, oMul_int k1, oNew3]
  · obtain ⟨M', e1, e0, e2⟩ := main 0
    refine ⟨M', ?_, e2⟩
    subst e0
    refine runF1 ?_
    simp -implicitDefEqProofs only [den__law_reel, sSeq_ap, sAsg_ap, sPar_ap, sRet_ap, sIf_ap, sExpr_ap, sNext_ap, bnd_ap, ret_ap, bindR_ok, thenR_ok, dVar_ap, varR_ok, seqR_nx, seqR_rt, asgR_ok, gNm_ap, gCn_ap, gcnR_ok, gNl_ap, gTp_fr, gTp_ap, gLs_ap, dCons_ap, dNil_ap, asB_ap, dOr_ap, dAnd_ap, dNot_ap, dAndV_ap, dOrV_ap, dNotV_ap, dIf_ap, oAdd_int, oSub_int, oLt_int, oLe_int, oGt_int, oGe_int, oNeg_int, oEq_int, oNe_int, oEq_fr, oNe_fr, oEq_bl, oNe_bl, oTup_ap, oLst_ap, oCall_ap, oAbs_ap, oMax_ap, oMin_ap, oToInt_b, oToInt_i, oLen_lst, oLen_scr, oLen_tup, oIx_lst, oIx_scr, oAdd_lst, oIx_tup, oIx_fr0, oIx_fr1, ixR_ok, oItL_ap, oItT_ap, sFor_ap, startD, List.map_cons, List.map_nil, List.length_cons, List.length_nil, List.replicate_succ, List.replicate_zero, List.cons_append, List.nil_append, List.append_nil, List.getElem?_cons_zero, List.getElem?_cons_succ, List.set_cons_zero, List.set_cons_succ, Nat.reduceAdd, Nat.reduceSub, Nat.sub_self, Nat.reduceLeDiff, List.all_cons, List.all_nil, np_fr, np_int, np_bl, np_tup, np_lst, np_str, np_non, Bool.and_self, Bool.and_true, if_true_, if_false_, zero_add', if_tt, if_ff, decide_true, decide_false, Nat.le_refl, oItS_lst, oItS_tup, oTupOf_lst, oTupOf_tup, oLstOf_lst, oLstOf_tup, oRv_lst, oRv_tup, oAdd_tup, dChain_ap, asTru_bl, asTru_tup, asTru_lst, oIsN_ap, oNotN_ap, asI_ap, oSl_tup, oSl_lst, oZip_tup, oZip_lst, oAddI_ap, oEqS_ap, oNeS_ap, oNe_nil, List.length_map, h, decide_false, Bool.false_eq_true, pow10_18, oMod_int z1, oMul_int k1, oNew3]
theorem atI_lit {l : List D} {i : Int} {P : Int → Prop} (h0 : 0 ≤ i) (h : i < l.length) (hP : ∀ d ∈ l, ∃ k, d = .int k ∧ P k) : ∃ k, atI l i = some (.int k) ∧ P k := by
  obtain ⟨d, e, m⟩ := atI_mem h0 h
  obtain ⟨k, rfl, hk⟩ := hP d m
  exact ⟨k, e, hk⟩
/-! a comprehension that draws -/
theorem lc_reel {b : Tg} {te : Ev D} {n n0 : Nat} {ρw : Env} {P : D → Prop} {s : Nat} (hb : ∀ d, ∃ ρ1, b d ρw = some ρ1 ∧ ∀ c M, HasReel c n M → c < 2 ^ 29 → ∃ y M2, te ρ1 M = some (.ok y, M2) ∧ y.np = true ∧ P y ∧ Turned (c + s) n M M2) (hne : n ≠ n0) :
    ∀ (ds : List D) (c : Nat) (M : Mem) (acc : List D), HasReel c n M → c + s * ds.length < 2 ^ 29 → M[n0]? = some (some acc) → acc.length + ds.length ≤ 1000 →
      ∃ ys M', lcGo b (ret true) te n0 ρw ds M = some M' ∧ M'.length = M.length ∧ (∀ j, j ≠ n → j ≠ n0 → M'[j]? = M[j]?) ∧ HasReel (c + s * ds.length) n M' ∧ M'[n0]? = some (some (acc ++ ys)) ∧ ys.length = ds.length ∧ ∀ y ∈ ys, P y
  | [], c, M, acc, hr, hc, hM, hl => ⟨[], M, rfl, rfl, fun _ _ _ => rfl, by simpa using hr, by simpa using hM, rfl, by simp⟩
  | d :: ds, c, M, acc, hr, hc, hM, hl => by
    obtain ⟨ρ1, e1, h1⟩ := hb d
    rw [List.length_cons, Nat.mul_succ] at hc
    rw [List.length_cons] at hl
    obtain ⟨y, M2, e2, hy, py, tn⟩ := h1 c M hr (by omega)
    have hM2 : M2[n0]? = some (some acc) := by rw [tn.oth n0 (Ne.symm hne)]; exact hM
    have hn0 : n0 < M2.length := by
      rcases Nat.lt_or_ge n0 M2.length with q | q
      · exact q
      · rw [List.getElem?_eq_none q] at hM2; cases hM2
    have hr2 : HasReel (c + s) n (M2.set n0 (some (acc ++ [y]))) := by
      obtain ⟨a, r, t, e, rest⟩ := tn.has
      exact ⟨a, r, t, by rw [List.getElem?_set_ne (Ne.symm hne)]; exact e, rest⟩
    obtain ⟨ys, M', g1, g2, g3, g4, g5, g6, g7⟩ := lc_reel hb hne ds (c + s) (M2.set n0 (some (acc ++ [y]))) (acc ++ [y]) hr2 (by omega) (List.getElem?_set_self hn0) (by simp; omega)
    refine ⟨y :: ys, M', ?_, by rw [g2, List.length_set, tn.len], fun j a b => by rw [g3 j a b, List.getElem?_set_ne (Ne.symm b), tn.oth j a], ?_, by rw [g5, List.append_assoc]; rfl, by simp [g6], ?_⟩
    · unfold lcGo
      rw [e1]
      dsimp only
      rw [ret_ap]
      dsimp only
      rw [e2]
      dsimp only
      rw [hM2]
      dsimp only
      rw [if_pos ⟨hy, by omega⟩]
      exact g1
    · rw [List.length_cons, Nat.mul_succ]
      have : c + s + s * ds.length = c + (s * ds.length + s) := by omega
      rw [← this]; exact g4
    · intro z hz
      rcases List.mem_cons.mp hz with rfl | hz
      · exact py
      · exact g7 z hz
theorem oLc_reel {b : Tg} {te : Ev D} {n : Nat} {ρ : Env} {vs : List Nat} {P : D → Prop} {s c : Nat} {ds : List D} {M : Mem} (hb : ∀ d, ∃ ρ1, b d (wipeD ρ vs) = some ρ1 ∧ ∀ c M, HasReel c n M → c < 2 ^ 29 → ∃ y M2, te ρ1 M = some (.ok y, M2) ∧ y.np = true ∧ P y ∧ Turned (c + s) n M M2)
    (hr : HasReel c n M) (hc : c + s * ds.length < 2 ^ 29) (hl : ds.length ≤ 1000) : ∃ ys M', oLc b (ret true) te vs ds ρ M = some (.ok (.lst ys), M') ∧ Turned (c + s * ds.length) n M M' ∧ ys.length = ds.length ∧ ∀ y ∈ ys, P y := by
  have hn := hr.lt
  have hr0 : HasReel c n (M ++ [some []]) := by
    obtain ⟨a, r, t, e, rest⟩ := hr
    exact ⟨a, r, t, by rw [List.getElem?_append_left hn]; exact e, rest⟩
  obtain ⟨ys, M', g1, g2, g3, g4, g5, g6, g7⟩ := lc_reel hb (Nat.ne_of_lt hn) ds c (M ++ [some []]) [] hr0 hc (by rw [List.getElem?_append_right (Nat.le_refl _), Nat.sub_self]; rfl) (by simpa using hl)
  have hl2 : M'.length = M.length + 1 := by rw [g2]; simp
  refine ⟨ys, M'.take M.length, ?_, ⟨by rw [List.length_take]; omega, fun j hj => ?_, ?_⟩, g6, g7⟩
  · unfold oLc
    rw [g1]
    dsimp only
    unfold lcEnd
    rw [g5]
    dsimp only
    rw [if_pos hl2]
    rfl
  · by_cases hj2 : j < M.length
    · rw [List.getElem?_take_of_lt hj2, g3 j hj (by omega), List.getElem?_append_left hj2]
    · rw [List.getElem?_eq_none (by rw [List.length_take]; omega), List.getElem?_eq_none (by omega)]
  · obtain ⟨a, r, t, e, rest⟩ := g4
    exact ⟨a, r, t, by rw [List.getElem?_take_of_lt hn]; exact e, rest⟩
theorem small_lt (m : Int) (h0 : 0 ≤ m) (h : m < 2 ^ 64) : m.natAbs < 2 ^ 4000 := nat_lt_pow 4000 (natAbs_lt_of (k := 64) h0 h) (by decide)
theorem pair_eq {c n : Nat} {M : Mem} (hr : HasReel c n M) (hc : c + 11 < 2 ^ 30) : ∃ q M', F__law_pair [.ptr n] M = some (.ok (frQ q), M') ∧ Bd 20 q ∧ Turned (c + 11) n M M' := by
  obtain ⟨v1, M1, e1, a1, b1, t1⟩ := draw_eq (m := 6) hr (by omega) (by decide) (small_lt _ (by decide) (by decide))
  obtain ⟨v2, M2, e2, a2, b2, t2⟩ := draw_eq (m := 5) t1.has (by omega) (by decide) (small_lt _ (by decide) (by decide))
  obtain ⟨v3, M3, e3, a3, b3, t3⟩ := draw_eq (m := 4) t2.has (by omega) (by decide) (small_lt _ (by decide) (by decide))
  obtain ⟨v4, M4, e4, a4, b4, t4⟩ := draw_eq (m := 1000) t3.has (by omega) (by decide) (small_lt _ (by decide) (by decide))
  obtain ⟨v5, M5, e5, a5, b5, t5⟩ := draw_eq (m := 3) t4.has (by omega) (by decide) (small_lt _ (by decide) (by decide))
  obtain ⟨v6, M6, e6, a6, b6, t6⟩ := draw_eq (m := 4) t5.has (by omega) (by decide) (small_lt _ (by decide) (by decide))
  obtain ⟨v7, M7, e7, a7, b7, t7⟩ := draw_eq (m := 30) t6.has (by omega) (by decide) (small_lt _ (by decide) (by decide))
  obtain ⟨v8, M8, e8, a8, b8, t8⟩ := draw_eq (m := 40) t7.has (by omega) (by decide) (small_lt _ (by decide) (by decide))
  obtain ⟨v9, M9, e9, a9, b9, t9⟩ := draw_eq (m := 10 ^ 6 + 1) t8.has (by omega) (by decide) (small_lt _ (by decide) (by decide))
  obtain ⟨v10, M10, e10, a10, b10, t10⟩ := draw_eq (m := 3) t9.has (by omega) (by decide) (small_lt _ (by decide) (by decide))
  obtain ⟨v11, M11, e11, a11, b11, t11⟩ := draw_eq (m := 2) t10.has (by omega) (by decide) (small_lt _ (by decide) (by decide))
  obtain ⟨p2, i2, c2⟩ := atI_lit (l := [D.int 2, .int 3, .int 4, .int 6, .int 12]) (P := fun k => 1 ≤ k ∧ k ≤ 1000) a2 b2 (by simp)
  obtain ⟨p3, i3, c3⟩ := atI_lit (l := [D.int 7, .int 11, .int 13, .int 997]) (P := fun k => 1 ≤ k ∧ k ≤ 1000) a3 b3 (by simp)
  obtain ⟨bo, i4, c4⟩ := atI_lit (l := [D.int 1, .int p2, .int p3, .int (1 + v4), .int (1000 - v5), .int 1]) (P := fun k => 1 ≤ k ∧ k ≤ 1000) a1 b1 (by
    simp -implicitDefEqProofs only [List.mem_cons, List.not_mem_nil, or_false]
    rintro d (rfl | rfl | rfl | rfl | rfl | rfl) <;> exact ⟨_, rfl, by omega, by omega⟩)
  obtain ⟨to, i5, c5⟩ := atI_lit (l := [D.int v6, .int v7, .int v8, .int v9, .int (10 ^ 6 - v10), .int 0]) (P := fun k => 0 ≤ k ∧ k ≤ 1000000) a1 b1 (by
    simp -implicitDefEqProofs only [List.mem_cons, List.not_mem_nil, or_false]
    rintro d (rfl | rfl | rfl | rfl | rfl | rfl) <;> exact ⟨_, rfl, by omega, by omega⟩)
  obtain ⟨sg, i6, c6⟩ := atI_lit (l := [D.int 1, .int (0 - 1)]) (P := fun k => k = 1 ∨ k = -1) a11 b11 (by simp)
  have k1 : MulOk to sg := MulOk.of (a := 20) (b := 2) (natAbs_lt_of (by omega) (by omega)) (by rcases c6 with h | h <;> subst h <;> decide)
  have hts : (to * sg).natAbs < 2 ^ 20 := by rcases c6 with h | h <;> subst h <;> omega
  have hbo : bo.natAbs < 2 ^ 20 := by omega
  have hb0 : bo ≠ 0 := by omega
  have tt := t1.trans (t2.trans (t3.trans (t4.trans (t5.trans (t6.trans (t7.trans (t8.trans (t9.trans (t10.trans t11)))))))))
  refine ⟨Rat.divInt (to * sg) bo, M11, ?_, bd_divInt hb0 hts hbo, tt⟩
  have := runF_rt (N := ["_law_reel_here", "_law_way", "_law_bottom", "_law_top"]) (fb := den__law_pair) (ds := [.ptr n]) (M := M) (M2 := M11) (d := frQ (Rat.divInt (to * sg) bo)) (by
    simp -implicitDefEqProofs only [den__law_pair, sSeq_ap, sAsg_ap, sPar_ap, sRet_ap, sIf_ap, sExpr_ap, sNext_ap, bnd_ap, ret_ap, bindR_ok, thenR_ok, dVar_ap, varR_ok, seqR_nx, seqR_rt, asgR_ok, gNm_ap, gCn_ap, gcnR_ok, gNl_ap, gTp_fr, gTp_ap, gLs_ap, dCons_ap, dNil_ap, asB_ap, dOr_ap, dAnd_ap, dNot_ap, dAndV_ap, dOrV_ap, dNotV_ap, dIf_ap, oAdd_int, oSub_int, oLt_int, oLe_int, oGt_int, oGe_int, oNeg_int, oEq_int, oNe_int, oEq_fr, oNe_fr, oEq_bl, oNe_bl, oTup_ap, oLst_ap, oCall_ap, oAbs_ap, oMax_ap, oMin_ap, oToInt_b, oToInt_i, oLen_lst, oLen_scr, oLen_tup, oIx_lst, oIx_scr, oAdd_lst, oIx_tup, oIx_fr0, oIx_fr1, ixR_ok, oItL_ap, oItT_ap, sFor_ap, startD, List.map_cons, List.map_nil, List.length_cons, List.length_nil, List.replicate_succ, List.replicate_zero, List.cons_append, List.nil_append, List.append_nil, List.getElem?_cons_zero, List.getElem?_cons_succ, List.set_cons_zero, List.set_cons_succ, Nat.reduceAdd, Nat.reduceSub, Nat.sub_self, Nat.reduceLeDiff, List.all_cons, List.all_nil, np_fr, np_int, np_bl, np_tup, np_lst, np_str, np_non, Bool.and_self, Bool.and_true, if_true_, if_false_, zero_add', if_tt, if_ff, decide_true, decide_false, Nat.le_refl, oItS_lst, oItS_tup, oTupOf_lst, oTupOf_tup, oLstOf_lst, oLstOf_tup, oRv_lst, oRv_tup, oAdd_tup, dChain_ap, asTru_bl, asTru_tup, asTru_lst, oIsN_ap, oNotN_ap, asI_ap, oSl_tup, oSl_lst, oZip_tup, oZip_lst, oAddI_ap, oEqS_ap, oNeS_ap, oNe_nil, e1, e2, i2, e3, i3, e4, e5, i4, e6, e7, e8, pow10_6, e9, e10, i5, e11, i6, oMul_int k1, low_eq hb0 (nat_lt_pow 4000 hbo (by decide))]) (by rw [tt.len]; exact Nat.le_refl _) rfl
  rw [F__law_pair, this, List.take_of_length_le (by rw [tt.len]; exact Nat.le_refl _)]
/-! rows of fractions -/
def Ab (B : Nat) (q : Rat) : Prop := q.num.natAbs ≤ B * q.den
theorem Ab.mono {A B : Nat} {q : Rat} (h : Ab A q) (l : A ≤ B) : Ab B q := Nat.le_trans h (Nat.mul_le_mul_right _ l)
theorem add_cross (x y : Rat) : (x + y).num * ((x.den * y.den : Nat) : Int) = (x.num * y.den + y.num * x.den) * ((x + y).den : Int) := by
  have e0 : mkRat (x + y).num (x + y).den = mkRat (x.num * y.den + y.num * x.den) (x.den * y.den) := by
    rw [Rat.mkRat_self, Rat.add_def, Rat.normalize_eq_mkRat]
  rw [Rat.mkRat_eq_iff (x + y).den_nz (Nat.ne_of_gt (Nat.mul_pos x.den_pos y.den_pos))] at e0
  exact e0
theorem Ab.add {A B : Nat} {x y : Rat} (hx : Ab A x) (hy : Ab B y) : Ab (A + B) (x + y) := by
  have e := congrArg Int.natAbs (add_cross x y)
  rw [Int.natAbs_mul, Int.natAbs_mul, Int.natAbs_natCast, Int.natAbs_natCast] at e
  have h1 : (x.num * (y.den : Int) + y.num * (x.den : Int)).natAbs ≤ (A + B) * (x.den * y.den) := by
    refine Nat.le_trans (Int.natAbs_add_le _ _) ?_
    rw [Int.natAbs_mul, Int.natAbs_mul, Int.natAbs_natCast, Int.natAbs_natCast, Nat.add_mul]
    have a1 := Nat.mul_le_mul_right y.den hx
    have a2 := Nat.mul_le_mul_right x.den hy
    have a3 : B * y.den * x.den = B * (x.den * y.den) := by rw [Nat.mul_assoc, Nat.mul_comm y.den]
    have a4 : A * x.den * y.den = A * (x.den * y.den) := Nat.mul_assoc _ _ _
    omega
  have h2 := Nat.mul_le_mul_right (x + y).den h1
  rw [← e] at h2
  refine Nat.le_of_mul_le_mul_right (c := x.den * y.den) ?_ (Nat.mul_pos x.den_pos y.den_pos)
  have a5 : (A + B) * (x + y).den * (x.den * y.den) = (A + B) * (x.den * y.den) * (x + y).den := Nat.mul_right_comm _ _ _
  rw [a5]
  exact h2
theorem Ab.neg {A : Nat} {x : Rat} (hx : Ab A x) : Ab A (-x) := by
  unfold Ab
  rw [Rat.neg_num, Rat.neg_den, Int.natAbs_neg]
  exact hx
theorem dv_neg {L : Nat} {x : Rat} (h : x.den ∣ L) : (-x).den ∣ L := by rw [Rat.neg_den]; exact h
theorem dv_add {L : Nat} {x y : Rat} (hx : x.den ∣ L) (hy : y.den ∣ L) : (x + y).den ∣ L := by
  obtain ⟨_, m2⟩ := plus_math x y
  rw [m2]
  have gp : 0 < Nat.gcd x.den y.den := Nat.gcd_pos_of_pos_left _ x.den_pos
  have ggd : Int.gcd (x.num * ((y.den / Nat.gcd x.den y.den : Nat) : Int) + y.num * ((x.den / Nat.gcd x.den y.den : Nat) : Int)) (Nat.gcd x.den y.den : Nat) ∣ y.den := by
    refine Nat.dvd_trans ?_ (Nat.gcd_dvd_right x.den y.den)
    have : ∀ t : Int, Int.gcd t (Nat.gcd x.den y.den : Nat) = Nat.gcd t.natAbs (Nat.gcd x.den y.den) := fun t => by simp [Int.gcd]
    rw [this]
    exact Nat.gcd_dvd_right _ _
  have h1 : x.den / Nat.gcd x.den y.den * y.den ∣ L := by
    have e : x.den / Nat.gcd x.den y.den * y.den = Nat.lcm x.den y.den := by
      rw [Nat.lcm, Nat.div_mul_right_comm (Nat.gcd_dvd_left _ _)]
    rw [e]
    exact Nat.lcm_dvd hx hy
  exact Nat.dvd_trans (Nat.mul_dvd_mul_left _ (Nat.div_dvd_of_dvd ggd)) h1
theorem bd_dv {L B k j : Nat} {q : Rat} (hd : q.den ∣ L) (hp : 0 < L) (hL : L < 2 ^ k) (ha : Ab B q) (hB : B < 2 ^ j) : Bd (k + j) q := by
  have h1 : q.den < 2 ^ k := Nat.lt_of_le_of_lt (Nat.le_of_dvd hp hd) hL
  refine ⟨?_, nat_lt_pow _ h1 (by omega)⟩
  rw [Nat.add_comm]
  exact Nat.lt_of_le_of_lt ha (mul_lt_pow hB h1)
theorem dv_zero {L : Nat} : (0 : Rat).den ∣ L := Nat.one_dvd _
theorem ab_zero : Ab 0 0 := Nat.zero_le _
def sumR (qs : List Rat) : Rat := qs.foldr (· + ·) 0
theorem sumR_append : ∀ a b : List Rat, sumR (a ++ b) = sumR a + sumR b
  | [], b => by show sumR b = 0 + sumR b; rw [Rat.zero_add]
  | x :: a, b => by
    show x + sumR (a ++ b) = x + sumR a + sumR b
    rw [sumR_append a b, Rat.add_assoc]
theorem sumR_reverse : ∀ a : List Rat, sumR a.reverse = sumR a
  | [] => rfl
  | x :: a => by
    rw [List.reverse_cons, sumR_append, sumR_reverse a]
    show sumR a + (x + 0) = x + sumR a
    rw [Rat.add_zero, Rat.add_comm]
structure Row (L B : Nat) (qs : List Rat) : Prop where
  dv : ∀ q ∈ qs, q.den ∣ L
  ab : ∀ q ∈ qs, Ab B q
theorem Row.tail {L B : Nat} {q : Rat} {qs : List Rat} (h : Row L B (q :: qs)) : Row L B qs := ⟨fun x hx => h.dv x (by simp [hx]), fun x hx => h.ab x (by simp [hx])⟩
theorem Row.reverse {L B : Nat} {qs : List Rat} (h : Row L B qs) : Row L B qs.reverse := ⟨fun x hx => h.dv x (by simpa using hx), fun x hx => h.ab x (by simpa using hx)⟩
theorem Row.bd {L B : Nat} {qs : List Rat} (h : Row L B qs) (hp : 0 < L) (hL : L < 2 ^ 1800) (hB : B < 2 ^ 90) : ∀ q ∈ qs, Bd 1890 q := fun q hq => bd_dv (h.dv q hq) hp hL (h.ab q hq) hB
theorem dv_sum {L : Nat} : ∀ {qs : List Rat}, (∀ q ∈ qs, q.den ∣ L) → (sumR qs).den ∣ L
  | [], _ => Nat.one_dvd _
  | q :: qs, h => dv_add (h q (by simp)) (dv_sum fun x hx => h x (by simp [hx]))
theorem ab_sum {B : Nat} : ∀ {qs : List Rat}, (∀ q ∈ qs, Ab B q) → Ab (B * qs.length) (sumR qs)
  | [], _ => Nat.zero_le _
  | q :: qs, h => by
    have h1 := (h q (by simp)).add (ab_sum (qs := qs) fun x hx => h x (by simp [hx]))
    refine h1.mono ?_
    rw [List.length_cons, Nat.mul_succ]
    omega
theorem sum_loop {L B : Nat} {S : D} (hp : 0 < L) (hL : L < 2 ^ 1800) (M : Mem) : ∀ (qs : List Rat) (s : Rat) (A : Nat) (o : Option D), s.den ∣ L → Ab A s → Row L B qs → A + B * qs.length < 2 ^ 90 →
    ∃ o', forF (gNm 2) den_summed_L1 (qs.map frQ) [some S, some (frQ s), o] M = some (.nx [some S, some (frQ (s + sumR qs)), o'], M)
  | [], s, A, o, _, _, _, _ => ⟨o, by rw [List.map_nil, forF_nil]; show _ = some (Out.nx [some S, some (frQ (s + 0)), o], M); rw [Rat.add_zero]⟩
  | q :: qs, s, A, o, h1, h2, h3, h4 => by
    rw [List.length_cons, Nat.mul_succ] at h4
    have bs : Bd 4000 s := (bd_dv (j := 90) h1 hp hL h2 (by omega)).mono (by decide)
    have bq : Bd 4000 q := (bd_dv (j := 90) (h3.dv q (by simp)) hp hL (h3.ab q (by simp)) (by omega)).mono (by decide)
    obtain ⟨o', e⟩ := sum_loop hp hL M qs (s + q) (A + B) (some (frQ q)) (dv_add h1 (h3.dv q (by simp))) (h2.add (h3.ab q (by simp))) h3.tail (by omega)
    refine ⟨o', ?_⟩
    have e1 : s + sumR (q :: qs) = s + q + sumR qs := by
      show s + (q + sumR qs) = s + q + sumR qs
      rw [Rat.add_assoc]
    rw [e1, ← e, List.map_cons, forF_cons, gNm_ap, forB_ok]
    simp -implicitDefEqProofs only [den_summed_L1, sSeq_ap, sAsg_ap, sPar_ap, sRet_ap, sIf_ap, sExpr_ap, sNext_ap, bnd_ap, ret_ap, bindR_ok, thenR_ok, dVar_ap, varR_ok, seqR_nx, seqR_rt, asgR_ok, gNm_ap, gCn_ap, gcnR_ok, gNl_ap, gTp_fr, gTp_ap, gLs_ap, dCons_ap, dNil_ap, asB_ap, dOr_ap, dAnd_ap, dNot_ap, dAndV_ap, dOrV_ap, dNotV_ap, dIf_ap, oAdd_int, oSub_int, oLt_int, oLe_int, oGt_int, oGe_int, oNeg_int, oEq_int, oNe_int, oEq_fr, oNe_fr, oEq_bl, oNe_bl, oTup_ap, oLst_ap, oCall_ap, oAbs_ap, oMax_ap, oMin_ap, oToInt_b, oToInt_i, oLen_lst, oLen_scr, oLen_tup, oIx_lst, oIx_scr, oAdd_lst, oIx_tup, oIx_fr0, oIx_fr1, ixR_ok, oItL_ap, oItT_ap, sFor_ap, startD, List.map_cons, List.map_nil, List.length_cons, List.length_nil, List.replicate_succ, List.replicate_zero, List.cons_append, List.nil_append, List.append_nil, List.getElem?_cons_zero, List.getElem?_cons_succ, List.set_cons_zero, List.set_cons_succ, Nat.reduceAdd, Nat.reduceSub, Nat.sub_self, Nat.reduceLeDiff, List.all_cons, List.all_nil, np_fr, np_int, np_bl, np_tup, np_lst, np_str, np_non, Bool.and_self, Bool.and_true, if_true_, if_false_, zero_add', if_tt, if_ff, decide_true, decide_false, Nat.le_refl, oItS_lst, oItS_tup, oTupOf_lst, oTupOf_tup, oLstOf_lst, oLstOf_tup, oRv_lst, oRv_tup, oAdd_tup, dChain_ap, asTru_bl, asTru_tup, asTru_lst, oIsN_ap, oNotN_ap, asI_ap, oSl_tup, oSl_lst, oZip_tup, oZip_lst, oAddI_ap, oEqS_ap, oNeS_ap, oNe_nil, plus_eq bs bq, ofR_nx]
theorem nought_fr : C_NOUGHT = frQ 0 := rfl
theorem summed_core {L B : Nat} {S : D} {qs : List Rat} (hS : ∀ ρ M, oItS S ρ M = some (.ok (qs.map frQ), M)) (h : Row L B qs) (hp : 0 < L) (hL : L < 2 ^ 1800) (hB : B * qs.length < 2 ^ 90) (M : Mem) : F_summed [S] M = some (.ok (frQ (sumR qs)), M) := by
  refine runF_pure ?_ rfl
  obtain ⟨o', e⟩ := sum_loop (S := S) hp hL M qs 0 0 none (Nat.one_dvd _) (Nat.zero_le _) h (by omega)
  rw [Rat.zero_add] at e
  simp -implicitDefEqProofs only [den_summed, sSeq_ap, sAsg_ap, sPar_ap, sRet_ap, sIf_ap, sExpr_ap, sNext_ap, bnd_ap, ret_ap, bindR_ok, thenR_ok, dVar_ap, varR_ok, seqR_nx, seqR_rt, asgR_ok, gNm_ap, gCn_ap, gcnR_ok, gNl_ap, gTp_fr, gTp_ap, gLs_ap, dCons_ap, dNil_ap, asB_ap, dOr_ap, dAnd_ap, dNot_ap, dAndV_ap, dOrV_ap, dNotV_ap, dIf_ap, oAdd_int, oSub_int, oLt_int, oLe_int, oGt_int, oGe_int, oNeg_int, oEq_int, oNe_int, oEq_fr, oNe_fr, oEq_bl, oNe_bl, oTup_ap, oLst_ap, oCall_ap, oAbs_ap, oMax_ap, oMin_ap, oToInt_b, oToInt_i, oLen_lst, oLen_scr, oLen_tup, oIx_lst, oIx_scr, oAdd_lst, oIx_tup, oIx_fr0, oIx_fr1, ixR_ok, oItL_ap, oItT_ap, sFor_ap, startD, List.map_cons, List.map_nil, List.length_cons, List.length_nil, List.replicate_succ, List.replicate_zero, List.cons_append, List.nil_append, List.append_nil, List.getElem?_cons_zero, List.getElem?_cons_succ, List.set_cons_zero, List.set_cons_succ, Nat.reduceAdd, Nat.reduceSub, Nat.sub_self, Nat.reduceLeDiff, List.all_cons, List.all_nil, np_fr, np_int, np_bl, np_tup, np_lst, np_str, np_non, Bool.and_self, Bool.and_true, if_true_, if_false_, zero_add', if_tt, if_ff, decide_true, decide_false, Nat.le_refl, oItS_lst, oItS_tup, oTupOf_lst, oTupOf_tup, oLstOf_lst, oLstOf_tup, oRv_lst, oRv_tup, oAdd_tup, dChain_ap, asTru_bl, asTru_tup, asTru_lst, oIsN_ap, oNotN_ap, asI_ap, oSl_tup, oSl_lst, oZip_tup, oZip_lst, oAddI_ap, oEqS_ap, oNeS_ap, oNe_nil, nought_fr, hS, e]
theorem summed_tup {L B : Nat} {qs : List Rat} (h : Row L B qs) (hp : 0 < L) (hL : L < 2 ^ 1800) (hB : B * qs.length < 2 ^ 90) (M : Mem) : F_summed [.tup (qs.map frQ)] M = some (.ok (frQ (sumR qs)), M) := summed_core (fun _ _ => rfl) h hp hL hB M
theorem summed_lst {L B : Nat} {qs : List Rat} (h : Row L B qs) (hp : 0 < L) (hL : L < 2 ^ 1800) (hB : B * qs.length < 2 ^ 90) (M : Mem) : F_summed [.lst (qs.map frQ)] M = some (.ok (frQ (sumR qs)), M) := summed_core (fun _ _ => rfl) h hp hL hB M
/-! least, greatest -/
def minL : Rat → List Rat → Rat
  | b, [] => b
  | b, q :: qs => minL (if q < b then q else b) qs
def maxL : Rat → List Rat → Rat
  | b, [] => b
  | b, q :: qs => maxL (if b < q then q else b) qs
theorem minL_mem : ∀ (qs : List Rat) (b : Rat), minL b qs ∈ b :: qs
  | [], b => by simp [minL]
  | q :: qs, b => by
    have := minL_mem qs (if q < b then q else b)
    unfold minL
    rcases List.mem_cons.mp this with h | h
    · rw [h]; split <;> simp
    · simp [h]
theorem minL_le : ∀ (qs : List Rat) (b : Rat), ∀ q ∈ b :: qs, minL b qs ≤ q
  | [], b, q, hq => by simp at hq; subst hq; exact Rat.le_refl
  | x :: qs, b, q, hq => by
    have ih := minL_le qs (if x < b then x else b)
    unfold minL
    have h0 := ih _ (List.mem_cons_self)
    simp -implicitDefEqProofs only [List.mem_cons] at hq
    rcases hq with rfl | rfl | hq
    · refine Rat.le_trans h0 ?_
      split
      · rename_i h; exact Rat.le_of_lt h
      · exact Rat.le_refl
    · refine Rat.le_trans h0 ?_
      split
      · exact Rat.le_refl
      · rename_i h; exact Rat.not_lt.mp h
    · exact ih q (by simp [hq])
theorem maxL_mem : ∀ (qs : List Rat) (b : Rat), maxL b qs ∈ b :: qs
  | [], b => by simp [maxL]
  | q :: qs, b => by
    have := maxL_mem qs (if b < q then q else b)
    unfold maxL
    rcases List.mem_cons.mp this with h | h
    · rw [h]; split <;> simp
    · simp [h]
theorem maxL_le : ∀ (qs : List Rat) (b : Rat), ∀ q ∈ b :: qs, q ≤ maxL b qs
  | [], b, q, hq => by simp at hq; subst hq; exact Rat.le_refl
  | x :: qs, b, q, hq => by
    have ih := maxL_le qs (if b < x then x else b)
    unfold maxL
    have h0 := ih _ (List.mem_cons_self)
    simp -implicitDefEqProofs only [List.mem_cons] at hq
    rcases hq with rfl | rfl | hq
    · refine Rat.le_trans ?_ h0
      split
      · rename_i h; exact Rat.le_of_lt h
      · exact Rat.le_refl
    · refine Rat.le_trans ?_ h0
      split
      · exact Rat.le_refl
      · rename_i h; exact Rat.not_lt.mp h
    · exact ih q (by simp [hq])
theorem least_loop {S : D} (M : Mem) : ∀ (qs : List Rat) (b : Rat) (o : Option D), Bd 4000 b → (∀ q ∈ qs, Bd 4000 q) → ∃ o', forF (gNm 2) den_least_L1 (qs.map frQ) [some S, some (frQ b), o] M = some (.nx [some S, some (frQ (minL b qs)), o'], M)
  | [], b, o, _, _ => ⟨o, rfl⟩
  | q :: qs, b, o, hb, hq => by
    have h1 := hq q (by simp)
    obtain ⟨o', e⟩ := least_loop M qs (if q < b then q else b) (some (frQ q)) (by split <;> assumption) fun x hx => hq x (by simp [hx])
    refine ⟨o', ?_⟩
    unfold minL
    rw [← e, List.map_cons, forF_cons, gNm_ap, forB_ok]
    by_cases h : q < b
    · simp -implicitDefEqProofs only [den_least_L1, sSeq_ap, sAsg_ap, sPar_ap, sRet_ap, sIf_ap, sExpr_ap, sNext_ap, bnd_ap, ret_ap, bindR_ok, thenR_ok, dVar_ap, varR_ok, seqR_nx, seqR_rt, asgR_ok, gNm_ap, gCn_ap, gcnR_ok, gNl_ap, gTp_fr, gTp_ap, gLs_ap, dCons_ap, dNil_ap, asB_ap, dOr_ap, dAnd_ap, dNot_ap, dAndV_ap, dOrV_ap, dNotV_ap, dIf_ap, oAdd_int, oSub_int, oLt_int, oLe_int, oGt_int, oGe_int, oNeg_int, oEq_int, oNe_int, oEq_fr, oNe_fr, oEq_bl, oNe_bl, oTup_ap, oLst_ap, oCall_ap, oAbs_ap, oMax_ap, oMin_ap, oToInt_b, oToInt_i, oLen_lst, oLen_scr, oLen_tup, oIx_lst, oIx_scr, oAdd_lst, oIx_tup, oIx_fr0, oIx_fr1, ixR_ok, oItL_ap, oItT_ap, sFor_ap, startD, List.map_cons, List.map_nil, List.length_cons, List.length_nil, List.replicate_succ, List.replicate_zero, List.cons_append, List.nil_append, List.append_nil, List.getElem?_cons_zero, List.getElem?_cons_succ, List.set_cons_zero, List.set_cons_succ, Nat.reduceAdd, Nat.reduceSub, Nat.sub_self, Nat.reduceLeDiff, List.all_cons, List.all_nil, np_fr, np_int, np_bl, np_tup, np_lst, np_str, np_non, Bool.and_self, Bool.and_true, if_true_, if_false_, zero_add', if_tt, if_ff, decide_true, decide_false, Nat.le_refl, oItS_lst, oItS_tup, oTupOf_lst, oTupOf_tup, oLstOf_lst, oLstOf_tup, oRv_lst, oRv_tup, oAdd_tup, dChain_ap, asTru_bl, asTru_tup, asTru_lst, oIsN_ap, oNotN_ap, asI_ap, oSl_tup, oSl_lst, oZip_tup, oZip_lst, oAddI_ap, oEqS_ap, oNeS_ap, oNe_nil, isless_eq h1 hb, h, ofR_nx]
    · simp -implicitDefEqProofs only [den_least_L1, sSeq_ap, sAsg_ap, sPar_ap, sRet_ap, sIf_ap, sExpr_ap, sNext_ap, bnd_ap, ret_ap, bindR_ok, thenR_ok, dVar_ap, varR_ok, seqR_nx, seqR_rt, asgR_ok, gNm_ap, gCn_ap, gcnR_ok, gNl_ap, gTp_fr, gTp_ap, gLs_ap, dCons_ap, dNil_ap, asB_ap, dOr_ap, dAnd_ap, dNot_ap, dAndV_ap, dOrV_ap, dNotV_ap, dIf_ap, oAdd_int, oSub_int, oLt_int, oLe_int, oGt_int, oGe_int, oNeg_int, oEq_int, oNe_int, oEq_fr, oNe_fr, oEq_bl, oNe_bl, oTup_ap, oLst_ap, oCall_ap, oAbs_ap, oMax_ap, oMin_ap, oToInt_b, oToInt_i, oLen_lst, oLen_scr, oLen_tup, oIx_lst, oIx_scr, oAdd_lst, oIx_tup, oIx_fr0, oIx_fr1, ixR_ok, oItL_ap, oItT_ap, sFor_ap, startD, List.map_cons, List.map_nil, List.length_cons, List.length_nil, List.replicate_succ, List.replicate_zero, List.cons_append, List.nil_append, List.append_nil, List.getElem?_cons_zero, List.getElem?_cons_succ, List.set_cons_zero, List.set_cons_succ, Nat.reduceAdd, Nat.reduceSub, Nat.sub_self, Nat.reduceLeDiff, List.all_cons, List.all_nil, np_fr, np_int, np_bl, np_tup, np_lst, np_str, np_non, Bool.and_self, Bool.and_true, if_true_, if_false_, zero_add', if_tt, if_ff, decide_true, decide_false, Nat.le_refl, oItS_lst, oItS_tup, oTupOf_lst, oTupOf_tup, oLstOf_lst, oLstOf_tup, oRv_lst, oRv_tup, oAdd_tup, dChain_ap, asTru_bl, asTru_tup, asTru_lst, oIsN_ap, oNotN_ap, asI_ap, oSl_tup, oSl_lst, oZip_tup, oZip_lst, oAddI_ap, oEqS_ap, oNeS_ap, oNe_nil, isless_eq h1 hb, h, ofR_nx, Bool.false_eq_true]
theorem greatest_loop {S : D} (M : Mem) : ∀ (qs : List Rat) (b : Rat) (o : Option D), Bd 4000 b → (∀ q ∈ qs, Bd 4000 q) → ∃ o', forF (gNm 2) den_greatest_L1 (qs.map frQ) [some S, some (frQ b), o] M = some (.nx [some S, some (frQ (maxL b qs)), o'], M)
  | [], b, o, _, _ => ⟨o, rfl⟩
  | q :: qs, b, o, hb, hq => by
    have h1 := hq q (by simp)
    obtain ⟨o', e⟩ := greatest_loop M qs (if b < q then q else b) (some (frQ q)) (by split <;> assumption) fun x hx => hq x (by simp [hx])
    refine ⟨o', ?_⟩
    unfold maxL
    rw [← e, List.map_cons, forF_cons, gNm_ap, forB_ok]
    by_cases h : b < q
    · simp -implicitDefEqProofs only [den_greatest_L1, sSeq_ap, sAsg_ap, sPar_ap, sRet_ap, sIf_ap, sExpr_ap, sNext_ap, bnd_ap, ret_ap, bindR_ok, thenR_ok, dVar_ap, varR_ok, seqR_nx, seqR_rt, asgR_ok, gNm_ap, gCn_ap, gcnR_ok, gNl_ap, gTp_fr, gTp_ap, gLs_ap, dCons_ap, dNil_ap, asB_ap, dOr_ap, dAnd_ap, dNot_ap, dAndV_ap, dOrV_ap, dNotV_ap, dIf_ap, oAdd_int, oSub_int, oLt_int, oLe_int, oGt_int, oGe_int, oNeg_int, oEq_int, oNe_int, oEq_fr, oNe_fr, oEq_bl, oNe_bl, oTup_ap, oLst_ap, oCall_ap, oAbs_ap, oMax_ap, oMin_ap, oToInt_b, oToInt_i, oLen_lst, oLen_scr, oLen_tup, oIx_lst, oIx_scr, oAdd_lst, oIx_tup, oIx_fr0, oIx_fr1, ixR_ok, oItL_ap, oItT_ap, sFor_ap, startD, List.map_cons, List.map_nil, List.length_cons, List.length_nil, List.replicate_succ, List.replicate_zero, List.cons_append, List.nil_append, List.append_nil, List.getElem?_cons_zero, List.getElem?_cons_succ, List.set_cons_zero, List.set_cons_succ, Nat.reduceAdd, Nat.reduceSub, Nat.sub_self, Nat.reduceLeDiff, List.all_cons, List.all_nil, np_fr, np_int, np_bl, np_tup, np_lst, np_str, np_non, Bool.and_self, Bool.and_true, if_true_, if_false_, zero_add', if_tt, if_ff, decide_true, decide_false, Nat.le_refl, oItS_lst, oItS_tup, oTupOf_lst, oTupOf_tup, oLstOf_lst, oLstOf_tup, oRv_lst, oRv_tup, oAdd_tup, dChain_ap, asTru_bl, asTru_tup, asTru_lst, oIsN_ap, oNotN_ap, asI_ap, oSl_tup, oSl_lst, oZip_tup, oZip_lst, oAddI_ap, oEqS_ap, oNeS_ap, oNe_nil, isless_eq hb h1, h, ofR_nx]
    · simp -implicitDefEqProofs only [den_greatest_L1, sSeq_ap, sAsg_ap, sPar_ap, sRet_ap, sIf_ap, sExpr_ap, sNext_ap, bnd_ap, ret_ap, bindR_ok, thenR_ok, dVar_ap, varR_ok, seqR_nx, seqR_rt, asgR_ok, gNm_ap, gCn_ap, gcnR_ok, gNl_ap, gTp_fr, gTp_ap, gLs_ap, dCons_ap, dNil_ap, asB_ap, dOr_ap, dAnd_ap, dNot_ap, dAndV_ap, dOrV_ap, dNotV_ap, dIf_ap, oAdd_int, oSub_int, oLt_int, oLe_int, oGt_int, oGe_int, oNeg_int, oEq_int, oNe_int, oEq_fr, oNe_fr, oEq_bl, oNe_bl, oTup_ap, oLst_ap, oCall_ap, oAbs_ap, oMax_ap, oMin_ap, oToInt_b, oToInt_i, oLen_lst, oLen_scr, oLen_tup, oIx_lst, oIx_scr, oAdd_lst, oIx_tup, oIx_fr0, oIx_fr1, ixR_ok, oItL_ap, oItT_ap, sFor_ap, startD, List.map_cons, List.map_nil, List.length_cons, List.length_nil, List.replicate_succ, List.replicate_zero, List.cons_append, List.nil_append, List.append_nil, List.getElem?_cons_zero, List.getElem?_cons_succ, List.set_cons_zero, List.set_cons_succ, Nat.reduceAdd, Nat.reduceSub, Nat.sub_self, Nat.reduceLeDiff, List.all_cons, List.all_nil, np_fr, np_int, np_bl, np_tup, np_lst, np_str, np_non, Bool.and_self, Bool.and_true, if_true_, if_false_, zero_add', if_tt, if_ff, decide_true, decide_false, Nat.le_refl, oItS_lst, oItS_tup, oTupOf_lst, oTupOf_tup, oLstOf_lst, oLstOf_tup, oRv_lst, oRv_tup, oAdd_tup, dChain_ap, asTru_bl, asTru_tup, asTru_lst, oIsN_ap, oNotN_ap, asI_ap, oSl_tup, oSl_lst, oZip_tup, oZip_lst, oAddI_ap, oEqS_ap, oNeS_ap, oNe_nil, isless_eq hb h1, h, ofR_nx, Bool.false_eq_true]
theorem least_eq {q : Rat} {qs : List Rat} (hb : ∀ x ∈ q :: qs, Bd 4000 x) (M : Mem) : F_least [.tup ((q :: qs).map frQ)] M = some (.ok (frQ (minL q (q :: qs))), M) := by
  refine runF_pure ?_ rfl
  obtain ⟨o', e⟩ := least_loop (S := .tup ((q :: qs).map frQ)) M (q :: qs) q none (hb q (by simp)) hb
  rw [List.map_cons] at e ⊢
  simp -implicitDefEqProofs only [den_least, sSeq_ap, sAsg_ap, sPar_ap, sRet_ap, sIf_ap, sExpr_ap, sNext_ap, bnd_ap, ret_ap, bindR_ok, thenR_ok, dVar_ap, varR_ok, seqR_nx, seqR_rt, asgR_ok, gNm_ap, gCn_ap, gcnR_ok, gNl_ap, gTp_fr, gTp_ap, gLs_ap, dCons_ap, dNil_ap, asB_ap, dOr_ap, dAnd_ap, dNot_ap, dAndV_ap, dOrV_ap, dNotV_ap, dIf_ap, oAdd_int, oSub_int, oLt_int, oLe_int, oGt_int, oGe_int, oNeg_int, oEq_int, oNe_int, oEq_fr, oNe_fr, oEq_bl, oNe_bl, oTup_ap, oLst_ap, oCall_ap, oAbs_ap, oMax_ap, oMin_ap, oToInt_b, oToInt_i, oLen_lst, oLen_scr, oLen_tup, oIx_lst, oIx_scr, oAdd_lst, oIx_tup, oIx_fr0, oIx_fr1, ixR_ok, oItL_ap, oItT_ap, sFor_ap, startD, List.map_cons, List.map_nil, List.length_cons, List.length_nil, List.replicate_succ, List.replicate_zero, List.cons_append, List.nil_append, List.append_nil, List.getElem?_cons_zero, List.getElem?_cons_succ, List.set_cons_zero, List.set_cons_succ, Nat.reduceAdd, Nat.reduceSub, Nat.sub_self, Nat.reduceLeDiff, List.all_cons, List.all_nil, np_fr, np_int, np_bl, np_tup, np_lst, np_str, np_non, Bool.and_self, Bool.and_true, if_true_, if_false_, zero_add', if_tt, if_ff, decide_true, decide_false, Nat.le_refl, oItS_lst, oItS_tup, oTupOf_lst, oTupOf_tup, oLstOf_lst, oLstOf_tup, oRv_lst, oRv_tup, oAdd_tup, dChain_ap, asTru_bl, asTru_tup, asTru_lst, oIsN_ap, oNotN_ap, asI_ap, oSl_tup, oSl_lst, oZip_tup, oZip_lst, oAddI_ap, oEqS_ap, oNeS_ap, oNe_nil, atI_0, e]
theorem greatest_eq {q : Rat} {qs : List Rat} (hb : ∀ x ∈ q :: qs, Bd 4000 x) (M : Mem) : F_greatest [.tup ((q :: qs).map frQ)] M = some (.ok (frQ (maxL q (q :: qs))), M) := by
  refine runF_pure ?_ rfl
  obtain ⟨o', e⟩ := greatest_loop (S := .tup ((q :: qs).map frQ)) M (q :: qs) q none (hb q (by simp)) hb
  rw [List.map_cons] at e ⊢
  simp -implicitDefEqProofs only [den_greatest, sSeq_ap, sAsg_ap, sPar_ap, sRet_ap, sIf_ap, sExpr_ap, sNext_ap, bnd_ap, ret_ap, bindR_ok, thenR_ok, dVar_ap, varR_ok, seqR_nx, seqR_rt, asgR_ok, gNm_ap, gCn_ap, gcnR_ok, gNl_ap, gTp_fr, gTp_ap, gLs_ap, dCons_ap, dNil_ap, asB_ap, dOr_ap, dAnd_ap, dNot_ap, dAndV_ap, dOrV_ap, dNotV_ap, dIf_ap, oAdd_int, oSub_int, oLt_int, oLe_int, oGt_int, oGe_int, oNeg_int, oEq_int, oNe_int, oEq_fr, oNe_fr, oEq_bl, oNe_bl, oTup_ap, oLst_ap, oCall_ap, oAbs_ap, oMax_ap, oMin_ap, oToInt_b, oToInt_i, oLen_lst, oLen_scr, oLen_tup, oIx_lst, oIx_scr, oAdd_lst, oIx_tup, oIx_fr0, oIx_fr1, ixR_ok, oItL_ap, oItT_ap, sFor_ap, startD, List.map_cons, List.map_nil, List.length_cons, List.length_nil, List.replicate_succ, List.replicate_zero, List.cons_append, List.nil_append, List.append_nil, List.getElem?_cons_zero, List.getElem?_cons_succ, List.set_cons_zero, List.set_cons_succ, Nat.reduceAdd, Nat.reduceSub, Nat.sub_self, Nat.reduceLeDiff, List.all_cons, List.all_nil, np_fr, np_int, np_bl, np_tup, np_lst, np_str, np_non, Bool.and_self, Bool.and_true, if_true_, if_false_, zero_add', if_tt, if_ff, decide_true, decide_false, Nat.le_refl, oItS_lst, oItS_tup, oTupOf_lst, oTupOf_tup, oLstOf_lst, oLstOf_tup, oRv_lst, oRv_tup, oAdd_tup, dChain_ap, asTru_bl, asTru_tup, asTru_lst, oIsN_ap, oNotN_ap, asI_ap, oSl_tup, oSl_lst, oZip_tup, oZip_lst, oAddI_ap, oEqS_ap, oNeS_ap, oNe_nil, atI_0, e]
/-! the row of the law -/
def lcmTo : Nat → Nat
  | 0 => 1
  | n + 1 => Nat.lcm (n + 1) (lcmTo n)
def KL : Nat := (997 * 1000 * 991) * (997 * 1000 * 991) * ((992 * 993 * 994 * 995 * 996 * 997 * 998 * 999 * 1000) * (992 * 993 * 994 * 995 * 996 * 997 * 998 * 999 * 1000))
def LL : Nat := lcmTo 1000 * KL
theorem LL_lt : LL < 2 ^ 1800 := by decide +kernel
theorem LL_pos : 0 < LL := by decide +kernel
theorem dvd_lcmTo : ∀ (n b : Nat), 0 < b → b ≤ n → b ∣ lcmTo n
  | 0, b, h, l => absurd h (by omega)
  | n + 1, b, h, l => by
    unfold lcmTo
    rcases Nat.lt_or_ge n b with q | q
    · have : b = n + 1 := by omega
      subst this
      exact Nat.dvd_lcm_left _ _
    · exact Nat.dvd_trans (dvd_lcmTo n b h q) (Nat.dvd_lcm_right _ _)
theorem small_dvd {b : Nat} (h : 0 < b) (l : b ≤ 1000) : b ∣ LL := Nat.dvd_trans (dvd_lcmTo 1000 b h l) (Nat.dvd_mul_right _ _)
theorem near_dvd (m : Nat) (h1 : 992 ≤ m) (h2 : m ≤ 1000) : (997 * 1000 * 991 * m) * (997 * 1000 * 991 * m) ∣ LL := by
  refine Nat.dvd_trans ?_ (Nat.dvd_mul_left KL (lcmTo 1000))
  have : m = 992 ∨ m = 993 ∨ m = 994 ∨ m = 995 ∨ m = 996 ∨ m = 997 ∨ m = 998 ∨ m = 999 ∨ m = 1000 := by omega
  rcases this with h | h | h | h | h | h | h | h | h <;> subst h <;> decide +kernel
/-- one by n -/
def unit (n : Nat) (h : n ≠ 0) : Rat := ⟨1, n, h, by simp⟩
theorem unit_fr (n : Nat) (h : n ≠ 0) : D.tup [.int 1, .int (n : Int)] = frQ (unit n h) := rfl
theorem unit_mul (m n : Nat) (hm : m ≠ 0) (hn : n ≠ 0) : unit m hm * unit n hn = unit (m * n) (Nat.mul_ne_zero hm hn) := by
  obtain ⟨m1, m2⟩ := times_math (unit m hm) (unit n hn)
  refine Rat.ext ?_ ?_
  · rw [m1]; simp [unit]
  · rw [m2]; simp [unit]
theorem unit_bd {n k : Nat} (h : n ≠ 0) (l : n < 2 ^ k) (hk : 0 < k) : Bd k (unit n h) := ⟨by show 1 < 2 ^ k; exact Nat.one_lt_two_pow (by omega), l⟩
theorem unit_ab (n : Nat) (h : n ≠ 0) : Ab 1 (unit n h) := by
  show 1 ≤ 1 * n
  omega
theorem den_divInt {t b : Int} (hb : b ≠ 0) : (Rat.divInt t b).den ∣ b.natAbs := by
  have cr := congrArg Int.natAbs (divInt_cross t b hb)
  rw [Int.natAbs_mul, Int.natAbs_mul, Int.natAbs_natCast] at cr
  have h : (Rat.divInt t b).den ∣ (Rat.divInt t b).num.natAbs * b.natAbs := by rw [cr]; exact Nat.dvd_mul_left _ _
  exact Nat.Coprime.dvd_of_dvd_mul_left (Rat.divInt t b).reduced.symm h
/-- pair -/
theorem ab_divInt {t b : Int} {B : Nat} (hb : b ≠ 0) (h : t.natAbs ≤ B) : Ab B (Rat.divInt t b) := by
  have cr := congrArg Int.natAbs (divInt_cross t b hb)
  rw [Int.natAbs_mul, Int.natAbs_mul, Int.natAbs_natCast] at cr
  unfold Ab
  have hb1 : 1 ≤ b.natAbs := by omega
  have h1 := Nat.mul_le_mul_left (Rat.divInt t b).num.natAbs hb1
  have h2 := Nat.mul_le_mul_right (Rat.divInt t b).den h
  omega
theorem pair_eq2 {c n : Nat} {M : Mem} (hr : HasReel c n M) (hc : c + 11 < 2 ^ 30) : ∃ q M', F__law_pair [.ptr n] M = some (.ok (frQ q), M') ∧ q.den ∣ LL ∧ Ab 1000000 q ∧ Turned (c + 11) n M M' := by
  obtain ⟨v1, M1, e1, a1, b1, t1⟩ := draw_eq (m := 6) hr (by omega) (by decide) (small_lt _ (by decide) (by decide))
  obtain ⟨v2, M2, e2, a2, b2, t2⟩ := draw_eq (m := 5) t1.has (by omega) (by decide) (small_lt _ (by decide) (by decide))
  obtain ⟨v3, M3, e3, a3, b3, t3⟩ := draw_eq (m := 4) t2.has (by omega) (by decide) (small_lt _ (by decide) (by decide))
  obtain ⟨v4, M4, e4, a4, b4, t4⟩ := draw_eq (m := 1000) t3.has (by omega) (by decide) (small_lt _ (by decide) (by decide))
  obtain ⟨v5, M5, e5, a5, b5, t5⟩ := draw_eq (m := 3) t4.has (by omega) (by decide) (small_lt _ (by decide) (by decide))
  obtain ⟨v6, M6, e6, a6, b6, t6⟩ := draw_eq (m := 4) t5.has (by omega) (by decide) (small_lt _ (by decide) (by decide))
  obtain ⟨v7, M7, e7, a7, b7, t7⟩ := draw_eq (m := 30) t6.has (by omega) (by decide) (small_lt _ (by decide) (by decide))
  obtain ⟨v8, M8, e8, a8, b8, t8⟩ := draw_eq (m := 40) t7.has (by omega) (by decide) (small_lt _ (by decide) (by decide))
  obtain ⟨v9, M9, e9, a9, b9, t9⟩ := draw_eq (m := 10 ^ 6 + 1) t8.has (by omega) (by decide) (small_lt _ (by decide) (by decide))
  obtain ⟨v10, M10, e10, a10, b10, t10⟩ := draw_eq (m := 3) t9.has (by omega) (by decide) (small_lt _ (by decide) (by decide))
  obtain ⟨v11, M11, e11, a11, b11, t11⟩ := draw_eq (m := 2) t10.has (by omega) (by decide) (small_lt _ (by decide) (by decide))
  obtain ⟨p2, i2, c2⟩ := atI_lit (l := [D.int 2, .int 3, .int 4, .int 6, .int 12]) (P := fun k => 1 ≤ k ∧ k ≤ 1000) a2 b2 (by simp)
  obtain ⟨p3, i3, c3⟩ := atI_lit (l := [D.int 7, .int 11, .int 13, .int 997]) (P := fun k => 1 ≤ k ∧ k ≤ 1000) a3 b3 (by simp)
  obtain ⟨bo, i4, c4⟩ := atI_lit (l := [D.int 1, .int p2, .int p3, .int (1 + v4), .int (1000 - v5), .int 1]) (P := fun k => 1 ≤ k ∧ k ≤ 1000) a1 b1 (by
    simp -implicitDefEqProofs only [List.mem_cons, List.not_mem_nil, or_false]
    rintro d (rfl | rfl | rfl | rfl | rfl | rfl) <;> exact ⟨_, rfl, by omega, by omega⟩)
  obtain ⟨to, i5, c5⟩ := atI_lit (l := [D.int v6, .int v7, .int v8, .int v9, .int (10 ^ 6 - v10), .int 0]) (P := fun k => 0 ≤ k ∧ k ≤ 1000000) a1 b1 (by
    simp -implicitDefEqProofs only [List.mem_cons, List.not_mem_nil, or_false]
    rintro d (rfl | rfl | rfl | rfl | rfl | rfl) <;> exact ⟨_, rfl, by omega, by omega⟩)
  obtain ⟨sg, i6, c6⟩ := atI_lit (l := [D.int 1, .int (0 - 1)]) (P := fun k => k = 1 ∨ k = -1) a11 b11 (by simp)
  have k1 : MulOk to sg := MulOk.of (a := 20) (b := 2) (natAbs_lt_of (by omega) (by omega)) (by rcases c6 with h | h <;> subst h <;> decide)
  have hts : (to * sg).natAbs < 2 ^ 20 := by rcases c6 with h | h <;> subst h <;> omega
  have hts2 : (to * sg).natAbs ≤ 1000000 := by rcases c6 with h | h <;> subst h <;> omega
  have hbo : bo.natAbs < 2 ^ 20 := by omega
  have hb0 : bo ≠ 0 := by omega
  have tt := t1.trans (t2.trans (t3.trans (t4.trans (t5.trans (t6.trans (t7.trans (t8.trans (t9.trans (t10.trans t11)))))))))
  refine ⟨Rat.divInt (to * sg) bo, M11, ?_, Nat.dvd_trans (den_divInt hb0) (small_dvd (by omega) (by omega)), ab_divInt hb0 hts2, tt⟩
  have := runF_rt (N := ["_law_reel_here", "_law_way", "_law_bottom", "_law_top"]) (fb := den__law_pair) (ds := [.ptr n]) (M := M) (M2 := M11) (d := frQ (Rat.divInt (to * sg) bo)) (by
    simp -implicitDefEqProofs only [den__law_pair, sSeq_ap, sAsg_ap, sPar_ap, sRet_ap, sIf_ap, sExpr_ap, sNext_ap, bnd_ap, ret_ap, bindR_ok, thenR_ok, dVar_ap, varR_ok, seqR_nx, seqR_rt, asgR_ok, gNm_ap, gCn_ap, gcnR_ok, gNl_ap, gTp_fr, gTp_ap, gLs_ap, dCons_ap, dNil_ap, asB_ap, dOr_ap, dAnd_ap, dNot_ap, dAndV_ap, dOrV_ap, dNotV_ap, dIf_ap, oAdd_int, oSub_int, oLt_int, oLe_int, oGt_int, oGe_int, oNeg_int, oEq_int, oNe_int, oEq_fr, oNe_fr, oEq_bl, oNe_bl, oTup_ap, oLst_ap, oCall_ap, oAbs_ap, oMax_ap, oMin_ap, oToInt_b, oToInt_i, oLen_lst, oLen_scr, oLen_tup, oIx_lst, oIx_scr, oAdd_lst, oIx_tup, oIx_fr0, oIx_fr1, ixR_ok, oItL_ap, oItT_ap, sFor_ap, startD, List.map_cons, List.map_nil, List.length_cons, List.length_nil, List.replicate_succ, List.replicate_zero, List.cons_append, List.nil_append, List.append_nil, List.getElem?_cons_zero, List.getElem?_cons_succ, List.set_cons_zero, List.set_cons_succ, Nat.reduceAdd, Nat.reduceSub, Nat.sub_self, Nat.reduceLeDiff, List.all_cons, List.all_nil, np_fr, np_int, np_bl, np_tup, np_lst, np_str, np_non, Bool.and_self, Bool.and_true, if_true_, if_false_, zero_add', if_tt, if_ff, decide_true, decide_false, Nat.le_refl, oItS_lst, oItS_tup, oTupOf_lst, oTupOf_tup, oLstOf_lst, oLstOf_tup, oRv_lst, oRv_tup, oAdd_tup, dChain_ap, asTru_bl, asTru_tup, asTru_lst, oIsN_ap, oNotN_ap, asI_ap, oSl_tup, oSl_lst, oZip_tup, oZip_lst, oAddI_ap, oEqS_ap, oNeS_ap, oNe_nil, e1, e2, i2, e3, i3, e4, e5, i4, e6, e7, e8, pow10_6, e9, e10, i5, e11, i6, oMul_int k1, low_eq hb0 (nat_lt_pow 4000 hbo (by decide))]) (by rw [tt.len]; exact Nat.le_refl _) rfl
  rw [F__law_pair, this, List.take_of_length_le (by rw [tt.len]; exact Nat.le_refl _)]

/-- the row as it grows -/
structure Grow (c n m : Nat) (qs : List Rat) (M : Mem) : Prop where
  has : HasReel c n M
  lst : M[m]? = some (some (qs.map frQ))
  ne : n ≠ m
  row : Row LL (1000000 + qs.length) qs
  len : qs.length ≤ 50
theorem Turned.lst {c n m : Nat} {M M' : Mem} (t : Turned c n M M') (h : n ≠ m) : M'[m]? = M[m]? := t.oth m (Ne.symm h)
theorem frs_at {qs : List Rat} {v : Int} (h0 : 0 ≤ v) (h : v < qs.length) : ∃ q, q ∈ qs ∧ atI (qs.map frQ) v = some (frQ q) := by
  obtain ⟨d, e, m⟩ := atI_mem (l := qs.map frQ) h0 (by simpa using h)
  obtain ⟨q, hq, rfl⟩ := List.mem_map.mp m
  exact ⟨q, hq, e⟩
theorem near_eq {c n : Nat} {M : Mem} (hr : HasReel c n M) (hc : c < 2 ^ 29) : ∃ (k : Nat) (hk : k ≠ 0) (M1 : Mem), F__law_draw [.ptr n, .int 9] M = some (.ok (.int ((1000 : Int) - (k : Int))), M1) ∧ 992 ≤ k ∧ k ≤ 1000 ∧ Turned (c + 1) n M M1 := by
  obtain ⟨v, M1, e, a, b, t⟩ := draw_eq (m := 9) hr (by omega) (by decide) (small_lt _ (by decide) (by decide))
  refine ⟨(1000 - v).toNat, by omega, M1, ?_, by omega, by omega, t⟩
  rw [e]
  congr
  omega
/-- which is put behind: it is one of the row's kind -/
structure New (qs : List Rat) (q : Rat) : Prop where
  dv : q.den ∣ LL
  ab : Ab (1000000 + (qs.length + 1)) q
theorem Grow.push {c n m : Nat} {qs : List Rat} {M : Mem} {q : Rat} (g : Grow c n m qs M) (h : New qs q) (l : qs.length < 50) : Grow c n m (qs ++ [q]) (M.set m (some (qs.map frQ ++ [frQ q]))) := by
  have hm : m < M.length := by
    rcases Nat.lt_or_ge m M.length with z | z
    · exact z
    · have := g.lst; rw [List.getElem?_eq_none z] at this; cases this
  refine ⟨?_, ?_, g.ne, ⟨fun x hx => ?_, fun x hx => ?_⟩, by simp; omega⟩
  · obtain ⟨a, r, t, e, rest⟩ := g.has
    exact ⟨a, r, t, by rw [List.getElem?_set_ne (Ne.symm g.ne)]; exact e, rest⟩
  · rw [List.getElem?_set_self hm, List.map_append]; rfl
  · rcases List.mem_append.mp hx with z | z
    · exact g.row.dv x z
    · simp at z; subst z; exact h.dv
  · rw [List.length_append]
    rcases List.mem_append.mp hx with z | z
    · exact (g.row.ab x z).mono (by simp)
    · simp at z; subst z; exact h.ab
theorem Grow.turn {c c' n m : Nat} {qs : List Rat} {M M' : Mem} (g : Grow c n m qs M) (t : Turned c' n M M') : Grow c' n m qs M' := ⟨t.has, by rw [t.lst g.ne]; exact g.lst, g.ne, g.row, g.len⟩
theorem unit_t (a b : Nat) (ha : a ≠ 0) (hb : b ≠ 0) (la : a < 2 ^ 300) (lb : b < 2 ^ 300) (M : Mem) : F_times [frQ (unit a ha), frQ (unit b hb)] M = some (.ok (frQ (unit (a * b) (Nat.mul_ne_zero ha hb))), M) := by
  rw [times_eq ((unit_bd ha la (by decide)).mono (by decide)) ((unit_bd hb lb (by decide)).mono (by decide)), unit_mul]
/-- near, other, one -/
theorem row_I1 {c n m : Nat} {qs : List Rat} {M : Mem} {q : Rat} {t o4 o5 : Option D} (g : Grow c n m qs M) (hc : c < 2 ^ 28) (h : New qs q) : ∃ q' o4' o5' M', den__law_row_I1 [some (.ptr n), some (.ptr m), t, some (frQ q), o4, o5] M = some (.nx [some (.ptr n), some (.ptr m), t, some (frQ q'), o4', o5'], M') ∧ New qs q' ∧ Turned (c + 5) n M M' := by
  by_cases he : qs = []
  · subst he
    refine ⟨q, o4, o5, M, ?_, h, g.has.self.mono (by omega)⟩
    have e1 := oNeM_nil (qs := []) [some (.ptr n), some (.ptr m), t, some (frQ q), o4, o5] g.lst
    simp -implicitDefEqProofs only [den__law_row_I1, sSeq_ap, sAsg_ap, sPar_ap, sRet_ap, sIf_ap, sExpr_ap, sNext_ap, bnd_ap, ret_ap, bindR_ok, thenR_ok, dVar_ap, varR_ok, seqR_nx, seqR_rt, asgR_ok, gNm_ap, gCn_ap, gcnR_ok, gNl_ap, gTp_fr, gTp_ap, gLs_ap, dCons_ap, dNil_ap, asB_ap, dOr_ap, dAnd_ap, dNot_ap, dAndV_ap, dOrV_ap, dNotV_ap, dIf_ap, oAdd_int, oSub_int, oLt_int, oLe_int, oGt_int, oGe_int, oNeg_int, oEq_int, oNe_int, oEq_fr, oNe_fr, oEq_bl, oNe_bl, oTup_ap, oLst_ap, oCall_ap, oAbs_ap, oMax_ap, oMin_ap, oToInt_b, oToInt_i, oLen_lst, oLen_scr, oLen_tup, oIx_lst, oIx_scr, oAdd_lst, oIx_tup, oIx_fr0, oIx_fr1, ixR_ok, oItL_ap, oItT_ap, sFor_ap, startD, List.map_cons, List.map_nil, List.length_cons, List.length_nil, List.replicate_succ, List.replicate_zero, List.cons_append, List.nil_append, List.append_nil, List.getElem?_cons_zero, List.getElem?_cons_succ, List.set_cons_zero, List.set_cons_succ, Nat.reduceAdd, Nat.reduceSub, Nat.sub_self, Nat.reduceLeDiff, List.all_cons, List.all_nil, np_fr, np_int, np_bl, np_tup, np_lst, np_str, np_non, Bool.and_self, Bool.and_true, if_true_, if_false_, zero_add', if_tt, if_ff, decide_true, decide_false, Nat.le_refl, oItS_lst, oItS_tup, oTupOf_lst, oTupOf_tup, oLstOf_lst, oLstOf_tup, oRv_lst, oRv_tup, oAdd_tup, dChain_ap, asTru_bl, asTru_tup, asTru_lst, oIsN_ap, oNotN_ap, asI_ap, oSl_tup, oSl_lst, oZip_tup, oZip_lst, oAddI_ap, oEqS_ap, oNeS_ap, oNe_nil, e1, List.isEmpty_nil, Bool.not_true, Bool.false_eq_true]
  · have hq : (!qs.isEmpty) = true := by cases qs <;> simp_all
    have e1 := oNeM_nil (qs := qs) [some (.ptr n), some (.ptr m), t, some (frQ q), o4, o5] g.lst
    obtain ⟨v1, M1, d1, a1, b1, t1⟩ := draw_eq (m := 6) g.has (by omega) (by decide) (small_lt _ (by decide) (by decide))
    by_cases hv : v1 = 0
    · subst hv
      obtain ⟨k, hk, M2, d2, k1, k2, t2⟩ := near_eq t1.has (by omega)
      have ek : (1000 : Int) - ((1000 : Int) - (k : Int)) = (k : Int) := by omega
      obtain ⟨v3, M3, d3, a3, b3, t3⟩ := draw_eq (m := 2) t2.has (by omega) (by decide) (small_lt _ (by decide) (by decide))
      have g3 := ((g.turn t1).turn t2).turn t3
      obtain ⟨v4, M4, d4, a4, b4, t4⟩ := draw_eq (m := (qs.length : Int)) t3.has (by omega) (by have : qs.length ≠ 0 := fun z => he (List.eq_nil_of_length_eq_zero z); omega) (small_lt _ (by omega) (by have := g.len; omega))
      have g4 := g3.turn t4
      obtain ⟨x, hx, ex⟩ := frs_at (qs := qs) a4 b4
      obtain ⟨v5, M5, d5, a5, b5, t5⟩ := draw_eq (m := 2) t4.has (by omega) (by decide) (small_lt _ (by decide) (by decide))
      have tt := t1.trans (t2.trans (t3.trans (t4.trans t5)))
      have l0 : 997 * 1000 * (991 * k) < 2 ^ 300 := Nat.lt_of_le_of_lt (Nat.mul_le_mul_left _ (Nat.mul_le_mul_left _ k2)) (by decide)
      -- the near one, by the place
      have hz : (997 * 1000 * (991 * k)) ≠ 0 := by omega
      have kk : 997 * 1000 * (991 * k) = 997 * 1000 * 991 * k := by omega
      have nn : ∃ (z : Nat) (hz0 : z ≠ 0), atI [frQ (unit (997 * 1000 * (991 * k)) hz), frQ (unit ((997 * 1000 * (991 * k)) * (997 * 1000 * (991 * k))) (Nat.mul_ne_zero hz hz))] v3 = some (frQ (unit z hz0)) ∧ z ∣ LL ∧ z < 2 ^ 300 := by
        have dd := near_dvd k k1 k2
        rw [← kk] at dd
        have hv3 : v3 = 0 ∨ v3 = 1 := by omega
        rcases hv3 with z | z
        · subst z
          exact ⟨_, hz, rfl, Nat.dvd_trans (Nat.dvd_mul_left _ _) dd, l0⟩
        · subst z
          refine ⟨_, Nat.mul_ne_zero hz hz, rfl, dd, ?_⟩
          have l1 : 997 * 1000 * (991 * k) ≤ 997 * 1000 * (991 * 1000) := Nat.mul_le_mul_left _ (Nat.mul_le_mul_left _ k2)
          exact Nat.lt_of_le_of_lt (Nat.mul_le_mul l1 l1) (by decide)
      obtain ⟨z, hz0, ez, dz, lz⟩ := nn
      have bx : Bd 4000 x := (g.row.bd LL_pos LL_lt (by have := g.len; omega) x hx).mono (by decide)
      have bz : Bd 4000 (unit z hz0) := (unit_bd hz0 lz (by decide)).mono (by decide)
      have u1 : D.tup [.int 1, .int 997] = frQ (unit 997 (by decide)) := rfl
      have u2 : D.tup [.int 1, .int 1000] = frQ (unit 1000 (by decide)) := rfl
      have u3 : D.tup [.int 1, .int 991] = frQ (unit 991 (by decide)) := rfl
      have u4 : D.tup [.int 1, .int (k : Int)] = frQ (unit k hk) := rfl
      have p1 := fun M => unit_t 997 1000 (by decide) (by decide) (by decide) (by decide) M
      have p2 := fun M => unit_t 991 k (by decide) hk (by decide) (Nat.lt_of_le_of_lt k2 (by decide)) M
      have p3 := fun M => unit_t (997 * 1000) (991 * k) (by decide) (by omega) (by decide) (Nat.lt_of_le_of_lt (Nat.mul_le_mul_left _ k2) (by decide)) M
      have p4 := fun M => unit_t (997 * 1000 * (991 * k)) (997 * 1000 * (991 * k)) hz hz l0 l0 M
      have dx := g.row.dv x hx
      have ax := g.row.ab x hx
      by_cases hv5 : v5 = 0
      · subst hv5
        refine ⟨x + unit z hz0, some (frQ (unit z hz0)), some (frQ x), M5, ?_, ⟨dv_add dx dz, (ax.add (unit_ab z hz0)).mono (by omega)⟩, tt⟩
        simp -implicitDefEqProofs only [den__law_row_I1, sSeq_ap, sAsg_ap, sPar_ap, sRet_ap, sIf_ap, sExpr_ap, sNext_ap, bnd_ap, ret_ap, bindR_ok, thenR_ok, dVar_ap, varR_ok, seqR_nx, seqR_rt, asgR_ok, gNm_ap, gCn_ap, gcnR_ok, gNl_ap, gTp_fr, gTp_ap, gLs_ap, dCons_ap, dNil_ap, asB_ap, dOr_ap, dAnd_ap, dNot_ap, dAndV_ap, dOrV_ap, dNotV_ap, dIf_ap, oAdd_int, oSub_int, oLt_int, oLe_int, oGt_int, oGe_int, oNeg_int, oEq_int, oNe_int, oEq_fr, oNe_fr, oEq_bl, oNe_bl, oTup_ap, oLst_ap, oCall_ap, oAbs_ap, oMax_ap, oMin_ap, oToInt_b, oToInt_i, oLen_lst, oLen_scr, oLen_tup, oIx_lst, oIx_scr, oAdd_lst, oIx_tup, oIx_fr0, oIx_fr1, ixR_ok, oItL_ap, oItT_ap, sFor_ap, startD, List.map_cons, List.map_nil, List.length_cons, List.length_nil, List.replicate_succ, List.replicate_zero, List.cons_append, List.nil_append, List.append_nil, List.getElem?_cons_zero, List.getElem?_cons_succ, List.set_cons_zero, List.set_cons_succ, Nat.reduceAdd, Nat.reduceSub, Nat.sub_self, Nat.reduceLeDiff, List.all_cons, List.all_nil, np_fr, np_int, np_bl, np_tup, np_lst, np_str, np_non, Bool.and_self, Bool.and_true, if_true_, if_false_, zero_add', if_tt, if_ff, decide_true, decide_false, Nat.le_refl, oItS_lst, oItS_tup, oTupOf_lst, oTupOf_tup, oLstOf_lst, oLstOf_tup, oRv_lst, oRv_tup, oAdd_tup, dChain_ap, asTru_bl, asTru_tup, asTru_lst, oIsN_ap, oNotN_ap, asI_ap, oSl_tup, oSl_lst, oZip_tup, oZip_lst, oAddI_ap, oEqS_ap, oNeS_ap, oNe_nil, e1, hq, d1, u1, u2, p1, u3, d2, ek, u4, p2, p3, p4, d3, ez, oLen_ptr _ g3.lst, List.length_map, d4, oIx_ptr _ _ g4.lst, ex, d5, plus_eq bx bz]
      · have hv52 : decide (v5 = 0) = false := decide_eq_false hv5
        refine ⟨x - unit z hz0, some (frQ (unit z hz0)), some (frQ x), M5, ?_, ⟨by rw [Rat.sub_eq_add_neg]; exact dv_add dx (dv_neg dz), by rw [Rat.sub_eq_add_neg]; exact (ax.add (unit_ab z hz0).neg).mono (by omega)⟩, tt⟩
        simp -implicitDefEqProofs only [den__law_row_I1, sSeq_ap, sAsg_ap, sPar_ap, sRet_ap, sIf_ap, sExpr_ap, sNext_ap, bnd_ap, ret_ap, bindR_ok, thenR_ok, dVar_ap, varR_ok, seqR_nx, seqR_rt, asgR_ok, gNm_ap, gCn_ap, gcnR_ok, gNl_ap, gTp_fr, gTp_ap, gLs_ap, dCons_ap, dNil_ap, asB_ap, dOr_ap, dAnd_ap, dNot_ap, dAndV_ap, dOrV_ap, dNotV_ap, dIf_ap, oAdd_int, oSub_int, oLt_int, oLe_int, oGt_int, oGe_int, oNeg_int, oEq_int, oNe_int, oEq_fr, oNe_fr, oEq_bl, oNe_bl, oTup_ap, oLst_ap, oCall_ap, oAbs_ap, oMax_ap, oMin_ap, oToInt_b, oToInt_i, oLen_lst, oLen_scr, oLen_tup, oIx_lst, oIx_scr, oAdd_lst, oIx_tup, oIx_fr0, oIx_fr1, ixR_ok, oItL_ap, oItT_ap, sFor_ap, startD, List.map_cons, List.map_nil, List.length_cons, List.length_nil, List.replicate_succ, List.replicate_zero, List.cons_append, List.nil_append, List.append_nil, List.getElem?_cons_zero, List.getElem?_cons_succ, List.set_cons_zero, List.set_cons_succ, Nat.reduceAdd, Nat.reduceSub, Nat.sub_self, Nat.reduceLeDiff, List.all_cons, List.all_nil, np_fr, np_int, np_bl, np_tup, np_lst, np_str, np_non, Bool.and_self, Bool.and_true, if_true_, if_false_, zero_add', if_tt, if_ff, decide_true, decide_false, Nat.le_refl, oItS_lst, oItS_tup, oTupOf_lst, oTupOf_tup, oLstOf_lst, oLstOf_tup, oRv_lst, oRv_tup, oAdd_tup, dChain_ap, asTru_bl, asTru_tup, asTru_lst, oIsN_ap, oNotN_ap, asI_ap, oSl_tup, oSl_lst, oZip_tup, oZip_lst, oAddI_ap, oEqS_ap, oNeS_ap, oNe_nil, e1, hq, d1, u1, u2, p1, u3, d2, ek, u4, p2, p3, p4, d3, ez, oLen_ptr _ g3.lst, List.length_map, d4, oIx_ptr _ _ g4.lst, ex, d5, hv52, Bool.false_eq_true, less_eq bx bz]
    · have hv2 : decide (v1 = 0) = false := decide_eq_false hv
      refine ⟨q, o4, o5, M1, ?_, h, t1.mono (by omega)⟩
      simp -implicitDefEqProofs only [den__law_row_I1, sSeq_ap, sAsg_ap, sPar_ap, sRet_ap, sIf_ap, sExpr_ap, sNext_ap, bnd_ap, ret_ap, bindR_ok, thenR_ok, dVar_ap, varR_ok, seqR_nx, seqR_rt, asgR_ok, gNm_ap, gCn_ap, gcnR_ok, gNl_ap, gTp_fr, gTp_ap, gLs_ap, dCons_ap, dNil_ap, asB_ap, dOr_ap, dAnd_ap, dNot_ap, dAndV_ap, dOrV_ap, dNotV_ap, dIf_ap, oAdd_int, oSub_int, oLt_int, oLe_int, oGt_int, oGe_int, oNeg_int, oEq_int, oNe_int, oEq_fr, oNe_fr, oEq_bl, oNe_bl, oTup_ap, oLst_ap, oCall_ap, oAbs_ap, oMax_ap, oMin_ap, oToInt_b, oToInt_i, oLen_lst, oLen_scr, oLen_tup, oIx_lst, oIx_scr, oAdd_lst, oIx_tup, oIx_fr0, oIx_fr1, ixR_ok, oItL_ap, oItT_ap, sFor_ap, startD, List.map_cons, List.map_nil, List.length_cons, List.length_nil, List.replicate_succ, List.replicate_zero, List.cons_append, List.nil_append, List.append_nil, List.getElem?_cons_zero, List.getElem?_cons_succ, List.set_cons_zero, List.set_cons_succ, Nat.reduceAdd, Nat.reduceSub, Nat.sub_self, Nat.reduceLeDiff, List.all_cons, List.all_nil, np_fr, np_int, np_bl, np_tup, np_lst, np_str, np_non, Bool.and_self, Bool.and_true, if_true_, if_false_, zero_add', if_tt, if_ff, decide_true, decide_false, Nat.le_refl, oItS_lst, oItS_tup, oTupOf_lst, oTupOf_tup, oLstOf_lst, oLstOf_tup, oRv_lst, oRv_tup, oAdd_tup, dChain_ap, asTru_bl, asTru_tup, asTru_lst, oIsN_ap, oNotN_ap, asI_ap, oSl_tup, oSl_lst, oZip_tup, oZip_lst, oAddI_ap, oEqS_ap, oNeS_ap, oNe_nil, e1, hq, d1, hv2, Bool.false_eq_true]

theorem row_I2 {c n m : Nat} {qs : List Rat} {M : Mem} {q : Rat} {t o4 o5 : Option D} (g : Grow c n m qs M) (hc : c < 2 ^ 28) (h : New qs q) : ∃ q' M', den__law_row_I2 [some (.ptr n), some (.ptr m), t, some (frQ q), o4, o5] M = some (.nx [some (.ptr n), some (.ptr m), t, some (frQ q'), o4, o5], M') ∧ New qs q' ∧ Turned (c + 2) n M M' := by
  by_cases he : qs = []
  · subst he
    refine ⟨q, M, ?_, h, g.has.self.mono (by omega)⟩
    have e1 := oNeM_nil (qs := []) [some (.ptr n), some (.ptr m), t, some (frQ q), o4, o5] g.lst
    simp -implicitDefEqProofs only [den__law_row_I2, sSeq_ap, sAsg_ap, sPar_ap, sRet_ap, sIf_ap, sExpr_ap, sNext_ap, bnd_ap, ret_ap, bindR_ok, thenR_ok, dVar_ap, varR_ok, seqR_nx, seqR_rt, asgR_ok, gNm_ap, gCn_ap, gcnR_ok, gNl_ap, gTp_fr, gTp_ap, gLs_ap, dCons_ap, dNil_ap, asB_ap, dOr_ap, dAnd_ap, dNot_ap, dAndV_ap, dOrV_ap, dNotV_ap, dIf_ap, oAdd_int, oSub_int, oLt_int, oLe_int, oGt_int, oGe_int, oNeg_int, oEq_int, oNe_int, oEq_fr, oNe_fr, oEq_bl, oNe_bl, oTup_ap, oLst_ap, oCall_ap, oAbs_ap, oMax_ap, oMin_ap, oToInt_b, oToInt_i, oLen_lst, oLen_scr, oLen_tup, oIx_lst, oIx_scr, oAdd_lst, oIx_tup, oIx_fr0, oIx_fr1, ixR_ok, oItL_ap, oItT_ap, sFor_ap, startD, List.map_cons, List.map_nil, List.length_cons, List.length_nil, List.replicate_succ, List.replicate_zero, List.cons_append, List.nil_append, List.append_nil, List.getElem?_cons_zero, List.getElem?_cons_succ, List.set_cons_zero, List.set_cons_succ, Nat.reduceAdd, Nat.reduceSub, Nat.sub_self, Nat.reduceLeDiff, List.all_cons, List.all_nil, np_fr, np_int, np_bl, np_tup, np_lst, np_str, np_non, Bool.and_self, Bool.and_true, if_true_, if_false_, zero_add', if_tt, if_ff, decide_true, decide_false, Nat.le_refl, oItS_lst, oItS_tup, oTupOf_lst, oTupOf_tup, oLstOf_lst, oLstOf_tup, oRv_lst, oRv_tup, oAdd_tup, dChain_ap, asTru_bl, asTru_tup, asTru_lst, oIsN_ap, oNotN_ap, asI_ap, oSl_tup, oSl_lst, oZip_tup, oZip_lst, oAddI_ap, oEqS_ap, oNeS_ap, oNe_nil, e1, List.isEmpty_nil, Bool.not_true, Bool.false_eq_true]
  · have hq : (!qs.isEmpty) = true := by cases qs <;> simp_all
    have e1 := oNeM_nil (qs := qs) [some (.ptr n), some (.ptr m), t, some (frQ q), o4, o5] g.lst
    obtain ⟨v1, M1, d1, a1, b1, t1⟩ := draw_eq (m := 4) g.has (by omega) (by decide) (small_lt _ (by decide) (by decide))
    have g1 := g.turn t1
    by_cases hv : v1 = 0
    · subst hv
      obtain ⟨v4, M4, d4, a4, b4, t4⟩ := draw_eq (m := (qs.length : Int)) t1.has (by omega) (by have : qs.length ≠ 0 := fun z => he (List.eq_nil_of_length_eq_zero z); omega) (small_lt _ (by omega) (by have := g.len; omega))
      have g4 := g1.turn t4
      obtain ⟨x, hx, ex⟩ := frs_at (qs := qs) a4 b4
      refine ⟨x, M4, ?_, ⟨g.row.dv x hx, (g.row.ab x hx).mono (by omega)⟩, t1.trans t4⟩
      simp -implicitDefEqProofs only [den__law_row_I2, sSeq_ap, sAsg_ap, sPar_ap, sRet_ap, sIf_ap, sExpr_ap, sNext_ap, bnd_ap, ret_ap, bindR_ok, thenR_ok, dVar_ap, varR_ok, seqR_nx, seqR_rt, asgR_ok, gNm_ap, gCn_ap, gcnR_ok, gNl_ap, gTp_fr, gTp_ap, gLs_ap, dCons_ap, dNil_ap, asB_ap, dOr_ap, dAnd_ap, dNot_ap, dAndV_ap, dOrV_ap, dNotV_ap, dIf_ap, oAdd_int, oSub_int, oLt_int, oLe_int, oGt_int, oGe_int, oNeg_int, oEq_int, oNe_int, oEq_fr, oNe_fr, oEq_bl, oNe_bl, oTup_ap, oLst_ap, oCall_ap, oAbs_ap, oMax_ap, oMin_ap, oToInt_b, oToInt_i, oLen_lst, oLen_scr, oLen_tup, oIx_lst, oIx_scr, oAdd_lst, oIx_tup, oIx_fr0, oIx_fr1, ixR_ok, oItL_ap, oItT_ap, sFor_ap, startD, List.map_cons, List.map_nil, List.length_cons, List.length_nil, List.replicate_succ, List.replicate_zero, List.cons_append, List.nil_append, List.append_nil, List.getElem?_cons_zero, List.getElem?_cons_succ, List.set_cons_zero, List.set_cons_succ, Nat.reduceAdd, Nat.reduceSub, Nat.sub_self, Nat.reduceLeDiff, List.all_cons, List.all_nil, np_fr, np_int, np_bl, np_tup, np_lst, np_str, np_non, Bool.and_self, Bool.and_true, if_true_, if_false_, zero_add', if_tt, if_ff, decide_true, decide_false, Nat.le_refl, oItS_lst, oItS_tup, oTupOf_lst, oTupOf_tup, oLstOf_lst, oLstOf_tup, oRv_lst, oRv_tup, oAdd_tup, dChain_ap, asTru_bl, asTru_tup, asTru_lst, oIsN_ap, oNotN_ap, asI_ap, oSl_tup, oSl_lst, oZip_tup, oZip_lst, oAddI_ap, oEqS_ap, oNeS_ap, oNe_nil, e1, hq, d1, oLen_ptr _ g1.lst, List.length_map, d4, oIx_ptr _ _ g4.lst, ex]
    · have hv2 : decide (v1 = 0) = false := decide_eq_false hv
      refine ⟨q, M1, ?_, h, t1.mono (by omega)⟩
      simp -implicitDefEqProofs only [den__law_row_I2, sSeq_ap, sAsg_ap, sPar_ap, sRet_ap, sIf_ap, sExpr_ap, sNext_ap, bnd_ap, ret_ap, bindR_ok, thenR_ok, dVar_ap, varR_ok, seqR_nx, seqR_rt, asgR_ok, gNm_ap, gCn_ap, gcnR_ok, gNl_ap, gTp_fr, gTp_ap, gLs_ap, dCons_ap, dNil_ap, asB_ap, dOr_ap, dAnd_ap, dNot_ap, dAndV_ap, dOrV_ap, dNotV_ap, dIf_ap, oAdd_int, oSub_int, oLt_int, oLe_int, oGt_int, oGe_int, oNeg_int, oEq_int, oNe_int, oEq_fr, oNe_fr, oEq_bl, oNe_bl, oTup_ap, oLst_ap, oCall_ap, oAbs_ap, oMax_ap, oMin_ap, oToInt_b, oToInt_i, oLen_lst, oLen_scr, oLen_tup, oIx_lst, oIx_scr, oAdd_lst, oIx_tup, oIx_fr0, oIx_fr1, ixR_ok, oItL_ap, oItT_ap, sFor_ap, startD, List.map_cons, List.map_nil, List.length_cons, List.length_nil, List.replicate_succ, List.replicate_zero, List.cons_append, List.nil_append, List.append_nil, List.getElem?_cons_zero, List.getElem?_cons_succ, List.set_cons_zero, List.set_cons_succ, Nat.reduceAdd, Nat.reduceSub, Nat.sub_self, Nat.reduceLeDiff, List.all_cons, List.all_nil, np_fr, np_int, np_bl, np_tup, np_lst, np_str, np_non, Bool.and_self, Bool.and_true, if_true_, if_false_, zero_add', if_tt, if_ff, decide_true, decide_false, Nat.le_refl, oItS_lst, oItS_tup, oTupOf_lst, oTupOf_tup, oLstOf_lst, oLstOf_tup, oRv_lst, oRv_tup, oAdd_tup, dChain_ap, asTru_bl, asTru_tup, asTru_lst, oIsN_ap, oNotN_ap, asI_ap, oSl_tup, oSl_lst, oZip_tup, oZip_lst, oAddI_ap, oEqS_ap, oNeS_ap, oNe_nil, e1, hq, d1, hv2, Bool.false_eq_true]
/-- one turn -/
theorem row_L1 {c n m : Nat} {qs : List Rat} {M : Mem} {t o3 o4 o5 : Option D} (g : Grow c n m qs M) (hc : c < 2 ^ 27) (l : qs.length < 50) : ∃ q o3' o4' o5' M', den__law_row_L1 [some (.ptr n), some (.ptr m), t, o3, o4, o5] M = some (.nx [some (.ptr n), some (.ptr m), t, o3', o4', o5'], M') ∧ Grow (c + 18) n m (qs ++ [q]) M' ∧ M'.length = M.length ∧ ∀ j, j ≠ n → j ≠ m → M'[j]? = M[j]? := by
  obtain ⟨q1, M1, e1, p1, a1, t1⟩ := pair_eq2 g.has (by omega)
  have g1 := g.turn t1
  obtain ⟨q2, o4', o5', M2, e2, n2, t2⟩ := row_I1 (t := t) (o4 := o4) (o5 := o5) g1 (by omega) ⟨p1, a1.mono (by omega)⟩
  have g2 := g1.turn t2
  obtain ⟨q3, M3, e3, n3, t3⟩ := row_I2 (t := t) (o4 := o4') (o5 := o5') g2 (by omega) n2
  have g3 := g2.turn t3
  have t13 := t1.trans (t2.trans t3)
  refine ⟨q3, some (frQ q3), o4', o5', M3.set m (some (qs.map frQ ++ [frQ q3])), ?_, g3.push n3 l, by rw [List.length_set, t13.len], fun j h1 h2 => by rw [List.getElem?_set_ne (Ne.symm h2), t13.oth j h1]⟩
  simp -implicitDefEqProofs only [den__law_row_L1, sSeq_ap, sAsg_ap, sPar_ap, sRet_ap, sIf_ap, sExpr_ap, sNext_ap, bnd_ap, ret_ap, bindR_ok, thenR_ok, dVar_ap, varR_ok, seqR_nx, seqR_rt, asgR_ok, gNm_ap, gCn_ap, gcnR_ok, gNl_ap, gTp_fr, gTp_ap, gLs_ap, dCons_ap, dNil_ap, asB_ap, dOr_ap, dAnd_ap, dNot_ap, dAndV_ap, dOrV_ap, dNotV_ap, dIf_ap, oAdd_int, oSub_int, oLt_int, oLe_int, oGt_int, oGe_int, oNeg_int, oEq_int, oNe_int, oEq_fr, oNe_fr, oEq_bl, oNe_bl, oTup_ap, oLst_ap, oCall_ap, oAbs_ap, oMax_ap, oMin_ap, oToInt_b, oToInt_i, oLen_lst, oLen_scr, oLen_tup, oIx_lst, oIx_scr, oAdd_lst, oIx_tup, oIx_fr0, oIx_fr1, ixR_ok, oItL_ap, oItT_ap, sFor_ap, startD, List.map_cons, List.map_nil, List.length_cons, List.length_nil, List.replicate_succ, List.replicate_zero, List.cons_append, List.nil_append, List.append_nil, List.getElem?_cons_zero, List.getElem?_cons_succ, List.set_cons_zero, List.set_cons_succ, Nat.reduceAdd, Nat.reduceSub, Nat.sub_self, Nat.reduceLeDiff, List.all_cons, List.all_nil, np_fr, np_int, np_bl, np_tup, np_lst, np_str, np_non, Bool.and_self, Bool.and_true, if_true_, if_false_, zero_add', if_tt, if_ff, decide_true, decide_false, Nat.le_refl, oItS_lst, oItS_tup, oTupOf_lst, oTupOf_tup, oLstOf_lst, oLstOf_tup, oRv_lst, oRv_tup, oAdd_tup, dChain_ap, asTru_bl, asTru_tup, asTru_lst, oIsN_ap, oNotN_ap, asI_ap, oSl_tup, oSl_lst, oZip_tup, oZip_lst, oAddI_ap, oEqS_ap, oNeS_ap, oNe_nil, e1, e2, e3, okPtr_ap _ g3.lst, oApp_ap _ g3.lst (np_fr q3) (show (qs.map frQ).length < 16777216 by rw [List.length_map]; omega)]
theorem row_loop {n m : Nat} : ∀ (ds : List D) (c : Nat) (qs : List Rat) (M : Mem) (o2 o3 o4 o5 : Option D), Grow c n m qs M → c + 18 * ds.length < 2 ^ 27 → qs.length + ds.length ≤ 50 → ∃ qs' o2' o3' o4' o5' M', forF (gNm 2) den__law_row_L1 ds [some (.ptr n), some (.ptr m), o2, o3, o4, o5] M = some (.nx [some (.ptr n), some (.ptr m), o2', o3', o4', o5'], M') ∧ Grow (c + 18 * ds.length) n m qs' M' ∧ qs'.length = qs.length + ds.length ∧ M'.length = M.length ∧ ∀ j, j ≠ n → j ≠ m → M'[j]? = M[j]?
  | [], c, qs, M, o2, o3, o4, o5, g, _, _ => ⟨qs, o2, o3, o4, o5, M, rfl, g, rfl, rfl, fun _ _ _ => rfl⟩
  | d :: ds, c, qs, M, o2, o3, o4, o5, g, hc, hl => by
    rw [List.length_cons] at hc hl
    obtain ⟨q, p3, p4, p5, M1, e1, g1, l1, s1⟩ := row_L1 (t := some d) (o3 := o3) (o4 := o4) (o5 := o5) g (by omega) (by omega)
    obtain ⟨qs', o2', o3', o4', o5', M', e2, g2, l2, l3, s2⟩ := row_loop ds (c + 18) (qs ++ [q]) M1 (some d) p3 p4 p5 g1 (by omega) (by rw [List.length_append]; simp; omega)
    refine ⟨qs', o2', o3', o4', o5', M', ?_, ?_, by rw [l2, List.length_append]; simp; omega, l3.trans l1, fun j a b => (s2 j a b).trans (s1 j a b)⟩
    · rw [forF_cons, gNm_ap, forB_ok, List.set_cons_succ, List.set_cons_succ, List.set_cons_zero, e1, ofR_nx]
      exact e2
    · have : c + 18 + 18 * ds.length = c + 18 * (ds.length + 1) := by omega
      rw [List.length_cons, ← this]
      exact g2
theorem row_eq {c n : Nat} {M : Mem} (hr : HasReel c n M) (hc : c < 2 ^ 26) : ∃ q qs M', F__law_row [.ptr n] M = some (.ok (.tup ((q :: qs).map frQ)), M') ∧ Row LL 1000050 (q :: qs) ∧ (q :: qs).length ≤ 40 ∧ Turned (c + 1000) n M M' := by
  have hn := hr.lt
  have g0 : Grow c n M.length [] (M ++ [some []]) := by
    refine ⟨?_, by rw [List.getElem?_append_right (Nat.le_refl _), Nat.sub_self]; rfl, Nat.ne_of_lt hn, ⟨fun q h => (by simp at h), fun q h => (by simp at h)⟩, by simp⟩
    obtain ⟨a, r, t, e, rest⟩ := hr
    exact ⟨a, r, t, by rw [List.getElem?_append_left hn]; exact e, rest⟩
  obtain ⟨v1, M1, d1, a1, b1, t1⟩ := draw_eq (m := 5) g0.has (by omega) (by decide) (small_lt _ (by decide) (by decide))
  have g1 := g0.turn t1
  have pick : ∃ w : Int, atI [D.int 12, .int 40] (if decide (v1 = 0) = true then 1 else 0) = some (.int w) ∧ 0 < w ∧ w ≤ 40 := by
    by_cases h : v1 = 0
    · exact ⟨40, by rw [decide_eq_true h]; rfl, by omega, by omega⟩
    · exact ⟨12, by rw [decide_eq_false h]; rfl, by omega, by omega⟩
  obtain ⟨w, ew, w0, w1⟩ := pick
  obtain ⟨v2, M2, d2, a2, b2, t2⟩ := draw_eq (m := w) t1.has (by omega) w0 (small_lt _ (by omega) (by omega))
  have g2 := g1.turn t2
  obtain ⟨qs', o2', o3', o4', o5', M3, e3, g3, l3, l4, s3⟩ := row_loop ((List.range (1 + v2).toNat).map fun (i : Nat) => D.int (i : Int)) (c + 1 + 1) [] M2 none none none none g2 (by simp; omega) (by simp; omega)
  have hl : qs'.length = (1 + v2).toNat := by rw [l3]; simp
  cases qs' with
  | nil => simp at hl; omega
  | cons q qs =>
    have lM : M3.length = M.length + 1 := by rw [l4, t2.len, t1.len]; simp
    refine ⟨q, qs, M3.take M.length, ?_, ⟨g3.row.dv, fun x hx => (g3.row.ab x hx).mono (by have := g3.len; omega)⟩, by rw [hl]; omega, by rw [List.length_take]; omega, fun j hj => ?_, ?_⟩
    · have := runF_rt (N := ["_law_reel_here", "_law_found", "_law_turn", "_law_one", "_law_near", "_law_other"]) (fb := den__law_row) (ds := [.ptr n]) (M := M) (M2 := M3) (d := .tup ((q :: qs).map frQ)) (by
        simp -implicitDefEqProofs only [den__law_row, sSeq_ap, sAsg_ap, sPar_ap, sRet_ap, sIf_ap, sExpr_ap, sNext_ap, bnd_ap, ret_ap, bindR_ok, thenR_ok, dVar_ap, varR_ok, seqR_nx, seqR_rt, asgR_ok, gNm_ap, gCn_ap, gcnR_ok, gNl_ap, gTp_fr, gTp_ap, gLs_ap, dCons_ap, dNil_ap, asB_ap, dOr_ap, dAnd_ap, dNot_ap, dAndV_ap, dOrV_ap, dNotV_ap, dIf_ap, oAdd_int, oSub_int, oLt_int, oLe_int, oGt_int, oGe_int, oNeg_int, oEq_int, oNe_int, oEq_fr, oNe_fr, oEq_bl, oNe_bl, oTup_ap, oLst_ap, oCall_ap, oAbs_ap, oMax_ap, oMin_ap, oToInt_b, oToInt_i, oLen_lst, oLen_scr, oLen_tup, oIx_lst, oIx_scr, oAdd_lst, oIx_tup, oIx_fr0, oIx_fr1, ixR_ok, oItL_ap, oItT_ap, sFor_ap, startD, List.map_cons, List.map_nil, List.length_cons, List.length_nil, List.replicate_succ, List.replicate_zero, List.cons_append, List.nil_append, List.append_nil, List.getElem?_cons_zero, List.getElem?_cons_succ, List.set_cons_zero, List.set_cons_succ, Nat.reduceAdd, Nat.reduceSub, Nat.sub_self, Nat.reduceLeDiff, List.all_cons, List.all_nil, np_fr, np_int, np_bl, np_tup, np_lst, np_str, np_non, Bool.and_self, Bool.and_true, if_true_, if_false_, zero_add', if_tt, if_ff, decide_true, decide_false, Nat.le_refl, oItS_lst, oItS_tup, oTupOf_lst, oTupOf_tup, oLstOf_lst, oLstOf_tup, oRv_lst, oRv_tup, oAdd_tup, dChain_ap, asTru_bl, asTru_tup, asTru_lst, oIsN_ap, oNotN_ap, asI_ap, oSl_tup, oSl_lst, oZip_tup, oZip_lst, oAddI_ap, oEqS_ap, oNeS_ap, oNe_nil, oNew_ap [] _ M rfl (by decide), d1, oToInt_b, ew, d2, oRng1_ap (1 + v2) _ _ (by omega) (by omega)]
        rw [e3]
        simp -implicitDefEqProofs only [sSeq_ap, sAsg_ap, sPar_ap, sRet_ap, sIf_ap, sExpr_ap, sNext_ap, bnd_ap, ret_ap, bindR_ok, thenR_ok, dVar_ap, varR_ok, seqR_nx, seqR_rt, asgR_ok, gNm_ap, gCn_ap, gcnR_ok, gNl_ap, gTp_fr, gTp_ap, gLs_ap, dCons_ap, dNil_ap, asB_ap, dOr_ap, dAnd_ap, dNot_ap, dAndV_ap, dOrV_ap, dNotV_ap, dIf_ap, oAdd_int, oSub_int, oLt_int, oLe_int, oGt_int, oGe_int, oNeg_int, oEq_int, oNe_int, oEq_fr, oNe_fr, oEq_bl, oNe_bl, oTup_ap, oLst_ap, oCall_ap, oAbs_ap, oMax_ap, oMin_ap, oToInt_b, oToInt_i, oLen_lst, oLen_scr, oLen_tup, oIx_lst, oIx_scr, oAdd_lst, oIx_tup, oIx_fr0, oIx_fr1, ixR_ok, oItL_ap, oItT_ap, sFor_ap, startD, List.map_cons, List.map_nil, List.length_cons, List.length_nil, List.replicate_succ, List.replicate_zero, List.cons_append, List.nil_append, List.append_nil, List.getElem?_cons_zero, List.getElem?_cons_succ, List.set_cons_zero, List.set_cons_succ, Nat.reduceAdd, Nat.reduceSub, Nat.sub_self, Nat.reduceLeDiff, List.all_cons, List.all_nil, np_fr, np_int, np_bl, np_tup, np_lst, np_str, np_non, Bool.and_self, Bool.and_true, if_true_, if_false_, zero_add', if_tt, if_ff, decide_true, decide_false, Nat.le_refl, oItS_lst, oItS_tup, oTupOf_lst, oTupOf_tup, oLstOf_lst, oLstOf_tup, oRv_lst, oRv_tup, oAdd_tup, dChain_ap, asTru_bl, asTru_tup, asTru_lst, oIsN_ap, oNotN_ap, asI_ap, oSl_tup, oSl_lst, oZip_tup, oZip_lst, oAddI_ap, oEqS_ap, oNeS_ap, oNe_nil, oTupOf_ptr _ g3.lst]) (by omega) rfl
      rw [F__law_row, this]
    · by_cases hj2 : j < M.length
      · rw [List.getElem?_take_of_lt hj2, s3 j hj (by omega), t2.oth j hj, t1.oth j hj, List.getElem?_append_left hj2]
      · rw [List.getElem?_eq_none (by rw [List.length_take]; omega), List.getElem?_eq_none (by omega)]
    · obtain ⟨a, r, t, e, h1, h2, h3, h4, h5⟩ := g3.has
      refine ⟨a, r, t, by rw [List.getElem?_take_of_lt hn]; exact e, h1, h2, h3, h4, ?_⟩
      simp -implicitDefEqProofs only [List.length_map, List.length_range] at h5
      omega
/-! a comprehension whose parts are pure -/
theorem lcGo_pf {b : Tg} {tt : Ev Bool} {te : Ev D} {n0 : Nat} {ρw : Env} {p : D → Bool} {g : D → D} : ∀ (ds : List D) (M : Mem) (acc : List D), (∀ d ∈ ds, ∃ ρ1, b d ρw = some ρ1 ∧ (∀ M, tt ρ1 M = some (.ok (p d), M)) ∧ (p d = true → (g d).np = true ∧ ∀ M, te ρ1 M = some (.ok (g d), M))) → M[n0]? = some (some acc) → acc.length + ds.length ≤ 100000 →
    ∃ M', lcGo b tt te n0 ρw ds M = some M' ∧ M' = M.set n0 (some (acc ++ (ds.filter p).map g))
  | [], M, acc, h, hM, hl => by
    refine ⟨M, rfl, ?_⟩
    have hn : n0 < M.length := by
      rcases Nat.lt_or_ge n0 M.length with q | q
      · exact q
      · rw [List.getElem?_eq_none q] at hM; cases hM
    rw [List.getElem?_eq_getElem hn] at hM
    have e := Option.some.inj hM
    rw [List.filter_nil, List.map_nil, List.append_nil, ← e]
    exact (List.set_getElem_self hn).symm
  | d :: ds, M, acc, h, hM, hl => by
    obtain ⟨ρ1, e1, e2, e3⟩ := h d (by simp)
    rw [List.length_cons] at hl
    have hn : n0 < M.length := by
      rcases Nat.lt_or_ge n0 M.length with q | q
      · exact q
      · rw [List.getElem?_eq_none q] at hM; cases hM
    cases hp : p d with
    | true =>
      obtain ⟨e4, e5⟩ := e3 hp
      obtain ⟨M', g1, g2⟩ := lcGo_pf (p := p) (g := g) ds (M.set n0 (some (acc ++ [g d]))) (acc ++ [g d]) (fun x hx => h x (by simp [hx])) (List.getElem?_set_self hn) (by simp; omega)
      refine ⟨M', ?_, ?_⟩
      · unfold lcGo
        rw [e1]
        dsimp only
        rw [e2, hp]
        dsimp only
        rw [e5]
        dsimp only
        rw [hM]
        dsimp only
        rw [if_pos ⟨e4, by omega⟩]
        exact g1
      · rw [g2, List.set_set, List.filter_cons_of_pos hp, List.map_cons, List.append_assoc]; rfl
    | false =>
      obtain ⟨M', g1, g2⟩ := lcGo_pf (p := p) (g := g) ds M acc (fun x hx => h x (by simp [hx])) hM (by omega)
      refine ⟨M', ?_, ?_⟩
      · unfold lcGo
        rw [e1]
        dsimp only
        rw [e2, hp]
        exact g1
      · rw [g2, List.filter_cons_of_neg (by simp [hp])]
theorem oLc_pf {b : Tg} {tt : Ev Bool} {te : Ev D} {ρ : Env} {vs : List Nat} {p : D → Bool} {g : D → D} {ds : List D} {M : Mem} (h : ∀ d ∈ ds, ∃ ρ1, b d (wipeD ρ vs) = some ρ1 ∧ (∀ M, tt ρ1 M = some (.ok (p d), M)) ∧ (p d = true → (g d).np = true ∧ ∀ M, te ρ1 M = some (.ok (g d), M))) (hl : ds.length ≤ 100000) : oLc b tt te vs ds ρ M = some (.ok (.lst ((ds.filter p).map g)), M) := by
  obtain ⟨M', g1, g2⟩ := lcGo_pf (n0 := M.length) ds (M ++ [some []]) [] h (by rw [List.getElem?_append_right (Nat.le_refl _), Nat.sub_self]; rfl) (by simpa using hl)
  unfold oLc
  rw [g1]
  dsimp only
  unfold lcEnd
  have e : M'[M.length]? = some (some ((ds.filter p).map g)) := by
    rw [g2, List.getElem?_set_self (by simp)]; simp
  rw [e]
  dsimp only
  have hl2 : M'.length = M.length + 1 := by rw [g2]; simp
  rw [if_pos hl2, g2, List.take_set_of_le (Nat.le_refl _), List.take_left]
theorem below_eq {x y : Rat} (hx : Bd 4000 x) (hy : Bd 4000 y) (M : Mem) : F__law_below [frQ x, frQ y] M = some (.ok (.bl (decide (x < y))), M) := by
  refine runF_pure ?_ rfl
  have k1 : MulOk x.num (y.den : Int) := MulOk.of (a := 4000) (b := 4000) hx.1 (den_nat_lt hy)
  have k2 : MulOk y.num (x.den : Int) := MulOk.of (a := 4000) (b := 4000) hy.1 (den_nat_lt hx)
  simp -implicitDefEqProofs only [den__law_below, sSeq_ap, sAsg_ap, sPar_ap, sRet_ap, sIf_ap, sExpr_ap, sNext_ap, bnd_ap, ret_ap, bindR_ok, thenR_ok, dVar_ap, varR_ok, seqR_nx, seqR_rt, asgR_ok, gNm_ap, gCn_ap, gcnR_ok, gNl_ap, gTp_fr, gTp_ap, gLs_ap, dCons_ap, dNil_ap, asB_ap, dOr_ap, dAnd_ap, dNot_ap, dAndV_ap, dOrV_ap, dNotV_ap, dIf_ap, oAdd_int, oSub_int, oLt_int, oLe_int, oGt_int, oGe_int, oNeg_int, oEq_int, oNe_int, oEq_fr, oNe_fr, oEq_bl, oNe_bl, oTup_ap, oLst_ap, oCall_ap, oAbs_ap, oMax_ap, oMin_ap, oToInt_b, oToInt_i, oLen_lst, oLen_scr, oLen_tup, oIx_lst, oIx_scr, oAdd_lst, oIx_tup, oIx_fr0, oIx_fr1, ixR_ok, oItL_ap, oItT_ap, sFor_ap, startD, List.map_cons, List.map_nil, List.length_cons, List.length_nil, List.replicate_succ, List.replicate_zero, List.cons_append, List.nil_append, List.append_nil, List.getElem?_cons_zero, List.getElem?_cons_succ, List.set_cons_zero, List.set_cons_succ, Nat.reduceAdd, Nat.reduceSub, Nat.sub_self, Nat.reduceLeDiff, List.all_cons, List.all_nil, np_fr, np_int, np_bl, np_tup, np_lst, np_str, np_non, Bool.and_self, Bool.and_true, if_true_, if_false_, zero_add', if_tt, if_ff, decide_true, decide_false, Nat.le_refl, oItS_lst, oItS_tup, oTupOf_lst, oTupOf_tup, oLstOf_lst, oLstOf_tup, oRv_lst, oRv_tup, oAdd_tup, dChain_ap, asTru_bl, asTru_tup, asTru_lst, oIsN_ap, oNotN_ap, asI_ap, oSl_tup, oSl_lst, oZip_tup, oZip_lst, oAddI_ap, oEqS_ap, oNeS_ap, oNe_nil, oMul_int k1, oMul_int k2, Rat.lt_iff]
theorem den_divOk {q : Rat} (h : Bd 4000 q) : DivOk (q.den : Int) := DivOk.of (b := 4000) (by have := q.den_pos; omega) (den_nat_lt h)
theorem floor_eq {q : Rat} (h : Bd 4000 q) (M : Mem) : F_floor [frQ q] M = some (.ok (.int (q.num.fdiv q.den)), M) := by
  refine runF_pure ?_ rfl
  simp -implicitDefEqProofs only [den_floor, sSeq_ap, sAsg_ap, sPar_ap, sRet_ap, sIf_ap, sExpr_ap, sNext_ap, bnd_ap, ret_ap, bindR_ok, thenR_ok, dVar_ap, varR_ok, seqR_nx, seqR_rt, asgR_ok, gNm_ap, gCn_ap, gcnR_ok, gNl_ap, gTp_fr, gTp_ap, gLs_ap, dCons_ap, dNil_ap, asB_ap, dOr_ap, dAnd_ap, dNot_ap, dAndV_ap, dOrV_ap, dNotV_ap, dIf_ap, oAdd_int, oSub_int, oLt_int, oLe_int, oGt_int, oGe_int, oNeg_int, oEq_int, oNe_int, oEq_fr, oNe_fr, oEq_bl, oNe_bl, oTup_ap, oLst_ap, oCall_ap, oAbs_ap, oMax_ap, oMin_ap, oToInt_b, oToInt_i, oLen_lst, oLen_scr, oLen_tup, oIx_lst, oIx_scr, oAdd_lst, oIx_tup, oIx_fr0, oIx_fr1, ixR_ok, oItL_ap, oItT_ap, sFor_ap, startD, List.map_cons, List.map_nil, List.length_cons, List.length_nil, List.replicate_succ, List.replicate_zero, List.cons_append, List.nil_append, List.append_nil, List.getElem?_cons_zero, List.getElem?_cons_succ, List.set_cons_zero, List.set_cons_succ, Nat.reduceAdd, Nat.reduceSub, Nat.sub_self, Nat.reduceLeDiff, List.all_cons, List.all_nil, np_fr, np_int, np_bl, np_tup, np_lst, np_str, np_non, Bool.and_self, Bool.and_true, if_true_, if_false_, zero_add', if_tt, if_ff, decide_true, decide_false, Nat.le_refl, oItS_lst, oItS_tup, oTupOf_lst, oTupOf_tup, oLstOf_lst, oLstOf_tup, oRv_lst, oRv_tup, oAdd_tup, dChain_ap, asTru_bl, asTru_tup, asTru_lst, oIsN_ap, oNotN_ap, asI_ap, oSl_tup, oSl_lst, oZip_tup, oZip_lst, oAddI_ap, oEqS_ap, oNeS_ap, oNe_nil, oDiv_int (den_divOk h)]
theorem isi_int_int (i : Int) (ρ : Env) (M : Mem) : oIsi (fun a => kitB a "int") (fun _ => none) (.int i) ρ M = some (.ok (.bl true), M) := rfl
theorem isi_int_bool (i : Int) (ρ : Env) (M : Mem) : oIsi (fun a => kitB a "bool") (fun _ => none) (.int i) ρ M = some (.ok (.bl false), M) := rfl
theorem floor_right_eq {q : Rat} (h : Bd 1900 q) (M : Mem) : F__law_floor_right [frQ q] M = some (.ok (.bl true), M) := by
  refine runF_pure ?_ rfl
  have h4 := h.mono (show 1900 ≤ 4000 by decide)
  have dp : (0 : Int) < q.den := by have := q.den_pos; omega
  have fl : (q.num.fdiv q.den) * (q.den : Int) ≤ q.num ∧ q.num < (q.num.fdiv q.den + 1) * (q.den : Int) := by
    have e := Int.mul_fdiv_add_fmod q.num (q.den : Int)
    have f1 := Int.fmod_nonneg_of_pos q.num dp
    have f2 := Int.fmod_lt_of_pos q.num dp
    rw [Int.add_mul, Int.one_mul, Int.mul_comm (q.num.fdiv q.den)]
    omega
  have lf : (q.num.fdiv q.den).natAbs < 2 ^ 2000 := by
    have e1 := fdiv_nat q.num q.den
    rw [e1]
    exact nat_lt_pow _ (Nat.lt_of_le_of_lt (Int.natAbs_ediv_le_natAbs _ _) h.1) (by decide)
  have lf1 : (q.num.fdiv q.den + 1).natAbs < 2 ^ 2001 := by
    have : (q.num.fdiv q.den + 1).natAbs ≤ (q.num.fdiv q.den).natAbs + 1 := Int.natAbs_add_le _ _
    rw [Nat.pow_succ]
    have : 0 < 2 ^ 2000 := Nat.two_pow_pos _
    omega
  have k1 : MulOk (q.num.fdiv q.den) (q.den : Int) := MulOk.of (a := 2000) (b := 4000) lf (den_nat_lt h4)
  have k2 : MulOk (q.num.fdiv q.den + 1) (q.den : Int) := MulOk.of (a := 2001) (b := 4000) lf1 (den_nat_lt h4)
  simp -implicitDefEqProofs only [den__law_floor_right, sSeq_ap, sAsg_ap, sPar_ap, sRet_ap, sIf_ap, sExpr_ap, sNext_ap, bnd_ap, ret_ap, bindR_ok, thenR_ok, dVar_ap, varR_ok, seqR_nx, seqR_rt, asgR_ok, gNm_ap, gCn_ap, gcnR_ok, gNl_ap, gTp_fr, gTp_ap, gLs_ap, dCons_ap, dNil_ap, asB_ap, dOr_ap, dAnd_ap, dNot_ap, dAndV_ap, dOrV_ap, dNotV_ap, dIf_ap, oAdd_int, oSub_int, oLt_int, oLe_int, oGt_int, oGe_int, oNeg_int, oEq_int, oNe_int, oEq_fr, oNe_fr, oEq_bl, oNe_bl, oTup_ap, oLst_ap, oCall_ap, oAbs_ap, oMax_ap, oMin_ap, oToInt_b, oToInt_i, oLen_lst, oLen_scr, oLen_tup, oIx_lst, oIx_scr, oAdd_lst, oIx_tup, oIx_fr0, oIx_fr1, ixR_ok, oItL_ap, oItT_ap, sFor_ap, startD, List.map_cons, List.map_nil, List.length_cons, List.length_nil, List.replicate_succ, List.replicate_zero, List.cons_append, List.nil_append, List.append_nil, List.getElem?_cons_zero, List.getElem?_cons_succ, List.set_cons_zero, List.set_cons_succ, Nat.reduceAdd, Nat.reduceSub, Nat.sub_self, Nat.reduceLeDiff, List.all_cons, List.all_nil, np_fr, np_int, np_bl, np_tup, np_lst, np_str, np_non, Bool.and_self, Bool.and_true, if_true_, if_false_, zero_add', if_tt, if_ff, decide_true, decide_false, Nat.le_refl, oItS_lst, oItS_tup, oTupOf_lst, oTupOf_tup, oLstOf_lst, oLstOf_tup, oRv_lst, oRv_tup, oAdd_tup, dChain_ap, asTru_bl, asTru_tup, asTru_lst, oIsN_ap, oNotN_ap, asI_ap, oSl_tup, oSl_lst, oZip_tup, oZip_lst, oAddI_ap, oEqS_ap, oNeS_ap, oNe_nil, floor_eq h4, isi_int_int, isi_int_bool, Bool.not_true, Bool.false_eq_true, oMul_int k1, oMul_int k2, decide_eq_true fl.1, decide_eq_true fl.2]
theorem divInt_add (s q : Rat) : Rat.divInt (s.num * (q.den : Int) + q.num * (s.den : Int)) ((s.den : Int) * (q.den : Int)) = s + q := by
  rw [← Rat.divInt_add_divInt _ _ (by have := s.den_pos; omega) (by have := q.den_pos; omega), Rat.num_divInt_den, Rat.num_divInt_den]
/-- the sum, reckoned by the law -/
theorem law_L1_loop {S K R W lo hi : D} {o5 : Option D} {B : Nat} (M : Mem) : ∀ (qs : List Rat) (s : Rat) (A : Nat) (o4 : Option D), s.den ∣ LL → Ab A s → Row LL B qs → A + B * qs.length < 2 ^ 90 →
    ∃ o4', forF (gNm 4) den_law_L1 (qs.map frQ) [some S, some K, some R, some W, o4, o5, some lo, some hi, some (.int s.num), some (.int (s.den : Int))] M = some (.nx [some S, some K, some R, some W, o4', o5, some lo, some hi, some (.int (s + sumR qs).num), some (.int ((s + sumR qs).den : Int))], M)
  | [], s, A, o4, _, _, _, _ => ⟨o4, by
    have e : s + sumR [] = s := Rat.add_zero s
    rw [e]; rfl⟩
  | q :: qs, s, A, o4, h1, h2, h3, h4 => by
    rw [List.length_cons, Nat.mul_succ] at h4
    have b1 : Bd 1890 s := bd_dv (j := 90) h1 LL_pos LL_lt h2 (by omega)
    have b2 : Bd 1890 q := bd_dv (j := 90) (h3.dv q (by simp)) LL_pos LL_lt (h3.ab q (by simp)) (by omega)
    have bs : Bd 4000 s := b1.mono (by decide)
    have bq : Bd 4000 q := b2.mono (by decide)
    obtain ⟨o4', e⟩ := law_L1_loop (S := S) (K := K) (R := R) (W := W) (lo := lo) (hi := hi) (o5 := o5) M qs (s + q) (A + B) (some (frQ q)) (dv_add h1 (h3.dv q (by simp))) (h2.add (h3.ab q (by simp))) h3.tail (by omega)
    refine ⟨o4', ?_⟩
    have e1 : s + sumR (q :: qs) = s + q + sumR qs := by
      show s + (q + sumR qs) = s + q + sumR qs
      rw [Rat.add_assoc]
    rw [e1, ← e, List.map_cons, forF_cons, gNm_ap, forB_ok]
    have k1 : MulOk s.num (q.den : Int) := MulOk.of (a := 4000) (b := 4000) bs.1 (den_nat_lt bq)
    have k2 : MulOk q.num (s.den : Int) := MulOk.of (a := 4000) (b := 4000) bq.1 (den_nat_lt bs)
    have k3 : MulOk (s.den : Int) (q.den : Int) := MulOk.of (a := 4000) (b := 4000) (den_nat_lt bs) (den_nat_lt bq)
    have dnz : (s.den : Int) * (q.den : Int) ≠ 0 := Int.mul_ne_zero (by have := s.den_pos; omega) (by have := q.den_pos; omega)
    have dlt : ((s.den : Int) * (q.den : Int)).natAbs < 2 ^ 4000 := by
      rw [Int.natAbs_mul, Int.natAbs_natCast, Int.natAbs_natCast]
      exact nat_lt_pow _ (mul_lt_pow b1.2 b2.2) (by decide)
    simp -implicitDefEqProofs only [den_law_L1, den_law_I3, sSeq_ap, sAsg_ap, sPar_ap, sRet_ap, sIf_ap, sExpr_ap, sNext_ap, bnd_ap, ret_ap, bindR_ok, thenR_ok, dVar_ap, varR_ok, seqR_nx, seqR_rt, asgR_ok, gNm_ap, gCn_ap, gcnR_ok, gNl_ap, gTp_fr, gTp_ap, gLs_ap, dCons_ap, dNil_ap, asB_ap, dOr_ap, dAnd_ap, dNot_ap, dAndV_ap, dOrV_ap, dNotV_ap, dIf_ap, oAdd_int, oSub_int, oLt_int, oLe_int, oGt_int, oGe_int, oNeg_int, oEq_int, oNe_int, oEq_fr, oNe_fr, oEq_bl, oNe_bl, oTup_ap, oLst_ap, oCall_ap, oAbs_ap, oMax_ap, oMin_ap, oToInt_b, oToInt_i, oLen_lst, oLen_scr, oLen_tup, oIx_lst, oIx_scr, oAdd_lst, oIx_tup, oIx_fr0, oIx_fr1, ixR_ok, oItL_ap, oItT_ap, sFor_ap, startD, List.map_cons, List.map_nil, List.length_cons, List.length_nil, List.replicate_succ, List.replicate_zero, List.cons_append, List.nil_append, List.append_nil, List.getElem?_cons_zero, List.getElem?_cons_succ, List.set_cons_zero, List.set_cons_succ, Nat.reduceAdd, Nat.reduceSub, Nat.sub_self, Nat.reduceLeDiff, List.all_cons, List.all_nil, np_fr, np_int, np_bl, np_tup, np_lst, np_str, np_non, Bool.and_self, Bool.and_true, if_true_, if_false_, zero_add', if_tt, if_ff, decide_true, decide_false, Nat.le_refl, oItS_lst, oItS_tup, oTupOf_lst, oTupOf_tup, oLstOf_lst, oLstOf_tup, oRv_lst, oRv_tup, oAdd_tup, dChain_ap, asTru_bl, asTru_tup, asTru_lst, oIsN_ap, oNotN_ap, asI_ap, oSl_tup, oSl_lst, oZip_tup, oZip_lst, oAddI_ap, oEqS_ap, oNeS_ap, oNe_nil, oMul_int k1, oMul_int k2, oMul_int k3, low_eq dnz dlt, divInt_add, floor_right_eq (b2.mono (show 1890 ≤ 1900 by decide)), Bool.not_true, Bool.false_eq_true, ofR_nx]
theorem min_uniq {qs ps : List Rat} {a b : Rat} (ha : a ∈ qs) (hb : b ∈ ps) (h1 : ∀ x ∈ qs, a ≤ x) (h2 : ∀ x ∈ ps, b ≤ x) (e : ∀ x, x ∈ qs ↔ x ∈ ps) : a = b := Rat.le_antisymm (h1 b ((e b).mpr hb)) (h2 a ((e a).mp ha))
theorem max_uniq {qs ps : List Rat} {a b : Rat} (ha : a ∈ qs) (hb : b ∈ ps) (h1 : ∀ x ∈ qs, x ≤ a) (h2 : ∀ x ∈ ps, x ≤ b) (e : ∀ x, x ∈ qs ↔ x ∈ ps) : a = b := Rat.le_antisymm (h2 a ((e a).mp ha)) (h1 b ((e b).mpr hb))
theorem minL_self (q : Rat) (qs : List Rat) : minL q (q :: qs) ∈ q :: qs ∧ ∀ x ∈ q :: qs, minL q (q :: qs) ≤ x := by
  refine ⟨?_, fun x hx => minL_le _ _ x (by simp [hx])⟩
  have := minL_mem (q :: qs) q
  simp -implicitDefEqProofs only [List.mem_cons] at this ⊢
  rcases this with h | h | h
  · exact .inl h
  · exact .inl h
  · exact .inr h
theorem maxL_self (q : Rat) (qs : List Rat) : maxL q (q :: qs) ∈ q :: qs ∧ ∀ x ∈ q :: qs, x ≤ maxL q (q :: qs) := by
  refine ⟨?_, fun x hx => maxL_le _ _ x (by simp [hx])⟩
  have := maxL_mem (q :: qs) q
  simp -implicitDefEqProofs only [List.mem_cons] at this ⊢
  rcases this with h | h | h
  · exact .inl h
  · exact .inl h
  · exact .inr h
theorem law_L2_eq {S K R W : D} {o4 : Option D} {q0 : Rat} {qs0 : List Rat} {q : Rat} {qs : List Rat} (hm : ∀ x, x ∈ q0 :: qs0 ↔ x ∈ q :: qs) (hsum : sumR (q :: qs) = sumR (q0 :: qs0)) (hrow : Row LL 1000050 (q :: qs)) (hl : (q :: qs).length ≤ 40) (M : Mem) :
    den_law_L2 [some S, some K, some R, some W, o4, some (.tup ((q :: qs).map frQ)), some (frQ (minL q0 (q0 :: qs0))), some (frQ (maxL q0 (q0 :: qs0))), some (.int (sumR (q0 :: qs0)).num), some (.int ((sumR (q0 :: qs0)).den : Int))] M = some (.nx [some S, some K, some R, some W, o4, some (.tup ((q :: qs).map frQ)), some (frQ (minL q0 (q0 :: qs0))), some (frQ (maxL q0 (q0 :: qs0))), some (.int (sumR (q0 :: qs0)).num), some (.int ((sumR (q0 :: qs0)).den : Int))], M) := by
  have bd := hrow.bd LL_pos LL_lt (by decide)
  have bd4 : ∀ x ∈ q :: qs, Bd 4000 x := fun x hx => (bd x hx).mono (by decide)
  have hB : 1000050 * (q :: qs).length < 2 ^ 90 := Nat.lt_of_le_of_lt (Nat.mul_le_mul_left _ hl) (by decide)
  have bs : Bd 1900 (sumR (q :: qs)) := (bd_dv (j := 90) (dv_sum hrow.dv) LL_pos LL_lt (ab_sum hrow.ab) hB).mono (by decide)
  have e1 := fun M => summed_tup hrow LL_pos LL_lt hB M
  have e2 := fun M => least_eq bd4 M
  have e3 := fun M => greatest_eq bd4 M
  have m1 : minL q (q :: qs) = minL q0 (q0 :: qs0) := min_uniq (minL_self q qs).1 (minL_self q0 qs0).1 (minL_self q qs).2 (minL_self q0 qs0).2 fun x => (hm x).symm
  have m2 : maxL q (q :: qs) = maxL q0 (q0 :: qs0) := max_uniq (maxL_self q qs).1 (maxL_self q0 qs0).1 (maxL_self q qs).2 (maxL_self q0 qs0).2 fun x => (hm x).symm
  rw [hsum] at bs e1
  rw [m1] at e2
  rw [m2] at e3
  have r1 := fun ρ M => oReprD_ap (Sh.fr bs) (by decide) (by decide) ρ M
  have u : D.tup [.int (sumR (q0 :: qs0)).num, .int ((sumR (q0 :: qs0)).den : Int)] = frQ (sumR (q0 :: qs0)) := rfl
  generalize (q :: qs).map frQ = WW at e1 e2 e3 ⊢
  simp -implicitDefEqProofs only [den_law_L2, den_law_I4, den_law_I5, sSeq_ap, sAsg_ap, sPar_ap, sRet_ap, sIf_ap, sExpr_ap, sNext_ap, bnd_ap, ret_ap, bindR_ok, thenR_ok, dVar_ap, varR_ok, seqR_nx, seqR_rt, asgR_ok, gNm_ap, gCn_ap, gcnR_ok, gNl_ap, gTp_fr, gTp_ap, gLs_ap, dCons_ap, dNil_ap, asB_ap, dOr_ap, dAnd_ap, dNot_ap, dAndV_ap, dOrV_ap, dNotV_ap, dIf_ap, oAdd_int, oSub_int, oLt_int, oLe_int, oGt_int, oGe_int, oNeg_int, oEq_int, oNe_int, oEq_fr, oNe_fr, oEq_bl, oNe_bl, oTup_ap, oLst_ap, oCall_ap, oAbs_ap, oMax_ap, oMin_ap, oToInt_b, oToInt_i, oLen_lst, oLen_scr, oLen_tup, oIx_lst, oIx_scr, oAdd_lst, oIx_tup, oIx_fr0, oIx_fr1, ixR_ok, oItL_ap, oItT_ap, sFor_ap, startD, List.map_cons, List.map_nil, List.length_cons, List.length_nil, List.replicate_succ, List.replicate_zero, List.cons_append, List.nil_append, List.append_nil, List.getElem?_cons_zero, List.getElem?_cons_succ, List.set_cons_zero, List.set_cons_succ, Nat.reduceAdd, Nat.reduceSub, Nat.sub_self, Nat.reduceLeDiff, List.all_cons, List.all_nil, np_fr, np_int, np_bl, np_tup, np_lst, np_str, np_non, Bool.and_self, Bool.and_true, if_true_, if_false_, zero_add', if_tt, if_ff, decide_true, decide_false, Nat.le_refl, oItS_lst, oItS_tup, oTupOf_lst, oTupOf_tup, oLstOf_lst, oLstOf_tup, oRv_lst, oRv_tup, oAdd_tup, dChain_ap, asTru_bl, asTru_tup, asTru_lst, oIsN_ap, oNotN_ap, asI_ap, oSl_tup, oSl_lst, oZip_tup, oZip_lst, oAddI_ap, oEqS_ap, oNeS_ap, oNe_nil, e1, r1, u, e2, e3, Bool.not_true, Bool.false_eq_true]

theorem filter_none {α : Type} {p : α → Bool} : ∀ {l : List α}, (∀ x ∈ l, p x = false) → l.filter p = []
  | [], _ => rfl
  | x :: l, h => by rw [List.filter_cons_of_neg (by simp [h x (by simp)]), filter_none fun y hy => h y (by simp [hy])]
/-- none of the row is less than the least, greater than the greatest -/
theorem law_I2_eq {S K R : D} {o4 o5 : Option D} {row : List Rat} {lo hi : Rat} (bd : ∀ x ∈ row, Bd 4000 x) (hlo : lo ∈ row) (hhi : hi ∈ row) (h1 : ∀ x ∈ row, lo ≤ x) (h2 : ∀ x ∈ row, x ≤ hi) (hl : row.length ≤ 40) (o8 o9 : Option D) (M : Mem) :
    den_law_I2 [some S, some K, some R, some (.tup (row.map frQ)), o4, o5, some (frQ lo), some (frQ hi), o8, o9] M = some (.nx [some S, some K, some R, some (.tup (row.map frQ)), o4, o5, some (frQ lo), some (frQ hi), o8, o9], M) := by
  have e : ∀ M, oLc (gNm 4) (dOr (bnd (bnd (dCons (dVar 4) (dCons (dVar 6) dNil)) (oCall 2 F__law_below)) asB) (bnd (bnd (dCons (dVar 7) (dCons (dVar 4) dNil)) (oCall 2 F__law_below)) asB)) (dVar 4) [4] (row.map frQ) [some S, some K, some R, some (.tup (row.map frQ)), o4, o5, some (frQ lo), some (frQ hi), o8, o9] M = some (.ok (.lst []), M) := by
    intro M
    rw [oLc_pf (p := fun _ => false) (g := fun d => d) (fun d hd => ?_) (by simp; omega)]
    · rw [filter_none fun _ _ => rfl]; rfl
    · obtain ⟨x, hx, rfl⟩ := List.mem_map.mp hd
      have n1 : decide (x < lo) = false := decide_eq_false (Rat.not_lt.mpr (h1 x hx))
      have n2 : decide (hi < x) = false := decide_eq_false (Rat.not_lt.mpr (h2 x hx))
      refine ⟨[some S, some K, some R, some (.tup (row.map frQ)), some (frQ x), o5, some (frQ lo), some (frQ hi), o8, o9], rfl, fun M => ?_, fun z => (by cases z)⟩
      simp -implicitDefEqProofs only [sSeq_ap, sAsg_ap, sPar_ap, sRet_ap, sIf_ap, sExpr_ap, sNext_ap, bnd_ap, ret_ap, bindR_ok, thenR_ok, dVar_ap, varR_ok, seqR_nx, seqR_rt, asgR_ok, gNm_ap, gCn_ap, gcnR_ok, gNl_ap, gTp_fr, gTp_ap, gLs_ap, dCons_ap, dNil_ap, asB_ap, dOr_ap, dAnd_ap, dNot_ap, dAndV_ap, dOrV_ap, dNotV_ap, dIf_ap, oAdd_int, oSub_int, oLt_int, oLe_int, oGt_int, oGe_int, oNeg_int, oEq_int, oNe_int, oEq_fr, oNe_fr, oEq_bl, oNe_bl, oTup_ap, oLst_ap, oCall_ap, oAbs_ap, oMax_ap, oMin_ap, oToInt_b, oToInt_i, oLen_lst, oLen_scr, oLen_tup, oIx_lst, oIx_scr, oAdd_lst, oIx_tup, oIx_fr0, oIx_fr1, ixR_ok, oItL_ap, oItT_ap, sFor_ap, startD, List.map_cons, List.map_nil, List.length_cons, List.length_nil, List.replicate_succ, List.replicate_zero, List.cons_append, List.nil_append, List.append_nil, List.getElem?_cons_zero, List.getElem?_cons_succ, List.set_cons_zero, List.set_cons_succ, Nat.reduceAdd, Nat.reduceSub, Nat.sub_self, Nat.reduceLeDiff, List.all_cons, List.all_nil, np_fr, np_int, np_bl, np_tup, np_lst, np_str, np_non, Bool.and_self, Bool.and_true, if_true_, if_false_, zero_add', if_tt, if_ff, decide_true, decide_false, Nat.le_refl, oItS_lst, oItS_tup, oTupOf_lst, oTupOf_tup, oLstOf_lst, oLstOf_tup, oRv_lst, oRv_tup, oAdd_tup, dChain_ap, asTru_bl, asTru_tup, asTru_lst, oIsN_ap, oNotN_ap, asI_ap, oSl_tup, oSl_lst, oZip_tup, oZip_lst, oAddI_ap, oEqS_ap, oNeS_ap, oNe_nil, below_eq (bd x hx) (bd lo hlo), below_eq (bd hi hhi) (bd x hx), n1, n2, Bool.false_eq_true]
  generalize row.map frQ = WW at e ⊢
  simp -implicitDefEqProofs only [den_law_I2, sSeq_ap, sAsg_ap, sPar_ap, sRet_ap, sIf_ap, sExpr_ap, sNext_ap, bnd_ap, ret_ap, bindR_ok, thenR_ok, dVar_ap, varR_ok, seqR_nx, seqR_rt, asgR_ok, gNm_ap, gCn_ap, gcnR_ok, gNl_ap, gTp_fr, gTp_ap, gLs_ap, dCons_ap, dNil_ap, asB_ap, dOr_ap, dAnd_ap, dNot_ap, dAndV_ap, dOrV_ap, dNotV_ap, dIf_ap, oAdd_int, oSub_int, oLt_int, oLe_int, oGt_int, oGe_int, oNeg_int, oEq_int, oNe_int, oEq_fr, oNe_fr, oEq_bl, oNe_bl, oTup_ap, oLst_ap, oCall_ap, oAbs_ap, oMax_ap, oMin_ap, oToInt_b, oToInt_i, oLen_lst, oLen_scr, oLen_tup, oIx_lst, oIx_scr, oAdd_lst, oIx_tup, oIx_fr0, oIx_fr1, ixR_ok, oItL_ap, oItT_ap, sFor_ap, startD, List.map_cons, List.map_nil, List.length_cons, List.length_nil, List.replicate_succ, List.replicate_zero, List.cons_append, List.nil_append, List.append_nil, List.getElem?_cons_zero, List.getElem?_cons_succ, List.set_cons_zero, List.set_cons_succ, Nat.reduceAdd, Nat.reduceSub, Nat.sub_self, Nat.reduceLeDiff, List.all_cons, List.all_nil, np_fr, np_int, np_bl, np_tup, np_lst, np_str, np_non, Bool.and_self, Bool.and_true, if_true_, if_false_, zero_add', if_tt, if_ff, decide_true, decide_false, Nat.le_refl, oItS_lst, oItS_tup, oTupOf_lst, oTupOf_tup, oLstOf_lst, oLstOf_tup, oRv_lst, oRv_tup, oAdd_tup, dChain_ap, asTru_bl, asTru_tup, asTru_lst, oIsN_ap, oNotN_ap, asI_ap, oSl_tup, oSl_lst, oZip_tup, oZip_lst, oAddI_ap, oEqS_ap, oNeS_ap, oNe_nil, e, Bool.false_eq_true]
theorem any_self {q : Rat} {row : List Rat} (h : q ∈ row) : row.any (fun z => decide (z = q)) = true := List.any_eq_true.mpr ⟨q, h, decide_eq_true rfl⟩
theorem law_I1_eq {S K R : D} {o4 o5 : Option D} {row : List Rat} {lo hi : Rat} (hlo : lo ∈ row) (hhi : hi ∈ row) (o8 o9 : Option D) (M : Mem) :
    den_law_I1 [some S, some K, some R, some (.tup (row.map frQ)), o4, o5, some (frQ lo), some (frQ hi), o8, o9] M = some (.nx [some S, some K, some R, some (.tup (row.map frQ)), o4, o5, some (frQ lo), some (frQ hi), o8, o9], M) := by
  have e1 := fun ρ M => oInD_frs true lo row ρ M
  have e2 := fun ρ M => oInD_frs true hi row ρ M
  rw [any_self hlo] at e1
  rw [any_self hhi] at e2
  generalize row.map frQ = WW at e1 e2 ⊢
  simp -implicitDefEqProofs only [den_law_I1, sSeq_ap, sAsg_ap, sPar_ap, sRet_ap, sIf_ap, sExpr_ap, sNext_ap, bnd_ap, ret_ap, bindR_ok, thenR_ok, dVar_ap, varR_ok, seqR_nx, seqR_rt, asgR_ok, gNm_ap, gCn_ap, gcnR_ok, gNl_ap, gTp_fr, gTp_ap, gLs_ap, dCons_ap, dNil_ap, asB_ap, dOr_ap, dAnd_ap, dNot_ap, dAndV_ap, dOrV_ap, dNotV_ap, dIf_ap, oAdd_int, oSub_int, oLt_int, oLe_int, oGt_int, oGe_int, oNeg_int, oEq_int, oNe_int, oEq_fr, oNe_fr, oEq_bl, oNe_bl, oTup_ap, oLst_ap, oCall_ap, oAbs_ap, oMax_ap, oMin_ap, oToInt_b, oToInt_i, oLen_lst, oLen_scr, oLen_tup, oIx_lst, oIx_scr, oAdd_lst, oIx_tup, oIx_fr0, oIx_fr1, ixR_ok, oItL_ap, oItT_ap, sFor_ap, startD, List.map_cons, List.map_nil, List.length_cons, List.length_nil, List.replicate_succ, List.replicate_zero, List.cons_append, List.nil_append, List.append_nil, List.getElem?_cons_zero, List.getElem?_cons_succ, List.set_cons_zero, List.set_cons_succ, Nat.reduceAdd, Nat.reduceSub, Nat.sub_self, Nat.reduceLeDiff, List.all_cons, List.all_nil, np_fr, np_int, np_bl, np_tup, np_lst, np_str, np_non, Bool.and_self, Bool.and_true, if_true_, if_false_, zero_add', if_tt, if_ff, decide_true, decide_false, Nat.le_refl, oItS_lst, oItS_tup, oTupOf_lst, oTupOf_tup, oLstOf_lst, oLstOf_tup, oRv_lst, oRv_tup, oAdd_tup, dChain_ap, asTru_bl, asTru_tup, asTru_lst, oIsN_ap, oNotN_ap, asI_ap, oSl_tup, oSl_lst, oZip_tup, oZip_lst, oAddI_ap, oEqS_ap, oNeS_ap, oNe_nil, e1, e2, Bool.not_true, Bool.false_eq_true]
/-- one cell -/
theorem law_L3_eq (ns : List Int) (k : Nat) (hk : k < 64) {o2 o3 o4 o5 o6 o7 o8 o9 : Option D} (M : Mem) : ∃ p2 p3 p4 p5 p6 p7 p8 p9 M', den_law_L3 [some (.scr (ns.map D.int)), some (.int (k : Int)), o2, o3, o4, o5, o6, o7, o8, o9] M = some (.nx [some (.scr (ns.map D.int)), some (.int (k : Int)), p2, p3, p4, p5, p6, p7, p8, p9], M') := by
  obtain ⟨M1, e1, l1, s1, r1⟩ := reel_eq ns k hk M
  obtain ⟨q, qs, M2, e2, row, hl, t2⟩ := row_eq r1 (by decide)
  have bd := row.bd LL_pos LL_lt (by decide)
  have bd4 : ∀ x ∈ q :: qs, Bd 4000 x := fun x hx => (bd x hx).mono (by decide)
  have e3 := fun M => least_eq bd4 M
  have e4 := fun M => greatest_eq bd4 M
  obtain ⟨m1, m2⟩ := minL_self q qs
  obtain ⟨m3, m4⟩ := maxL_self q qs
  have hB : 1000050 * (q :: qs).length < 2 ^ 90 := Nat.lt_of_le_of_lt (Nat.mul_le_mul_left _ hl) (by decide)
  have e5 := law_I1_eq (S := .scr (ns.map D.int)) (K := .int (k : Int)) (R := .ptr M.length) (o4 := o4) (o5 := o5) m1 m3 o8 o9 M2
  have e6 := law_I2_eq (S := .scr (ns.map D.int)) (K := .int (k : Int)) (R := .ptr M.length) (o4 := o4) (o5 := o5) bd4 m1 m3 m2 m4 hl o8 o9 M2
  obtain ⟨o4', e7⟩ := law_L1_loop (S := .scr (ns.map D.int)) (K := .int (k : Int)) (R := .ptr M.length) (W := .tup ((q :: qs).map frQ)) (lo := frQ (minL q (q :: qs))) (hi := frQ (maxL q (q :: qs))) (o5 := o5) M2 (q :: qs) 0 0 o4 dv_zero ab_zero row (by rw [Nat.zero_add]; exact hB)
  rw [Rat.zero_add] at e7
  have z1 : (0 : Rat).num = 0 := rfl
  have z2 : ((0 : Rat).den : Int) = 1 := rfl
  rw [z1, z2] at e7
  have e8 := law_L2_eq (S := .scr (ns.map D.int)) (K := .int (k : Int)) (R := .ptr M.length) (W := .tup ((q :: qs).map frQ)) (o4 := o4') (q0 := q) (qs0 := qs) (fun x => Iff.rfl) rfl row hl M2
  obtain ⟨q', qs', er⟩ : ∃ q' qs', (q :: qs).reverse = q' :: qs' := by
    cases h : (q :: qs).reverse with
    | nil => simp at h
    | cons a b => exact ⟨a, b, rfl⟩
  have e9 := law_L2_eq (S := .scr (ns.map D.int)) (K := .int (k : Int)) (R := .ptr M.length) (W := .tup ((q :: qs).map frQ)) (o4 := o4') (q0 := q) (qs0 := qs) (q := q') (qs := qs') (fun x => by rw [← er, List.mem_reverse]) (by rw [← er, sumR_reverse]) (by rw [← er]; exact row.reverse) (by rw [← er, List.length_reverse]; exact hl) M2
  rw [← er, List.map_reverse] at e9
  refine ⟨some (.ptr M.length), some (.tup ((q :: qs).map frQ)), o4', some (.tup ((q :: qs).map frQ).reverse), some (frQ (minL q (q :: qs))), some (frQ (maxL q (q :: qs))), some (.int (sumR (q :: qs)).num), some (.int ((sumR (q :: qs)).den : Int)), M2, ?_⟩
  generalize (q :: qs).map frQ = WW at e2 e3 e4 e5 e6 e7 e8 e9 ⊢
  simp -implicitDefEqProofs only [den_law_L3, sSeq_ap, sAsg_ap, sPar_ap, sRet_ap, sIf_ap, sExpr_ap, sNext_ap, bnd_ap, ret_ap, bindR_ok, thenR_ok, dVar_ap, varR_ok, seqR_nx, seqR_rt, asgR_ok, gNm_ap, gCn_ap, gcnR_ok, gNl_ap, gTp_fr, gTp_ap, gLs_ap, dCons_ap, dNil_ap, asB_ap, dOr_ap, dAnd_ap, dNot_ap, dAndV_ap, dOrV_ap, dNotV_ap, dIf_ap, oAdd_int, oSub_int, oLt_int, oLe_int, oGt_int, oGe_int, oNeg_int, oEq_int, oNe_int, oEq_fr, oNe_fr, oEq_bl, oNe_bl, oTup_ap, oLst_ap, oCall_ap, oAbs_ap, oMax_ap, oMin_ap, oToInt_b, oToInt_i, oLen_lst, oLen_scr, oLen_tup, oIx_lst, oIx_scr, oAdd_lst, oIx_tup, oIx_fr0, oIx_fr1, ixR_ok, oItL_ap, oItT_ap, sFor_ap, startD, List.map_cons, List.map_nil, List.length_cons, List.length_nil, List.replicate_succ, List.replicate_zero, List.cons_append, List.nil_append, List.append_nil, List.getElem?_cons_zero, List.getElem?_cons_succ, List.set_cons_zero, List.set_cons_succ, Nat.reduceAdd, Nat.reduceSub, Nat.sub_self, Nat.reduceLeDiff, List.all_cons, List.all_nil, np_fr, np_int, np_bl, np_tup, np_lst, np_str, np_non, Bool.and_self, Bool.and_true, if_true_, if_false_, zero_add', if_tt, if_ff, decide_true, decide_false, Nat.le_refl, oItS_lst, oItS_tup, oTupOf_lst, oTupOf_tup, oLstOf_lst, oLstOf_tup, oRv_lst, oRv_tup, oAdd_tup, dChain_ap, asTru_bl, asTru_tup, asTru_lst, oIsN_ap, oNotN_ap, asI_ap, oSl_tup, oSl_lst, oZip_tup, oZip_lst, oAddI_ap, oEqS_ap, oNeS_ap, oNe_nil, e1, e2, e3, e4, e5, e6, e7, forF_cons, forF_nil, forB_ok, e8, e9, ofR_nx]
theorem law_loop (ns : List Int) : ∀ (ks : List Nat) (M : Mem) (o1 o2 o3 o4 o5 o6 o7 o8 o9 : Option D), (∀ k ∈ ks, k < 64) → ∃ p1 p2 p3 p4 p5 p6 p7 p8 p9 M', forF (gNm 1) den_law_L3 (ks.map fun (i : Nat) => D.int (i : Int)) [some (.scr (ns.map D.int)), o1, o2, o3, o4, o5, o6, o7, o8, o9] M = some (.nx [some (.scr (ns.map D.int)), p1, p2, p3, p4, p5, p6, p7, p8, p9], M')
  | [], M, o1, o2, o3, o4, o5, o6, o7, o8, o9, _ => ⟨o1, o2, o3, o4, o5, o6, o7, o8, o9, M, rfl⟩
  | k :: ks, M, o1, o2, o3, o4, o5, o6, o7, o8, o9, h => by
    obtain ⟨p2, p3, p4, p5, p6, p7, p8, p9, M1, e1⟩ := law_L3_eq ns k (h k (by simp)) (o2 := o2) (o3 := o3) (o4 := o4) (o5 := o5) (o6 := o6) (o7 := o7) (o8 := o8) (o9 := o9) M
    obtain ⟨r1, r2, r3, r4, r5, r6, r7, r8, r9, M2, e2⟩ := law_loop ns ks M1 (some (.int (k : Int))) p2 p3 p4 p5 p6 p7 p8 p9 fun x hx => h x (by simp [hx])
    refine ⟨r1, r2, r3, r4, r5, r6, r7, r8, r9, M2, ?_⟩
    rw [List.map_cons, forF_cons, gNm_ap, forB_ok, List.set_cons_succ, List.set_cons_zero, e1, ofR_nx]
    exact e2
theorem row_nil : Row LL 1 [] := ⟨fun q h => (by simp at h), fun q h => (by simp at h)⟩
theorem half_eq (M : Mem) : F_floor [.tup [.int (-1), .int 2]] M = some (.ok (.int (-1)), M) := by
  have h : D.tup [.int (-1), .int 2] = frQ ⟨-1, 2, by decide, by decide⟩ := rfl
  rw [h, floor_eq ⟨Nat.lt_of_lt_of_le (show 1 < 2 ^ 2 by decide) (Nat.pow_le_pow_right (by decide) (by decide)), Nat.lt_of_lt_of_le (show 2 < 2 ^ 2 by decide) (Nat.pow_le_pow_right (by decide) (by decide))⟩]
  rfl
theorem law_true : ∀ ns : List Int, ns.length ≤ 63 → ∃ M', F_law [.scr (ns.map D.int)] [] = some (.ok (.bl true), M') := by
  intro ns hl
  have hm : ∃ N : Nat, (if (if (ns.length : Int) < 63 then (ns.length : Int) else 63) > 2 then (if (ns.length : Int) < 63 then (ns.length : Int) else 63) else 2) = (N : Int) ∧ N ≤ 63 := by
    refine ⟨max 2 (min 63 ns.length), ?_, by omega⟩
    split <;> split <;> omega
  obtain ⟨N, eN, hN⟩ := hm
  obtain ⟨p1, p2, p3, p4, p5, p6, p7, p8, p9, M', e⟩ := law_loop ns (List.range N) [] none none none none none none none none none (by
    intro k hk
    have := List.mem_range.mp hk
    omega)
  have e0 := fun M => summed_tup row_nil LL_pos LL_lt (by decide) M
  have s0 : sumR [] = 0 := rfl
  rw [s0, List.map_nil] at e0
  have u1 : D.tup [.int 0, .int 1] = frQ 0 := rfl
  have k := oRng1_ap (N : Int) [some (.scr (ns.map D.int)), none, none, none, none, none, none, none, none, none] [] (by omega) (by omega)
  rw [Int.toNat_natCast] at k
  refine ⟨M'.take 0, ?_⟩
  have := runF_rt (N := ["_law_script", "_law_k", "_law_reel_here", "_law_some", "_law_one", "_law_row_here", "_law_low_here", "_law_high", "_law_top", "_law_bottom"]) (fb := den_law) (ds := [.scr (ns.map D.int)]) (M := []) (M2 := M') (d := .bl true) (by
    simp -implicitDefEqProofs only [den_law, sSeq_ap, sAsg_ap, sPar_ap, sRet_ap, sIf_ap, sExpr_ap, sNext_ap, bnd_ap, ret_ap, bindR_ok, thenR_ok, dVar_ap, varR_ok, seqR_nx, seqR_rt, asgR_ok, gNm_ap, gCn_ap, gcnR_ok, gNl_ap, gTp_fr, gTp_ap, gLs_ap, dCons_ap, dNil_ap, asB_ap, dOr_ap, dAnd_ap, dNot_ap, dAndV_ap, dOrV_ap, dNotV_ap, dIf_ap, oAdd_int, oSub_int, oLt_int, oLe_int, oGt_int, oGe_int, oNeg_int, oEq_int, oNe_int, oEq_fr, oNe_fr, oEq_bl, oNe_bl, oTup_ap, oLst_ap, oCall_ap, oAbs_ap, oMax_ap, oMin_ap, oToInt_b, oToInt_i, oLen_lst, oLen_scr, oLen_tup, oIx_lst, oIx_scr, oAdd_lst, oIx_tup, oIx_fr0, oIx_fr1, ixR_ok, oItL_ap, oItT_ap, sFor_ap, startD, List.map_cons, List.map_nil, List.length_cons, List.length_nil, List.replicate_succ, List.replicate_zero, List.cons_append, List.nil_append, List.append_nil, List.getElem?_cons_zero, List.getElem?_cons_succ, List.set_cons_zero, List.set_cons_succ, Nat.reduceAdd, Nat.reduceSub, Nat.sub_self, Nat.reduceLeDiff, List.all_cons, List.all_nil, np_fr, np_int, np_bl, np_tup, np_lst, np_str, np_non, Bool.and_self, Bool.and_true, if_true_, if_false_, zero_add', if_tt, if_ff, decide_true, decide_false, Nat.le_refl, oItS_lst, oItS_tup, oTupOf_lst, oTupOf_tup, oLstOf_lst, oLstOf_tup, oRv_lst, oRv_tup, oAdd_tup, dChain_ap, asTru_bl, asTru_tup, asTru_lst, oIsN_ap, oNotN_ap, asI_ap, oSl_tup, oSl_lst, oZip_tup, oZip_lst, oAddI_ap, oEqS_ap, oNeS_ap, oNe_nil, List.length_map, eN, k, e, e0, u1, half_eq]) (by simp) rfl
  rw [F_law, this]
  rfl
end Bw
open PySem PySem.W PyProof.Rows
set_option maxRecDepth 100000 in
set_option maxHeartbeats 0 in
theorem PySem.Challenge.cw_brineways_k05_rows_of_fractions_holds : PySem.Challenge.rw_brineways_k05_rows_of_fractions.Holds := by
  w_on; o_law; k_head; (case hw => w_witness2)
  k_fill
  refine Bw.walkG (l := PySem.Challenge.rw_brineways_k05_rows_of_fractions) (n := 63) (k := 5) (x := "_law_script") (sp := fun w => Bw.spL _ 1 Bw.F_law) rfl (by decide) rfl ⟨rfl, by decide, by decide⟩ (fun w h Y => PySem.W.kIn_of Y) ?F (fun _ _ a ns hl hS => Bw.law_start hl hS Bw.law_true)
  case F =>
    intro w mg fa h KX G hmg
    refine' Bw.law_end KX G hmg ?a0 ?l0 ?c0 ?k0 ?a1 ?l1 ?c1 ?k1 ?a2 ?l2 ?c2 ?k2 ?a3 ?l3 ?c3 ?k3 ?a4 ?l4 ?c4 ?k4 ?a5 ?l5 ?c5 ?k5 ?a6 ?l6 ?c6 ?k6 ?a7 ?l7 ?c7 ?k7 ?a8 ?l8 ?c8 ?k8 ?a9 ?l9 ?c9 ?k9 ?a10 ?l10 ?c10 ?k10 ?a11 ?l11 ?c11 ?k11 ?a12 ?l12 ?c12 ?k12 ?a13 ?l13 ?c13 ?k13 ?a14 ?l14 ?c14 ?k14 ?a15 ?l15 ?c15 ?k15 ?a16 ?l16 ?c16 ?k16 ?z_abs ?z_bool ?z_int ?z_isinstance ?z_len ?z_max ?z_min ?z_range ?z_repr ?z_tuple ?m_NOUGHT ?l_NOUGHT
    (case a0 => k_is)
    (case l0 => k_is)
    (case c0 => k_is)
    (case k0 => k_is)
    (case a1 => k_is)
    (case l1 => k_is)
    (case c1 => k_is)
    (case k1 => k_is)
    (case a2 => k_is)
    (case l2 => k_is)
    (case c2 => k_is)
    (case k2 => k_is)
    (case a3 => k_is)
    (case l3 => k_is)
    (case c3 => k_is)
    (case k3 => k_is)
    (case a4 => k_is)
    (case l4 => k_is)
    (case c4 => k_is)
    (case k4 => k_is)
    (case a5 => k_is)
    (case l5 => k_is)
    (case c5 => k_is)
    (case k5 => k_is)
    (case a6 => k_is)
    (case l6 => k_is)
    (case c6 => k_is)
    (case k6 => k_is)
    (case a7 => k_is)
    (case l7 => k_is)
    (case c7 => k_is)
    (case k7 => k_is)
    (case a8 => k_is)
    (case l8 => k_is)
    (case c8 => k_is)
    (case k8 => k_is)
    (case a9 => k_is)
    (case l9 => k_is)
    (case c9 => k_is)
    (case k9 => k_is)
    (case a10 => k_is)
    (case l10 => k_is)
    (case c10 => k_is)
    (case k10 => k_is)
    (case a11 => k_is)
    (case l11 => k_is)
    (case c11 => k_is)
    (case k11 => k_is)
    (case a12 => k_is)
    (case l12 => k_is)
    (case c12 => k_is)
    (case k12 => k_is)
    (case a13 => k_is)
    (case l13 => k_is)
    (case c13 => k_is)
    (case k13 => k_is)
    (case a14 => k_is)
    (case l14 => k_is)
    (case c14 => k_is)
    (case k14 => k_is)
    (case a15 => k_is)
    (case l15 => k_is)
    (case c15 => k_is)
    (case k15 => k_is)
    (case a16 => k_is)
    (case l16 => k_is)
    (case c16 => k_is)
    (case k16 => k_is)
    (case z_abs => k_is)
    (case z_bool => k_is)
    (case z_int => k_is)
    (case z_isinstance => k_is)
    (case z_len => k_is)
    (case z_max => k_is)
    (case z_min => k_is)
    (case z_range => k_is)
    (case z_repr => k_is)
    (case z_tuple => k_is)
    (case m_NOUGHT => k_is)
    (case l_NOUGHT => k_is)
