import PyProof.Rows.All
import Wide.All
import OpenK.AllK
import Wide.FinOn
import HandS.ForMost
import HandS.Exc
import HandS.ExcOwn
import HandS.WordsExc
import HandS.TryMany
import HandS.ExcSuper
import HandS.ExcInit
import KE.KExcInit
import HandS.Flt
import HandS.StrMore
import HandS.IsInst
import HandS.Conv
import HandS.Wide
import KE.KxIndex
import HandS.OwnEq
import HandS.ExcIs
import KE.KExcIs
import PyProof.ListStr
import KE.KRevSl
import HandS.Style
import HandS.TryOnly
import HandS.Evl
import HandS.Walk
import PySem.Challenge.RW_spoiltline_k12_lags_that_stay
set_option Elab.async false
set_option linter.all false
set_option maxHeartbeats 8000000
namespace Lev
section
variable {α : Type}
/-- an alignment of two lists with c changes -/
inductive A : List α → List α → Nat → Prop where
  | nil : A [] [] 0
  | keep {a u v c} : A u v c → A (a :: u) (a :: v) c
  | swap {a b u v c} : A u v c → A (a :: u) (b :: v) (c + 1)
  | drop {a u v c} : A u v c → A (a :: u) v (c + 1)
  | add {b u v c} : A u v c → A u (b :: v) (c + 1)
theorem A.cast {u v u' v' : List α} {c c' : Nat} (h : A u v c) (e1 : u = u') (e2 : v = v') (e3 : c = c') : A u' v' c' := by
  subst e1 e2 e3; exact h
theorem A.refl : ∀ u : List α, A u u 0
  | [] => .nil
  | _ :: u => .keep (A.refl u)
theorem A.symm {u v : List α} {c : Nat} (h : A u v c) : A v u c := by
  induction h with
  | nil => exact .nil
  | keep _ ih => exact .keep ih
  | swap _ ih => exact .swap ih
  | drop _ ih => exact .add ih
  | add _ ih => exact .drop ih
theorem A.append {u v u' v' : List α} {c c' : Nat} (h : A u v c) (h' : A u' v' c') : A (u ++ u') (v ++ v') (c + c') := by
  induction h with
  | nil => exact h'.cast rfl rfl (Nat.zero_add _).symm
  | keep _ ih => exact .keep ih
  | swap _ ih => exact (A.swap ih).cast rfl rfl (by omega)
  | drop _ ih => exact (A.drop ih).cast rfl rfl (by omega)
  | add _ ih => exact (A.add ih).cast rfl rfl (by omega)
theorem A.drops : ∀ u : List α, A u [] u.length
  | [] => .nil
  | _ :: u => .drop (A.drops u)
theorem A.adds (u : List α) : A [] u u.length := (A.drops u).symm
theorem A.nilLeft {v : List α} {c : Nat} (h : A [] v c) : v.length ≤ c := by
  generalize e : ([] : List α) = u at h
  induction h with
  | nil => exact Nat.le_refl _
  | keep _ _ => cases e
  | swap _ _ => cases e
  | drop _ _ => cases e
  | add _ ih => have := ih e; simp; omega
/-- an alignment is cut where the left list is -/
theorem A.split {w v : List α} {c : Nat} (h : A w v c) : ∀ u u' : List α, w = u ++ u' → ∃ v1 v2 c1 c2, v = v1 ++ v2 ∧ A u v1 c1 ∧ A u' v2 c2 ∧ c = c1 + c2 := by
  induction h with
  | nil =>
    intro u u' e
    have e1 : u = [] := (List.append_eq_nil_iff.mp e.symm).1
    have e2 : u' = [] := (List.append_eq_nil_iff.mp e.symm).2
    subst e1 e2
    exact ⟨[], [], 0, 0, rfl, .nil, .nil, rfl⟩
  | @keep a w v c h ih =>
    intro u u' e
    cases u with
    | nil => exact ⟨[], a :: v, 0, c, rfl, .nil, (A.keep h).cast e rfl rfl, (Nat.zero_add _).symm⟩
    | cons x u =>
      injection e with e1 e2
      subst e1
      obtain ⟨v1, v2, c1, c2, rfl, h1, h2, rfl⟩ := ih u u' e2
      exact ⟨_ :: v1, v2, c1, c2, rfl, .keep h1, h2, rfl⟩
  | @swap a b w v c h ih =>
    intro u u' e
    cases u with
    | nil => exact ⟨[], b :: v, 0, c + 1, rfl, .nil, (A.swap h).cast e rfl rfl, (Nat.zero_add _).symm⟩
    | cons x u =>
      injection e with e1 e2
      subst e1
      obtain ⟨v1, v2, c1, c2, rfl, h1, h2, rfl⟩ := ih u u' e2
      exact ⟨_ :: v1, v2, c1 + 1, c2, rfl, .swap h1, h2, by omega⟩
  | @drop a w v c h ih =>
    intro u u' e
    cases u with
    | nil => exact ⟨[], v, 0, c + 1, rfl, .nil, (A.drop h).cast e rfl rfl, (Nat.zero_add _).symm⟩
    | cons x u =>
      injection e with e1 e2
      subst e1
      obtain ⟨v1, v2, c1, c2, rfl, h1, h2, rfl⟩ := ih u u' e2
      exact ⟨v1, v2, c1 + 1, c2, rfl, .drop h1, h2, by omega⟩
  | @add b w v c h ih =>
    intro u u' e
    obtain ⟨v1, v2, c1, c2, rfl, h1, h2, rfl⟩ := ih u u' e
    exact ⟨b :: v1, v2, c1 + 1, c2, rfl, .add h1, h2, by omega⟩

/-! ### ways over places of two lists -/
inductive P (u v : List α) : Nat → Nat → Nat → Prop where
  | zero : P u v 0 0 0
  | keep {i j c a} : P u v i j c → u[i]? = some a → v[j]? = some a → P u v (i + 1) (j + 1) c
  | swap {i j c} : P u v i j c → i < u.length → j < v.length → P u v (i + 1) (j + 1) (c + 1)
  | drop {i j c} : P u v i j c → i < u.length → P u v (i + 1) j (c + 1)
  | add {i j c} : P u v i j c → j < v.length → P u v i (j + 1) (c + 1)
variable {u v : List α}
theorem P.bounds {i j c : Nat} (h : P u v i j c) : i ≤ u.length ∧ j ≤ v.length := by
  induction h with
  | zero => exact ⟨Nat.zero_le _, Nat.zero_le _⟩
  | keep _ e1 e2 _ =>
    have h1 := (List.getElem?_eq_some_iff.mp e1).1
    have h2 := (List.getElem?_eq_some_iff.mp e2).1
    exact ⟨h1, h2⟩
  | swap _ h1 h2 _ => exact ⟨h1, h2⟩
  | drop _ h1 ih => exact ⟨h1, ih.2⟩
  | add _ h1 ih => exact ⟨ih.1, h1⟩
theorem P.toA {i j c : Nat} (h : P u v i j c) : A (u.take i) (v.take j) c := by
  induction h with
  | zero => exact (A.nil).cast (by simp) (by simp) rfl
  | keep _ e1 e2 ih =>
    exact (ih.append (A.keep A.nil)).cast (by rw [List.take_add_one, e1]; rfl) (by rw [List.take_add_one, e2]; rfl) rfl
  | @swap i j c _ h1 h2 ih =>
    exact (ih.append (A.swap (a := u[i]) (b := v[j]) A.nil)).cast (by rw [List.take_add_one, List.getElem?_eq_getElem h1]; rfl) (by rw [List.take_add_one, List.getElem?_eq_getElem h2]; rfl) rfl
  | @drop i j c _ h1 ih =>
    exact (ih.append (A.drop (a := u[i]) A.nil)).cast (by rw [List.take_add_one, List.getElem?_eq_getElem h1]; rfl) (by simp) rfl
  | @add i j c _ h1 ih =>
    exact (ih.append (A.add (b := v[j]) A.nil)).cast (by simp) (by rw [List.take_add_one, List.getElem?_eq_getElem h1]; rfl) rfl
theorem P.onA {u' v' : List α} {c' : Nat} (h : A u' v' c') : ∀ {i j c : Nat}, P u v i j c → u.drop i = u' → v.drop j = v' → i ≤ u.length → j ≤ v.length → P u v u.length v.length (c + c') := by
  induction h with
  | nil =>
    intro i j c p e1 e2 b1 b2
    have h1 : u.length ≤ i := List.drop_eq_nil_iff.mp e1
    have h2 : v.length ≤ j := List.drop_eq_nil_iff.mp e2
    have e3 : i = u.length := Nat.le_antisymm b1 h1
    have e4 : j = v.length := Nat.le_antisymm b2 h2
    subst e3 e4
    exact p
  | @keep a u' v' c' _ ih =>
    intro i j c p e1 e2 b1 b2
    have g1 : u[i]? = some a := by have := congrArg (·[0]?) e1; simpa using this
    have g2 : v[j]? = some a := by have := congrArg (·[0]?) e2; simpa using this
    have h1 := (List.getElem?_eq_some_iff.mp g1).1
    have h2 := (List.getElem?_eq_some_iff.mp g2).1
    exact ih (.keep p g1 g2) (by rw [← List.drop_drop, e1]; rfl) (by rw [← List.drop_drop, e2]; rfl) h1 h2
  | @swap a b u' v' c' _ ih =>
    intro i j c p e1 e2 b1 b2
    have g1 : u[i]? = some a := by have := congrArg (·[0]?) e1; simpa using this
    have g2 : v[j]? = some b := by have := congrArg (·[0]?) e2; simpa using this
    have h1 := (List.getElem?_eq_some_iff.mp g1).1
    have h2 := (List.getElem?_eq_some_iff.mp g2).1
    have := ih (.swap p h1 h2) (by rw [← List.drop_drop, e1]; rfl) (by rw [← List.drop_drop, e2]; rfl) h1 h2
    rw [show c + (c' + 1) = c + 1 + c' by omega]; exact this
  | @drop a u' v' c' _ ih =>
    intro i j c p e1 e2 b1 b2
    have g1 : u[i]? = some a := by have := congrArg (·[0]?) e1; simpa using this
    have h1 := (List.getElem?_eq_some_iff.mp g1).1
    have := ih (.drop p h1) (by rw [← List.drop_drop, e1]; rfl) e2 h1 b2
    rw [show c + (c' + 1) = c + 1 + c' by omega]; exact this
  | @add b u' v' c' _ ih =>
    intro i j c p e1 e2 b1 b2
    have g2 : v[j]? = some b := by have := congrArg (·[0]?) e2; simpa using this
    have h2 := (List.getElem?_eq_some_iff.mp g2).1
    have := ih (.add p h2) e1 (by rw [← List.drop_drop, e2]; rfl) b1 h2
    rw [show c + (c' + 1) = c + 1 + c' by omega]; exact this
theorem A.toP {c : Nat} (h : A u v c) : P u v u.length v.length c := by
  have := P.onA (u := u) (v := v) h .zero rfl rfl (Nat.zero_le _) (Nat.zero_le _)
  simpa using this
theorem P.toA' {c : Nat} (h : P u v u.length v.length c) : A u v c := h.toA.cast (List.take_length) (List.take_length) rfl

/-! ### the table -/
variable [DecidableEq α]
def neq (x y : Option α) : Nat := if x = y then 0 else 1
def T (u v : List α) : Nat → Nat → Nat
  | 0, j => j
  | i + 1, 0 => i + 1
  | i + 1, j + 1 => min (T u v i j + neq u[i]? v[j]?) (min (T u v (i + 1) j + 1) (T u v i (j + 1) + 1))
theorem T_zero (j : Nat) : T u v 0 j = j := by unfold T; rfl
theorem T_left (i : Nat) : T u v i 0 = i := by cases i <;> (unfold T; rfl)
theorem T_step (i j : Nat) : T u v (i + 1) (j + 1) = min (T u v i j + neq u[i]? v[j]?) (min (T u v (i + 1) j + 1) (T u v i (j + 1) + 1)) := by
  rw [T]
theorem T_le {i j c : Nat} (h : P u v i j c) : T u v i j ≤ c := by
  induction h with
  | zero => rw [T_zero]; omega
  | keep _ e1 e2 ih => rw [T_step, e1, e2]; simp only [neq, if_true]; omega
  | @swap i j c _ _ _ ih =>
    rw [T_step]
    have : neq u[i]? v[j]? ≤ 1 := by unfold neq; split <;> omega
    omega
  | @drop i j c _ _ ih => cases j with
    | zero => rw [T_left] at *; omega
    | succ j => rw [T_step]; omega
  | @add i j c _ _ ih => cases i with
    | zero => rw [T_zero] at *; omega
    | succ i => rw [T_step]; omega
theorem T_P : ∀ (i j : Nat), i ≤ u.length → j ≤ v.length → P u v i j (T u v i j) := by
  intro i
  induction i with
  | zero =>
    intro j
    induction j with
    | zero => intro _ _; rw [T_zero]; exact .zero
    | succ j ih => intro h1 h2; rw [T_zero]; have := ih h1 (by omega); rw [T_zero] at this; exact .add this (by omega)
  | succ i ihi =>
    intro j
    induction j with
    | zero => intro h1 h2; rw [T_left]; have := ihi 0 (by omega) h2; rw [T_left] at this; exact .drop this (by omega)
    | succ j ih =>
      intro h1 h2
      have p1 := ihi j (by omega) (by omega)
      have p2 := ih h1 (by omega)
      have p3 := ihi (j + 1) (by omega) h2
      rw [T_step]
      by_cases q1 : T u v i j + neq u[i]? v[j]? ≤ min (T u v (i + 1) j + 1) (T u v i (j + 1) + 1)
      · rw [Nat.min_eq_left q1]
        by_cases e : u[i]? = v[j]?
        · rw [show neq u[i]? v[j]? = 0 by unfold neq; rw [if_pos e]]
          exact .keep p1 (List.getElem?_eq_getElem (by omega)) (by rw [← e]; exact List.getElem?_eq_getElem (by omega))
        · rw [show neq u[i]? v[j]? = 1 by unfold neq; rw [if_neg e]]
          exact .swap p1 (by omega) (by omega)
      · rw [Nat.min_eq_right (by omega)]
        by_cases q2 : T u v (i + 1) j + 1 ≤ T u v i (j + 1) + 1
        · rw [Nat.min_eq_left q2]; exact .add p2 (by omega)
        · rw [Nat.min_eq_right (by omega)]; exact .drop p3 (by omega)
/-- the distance -/
def D (u v : List α) : Nat := T u v u.length v.length
theorem D_A (u v : List α) : A u v (D u v) := (T_P _ _ (Nat.le_refl _) (Nat.le_refl _)).toA'
theorem D_le {u v : List α} {c : Nat} (h : A u v c) : D u v ≤ c := T_le h.toP
theorem D_symm (u v : List α) : D u v = D v u := Nat.le_antisymm (D_le (D_A v u).symm) (D_le (D_A u v).symm)
theorem D_self (u : List α) : D u u = 0 := Nat.le_zero.mp (D_le (A.refl u))
theorem D_le_max (u v : List α) : D u v ≤ max u.length v.length := by
  have key : ∀ u v : List α, ∃ c, A u v c ∧ c ≤ max u.length v.length := by
    intro u
    induction u with
    | nil => intro v; exact ⟨_, A.adds v, by simp⟩
    | cons a u ih =>
      intro v
      cases v with
      | nil => exact ⟨_, A.drops (a :: u), by simp⟩
      | cons b v =>
        obtain ⟨c, h, hc⟩ := ih v
        exact ⟨c + 1, .swap h, by simp; omega⟩
  obtain ⟨c, h, hc⟩ := key u v
  exact Nat.le_trans (D_le h) hc
theorem A.lens {u v : List α} {c : Nat} (h : A u v c) : u.length ≤ v.length + c ∧ v.length ≤ u.length + c := by
  induction h with
  | nil => exact ⟨Nat.le_refl _, Nat.le_refl _⟩
  | keep _ ih => simp only [List.length_cons]; omega
  | swap _ ih => simp only [List.length_cons]; omega
  | drop _ ih => simp only [List.length_cons]; omega
  | add _ ih => simp only [List.length_cons]; omega
end
end Lev

set_option Elab.async false
set_option linter.all false
set_option maxHeartbeats 400000
namespace Lev
section
variable {α : Type}
/-- w is a turn of v -/
def Turn (v w : List α) : Prop := ∃ x y, v = x ++ y ∧ w = y ++ x
theorem Turn.refl (v : List α) : Turn v v := ⟨[], v, rfl, (List.append_nil v).symm⟩
theorem Turn.symm {v w : List α} (h : Turn v w) : Turn w v := by
  obtain ⟨x, y, rfl, rfl⟩ := h
  exact ⟨y, x, rfl, rfl⟩
theorem Turn.trans {u v w : List α} (h : Turn u v) (h' : Turn v w) : Turn u w := by
  obtain ⟨x, y, rfl, rfl⟩ := h
  obtain ⟨x', y', e, rfl⟩ := h'
  rcases List.append_eq_append_iff.mp e with ⟨e1, rfl, rfl⟩ | ⟨e1, rfl, rfl⟩
  · exact ⟨e1, y' ++ y, by rw [List.append_assoc], by rw [List.append_assoc]⟩
  · exact ⟨x ++ x', e1, by rw [List.append_assoc], by rw [List.append_assoc]⟩
theorem Turn.length {v w : List α} (h : Turn v w) : w.length = v.length := by
  obtain ⟨x, y, rfl, rfl⟩ := h
  simp only [List.length_append]; omega
theorem Turn.at (v : List α) (k : Nat) : Turn v (v.drop k ++ v.take k) := ⟨v.take k, v.drop k, (List.take_append_drop k v).symm, rfl⟩
/-- an alignment of turns of both is one of u and a turn -/
theorem cut {u u' v v' : List α} {c : Nat} (hu : Turn u u') (hv : Turn v v') (h : A u' v' c) : ∃ w, Turn v w ∧ A u w c := by
  obtain ⟨x, y, rfl, rfl⟩ := hu
  obtain ⟨w1, w2, c1, c2, rfl, h1, h2, rfl⟩ := h.split y x rfl
  exact ⟨w2 ++ w1, hv.trans ⟨w1, w2, rfl, rfl⟩, (h2.append h1).cast rfl rfl (Nat.add_comm _ _)⟩
/-! ### the window that is just as long -/
theorem window (N : Nat) : ∀ {u w w' : List α} {c c' k b : Nat}, u.length + w.length + w'.length ≤ N → A u w c → A u w' c' → w.length + k ≤ b → b ≤ w'.length + k →
    ∃ p q s t s' t' c1 c2 c3 c4, u = p ++ q ∧ w = s ++ t ∧ w' = s' ++ t' ∧ A p s c1 ∧ A q t c2 ∧ A p s' c3 ∧ A q t' c4 ∧ c = c1 + c2 ∧ c' = c3 + c4 ∧ t.length + (k + s'.length) = b := by
  induction N with
  | zero =>
    intro u w w' c c' k b hN h h' l1 l2
    have e1 : u = [] := List.eq_nil_of_length_eq_zero (by omega)
    have e2 : w = [] := List.eq_nil_of_length_eq_zero (by omega)
    have e3 : w' = [] := List.eq_nil_of_length_eq_zero (by omega)
    subst e1 e2 e3
    exact ⟨[], [], [], [], [], [], 0, c, 0, c', rfl, rfl, rfl, .nil, h, .nil, h', (Nat.zero_add _).symm, (Nat.zero_add _).symm, by simp at *; omega⟩
  | succ N ih =>
    intro u w w' c c' k b hN h h' l1 l2
    by_cases e : w.length + k = b
    · exact ⟨[], u, [], w, [], w', 0, c, 0, c', rfl, rfl, rfl, .nil, h, .nil, h', (Nat.zero_add _).symm, (Nat.zero_add _).symm, by simp; omega⟩
    · -- a letter more of the second
      have main : ∀ {a : α} {u w1 w1' pw pw' : List α} {c1 c1' pc pc' : Nat}, A u w1 c1 → A u w1' c1' → (∀ {p s d}, A p s d → A (a :: p) (pw ++ s) (pc + d)) → (∀ {p s d}, A p s d → A (a :: p) (pw' ++ s) (pc' + d)) → pw.length ≤ 1 → pw'.length ≤ 1 →
          (u.length + 1) + (pw ++ w1).length + (pw' ++ w1').length ≤ N + 1 → (pw ++ w1).length + k ≤ b → b ≤ (pw' ++ w1').length + k → ¬ (pw ++ w1).length + k = b →
          ∃ p q s t s' t' d1 d2 d3 d4, a :: u = p ++ q ∧ pw ++ w1 = s ++ t ∧ pw' ++ w1' = s' ++ t' ∧ A p s d1 ∧ A q t d2 ∧ A p s' d3 ∧ A q t' d4 ∧ pc + c1 = d1 + d2 ∧ pc' + c1' = d3 + d4 ∧ t.length + (k + s'.length) = b := by
        intro a u w1 w1' pw pw' c1 c1' pc pc' g g' f f' n1 n2 hN l1 l2 e
        rw [List.length_append] at hN l1 l2 e
        rw [List.length_append] at hN
        obtain ⟨p, q, s, t, s', t', d1, d2, d3, d4, rfl, rfl, rfl, a1, a2, a3, a4, e1, e2, e3⟩ := ih (k := k + pw'.length) (b := b) (by omega) g g' (by omega) (by omega)
        exact ⟨a :: p, q, pw ++ s, t, pw' ++ s', t', pc + d1, d2, pc' + d3, d4, rfl, by simp, by simp, f a1, a2, f' a3, a4, by omega, by omega, by rw [List.length_append]; omega⟩
      cases h' with
      | nil =>
        have := h.nilLeft
        simp at l2
        omega
      | @add b' _ w'' c'' g' =>
        simp only [List.length_cons] at hN l2
        obtain ⟨p, q, s, t, s', t', d1, d2, d3, d4, rfl, rfl, rfl, a1, a2, a3, a4, e1, e2, e3⟩ := ih (k := k + 1) (b := b) (by omega) h g' (by omega) (by omega)
        exact ⟨p, q, s, t, b' :: s', t', d1, d2, d3 + 1, d4, rfl, rfl, rfl, a1, a2, .add a3, a4, e1, by omega, by simp only [List.length_cons]; omega⟩
      | @keep a u w1' c1' g' =>
        cases h with
        | @add b' _ w1 c1 g =>
          simp only [List.length_cons] at hN l1 l2 e
          obtain ⟨p, q, s, t, s', t', d1, d2, d3, d4, e0, rfl, e00, a1, a2, a3, a4, e1, e2, e3⟩ := ih (k := k) (b := b) (by simp only [List.length_cons]; omega) g (A.keep g') (by omega) (by simp only [List.length_cons]; omega)
          exact ⟨p, q, b' :: s, t, s', t', d1 + 1, d2, d3, d4, e0, rfl, e00, .add a1, a2, a3, a4, by omega, e2, e3⟩
        | @keep _ _ w1 c1 g => simpa using main (pw := [a]) (pw' := [a]) (pc := 0) (pc' := 0) g g' (fun z => (A.keep z).cast rfl rfl (by omega)) (fun z => (A.keep z).cast rfl rfl (by omega)) (by simp) (by simp) (by simpa using hN) (by simpa using l1) (by simpa using l2) (by simpa using e)
        | @swap _ x _ w1 c1 g => simpa [Nat.add_comm] using main (pw := [x]) (pw' := [a]) (pc := 1) (pc' := 0) g g' (fun z => (A.swap z).cast rfl rfl (by omega)) (fun z => (A.keep z).cast rfl rfl (by omega)) (by simp) (by simp) (by simpa using hN) (by simpa using l1) (by simpa using l2) (by simpa using e)
        | @drop _ _ _ c1 g => simpa [Nat.add_comm] using main (pw := []) (pw' := [a]) (pc := 1) (pc' := 0) g g' (fun z => (A.drop z).cast rfl rfl (by omega)) (fun z => (A.keep z).cast rfl rfl (by omega)) (by simp) (by simp) (by simpa using hN) (by simpa using l1) (by simpa using l2) (by simpa using e)
      | @swap a y u w1' c1' g' =>
        cases h with
        | @add b' _ w1 c1 g =>
          simp only [List.length_cons] at hN l1 l2 e
          obtain ⟨p, q, s, t, s', t', d1, d2, d3, d4, e0, rfl, e00, a1, a2, a3, a4, e1, e2, e3⟩ := ih (k := k) (b := b) (by simp only [List.length_cons]; omega) g (A.swap (b := y) g') (by omega) (by simp only [List.length_cons]; omega)
          exact ⟨p, q, b' :: s, t, s', t', d1 + 1, d2, d3, d4, e0, rfl, e00, .add a1, a2, a3, a4, by omega, e2, e3⟩
        | @keep _ _ w1 c1 g => simpa [Nat.add_comm] using main (pw := [a]) (pw' := [y]) (pc := 0) (pc' := 1) g g' (fun z => (A.keep z).cast rfl rfl (by omega)) (fun z => (A.swap z).cast rfl rfl (by omega)) (by simp) (by simp) (by simpa using hN) (by simpa using l1) (by simpa using l2) (by simpa using e)
        | @swap _ x _ w1 c1 g => simpa [Nat.add_comm] using main (pw := [x]) (pw' := [y]) (pc := 1) (pc' := 1) g g' (fun z => (A.swap z).cast rfl rfl (by omega)) (fun z => (A.swap z).cast rfl rfl (by omega)) (by simp) (by simp) (by simpa using hN) (by simpa using l1) (by simpa using l2) (by simpa using e)
        | @drop _ _ _ c1 g => simpa [Nat.add_comm] using main (pw := []) (pw' := [y]) (pc := 1) (pc' := 1) g g' (fun z => (A.drop z).cast rfl rfl (by omega)) (fun z => (A.swap z).cast rfl rfl (by omega)) (by simp) (by simp) (by simpa using hN) (by simpa using l1) (by simpa using l2) (by simpa using e)
      | @drop a u _ c1' g' =>
        cases h with
        | @add b' _ w1 c1 g =>
          simp only [List.length_cons] at hN l1 l2 e
          obtain ⟨p, q, s, t, s', t', d1, d2, d3, d4, e0, rfl, e00, a1, a2, a3, a4, e1, e2, e3⟩ := ih (k := k) (b := b) (by simp only [List.length_cons]; omega) g (A.drop g') (by omega) (by omega)
          exact ⟨p, q, b' :: s, t, s', t', d1 + 1, d2, d3, d4, e0, rfl, e00, .add a1, a2, a3, a4, by omega, e2, e3⟩
        | @keep _ _ w1 c1 g => simpa [Nat.add_comm] using main (pw := [a]) (pw' := []) (pc := 0) (pc' := 1) g g' (fun z => (A.keep z).cast rfl rfl (by omega)) (fun z => (A.drop z).cast rfl rfl (by omega)) (by simp) (by simp) (by simpa using hN) (by simpa using l1) (by simpa using l2) (by simpa using e)
        | @swap _ x _ w1 c1 g => simpa [Nat.add_comm] using main (pw := [x]) (pw' := []) (pc := 1) (pc' := 1) g g' (fun z => (A.swap z).cast rfl rfl (by omega)) (fun z => (A.drop z).cast rfl rfl (by omega)) (by simp) (by simp) (by simpa using hN) (by simpa using l1) (by simpa using l2) (by simpa using e)
        | @drop _ _ _ c1 g => simpa [Nat.add_comm] using main (pw := []) (pw' := []) (pc := 1) (pc' := 1) g g' (fun z => (A.drop z).cast rfl rfl (by omega)) (fun z => (A.drop z).cast rfl rfl (by omega)) (by simp) (by simp) (by simpa using hN) (by simpa using l1) (by simpa using l2) (by simpa using e)
/-! ### rounds -/
def rounds : Nat → List α → List α
  | 0, _ => []
  | n + 1, v => v ++ rounds n v
theorem rounds_len (n : Nat) (v : List α) : (rounds n v).length = n * v.length := by
  induction n with
  | zero => simp [rounds]
  | succ n ih => simp [rounds, ih, Nat.succ_mul]; omega
theorem rounds_get (n : Nat) (v : List α) {i : Nat} (h : i < n * v.length) : (rounds n v)[i]? = v[i % v.length]? := by
  induction n generalizing i with
  | zero => omega
  | succ n ih =>
    show (v ++ rounds n v)[i]? = _
    rw [Nat.succ_mul] at h
    rcases Nat.lt_or_ge i v.length with q | q
    · rw [List.getElem?_append_left q, Nat.mod_eq_of_lt q]
    · rw [List.getElem?_append_right q, ih (by omega)]
      congr 1
      conv => rhs; rw [← Nat.sub_add_cancel q, Nat.add_mod_right]
/-- a piece of rounds that is as long as the text is a turn of it; the rest are rounds -/
theorem piece {n : Nat} {v x y z : List α} (h : rounds (n + 1) v = x ++ y ++ z) (hy : y.length = v.length) : Turn v y ∧ x ++ z = rounds n v := by
  by_cases hv : v.length = 0
  · have e1 : v = [] := List.eq_nil_of_length_eq_zero hv
    subst e1
    have hz : ∀ n, rounds n ([] : List α) = [] := fun n => List.eq_nil_of_length_eq_zero (by rw [rounds_len]; simp)
    rw [hz] at h
    have h' := congrArg List.length h
    simp only [List.length_nil, List.length_append] at h'
    have e2 : x = [] := List.eq_nil_of_length_eq_zero (by omega)
    have e3 : y = [] := List.eq_nil_of_length_eq_zero (by omega)
    have e4 : z = [] := List.eq_nil_of_length_eq_zero (by omega)
    subst e2 e3 e4
    exact ⟨Turn.refl _, (hz n).symm⟩
  have pos : 0 < v.length := Nat.pos_of_ne_zero hv
  have hl := congrArg List.length h
  rw [rounds_len, List.length_append, List.length_append, Nat.succ_mul] at hl
  have G : ∀ i, i < (n + 1) * v.length → (x ++ y ++ z)[i]? = v[i % v.length]? := fun i hi => by rw [← h]; exact rounds_get (n + 1) v hi
  rw [Nat.succ_mul] at G
  constructor
  · have e : y = v.drop (x.length % v.length) ++ v.take (x.length % v.length) := by
      have lt := Nat.mod_lt x.length pos
      apply List.ext_getElem?
      intro i
      rcases Nat.lt_or_ge i y.length with q | q
      · have g := G (x.length + i) (by omega)
        rw [List.append_assoc, List.getElem?_append_right (by omega), Nat.add_sub_cancel_left, List.getElem?_append_left q] at g
        rw [g]
        rcases Nat.lt_or_ge i (v.length - x.length % v.length) with q2 | q2
        · rw [List.getElem?_append_left (by rw [List.length_drop]; exact q2), List.getElem?_drop]
          congr 1
          rw [Nat.add_mod, Nat.mod_eq_of_lt (show i < v.length by omega), Nat.mod_eq_of_lt (by omega)]
        · rw [List.getElem?_append_right (by rw [List.length_drop]; exact q2), List.length_drop, List.getElem?_take, if_pos (by omega)]
          congr 1
          rw [Nat.add_mod, Nat.mod_eq_of_lt (show i < v.length by omega), Nat.mod_eq_sub_mod (by omega), Nat.mod_eq_of_lt (by omega)]
          omega
      · rw [List.getElem?_eq_none q, List.getElem?_eq_none (by simp only [List.length_append, List.length_drop, List.length_take]; omega)]
    rw [e]
    exact Turn.at v _
  · apply List.ext_getElem?
    intro i
    rcases Nat.lt_or_ge i (n * v.length) with q | q
    · rw [rounds_get n v q]
      rcases Nat.lt_or_ge i x.length with q2 | q2
      · rw [List.getElem?_append_left q2]
        have g := G i (by omega)
        rw [List.append_assoc, List.getElem?_append_left q2] at g
        exact g
      · rw [List.getElem?_append_right q2]
        have g := G (i + v.length) (by omega)
        rw [List.getElem?_append_right (by rw [List.length_append]; omega), List.length_append, Nat.add_mod_right] at g
        rw [← g]
        congr 1
        omega
    · rw [List.getElem?_eq_none (by rw [List.length_append]; omega), List.getElem?_eq_none (by rw [rounds_len]; omega)]
/-- the parts of a text that go with each round of u -/
inductive Blocks (u : List α) : Nat → List α → Nat → Prop where
  | nil : Blocks u 0 [] 0
  | cons {n w v c d} : A u w c → Blocks u n v d → Blocks u (n + 1) (w ++ v) (c + d)
theorem blocks_of {u : List α} : ∀ {n : Nat} {v : List α} {c : Nat}, A (rounds (n + 1) u) v c → Blocks u (n + 1) v c
  | 0, v, c, h => by
    have h' : A u v c := h.cast (List.append_nil u) rfl rfl
    have := Blocks.cons h' .nil
    rw [List.append_nil] at this
    exact this
  | n + 1, v, c, h => by
    obtain ⟨v1, v2, c1, c2, rfl, h1, h2, rfl⟩ := h.split u (rounds (n + 1) u) rfl
    exact .cons h1 (blocks_of h2)
def Gone (u : List α) (b n : Nat) (V : List α) (c : Nat) : Prop :=
  ∃ x y z c1 c2 u', V = x ++ y ++ z ∧ y.length = b ∧ Blocks u n (x ++ z) c1 ∧ Turn u u' ∧ A u' y c2 ∧ c = c1 + c2
theorem tri {u : List α} {b : Nat} : ∀ {n : Nat} {V : List α} {c : Nat}, Blocks u (n + 1) V c →
    (∃ w V' c1 d, V = w ++ V' ∧ A u w c1 ∧ Blocks u n V' d ∧ c = c1 + d ∧ w.length < b ∧ V.length < (n + 1) * b) ∨
    (∃ w V' c1 d, V = w ++ V' ∧ A u w c1 ∧ Blocks u n V' d ∧ c = c1 + d ∧ b < w.length ∧ (n + 1) * b < V.length) ∨ Gone u b n V c := by
  intro n
  induction n with
  | zero =>
    intro V c h
    cases h with
    | @cons _ w V' c d h1 h2 =>
      cases h2
      rcases Nat.lt_trichotomy w.length b with q | q | q
      · exact .inl ⟨w, [], c, 0, rfl, h1, .nil, rfl, q, by simp; exact q⟩
      · exact .inr (.inr ⟨[], w, [], 0, c, u, by simp, q, .nil, Turn.refl u, h1, by omega⟩)
      · exact .inr (.inl ⟨w, [], c, 0, rfl, h1, .nil, rfl, q, by simp; exact q⟩)
  | succ n ih =>
    intro V c h
    cases h with
    | @cons _ w V' c d h1 h2 =>
      have em : (n + 1 + 1) * b = (n + 1) * b + b := Nat.succ_mul _ _
      rcases ih h2 with ⟨w', V'', c', d', rfl, g1, g2, rfl, l1, l2⟩ | ⟨w', V'', c', d', rfl, g1, g2, rfl, l1, l2⟩ | ⟨x, y, z, d1, d2, u', rfl, hy, g1, g2, g3, rfl⟩
      · rcases Nat.lt_trichotomy w.length b with q | q | q
        · exact .inl ⟨w, _, c, _, rfl, h1, h2, rfl, q, by rw [List.length_append]; omega⟩
        · exact .inr (.inr ⟨[], w, _, _, c, u, by simp, q, h2, Turn.refl u, h1, by omega⟩)
        · -- longer, then shorter
          obtain ⟨p, q', s, t, s', t', k1, k2, k3, k4, rfl, rfl, rfl, a1, a2, a3, a4, rfl, rfl, e⟩ := window _ (k := 0) (b := w.length + w'.length - b) (Nat.le_refl _) g1 h1 (by omega) (by omega)
          simp only [List.length_append] at e q l1
          refine .inr (.inr ⟨s', t' ++ s, t ++ V'', (k3 + k2) + d', k4 + k1, q' ++ p, by simp, by rw [List.length_append]; omega, ?_, ⟨p, q', rfl, rfl⟩, a4.append a1, by omega⟩)
          have := Blocks.cons (a3.append a2) g2
          rw [List.append_assoc] at this
          exact this
      · rcases Nat.lt_trichotomy w.length b with q | q | q
        · obtain ⟨p, q', s, t, s', t', k1, k2, k3, k4, rfl, rfl, rfl, a1, a2, a3, a4, rfl, rfl, e⟩ := window _ (k := 0) (b := b) (Nat.le_refl _) h1 g1 (by omega) (by omega)
          refine .inr (.inr ⟨s, t ++ s', t' ++ V'', (k1 + k4) + d', k2 + k3, q' ++ p, by simp, by rw [List.length_append]; omega, ?_, ⟨p, q', rfl, rfl⟩, a2.append a3, by omega⟩)
          have := Blocks.cons (a1.append a4) g2
          rw [List.append_assoc] at this
          exact this
        · exact .inr (.inr ⟨[], w, _, _, c, u, by simp, q, h2, Turn.refl u, h1, by omega⟩)
        · exact .inr (.inl ⟨w, _, c, _, rfl, h1, h2, rfl, q, by rw [List.length_append]; omega⟩)
      · refine .inr (.inr ⟨w ++ x, y, z, c + d1, d2, u', by simp, hy, ?_, g2, g3, by omega⟩)
        rw [List.append_assoc]
        exact .cons h1 g1
/-- rounds are at least as far apart as so many turns -/
theorem rounds_ge {u v : List α} {r : Nat} (hr : ∀ w c, Turn v w → A u w c → r ≤ c) : ∀ {n : Nat} {c : Nat}, Blocks u (n + 1) (rounds (n + 1) v) c → (n + 1) * r ≤ c := by
  intro n
  induction n with
  | zero =>
    intro c h
    rw [show rounds 1 v = v from List.append_nil v] at h
    generalize e : v = V at h
    cases h with
    | @cons _ w V' c d h1 h2 =>
      cases h2
      rw [List.append_nil] at e
      subst e
      have := hr v c (Turn.refl v) h1
      omega
  | succ n ih =>
    intro c h
    have hl := rounds_len (n + 1 + 1) v
    rcases tri (b := v.length) h with ⟨w, V', c', d', e, g1, g2, _, l1, l2⟩ | ⟨w, V', c', d', e, g1, g2, _, l1, l2⟩ | ⟨x, y, z, d1, d2, u', e, hy, g1, g2, g3, rfl⟩
    · rw [hl] at l2; exact absurd l2 (Nat.lt_irrefl _)
    · rw [hl] at l2; exact absurd l2 (Nat.lt_irrefl _)
    · obtain ⟨ht, hz⟩ := piece e hy
      rw [hz] at g1
      have k1 := ih g1
      obtain ⟨w, tw, aw⟩ := cut g2 ht g3
      have k2 := hr w d2 tw aw
      rw [Nat.succ_mul]
      omega
theorem rounds_A {u w : List α} {c : Nat} (h : A u w c) : ∀ n, A (rounds n u) (rounds n w) (n * c)
  | 0 => (A.nil).cast rfl rfl (by omega)
  | n + 1 => (h.append (rounds_A h n)).cast rfl rfl (by rw [Nat.succ_mul]; omega)
theorem rounds_turn (x y : List α) : ∀ n, rounds (n + 1) (x ++ y) = x ++ rounds n (y ++ x) ++ y
  | 0 => by simp [rounds]
  | n + 1 => by
    show (x ++ y) ++ rounds (n + 1) (x ++ y) = x ++ ((y ++ x) ++ rounds n (y ++ x)) ++ y
    rw [rounds_turn x y n]
    simp
theorem rounds_last (u : List α) : ∀ n, rounds (n + 1) u = rounds n u ++ u
  | 0 => by simp [rounds]
  | n + 1 => by
    show u ++ rounds (n + 1) u = (u ++ rounds n u) ++ u
    rw [rounds_last u n]; simp
theorem rounds_le {u v w : List α} {c : Nat} (ht : Turn v w) (h : A u w c) (n : Nat) : ∃ d, A (rounds (n + 1) u) (rounds (n + 1) v) d ∧ d ≤ n * c + u.length + v.length := by
  obtain ⟨x, y, rfl, rfl⟩ := ht
  refine ⟨_, (((A.adds x).append (rounds_A h n)).append ((A.drops u).append (A.adds y))).cast (by simp [rounds_last]) (by rw [rounds_turn]; simp) rfl, ?_⟩
  simp only [List.length_append]; omega
/-! ### the price of rounds -/
variable [DecidableEq α]
/-- the least of the distances of u and the turns of v -/
def Rp (u v : List α) (r : Nat) : Prop := (∃ w, Turn v w ∧ D u w = r) ∧ ∀ w, Turn v w → r ≤ D u w
theorem Rp.uniq {u v : List α} {r r' : Nat} (h : Rp u v r) (h' : Rp u v r') : r = r' := by
  obtain ⟨⟨w, t, e⟩, k⟩ := h
  obtain ⟨⟨w', t', e'⟩, k'⟩ := h'
  have := k w' t'
  have := k' w t
  omega
theorem Rp.turns {u u' v v' : List α} {r : Nat} (h : Rp u v r) (hu : Turn u u') (hv : Turn v v') : Rp u' v' r := by
  obtain ⟨⟨w, t, e⟩, k⟩ := h
  have low : ∀ w', Turn v' w' → r ≤ D u' w' := fun w' t' => by
    obtain ⟨w2, t2, a2⟩ := cut hu (hv.trans t') (D_A u' w')
    exact Nat.le_trans (k w2 t2) (D_le a2)
  obtain ⟨w2, t2, a2⟩ := cut (v := v') hu.symm (hv.symm.trans t) (D_A u w)
  have := D_le a2
  have := low w2 t2
  exact ⟨⟨w2, t2, by omega⟩, low⟩
theorem Rp.symm {u v : List α} {r : Nat} (h : Rp u v r) : Rp v u r := by
  obtain ⟨⟨w, t, e⟩, k⟩ := h
  have low : ∀ w', Turn u w' → r ≤ D v w' := fun w' t' => by
    obtain ⟨w2, t2, a2⟩ := cut t' (Turn.refl v) (D_A v w').symm
    exact Nat.le_trans (k w2 t2) (D_le a2)
  obtain ⟨w2, t2, a2⟩ := cut (v := u) t (Turn.refl u) (D_A u w).symm
  have := D_le a2
  have := low w2 t2
  exact ⟨⟨w2, t2, by omega⟩, low⟩
theorem Rp.self {u w : List α} (h : Turn u w) : Rp u w 0 := ⟨⟨u, h.symm, D_self u⟩, fun _ _ => Nat.zero_le _⟩
theorem Rp.ge {u v : List α} {r : Nat} (h : Rp u v r) (n : Nat) : (n + 1) * r ≤ D (rounds (n + 1) u) (rounds (n + 1) v) :=
  rounds_ge (fun w c t a => Nat.le_trans (h.2 w t) (D_le a)) (blocks_of (D_A _ _))
theorem Rp.le {u v : List α} {r : Nat} (h : Rp u v r) (n : Nat) : D (rounds (n + 1) u) (rounds (n + 1) v) ≤ n * r + u.length + v.length := by
  obtain ⟨⟨w, t, rfl⟩, _⟩ := h
  obtain ⟨d, a, hd⟩ := rounds_le t (D_A u w) n
  exact Nat.le_trans (D_le a) hd
/-- the turns by their places -/
theorem turn_at {v w : List α} (h : Turn v w) : ∃ k, k < max 1 v.length ∧ w = v.drop k ++ v.take k := by
  obtain ⟨x, y, rfl, rfl⟩ := h
  by_cases e : y = []
  · subst e
    exact ⟨0, by omega, by simp⟩
  · have : 0 < y.length := List.length_pos_iff.mpr e
    exact ⟨x.length, by rw [List.length_append]; omega, by simp⟩
end
end Lev

set_option Elab.async false
set_option linter.all false
set_option maxHeartbeats 400000
namespace Lev
section
variable {α : Type} [DecidableEq α]
/-! ### turns by a number, and roots -/
def rot (k : Nat) (v : List α) : List α := v.drop k ++ v.take k
theorem rot_len (k : Nat) (v : List α) : (rot k v).length = v.length := by
  unfold rot; rw [List.length_append, List.length_drop, List.length_take]; omega
theorem rot_get {k : Nat} {v : List α} (hk : k ≤ v.length) {i : Nat} (hi : i < v.length) : (rot k v)[i]? = v[(i + k) % v.length]? := by
  unfold rot
  by_cases h : i < v.length - k
  · rw [List.getElem?_append_left (by rw [List.length_drop]; exact h), List.getElem?_drop, Nat.mod_eq_of_lt (by omega), Nat.add_comm]
  · rw [List.getElem?_append_right (by rw [List.length_drop]; omega), List.length_drop, List.getElem?_take, if_pos (by omega)]
    have e : i + k = (i - (v.length - k)) + v.length := by omega
    rw [e, Nat.add_mod_right, Nat.mod_eq_of_lt (by omega)]
/-- each letter is the one so many places on -/
def Pr (v u : List α) (s : Nat) : Prop := ∀ i, i < v.length → v[(i + s) % v.length]? = u[i]?
theorem rot_eq {k : Nat} {v u : List α} (hk : k ≤ v.length) (hl : u.length = v.length) : rot k v = u ↔ Pr v u k := by
  constructor
  · intro h i hi
    rw [← h, rot_get hk hi]
  · intro h
    apply List.ext_getElem?
    intro i
    by_cases hi : i < v.length
    · rw [rot_get hk hi]; exact h i hi
    · rw [List.getElem?_eq_none (by rw [rot_len]; omega), List.getElem?_eq_none (by omega)]
theorem Pr.zero (v : List α) : Pr v v 0 := fun i hi => by rw [Nat.add_zero, Nat.mod_eq_of_lt hi]
theorem Pr.whole (v : List α) : Pr v v v.length := fun i hi => by rw [Nat.add_mod_right, Nat.mod_eq_of_lt hi]
theorem Pr.add {v u : List α} {s t : Nat} (h : Pr v v s) (g : Pr v u t) : Pr v u (t + s) := fun i hi => by
  have e := h ((i + t) % v.length) (Nat.mod_lt _ (by omega))
  rw [Nat.mod_add_mod] at e
  rw [← Nat.add_assoc, e, g i hi]
theorem Pr.sub {v u : List α} {s t : Nat} (h : Pr v v s) (g : Pr v u (t + s)) : Pr v u t := fun i hi => by
  have e := h ((i + t) % v.length) (Nat.mod_lt _ (by omega))
  rw [Nat.mod_add_mod] at e
  rw [← e, Nat.add_assoc, g i hi]
theorem Pr.mul {v : List α} {s : Nat} (h : Pr v v s) : ∀ q, Pr v v (q * s)
  | 0 => by rw [Nat.zero_mul]; exact Pr.zero v
  | q + 1 => by rw [Nat.succ_mul]; exact h.add (Pr.mul h q)
theorem Pr.mod {v u : List α} {s t : Nat} (h : Pr v v s) (g : Pr v u t) : Pr v u (t % s) := by
  refine Pr.sub (h.mul (t / s)) ?_
  rw [Nat.mul_comm, Nat.mod_add_div]; exact g
theorem Pr.diff {v u : List α} {s t : Nat} (h : Pr v u s) (g : Pr v u (t + s)) : Pr v v t := fun i hi => by
  -- the letters i + t and i are both read by u
  have hv : 0 < v.length := by omega
  -- choose j with j + s ≡ i
  have key : ∃ j, j < v.length ∧ (j + s) % v.length = i := by
    refine ⟨(i + (v.length - s % v.length)) % v.length, Nat.mod_lt _ hv, ?_⟩
    rw [Nat.mod_add_mod]
    have hs := Nat.mod_lt s hv
    have e : i + (v.length - s % v.length) + s = i + v.length * (s / v.length + 1) := by
      have := Nat.mod_add_div s v.length
      rw [Nat.mul_add, Nat.mul_one]
      generalize v.length * (s / v.length) = z at *
      omega
    rw [e, Nat.add_mul_mod_self_left, Nat.mod_eq_of_lt hi]
  obtain ⟨j, hj, ej⟩ := key
  have e1 := h j hj
  have e2 := g j hj
  rw [ej] at e1
  have e3 : (j + (t + s)) % v.length = (i + t) % v.length := by
    rw [show j + (t + s) = (j + s) + t by omega, ← Nat.mod_add_mod, ej]
  rw [e3] at e2
  rw [e2, e1]
instance (v u : List α) (s : Nat) : Decidable (Pr v u s) := by unfold Pr; infer_instance
/-- the length of the root -/
def rho (v : List α) : Nat := ((List.range v.length).find? fun s => decide (Pr v v (s + 1))).elim 0 (· + 1)
theorem rho_nil : rho ([] : List α) = 0 := rfl
theorem find_range {n : Nat} {p : Nat → Bool} {s : Nat} (h : (List.range n).find? p = some s) : s < n ∧ p s = true ∧ ∀ t, t < s → p t = false := by
  have e := List.find?_eq_some_iff_getElem.mp h
  obtain ⟨h1, i, hi, h2, h3⟩ := e
  rw [List.length_range] at hi
  rw [List.getElem_range] at h2
  subst h2
  exact ⟨hi, h1, fun t ht => by have := h3 t ht; rw [List.getElem_range] at this; simpa using this⟩
theorem rho_spec {v : List α} (hv : v ≠ []) : 0 < rho v ∧ rho v ≤ v.length ∧ Pr v v (rho v) ∧ ∀ t, 0 < t → t < rho v → ¬ Pr v v t := by
  have hl : 0 < v.length := List.length_pos_iff.mpr hv
  unfold rho
  cases h : (List.range v.length).find? fun s => decide (Pr v v (s + 1)) with
  | none =>
    have := List.find?_eq_none.mp h (v.length - 1) (List.mem_range.mpr (by omega))
    rw [show v.length - 1 + 1 = v.length by omega] at this
    exact absurd (decide_eq_true (Pr.whole v)) this
  | some s =>
    obtain ⟨h1, h2, h3⟩ := find_range h
    refine ⟨Nat.succ_pos _, h1, of_decide_eq_true h2, fun t t0 t1 => ?_⟩
    have := h3 (t - 1) (by have : t < s + 1 := t1; omega)
    rw [show t - 1 + 1 = t by omega] at this
    exact of_decide_eq_false this
theorem rho_le (v : List α) : rho v ≤ v.length := by
  by_cases h : v = []
  · subst h; exact Nat.le_refl _
  · exact (rho_spec h).2.1
theorem rho_least {v : List α} (hv : v ≠ []) {t : Nat} (t0 : 0 < t) (h : Pr v v t) : rho v ≤ t := by
  obtain ⟨_, _, _, k⟩ := rho_spec hv
  rcases Nat.lt_or_ge t (rho v) with q | q
  · exact absurd h (k t t0 q)
  · exact q
theorem rho_eq {v : List α} (hv : v ≠ []) {s : Nat} (s0 : 0 < s) (h : Pr v v s) (k : ∀ t, 0 < t → t < s → ¬ Pr v v t) : rho v = s := by
  refine Nat.le_antisymm (rho_least hv s0 h) ?_
  obtain ⟨a, _, c, _⟩ := rho_spec hv
  rcases Nat.lt_or_ge (rho v) s with q | q
  · exact absurd c (k _ a q)
  · exact q
theorem rho_dvd {v : List α} (hv : v ≠ []) {t : Nat} (h : Pr v v t) : t % rho v = 0 := by
  obtain ⟨a, _, c, k⟩ := rho_spec hv
  rcases Nat.eq_zero_or_pos (t % rho v) with q | q
  · exact q
  · exact absurd (Pr.mod c h) (k _ q (Nat.mod_lt _ a))
/-- the rounds of a piece -/
theorem rounds_Pr {w : List α} (hw : w ≠ []) (k : Nat) (s : Nat) : Pr (rounds (k + 1) w) (rounds (k + 1) w) s ↔ Pr w w s := by
  have hm : 0 < w.length := List.length_pos_iff.mpr hw
  have hl : (rounds (k + 1) w).length = (k + 1) * w.length := rounds_len _ _
  have get : ∀ i, (rounds (k + 1) w)[i % ((k + 1) * w.length)]? = w[i % w.length]? := fun i => by
    rw [rounds_get _ _ (Nat.mod_lt _ (Nat.mul_pos (Nat.succ_pos _) hm)), Nat.mod_mod_of_dvd _ (Nat.dvd_mul_left _ _)]
  constructor
  · intro h i hi
    have e := h i (by rw [hl, Nat.succ_mul]; omega)
    rw [hl, get] at e
    have e2 := get i
    rw [Nat.mod_eq_of_lt (by rw [Nat.succ_mul]; omega), Nat.mod_eq_of_lt hi] at e2
    rw [e, e2]
  · intro h i hi
    rw [hl] at hi
    rw [hl, get]
    have e2 := get i
    rw [Nat.mod_eq_of_lt hi] at e2
    rw [e2]
    have := h (i % w.length) (Nat.mod_lt _ hm)
    rw [Nat.mod_add_mod] at this
    exact this
theorem rounds_ne {w : List α} (hw : w ≠ []) (k : Nat) : rounds (k + 1) w ≠ [] := by
  intro h
  have := congrArg List.length h
  rw [rounds_len, Nat.succ_mul, List.length_nil] at this
  have := List.length_pos_iff.mpr hw
  omega
theorem rho_rounds {w : List α} (hw : w ≠ []) (k : Nat) : rho (rounds (k + 1) w) = rho w := by
  obtain ⟨a, _, c, d⟩ := rho_spec hw
  exact rho_eq (rounds_ne hw k) a ((rounds_Pr hw k _).mpr c) fun t t0 t1 h => d t t0 t1 ((rounds_Pr hw k _).mp h)
theorem rho_ext {v w : List α} (h : ∀ s, Pr v v s ↔ Pr w w s) (hv : v ≠ []) (hw : w ≠ []) : rho v = rho w := by
  obtain ⟨a, _, c, d⟩ := rho_spec hw
  exact rho_eq hv a ((h _).mpr c) fun t t0 t1 q => d t t0 t1 ((h _).mp q)
/-- a text is the rounds of a beginning of s letters exactly if s divides and it is periodic -/
theorem rounds_iff {v : List α} {s : Nat} (s0 : 0 < s) (hs : s ≤ v.length) : (v.length % s = 0 ∧ rounds (v.length / s) (v.take s) = v) ↔ (v.length % s = 0 ∧ Pr v v s) := by
  have lt : (v.take s).length = s := by rw [List.length_take]; omega
  constructor
  · rintro ⟨h1, h2⟩
    refine ⟨h1, ?_⟩
    have hq : 0 < v.length / s := Nat.div_pos hs s0
    obtain ⟨k, hk⟩ : ∃ k, v.length / s = k + 1 := ⟨v.length / s - 1, by omega⟩
    rw [hk] at h2
    have hw : v.take s ≠ [] := by intro z; rw [z] at lt; simp at lt; omega
    have := (rounds_Pr hw k s).mpr (by have := Pr.whole (v.take s); rw [lt] at this; exact this)
    rw [h2] at this
    exact this
  · rintro ⟨h1, h2⟩
    refine ⟨h1, ?_⟩
    have hd : v.length / s * s = v.length := Nat.div_mul_cancel (Nat.dvd_of_mod_eq_zero h1)
    apply List.ext_getElem?
    intro i
    by_cases hi : i < v.length
    · rw [rounds_get _ _ (by rw [lt, hd]; exact hi), lt, List.getElem?_take, if_pos (Nat.mod_lt _ s0)]
      have e := h2.mul (i / s) (i % s) (Nat.lt_of_lt_of_le (Nat.mod_lt _ s0) hs)
      rw [Nat.mul_comm, Nat.mod_add_div, Nat.mod_eq_of_lt hi] at e
      exact e.symm
    · rw [List.getElem?_eq_none (by rw [rounds_len, lt, hd]; omega), List.getElem?_eq_none (by omega)]
theorem rho_rounds_of {v : List α} (hv : v ≠ []) : v.length % rho v = 0 ∧ rounds (v.length / rho v) (v.take (rho v)) = v := by
  obtain ⟨a, b, c, _⟩ := rho_spec hv
  exact (rounds_iff a b).mpr ⟨rho_dvd hv (Pr.whole v), c⟩
def root (v : List α) : List α := v.take (rho v)
theorem root_nil : root ([] : List α) = [] := rfl
theorem root_len (v : List α) : (root v).length = rho v := by unfold root; rw [List.length_take]; have := rho_le v; omega
theorem root_ne {v : List α} (hv : v ≠ []) : root v ≠ [] := by
  intro h
  have := congrArg List.length h
  rw [root_len] at this
  have := (rho_spec hv).1
  simp at *; omega
theorem root_rounds {w : List α} (hw : w ≠ []) (k : Nat) : root (rounds (k + 1) w) = root w := by
  unfold root
  rw [rho_rounds hw]
  show (w ++ rounds k w).take (rho w) = _
  rw [List.take_append_of_le_length (rho_le w)]
theorem root_of {v : List α} (hv : v ≠ []) : ∃ k, v = rounds (k + 1) (root v) := by
  obtain ⟨h1, h2⟩ := rho_rounds_of hv
  have hq : 0 < v.length / rho v := Nat.div_pos (rho_le v) (rho_spec hv).1
  exact ⟨v.length / rho v - 1, by rw [show v.length / rho v - 1 + 1 = v.length / rho v by omega]; exact h2.symm⟩
theorem rounds_addR (v : List α) (n : Nat) : ∀ k, rounds (k + n) v = rounds k v ++ rounds n v
  | 0 => by rw [Nat.zero_add]; rfl
  | k + 1 => by
    rw [Nat.add_right_comm]
    show v ++ rounds (k + n) v = (v ++ rounds k v) ++ rounds n v
    rw [rounds_addR v n k, List.append_assoc]
/-- texts that commute are rounds of one text -/
theorem commute {N : Nat} : ∀ {x y : List α}, x.length + y.length ≤ N → x ≠ [] → y ≠ [] → x ++ y = y ++ x → ∃ z a b, z ≠ [] ∧ x = rounds (a + 1) z ∧ y = rounds (b + 1) z := by
  induction N with
  | zero => intro x y h hx _ _; exact absurd (List.length_eq_zero_iff.mp (by omega)) hx
  | succ N ih =>
    intro x y h hx hy e
    have px := List.length_pos_iff.mpr hx
    have py := List.length_pos_iff.mpr hy
    have one : ∀ {x y : List α}, x.length + y.length ≤ N + 1 → x ≠ [] → y ≠ [] → x ++ y = y ++ x → x.length < y.length → ∃ z a b, z ≠ [] ∧ x = rounds (a + 1) z ∧ y = rounds (b + 1) z := by
      intro x y h hx hy e l
      have px := List.length_pos_iff.mpr hx
      have hp : y = x ++ y.drop x.length := by
        have := congrArg (List.take x.length) e
        rw [List.take_left', List.take_append_of_le_length (by omega)] at this
        · conv => lhs; rw [← List.take_append_drop x.length y]
          rw [← this]
        · rfl
      generalize hy' : y.drop x.length = y' at hp
      have ly : y'.length = y.length - x.length := by rw [← hy', List.length_drop]
      rw [hp] at e
      have e2 : x ++ y' = y' ++ x := by
        rw [List.append_assoc] at e
        exact List.append_cancel_left e
      have hy2 : y' ≠ [] := by intro z; rw [z] at ly; simp at ly; omega
      obtain ⟨z, a, b, hz, e3, e4⟩ := ih (by omega) hx hy2 e2
      refine ⟨z, a, a + 1 + b, hz, e3, ?_⟩
      rw [hp, show a + 1 + b + 1 = (a + 1) + (b + 1) by omega, rounds_addR, ← e3, ← e4]
    rcases Nat.lt_trichotomy x.length y.length with l | l | l
    · exact one h hx hy e l
    · have : x = y := by
        have := congrArg (List.take x.length) e
        rw [List.take_left' rfl, List.take_left' l.symm] at this
        exact this
      subst this
      exact ⟨x, 0, 0, hx, by simp [rounds], by simp [rounds]⟩
    · obtain ⟨z, a, b, hz, e1, e2⟩ := one (by omega) hy hx e.symm l
      exact ⟨z, b, a, hz, e2, e1⟩
theorem root_commute {x y : List α} (hx : x ≠ []) (hy : y ≠ []) : root x = root y ↔ x ++ y = y ++ x := by
  constructor
  · intro h
    obtain ⟨a, ea⟩ := root_of hx
    obtain ⟨b, eb⟩ := root_of hy
    rw [← h] at eb
    rw [ea, eb, ← rounds_addR, ← rounds_addR, Nat.add_comm]
  · intro h
    obtain ⟨z, a, b, hz, e1, e2⟩ := commute (Nat.le_refl _) hx hy h
    rw [e1, e2, root_rounds hz, root_rounds hz]
end
end Lev

set_option Elab.async false
set_option linter.all false
set_option maxRecDepth 100000
set_option maxHeartbeats 2000000
/-! An own error class over another own class over Exception, whose __init__ keeps its one argument: raised, caught, its attribute read. -/
namespace ErrX
open PySem PySem.W PySem.Calls PyProof.Rows PySem.HandSPX Builtin Builtin.ObjectAttr
abbrev tailE : List Value := [.type "Exception", .type "BaseException", .type "object"]
/-! ### the text of such an __init__ -/
def iA (p1 p2 : Pos) : Arguments := { posonlyargs := [], args := [{ arg := "self", annotation := none, pos := p1 }, { arg := "given", annotation := none, pos := p2 }], vararg := none, kwonlyargs := [], kw_defaults := [], kwarg := none, defaults := [] }
def iB (q1 q2 q3 q4 : Pos) : List Stmt := [.Assign [.Attribute (.Name "self" q1) "given" q2] (.Name "given" q3) q4]
def iS : Scope := { kind := .function, names := [(PySem.Str.ofString "self", .local), (PySem.Str.ofString "given", .local)], isGenerator := false, isCoroutine := false, more := [] }
/-- what the written part says of the class cn, at C, and of its __init__, at fI -/
structure ETxt (K : Frag) (mg : Str → Option Value) (cn qi : Str) (C fI : Addr) : Prop where
  gC : mg cn = some (.ref C)
  cls : ∃ nm q N bs bm sn sub ab col dd k0 k1 k2 k3 k5, K.lookup C = some (excClassObj nm q C N bs bm true sn sub ab col dd k0 k1 k2 k3 k5 "Exception.__new__") ∧ excTail tailE bm = true
  ov : excOver K C tailE = true
  tk : takerIn K C "given" = some none
  sa : findIn K (.ref C) "__setattr__" = some (some (.builtin "object.__setattr__"))
  ga : findIn K (.ref C) "__getattribute__" = some (some (.builtin "BaseException.__getattribute__"))
  gg : findIn K (.ref C) "__getattr__" = some none
  noN : findIn K (.ref C) "given" = some none
  iC : findIn K (.ref C) "__init__" = some (some (.ref fI))
  tC : typeIn K (.ref fI) = some (.type "function")
  kC : keepIn K (.ref C) = true
  exC : subIn K (.ref C) (.type "BaseException") = some true
  tyC : typeIn K (.ref C) = some (.type "type")
  hdC : hasDictIn K C = true
  fn : ∃ (oc : Value) (od : Option Addr) (doc pm : Value) (an : Option Addr) (cdv ct : Value) (osl : Array (Option Value)) (p1 p2 q1 q2 q3 q4 : Pos),
    K.lookup fI = some ⟨oc, od, .func (fnOf "__init__" qi (iA p1 p2) (iB q1 q2 q3 q4) iS .none .none doc pm an cdv ct), osl⟩ ∧ codeIn K cdv qi = true
theorem one_fits (v : Value) : [v].length ≤ sizeLine := by
  rw [sizeLine_eq]
  exact (by decide : 1 ≤ 16777216)
/-- what __init__ leaves of a fresh error at x -/
structure EndE (h h' : Heap) (x C dx t1 : Addr) (fl : Str) (v : Value) : Prop where
  keep : ∀ b o, b ≠ x → h.get? b = some o → h'.get? b = some o
  obj : h'.get? x = some (excObj C t1 (some dx) .none)
  dbig : h.objs.size ≤ dx
  dne : dx ≠ x
  ns : h'.Ns1 dx (fun y => if y = fl then some v else none)
structure MadeE (h h' : Heap) (e C d : Addr) (fl : Str) (v : Value) : Prop where
  keep : ∀ b o, h.get? b = some o → h'.get? b = some o
  new : h.objs.size ≤ e
  obj : ∃ t, h'.get? e = some (excObj C t (some d) .none)
  dbig : h.objs.size ≤ d
  dne : d ≠ e
  ns : h'.Ns1 d (fun y => if y = fl then some v else none)
section
variable {prog : Program} {w : World} {A : Around} {E : Value → Shared → Prop} {R : Result → Shared → Prop} {s : Shared} {K : Frag} {mg : Str → Option Value} {C fI : Addr} {cn qi : Str}
/-- the first store into a fresh error -/
theorem store_new {name : Str} {tk : Tok} {v : Value} {x t0 : Addr} (X : K.In s.heap) (hx : s.heap.get? x = some (excObj C t0 none .none)) (ho : excOver K C tailE = true) (ht : takerIn K C name = some none) (hh : hasDictIn K C = true)
    (hq : ∀ h' tk' dx, EndE s.heap h' x C dx t0 name v → R (.ok (.ret .none)) { s with heap := h', toks := tk' }) :
    codeAny (model prog w) A (.call (.builtin "object.__setattr__") ⟨[.ref x, .str name tk, v], []⟩) R s := by
  refine osa_openX (od := none) F.store_Exception X ⟨hx, rfl, rfl, trivial⟩ ho ht fun b => ?_
  obtain ⟨cd, hc, hd'⟩ := any_some hh
  have hxs : x ≠ s.heap.objs.size := Nat.ne_of_lt (Heap.lt_size hx)
  have hx1 : (s.heap.push { cls := .type "dict", data := .dict #[] }).get? x = some (excObj C t0 none .none) := Heap.get?_push_of_some _ hx
  refine wpAny_bind (wpAny_pure (wpAny_bind (instanceDict_exc hx (looks_clsIn X hc) hd' ?_)))
  show wpAny _ _ (storeInDict s.heap.objs.size (.str name tk) name v) _ _ _
  obtain ⟨hp, g, dr, t, os⟩ := s
  refine store_in_new ?_ ?_
  · exact ⟨_, #[], _, (Heap.get?_update_ne _ _ _ _ hxs.symm).trans (Heap.get?_push_at rfl rfl), rfl, fun e he => absurd he (by simp), fun _ => rfl⟩
  · intro h' tk' hn' hs
    refine hq h' tk' hp.objs.size ⟨fun b o hb ho => ?_, ?_, Nat.le_refl _, hxs.symm, hn'⟩
    · exact (hs.2 b (Nat.ne_of_lt (Heap.lt_size ho))).trans ((Heap.get?_update_ne _ _ _ _ hb).trans (Heap.get?_push_of_some _ ho))
    · exact (hs.2 x hxs).trans (Heap.get?_update_self _ hx1 rfl)
theorem ldC {M : Model} {s : Shared} {name : Str} {scope : Scope} {L a : Addr} {cd : Value} {m : Str → Option Value} {x : Str} {pos : Pos} {v : Value} {Q : Value → Shared → Prop} {A : Around} {E : Value → Shared → Prop} (hn : s.heap.Ns L m) (hv : m x = some v) (h : Q v s)
    (hk : scope.kind = .function := by rfl) (hl : (envOfC name scope L a cd).kindOf x = some .local := by rfl) (hd : (x == ("__debug__" : Str)) = false := by decide) :
    wpAny M A (eval (.Name x pos) (envOfC name scope L a cd)) Q E s := wpAny_Name (wpAny_loadName_local hk hl hn hv h) hd
theorem init_ok (T : ETxt K mg cn qi C fI) {x t0 : Addr} {v : Value} (X : K.In s.heap) (hlim : s.heap.NoLimit) (hx : s.heap.get? x = some (excObj C t0 none .none)) (hroom : A.depth < recursionLimit)
    (hq : ∀ h' tk dx, EndE s.heap h' x C dx t0 "given" v → R (.ok (.ret .none)) { s with heap := h', toks := tk }) :
    codeAny (model prog w) A (.call (.ref fI) ⟨[.ref x, v], []⟩) R s := by
  obtain ⟨oc, od, doc, pm, an, cdv, ct, osl, p1, p2, q1, q2, q3, q4, ho, hcd⟩ := T.fn
  refine Att.call_fn (binds := [("self", .ref x), ("given", v)]) X hlim ho hcd hroom (BindsTo.of_eq (by first | rfl | with_unfolding_all rfl)) (by first | rfl | decide | with_unfolding_all rfl) (fun s1 IC => ?_) rfl rfl rfl
  obtain ⟨h1, tk1, rfl⟩ := IC.toInCall.same
  have k : ∀ b o, s.heap.get? b = some o → h1.get? b = some o := IC.toInCall.keep
  have hn := IC.toInCall.ns
  have X1 : K.In h1 := X.keeps k
  have hx1 := k _ _ hx
  show wpAny _ _ (execs _ _) _ _ _
  refine wpAny_execs_cons (plainObj_wpAny_Assign_Attribute ?_)
  refine ldC (v := v) hn (by first | rfl | with_unfolding_all rfl | kernel_rfl) (ldC (v := .ref x) hn (by first | rfl | with_unfolding_all rfl | kernel_rfl) ?_)
  refine set_plain X1 (ox := excObj C t0 none .none) (od := none) ⟨hx1, rfl, rfl, trivial⟩ T.sa ?_
  refine store_new X1 hx1 T.ov T.tk T.hdC fun h3 tk3 dx M => ?_
  show wpAny _ _ (execs _ _) _ _ _
  have z : s.heap.objs.size < h1.objs.size := hn.lt
  exact wpAny_execs_nil (hq h3 tk3 dx ⟨fun b o hb e => M.keep b o hb (k b o e), M.obj, Nat.le_of_lt (Nat.lt_of_lt_of_le z M.dbig), M.dne, M.ns⟩)
theorem made_ok (T : ETxt K mg cn qi C fI) {v : Value} (X : K.In s.heap) (hlim : s.heap.NoLimit) (hroom : A.depth + 1 < recursionLimit)
    (hq : ∀ h' tk e d, MadeE s.heap h' e C d "given" v → R (.ok (.ret (.ref e))) { s with heap := h', toks := tk }) :
    codeAny (model prog w) A (.call (.ref C) ⟨[v], []⟩) R s := by
  obtain ⟨nm, q, N, bs, bm, sn, sub, ab, col, dd, k0, k1, k2, k3, k5, hC, hbm⟩ := T.cls
  obtain ⟨hp, g, dr, tk, os⟩ := s
  have k : ∀ b o, hp.get? b = some o → ((hp.push (kdv_tup [v])).push (excO C hp.objs.size)).get? b = some o := fun b o e => Heap.get?_push_of_some _ (Heap.get?_push_of_some _ e)
  have hget : ((hp.push (kdv_tup [v])).push (excO C hp.objs.size)).get? (hp.objs.size + 1) = some (excO C hp.objs.size) := by heap_get
  refine call_own F.excBase_Exception (fun X => excTail_contains X bm hbm) (X _ _ hC) (looks_findIn X T.iC) (fun self => bind_fn X self T.tC) (one_fits v) ?_
  refine init_ok (s := ⟨(hp.push (kdv_tup [v])).push (excO C hp.objs.size), g, dr, tk, os⟩) T (X.keeps k) (hlim.keeps k) hget ?_ fun h' tk' dx M => ?_
  · show A.depth + 1 < recursionLimit
    exact hroom
  · have old : ∀ b o, hp.get? b = some o → h'.get? b = some o := fun b o e => M.keep b o (Nat.ne_of_lt (Nat.lt_succ_of_lt (Heap.lt_size e))) (k b o e)
    have z : hp.objs.size + 1 + 1 ≤ dx := by
      have q := M.dbig
      first
        | exact q
        | (rw [Heap.size_push, Heap.size_push] at q; exact q)
        | (simpa only [Heap.size_push] using q)
    exact ⟨rfl, hq h' tk' (hp.objs.size + 1) dx ⟨old, Nat.le_succ _, ⟨_, M.obj⟩, Nat.le_trans (Nat.le_trans (Nat.le_succ _) (Nat.le_succ _)) z, M.dne, M.ns⟩⟩
end
end ErrX
namespace L2
open PySem PySem.Spec PyProof.Rows
/-- the own dict of an error that keeps v -/
abbrev gvn (v : V) : List (Str × V) := [(("given" : Str), v)]
theorem relO_gvn {v : V} {v' : Value} (r : RelV v v') (f : Str) : RelO (List.lookup f (gvn v)) (if f = "given" then some v' else none) := by
  have e := lookup_put "given" f v []
  show RelO (List.lookup f [(("given" : Str), v)]) _
  rw [e]
  by_cases h : f = "given"
  · rw [if_pos h, if_pos h]; exact r
  · rw [if_neg h, if_neg h]; trivial
section
variable {X : Cx} {C fI : Addr} {cn qi : Str}
/-- C(e) -/
def tMkE (C : Addr) (ta : TA) : St → Hp → XK → Prop := fun σ H Q => ta σ H fun vs H1 => ∃ v, vs = [v] ∧ ∀ d, H1 d = none → Q (.ref C) (some d) (upd H1 d (.xd (gvn v)))
theorem pmk_err {a : Expr} {ta : TA} {p pos : Pos} {k : Nat} (T : ErrX.ETxt X.K X.mg cn qi C fI) (hr : Room k X.A) (ha : PA X [a] ta) (hg : Gl X cn) (hdb : (cn == ("__debug__" : Str)) = false)
    (he : starEach (a :: []) X.env = (false, eval a X.env) :: starEach [] X.env := by rfl) (hpl : (backTo pos (starEach [] X.env)).any (·.1) = false := by rfl) :
    PMk X (.Call (.Name cn p) [a] [] pos) (tMkE C ta) := by
  intro pins s σ H Q I h
  refine wpAny_Call_Name_kw (ld_glob I hg T.gC ?_ hdb)
  refine PySem.W.callWith_K (h₀ := X.base) I.ok.mod.kin T.kC (thn (ha.run pos pins s σ H _ I h) fun us s1 hh => ?_) he hpl
  obtain ⟨vs, H1, I1, r1, v, ev, q1⟩ := hh
  subst ev
  refine ⟨I1.kIn, ?_⟩
  cases r1 with
  | cons rv rn =>
    rename_i v' us'
    cases rn
    show wpAny _ _ (call (.ref C) [v']) _ _ _
    have hlim := I1.nolimit
    obtain ⟨hp, g, dr, tk, os⟩ := s1
    refine wpAny_call (ErrX.made_ok T I1.kIn hlim (by have := hr.dp; omega) fun h' tk' e d M => ?_)
    show MkP X pins σ Q (.ref e) ⟨h', g, dr, tk', os⟩
    obtain ⟨t, hoe⟩ := M.obj
    have hns := M.ns
    obtain ⟨G', g1, g2⟩ := restrict h' fun b => decide (b ≠ e)
    have gk : ∀ b, b ≠ e → G'.get? b = h'.get? b := fun b hb => g1 b (decide_eq_true hb)
    have ge : G'.get? e = none := g2 e (by simp)
    have old : ∀ b o, hp.get? b = some o → G'.get? b = some o := fun b o q => (gk b (Nat.ne_of_lt (Nat.lt_of_lt_of_le (Heap.lt_size q) M.new))).trans (M.keep b o q)
    have ob : ObjOk X.prog X.w (upd H1 d (.xd (gvn v))) G' d (.xd (gvn v)) :=
      ⟨_, hns.at (fun o q => (gk d M.dne).trans q), fun f => relO_gvn rv f⟩
    have J : Inv X pins σ (upd H1 d (.xd (gvn v))) ⟨G', g, dr, tk', os⟩ := I1.laid (t' := tk') old M.dbig ob
    refine ⟨e, _, _, ⟨G', g, dr, tk', os⟩, _, .ref C, some d, rfl, J, fun b o q => ?_, ge, hoe, ⟨rfl, rfl⟩, rfl, rfl, ?_, rfl, I1.bare, raises_own T.exC T.tyC, q1 d (I1.hok.fresh M.dbig)⟩
    · by_cases hb : b = e
      · have q' : G'.get? b = some o := q
        rw [hb, ge] at q'; cases q'
      · exact (gk b hb).symm.trans q
    · rw [upd_ne (Ne.symm M.dne)]
      exact I1.hok.fresh M.new
/-- raise C(e) -/
def tRaiseE (C : Addr) (W : WX) (ta : TA) : TS := fun _ σ H => tMkE C ta σ H fun cls d H' => W cls d σ H'
theorem ps_raiseE {a : Expr} {ta : TA} {W : WX} {p pos pos2 : Pos} {k : Nat} (hc : X.calm = true) (T : ErrX.ETxt X.K X.mg cn qi C fI) (hr : Room k X.A) (tk : Takes X W) (ha : PA X [a] ta) (hg : Gl X cn := by rfl) (hdb : (cn == ("__debug__" : Str)) = false := by decide)
    (he : starEach (a :: []) X.env = (false, eval a X.env) :: starEach [] X.env := by rfl) (hpl : (backTo pos (starEach [] X.env)).any (·.1) = false := by rfl) :
    PS X (.Raise (some (.Call (.Name cn p) [a] [] pos)) none pos2) (tRaiseE C W ta) := ps_raise hc tk (pmk_err T hr ha hg hdb he hpl)
/-- e.given, e the error that the suite holds (at a; its class cls, its dict d) -/
def tGvn (C : Addr) (a : Addr) (cls : Value) (d : Option Addr) (te : TE) : TE := fun σ H Q => te σ H fun x H1 => x = .ref a ∧ cls = .ref C ∧ ∃ (dd : Addr) (v : V), d = some dd ∧ H1 dd = some (.xd (gvn v)) ∧ Q v H1
theorem pe_gvn {a : Addr} {oe : Obj} {cls : Value} {d : Option Addr} {pn : List (Addr × Obj)} {e : Expr} {te : TE} {pos : Pos} (T : ErrX.ETxt X.K X.mg cn qi C fI) (hz : Zc cls d oe) (hf : ∃ vs, oe.data = .fields vs) (he : PE (X.suite a ((a, oe) :: pn)) e te)
    (hb : attributeBase e "given" X.env (eval e X.env) = eval e X.env := by rfl) :
    PE (X.suite a ((a, oe) :: pn)) (.Attribute e "given" pos) (tGvn C a cls d te) := by
  refine ⟨fun pins s σ H Q I h => ?_⟩
  refine attr_of hb (thn (he.run pins s σ H _ I h) fun u s1 hh => ?_)
  obtain ⟨x, H1, I1, rx, ex, ec, dd, v, ed, ea, q⟩ := hh
  subst ex
  obtain rfl : u = Value.ref a := rx
  subst ec
  subst ed
  obtain ⟨ha, _⟩ := I1.pin (a, oe) (List.mem_append_left _ List.mem_cons_self)
  obtain ⟨vs, hd⟩ := hf
  have hx : ObjOk X.prog X.w H1 s1.heap dd (.xd (gvn v)) := I1.hok dd _ ea
  obtain ⟨mA, hns, hr⟩ := hx
  obtain ⟨od, ho, hl⟩ := lookIn_ns hns
  have l : List.lookup ("given" : Str) (gvn v) = some v := by
    show List.lookup ("given" : Str) [(("given" : Str), v)] = some v
    rw [lookup_put, if_pos rfl]
  obtain ⟨u, hu, ru⟩ := RelO.some_of (v := v) (o := mA "given") (by rw [← l]; exact hr "given")
  have J : PySem.W.InstAt s1.heap a oe C (some od) := ⟨ha, hz.1, by unfold PySem.W.notCls; rw [hd] <;> rfl, by rw [hz.2]; exact ho⟩
  exact HandSPX.exc_get I1.kIn J T.ga T.gg T.exC (PySem.W.findObj_own T.hdC T.noN rfl (by rw [hl, hu])) (handed_of ru) ⟨v, H1, I1.tok _, ru, q⟩
end
end L2

set_option Elab.async false
set_option linter.all false
set_option maxRecDepth 100000
set_option maxHeartbeats 2000000
/-! Further rules over the hand layer: texts by their codes, three numbers' max and min, repr of data. -/
namespace L2
open PySem PySem.Spec PyProof.Rows
/-! ### texts by their codes -/
abbrev cs (x : Str) : List Nat := x.cps.toList
def S (l : List Nat) : Str := ⟨l.toArray⟩
theorem S_tl (l : List Nat) : cs (S l) = l := by simp [S, cs]
theorem S_of (z : Str) : S (cs z) = z := by obtain ⟨⟨l⟩⟩ := z; rfl
theorem S_len (l : List Nat) : (S l).length = l.length := by simp [S, Str.length]
theorem S_inj {l m : List Nat} (h : S l = S m) : l = m := by have := congrArg cs h; rwa [S_tl, S_tl] at this
theorem S_app (l m : List Nat) : S l ++ S m = S (l ++ m) := by
  show (⟨l.toArray ++ m.toArray⟩ : Str) = ⟨(l ++ m).toArray⟩
  simp
theorem S_eqV (l m : List Nat) : decide (V.str (S l) = V.str (S m)) = decide (l = m) := by
  by_cases h : l = m
  · subst h; simp
  · rw [decide_eq_false h, decide_eq_false]
    intro e; exact h (S_inj (V.str.inj e))
theorem sIx_some (n d i : Nat) : HT.sIx n d (some ((i : Nat) : Int)) = min i n := HT.sIx_nat n d i
theorem cut_from (l : List Nat) (i : Nat) : cutS (S l) (some (i : Int)) none = S (l.drop i) := by
  show S (((cs (S l)).drop (HT.sIx (S l).length 0 (some (i : Int)))).take (HT.sIx (S l).length (S l).length none - HT.sIx (S l).length 0 (some (i : Int)))) = _
  rw [S_tl, S_len, sIx_some, HT.sIx_none]
  congr 1
  rcases Nat.le_total i l.length with h | h
  · rw [Nat.min_eq_left h, List.take_of_length_le (by rw [List.length_drop]; omega)]
  · rw [Nat.min_eq_right h, Nat.sub_self, List.take_zero, List.drop_of_length_le h]
theorem cut_to (l : List Nat) (i : Nat) : cutS (S l) none (some (i : Int)) = S (l.take i) := by
  show S (((cs (S l)).drop (HT.sIx (S l).length 0 none)).take (HT.sIx (S l).length (S l).length (some (i : Int)) - HT.sIx (S l).length 0 none)) = _
  rw [S_tl, S_len, sIx_some, HT.sIx_none, List.drop_zero, Nat.sub_zero]
  congr 1
  rcases Nat.le_total i l.length with h | h
  · rw [Nat.min_eq_left h]
  · rw [Nat.min_eq_right h, List.take_of_length_le h, List.take_of_length_le (Nat.le_refl _)]
theorem cut_mid (l : List Nat) (i j : Nat) : cutS (S l) (some (i : Int)) (some (j : Int)) = S ((l.drop i).take (j - i)) := by
  show S (((cs (S l)).drop (HT.sIx (S l).length 0 (some (i : Int)))).take (HT.sIx (S l).length (S l).length (some (j : Int)) - HT.sIx (S l).length 0 (some (i : Int)))) = _
  rw [S_tl, S_len, sIx_some, sIx_some]
  congr 1
  rcases Nat.le_total i l.length with h | h
  · rw [Nat.min_eq_left h]
    rcases Nat.le_total j l.length with h2 | h2
    · rw [Nat.min_eq_left h2]
    · rw [Nat.min_eq_right h2, List.take_of_length_le (by rw [List.length_drop]; omega), List.take_of_length_le (by rw [List.length_drop]; omega)]
  · rw [Nat.min_eq_right h, List.drop_of_length_le h, List.drop_of_length_le (Nat.le_refl _)]
    simp
theorem atI_S {l : List Nat} {i : Nat} {c : Nat} (h : l[i]? = some c) : atI (S l).cps.toList (i : Int) = some c := by
  show atI (cs (S l)) (i : Int) = some c
  rw [S_tl]
  exact atI_nat h
/-! ### what a text is -/
def low (c : Nat) : Bool := decide (97 ≤ c) && decide (c ≤ 122)
theorem ascii_facts : ∀ c : Fin 128, Unicode.isAlpha c.val = (low c.val || (decide (65 ≤ c.val) && decide (c.val ≤ 90))) ∧ Unicode.isLower c.val = low c.val ∧ (Unicode.isUpper c.val || Unicode.isTitle c.val) = (decide (65 ≤ c.val) && decide (c.val ≤ 90)) := by
  decide +kernel
theorem istext_eq (z : Str) : (decide (V.str z = V.str (Str.ofString "")) || (Txt.isascii z && Txt.isalpha z && Txt.islower z)) = (cs z).all low := by
  obtain ⟨⟨l⟩⟩ := z
  have e0 : (V.str (⟨⟨l⟩⟩ : Str) = V.str (Str.ofString "")) ↔ l = [] := by
    constructor
    · intro h
      have h2 := congrArg cs (V.str.inj h)
      exact h2
    · intro h; subst h; rfl
  show (decide _ || ((l.toArray.all (· < 128)) && (decide (l.toArray.size > 0) && l.toArray.all Unicode.isAlpha) && (l.toArray.any Unicode.isLower && !l.toArray.any fun c => Unicode.isUpper c || Unicode.isTitle c))) = l.all low
  have ea : ∀ p : Nat → Bool, (l.toArray).all p = l.all p := fun p => by rw [← Array.all_toList]
  have eb : ∀ p : Nat → Bool, (l.toArray).any p = l.any p := fun p => by rw [← Array.any_toList]
  have ec : (⟨l⟩ : Array Nat) = l.toArray := rfl
  simp only [ea, eb]
  simp only [List.size_toArray]
  clear ea eb ec
  cases l with
  | nil => rw [decide_eq_true (e0.mpr rfl)]; rfl
  | cons a r =>
    rw [decide_eq_false (fun h => by cases e0.mp h), Bool.false_or]
    generalize hl : a :: r = l
    have hne : l ≠ [] := by rw [← hl]; simp
    have F : ∀ c ∈ l, c < 128 → Unicode.isAlpha c = (low c || (decide (65 ≤ c) && decide (c ≤ 90))) ∧ Unicode.isLower c = low c ∧ (Unicode.isUpper c || Unicode.isTitle c) = (decide (65 ≤ c) && decide (c ≤ 90)) := fun c _ hc => ascii_facts ⟨c, hc⟩
    rw [Bool.eq_iff_iff]
    simp only [Bool.and_eq_true, List.all_eq_true, List.any_eq_true, Bool.not_eq_true', List.any_eq_false, decide_eq_true_eq]
    constructor
    · rintro ⟨⟨h1, _, h2⟩, _, h3⟩ c hc
      obtain ⟨f1, f2, f3⟩ := F c hc (h1 c hc)
      have q2 := h2 c hc
      have q3 := h3 c hc
      rw [f1] at q2
      rw [f3] at q3
      simp only [Bool.or_eq_true] at q2
      rcases q2 with q2 | q2
      · exact q2
      · exact absurd q2 q3
    · intro h
      have hb : ∀ c ∈ l, c < 128 := fun c hc => by
        have := h c hc
        unfold low at this
        simp only [Bool.and_eq_true, decide_eq_true_eq] at this
        omega
      refine ⟨⟨hb, by rw [← hl]; simp, fun c hc => ?_⟩, ?_, fun c hc => ?_⟩
      · rw [(F c hc (hb c hc)).1, h c hc, Bool.true_or]
      · obtain ⟨c, hc⟩ := List.exists_mem_of_ne_nil l hne
        exact ⟨c, hc, by rw [(F c hc (hb c hc)).2.1]; exact h c hc⟩
      · rw [(F c hc (hb c hc)).2.2]
        have := h c hc
        unfold low at this
        simp only [Bool.and_eq_true, decide_eq_true_eq] at this
        simp; omega
/-! ### calls -/
theorem nuMax3_int (i j k : Int) : nuMax3 (.int i) (.int j) (.int k) = some (.int (max (max i j) k)) := by
  have h2 : ∀ a b : Int, nuMax2 (.int a) (.int b) = some (.int (max a b)) := fun a b => by
    show Option.map (fun c => if c = true then V.int b else V.int a) (some (decide (a < b))) = some (V.int (max a b))
    by_cases h : a < b
    · rw [decide_eq_true h]; simp; omega
    · rw [decide_eq_false h]; simp; omega
  unfold nuMax3
  rw [h2]
  exact h2 _ _
theorem nuMin3_int (i j k : Int) : nuMin3 (.int i) (.int j) (.int k) = some (.int (min (min i j) k)) := by
  have h2 : ∀ a b : Int, nuMin2 (.int a) (.int b) = some (.int (min a b)) := fun a b => by
    show Option.map (fun c => if c = true then V.int b else V.int a) (some (decide (b < a))) = some (V.int (min a b))
    by_cases h : b < a
    · rw [decide_eq_true h]; simp; omega
    · rw [decide_eq_false h]; simp; omega
  unfold nuMin3
  rw [h2]
  exact h2 _ _
def rMax3 : List V → Hp → VK → Prop := fun xs H Q => ∃ i j k, xs = [.int i, .int j, .int k] ∧ Q (.int (max (max i j) k)) H
def rMin3 : List V → Hp → VK → Prop := fun xs H Q => ∃ i j k, xs = [.int i, .int j, .int k] ∧ Q (.int (min (min i j) k)) H
theorem call_max3 {X : Cx} (hc : X.calm = true) : CallR X (.builtin "max") rMax3 := fun pins s σ H xs us Q I r h => by
  obtain ⟨i, j, k, rfl, q⟩ := h
  exact call_max3Nu hc pins s σ H _ us Q I r ⟨_, _, _, _, rfl, nuMax3_int i j k, q⟩
theorem call_min3 {X : Cx} (hc : X.calm = true) : CallR X (.builtin "min") rMin3 := fun pins s σ H xs us Q I r h => by
  obtain ⟨i, j, k, rfl, q⟩ := h
  exact call_min3Nu hc pins s σ H _ us Q I r ⟨_, _, _, _, rfl, nuMin3_int i j k, q⟩
/-! ### repr of data: Dp, and an empty dict -/
def Dr (K : PySem.W.Frag) (H : Hp) (x : V) (d : PyData) : Prop := Dp K H x d ∨ ∃ a, x = .ref a ∧ H a = some (.dK []) ∧ d = .dict []
def rRepr (K : PySem.W.Frag) : List V → Hp → VK → Prop := fun xs H Q => ∃ x d, xs = [x] ∧ Dr K H x d ∧ d.showable = true ∧ d.depth ≤ 60 ∧ d.shown.length ≤ sizeLine ∧ Q (.str d.shown) H
theorem hasDict_dp {K : PySem.W.Frag} {H : Hp} : (∀ {x d}, Dp K H x d → d.hasDict = false) ∧ (∀ {xs ds}, DpAll K H xs ds → PyData.hasDictAll ds = false) := by
  constructor
  · intro x d h
    exact Dp.rec (motive_1 := fun _ d _ => d.hasDict = false) (motive_2 := fun _ ds _ => PyData.hasDictAll ds = false) rfl (fun _ => rfl) (fun _ => rfl) (fun _ => rfl)
      (fun _ _ ih => by unfold PyData.hasDict; exact ih) (fun _ _ ih => by unfold PyData.hasDict; exact ih) rfl (fun _ _ i1 i2 => by unfold PyData.hasDictAll; rw [i1, i2]; rfl) h
  · intro x d h
    exact DpAll.rec (motive_1 := fun _ d _ => d.hasDict = false) (motive_2 := fun _ ds _ => PyData.hasDictAll ds = false) rfl (fun _ => rfl) (fun _ => rfl) (fun _ => rfl)
      (fun _ _ ih => by unfold PyData.hasDict; exact ih) (fun _ _ ih => by unfold PyData.hasDict; exact ih) rfl (fun _ _ i1 i2 => by unfold PyData.hasDictAll; rw [i1, i2]; rfl) h
end L2
namespace L2
open PySem PySem.Spec PyProof.Rows
section
variable {X : Cx}
theorem call_repr (hc : X.A.guards = some []) (hu : X.A.units + 64 < cLine) : CallR X (.builtin "repr") (rRepr X.K) := by
  intro pins s σ H xs us Q I r h
  obtain ⟨x, d, rfl, hd, hs, hdp, hz, q⟩ := h
  cases r with
  | cons r1 rn =>
    rename_i u us'
    cases rn
    rcases hd with hd | ⟨a, rfl, ha, rfl⟩
    · obtain ⟨as, rd⟩ := Dp.reads I d x u hd r1
      cases hd with
      | non => cases rd; exact P.repr_of_none ⟨.str _, H, I.tok _, ⟨_, rfl⟩, q⟩
      | bl b => cases rd; exact P.repr_of_bool ⟨.str _, H, I.tok _, ⟨_, rfl⟩, q⟩
      | int i =>
        cases rd
        have hi : i.natAbs.log2 < 1920 := of_decide_eq_true hs
        exact P.repr_of_int hi ⟨.str _, H, I.tok _, ⟨_, rfl⟩, q⟩
      | str z => cases rd; exact P.repr_of_str ⟨.str _, H, I.tok _, ⟨_, rfl⟩, q⟩ hz
      | lst h1 h2 =>
        obtain rfl : u = Value.ref _ := r1
        have hh : PyData.hasDict _ = false := hasDict_dp.1 (Dp.lst h1 h2)
        exact repr_of_reads' rd hs (fun e => by rw [hh] at e; cases e) hc (by omega) (fun _ _ e => e) (fun h' u tk k => ⟨.str _, H, I.kept k, ⟨_, rfl⟩, q⟩) hz
      | tup h1 h2 =>
        obtain rfl : u = Value.ref _ := r1
        have hh : PyData.hasDict _ = false := hasDict_dp.1 (Dp.tup h1 h2)
        exact repr_of_reads' rd hs (fun e => by rw [hh] at e; cases e) hc (by omega) (fun _ _ e => e) (fun h' u tk k => ⟨.str _, H, I.kept k, ⟨_, rfl⟩, q⟩) hz
    · obtain rfl : u = Value.ref a := r1
      obtain ⟨_, hsys, vs, hkv, od, es, ep, hget, hcl, hdat, hko, hps, _⟩ : ObjOk X.prog X.w H s.heap a (.dK []) := I.hok a _ ha
      cases hkv
      have he : es.toList = [] := by
        generalize es.toList = l at hps
        cases hps; rfl
      have rd : Reads s.heap (.ref a) (.dict []) (a :: [] ++ []) := .dict hget hcl.1 hdat (by rw [he]; exact .nil) (by rw [he]; exact .nil)
      refine repr_of_reads' rd hs (fun _ hm => ?_) hc (by omega) (fun _ _ e => e) (fun h' u tk k => ⟨.str _, H, I.kept k, ⟨_, rfl⟩, q⟩) hz
      have e : sysModules = a := by simpa using hm
      rw [← e] at hsys
      exact absurd hsys (by decide)
end
end L2
namespace L2
open PySem PySem.Spec PyProof.Rows
section
variable {X : Cx}
theorem op_mul_str : OpR X (binaryOp .Mult) (fun x y H Q => ∃ z k, x = .str z ∧ y = .int k ∧ MulOk z k ∧ Q (.str (Txt.mul z k)) H) := by
  intro pins s σ H x y v u Q I rx ry h
  obtain ⟨z, k, rfl, rfl, hz, q⟩ := h
  obtain ⟨t, rfl⟩ := rx
  obtain ⟨t', rfl⟩ := ry
  exact SB.mul hz fun t2 k2 => ⟨.str _, H, I.tok _, ⟨_, rfl⟩, q⟩
/-- f(k = v, ..) by keywords alone, what is raised wished for at the slots -/
def tCallKS (sp : Sp) (gV : List V → List V → List V) (E : St → XK) (tk : TA) : TE := fun σ H Q => tk σ H fun zs H1 => sp (gV [] zs) H1 Q (E σ)
theorem pe_callKS {CX : CXT} {k : Nat} {f : Addr} {fd : FuncData} {ps ks : List Str} {sp : Sp} {E : St → XK} {x : Str} {p pos : Pos} {kws : List Keyword} {tk : TA} {g : List Value → List Value → List Value} {gV : List V → List V → List V}
    (F : FnOk X.prog X.w X.K X.mg X.base CX k f fd ps sp) (hr : Room k X.A) (hg : Gl X x) (hm : X.mg x = some (.ref f)) (hk : PySem.W.keepIn X.K (.ref f) = true) (hb : KBinds X.K fd ps ks g gV) (hx : ∀ σ, PassesAt CX X σ (E σ))
    (hkw : PK X kws tk) (hall : (backToKw pos (keywordEach kws X.env)).all (·.1.isSome) = true := by rfl) (hks : (backToKw pos (keywordEach kws X.env)).filterMap (·.1) = ks := by rfl)
    (hdb : (x == ("__debug__" : Str)) = false := by decide) (hpl : ((backTo pos (starEach [] X.env)).any (·.1) || (backToKw pos (keywordEach kws X.env)).any (·.1.isNone)) = false := by rfl) :
    PE X (.Call (.Name x p) [] kws pos) (tCallKS sp gV E tk) := by
  constructor
  intro pins s σ H Q I h
  apply wpAny_Call_Name_kw (ld_glob I hg hm ?_ hdb)
  apply PySem.W.callWith_KW0 (h₀ := X.base) I.ok.mod.kin hk hall (thn (hkw.run pos pins s σ H _ I h) ?_) hpl
  rintro ws s1 ⟨zs, H1, I1, rz, q⟩
  refine ⟨I1.kIn, ?_⟩
  rw [hks]
  have r2 := hb.rel (vs := []) (us := []) .nil rz
  have hl : (g [] ws).length = ps.length := (r2.length).symm.trans (F.len _ _ _ _ q)
  apply wpAny_call
  apply codeAny_mono (F.run X.A X.stack s1 H1 ⟨[], ks.zip ws⟩ (g [] ws) (gV [] zs) Q (E σ) hr I1.env0 (hb.to s1 [] ws I1.kIn hl) r2 q)
  intro r s' hq
  match r, hq with
  | .error er, hq => exact hx σ pins H1 s1 er s' I1 hq
  | .ok (.ret u), hq => exact I1.after hq
  | .ok .next, hq => exact hq.elim
  | .ok .brk, hq => exact hq.elim
  | .ok .cont, hq => exact hq.elim
end
end L2

set_option Elab.async false
set_option linter.all false
set_option maxRecDepth 100000
set_option maxHeartbeats 2000000
/-! Defs that call repr: the promise is shown only where no repr is running around the call. -/
namespace L2
open PySem PySem.Spec PyProof.Rows
/-- as FnOk, where no guard stands around -/
structure FnG (P : Program) (w : World) (K : PySem.W.Frag) (mg : Str → Option Value) (base : Heap) (CX : CXT) (k : Nat) (f : Addr) (fd : FuncData) (ps : List Str) (sp : Sp) : Prop where
  len : ∀ vs H Q E, sp vs H Q E → vs.length = ps.length
  run : ∀ (A : Around) (outer : List Env) (s : Shared) (H : Hp) (args : Args) (us : List Value) (vs : List V) (Q : VK) (E : XK), A.guards = some [] → Room k A → Env0 P w K mg base A outer s H →
    BindsTo s fd args (ps.zip us) → Vals vs us → sp vs H Q E → codeAny (model P w) A (.call (.ref f) args) (CR CX outer P w H s Q E) s
theorem FnOk.toG {P : Program} {w : World} {K : PySem.W.Frag} {mg : Str → Option Value} {base : Heap} {CX : CXT} {k : Nat} {f : Addr} {fd : FuncData} {ps : List Str} {sp : Sp} (F : FnOk P w K mg base CX k f fd ps sp) : FnG P w K mg base CX k f fd ps sp :=
  ⟨F.len, fun A outer s H args us vs Q E _ hr => F.run A outer s H args us vs Q E hr⟩
section
variable {X : Cx} {CX : CXT} {k : Nat} {f : Addr} {fd : FuncData} {ps : List Str} {sp : Sp} {dvs : List V} {ds : List Value} {E : XK} {x : Str} {p pos : Pos} {e : Expr} {es : List Expr} {t : TA}
theorem pe_callG (F : FnG X.prog X.w X.K X.mg X.base CX k f fd ps sp) (hgd : X.A.guards = some []) (hr : Room k X.A) (hg : Gl X x) (hm : X.mg x = some (.ref f)) (hk : PySem.W.keepIn X.K (.ref f) = true) (hb : Binds X.K fd ps ds) (hd : Vals dvs ds) (hx : Passes CX X E)
    (ha : PA X (e :: es) t) (hdb : (x == ("__debug__" : Str)) = false := by decide) (he : starEach (e :: es) X.env = (false, eval e X.env) :: starEach es X.env := by rfl) (hpl : (backTo pos (starEach es X.env)).any (·.1) = false := by rfl) :
    PE X (.Call (.Name x p) (e :: es) [] pos) (tCall sp dvs E t) := by
  constructor
  intro pins s σ H Q I h
  apply wpAny_Call_Name_kw (ld_glob I hg hm ?_ hdb)
  apply PySem.W.callWith_K (h₀ := X.base) I.ok.mod.kin hk (thn (ha.run pos pins s σ H _ I h) ?_) he hpl
  rintro us s1 ⟨vs, H1, I1, rv, q⟩
  refine ⟨I1.kIn, ?_⟩
  have r2 : Vals (vs ++ dvs) (us ++ ds) := rv.append hd
  have hl : (us ++ ds).length = ps.length := (r2.length).symm.trans (F.len _ _ _ _ q)
  apply wpAny_call
  apply codeAny_mono (F.run X.A X.stack s1 H1 ⟨us, []⟩ (us ++ ds) (vs ++ dvs) Q E hgd hr I1.env0 (hb s1 us I1.kIn hl) r2 q)
  intro r s' hq
  match r, hq with
  | .error er, hq => exact hx pins σ H1 s1 er s' I1 hq
  | .ok (.ret u), hq => exact I1.after hq
  | .ok .next, hq => exact hq.elim
  | .ok .brk, hq => exact hq.elim
  | .ok .cont, hq => exact hq.elim
end
theorem deeper_guards {A : Around} {env : Env} : (A.deeper env).guards = A.guards := rfl
section
variable {P : Program} {w : World} {K : PySem.W.Frag} {mg : Str → Option Value} {base : Heap}
/-- the rule for a def, where no guard stands around -/
theorem Fun.okG {x qual : Str} {st : Stmt} {f : Addr} {fd : FuncData} {N ps : List Str} {k : Nat} {sp : Sp} (F : Fun K x qual st f fd) (S : FnScope N ps (defScope st)) (len : ∀ vs H Q E, sp vs H Q E → vs.length = ps.length)
    (hbody : ∀ (cdv : Value) (A : Around) (outer : List Env) (s : Shared) (H : Hp) (vs : List V) (Q : VK) (E : XK), (A.deeper (envOfC qual (defScope st) s.heap.objs.size f cdv)).guards = some [] → Room k (A.deeper (envOfC qual (defScope st) s.heap.objs.size f cdv)) → sp vs H Q E →
      ∃ t, PSs (cxOf CX0 P w K mg base N qual (defScope st) f cdv A outer s H E).nox (defBody st) t ∧ t { nx := fun _ H' => Q .non H', rt := Q } (start N vs) H) : FnG P w K mg base CX0 (k + 1) f fd ps sp := by
  obtain ⟨oc, od, kV, doc, pm, an, cdv, ct, osl, rfl, lk, hcd⟩ := F.ex
  refine ⟨len, fun A outer s H args us vs Q E hgd hr e0 hb r hsp => ?_⟩
  have KX : K.In s.heap := e0.mod.kin.keeps fun b o e => (e0.bs b o e).1
  have lim : s.heap.NoLimit := e0.mod.nolimit.keeps fun b o e => (e0.bs b o e).1
  apply codeAny_call_function hr.depth (KX _ _ lk) rfl S.co S.gen rfl (PySem.W.codeRec_of KX hcd) (hb _ _ _ _ ?_)
  apply wpAny_newFunctionEnv_cells S.kind ?_ ?_
  · rintro ⟨n, v⟩ hy
    rcases S.par n (List.of_mem_zip hy).1 with q | q
    · exact Or.inl q
    · exact Or.inr ⟨q, PySem.W.cellsFrom_some _ _ _ (Or.inl q)⟩
  · intro env he s1 x
    subst he
    refine ⟨lim.keeps x.toInCall.keep, codeAny_func ?_⟩
    obtain ⟨t, ht, hq⟩ := hbody cdv A outer s H vs Q E (deeper_guards.trans hgd) (hr.deeper _) hsp
    have I := inv_start (CX := CX0) (E := E) S hr.hd e0 (len _ _ _ _ hsp) r x
    apply wpAny_mono (ht.nox.run [] s1 (start N vs) H _ I hq) ?_ fun e s' hs => hs
    intro fl s' hs
    match fl, hs with
    | .ret u, ⟨v, σ', H', J, rv, q⟩ => exact ⟨v, H', J.os, J.bare, J.base, J.hok, rv, q⟩
    | .next, ⟨σ', H', J, q⟩ => exact ⟨V.non, H', J.os, J.bare, J.base, J.hok, rfl, q⟩
    | .brk, ⟨_, _, _, q⟩ => exact q.elim
    | .cont, ⟨_, _, _, q⟩ => exact q.elim
end
end L2
namespace L2
open PySem PySem.Spec PyProof.Rows
section
variable {P : Program} {w : World} {K : PySem.W.Frag} {mg mb : Str → Option Value} {k : Nat} {fa a : Addr} {fd : FuncData} {x : Str} {sp : Sp} {s1 : Shared} {vs : List Value} {ns : List Int}
/-- the law's call, H telling nothing but, maybe, the script at a -/
theorem enterG {H : Hp} (KX : K.In s1.heap) (hns : s1.heap.Ns mainGlobals mg) (hb : s1.heap.Ns builtinsNs mb) (hbb : ∀ x : Str, x ≠ "__name__" → mb x = bootBuiltins x) (hlim : s1.heap.NoLimit) (hg : s1.gens = #[])
    (ha : s1.heap.get? a = some { cls := .type "list", data := .seq vs.toArray }) (hr : Room k callerA)
    (F : ∀ base : Heap, K.In base → base.Ns mainGlobals mg → FnG P w K mg base CX0 k fa fd [x] sp) (hbind : ∀ (s : Shared) (u : Value), BindsTo s fd ⟨[u], []⟩ [(x, u)])
    (hO : Only H) (hok : HOk P w H s1.heap) (hA : ∀ b, H b ≠ none → b = a) (hK : ∀ b o, K.lookup b = some o → H b = none) (hsp : sp [.ref a] H (fun v _ => v = .bl true) fun _ _ _ => False) :
    codeAny (model P w) callerA (.call (.ref fa) ⟨[.ref a], []⟩) (fun r s' => r = .ok (.ret (.bool true)) ∧ OldK s1.heap s'.heap ∧ s'.os = s1.os ∧ AllBare s'.gens) s1 := by
  have nsK : ∀ {b : Addr} {m : Str → Option Value}, s1.heap.Ns b m → (hidT s1.heap H).Ns b m := by
    rintro b m ⟨o, es, ep, e, d, r⟩
    have n : H b = none := by
      cases q : H b with
      | none => rfl
      | some u =>
        have z := hA b (by rw [q]; exact fun z => nomatch z)
        rw [z, ha] at e
        rw [← Option.some.inj e] at d
        exact nomatch d
    exact ⟨o, es, ep, hidT_get e n, d, r⟩
  have hKb : K.In (hidT s1.heap H) := fun b o e => hidT_get (KX b o e) (hK b o e)
  have e0 : Env0 P w K mg (hidT s1.heap H) callerA [] s1 H :=
    { frames := rfl, mod := ⟨hKb, nsK hns, ⟨mb, nsK hb, hbb⟩, hlim.elim fun mc h => ⟨mc, nsK h.1, h.2⟩⟩, bs := fun b o e => of_hidT e, bsz := Nat.le_of_eq (hidT_size _ _), funs := trivial, frf := fun b hb => (List.not_mem_nil hb).elim, hok := hok, bare := .of_eq hg }
  apply codeAny_mono ((F _ hKb (nsK hns)).run callerA [] s1 H ⟨[.ref a], []⟩ [.ref a] [.ref a] _ _ rfl hr e0 (hbind s1 (.ref a)) (.cons rfl .nil) hsp)
  intro r s' h
  match r, h with
  | .error e, h =>
    obtain ⟨_, _, _, h⟩ := h
  | .ok .next, h => exact h.elim
  | .ok .brk, h => exact h.elim
  | .ok .cont, h => exact h.elim
  | .ok (.ret u), ⟨v, H', os, bare, un, hok', r', q⟩ =>
    obtain rfl : v = .bl true := q
    obtain rfl : u = Value.bool true := r'
    refine ⟨rfl, OldK.of_keep fun b o e => ?_, os, bare⟩
    rcases hO b with z | ⟨ob, xs, z⟩
    · exact un.keep b o e z (List.not_mem_nil) (List.not_mem_nil)
    · have e1 := (hok b _ z).1
      have e2 := (hok' b _ (un.frzs b ob _ z)).1
      rw [e] at e1
      rw [Option.some.inj e1]
      exact e2
end
/-- the goal that the head leaves, from the law's promise, where the law's def calls repr -/
theorem walk_G {l : PySem.W.OpenLaw} {n k : Nat} {q : Program} {loose : List Str} {XP : (Str → Option Value) → Heap → Prop} {YP : World → Heap → Prop} {d : DefRec} {K : Params → PySem.W.Frag} {sp : PySem.W.Frag → Sp} {x : Str}
    (hn : l.most = some n) (hn2 : n ≤ sizeLine) (hdf : d.params.defaults = []) (hr : Room k callerA)
    (hY : ∀ (w : World) (h : Heap), YP w h → (K w.params).In h)
    (F : ∀ (w : World) (mg : Str → Option Value) (fa : Addr) (h : Heap), (K w.params).In h → h.Ns mainGlobals mg → mg d.name = some (.ref fa) →
      ∃ fd : FuncData, (∀ (s : Shared) (u : Value), BindsTo s fd ⟨[u], []⟩ [(x, u)]) ∧
        ∀ base : Heap, (K w.params).In base → base.Ns mainGlobals mg → FnG l.prog w (K w.params) mg base CX0 k fa fd [x] (sp (K w.params)))
    (hsp : ∀ (K : PySem.W.Frag) (H : Hp) (a : Addr) (ns : List Int), ns.length ≤ n → Only H → SqL K H a (ns.map V.int) → sp K [.ref a] H (fun v _ => v = .bl true) fun _ _ _ => False) :
    PySem.W.WalkO q loose XP YP l.row.toRowW d [] (fun f vs => PySem.call f vs) := by
  refine Att.attach_call hn hdf fun w s0 s1 mg mb fa o pm cd doc a vs ns G Y ho hd hcd hmg hobj hints hlen hg => ?_
  have KX := hY w _ Y
  obtain ⟨fd, hb, hF⟩ := F w mg fa _ KX G.T.g hmg
  have rv := vals_ints hints
  have lenV := hints.length
  have hl := Nat.le_trans hlen hn2
  cases hk : (K w.params).lookup a with
  | some ob =>
    have e := KX a ob hk
    rw [hobj] at e
    have e' := (Option.some.inj e).symm
    subst e'
    refine enterG (H := fun _ => none) KX G.T.g G.T.b G.T.builtins G.T.nolimit hg hobj hr hF hb (fun _ => .inl rfl) (fun b u z => nomatch (show (none : Option HO) = some u from z)) (fun b z => (z rfl).elim) (fun _ _ _ => rfl) ?_
    exact hsp (K w.params) _ a ns hlen (fun _ => .inl rfl) (.inr ⟨_, vs.toArray, _, hk, rfl, rfl, rfl, by rw [List.size_toArray, lenV]; exact hl, by simpa using rv⟩)
  | none =>
    have at_a : (fun b => if b = a then some (HO.frz { cls := .type "list", data := .seq vs.toArray } (.lst (ns.map V.int))) else none) a = some (HO.frz { cls := .type "list", data := .seq vs.toArray } (.lst (ns.map V.int))) := if_pos rfl
    have only : Only (fun b => if b = a then some (HO.frz { cls := .type "list", data := .seq vs.toArray } (.lst (ns.map V.int))) else none) := fun b => by
      by_cases z : b = a
      · exact .inr ⟨_, _, if_pos z⟩
      · exact .inl (if_neg z)
    refine enterG (H := fun b => if b = a then some (HO.frz { cls := .type "list", data := .seq vs.toArray } (.lst (ns.map V.int))) else none) KX G.T.g G.T.b G.T.builtins G.T.nolimit hg hobj hr hF hb only (fun b u z => ?_) (fun b z => ?_) (fun b ob z => ?_) ?_
    · by_cases y : b = a
      · subst y
        have z' := at_a.symm.trans z
        rw [← Option.some.inj z']
        exact ⟨hobj, by rw [List.length_map]; exact hl, vs, _, rv, hobj⟩
      · exact nomatch (if_neg y).symm.trans z
    · by_cases y : b = a
      · exact y
      · exact (z (if_neg y)).elim
    · refine if_neg fun y => ?_
      rw [y, hk] at z
      cases z
    · exact hsp (K w.params) _ a ns hlen only (.inl (.inr ⟨_, at_a⟩))
end L2

set_option Elab.async false
set_option linter.all false
set_option maxRecDepth 100000
set_option maxHeartbeats 2000000
/-! Several clauses 'except .. as e', one behind the other, all of them with one name. -/
namespace L2
open PySem PySem.Spec PyProof.Rows
/-- what stands behind the suite: the name is gone -/
def goneEnds (i : Nat) (D : Ends) : Ends :=
  { nx := fun u G => D.nx (u.set i none) G,
    rt := D.rt,
    bk := fun u G => D.bk (u.set i none) G,
    ct := fun u G => D.ct (u.set i none) G }
abbrev SuiteT := Addr → Value → Option Addr → TS
def wAll (K : PySem.W.Frag) (i : Nat) (Wo : WX) (D : Ends) : List (Value × SuiteT) → WX
  | [] => Wo
  | q :: l => fun cls d σ H =>
    ∃ b, PySem.W.exmOne K cls q.1 = some b ∧
      (b = true → ∀ a, H a = none → q.2 a cls d (goneEnds i D) (σ.set i (some (.ref a))) H) ∧
      (b = false → wAll K i Wo D l cls d σ H)
/-- the clauses and what their suites tell -/
inductive Clauses (X : Cx) (n : Str) : List ExceptHandler → List (Value × SuiteT) → Prop
  | last : Clauses X n [] []
  | more {x : Str} {c : Value} {ts : SuiteT} {b₀ : Stmt} {su : List Stmt} {p1 p2 : Pos} {hl : List ExceptHandler} {l : List (Value × SuiteT)} :
      Names X x c →
      (∀ (a : Addr) (oe : Obj) (cls : Value) (d : Option Addr) (pn : List (Addr × Obj)), Zc cls d oe → (∃ vs, oe.data = .fields vs) →
        PSs (X.suite a ((a, oe) :: pn)) (b₀ :: su) (ts a cls d)) →
      Clauses X n hl l → Clauses X n (.ExceptHandler (some (.Name x p1)) (some n) (b₀ :: su) p2 :: hl) ((c, ts) :: l)
section
variable {X : Cx} {n : Str} {i : Nat} {body : List Stmt} {h₀ : ExceptHandler} {hl : List ExceptHandler} {l : List (Value × SuiteT)} {pos : Pos} {tb : WX → TS} {Wo : WX}
theorem ps_tryAll (eS : X.stack = X.env :: X.outer) (eF : X.env.frame = some X.env.locals) (nd : X.N.Nodup) (ei : X.N[i]? = some n) (en : X.env.kindOf n = some .local) (tk : Takes X Wo)
    (hb : ∀ (W : WX) (pn : List (Addr × Obj)) (xe : Value → Shared → Prop), Takes (X.tr pn xe) W →
      PassesOwn (model X.prog X.w) X.A X.env xe → PSs (X.tr pn xe) body (tb W))
    (hc : Clauses X n (h₀ :: hl) l) :
    PS X (.Try body (h₀ :: hl) [] [] pos) (fun D σ H => tb (wAll X.K i Wo D l) D σ H) := by
  constructor
  intro pins s σ H D I hyp
  have iok := I.ok
  have fr : X.A.frames = some (X.env :: X.outer) := iok.frames.trans (congrArg some eS)
  apply wpAny_Try_except
  let XE : Value → Shared → Prop := fun e s₁ =>
    wpAny (model X.prog X.w) X.A (noteFrame e X.env) (fun _ s₂ =>
      wpAny (model X.prog X.w) X.A (setFlight e none) (fun _ s₃ =>
        wpAny (model X.prog X.w) X.A (handleBy e X.env (h₀ :: hl)) (SP X pins D) X.xe s₃) X.xe s₂) X.xe s₁
  have run := (hb (wAll X.K i Wo D l) (X.pn ++ pins) XE ?_ PassesOwn.looking).run [] s σ H D (I.toTry _) hyp
  · refine wpAny_mono run (fun f s1 sp => ?_) (fun e s1 q => q)
    match f, sp with
    | .next, ⟨u, G, J, q⟩ => exact wpAny_execs_nil ⟨u, G, J.ofTry iok, q⟩
    | .brk, ⟨u, G, J, q⟩ => exact ⟨u, G, J.ofTry iok, q⟩
    | .cont, ⟨u, G, J, q⟩ => exact ⟨u, G, J.ofTry iok, q⟩
    | .ret _, ⟨v, u, G, J, r, q⟩ => exact ⟨v, u, G, J.ofTry iok, r, q⟩
  · -- what flies out of the body
    rintro u s' ⟨a, B, sI, pins', τ, G, cls, d, rfl, J', nb, up, sky, na, os, ag, wish⟩
    have J : Inv X pins τ G sI := J'.ofTry iok
    have sky2 : Sky B (X.env :: X.outer) a (Zc cls d) X.env.locals s'.heap := eS ▸ sky
    show wpAny _ X.A (noteFrame (.ref a) X.env) _ _ _
    apply Sky.land Zc.steady fr eF sky2
    intro g3 fly3 up3
    have J3 : Inv X pins τ G { s' with heap := g3 } := J.landed nb fly3.1 (up.trans up3) os ag
    obtain ⟨o3, v3, at3, z3, d3⟩ := fly3.there
    have off : a ∉ frs (X.env :: X.outer) := by
      intro hm
      obtain ⟨_, o', e', hn⟩ := fly3.2.2.1.mem hm
      rw [at3] at e'
      cases e'
      exact hn _ d3
    have offL : a ≠ X.env.locals := by
      intro z
      exact off (List.mem_filterMap.mpr ⟨X.env, List.mem_cons_self, by rw [eF, z]⟩)
    have offF : a ∉ X.fs := by
      intro hm
      obtain ⟨e, he, q⟩ := List.mem_filterMap.mp hm
      exact off (List.mem_filterMap.mpr ⟨e, List.mem_cons_of_mem _ he, q⟩)
    have S3 := J3.suite at3 d3 na offL offF
    -- clause by clause
    suffices go : ∀ {hs : List ExceptHandler} {k : List (Value × SuiteT)}, Clauses X n hs k → wAll X.K i Wo D k cls d τ G →
        wpAny (model X.prog X.w) X.A (handleBy (.ref a) X.env hs) (SP X pins D) X.xe { s' with heap := g3 } from go hc wish
    intro hs k hk
    induction hk with
    | last =>
      intro out
      apply wpAny_handleBy_nil
      obtain ⟨k1, k2, k3, oe, vs, T, oT, ts', he, hz, hd, h1, hr⟩ := id fly3
      unfold PySem.passOn
      apply wpAny_bind
      apply wpAny_field he hd h1
      rw [if_neg (by simp : ¬ ((Value.ref T == Value.none) = true))]
      have thrown : wpAny (model X.prog X.w) X.A (setFlight (.ref a) X.env.frame) (fun _ s4 =>
          wpAny (model X.prog X.w) X.A (throw (.ref a) : Sem Flow) (SP X pins D) X.xe s4) X.xe { s' with heap := g3 } := by
        rw [eF]
        apply HandSPX.setFlight_upZ fly3
        intro g4 fly4 up4
        apply wpAny_throw
        apply tk
        exact ⟨a, B, sI, pins, τ, G, cls, d, rfl, J, nb, (up.trans up3).trans up4, .inr (.inr (eS ▸ fly4)), na, os, ag, out⟩
      first
        | exact wpAny_bind (wpAny_pure (wpAny_bind thrown))
        | exact wpAny_bind thrown
    | @more x c ts b₀ su p1 p2 hl2 l2 nm suite _ ih =>
      rintro ⟨b, eb, yes, no⟩
      have looks : PySem.W.Looks (model X.prog X.w) g3 (typeOf (.ref a)) cls := by
        intro A' Q' E' t k q
        exact wpAny_typeOf_ref (k _ _ at3) (by rw [z3.1]; exact q)
      have LM := PySem.W.exm_one (M := model X.prog X.w) (J3.kIn) looks eb
      apply wpAny_handleBy_cons (codeAny_handlers_test ?_) (by intro q; cases q)
      have named : ∀ {Q' : Value → Shared → Prop} {E' : Value → Shared → Prop}, Q' c { s' with heap := g3 } →
          wpAny (model X.prog X.w) (X.A.mark (some (.ref a))) (eval (.Name x p1) X.env) Q' E' { s' with heap := g3 } := by
        intro Q' E' q
        rcases nm with ⟨g, dbg, m | ⟨m, v, w⟩⟩
        · exact ld_glob (X := X.suite a ((a, o3) :: (X.pn ++ pins))) S3 g m q dbg
        · exact ld_blt (X := X.suite a ((a, o3) :: (X.pn ++ pins))) S3 g m v q w dbg
      apply named
      apply LM.here
      match b, yes, no with
      | false, _, no => exact ih (no rfl)
      | true, yes, _ =>
        apply codeAny_handlers_suite_as
        apply HandSPX.lands_againZ fly3
        intro g4 fly4 up4
        have J4 : Inv X pins τ G { s' with heap := g4 } := J.landed nb fly4.1 ((up.trans up3).trans up4) os ag
        obtain ⟨o4, v4, at4, z4, d4⟩ := fly4.there
        have S4 := J4.suite at4 d4 na offL offF
        apply store_ok (X := X.suite a ((a, o4) :: (X.pn ++ pins))) (v := .ref a) S4 nd ei (.inl en) rfl ?_ (.inr en)
        intro s5 S5
        have ran := (suite a o4 cls d (X.pn ++ pins) z4 ⟨_, d4⟩).run [] s5 _ G _ S5 (yes rfl a na)
        refine wpAny_mono ran (fun f s6 sp => ?_) (fun _ _ z => z.elim)
        have gone : ∀ {u : St} {K6 : Hp} {Q' : Shared → Prop}, Inv (X.suite a ((a, o4) :: (X.pn ++ pins))) [] u K6 s6 →
            (∀ s7, Inv X pins (u.set i none) K6 s7 → Q' s7) →
            wpAny (model X.prog X.w) X.A (do bindName X.env n .none; unbindBehindTheSuite X.env n p2) (fun _ s7 => Q' s7) X.xe s6 :=
          fun S6 q => gone_ok (S6.unsuite iok) nd ei en q
        match f, sp with
        | .next, ⟨_, _, S6, q⟩ => exact gone S6 fun _ J7 => ⟨_, _, J7, q⟩
        | .brk, ⟨_, _, S6, q⟩ => exact gone S6 fun _ J7 => ⟨_, _, J7, q⟩
        | .cont, ⟨_, _, S6, q⟩ => exact gone S6 fun _ J7 => ⟨_, _, J7, q⟩
        | .ret _, ⟨_, _, _, S6, r, q⟩ => exact gone S6 fun _ J7 => ⟨_, _, _, J7, r, q⟩
end
end L2

set_option Elab.async false
set_option linter.all false
set_option maxRecDepth 100000
set_option maxHeartbeats 2000000
/-! Further rules: isinstance of a caught error, list of a text, == of lists of unlike length, find, dicts shown. -/
namespace L2
open PySem PySem.Spec PyProof.Rows PySem.Builtin PySem.Builtin.Str
/-! ### find -/
theorem occ_stay (s sub : Str) (hi : Nat) : ∀ (l : List Nat) (st : Array Nat × Nat), st.1.size = 1 → (forIn l st (StrLaws.occBody s sub hi 1)).run.fst = st.1
  | [], st, h => rfl
  | a :: l, st, h => by
    rw [List.forIn_cons]
    unfold StrLaws.occBody
    rw [if_neg (fun z => by have := z.1.1.1; omega)]
    exact occ_stay s sub hi l _ h
theorem occ_one (s sub : Str) (hi : Nat) : ∀ (l : List Nat) (free : Nat), (∀ i ∈ l, free ≤ i) →
    (forIn l ((#[] : Array Nat), free) (StrLaws.occBody s sub hi 1)).run.fst.toList = (l.find? fun i => decide (i + sub.length ≤ hi) && subAt s sub i).toList
  | [], free, _ => rfl
  | a :: l, free, hf => by
    have ha : free ≤ a := hf a List.mem_cons_self
    rw [List.forIn_cons]
    by_cases c : a + sub.length ≤ hi ∧ subAt s sub a = true
    · rw [List.find?_cons_of_pos (by simp [c.1, c.2])]
      have e : StrLaws.occBody s sub hi 1 a ((#[] : Array Nat), free) = pure (ForInStep.yield ((#[] : Array Nat).push a, a + sub.length)) := by
        unfold StrLaws.occBody
        rw [if_pos ⟨⟨⟨by simp, ha⟩, c.1⟩, c.2⟩]
      rw [e]
      show (forIn l ((#[] : Array Nat).push a, a + sub.length) (StrLaws.occBody s sub hi 1)).run.fst.toList = _
      rw [occ_stay s sub hi l _ (by simp)]
      rfl
    · rw [List.find?_cons_of_neg (by simpa using c)]
      have e : StrLaws.occBody s sub hi 1 a ((#[] : Array Nat), free) = pure (ForInStep.yield ((#[] : Array Nat), free)) := by
        unfold StrLaws.occBody
        rw [if_neg (fun h => c ⟨h.1.2, h.2⟩)]
      rw [e]
      exact occ_one s sub hi l free fun i h => hf i (List.mem_cons_of_mem _ h)
theorem occ_find (s sub : Str) (lo hi : Nat) : occurrences s sub lo hi 1 = ((List.range' lo (hi + 1 - lo)).find? fun i => decide (i + sub.length ≤ hi) && subAt s sub i).toList := by
  rw [StrLaws.occ_eq]
  exact occ_one s sub hi _ lo fun i h => (List.mem_range'_1.mp h).1
/-- v stands in u at i -/
def AtL (u v : List Nat) (i : Nat) : Prop := i + v.length ≤ u.length ∧ (u.drop i).take v.length = v
theorem atL_iff (u v : List Nat) (i : Nat) : (decide (i + (S v).length ≤ (S u).length) && subAt (S u) (S v) i) = true ↔ AtL u v i := by
  rw [StrLaws.subAt_eq, Bool.and_eq_true, decide_eq_true_iff]
  show (i + (S v).length ≤ (S u).length ∧ (((cs (S u)).drop i).take (S v).length == cs (S v)) = true) ↔ _
  rw [S_tl, S_tl, S_len, S_len, beq_iff_eq]
  exact Iff.rfl
/-- the first place from lo on -/
def FindL (u v : List Nat) (lo : Nat) (r : Int) : Prop := (∃ i : Nat, r = i ∧ lo ≤ i ∧ AtL u v i ∧ ∀ j, lo ≤ j → j < i → ¬ AtL u v j) ∨ (r = -1 ∧ ∀ j, lo ≤ j → ¬ AtL u v j)
theorem find_range' {lo n : Nat} {p : Nat → Bool} {s : Nat} (h : (List.range' lo n).find? p = some s) : lo ≤ s ∧ p s = true ∧ ∀ t, lo ≤ t → t < s → p t = false := by
  obtain ⟨h1, i, hi, h2, h3⟩ := List.find?_eq_some_iff_getElem.mp h
  rw [List.getElem_range'] at h2
  subst h2
  refine ⟨by omega, h1, fun t ht hlt => ?_⟩
  have := h3 (t - lo) (by omega)
  rw [List.getElem_range'] at this
  rw [show lo + 1 * (t - lo) = t by omega] at this
  simpa using this
theorem occ_FindL (u v : List Nat) (lo : Nat) : FindL u v lo (match occurrences (S u) (S v) lo (S u).length 1 with | k :: _ => (k : Int) | [] => -1) := by
  rw [occ_find]
  cases h : (List.range' lo ((S u).length + 1 - lo)).find? fun i => decide (i + (S v).length ≤ (S u).length) && subAt (S u) (S v) i with
  | none =>
    right
    refine ⟨rfl, fun j hj z => ?_⟩
    have l := z.1
    have := List.find?_eq_none.mp h j (List.mem_range'_1.mpr ⟨hj, by rw [S_len]; omega⟩)
    exact this ((atL_iff u v j).mpr z)
  | some i =>
    left
    obtain ⟨h1, h2, h3⟩ := find_range' h
    refine ⟨i, rfl, h1, (atL_iff u v i).mp h2, fun j a b z => ?_⟩
    have := (atL_iff u v j).mpr z
    rw [h3 j a b] at this
    cases this
theorem find_FindL (u v : List Nat) : FindL u v 0 (Txt.find (S u) (S v)) := occ_FindL u v 0
theorem find3_FindL (u v : List Nat) (i : Nat) : FindL u v i (Txt.find3 (S u) (S v) (i : Int)) := by
  unfold Txt.find3
  rw [show fromIndex (S u).length (i : Int) = i by unfold fromIndex; rw [if_neg (by omega)]; omega]
  exact occ_FindL u v i
/-! ### list of a text -/
section
variable {X : Cx}
theorem call_listStr (hc : X.calm = true) : CallR X (.type "list") (fun xs H Q => ∃ z : List Nat, xs = [.str (S z)] ∧ z.length ≤ sizeLine ∧ ∀ l, H l = none → Q (.ref l) (upd H l (.lst (z.map fun c => V.str (S [c]))))) := by
  intro pins s σ H xs us Q I r h
  obtain ⟨z, rfl, hz, q⟩ := h
  obtain ⟨u, rfl, t, rfl⟩ := vals1 r
  refine call_list_str (I.ok.hd hc) (S z) t (fun h' tk acc' c' kp e hacc => ?_) (by show (S z).length ≤ sizeLine; rw [S_len]; exact hz)
  obtain ⟨hsz, hat⟩ := hacc
  have hsz' : acc'.size = z.length := hsz.trans (S_len z)
  refine ⟨.ref s.heap.objs.size, _, I.laid (t' := tk) kp (Nat.le_refl _) (show ObjOk X.prog X.w _ h' _ (.lst (z.map fun c => V.str (S [c]))) from ⟨by rw [List.length_map]; exact hz, acc'.toList, c', ?_, by rw [Array.toArray_toList]; exact e⟩), rfl, q _ (I.hok.fresh (Nat.le_refl _))⟩
  -- the items
  have go : ∀ (ys : List Nat) (vs : List Value), vs.length = ys.length → (∀ (i c : Nat), ys[i]? = some c → ∃ t, vs[i]? = some (Value.str ⟨#[c]⟩ t)) → Vals (ys.map fun c => V.str (S [c])) vs := by
    intro ys
    induction ys with
    | nil => intro vs h _; rw [List.length_eq_zero_iff.mp h]; exact .nil
    | cons c ys ih =>
      intro vs h k
      match vs, h with
      | v :: vs, h =>
        obtain ⟨t, e⟩ := k 0 c rfl
        obtain rfl := Option.some.inj e
        exact .cons ⟨t, rfl⟩ (ih vs (Nat.succ.inj h) fun i c hc => k (i + 1) c hc)
  refine go z acc'.toList (by rw [Array.length_toList]; exact hsz') fun i c hc => ?_
  have hi : i < z.length := (List.getElem?_eq_some_iff.mp hc).1
  have hv : acc'[i]? = some (acc'[i]'(by omega)) := Array.getElem?_eq_getElem _
  obtain ⟨c', t', hc', e'⟩ := hat i _ hv
  rw [e'] at hv
  have : (S z).cps[i]? = some c := by
    show z.toArray[i]? = some c
    rw [List.getElem?_toArray]; exact hc
  rw [this] at hc'
  obtain rfl := Option.some.inj hc'
  exact ⟨t', by rw [Array.getElem?_toList]; exact hv⟩
end
/-! ### isinstance of the error that the suite holds, with an own dict -/
def rIsEd (K : PySem.W.Frag) (C a : Addr) (cls : Value) (d : Option Addr) : List V → Hp → VK → Prop := fun xs H Q => ∃ (c : V) (cv : Value) (b : Bool) (dd : Addr) (fs : List (Str × V)), xs = [.ref a, c] ∧ ClsV c cv ∧ cls = .ref C ∧ d = some dd ∧ H dd = some (.xd fs) ∧ PySem.W.kitOne K (.ref C) cv = some b ∧ Q (.bl b) H
theorem call_isEd {X : Cx} {a C : Addr} {oe : Obj} {cls : Value} {d : Option Addr} {pn : List (Addr × Obj)} (T : ExcC X.K C) (hz : Zc cls d oe) (hf : ∃ vs, oe.data = .fields vs) : CallR (X.suite a ((a, oe) :: pn)) (.builtin "isinstance") (rIsEd X.K C a cls d) := by
  intro pins s σ H xs us Q I r h
  obtain ⟨c, cv, b, dd, fs, rfl, hcv, rfl, rfl, hd, e, q⟩ := h
  obtain ⟨u1, u2, rfl, r1, r2⟩ := vals2 r
  cases (show u1 = Value.ref a from r1)
  have ec := hcv.eq r2
  subst ec
  obtain ⟨hget, _⟩ := I.pin (a, oe) (List.mem_append.mpr (.inl List.mem_cons_self))
  obtain ⟨vs, hv⟩ := hf
  have hx : ObjOk X.prog X.w H s.heap dd (.xd fs) := I.hok dd _ hd
  obtain ⟨mA, hns, hr⟩ := hx
  obtain ⟨od, ho, hl⟩ := lookIn_ns hns
  have J : PySem.W.InstAt s.heap a oe C (some od) := ⟨hget, hz.1, by unfold PySem.W.notCls; rw [hv] <;> rfl, by rw [hz.2]; exact ho⟩
  obtain ⟨cd, hcd, _⟩ := PySem.W.any_some T.hd
  exact PySem.W.kia_one (PySem.W.kitx_exc (by rw [hcd]; rfl) T.hg T.hk T.hs T.ha T.hn T.ht T.hm) I.kIn J e (fun z => nomatch z) fun tk => ⟨.bl b, H, I.kept (t' := tk) fun _ _ z => z, rfl, q⟩
end L2
namespace GQ
open PySem PySem.Spec PyProof.Rows
section
variable {prog : Program} {w : World} {A : Around} {R : Result → Shared → Prop}
theorem list_eq_len (l b : Addr) (items items2 : Array Value) (n n2 : Nat) (hne : items.size ≠ items2.size) {s : Shared} (hl1 : s.heap.get? l = some { cls := .type "list", data := .seq items n }) (hb1 : s.heap.get? b = some { cls := .type "list", data := .seq items2 n2 })
    (fin : R (.ok (.ret (.bool false))) s) :
    wpAny (model prog w) A.in1 (Builtin.«list.__eq__» ⟨[.ref l, .ref b], []⟩) (FinOf prog w A R) (fun e s' => R (.error e) s') s := by
  obtain ⟨hp, g, d, tk, os⟩ := s
  have f3 := AutoSeq1.sub_list_list
  have hne' : (items.size != items2.size) = true := by simp [hne]
  wp_walk using wpAny_loadPart' hl1, wpAny_loadPart' hb1
  exact fin
end
section
variable {prog : Program} {w : World} {A : Around} {E : Value → Shared → Prop} {s : Shared}
theorem rc_list_len {l b : Addr} {items items2 : Array Value} {n n2 : Nat} {Q : Value → Shared → Prop} (hu : A.units < cLine) (hne : items.size ≠ items2.size) (hl1 : s.heap.get? l = some { cls := .type "list", data := .seq items n }) (hb1 : s.heap.get? b = some { cls := .type "list", data := .seq items2 n2 })
    (fin : Q (.bool false) s) : wpAny (model prog w) A (richCompare .Eq (.ref l) (.ref b)) Q E s := by
  refine wpAny_richCompare_same_room (op := .Eq) ⟨_, hl1, rfl⟩ ⟨_, hb1, rfl⟩ F.slot_list_eq (call_here F.slot_list_eq ⟨_, hl1, rfl⟩ F.entry_list_eq (F.args_list_eq_2 _ _) ?_) hu
  exact list_eq_len (R := wants (fun v s' => v ≠ .notImplemented ∧ Q v s') E) l b items items2 n n2 hne hl1 hb1 ⟨(fun x => nomatch x), fin⟩
end
end GQ
namespace L2
open PySem PySem.Spec PyProof.Rows PySem.Builtin PySem.Builtin.Str
section
variable {X : Cx}
/-- xs == ys of two lists of which one is empty -/
def rEqNil : R2 := fun x y H Q => ∃ p q xs ys, x = .ref p ∧ y = .ref q ∧ H p = some (.lst xs) ∧ H q = some (.lst ys) ∧ (xs = [] ∨ ys = []) ∧ Q (.bl (decide (xs.length = ys.length))) H
theorem op_eq_nil (hu : X.A.units < cLine) : OpR X (compareOp .Eq) rEqNil := by
  intro pins s σ H x y v u Q I rx ry h
  obtain ⟨p, q, xs, ys, rfl, rfl, hp, hq, hn, k⟩ := h
  cases (show v = Value.ref p from rx)
  cases (show u = Value.ref q from ry)
  obtain ⟨z1, its, n, r1, hl, e1⟩ := I.lstM hp
  obtain ⟨z2, its2, n2, r2, hl2, e2⟩ := I.lstM hq
  by_cases hl3 : xs.length = ys.length
  · have ex : xs = [] := by
      rcases hn with e | e
      · exact e
      · subst e; exact List.length_eq_zero_iff.mp hl3
    have ey : ys = [] := by
      rcases hn with e | e
      · subst e; exact List.length_eq_zero_iff.mp hl3.symm
      · exact e
    subst ex ey
    cases r1; cases r2
    rw [decide_eq_true hl3] at k
    exact GQ.rc_listG hu (N := 0) (fun i s' => i = 0 ∧ s' = s) (fun i s' hi => by obtain ⟨rfl, rfl⟩ := hi; exact ⟨_, _, _, _, e1, e2, rfl, rfl, fun h1 _ => absurd h1 (by simp)⟩) (fun s' hs => by obtain ⟨_, rfl⟩ := hs; exact ⟨.bl true, H, I, rfl, k⟩) ⟨rfl, rfl⟩
  · rw [decide_eq_false hl3] at k
    refine GQ.rc_list_len hu ?_ e1 e2 ⟨.bl false, H, I, rfl, k⟩
    have := r1.length
    have := r2.length
    simp only [List.size_toArray]
    omega
/-! ### dicts of flat values, shown -/
def FlatD : V → PyData → Prop := fun v d => (v = .non ∧ d = .none) ∨ (∃ b, v = .bl b ∧ d = .bool b) ∨ (∃ i, v = .int i ∧ d = .int i) ∨ ∃ z, v = .str z ∧ d = .str z
def keyD : Key → PyData
  | .inl i => .int i
  | .inr x => .str x
def DictD : List (Key × V) → List (PyData × PyData) → Prop := Paired fun p q => q.1 = keyD p.1 ∧ FlatD p.2 q.2
/-- data, or a dict of flat values -/
def Ds (K : PySem.W.Frag) (H : Hp) (x : V) (d : PyData) : Prop := Dp K H x d ∨ ∃ a kvs ds, x = .ref a ∧ H a = some (.dK kvs) ∧ d = .dict ds ∧ DictD kvs ds
def rReprD (K : PySem.W.Frag) : List V → Hp → VK → Prop := fun xs H Q => ∃ x d, xs = [x] ∧ Ds K H x d ∧ d.showable = true ∧ d.depth ≤ 60 ∧ d.shown.length ≤ sizeLine ∧ Q (.str d.shown) H
theorem FlatD.reads {v : V} {d : PyData} {u : Value} {h : Heap} (f : FlatD v d) (r : RelV v u) : Reads h u d [] := by
  rcases f with ⟨rfl, rfl⟩ | ⟨b, rfl, rfl⟩ | ⟨i, rfl, rfl⟩ | ⟨z, rfl, rfl⟩
  · cases (show u = Value.none from r); exact .none
  · cases (show u = Value.bool b from r); exact .bool _
  · obtain ⟨t, rfl⟩ := r; exact .int _ _
  · obtain ⟨t, rfl⟩ := r; exact .str _ _
theorem keyD_reads {k : Key} {u : Value} {h : Heap} (e : keyIs k u = true) : Reads h u (keyD k) [] := by
  rcases keyIs_shape e with ⟨i, t, rfl, rfl⟩ | ⟨x, t, rfl, rfl⟩
  · exact .int _ _
  · exact .str _ _
theorem dictD_reads {h : Heap} {P : Program} {w : World} {kvs : List (Key × V)} {ds : List (PyData × PyData)} (dd : DictD kvs ds) : ∀ {vs : List (Key × Value)} {es : List DictEntry}, KV kvs vs → Pairs (mixKind P w) es vs →
    ReadsAll h (es.map (·.key)) (ds.map (·.1)) [] ∧ ReadsAll h (es.map (·.val)) (ds.map (·.2)) [] := by
  unfold DictD at dd
  induction dd with
  | nil =>
    intro vs es kv ps
    cases kv
    cases ps
    exact ⟨.nil, .nil⟩
  | @cons p q l1 l2 h1 _ ih =>
    intro vs es kv ps
    unfold KV at kv
    cases kv with
    | cons a t =>
      cases ps with
      | cons hk hv hp =>
        obtain ⟨i1, i2⟩ := ih t hp
        obtain ⟨e1, f⟩ := h1
        obtain ⟨ka, ra⟩ := a
        refine ⟨.cons (as := []) (bs := []) ?_ i1, .cons (as := []) (bs := []) ?_ i2⟩
        · show Reads h _ q.1 []
          rw [e1, ka]
          exact keyD_reads hk
        · have := f.reads (h := h) ra
          rw [← hv] at this
          exact this
theorem call_reprD (hc : X.A.guards = some []) (hu : X.A.units + 64 < cLine) : CallR X (.builtin "repr") (rReprD X.K) := by
  intro pins s σ H xs us Q I r h
  obtain ⟨x, d, rfl, hd, hs, hdp, hz, q⟩ := h
  rcases hd with hd | ⟨a, kvs, ds, rfl, ha, rfl, dd⟩
  · exact call_repr hc hu pins s σ H _ us Q I r ⟨x, d, rfl, .inl hd, hs, hdp, hz, q⟩
  · obtain ⟨u, rfl, r1⟩ := vals1 r
    obtain rfl : u = Value.ref a := r1
    obtain ⟨_, hsys, vs, hkv, od, es, ep, hget, hcl, hdat, hko, hps, _⟩ : ObjOk X.prog X.w H s.heap a (.dK kvs) := I.hok a _ ha
    obtain ⟨i1, i2⟩ := dictD_reads (h := s.heap) dd hkv hps
    have rd : Reads s.heap (.ref a) (.dict ds) (a :: [] ++ []) := .dict hget hcl.1 hdat i1 i2
    refine repr_of_reads' rd hs (fun _ hm => ?_) hc (by omega) (fun _ _ e => e) (fun h' u tk k => ⟨.str _, H, I.kept k, ⟨_, rfl⟩, q⟩) hz
    have e : sysModules = a := by simpa using hm
    rw [← e] at hsys
    exact absurd hsys (by decide)
end
end L2

set_option Elab.async false
set_option linter.all false
set_option maxRecDepth 100000
set_option maxHeartbeats 2000000
/-! A text from its end; != [] -/
namespace L2
open PySem PySem.Spec PyProof.Rows PySem.Builtin PySem.Builtin.Str
def tRevS (te : TE) : TE := fun σ H Q => te σ H fun x H1 => ∃ z : List Nat, x = .str (S z) ∧ z.length ≤ sizeLine ∧ Q (.str (S z.reverse)) H1
theorem strSl_rev (n : Nat) : strSliceIndices none none (-1) n = (List.range n).reverse := by
  unfold strSliceIndices
  show sliceRange ((n : Int) - 1) (-1) (-1) = _
  rw [PySem.W.krv_sliceRange, PySem.W.krv_range]
theorem pe_revS {X : Cx} {pos : Pos} {e : Expr} {te : TE} {k : Nat} {p1 p2 p3 : Pos} (he : PE X e te) : PE X (.Subscript e (.Slice none none (some (.UnaryOp .USub (.Constant (.int 1) k p1) p2)) p3) pos) (tRevS te) := by
  refine ⟨fun pins s σ H Q I h => ?_⟩
  refine Subscript_ (thn (he.run pins s σ H _ I h) fun v s1 ⟨x, H1, I1, r1, q1⟩ => ?_)
  obtain ⟨z, ex, hz, q⟩ := q1
  subst ex
  obtain ⟨t, rfl⟩ := r1
  have hst : PO X (some (.UnaryOp .USub (.Constant (.int 1) k p1) p2)) (tPart (tUn (rU fun i => .int (-i)) (tC (.int 1)))) := po_some (pe_un un_neg pe_int)
  refine wpAny_Slice (thn (po_none.run pins s1 σ H1 (fun o H2 => o = none ∧ H2 = H1) I1 ⟨rfl, rfl⟩) fun vl s2 ⟨l, H2, I2, pl, el, e2⟩ => ?_)
  subst el e2
  refine thn (po_none.run pins s2 σ H2 (fun o H3 => o = none ∧ H3 = H2) I2 ⟨rfl, rfl⟩) fun vu s3 ⟨u, H3, I3, pu, eu, e3⟩ => ?_
  subst eu e3
  refine thn (hst.run pins s3 σ H3 (fun o H4 => o = some (-1) ∧ H4 = H3) I3 ⟨1, rfl, -1, rfl, rfl, rfl⟩) fun vs s4 ⟨o, H4, I4, ps, eo, e4⟩ => ?_
  subst eo e4
  have I5 : Inv X pins σ H4 { s4 with heap := s4.heap.push { cls := .type "slice", data := .fields #[vl, vu, vs] } } := I4.kept (t' := s4.toks) fun b ob q => Heap.get?_push_of_some _ q
  obtain ⟨l', rfl, hl'⟩ := IsPart.raw pl
  obtain ⟨u', rfl, hu'⟩ := IsPart.raw pu
  obtain ⟨st', rfl, hs'⟩ := IsPart.raw ps
  have el : l' = none := by cases l' with | none => rfl | some p => cases hl'
  have eu : u' = none := by cases u' with | none => rfl | some p => cases hu'
  obtain ⟨tk, rfl⟩ : ∃ tk, st' = some (-1, tk) := by
    cases st' with
    | none => cases hs'
    | some p =>
      obtain ⟨a, b⟩ := p
      refine ⟨b, ?_⟩
      have : a = -1 := by
        have h := hs'
        simp at h
        omega
      rw [this]
  subst el eu
  show wpAny (model X.prog X.w) X.A (subscriptTail e (.Slice none none (some (.UnaryOp .USub (.Constant (.int 1) k p1) p2)) p3) (.str (S z) t) (.ref s4.heap.objs.size)) (EP X pins σ Q) X.xe _
  refine tail_any (ops := [.ref s4.heap.objs.size]) (typeIs_str _ _ _) F.slot_str_getitem.lookup ?_ (by with_unfolding_all rfl)
  refine wpAny_getItem_str_slice (l := none) (u := none) (st := some (-1, tk)) ⟨_, Heap.get?_push_size _ rfl, rfl, rfl⟩ (by rfl) ?_
  have e : ((strSliceIndices none none (-1) (S z).length).filterMap ((S z).cps[·]?)).toArray = z.reverse.toArray := by
    rw [strSl_rev, List.filterMap_reverse]
    have := PySem.W.krv_all (S z).cps
    rw [show (S z).length = (S z).cps.size from rfl, this]
    simp [S]
  show Made.post (if ((-1 : Int) == 1 && (strSliceIndices none none (-1) (S z).length).length == (S z).length) = true then Made.val (.str (S z) t)
    else Made.str ⟨((strSliceIndices none none (-1) (S z).length).filterMap ((S z).cps[·]?)).toArray⟩) (EP X pins σ Q) _
  rw [if_neg (by rw [show ((-1 : Int) == 1) = false from rfl, Bool.false_and]; exact Bool.false_ne_true), e]
  exact ⟨by show (S z.reverse).length ≤ sizeLine; rw [S_len, List.length_reverse]; exact hz, .str _, H4, I5.tok _, ⟨_, rfl⟩, q⟩
end L2
namespace L2
open PySem PySem.Spec PyProof.Rows
/-! ### rules with the written part given from outside (within comprehensions) -/
section
variable {X : Cx} {K : PySem.W.Frag}
def rJn (K : PySem.W.Frag) : V → List V → Hp → VK → Prop := fun sep args H Q => ∃ (z : Str) (at_ : Addr) (parts : List Str), sep = .str z ∧ args = [.ref at_] ∧
  (SqL K H at_ (parts.map V.str) ∨ SqT K H at_ (parts.map V.str)) ∧ (parts.map (·.length)).sum + parts.length * z.length ≤ 16777216 ∧ Q (.str (Txt.join z parts)) H
theorem mt_joinK (e : X.K = K) : MtR X "str.join" (rJn K) := by subst e; exact mt_join
theorem pi_listK {tg it : Expr} {te : TE} (e : X.K = K) (h : PE X it te) : PI X tg it (iList K te) := by subst e; exact pi_list h
theorem sl_listK (e : X.K = K) : SlR X (rSlL K) := by subst e; exact sl_list
theorem castK {x : Expr} (f : PySem.W.Frag → TE) (e : X.K = K) (h : PE X x (f X.K)) : PE X x (f K) := e ▸ h
end
end L2

set_option Elab.async false
set_option linter.all false
set_option maxRecDepth 100000
set_option maxHeartbeats 4000000
/-! What the laws share: the box of draws, what stands, texts of small letters, what is shown. -/
namespace My
open PySem PySem.Spec PyProof.Rows L2
/-! ### the law's box of draws -/
def BoxO (n : Nat) (o : HO) : Prop := ∃ (a m c : Int) (b : Bool), o = .lst [.int a, .bl b, .int m, .int c] ∧ 0 ≤ m ∧ m < 2147483648 ∧ 0 ≤ c ∧ c ≤ n
def BoxAt (H : Hp) (p : Addr) (n : Nat) : Prop := ∃ o, H p = some o ∧ BoxO n o
theorem BoxAt.mono {H : Hp} {p : Addr} {n m : Nat} (h : BoxAt H p n) (l : n ≤ m) : BoxAt H p m := by
  obtain ⟨o, e, a, m', c, b, e2, h1, h2, h3, h4⟩ := h
  exact ⟨o, e, a, m', c, b, e2, h1, h2, h3, by omega⟩
/-- all but the box stands -/
def Kp (p : Addr) (H H' : Hp) : Prop := ∀ b o, b ≠ p → H b = some o → H' b = some o
theorem Kp.refl (p : Addr) (H : Hp) : Kp p H H := fun _ _ _ e => e
theorem Kp.trans {p : Addr} {H H1 H2 : Hp} (a : Kp p H H1) (b : Kp p H1 H2) : Kp p H H2 := fun c o n e => b c o n (a c o n e)
theorem Kp.of {p : Addr} {H H' : Hp} (s : Same H H') : Kp p H H' := fun b o _ e => s b o e
theorem Kp.new {p q : Addr} {H H' : Hp} {o : HO} (k : Kp p H H') (h : H' q = none) : Kp p H (upd H' q o) := fun b ob n e => by
  have := k b ob n e
  rw [upd_ne (ne_of_none this h)]; exact this
theorem BoxAt.new {p q : Addr} {H : Hp} {o : HO} {n : Nat} (h : BoxAt H p n) (hq : H q = none) : BoxAt (upd H q o) p n := by
  obtain ⟨ob, e, r⟩ := h
  exact ⟨ob, by rw [upd_ne (ne_of_none e hq)]; exact e, r⟩
theorem BoxAt.same {p : Addr} {H H' : Hp} {n : Nat} (h : BoxAt H p n) (s : Same H H') : BoxAt H' p n := by
  obtain ⟨ob, e, r⟩ := h
  exact ⟨ob, s _ _ e, r⟩
theorem Same.new {q : Addr} {H H' : Hp} {o : HO} (k : Same H H') (h : H' q = none) : Same H (upd H' q o) := fun b ob e => by
  have := k b ob e
  rw [upd_ne (ne_of_none this h)]; exact this
theorem cutV_to (xs : List V) (n : Nat) : cutV xs none (some (n : Int)) = xs.take n := by
  unfold cutV
  rw [HT.sIx_none, sIx_some, List.drop_zero, Nat.sub_zero]
  rcases Nat.le_total n xs.length with h | h
  · rw [Nat.min_eq_left h]
  · rw [Nat.min_eq_right h, List.take_of_length_le h, List.take_of_length_le (Nat.le_refl _)]
theorem Kp.upd {p : Addr} {H H' : Hp} {o : HO} (k : Kp p H H') : Kp p H (upd H' p o) := fun b ob n e => by
  rw [upd_ne n]; exact k b ob n e
theorem BoxO.at {H : Hp} {p : Addr} {n : Nat} {o : HO} (h : BoxO n o) : BoxAt (upd H p o) p n := ⟨o, upd_same, h⟩
def isT (z : Str) : Bool := (cs z).all low
def Big (u : List Nat) : Prop := u.length ≤ 100000
theorem Big.fits {u : List Nat} (h : Big u) : (S u).length ≤ sizeLine := by rw [S_len]; exact Nat.le_trans h (by decide)
theorem Big.lt {n : Nat} (h : n ≤ 100000) : n < sizeLine := Nat.lt_of_le_of_lt h (by decide)
theorem Big.dbl {u : List Nat} (h : Big u) : (S u).length + (S u).length ≤ sizeLine := by
  rw [S_len]
  have : u.length ≤ 100000 := h
  exact Nat.le_trans (by omega) (by decide : 200000 ≤ sizeLine)
theorem Big.two {a : Nat} {t : List Nat} (h : Big t) : (S (t.drop a)).length + (S (t.take a)).length ≤ sizeLine := by
  rw [S_len, S_len]
  have : t.length ≤ 100000 := h
  exact Nat.le_trans (by rw [List.length_drop, List.length_take]; omega) (by decide : 200000 ≤ sizeLine)
theorem tYesT {σ : L2.St} {H : Hp} {A B : Hp → Prop} (h : A H) : tYes σ H (fun b H3 => if b = true then A H3 else B H3) := by
  show (if true = true then A H else B H)
  rw [if_pos rfl]; exact h
theorem ixN_nat {n j : Nat} (h : j < n) : ixN n (j : Int) = some j := by
  unfold ixN
  rw [if_pos (by omega), if_pos (by omega), Int.toNat_natCast]
theorem ix_listK {X : Cx} {K : PySem.W.Frag} (e : X.K = K) : IxR X (rIxL K) := by rw [← e]; exact ix_list
/-! ### rounds as a product -/
theorem foldl_rep (x : Array Nat) : ∀ (n : Nat) (b : Array Nat), (List.replicate n x).foldl (· ++ ·) b = b ++ (Lev.rounds n x.toList).toArray
  | 0, b => by simp [Lev.rounds]
  | n + 1, b => by
    rw [List.replicate_succ, List.foldl_cons, foldl_rep x n]
    simp [Lev.rounds]
    obtain ⟨x⟩ := x
    simp
theorem rounds_nil : ∀ n, Lev.rounds n ([] : List Nat) = []
  | 0 => rfl
  | n + 1 => by simp [Lev.rounds, rounds_nil n]
theorem mul_S (x : List Nat) (n : Nat) : Txt.mul (S x) (n : Int) = S (Lev.rounds n x) := by
  unfold Txt.mul
  by_cases h : n = 0
  · subst h; rfl
  · rw [if_neg (by omega)]
    by_cases h1 : ((n : Int) == 1 || (S x).length == 0) = true
    · rw [if_pos h1]
      simp only [Bool.or_eq_true, beq_iff_eq] at h1
      rcases h1 with e | e
      · have : n = 1 := by omega
        subst this
        simp [Lev.rounds]
      · rw [S_len] at e
        have : x = [] := List.eq_nil_of_length_eq_zero e
        subst this
        rw [rounds_nil]
    · rw [if_neg h1, Int.toNat_natCast, foldl_rep]
      simp [S]
theorem mulOk_S {x : List Nat} {n : Nat} (hx : x.length ≤ 1000) (hn : n ≤ 1000) : MulOk (S x) (n : Int) := by
  refine ⟨?_, fun _ _ => ?_, fun _ _ => ?_⟩
  · simp only [Bool.or_eq_false_iff, decide_eq_false_iff_not]; omega
  · rw [S_len]
    rcases Nat.eq_zero_or_pos n with e | e
    · subst e; contradiction
    · have : ((2 : Int) ^ 63 - 1) / n ≥ ((2 : Int) ^ 63 - 1) / 1000 := by
        have h1 : (2 ^ 63 - 1 : Int) / 1000 * n ≤ 2 ^ 63 - 1 := by omega
        exact Int.le_ediv_of_mul_le (by omega) h1
      omega
  · rw [S_len, Int.toNat_natCast]
    have : x.length * n ≤ 1000 * 1000 := Nat.mul_le_mul hx hn
    show decide (x.length * n > sizeLine) = false
    rw [decide_eq_false_iff_not]
    exact Nat.not_lt.mpr (Nat.le_trans this (by decide))
/-! ### letters -/
def Low (t : List Nat) : Prop := ∀ c ∈ t, low c = true
theorem Low.isT {t : List Nat} (h : Low t) : isT (S t) = true := by
  unfold My.isT
  rw [S_tl]
  exact List.all_eq_true.mpr h
theorem Low.append {t u : List Nat} (h : Low t) (g : Low u) : Low (t ++ u) := fun c hc => by
  rcases List.mem_append.mp hc with q | q
  · exact h c q
  · exact g c q
theorem Low.take {t : List Nat} (h : Low t) (n : Nat) : Low (t.take n) := fun c hc => h c (List.mem_of_mem_take hc)
theorem Low.drop {t : List Nat} (h : Low t) (n : Nat) : Low (t.drop n) := fun c hc => h c (List.mem_of_mem_drop hc)
theorem Low.nil : Low [] := fun c hc => by cases hc
theorem Low.one {c : Nat} (h : low c = true) : Low [c] := fun d hd => by rw [List.mem_singleton.mp hd]; exact h
theorem Kp.free {p D : Addr} {H H' : Hp} {o : HO} (k : Kp p H H') (h : H D = none) : Kp p H (L2.upd H' D o) := fun b ob n e => by
  rw [upd_ne (ne_of_none e h)]; exact k b ob n e
theorem BoxAt.other {p q : Addr} {H : Hp} {o : HO} {n : Nat} (h : BoxAt H p n) (hq : p ≠ q) : BoxAt (upd H q o) p n := by
  obtain ⟨ob, e, r⟩ := h
  exact ⟨ob, by rw [upd_ne hq]; exact e, r⟩
theorem BoxAt.ne {p q : Addr} {H : Hp} {n : Nat} (h : BoxAt H p n) (hq : H q = none) : p ≠ q := by
  obtain ⟨ob, e, r⟩ := h
  exact ne_of_none e hq
theorem ones_sum (t : List Nat) : (List.map ((fun x : Str => x.length) ∘ fun c => S [c]) t).sum = t.length := by
  induction t with
  | nil => rfl
  | cons c r ih => rw [List.map_cons, List.sum_cons, ih, List.length_cons]; show 1 + _ = _; omega
theorem alpha_at {d : Nat} (h : d < 26) : atI (Str.ofString "abcdefghijklmnopqrstuvwxyz").cps.toList (d : Int) = some (97 + d) := by
  have e : (Str.ofString "abcdefghijklmnopqrstuvwxyz").cps.toList = (List.range 26).map (97 + ·) := by decide +kernel
  rw [e]
  exact atI_nat (by rw [List.getElem?_map, List.getElem?_range h]; rfl)
theorem low_alpha {d : Nat} (h : d < 26) : low (97 + d) = true := by
  unfold low; simp; omega
theorem join_ones (t : List Nat) : Txt.join (Str.ofString "") (t.map fun c => S [c]) = S t := by
  rw [TL.join_eq]
  have e : cs (Str.join (Str.ofString "") (t.map fun c => S [c])) = t := by
    rw [show cs (Str.join (Str.ofString "") (t.map fun c => S [c])) = TL.tl (Str.join (Str.ofString "") (t.map fun c => S [c])) from rfl, TL.tl_join, List.map_map]
    have go : ∀ t : List Nat, TL.joinL [] (t.map fun c => [c]) = t := by
      intro t
      induction t with
      | nil => rfl
      | cons c r ih =>
        cases r with
        | nil => rfl
        | cons d r => show [c] ++ ([] ++ TL.joinL [] ((d :: r).map fun c => [c])) = _; rw [ih]; rfl
    exact go t
  rw [← S_of (Str.join _ _), e]
/-- whether a value is a text, as is_text says -/
def Jd (K : PySem.W.Frag) (H : Hp) (x : V) (b : Bool) : Prop := (∃ z, x = .str z ∧ b = isT z) ∨ ∃ t, TyX K H x (.type t) ∧ kitB t "str" = some false ∧ b = false
/-- an error of class C, made of x -/
def Bad (C : Addr) (H : Hp) (x : V) (E : XK) : Prop := ∀ d H', Same H H' → H d = none → H' d = some (.xd (gvn x)) → E (.ref C) (some d) H'
theorem tyOf_same {K : PySem.W.Frag} {H H' : Hp} {x : V} {t : Value} (h : TyOf K H x t) (s : Same H H') : TyOf K H' x t := by
  cases h
  case non => exact .non
  case bl => exact .bl _
  case int => exact .int _
  case str => exact .str _
  case flt => exact .flt _
  case lst e => exact .lst (s _ _ e)
  case frz e => exact .frz (s _ _ e)
  case tup e => exact .tup (s _ _ e)
  case dK e => exact .dK (s _ _ e)
  case dT e => exact .dT (s _ _ e)
  case ins e cl ha hn htk hm => exact .ins (s _ _ e) cl ha hn htk hm
theorem tyX_same {K : PySem.W.Frag} {H H' : Hp} {x : V} {t : Value} (h : TyX K H x t) (s : Same H H') : TyX K H' x t := by
  cases h
  case base e => exact .base (tyOf_same e s)
  case byt => exact .byt _
  case set e => exact .set (s _ _ e)
  case kList e c => exact .kList e c
  case kTuple e c => exact .kTuple e c
  case kDict e c => exact .kDict e c
  case fTuple e => exact .fTuple (s _ _ e)
  case fDict e => exact .fDict (s _ _ e)
theorem Jd.same {K : PySem.W.Frag} {H H' : Hp} {x : V} {b : Bool} (h : Jd K H x b) (s : Same H H') : Jd K H' x b := by
  rcases h with h | ⟨t, h1, h2, h3⟩
  · exact .inl h
  · exact .inr ⟨t, tyX_same h1 s, h2, h3⟩
/-! ### what can be shown -/
def Sh (d : PyData) : Prop := d.showable = true ∧ d.depth ≤ 60 ∧ d.shown.length ≤ sizeLine
theorem sh_of {d : PyData} (h1 : d.showable = true) (h2 : d.depth ≤ 60) (h3 : d.leavesShort 40 = true) (h4 : d.weight ≤ 100000) : Sh d := by
  refine ⟨h1, h2, ?_⟩
  have e := PyData.shown_le 40 (by omega) d h3
  exact Nat.le_trans e (Nat.le_trans (by omega : (40 + 2) * d.weight + 40 ≤ 4200040) (by decide))
theorem log2_20 {r : Nat} (h : r < 1048576) : r.log2 < 20 := PySem.Flt.log2_lt_of (by decide) h
theorem short_int {r : Nat} (h : r < 1048576) : (PyData.int r).leavesShort 40 = true := by
  have e := int_text_length_le (a := (r : Int)) (k := 20) (by decide) (log2_20 h)
  have e2 : (PyData.int (r : Int)).shown = Str.ofString (toString (r : Int)) := by simp only [PyData.shown]
  unfold PyData.leavesShort
  refine decide_eq_true ?_
  rw [e2, PySem.ofString_length]
  omega
theorem show_int {r : Nat} (h : r < 1048576) : (PyData.int r).showable = true := by
  simp only [PyData.showable, decide_eq_true_eq]
  exact Nat.lt_trans (log2_20 h) (by decide)
theorem weight_int {r : Nat} (h : r < 1048576) : (PyData.int r).weight ≤ 21 := by
  simp only [PyData.weight]
  have := log2_20 h
  split
  · omega
  · show (r : Int).natAbs.log2 + 1 ≤ 21
    rw [Int.natAbs_natCast]; omega
theorem un64 {k : Nat} {A : Around} (hr : Room k A) : A.units + 64 < cLine := by have := hr.un; omega
theorem neSame {z : Str} {A B : Prop} (h : B) : if (!decide (V.str z = V.str z)) = true then A else B := by
  rw [decide_eq_true rfl]; exact iteF h
theorem jd_low {K : PySem.W.Frag} {H : Hp} {t : List Nat} (h : Low t) : Jd K H (.str (S t)) true := .inl ⟨_, rfl, h.isT.symm⟩
theorem eqT {i : Int} {A B : Prop} (h : A) : if decide (V.int i = V.int i) = true then A else B := by
  rw [decide_eq_true rfl]; exact iteT h
theorem eqF {i j : Int} {A B : Prop} (n : i ≠ j) (h : B) : if decide (V.int i = V.int j) = true then A else B := by
  rw [decide_eq_false (fun z => n (V.int.inj z))]; exact iteF h
theorem through2 {t : TE} {σ : L2.St} {H : Hp} {Q : VK} (R : V → Hp → Prop) (h : ∀ Q' : VK, (∀ v H', R v H' → Q' v H') → t σ H Q') (rest : ∀ v H', R v H' → Q v H') : t σ H Q := h Q rest
theorem eqS {z : Str} {A B : Prop} (h : A) : if decide (V.str z = V.str z) = true then A else B := by
  rw [decide_eq_true rfl]; exact iteT h
theorem dp_same {K : PySem.W.Frag} {H H' : Hp} (s : Same H H') {x : V} {d : PyData} (h : Dp K H x d) : Dp K H' x d :=
  Dp.rec (motive_1 := fun x d _ => Dp K H' x d) (motive_2 := fun xs ds _ => DpAll K H' xs ds) .non (fun _ => .bl _) (fun _ => .int _) (fun _ => .str _)
    (fun hs _ ih => .lst (hs.ext s) ih) (fun hs _ ih => .tup (hs.elim (fun h => .inl (h.elim (fun h => .inl (s _ _ h)) fun ⟨o, h⟩ => .inr ⟨o, s _ _ h⟩)) fun h => .inr h) ih) .nil (fun _ _ i1 i2 => .cons i1 i2) h
theorem Ds.same {K : PySem.W.Frag} {H H' : Hp} (s : Same H H') {x : V} {d : PyData} (h : Ds K H x d) : Ds K H' x d := by
  rcases h with h | ⟨a, kvs, ds, e, ea, r⟩
  · exact .inl (dp_same s h)
  · exact .inr ⟨a, kvs, ds, e, s _ _ ea, r⟩
theorem Kp.toSame {p : Addr} {H H1 H2 : Hp} (k : Kp p H1 H2) (s : Same H H1) (h : H p = none) : Same H H2 := fun b o e => k b o (ne_of_none e h) (s b o e)
theorem sh_str {z : List Nat} (h : z.length ≤ 1000) (hc : ∀ c ∈ z, c < 200) : Sh (.str (S z)) := by
  refine sh_of (by simp only [PyData.showable]) (by simp only [PyData.depth]; omega) ?_ ?_
  · unfold PyData.leavesShort
    rw [List.all_eq_true]
    intro c hcm
    have : c ∈ z := by rw [← S_tl z]; exact hcm
    have := hc c this
    exact decide_eq_true (by omega)
  · unfold PyData.weight
    show (S z).length ≤ 100000
    rw [S_len]; omega
/-! ### data that is small enough to be shown -/
structure Fit (x : PyData) (k w : Nat) : Prop where
  s : x.showable = true
  d : x.depth ≤ k
  l : x.leavesShort 40 = true
  w : x.weight ≤ w
structure FitAll (ds : List PyData) (k w : Nat) : Prop where
  s : PyData.showableAll ds = true
  d : PyData.depthAll ds ≤ k
  l : PyData.leavesShortAll 40 ds = true
  w : PyData.weightAll ds ≤ w
structure FitKv (ds : List (PyData × PyData)) (k w : Nat) : Prop where
  s : PyData.showableKv ds = true
  d : PyData.depthKv ds ≤ k
  l : PyData.leavesShortKv 40 ds = true
  w : PyData.weightKv ds ≤ w
theorem Fit.sh {d : PyData} {k w : Nat} (h : Fit d k w) (hk : k ≤ 60) (hw : w ≤ 100000) : Sh d := sh_of h.s (Nat.le_trans h.d hk) h.l (Nat.le_trans h.w hw)
theorem Fit.mono {d : PyData} {k w k' w' : Nat} (h : Fit d k w) (hk : k ≤ k') (hw : w ≤ w') : Fit d k' w' := ⟨h.s, Nat.le_trans h.d hk, h.l, Nat.le_trans h.w hw⟩
theorem FitAll.mono {d : List PyData} {k w k' w' : Nat} (h : FitAll d k w) (hk : k ≤ k') (hw : w ≤ w') : FitAll d k' w' := ⟨h.s, Nat.le_trans h.d hk, h.l, Nat.le_trans h.w hw⟩
theorem FitAll.nil {k : Nat} : FitAll [] k 0 := ⟨rfl, Nat.zero_le _, rfl, Nat.le_refl _⟩
theorem FitAll.cons {d : PyData} {ds : List PyData} {k w1 w2 : Nat} (h : Fit d k w1) (t : FitAll ds k w2) : FitAll (d :: ds) k (w1 + 1 + w2) := by
  refine ⟨?_, ?_, ?_, ?_⟩
  · unfold PyData.showableAll; rw [h.s, t.s]; rfl
  · unfold PyData.depthAll; have := h.d; have := t.d; omega
  · unfold PyData.leavesShortAll; rw [h.l, t.l]; rfl
  · unfold PyData.weightAll; have := h.w; have := t.w; omega
theorem Fit.list {ds : List PyData} {k w : Nat} (t : FitAll ds k w) : Fit (.list ds) (k + 1) w := by
  refine ⟨?_, ?_, ?_, ?_⟩
  · unfold PyData.showable; exact t.s
  · unfold PyData.depth; have := t.d; omega
  · unfold PyData.leavesShort; exact t.l
  · unfold PyData.weight; exact t.w
theorem Fit.tuple {ds : List PyData} {k w : Nat} (t : FitAll ds k w) : Fit (.tuple ds) (k + 1) w := by
  refine ⟨?_, ?_, ?_, ?_⟩
  · unfold PyData.showable; exact t.s
  · unfold PyData.depth; have := t.d; omega
  · unfold PyData.leavesShort; exact t.l
  · unfold PyData.weight; exact t.w
theorem Fit.none {k : Nat} : Fit .none k 0 := ⟨by unfold PyData.showable; rfl, by unfold PyData.depth; omega, by decide +kernel, by unfold PyData.weight; exact Nat.le_refl _⟩
theorem Fit.bool {b : Bool} {k : Nat} : Fit (.bool b) k 0 := ⟨by unfold PyData.showable; rfl, by unfold PyData.depth; omega, by cases b <;> decide +kernel, by unfold PyData.weight; exact Nat.le_refl _⟩
theorem Fit.nat {r k : Nat} (h : r < 1048576) : Fit (.int r) k 21 := ⟨show_int h, by unfold PyData.depth; omega, short_int h, weight_int h⟩
theorem Fit.str {z : List Nat} {k w : Nat} (h : z.length ≤ w) (hc : ∀ c ∈ z, c < 200) : Fit (.str (S z)) k w := by
  refine ⟨by unfold PyData.showable; rfl, by unfold PyData.depth; omega, ?_, ?_⟩
  · unfold PyData.leavesShort
    rw [List.all_eq_true]
    intro c hcm
    have : c ∈ z := by rw [← S_tl z]; exact hcm
    have := hc c this
    exact decide_eq_true (by omega)
  · unfold PyData.weight
    show (S z).length ≤ w
    rw [S_len]; exact h
theorem FitKv.nil {k : Nat} : FitKv [] k 0 := ⟨rfl, Nat.zero_le _, rfl, Nat.le_refl _⟩
theorem FitKv.cons {a b : PyData} {ds : List (PyData × PyData)} {k w1 w2 w3 : Nat} (h : Fit a k w1) (g : Fit b k w2) (t : FitKv ds k w3) : FitKv ((a, b) :: ds) k (w1 + w2 + 2 + w3) := by
  refine ⟨?_, ?_, ?_, ?_⟩
  · unfold PyData.showableKv; rw [h.s, g.s, t.s]; rfl
  · unfold PyData.depthKv; have := h.d; have := g.d; have := t.d; omega
  · unfold PyData.leavesShortKv; rw [h.l, g.l, t.l]; rfl
  · unfold PyData.weightKv; have := h.w; have := g.w; have := t.w; omega
theorem Fit.dict {ds : List (PyData × PyData)} {k w : Nat} (t : FitKv ds k w) : Fit (.dict ds) (k + 1) w := by
  refine ⟨?_, ?_, ?_, ?_⟩
  · unfold PyData.showable; exact t.s
  · unfold PyData.depth; have := t.d; omega
  · unfold PyData.leavesShort; exact t.l
  · unfold PyData.weight; exact t.w
abbrev natsD (ns : List Nat) : List PyData := ns.map fun (n : Nat) => PyData.int n
theorem FitAll.nats {k : Nat} : ∀ {ns : List Nat}, (∀ n ∈ ns, n < 1048576) → FitAll (natsD ns) k (22 * ns.length)
  | [], _ => FitAll.nil
  | n :: ns, h => (FitAll.cons (Fit.nat (h n List.mem_cons_self)) (FitAll.nats fun m hm => h m (List.mem_cons_of_mem _ hm))).mono (Nat.le_refl _) (by rw [List.length_cons]; omega)
theorem Low.lt {t : List Nat} (h : Low t) : ∀ c ∈ t, c < 200 := fun c hc => by
  have := h c hc
  unfold low at this
  simp only [Bool.and_eq_true, decide_eq_true_eq] at this
  omega
theorem dp_nats {K : PySem.W.Frag} {H : Hp} : ∀ ns : List Nat, DpAll K H (ns.map fun n => V.int (n : Nat)) (natsD ns)
  | [] => .nil
  | n :: ns => .cons (.int _) (dp_nats ns)
theorem un0 {k : Nat} {A : Around} (hr : Room k A) : A.units < cLine := Nat.lt_of_le_of_lt (Nat.le_add_right _ 64) (un64 hr)
end My

set_option Elab.async false
set_option linter.all false
set_option maxRecDepth 100000
set_option maxHeartbeats 8000000
namespace My
open PySem PySem.Spec PyProof.Rows L2
/-! ### words of two letters -/
def Wd (a b : Nat) (t : List Nat) : Prop := ∀ c ∈ t, c = a ∨ c = b
theorem Wd.nil {a b : Nat} : Wd a b [] := fun c h => by cases h
theorem Wd.append {a b : Nat} {t u : List Nat} (h : Wd a b t) (g : Wd a b u) : Wd a b (t ++ u) := fun c hc => (List.mem_append.mp hc).elim (h c) (g c)
theorem Wd.take {a b : Nat} {t : List Nat} (h : Wd a b t) (n : Nat) : Wd a b (t.take n) := fun c hc => h c (List.mem_of_mem_take hc)
theorem Wd.drop {a b : Nat} {t : List Nat} (h : Wd a b t) (n : Nat) : Wd a b (t.drop n) := fun c hc => h c (List.mem_of_mem_drop hc)
theorem Wd.one {a b c : Nat} (h : c = a ∨ c = b) : Wd a b [c] := fun d hd => by rw [List.mem_singleton.mp hd]; exact h
theorem Wd.rounds {a b : Nat} {t : List Nat} (h : Wd a b t) : ∀ n, Wd a b (Lev.rounds n t)
  | 0 => Wd.nil
  | n + 1 => h.append (Wd.rounds h n)
theorem Wd.low {a b : Nat} {t : List Nat} (h : Wd a b t) (la : low a = true) (lb : low b = true) : Low t := fun c hc => by
  rcases h c hc with e | e
  · rw [e]; exact la
  · rw [e]; exact lb
/-- the list of two letters -/
def Let2 (H : Hp) (l : Addr) (a b : Nat) : Prop := H l = some (.lst [.str (S [a]), .str (S [b])]) ∧ L2.low a = true ∧ L2.low b = true
theorem Let2.kp {H H' : Hp} {p l : Addr} {a b : Nat} (h : Let2 H l a b) (k : Kp p H H') (n : l ≠ p) : Let2 H' l a b := ⟨k _ _ n h.1, h.2⟩
theorem two_of {a b d : Nat} (h : d < 2) : ∃ x, (x = a ∨ x = b) ∧ [V.str (S [a]), V.str (S [b])][d]? = some (.str (S [x])) := by
  match d, h with
  | 0, _ => exact ⟨a, .inl rfl, rfl⟩
  | 1, _ => exact ⟨b, .inr rfl, rfl⟩
/-- a list of such letters, made at D -/
def Acc2 (a b : Nat) (p : Addr) (m : Nat) (H : Hp) (D : Addr) (i : Nat) (H' : Hp) : Prop := Kp p H H' ∧ BoxAt H' p (m + i) ∧ ∃ t, Wd a b t ∧ t.length = i ∧ H' D = some (.lst (t.map fun c => V.str (S [c])))
theorem Acc2.start {a b : Nat} {p D : Addr} {m : Nat} {H : Hp} (hb : BoxAt H p m) (hD : H D = none) : Acc2 a b p m H D 0 (L2.upd H D (.lst [])) :=
  ⟨(Kp.refl p H).new hD, hb.new hD, [], Wd.nil, rfl, upd_same⟩
theorem Acc2.step {a b : Nat} {p D : Addr} {m i : Nat} {H H' : Hp} {o : HO} {c : Nat} (h : Acc2 a b p m H D i H') (npD : p ≠ D) (hD : H D = none) (hi : i < 1000) (ho : BoxO (m + i + 1) o) (lc : c = a ∨ c = b) :
    ∃ acc, L2.upd H' p o D = some (.lst acc) ∧ acc.length < sizeLine ∧ Acc2 a b p m H D (i + 1) (L2.upd (L2.upd H' p o) D (.lst (acc ++ [.str (S [c])]))) := by
  obtain ⟨k, bx, t, lt, le, e⟩ := h
  refine ⟨_, by rw [upd_ne npD.symm]; exact e, by rw [List.length_map]; exact Nat.lt_of_lt_of_le (by omega : t.length < 1000) (by decide), k.upd.free hD, ho.at.other npD, t ++ [c], lt.append (Wd.one lc), by simp [le], ?_⟩
  rw [upd_same, List.map_append]; rfl
abbrev chV (t : List Nat) : List V := t.map fun c => V.str (S [c])
theorem seqIx {i n : Nat} (h : i < n) : seqIndex? (i : Int) n = some i := by
  unfold seqIndex?
  dsimp only
  rw [if_neg (by omega : ¬ ((i : Int) < 0)), if_pos (by simp; omega), Int.toNat_natCast]
theorem chV_app (t : List Nat) (c : Nat) : chV t ++ [V.str (S [c])] = chV (t ++ [c]) := by
  unfold chV; rw [List.map_append]; rfl
theorem chV_erase (t : List Nat) (k : Nat) : (chV t).eraseIdx k = chV (t.eraseIdx k) := by
  unfold chV
  induction t generalizing k with
  | nil => rfl
  | cons c r ih =>
    cases k with
    | zero => rfl
    | succ k =>
      show V.str (S [c]) :: (chV r).eraseIdx k = _
      rw [show (chV r).eraseIdx k = chV (r.eraseIdx k) from ih k]; rfl
theorem chV_len (t : List Nat) : (chV t).length = t.length := List.length_map _
theorem chV_get {t : List Nat} {k : Nat} {c : Nat} (h : t[k]? = some c) : (chV t)[k]? = some (.str (S [c])) := by
  unfold chV; rw [List.getElem?_map, h]; rfl
end My

set_option Elab.async false
set_option linter.all false
set_option maxRecDepth 100000
set_option maxHeartbeats 2000000
namespace My
open PySem PySem.Spec PyProof.Rows L2
def topS (i : Nat) : Stmt := PySem.Challenge.pw_spoiltline_k12_lags_that_stay.main.body.getD i (.Pass ⟨0, 0, 0, 0⟩)
abbrev s_is_integer : Stmt := topS 1
abbrev N_is_integer : List Str := ["value"]
theorem sc_is_integer : FnScope N_is_integer ["value"] (defScope s_is_integer) := ⟨rfl, rfl, rfl, by decide +kernel, rfl, by decide +kernel, by decide +kernel⟩
abbrev s_is_count : Stmt := topS 2
abbrev N_is_count : List Str := ["value"]
theorem sc_is_count : FnScope N_is_count ["value"] (defScope s_is_count) := ⟨rfl, rfl, rfl, by decide +kernel, rfl, by decide +kernel, by decide +kernel⟩
abbrev s_is_text : Stmt := topS 3
abbrev N_is_text : List Str := ["value"]
theorem sc_is_text : FnScope N_is_text ["value"] (defScope s_is_text) := ⟨rfl, rfl, rfl, by decide +kernel, rfl, by decide +kernel, by decide +kernel⟩
abbrev s_lag_behind : Stmt := topS 9
abbrev N_lag_behind : List Str := ["lag", "one", "other"]
theorem sc_lag_behind : FnScope N_lag_behind ["lag", "one", "other"] (defScope s_lag_behind) := ⟨rfl, rfl, rfl, by decide +kernel, rfl, by decide +kernel, by decide +kernel⟩
abbrev s_staying : Stmt := topS 10
abbrev N_staying : List Str := ["one", "other", "most", "period", "least", "number"]
theorem sc_staying : FnScope N_staying ["one", "other", "most"] (defScope s_staying) := ⟨rfl, rfl, rfl, by decide +kernel, rfl, by decide +kernel, by decide +kernel⟩
abbrev s_check_texts : Stmt := topS 11
abbrev N_check_texts : List Str := ["one", "other", "text"]
theorem sc_check_texts : FnScope N_check_texts ["one", "other"] (defScope s_check_texts) := ⟨rfl, rfl, rfl, by decide +kernel, rfl, by decide +kernel, by decide +kernel⟩
abbrev s_is_lag : Stmt := topS 12
abbrev N_is_lag : List Str := ["value"]
theorem sc_is_lag : FnScope N_is_lag ["value"] (defScope s_is_lag) := ⟨rfl, rfl, rfl, by decide +kernel, rfl, by decide +kernel, by decide +kernel⟩
abbrev s_length_of_root : Stmt := topS 13
abbrev N_length_of_root : List Str := ["text"]
theorem sc_length_of_root : FnScope N_length_of_root ["text"] (defScope s_length_of_root) := ⟨rfl, rfl, rfl, by decide +kernel, rfl, by decide +kernel, by decide +kernel⟩
abbrev s_turns_between : Stmt := topS 14
abbrev N_turns_between : List Str := ["one", "other", "turn"]
theorem sc_turns_between : FnScope N_turns_between ["one", "other"] (defScope s_turns_between) := ⟨rfl, rfl, rfl, by decide +kernel, rfl, by decide +kernel, by decide +kernel⟩
abbrev s_lag_onward : Stmt := topS 15
abbrev N_lag_onward : List Str := ["lag", "one", "other", "left", "right"]
theorem sc_lag_onward : FnScope N_lag_onward ["lag", "one", "other"] (defScope s_lag_onward) := ⟨rfl, rfl, rfl, by decide +kernel, rfl, by decide +kernel, by decide +kernel⟩
abbrev s_lag_of_number : Stmt := topS 16
abbrev N_lag_of_number : List Str := ["number", "one", "other"]
theorem sc_lag_of_number : FnScope N_lag_of_number ["number", "one", "other"] (defScope s_lag_of_number) := ⟨rfl, rfl, rfl, by decide +kernel, rfl, by decide +kernel, by decide +kernel⟩
abbrev s_around : Stmt := topS 17
abbrev N_around : List Str := ["text", "start", "many", "rounds"]
theorem sc_around : FnScope N_around ["text", "start", "many"] (defScope s_around) := ⟨rfl, rfl, rfl, by decide +kernel, rfl, by decide +kernel, by decide +kernel⟩
abbrev s_law_cell : Stmt := topS 19
abbrev N_law_cell : List Str := ["script", "k"]
theorem sc_law_cell : FnScope N_law_cell ["script", "k"] (defScope s_law_cell) := ⟨rfl, rfl, rfl, by decide +kernel, rfl, by decide +kernel, by decide +kernel⟩
abbrev s_law_box : Stmt := topS 20
abbrev N_law_box : List Str := ["great"]
theorem sc_law_box : FnScope N_law_box ["great"] (defScope s_law_box) := ⟨rfl, rfl, rfl, by decide +kernel, rfl, by decide +kernel, by decide +kernel⟩
abbrev s_law_take : Stmt := topS 21
abbrev N_law_take : List Str := ["box", "many", "digit", "mixed"]
theorem sc_law_take : FnScope N_law_take ["box", "many"] (defScope s_law_take) := ⟨rfl, rfl, rfl, by decide +kernel, rfl, by decide +kernel, by decide +kernel⟩
abbrev s_law_letters : Stmt := topS 22
abbrev N_law_letters : List Str := ["box", "first", "second"]
theorem sc_law_letters : FnScope N_law_letters ["box"] (defScope s_law_letters) := ⟨rfl, rfl, rfl, by decide +kernel, rfl, by decide +kernel, by decide +kernel⟩
abbrev s_law_word : Stmt := topS 23
abbrev N_law_word : List Str := ["box", "letters", "size", "turn"]
theorem sc_law_word : FnScope N_law_word ["box", "letters", "size"] (defScope s_law_word) := ⟨rfl, rfl, rfl, by decide +kernel, rfl, by decide +kernel, by decide +kernel⟩
abbrev s_law_pair : Stmt := topS 24
abbrev N_law_pair : List Str := ["box", "letters", "way", "piece", "left", "spot", "right", "place"]
theorem sc_law_pair : FnScope N_law_pair ["box", "letters"] (defScope s_law_pair) := ⟨rfl, rfl, rfl, by decide +kernel, rfl, by decide +kernel, by decide +kernel⟩
abbrev s_law_root_length : Stmt := topS 25
abbrev N_law_root_length : List Str := ["word", "size"]
theorem sc_law_root_length : FnScope N_law_root_length ["word"] (defScope s_law_root_length) := ⟨rfl, rfl, rfl, by decide +kernel, rfl, by decide +kernel, by decide +kernel⟩
abbrev s_law_numbered : Stmt := topS 26
abbrev N_law_numbered : List Str := ["left", "right", "number", "word", "ahead"]
theorem sc_law_numbered : FnScope N_law_numbered ["left", "right", "number"] (defScope s_law_numbered) := ⟨rfl, rfl, rfl, by decide +kernel, rfl, by decide +kernel, by decide +kernel⟩
abbrev s_law_stays : Stmt := topS 27
abbrev N_law_stays : List Str := ["pair", "left", "right"]
theorem sc_law_stays : FnScope N_law_stays ["pair", "left", "right"] (defScope s_law_stays) := ⟨rfl, rfl, rfl, by decide +kernel, rfl, by decide +kernel, by decide +kernel⟩
abbrev s_law_due : Stmt := topS 28
abbrev N_law_due : List Str := ["left", "right", "highest", "found", "number", "pair"]
theorem sc_law_due : FnScope N_law_due ["left", "right", "highest"] (defScope s_law_due) := ⟨rfl, rfl, rfl, by decide +kernel, rfl, by decide +kernel, by decide +kernel⟩
abbrev s_law_number : Stmt := topS 29
abbrev N_law_number : List Str := ["pair"]
theorem sc_law_number : FnScope N_law_number ["pair"] (defScope s_law_number) := ⟨rfl, rfl, rfl, by decide +kernel, rfl, by decide +kernel, by decide +kernel⟩
abbrev s_law_highest : Stmt := topS 30
abbrev N_law_highest : List Str := ["box", "left", "right", "spots", "pair"]
theorem sc_law_highest : FnScope N_law_highest ["box", "left", "right"] (defScope s_law_highest) := ⟨rfl, rfl, rfl, by decide +kernel, rfl, by decide +kernel, by decide +kernel⟩
abbrev s_law_list_right : Stmt := topS 31
abbrev N_law_list_right : List Str := ["left", "right", "highest", "due", "told"]
theorem sc_law_list_right : FnScope N_law_list_right ["left", "right", "highest"] (defScope s_law_list_right) := ⟨rfl, rfl, rfl, by decide +kernel, rfl, by decide +kernel, by decide +kernel⟩
abbrev s_law_pair_right : Stmt := topS 32
abbrev N_law_pair_right : List Str := ["box", "left", "right", "highest", "due", "rounds", "pair", "wide", "turned", "spot", "numbers", "size", "k"]
theorem sc_law_pair_right : FnScope N_law_pair_right ["box", "left", "right"] (defScope s_law_pair_right) := ⟨rfl, rfl, rfl, by decide +kernel, rfl, by decide +kernel, by decide +kernel⟩
abbrev s_law_wide_right : Stmt := topS 33
abbrev N_law_wide_right : List Str := ["box", "letter", "most", "due", "k"]
theorem sc_law_wide_right : FnScope N_law_wide_right ["box", "letter"] (defScope s_law_wide_right) := ⟨rfl, rfl, rfl, by decide +kernel, rfl, by decide +kernel, by decide +kernel⟩
abbrev s_law_bad_text : Stmt := topS 34
abbrev N_law_bad_text : List Str := ["box", "letters", "way", "word"]
theorem sc_law_bad_text : FnScope N_law_bad_text ["box", "letters"] (defScope s_law_bad_text) := ⟨rfl, rfl, rfl, by decide +kernel, rfl, by decide +kernel, by decide +kernel⟩
abbrev s_law_told : Stmt := topS 35
abbrev N_law_told : List Str := ["turn", "parts", "e"]
theorem sc_law_told : FnScope N_law_told ["turn", "parts"] (defScope s_law_told) := ⟨rfl, rfl, rfl, by decide +kernel, rfl, by decide +kernel, by decide +kernel⟩
abbrev s_law_refuses : Stmt := topS 36
abbrev N_law_refuses : List Str := ["turn", "parts", "kind", "place", "due", "size", "told"]
theorem sc_law_refuses : FnScope N_law_refuses ["turn", "parts", "kind", "place"] (defScope s_law_refuses) := ⟨rfl, rfl, rfl, by decide +kernel, rfl, by decide +kernel, by decide +kernel⟩
abbrev s_law_copy : Stmt := topS 37
abbrev N_law_copy : List Str := ["value"]
theorem sc_law_copy : FnScope N_law_copy ["value"] (defScope s_law_copy) := ⟨rfl, rfl, rfl, by decide +kernel, rfl, by decide +kernel, by decide +kernel⟩
abbrev s_law_refusals_right : Stmt := topS 38
abbrev N_law_refusals_right : List Str := ["box", "letters", "left", "right", "word", "bad", "worse", "number", "turn", "last"]
theorem sc_law_refusals_right : FnScope N_law_refusals_right ["box", "letters", "left", "right"] (defScope s_law_refusals_right) := ⟨rfl, rfl, rfl, by decide +kernel, rfl, by decide +kernel, by decide +kernel⟩
abbrev s_law_right : Stmt := topS 39
abbrev N_law_right : List Str := ["box", "letters", "left", "right", "third", "fourth"]
theorem sc_law_right : FnScope N_law_right ["box"] (defScope s_law_right) := ⟨rfl, rfl, rfl, by decide +kernel, rfl, by decide +kernel, by decide +kernel⟩
abbrev s_law : Stmt := topS 40
abbrev N_law : List Str := ["script", "k"]
theorem sc_law : FnScope N_law ["script"] (defScope s_law) := ⟨rfl, rfl, rfl, by decide +kernel, rfl, by decide +kernel, by decide +kernel⟩
structure Txt (K : PySem.W.Frag) (mg : Str → Option Value) where
  f_is_integer : Addr
  fd_is_integer : FuncData
  F_is_integer : Fun K "is_integer" "is_integer" s_is_integer f_is_integer fd_is_integer
  b_is_integer : Binds K fd_is_integer ["value"] []
  g_is_integer : mg "is_integer" = some (.ref f_is_integer)
  f_is_count : Addr
  fd_is_count : FuncData
  F_is_count : Fun K "is_count" "is_count" s_is_count f_is_count fd_is_count
  b_is_count : Binds K fd_is_count ["value"] []
  g_is_count : mg "is_count" = some (.ref f_is_count)
  f_is_text : Addr
  fd_is_text : FuncData
  F_is_text : Fun K "is_text" "is_text" s_is_text f_is_text fd_is_text
  b_is_text : Binds K fd_is_text ["value"] []
  g_is_text : mg "is_text" = some (.ref f_is_text)
  f_lag_behind : Addr
  fd_lag_behind : FuncData
  F_lag_behind : Fun K "lag_behind" "lag_behind" s_lag_behind f_lag_behind fd_lag_behind
  b_lag_behind : Binds K fd_lag_behind ["lag", "one", "other"] []
  g_lag_behind : mg "lag_behind" = some (.ref f_lag_behind)
  f_staying : Addr
  fd_staying : FuncData
  F_staying : Fun K "staying" "staying" s_staying f_staying fd_staying
  b_staying : Binds K fd_staying ["one", "other", "most"] []
  g_staying : mg "staying" = some (.ref f_staying)
  f_check_texts : Addr
  fd_check_texts : FuncData
  F_check_texts : Fun K "check_texts" "check_texts" s_check_texts f_check_texts fd_check_texts
  b_check_texts : Binds K fd_check_texts ["one", "other"] []
  g_check_texts : mg "check_texts" = some (.ref f_check_texts)
  f_is_lag : Addr
  fd_is_lag : FuncData
  F_is_lag : Fun K "is_lag" "is_lag" s_is_lag f_is_lag fd_is_lag
  b_is_lag : Binds K fd_is_lag ["value"] []
  g_is_lag : mg "is_lag" = some (.ref f_is_lag)
  f_length_of_root : Addr
  fd_length_of_root : FuncData
  F_length_of_root : Fun K "length_of_root" "length_of_root" s_length_of_root f_length_of_root fd_length_of_root
  b_length_of_root : Binds K fd_length_of_root ["text"] []
  g_length_of_root : mg "length_of_root" = some (.ref f_length_of_root)
  f_turns_between : Addr
  fd_turns_between : FuncData
  F_turns_between : Fun K "turns_between" "turns_between" s_turns_between f_turns_between fd_turns_between
  b_turns_between : Binds K fd_turns_between ["one", "other"] []
  g_turns_between : mg "turns_between" = some (.ref f_turns_between)
  f_lag_onward : Addr
  fd_lag_onward : FuncData
  F_lag_onward : Fun K "lag_onward" "lag_onward" s_lag_onward f_lag_onward fd_lag_onward
  b_lag_onward : Binds K fd_lag_onward ["lag", "one", "other"] []
  g_lag_onward : mg "lag_onward" = some (.ref f_lag_onward)
  f_lag_of_number : Addr
  fd_lag_of_number : FuncData
  F_lag_of_number : Fun K "lag_of_number" "lag_of_number" s_lag_of_number f_lag_of_number fd_lag_of_number
  b_lag_of_number : Binds K fd_lag_of_number ["number", "one", "other"] []
  g_lag_of_number : mg "lag_of_number" = some (.ref f_lag_of_number)
  f_around : Addr
  fd_around : FuncData
  F_around : Fun K "around" "around" s_around f_around fd_around
  b_around : Binds K fd_around ["text", "start", "many"] []
  g_around : mg "around" = some (.ref f_around)
  f_law_cell : Addr
  fd_law_cell : FuncData
  F_law_cell : Fun K "_law_cell" "_law_cell" s_law_cell f_law_cell fd_law_cell
  b_law_cell : Binds K fd_law_cell ["script", "k"] []
  g_law_cell : mg "_law_cell" = some (.ref f_law_cell)
  f_law_box : Addr
  fd_law_box : FuncData
  F_law_box : Fun K "_law_box" "_law_box" s_law_box f_law_box fd_law_box
  b_law_box : Binds K fd_law_box ["great"] []
  g_law_box : mg "_law_box" = some (.ref f_law_box)
  f_law_take : Addr
  fd_law_take : FuncData
  F_law_take : Fun K "_law_take" "_law_take" s_law_take f_law_take fd_law_take
  b_law_take : Binds K fd_law_take ["box", "many"] []
  g_law_take : mg "_law_take" = some (.ref f_law_take)
  f_law_letters : Addr
  fd_law_letters : FuncData
  F_law_letters : Fun K "_law_letters" "_law_letters" s_law_letters f_law_letters fd_law_letters
  b_law_letters : Binds K fd_law_letters ["box"] []
  g_law_letters : mg "_law_letters" = some (.ref f_law_letters)
  f_law_word : Addr
  fd_law_word : FuncData
  F_law_word : Fun K "_law_word" "_law_word" s_law_word f_law_word fd_law_word
  b_law_word : Binds K fd_law_word ["box", "letters", "size"] []
  g_law_word : mg "_law_word" = some (.ref f_law_word)
  f_law_pair : Addr
  fd_law_pair : FuncData
  F_law_pair : Fun K "_law_pair" "_law_pair" s_law_pair f_law_pair fd_law_pair
  b_law_pair : Binds K fd_law_pair ["box", "letters"] []
  g_law_pair : mg "_law_pair" = some (.ref f_law_pair)
  f_law_root_length : Addr
  fd_law_root_length : FuncData
  F_law_root_length : Fun K "_law_root_length" "_law_root_length" s_law_root_length f_law_root_length fd_law_root_length
  b_law_root_length : Binds K fd_law_root_length ["word"] []
  g_law_root_length : mg "_law_root_length" = some (.ref f_law_root_length)
  f_law_numbered : Addr
  fd_law_numbered : FuncData
  F_law_numbered : Fun K "_law_numbered" "_law_numbered" s_law_numbered f_law_numbered fd_law_numbered
  b_law_numbered : Binds K fd_law_numbered ["left", "right", "number"] []
  g_law_numbered : mg "_law_numbered" = some (.ref f_law_numbered)
  f_law_stays : Addr
  fd_law_stays : FuncData
  F_law_stays : Fun K "_law_stays" "_law_stays" s_law_stays f_law_stays fd_law_stays
  b_law_stays : Binds K fd_law_stays ["pair", "left", "right"] []
  g_law_stays : mg "_law_stays" = some (.ref f_law_stays)
  f_law_due : Addr
  fd_law_due : FuncData
  F_law_due : Fun K "_law_due" "_law_due" s_law_due f_law_due fd_law_due
  b_law_due : Binds K fd_law_due ["left", "right", "highest"] []
  g_law_due : mg "_law_due" = some (.ref f_law_due)
  f_law_number : Addr
  fd_law_number : FuncData
  F_law_number : Fun K "_law_number" "_law_number" s_law_number f_law_number fd_law_number
  b_law_number : Binds K fd_law_number ["pair"] []
  g_law_number : mg "_law_number" = some (.ref f_law_number)
  f_law_highest : Addr
  fd_law_highest : FuncData
  F_law_highest : Fun K "_law_highest" "_law_highest" s_law_highest f_law_highest fd_law_highest
  b_law_highest : Binds K fd_law_highest ["box", "left", "right"] []
  g_law_highest : mg "_law_highest" = some (.ref f_law_highest)
  f_law_list_right : Addr
  fd_law_list_right : FuncData
  F_law_list_right : Fun K "_law_list_right" "_law_list_right" s_law_list_right f_law_list_right fd_law_list_right
  b_law_list_right : Binds K fd_law_list_right ["left", "right", "highest"] []
  g_law_list_right : mg "_law_list_right" = some (.ref f_law_list_right)
  f_law_pair_right : Addr
  fd_law_pair_right : FuncData
  F_law_pair_right : Fun K "_law_pair_right" "_law_pair_right" s_law_pair_right f_law_pair_right fd_law_pair_right
  b_law_pair_right : Binds K fd_law_pair_right ["box", "left", "right"] []
  g_law_pair_right : mg "_law_pair_right" = some (.ref f_law_pair_right)
  f_law_wide_right : Addr
  fd_law_wide_right : FuncData
  F_law_wide_right : Fun K "_law_wide_right" "_law_wide_right" s_law_wide_right f_law_wide_right fd_law_wide_right
  b_law_wide_right : Binds K fd_law_wide_right ["box", "letter"] []
  g_law_wide_right : mg "_law_wide_right" = some (.ref f_law_wide_right)
  f_law_bad_text : Addr
  fd_law_bad_text : FuncData
  F_law_bad_text : Fun K "_law_bad_text" "_law_bad_text" s_law_bad_text f_law_bad_text fd_law_bad_text
  b_law_bad_text : Binds K fd_law_bad_text ["box", "letters"] []
  g_law_bad_text : mg "_law_bad_text" = some (.ref f_law_bad_text)
  f_law_told : Addr
  fd_law_told : FuncData
  F_law_told : Fun K "_law_told" "_law_told" s_law_told f_law_told fd_law_told
  b_law_told : Binds K fd_law_told ["turn", "parts"] []
  g_law_told : mg "_law_told" = some (.ref f_law_told)
  f_law_refuses : Addr
  fd_law_refuses : FuncData
  F_law_refuses : Fun K "_law_refuses" "_law_refuses" s_law_refuses f_law_refuses fd_law_refuses
  b_law_refuses : Binds K fd_law_refuses ["turn", "parts", "kind", "place"] []
  g_law_refuses : mg "_law_refuses" = some (.ref f_law_refuses)
  f_law_copy : Addr
  fd_law_copy : FuncData
  F_law_copy : Fun K "_law_copy" "_law_copy" s_law_copy f_law_copy fd_law_copy
  b_law_copy : Binds K fd_law_copy ["value"] []
  g_law_copy : mg "_law_copy" = some (.ref f_law_copy)
  f_law_refusals_right : Addr
  fd_law_refusals_right : FuncData
  F_law_refusals_right : Fun K "_law_refusals_right" "_law_refusals_right" s_law_refusals_right f_law_refusals_right fd_law_refusals_right
  b_law_refusals_right : Binds K fd_law_refusals_right ["box", "letters", "left", "right"] []
  g_law_refusals_right : mg "_law_refusals_right" = some (.ref f_law_refusals_right)
  f_law_right : Addr
  fd_law_right : FuncData
  F_law_right : Fun K "_law_right" "_law_right" s_law_right f_law_right fd_law_right
  b_law_right : Binds K fd_law_right ["box"] []
  g_law_right : mg "_law_right" = some (.ref f_law_right)
  f_law : Addr
  fd_law : FuncData
  F_law : Fun K "law" "law" s_law f_law fd_law
  b_law : Binds K fd_law ["script"] []
  g_law : mg "law" = some (.ref f_law)
  z_abs : mg "abs" = none
  z_bool : mg "bool" = none
  z_int : mg "int" = none
  z_isinstance : mg "isinstance" = none
  z_len : mg "len" = none
  z_list : mg "list" = none
  z_max : mg "max" = none
  z_min : mg "min" = none
  z_range : mg "range" = none
  z_repr : mg "repr" = none
  z_str : mg "str" = none
  z_sum : mg "sum" = none
  z_tuple : mg "tuple" = none
  C_InvalidCount : Addr
  i_InvalidCount : Addr
  e_InvalidCount : ErrX.ETxt K mg "InvalidCount" "InvalidCount.__init__" C_InvalidCount i_InvalidCount
  x_InvalidCount : PySem.W.exmOne K (.ref C_InvalidCount) (.ref C_InvalidCount) = some true
  C_InvalidText : Addr
  i_InvalidText : Addr
  e_InvalidText : ErrX.ETxt K mg "InvalidText" "InvalidText.__init__" C_InvalidText i_InvalidText
  x_InvalidText : PySem.W.exmOne K (.ref C_InvalidText) (.ref C_InvalidText) = some true
  no_InvalidCount_InvalidText : PySem.W.exmOne K (.ref C_InvalidCount) (.ref C_InvalidText) = some false
  no_InvalidText_InvalidCount : PySem.W.exmOne K (.ref C_InvalidText) (.ref C_InvalidCount) = some false
end My

set_option Elab.async false
set_option linter.all false
set_option maxRecDepth 100000
set_option maxHeartbeats 8000000
namespace My
open PySem PySem.Spec PyProof.Rows L2
section
variable {P : Program} {w : World} {K : PySem.W.Frag} {mg : Str → Option Value} {base : Heap}
def spIsText (K : PySem.W.Frag) : Sp := fun vs H Q _ => ∃ x b, vs = [x] ∧ Jd K H x b ∧ Q (.bl b) H
theorem ok_is_text (T : Txt K mg) : FnOk P w K mg base CX0 1 T.f_is_text T.fd_is_text ["value"] (spIsText K) := by
  refine T.F_is_text.ok sc_is_text (fun vs H Q E h => ?_) (fun cdv A outer s H vs Q E hr h => ?_)
  · obtain ⟨x, _, rfl, _⟩ := h; rfl
  · obtain ⟨x, b, rfl, h, q⟩ := h
    refine ⟨_, (pss_cons (ps_if (pt_not (pt_val (pe_callB call_isi (by rfl) T.z_isinstance (by decide +kernel) (pa_cons (pv 0) (pa_cons (pe_bltn (v := .ty "str") (u := .type "str") (by rfl) T.z_str (by decide +kernel) rfl) pa_nil))))) (pss_one (ps_ret pe_bl)) pss_nil)
      (pss_one (ps_ret (pe_or (pe_cmpR op_eq (pv 0) pe_str (nomark _)) (pe_one (pe_and (pe_bm0 PySem.F.plainAttrs_str PySem.F.slot_str_isascii PySem.F.type_str_isascii mt_isascii (pv 0)) (pe_and (pe_bm0 PySem.F.plainAttrs_str PySem.F.slot_str_isalpha PySem.F.type_str_isalpha mt_isalpha (pv 0)) (pe_one (pe_bm0 PySem.F.plainAttrs_str PySem.F.slot_str_islower PySem.F.type_str_islower mt_islower (pv 0)))))))))), ?_⟩
    rcases h with ⟨z, rfl, rfl⟩ | ⟨t, ty, kb, rfl⟩
    · refine ⟨_, rfl, _, _, _, _, true, rfl, .ty _, .base (.str z), kit_ty (by decide +kernel), true, rfl, iteF ?_⟩
      refine ⟨_, rfl, rfl, _, rfl, ?_⟩
      have e := istext_eq z
      cases h0 : decide (V.str z = V.str (Str.ofString "")) with
      | true =>
        rw [h0, Bool.true_or] at e
        refine iteT ?_
        unfold isT at q
        rw [← e] at q
        exact q
      | false =>
        rw [h0, Bool.false_or] at e
        have e2 : (Txt.isascii z && (Txt.isalpha z && Txt.islower z)) = isT z := by rw [← Bool.and_assoc]; exact e
        refine iteF ⟨_, rfl, rfl, z, rfl, rfl, trivial, _, rfl, ?_⟩
        cases h1 : Txt.isascii z with
        | false => rw [h1] at e2; rw [← e2] at q; exact iteF q
        | true =>
          rw [h1, Bool.true_and] at e2
          refine iteT ⟨_, rfl, rfl, z, rfl, rfl, trivial, _, rfl, ?_⟩
          cases h2 : Txt.isalpha z with
          | false => rw [h2] at e2; rw [← e2] at q; exact iteF q
          | true =>
            rw [h2, Bool.true_and] at e2
            rw [← e2] at q
            exact iteT ⟨_, rfl, rfl, z, rfl, rfl, trivial, q⟩
    · refine ⟨_, rfl, _, _, _, _, false, rfl, .ty _, ty, kit_ty kb, false, rfl, iteT ?_⟩
      exact q
def spCheck (K : PySem.W.Frag) (C : Addr) : Sp := fun vs H Q E => ∃ x y bx b2, vs = [x, y] ∧ Jd K H x bx ∧ Jd K H y b2 ∧ (∀ t, H t = none → Jd K (upd H t (.tup [x, y])) x bx ∧ Jd K (upd H t (.tup [x, y])) y b2) ∧
  (bx = false → Bad C H x E) ∧ (bx = true → b2 = false → Bad C H y E) ∧ (bx = true → b2 = true → ∀ H', Same H H' → Q .non H')
theorem ok_check_texts (T : Txt K mg) : FnOk P w K mg base (L2.CX P w) 3 T.f_check_texts T.fd_check_texts ["one", "other"] (spCheck K T.C_InvalidText) := by
  refine T.F_check_texts.okX sc_check_texts (fun vs H Q E h => ?_) (fun cdv A outer s H vs Q E hr h => ?_)
  · obtain ⟨x, y, _, _, rfl, _⟩ := h; rfl
  · obtain ⟨x, y, bx, b2, rfl, _, _, hj, kX, kY, kQ⟩ := h
    refine ⟨_, (pss_one (ps_for (passes_of rfl) rfl (pi_tup (pe_tup (pa_cons (pv 0) (pa_cons (pv 1) pa_nil)))) (pg_name (i := 2) sc_check_texts.nd rfl (Or.inl rfl)) (pss_one (ps_if (pt_not (pt_val (pe_call (ok_is_text T) (hr.mono (by decide)) rfl T.g_is_text T.F_is_text.kp T.b_is_text .nil pass0 (pa_cons (pv 2) pa_nil)))) (pss_one (ps_raiseE rfl T.e_InvalidText hr (takes_of rfl rfl rfl rfl) (pa_cons (pv 2) pa_nil))) pss_nil)))), ?_⟩
    refine ⟨_, rfl, _, rfl, (by show 2 ≤ sizeLine; decide), fun t ht => ?_⟩
    obtain ⟨jx, jy⟩ := hj t ht
    have st : Same H (upd H t (.tup [x, y])) := fun b o e => by rw [upd_ne (ne_of_none e ht)]; exact e
    refine ⟨t, rfl, ⟨_, SqT.of upd_same⟩, for_tup (K := K) (a := t) (xs := [x, y]) (fun i σ H' => ∃ x2, σ = [some x, some y, x2] ∧ H' = upd H t (.tup [x, y]) ∧ (1 ≤ i → bx = true) ∧ (2 ≤ i → b2 = true))
      ⟨none, rfl, rfl, fun z => by omega, fun z => by omega⟩ (fun i σ H' _ ⟨_, _, e, _⟩ => by rw [e]; exact SqT.of upd_same) ?_ ?_⟩
    · rintro i z σ H' hz ⟨x2, rfl, rfl, h1, h2⟩
      have step : ∀ (z : V) (b : Bool) (N : L2.St → Hp → Prop), Jd K (upd H t (.tup [x, y])) z b → (b = false → Bad T.C_InvalidText H z E) → (b = true → N [some x, some y, some z] (upd H t (.tup [x, y]))) →
          tIfS (tNot (tB (tCall (spIsText K) [] E0 (tCons (tVar 2) tNil)))) (tRaiseE T.C_InvalidText (fun cls d _ H => E cls d H) (tCons (tVar 2) tNil)) tNext
            { nx := N, rt := Q, bk := fun σ' H' => Q .non H', ct := N } [some x, some y, some z] (upd H t (.tup [x, y])) := by
        intro z b N jz kb kn
        have raise_ : b = false → tRaiseE T.C_InvalidText (fun cls d _ H => E cls d H) (tCons (tVar 2) tNil) { nx := N, rt := Q, bk := fun σ' H' => Q .non H', ct := N } [some x, some y, some z] (upd H t (.tup [x, y])) := fun e => by
          refine ⟨_, rfl, z, rfl, fun d hd => ?_⟩
          have hdn : H d = none := st.free hd
          exact kb e d _ (fun b o q => by rw [upd_ne (ne_of_none (st b o q) hd)]; exact st b o q) hdn upd_same
        refine ⟨_, rfl, z, b, rfl, jz, _, rfl, ?_⟩
        cases b with
        | true => exact iteF (kn rfl)
        | false => exact iteT (raise_ rfl)
      match i, hz with
      | 0, hz =>
        obtain rfl : x = z := Option.some.inj hz
        exact step x bx _ jx kX fun e => ⟨_, rfl, rfl, fun _ => e, fun z => by omega⟩
      | 1, hz =>
        obtain rfl : y = z := Option.some.inj hz
        have e1 := h1 (Nat.le_refl _)
        exact step y b2 _ jy (kY e1) fun e => ⟨_, rfl, rfl, fun _ => e1, fun _ => e⟩
      | i + 2, hz => simp at hz
    · rintro σ H' ⟨x2, rfl, rfl, h1, h2⟩
      exact kQ (h1 (by show 1 ≤ 2; omega)) (h2 (by show 2 ≤ 2; omega)) _ st
def spCell (K : PySem.W.Frag) : Sp := fun vs H Q _ => ∃ (a : Addr) (ns : List Int) (k : Nat), vs = [.ref a, .int k] ∧ SqL K H a (ns.map V.int) ∧ ∀ c H', Same H H' → Q (.int c) H'
theorem ok_law_cell (T : Txt K mg) : FnOk P w K mg base CX0 1 T.f_law_cell T.fd_law_cell ["script", "k"] (spCell K) := by
  refine T.F_law_cell.ok sc_law_cell (fun vs H Q E h => ?_) (fun cdv A outer s H vs Q E hr h => ?_)
  · obtain ⟨a, ns, k, rfl, _⟩ := h; rfl
  · obtain ⟨a, ns, k, rfl, hS, q⟩ := h
    refine ⟨_, (pss_one (ps_ret (pe_ifExp (pt_cmpR op_lt (pv 1) (pe_callB call_len_seq (by rfl) T.z_len (by decide +kernel) (pa_cons (pv 0) pa_nil)) (nomark _)) (pe_ix ix_list (pv 0) (pv 1) (fun _ _ => rfl)) (pe_op op_add (pe_op op_mul pe_int (pv 1)) (pe_op op_mod (pe_callB (cr_sum rfl) (by rfl) T.z_sum (by decide +kernel) (pa_cons (pe_slice sl_list (pv 0) po_none (po_some pe_int)) pa_nil)) pe_int))))), ?_⟩
    refine ⟨_, rfl, _, rfl, a, _, rfl, .inl hS, _, _, rfl, rfl, _, rfl, ite2 (fun c => ?_) (fun c => ?_)⟩
    · have c' := of_decide_eq_true c
      have hk : k < ns.length := by rw [List.length_map] at c'; omega
      exact ⟨_, rfl, _, rfl, a, _, _, _, rfl, rfl, hS, atI_nat (j := k) (v := V.int ns[k]) (by rw [List.getElem?_map, List.getElem?_eq_getElem hk]; rfl), q _ H (Same.refl H)⟩
    · refine ⟨_, rfl, _, _, rfl, rfl, .inl (by decide), _, rfl, 1, rfl, a, _, rfl, hS, fun p hp => ?_⟩
      rw [show cutV (ns.map V.int) none (some 1) = (ns.take 1).map V.int by rw [show (some (1 : Int)) = some ((1 : Nat) : Int) from rfl, cutV_to, List.map_take]]
      exact ⟨p, ns.take 1, rfl, SqL.of upd_same, _, _, rfl, rfl, (by show (0 : Int) < 1000081; decide), _, _, rfl, rfl, q _ _ (Same.new (Same.refl H) hp)⟩
def spBox : Sp := fun vs H Q _ => ∃ c : Int, vs = [.int c] ∧ ∀ p o, H p = none → BoxO 0 o → Q (.ref p) (upd H p o)
theorem ok_law_box (T : Txt K mg) : FnOk P w K mg base CX0 1 T.f_law_box T.fd_law_box ["great"] spBox := by
  refine T.F_law_box.ok sc_law_box (fun vs H Q E h => ?_) (fun cdv A outer s H vs Q E hr h => ?_)
  · obtain ⟨c, rfl, _⟩ := h; rfl
  · obtain ⟨c, rfl, q⟩ := h
    refine ⟨_, (pss_one (ps_ret (pe_lst (pa_cons (pe_callB call_abs (by rfl) T.z_abs (by decide +kernel) (pa_cons (pv 0) pa_nil)) (pa_cons (pe_cmpR op_ge (pe_callB call_abs (by rfl) T.z_abs (by decide +kernel) (pa_cons (pv 0) pa_nil)) (pe_op op_pow pe_int pe_int) (nomark _)) (pa_cons (pe_op op_mod (pe_callTy call_int1 (by rfl) T.z_int (by decide +kernel) (pa_cons (pe_callB call_abs (by rfl) T.z_abs (by decide +kernel) (pa_cons (pv 0) pa_nil)) pa_nil)) pe_int) (pa_cons pe_int pa_nil))))))), ?_⟩
    refine ⟨_, rfl, _, rfl, _, rfl, _, rfl, _, _, rfl, rfl, ⟨by decide, by decide, by decide⟩, _, _, rfl, rfl, _, rfl, _, rfl, .inl ⟨_, rfl, _, _, rfl, rfl, (by show (0 : Int) < 2147483629; decide), (by show 4 ≤ sizeLine; decide), fun p hp => q p _ hp ⟨_, _, _, _, rfl, ?_, ?_, Int.le_refl 0, Int.le_refl 0⟩⟩⟩
    · exact Int.emod_nonneg _ (by decide)
    · have := Int.emod_lt_of_pos (if c < 0 then -c else c) (by decide : (0 : Int) < 2147483629)
      omega
/-- a draw below many; the box goes on -/
def spTake : Sp := fun vs H Q _ => ∃ (p : Addr) (n : Nat) (many : Int), vs = [.ref p, .int many] ∧ BoxAt H p n ∧ n < 1000000000 ∧ 0 < many ∧ many < 1000000 ∧
  ∀ (d : Nat) o, (d : Int) < many → BoxO (n + 1) o → Q (.int d) (upd H p o)
theorem ok_law_take (T : Txt K mg) : FnOk P w K mg base CX0 1 T.f_law_take T.fd_law_take ["box", "many"] spTake := by
  refine T.F_law_take.ok sc_law_take (fun vs H Q E h => ?_) (fun cdv A outer s H vs Q E hr h => ?_)
  · obtain ⟨p, n, m, rfl, _⟩ := h; rfl
  · obtain ⟨p, n, many, rfl, ⟨o, ho, a, m, c, b, rfl, m0, m1, c0, c1⟩, hn, p0, p1, q⟩ := h
    refine ⟨_, (pss_cons (ps_if (PW.pt (pw_and (pt_val (pe_ix ix_list (pv 0) pe_int (fun _ _ => rfl))) (pw_and1 (pt_cmpR op_gt (pe_ix ix_list (pv 0) pe_int (fun _ _ => rfl)) pe_int (nomark _))))) (pss_cons (ps_set (i := 2) sc_law_take.nd rfl (Or.inl rfl) (pe_op op_mod (pe_callTy call_int1 (by rfl) T.z_int (by decide +kernel) (pa_cons (pe_ix ix_list (pv 0) pe_int (fun _ _ => rfl)) pa_nil)) (pv 1)))
      (pss_cons (ps_asg (pe_op op_fdivW (pe_ix ix_list (pv 0) pe_int (fun _ _ => rfl)) (pv 1)) (pg_sub (pv 0) pe_int set_list))
      (pss_one (ps_ret (pv 2))))) pss_nil)
      (pss_cons (ps_asg (pe_op op_add (pe_ix ix_list (pv 0) pe_int (fun _ _ => rfl)) pe_int) (pg_sub (pv 0) pe_int set_list))
      (pss_cons (ps_set (i := 3) sc_law_take.nd rfl (Or.inl rfl) (pe_op op_mod (pe_callTy call_int1 (by rfl) T.z_int (by decide +kernel) (pa_cons (pe_op op_pow (pe_op op_add (pe_op op_add (pe_ix ix_list (pv 0) pe_int (fun _ _ => rfl)) (pe_op op_mul pe_int (pe_ix ix_list (pv 0) pe_int (fun _ _ => rfl)))) pe_int) pe_int) pa_nil)) pe_int))
      (pss_one (ps_ret (pe_op op_mod (pe_op op_fdivW (pe_op op_mod (pe_callTy call_int1 (by rfl) T.z_int (by decide +kernel) (pa_cons (pe_op op_pow (pe_op op_add (pe_op op_mul (pv 3) pe_int) (pe_op op_mul pe_int (pe_ix ix_list (pv 0) pe_int (fun _ _ => rfl)))) pe_int) pa_nil)) pe_int) pe_int) (pv 1))))))), ?_⟩
    have at0 : atI [V.int a, .bl b, .int m, .int c] 0 = some (.int a) := atI_nat (j := 0) rfl
    have at1 : atI [V.int a, .bl b, .int m, .int c] 1 = some (.bl b) := atI_nat (j := 1) rfl
    have at3 : atI [V.int a, .bl b, .int m, .int c] 3 = some (.int c) := atI_nat (j := 3) rfl
    have lm : CDivW a many := ⟨p0, by
      have : many.natAbs < 2 ^ 20 := by omega
      exact Nat.lt_of_lt_of_le (PySem.Flt.log2_lt_of (by decide) this) (by decide)⟩
    have second : tSeq (tAsg (tOp (rI0 fun i j => .int (i + j)) (tOp (rIxL K) (tVar 0) (tC (.int 3))) (tC (.int 1))) (gSub (tVar 0) (tC (.int 3)) rSetL))
        (tSeq (tAsg (tOp (rI (fun _ j => 0 < j) fun i j => .int (i % j)) (tCB (fun xs H Q => (∃ i, xs = [.int i] ∧ Q (.int i) H) ∨ ∃ k, xs = [.bl k] ∧ Q (.int (if k then 1 else 0)) H) (tCons (tOp (rI CPow fun i j => .int (i ^ j.toNat)) (tOp (rI0 fun i j => .int (i + j)) (tOp (rI0 fun i j => .int (i + j)) (tOp (rIxL K) (tVar 0) (tC (.int 2))) (tOp (rI CMul fun i j => .int (i * j)) (tC (.int 15485863)) (tOp (rIxL K) (tVar 0) (tC (.int 3))))) (tC (.int 179424697))) (tC (.int 5))) tNil)) (tC (.int 2147483647))) (gName 3))
        (tRet (tOp (rI (fun _ j => 0 < j) fun i j => .int (i % j)) (tOp (rI CDivW fun i j => .int (i / j)) (tOp (rI (fun _ j => 0 < j) fun i j => .int (i % j)) (tCB (fun xs H Q => (∃ i, xs = [.int i] ∧ Q (.int i) H) ∨ ∃ k, xs = [.bl k] ∧ Q (.int (if k then 1 else 0)) H) (tCons (tOp (rI CPow fun i j => .int (i ^ j.toNat)) (tOp (rI0 fun i j => .int (i + j)) (tOp (rI CMul fun i j => .int (i * j)) (tVar 3) (tC (.int 48271))) (tOp (rI CMul fun i j => .int (i * j)) (tC (.int 104723)) (tOp (rIxL K) (tVar 0) (tC (.int 3))))) (tC (.int 3))) tNil)) (tC (.int 2147483587))) (tC (.int 64))) (tVar 1))))
        { nx := fun _ H' => Q .non H', rt := Q } [some (.ref p), some (.int many), none, none] H := by
      refine ⟨_, rfl, p, _, _, _, rfl, rfl, SqL.of ho, at3, _, _, rfl, rfl, _, rfl, p, _, 3, 3, rfl, rfl, ho, rfl, ?_⟩
      have hu : upd H p (.lst [.int a, .bl b, .int m, .int (c + 1)]) p = some (.lst [.int a, .bl b, .int m, .int (c + 1)]) := upd_same
      refine ⟨_, rfl, p, _, _, _, rfl, rfl, SqL.of hu, atI_nat (j := 2) rfl, _, rfl, p, _, _, _, rfl, rfl, SqL.of hu, atI_nat (j := 3) rfl, _, _, rfl, rfl, .inl (by decide), _, _, rfl, rfl, _, _, rfl, rfl, _, _, rfl, rfl, ⟨by decide, by decide, by omega⟩, .inl ⟨_, rfl, _, _, rfl, rfl, (by show (0 : Int) < 2147483647; decide), ?_⟩⟩
      refine ⟨_, rfl, _, _, rfl, rfl, .inr (by decide), _, rfl, p, _, _, _, rfl, rfl, SqL.of hu, atI_nat (j := 3) rfl, _, _, rfl, rfl, .inl (by decide), _, _, rfl, rfl, _, _, rfl, rfl, ⟨by decide, by decide, by omega⟩, .inl ⟨_, rfl, _, _, rfl, rfl, (by show (0 : Int) < 2147483587; decide), _, _, rfl, rfl, ⟨by decide, by decide⟩, _, rfl, _, _, rfl, rfl, p0, ?_⟩⟩
      have y0 := Int.emod_nonneg ((((m + 15485863 * (c + 1) + 179424697) ^ (5 : Int).toNat % 2147483647) * 48271 + 104723 * (c + 1)) ^ (3 : Int).toNat % 2147483587 / 64) (by omega : many ≠ 0)
      have y1 := Int.emod_lt_of_pos ((((m + 15485863 * (c + 1) + 179424697) ^ (5 : Int).toNat % 2147483647) * 48271 + 104723 * (c + 1)) ^ (3 : Int).toNat % 2147483587 / 64) p0
      show Q (.int ((((m + 15485863 * (c + 1) + 179424697) ^ (5 : Int).toNat % 2147483647) * 48271 + 104723 * (c + 1)) ^ (3 : Int).toNat % 2147483587 / 64 % many)) _
      generalize (((m + 15485863 * (c + 1) + 179424697) ^ (5 : Int).toNat % 2147483647) * 48271 + 104723 * (c + 1)) ^ (3 : Int).toNat % 2147483587 / 64 % many = y at *
      obtain ⟨d, rfl⟩ : ∃ d : Nat, y = d := ⟨y.toNat, by omega⟩
      exact q d _ y1 ⟨a, m, c + 1, b, rfl, m0, m1, by omega, by omega⟩
    refine ⟨_, rfl, p, _, _, _, rfl, rfl, SqL.of ho, at1, b, rfl, ?_⟩
    cases b with
    | false => exact iteF (iteF second)
    | true =>
      refine iteT ⟨_, rfl, p, _, _, _, rfl, rfl, SqL.of ho, at0, _, _, rfl, rfl, _, rfl, ite2 (fun z => ?_) (fun z => second)⟩
      refine ⟨_, rfl, p, _, _, _, rfl, rfl, SqL.of ho, at0, .inl ⟨_, rfl, _, rfl, _, _, rfl, rfl, p0, ?_⟩⟩
      refine ⟨_, rfl, p, _, _, _, rfl, rfl, SqL.of ho, at0, _, rfl, _, _, rfl, rfl, lm, _, rfl, p, _, 0, 0, rfl, rfl, ho, rfl, _, rfl, ?_⟩
      have y0 := Int.emod_nonneg a (by omega : many ≠ 0)
      have y1 := Int.emod_lt_of_pos a p0
      show Q (.int (a % many)) _
      generalize a % many = y at *
      obtain ⟨d, rfl⟩ : ∃ d : Nat, y = d := ⟨y.toNat, by omega⟩
      exact q d _ y1 ⟨a / many, m, c, true, rfl, m0, m1, c0, by omega⟩
end
end My

set_option Elab.async false
set_option linter.all false
set_option maxRecDepth 100000
set_option maxHeartbeats 8000000
namespace Lev
/-! ### lags -/
def behind (l r : List Nat) : Option (List Nat × List Nat) :=
  if l.take r.length = r then some (l.drop r.length, []) else if r.take l.length = l then some ([], r.drop l.length) else none
theorem behind_cancel (c p q : List Nat) : behind (c ++ p) (c ++ q) = behind p q := by
  have e1 : ∀ p q : List Nat, ((c ++ p).take (c ++ q).length = c ++ q) ↔ p.take q.length = q := fun p q => by
    rw [List.length_append, List.take_append, List.take_of_length_le (by omega), Nat.add_sub_cancel_left]
    exact List.append_cancel_left_eq _ _ _ |>.to_iff
  have e2 : ∀ p q : List Nat, (c ++ p).drop (c ++ q).length = p.drop q.length := fun p q => by
    rw [List.length_append, List.drop_append, List.drop_of_length_le (by omega), Nat.add_sub_cancel_left]
    rfl
  unfold behind
  simp only [e1, e2]
theorem behind_swap (p q : List Nat) : behind q p = (behind p q).map fun z => (z.2, z.1) := by
  unfold behind
  by_cases h1 : p.take q.length = q
  · rw [if_pos h1]
    by_cases h2 : q.take p.length = p
    · rw [if_pos h2]
      have l1 := congrArg List.length h1
      have l2 := congrArg List.length h2
      rw [List.length_take] at l1 l2
      have : p.length = q.length := by omega
      have e : p = q := by rw [← h1, ← this, List.take_length]
      subst e
      simp
    · rw [if_neg h2, if_pos h1]; rfl
  · by_cases h2 : q.take p.length = p
    · simp [h1, h2]
    · simp [h1, h2]
theorem behind_one {l r x y : List Nat} (h : behind l r = some (x, y)) : (l = r ++ x ∧ y = []) ∨ (r = l ++ y ∧ x = []) := by
  unfold behind at h
  by_cases h1 : l.take r.length = r
  · rw [if_pos h1] at h
    cases h
    left
    refine ⟨?_, rfl⟩
    conv => lhs; rw [← List.take_append_drop r.length l, h1]
  · rw [if_neg h1] at h
    by_cases h2 : r.take l.length = l
    · rw [if_pos h2] at h
      cases h
      right
      refine ⟨?_, rfl⟩
      conv => lhs; rw [← List.take_append_drop l.length r, h2]
    · rw [if_neg h2] at h; cases h
/-- what is written later -/
theorem behind_on {l r x y a b : List Nat} (h : behind l r = some (x, y)) : behind (x ++ a) (y ++ b) = behind (l ++ a) (r ++ b) := by
  rcases behind_one h with ⟨e1, e2⟩ | ⟨e1, e2⟩
  · rw [e1, e2, List.append_assoc, behind_cancel]; rfl
  · rw [e1, e2, List.append_assoc, behind_cancel]; rfl
theorem behind_len {l r x y : List Nat} (h : behind l r = some (x, y)) : x.length ≤ l.length ∧ y.length ≤ r.length ∧ (x = [] ∨ y = []) := by
  rcases behind_one h with ⟨e1, e2⟩ | ⟨e1, e2⟩
  · refine ⟨?_, by rw [e2]; exact Nat.zero_le _, .inr e2⟩
    rw [e1, List.length_append]; omega
  · refine ⟨by rw [e2]; exact Nat.zero_le _, ?_, .inl e2⟩
    rw [e1, List.length_append]; omega
theorem behind_mem {l r x y : List Nat} (h : behind l r = some (x, y)) : (∀ c ∈ x, c ∈ l) ∧ ∀ c ∈ y, c ∈ r := by
  rcases behind_one h with ⟨e1, e2⟩ | ⟨e1, e2⟩
  · exact ⟨fun c hc => (by rw [e1]; exact List.mem_append_right _ hc), fun c hc => (by rw [e2] at hc; cases hc)⟩
  · exact ⟨fun c hc => (by rw [e2] at hc; cases hc), fun c hc => (by rw [e1]; exact List.mem_append_right _ hc)⟩
end Lev
namespace My
open PySem PySem.Spec PyProof.Rows L2
theorem starts_S (l r : List Nat) : Txt.startswith (S l) (S r) = decide (l.take r.length = r) := by
  unfold Txt.startswith
  rw [Nat.zero_add, StrLaws.subAt_eq]
  show (decide ((S r).length ≤ (S l).length) && (((cs (S l)).drop 0).take (S r).length == cs (S r))) = _
  rw [S_tl, S_tl, S_len, S_len, List.drop_zero]
  by_cases h : l.take r.length = r
  · have := congrArg List.length h
    rw [List.length_take] at this
    rw [decide_eq_true h, decide_eq_true (by omega : r.length ≤ l.length), h]; simp
  · rw [decide_eq_false h]
    have : (l.take r.length == r) = false := by simp [h]
    rw [this, Bool.and_false]
section
variable {P : Program} {w : World} {K : PySem.W.Frag} {mg : Str → Option Value} {base : Heap}
/-- what is told: a new tuple or None -/
def Told (o : Option (List Nat × List Nat)) (H : Hp) (Q : VK) : Prop := match o with
  | some (x, y) => ∀ q, H q = none → Q (.ref q) (upd H q (.tup [.str (S x), .str (S y)]))
  | none => Q .non H
def spOnward (K : PySem.W.Frag) : Sp := fun vs H Q _ => ∃ (q : Addr) (x y a b : List Nat), vs = [.ref q, .str (S a), .str (S b)] ∧ SqT K H q [.str (S x), .str (S y)] ∧ Big x ∧ Big y ∧ Big a ∧ Big b ∧ Told (Lev.behind (x ++ a) (y ++ b)) H Q
theorem ok_lag_onward (T : Txt K mg) : FnOk P w K mg base CX0 1 T.f_lag_onward T.fd_lag_onward ["lag", "one", "other"] (spOnward K) := by
  refine T.F_lag_onward.ok sc_lag_onward (fun vs H Q E h => ?_) (fun cdv A outer s H vs Q E hr h => ?_)
  · obtain ⟨q, x, y, a, b, rfl, _⟩ := h; rfl
  · obtain ⟨q, x, y, a, b, rfl, hq, hx, hy, ha, hb, k⟩ := h
    refine ⟨_, (pss_cons (ps_set (i := 3) sc_lag_onward.nd rfl (Or.inl rfl) (pe_op op_add_str (pe_ix ix_tup (pv 0) pe_int (fun _ _ => rfl)) (pv 1)))
      (pss_cons (ps_set (i := 4) sc_lag_onward.nd rfl (Or.inl rfl) (pe_op op_add_str (pe_ix ix_tup (pv 0) pe_int (fun _ _ => rfl)) (pv 2)))
      (pss_cons (ps_if (pt_val (pe_bm PySem.F.plainAttrs_str PySem.F.slot_str_startswith PySem.F.type_str_startswith mt_startswith (pv 3) (pa_cons (pv 4) pa_nil))) (pss_one (ps_ret (pe_tup (pa_cons (pe_slice sl_str (pv 3) (po_some (pe_callB call_len_str (by rfl) T.z_len (by decide +kernel) (pa_cons (pv 4) pa_nil))) po_none) (pa_cons pe_str pa_nil))))) pss_nil)
      (pss_cons (ps_if (pt_val (pe_bm PySem.F.plainAttrs_str PySem.F.slot_str_startswith PySem.F.type_str_startswith mt_startswith (pv 4) (pa_cons (pv 3) pa_nil))) (pss_one (ps_ret (pe_tup (pa_cons pe_str (pa_cons (pe_slice sl_str (pv 4) (po_some (pe_callB call_len_str (by rfl) T.z_len (by decide +kernel) (pa_cons (pv 3) pa_nil))) po_none) pa_nil))))) pss_nil)
      (pss_one (ps_ret pe_non)))))), ?_⟩
    have two : 2 ≤ sizeLine := by decide
    have zz : ∀ {x y : List Nat}, Big x → Big y → (S x).length + (S y).length ≤ sizeLine := fun {x y} h1 h2 => by
      rw [S_len, S_len]
      have : x.length ≤ 100000 := h1
      have : y.length ≤ 100000 := h2
      exact Nat.le_trans (by omega) (by decide : 200000 ≤ sizeLine)
    have zl : ∀ {x y : List Nat}, Big x → Big y → (S (x ++ y)).length ≤ sizeLine := fun {x y} h1 h2 => by
      have := zz h1 h2
      rw [S_len, List.length_append]; rw [S_len, S_len] at this; exact this
    refine ⟨_, rfl, q, _, _, _, rfl, rfl, hq, atI_nat (j := 0) rfl, _, rfl, _, _, rfl, rfl, zz hx ha, ?_⟩
    rw [S_app]
    refine ⟨_, rfl, q, _, _, _, rfl, rfl, hq, atI_nat (j := 1) rfl, _, rfl, _, _, rfl, rfl, zz hy hb, ?_⟩
    rw [S_app]
    have fits : ∀ {u : List Nat}, True := fun {u} => trivial
    refine ⟨_, rfl, rfl, _, rfl, _, _, rfl, rfl, _, rfl, ?_⟩
    rw [starts_S]
    by_cases h1 : (x ++ a).take (y ++ b).length = y ++ b
    · have eb : Lev.behind (x ++ a) (y ++ b) = some ((x ++ a).drop (y ++ b).length, []) := by unfold Lev.behind; rw [if_pos h1]
      rw [eb] at k
      rw [decide_eq_true h1]
      refine iteT ⟨_, rfl, _, rfl, _, rfl, zl hy hb, _, rfl, _, rfl, zl hx ha, ?_⟩
      rw [S_len, cut_from]
      exact ⟨two, fun p hp => k p hp⟩
    · rw [decide_eq_false h1]
      refine iteF ⟨_, rfl, rfl, _, rfl, _, _, rfl, rfl, _, rfl, ?_⟩
      rw [starts_S]
      by_cases h2 : (y ++ b).take (x ++ a).length = x ++ a
      · have eb : Lev.behind (x ++ a) (y ++ b) = some ([], (y ++ b).drop (x ++ a).length) := by unfold Lev.behind; rw [if_neg h1, if_pos h2]
        rw [eb] at k
        rw [decide_eq_true h2]
        refine iteT ⟨_, rfl, _, rfl, _, rfl, zl hx ha, _, rfl, _, rfl, zl hy hb, ?_⟩
        rw [S_len, cut_from]
        exact ⟨two, fun p hp => k p hp⟩
      · have eb : Lev.behind (x ++ a) (y ++ b) = none := by unfold Lev.behind; rw [if_neg h1, if_neg h2]
        rw [eb] at k
        rw [decide_eq_false h2]
        exact iteF k
end
end My

set_option Elab.async false
set_option linter.all false
set_option maxRecDepth 100000
set_option maxHeartbeats 8000000
namespace My
open PySem PySem.Spec PyProof.Rows L2
section
variable {P : Program} {w : World} {K : PySem.W.Frag} {mg : Str → Option Value} {base : Heap}
/-- whether a value is a lag -/
def LagJ (K : PySem.W.Frag) (H : Hp) (x : V) (b : Bool) : Prop :=
  (∃ t, TyX K H x (.type t) ∧ kitB t "tuple" = some false ∧ b = false) ∨
  (∃ a xs, x = .ref a ∧ H a = some (.tup xs) ∧ xs.length ≠ 2 ∧ b = false) ∨
  ∃ a y z, x = .ref a ∧ H a = some (.tup [y, z]) ∧ ((Jd K H y false ∧ b = false) ∨ (Jd K H y true ∧ Jd K H z false ∧ b = false) ∨ ∃ u v : List Nat, y = .str (S u) ∧ z = .str (S v) ∧ Low u ∧ Low v ∧ b = decide (u = [] ∨ v = []))
theorem inV_two (u v : List Nat) : inV (.str (Str.ofString "")) [.str (S u), .str (S v)] = decide (u = [] ∨ v = []) := by
  have e : ∀ u : List Nat, eqV (.str (Str.ofString "")) (.str (S u)) = decide (u = []) ∧ eqV (.str (S u)) (.str (Str.ofString "")) = decide (u = []) := fun u => by
    have h1 : eqV (.str (Str.ofString "")) (.str (S u)) = (Str.ofString "" == S u) := rfl
    have h2 : eqV (.str (S u)) (.str (Str.ofString "")) = (S u == Str.ofString "") := rfl
    rw [h1, h2]
    by_cases hu : u = []
    · subst hu; exact ⟨rfl, rfl⟩
    · rw [decide_eq_false hu]
      have : S u ≠ Str.ofString "" := fun z => hu (S_inj (z.trans (show Str.ofString "" = S [] from rfl)))
      exact ⟨beq_eq_false_iff_ne.mpr (Ne.symm this), beq_eq_false_iff_ne.mpr this⟩
  unfold inV
  simp [e]
def spIsLag (K : PySem.W.Frag) : Sp := fun vs H Q _ => ∃ x b, vs = [x] ∧ LagJ K H x b ∧ Q (.bl b) H
theorem ok_is_lag (T : Txt K mg) : FnOk P w K mg base CX0 2 T.f_is_lag T.fd_is_lag ["value"] (spIsLag K) := by
  refine T.F_is_lag.ok sc_is_lag (fun vs H Q E h => ?_) (fun cdv A outer s H vs Q E hr h => ?_)
  · obtain ⟨x, b, rfl, _⟩ := h; rfl
  · obtain ⟨x, b, rfl, h, q⟩ := h
    refine ⟨_, (pss_cons (ps_if (PW.pt (pw_or (pt_not (pt_val (pe_callB call_isi (by rfl) T.z_isinstance (by decide +kernel) (pa_cons (pv 0) (pa_cons (pe_bltn (v := .ty "tuple") (u := .type "tuple") (by rfl) T.z_tuple (by decide +kernel) rfl) pa_nil))))) (pw_or1 (pt_cmpR op_ne (pe_callB call_len_seq (by rfl) T.z_len (by decide +kernel) (pa_cons (pv 0) pa_nil)) pe_int (nomark _))))) (pss_one (ps_ret pe_bl)) pss_nil)
      (pss_one (ps_ret (pe_and (pe_call (ok_is_text T) (hr.mono (by decide)) rfl T.g_is_text T.F_is_text.kp T.b_is_text .nil pass0 (pa_cons (pe_ix ix_tup (pv 0) pe_int (fun _ _ => rfl)) pa_nil)) (pe_and (pe_call (ok_is_text T) (hr.mono (by decide)) rfl T.g_is_text T.F_is_text.kp T.b_is_text .nil pass0 (pa_cons (pe_ix ix_tup (pv 0) pe_int (fun _ _ => rfl)) pa_nil)) (pe_one (pe_cmpR op_in_seq pe_str (pv 0) (by rfl)))))))), ?_⟩
    rcases h with ⟨t, tx, kb, rfl⟩ | ⟨a, xs, rfl, ea, hl, rfl⟩ | ⟨a, y, z, rfl, ea, hc⟩
    · exact ⟨_, rfl, _, _, _, _, false, rfl, .ty _, tx, kit_ty kb, false, rfl, iteT q⟩
    · refine ⟨_, rfl, _, _, _, _, true, rfl, .ty _, .base (.tup ea), kit_ty (by decide +kernel), true, rfl, iteF ?_⟩
      refine ⟨_, rfl, a, _, rfl, .inr (SqT.of ea), rfl, _, rfl, ?_⟩
      rw [decide_eq_false (fun z => hl (by have := V.int.inj z; omega))]
      exact iteT q
    · refine ⟨_, rfl, _, _, _, _, true, rfl, .ty _, .base (.tup ea), kit_ty (by decide +kernel), true, rfl, iteF ?_⟩
      refine ⟨_, rfl, a, _, rfl, .inr (SqT.of ea), rfl, _, rfl, ?_⟩
      refine iteF ?_
      have at0 : atI [y, z] 0 = some y := atI_nat (j := 0) rfl
      have at1 : atI [y, z] 1 = some z := atI_nat (j := 1) rfl
      rcases hc with ⟨jy, rfl⟩ | ⟨jy, jz, rfl⟩ | ⟨u, v, rfl, rfl, lu, lv, rfl⟩
      · exact ⟨_, rfl, a, _, _, _, rfl, rfl, SqT.of ea, at0, y, _, rfl, jy, _, rfl, iteF q⟩
      · exact ⟨_, rfl, a, _, _, _, rfl, rfl, SqT.of ea, at0, y, _, rfl, jy, _, rfl, iteT ⟨_, rfl, a, _, _, _, rfl, rfl, SqT.of ea, at1, z, _, rfl, jz, _, rfl, iteF q⟩⟩
      · refine ⟨_, rfl, a, _, _, _, rfl, rfl, SqT.of ea, at0, _, _, rfl, jd_low lu, _, rfl, iteT ⟨_, rfl, a, _, _, _, rfl, rfl, SqT.of ea, at1, _, _, rfl, jd_low lv, _, rfl, iteT ?_⟩⟩
        refine ⟨_, rfl, a, _, rfl, .inr (SqT.of ea), rfl, rfl, ?_⟩
        rw [inV_two]
        exact q
def spLagBehind (K : PySem.W.Frag) (C : Addr) : Sp := fun vs H Q E => ∃ x y z bl by' bz, vs = [x, y, z] ∧ LagJ K H x bl ∧ Jd K H y by' ∧ Jd K H z bz ∧
  (bl = false → Bad C H x E) ∧ (bl = true → by' = false → Bad C H y E) ∧ (bl = true → by' = true → bz = false → Bad C H z E) ∧
  (bl = true → by' = true → bz = true → ∃ (q : Addr) (u v a b : List Nat), x = .ref q ∧ H q = some (.tup [.str (S u), .str (S v)]) ∧ y = .str (S a) ∧ z = .str (S b) ∧ Big u ∧ Big v ∧ Big a ∧ Big b ∧
    ∀ H', Same H H' → Told (Lev.behind (u ++ a) (v ++ b)) H' Q)
theorem ok_lag_behind (T : Txt K mg) : FnOk P w K mg base (L2.CX P w) 4 T.f_lag_behind T.fd_lag_behind ["lag", "one", "other"] (spLagBehind K T.C_InvalidText) := by
  refine T.F_lag_behind.okX sc_lag_behind (fun vs H Q E h => ?_) (fun cdv A outer s H vs Q E hr h => ?_)
  · obtain ⟨x, y, z, _, _, _, rfl, _⟩ := h; rfl
  · obtain ⟨x, y, z, bl, by', bz, rfl, jl, jy, jz, kX, kY, kZ, kQ⟩ := h
    refine ⟨_, (pss_cons (ps_if (pt_not (pt_val (pe_call (ok_is_lag T) (hr.mono (by decide)) rfl T.g_is_lag T.F_is_lag.kp T.b_is_lag .nil pass0 (pa_cons (pv 0) pa_nil)))) (pss_one (ps_raiseE rfl T.e_InvalidText hr (takes_of rfl rfl rfl rfl) (pa_cons (pv 0) pa_nil))) pss_nil)
      (pss_cons (ps_expr (pe_call (ok_check_texts T) (hr.mono (by decide)) rfl T.g_check_texts T.F_check_texts.kp T.b_check_texts .nil (passes_call (takes_of rfl rfl rfl rfl) (fun _ _ _ _ z => z)) (pa_cons (pv 1) (pa_cons (pv 2) pa_nil))))
      (pss_one (ps_ret (pe_call (ok_lag_onward T) (hr.mono (by decide)) rfl T.g_lag_onward T.F_lag_onward.kp T.b_lag_onward .nil pass0 (pa_cons (pv 0) (pa_cons (pv 1) (pa_cons (pv 2) pa_nil)))))))), ?_⟩
    refine ⟨_, rfl, x, bl, rfl, jl, _, rfl, ?_⟩
    cases bl with
    | false =>
      refine iteT ⟨_, rfl, x, rfl, fun d hd => ?_⟩
      exact kX rfl d _ (fun b o q => by rw [upd_ne (ne_of_none q hd)]; exact q) hd upd_same
    | true =>
      refine iteF ?_
      have st : ∀ t, H t = none → Jd K (upd H t (.tup [y, z])) y by' ∧ Jd K (upd H t (.tup [y, z])) z bz := fun t ht => ⟨jy.same (Same.new (Same.refl H) ht), jz.same (Same.new (Same.refl H) ht)⟩
      refine ⟨_, rfl, _, rfl, y, z, by', bz, rfl, jy, jz, st, kY rfl, kZ rfl, fun ey ez H1 s1 => ?_⟩
      obtain ⟨q, u, v, a, b, rfl, eq, rfl, rfl, hu, hv, ha, hb, k⟩ := kQ rfl ey ez
      refine ⟨_, rfl, _, rfl, _, rfl, q, u, v, a, b, rfl, SqT.of (s1 _ _ eq), hu, hv, ha, hb, ?_⟩
      exact k H1 s1
end
end My

set_option Elab.async false
set_option linter.all false
set_option maxRecDepth 100000
set_option maxHeartbeats 8000000
namespace Lev
theorem double_at {u v : List Nat} {k : Nat} (hl : v.length = u.length) : L2.AtL (u ++ u) v k ↔ k ≤ u.length ∧ rot k u = v := by
  unfold L2.AtL rot
  rw [hl, List.length_append]
  have e : k ≤ u.length → ((u ++ u).drop k).take u.length = u.drop k ++ u.take k := fun h => by
    rw [List.drop_append_of_le_length h, List.take_append, List.take_of_length_le (by rw [List.length_drop]; omega), List.length_drop, show u.length - (u.length - k) = k by omega]
  constructor
  · rintro ⟨h1, h2⟩
    have hk : k ≤ u.length := by omega
    exact ⟨hk, by rw [← e hk]; exact h2⟩
  · rintro ⟨h1, h2⟩
    exact ⟨by omega, by rw [e h1]; exact h2⟩
/-- the first place from 1 on where a text stands in two rounds of it -/
theorem find_rho {u : List Nat} (hu : u ≠ []) {r : Int} (h : L2.FindL (u ++ u) u 1 r) : r = (rho u : Nat) := by
  have hl := List.length_pos_iff.mpr hu
  rcases h with ⟨i, rfl, h1, h2, h3⟩ | ⟨_, h⟩
  · obtain ⟨a, b⟩ := (double_at rfl).mp h2
    rw [rho_eq hu h1 ((rot_eq a rfl).mp b) fun t t0 t1 p => h3 t t0 t1 ((double_at rfl).mpr ⟨by omega, (rot_eq (by omega) rfl).mpr p⟩)]
  · exact absurd ((double_at rfl).mpr ⟨Nat.le_refl _, (rot_eq (Nat.le_refl _) rfl).mpr (Pr.whole u)⟩) (h u.length hl)
/-- the numbers of the turns -/
def turnsL (u v : List Nat) : List Nat := if u = [] ∧ v = [] then [0] else (List.range (rho u)).filter fun t => decide (rot t u = v)
theorem turnsL_one {u v : List Nat} (hu : u ≠ []) (hl : v.length = u.length) {r : Int} (h : L2.FindL (u ++ u) v 0 r) : (r < 0 ∧ turnsL u v = []) ∨ ∃ t : Nat, r = t ∧ turnsL u v = [t] := by
  obtain ⟨a, b, c, d⟩ := rho_spec hu
  unfold turnsL
  rw [if_neg (fun z => hu z.1)]
  rcases h with ⟨i, rfl, _, h2, h3⟩ | ⟨rfl, h⟩
  · right
    refine ⟨i, rfl, ?_⟩
    obtain ⟨k1, k2⟩ := (double_at hl).mp h2
    have P := (rot_eq k1 hl).mp k2
    have hi : i < rho u := by
      rcases Nat.lt_or_ge i (rho u) with q | q
      · exact q
      · have z := Pr.mod c P
        have m := Nat.mod_lt i a
        exact absurd ((double_at hl).mpr ⟨by omega, (rot_eq (by omega) hl).mpr z⟩) (h3 (i % rho u) (Nat.zero_le _) (by omega))
    have uniq : ∀ t, t < rho u → (rot t u = v ↔ t = i) := fun t ht => by
      constructor
      · intro e
        have Pt := (rot_eq (Nat.le_of_lt (Nat.lt_of_lt_of_le ht b)) hl).mp e
        rcases Nat.lt_trichotomy t i with q | q | q
        · exact absurd (Pr.diff (t := i - t) Pt (by rw [show i - t + t = i by omega]; exact P)) (d _ (by omega) (by omega))
        · exact q
        · exact absurd (Pr.diff (t := t - i) P (by rw [show t - i + i = t by omega]; exact Pt)) (d _ (by omega) (by omega))
      · intro e; subst e; exact k2
    -- one place
    have go : ∀ n, n ≤ rho u → (List.range n).filter (fun t => decide (rot t u = v)) = if i < n then [i] else [] := by
      intro n
      induction n with
      | zero => intro _; rfl
      | succ n ih =>
        intro hn
        rw [List.range_succ, List.filter_append, ih (by omega)]
        by_cases e : n = i
        · subst e
          rw [if_neg (by omega), if_pos (by omega)]
          simp [k2]
        · have e0 : List.filter (fun t => decide (rot t u = v)) [n] = [] := by
            have : ¬ rot n u = v := fun z => e ((uniq n (by omega)).mp z)
            simp [this]
          rw [e0]
          by_cases q : i < n
          · rw [if_pos q, if_pos (by omega)]; rfl
          · rw [if_neg q, if_neg (by omega)]; rfl
    rw [go _ (Nat.le_refl _), if_pos hi]
  · left
    refine ⟨by omega, List.filter_eq_nil_iff.mpr fun t ht => ?_⟩
    have ht' := List.mem_range.mp ht
    simp only [decide_eq_true_eq]
    intro e
    exact h t (Nat.zero_le _) ((double_at hl).mpr ⟨by omega, e⟩)
theorem turnsL_len {u v : List Nat} (h : v.length ≠ u.length) : turnsL u v = [] := by
  unfold turnsL
  rw [if_neg (fun z => h (by rw [z.1, z.2]))]
  refine List.filter_eq_nil_iff.mpr fun t ht => ?_
  simp only [decide_eq_true_eq]
  intro e
  have := congrArg List.length e
  rw [rot_len] at this
  exact h this.symm
end Lev
namespace My
open PySem PySem.Spec PyProof.Rows L2
def intsV (ns : List Nat) : List V := ns.map fun n => V.int (n : Nat)
section
variable {P : Program} {w : World} {K : PySem.W.Frag} {mg : Str → Option Value} {base : Heap}
def spLenRoot : Sp := fun vs H Q _ => ∃ u : List Nat, vs = [.str (S u)] ∧ Big u ∧ Q (.int (Lev.rho u : Nat)) H
theorem neZ {u : List Nat} : (((S u).length : Int) != 0) = decide (u ≠ []) := by
  rw [S_len]
  by_cases h : u = []
  · subst h; rfl
  · have := List.length_pos_iff.mpr h
    rw [decide_eq_true h]
    simp only [bne_iff_ne, ne_eq]
    omega
theorem ok_length_of_root (T : Txt K mg) : FnOk P w K mg base CX0 1 T.f_length_of_root T.fd_length_of_root ["text"] spLenRoot := by
  refine T.F_length_of_root.ok sc_length_of_root (fun vs H Q E h => ?_) (fun cdv A outer s H vs Q E hr h => ?_)
  · obtain ⟨u, rfl, _⟩ := h; rfl
  · obtain ⟨u, rfl, hu, q⟩ := h
    refine ⟨_, (pss_one (ps_ret (pe_ifExp (pt_truth (pv 0) (fun _ => rfl)) (pe_bm PySem.F.plainAttrs_str PySem.F.slot_str_find PySem.F.type_str_find mt_find3 (pe_op op_add_str (pv 0) (pv 0)) (pa_cons (pv 0) (pa_cons pe_int pa_nil))) pe_int))), ?_⟩
    refine ⟨_, rfl, decide (u ≠ []), ⟨hu.fits, neZ.symm⟩, ite2 (fun c => ?_) (fun c => ?_)⟩
    · have c' : u ≠ [] := of_decide_eq_true c
      refine ⟨_, rfl, _, rfl, _, _, rfl, rfl, hu.dbl, rfl, _, rfl, _, _, _, rfl, rfl, ?_⟩
      rw [S_app]
      have e := Lev.find_rho c' (find3_FindL (u ++ u) u 1)
      show Q (.int (Txt.find3 (S (u ++ u)) (S u) 1)) H
      rw [show (1 : Int) = ((1 : Nat) : Int) from rfl, e]
      exact q
    · have c' : u = [] := Classical.byContradiction fun z => c (decide_eq_true z)
      subst c'
      exact q
def spTurnsB : Sp := fun vs H Q _ => ∃ u v : List Nat, vs = [.str (S u), .str (S v)] ∧ Big u ∧ Big v ∧ ∀ q, H q = none → Q (.ref q) (upd H q (.lst (intsV (Lev.turnsL u v))))
theorem ok_turns_between (T : Txt K mg) : FnOk P w K mg base CX0 1 T.f_turns_between T.fd_turns_between ["one", "other"] spTurnsB := by
  refine T.F_turns_between.ok sc_turns_between (fun vs H Q E h => ?_) (fun cdv A outer s H vs Q E hr h => ?_)
  · obtain ⟨u, v, rfl, _⟩ := h; rfl
  · obtain ⟨u, v, rfl, hu, hv, q⟩ := h
    refine ⟨_, (pss_cons (ps_if (PW.pt (pw_and (pt_cmpR op_eq (pv 0) pe_str (nomark _)) (pw_and1 (pt_cmpR op_eq (pv 1) pe_str (nomark _))))) (pss_one (ps_ret (pe_lst (pa_cons pe_int pa_nil)))) pss_nil)
      (pss_cons (ps_if (pt_cmpR op_ne (pe_callB call_len_str (by rfl) T.z_len (by decide +kernel) (pa_cons (pv 0) pa_nil)) (pe_callB call_len_str (by rfl) T.z_len (by decide +kernel) (pa_cons (pv 1) pa_nil)) (nomark _)) (pss_one (ps_ret (pe_lst pa_nil))) pss_nil)
      (pss_cons (ps_set (i := 2) sc_turns_between.nd rfl (Or.inl rfl) (pe_bm PySem.F.plainAttrs_str PySem.F.slot_str_find PySem.F.type_str_find mt_find (pe_op op_add_str (pv 0) (pv 0)) (pa_cons (pv 1) pa_nil)))
      (pss_one (ps_ret (pe_ifExp (pt_cmpR op_lt (pv 2) pe_int (nomark _)) (pe_lst pa_nil) (pe_lst (pa_cons (pv 2) pa_nil)))))))), ?_⟩
    have z0 : 0 ≤ sizeLine := by decide
    have ze : ∀ {u : List Nat}, decide (V.str (S u) = V.str (Str.ofString "")) = decide (u = []) := fun {u} => S_eqV u []
    by_cases h0 : u = [] ∧ v = []
    · obtain ⟨rfl, rfl⟩ := h0
      exact ⟨_, rfl, rfl, _, rfl, iteT ⟨_, rfl, rfl, _, rfl, iteT ⟨(by show 1 ≤ sizeLine; decide), fun q2 hq2 => q q2 hq2⟩⟩⟩
    · refine (fun rest => ⟨_, rfl, rfl, _, rfl, ite2 (fun c => ⟨_, rfl, rfl, _, rfl, ite2 (fun c2 => absurd ⟨of_decide_eq_true (ze.symm.trans c), of_decide_eq_true (ze.symm.trans c2)⟩ h0) (fun _ => rest)⟩) (fun _ => rest)⟩) ?_
      refine ⟨_, rfl, _, rfl, hu.fits, _, rfl, _, rfl, hv.fits, rfl, _, rfl, ?_⟩
      rw [S_len, S_len]
      by_cases hl : v.length = u.length
      · have hne : u ≠ [] := fun z => h0 ⟨z, List.length_eq_zero_iff.mp (by rw [hl, z]; rfl)⟩
        rw [decide_eq_true (show V.int (u.length : Int) = V.int v.length by rw [hl])]
        refine iteF ?_
        refine ⟨_, rfl, _, rfl, _, _, rfl, rfl, hu.dbl, rfl, _, rfl, _, _, rfl, rfl, ?_⟩
        rw [S_app]
        rcases Lev.turnsL_one hne hl (find_FindL (u ++ u) v) with ⟨e1, e2⟩ | ⟨i, e1, e2⟩
        · refine ⟨_, rfl, _, _, rfl, rfl, _, rfl, ?_⟩
          rw [decide_eq_true e1]
          refine iteT ⟨z0, fun q2 hq2 => ?_⟩
          rw [e2] at q
          exact q q2 hq2
        · refine ⟨_, rfl, _, _, rfl, rfl, _, rfl, ?_⟩
          rw [e1, decide_eq_false (by omega)]
          refine iteF ⟨_, rfl, (by show 1 ≤ sizeLine; decide), fun q2 hq2 => ?_⟩
          rw [e2] at q
          exact q q2 hq2
      · rw [decide_eq_false (fun z => hl (by have := V.int.inj z; omega))]
        refine iteT ⟨z0, fun q2 hq2 => ?_⟩
        rw [Lev.turnsL_len hl] at q
        exact q q2 hq2
end
end My

set_option Elab.async false
set_option linter.all false
set_option maxRecDepth 100000
set_option maxHeartbeats 8000000
namespace Lev
/-! ### lags that stay -/
/-- the first m letters of the rounds of a text -/
def head (m : Nat) (v : List Nat) : List Nat := (rounds (m / v.length + 1) v).take m
theorem head_room {v : List Nat} (h : v ≠ []) (m : Nat) : m ≤ (m / v.length + 1) * v.length := by
  have hl := List.length_pos_iff.mpr h
  have := Nat.lt_mul_div_succ m hl
  rw [Nat.mul_comm]; exact Nat.le_of_lt this
theorem head_len {v : List Nat} (h : v ≠ []) (m : Nat) : (head m v).length = m := by
  unfold head
  rw [List.length_take, rounds_len]
  exact Nat.min_eq_left (head_room h m)
theorem head_get {v : List Nat} (h : v ≠ []) {m i : Nat} (hi : i < m) : (head m v)[i]? = v[i % v.length]? := by
  unfold head
  rw [List.getElem?_take, if_pos hi, rounds_get _ _ (Nat.lt_of_lt_of_le hi (head_room h m))]
theorem head_zero (v : List Nat) : head 0 v = [] := by unfold head; rw [List.take_zero]
theorem head_mem {v : List Nat} {m c : Nat} (h : v ≠ []) (hc : c ∈ head m v) : c ∈ v := by
  obtain ⟨i, hi, e⟩ := List.mem_iff_getElem.mp hc
  have hi' : i < m := by rw [head_len h] at hi; exact hi
  have := head_get h hi'
  rw [List.getElem?_eq_getElem hi, e] at this
  exact List.mem_of_getElem? this.symm
theorem head_key {a b : List Nat} (ha : a ≠ []) (hl : b.length = a.length) (m : Nat) : a ++ head m a = head m a ++ b ↔ Pr a b m := by
  have pl := List.length_pos_iff.mpr ha
  have g : ∀ i, i < a.length + m → (a ++ head m a)[i]? = a[i % a.length]? := fun i hi => by
    by_cases h : i < a.length
    · rw [List.getElem?_append_left h, Nat.mod_eq_of_lt h]
    · rw [List.getElem?_append_right (by omega), head_get ha (by omega)]
      congr 1
      conv => rhs; rw [show i = (i - a.length) + a.length by omega, Nat.add_mod_right]
  have l1 : (a ++ head m a).length = a.length + m := by rw [List.length_append, head_len ha]
  have l2 : (head m a ++ b).length = a.length + m := by rw [List.length_append, head_len ha, hl]; omega
  constructor
  · intro h j hj
    have e := g (j + m) (by omega)
    rw [h, List.getElem?_append_right (by rw [head_len ha]; omega), head_len ha, Nat.add_sub_cancel] at e
    exact e.symm
  · intro h
    apply List.ext_getElem?
    intro i
    by_cases hi : i < a.length + m
    · rw [g i hi]
      by_cases h2 : i < m
      · rw [List.getElem?_append_left (by rw [head_len ha]; exact h2), head_get ha h2]
      · rw [List.getElem?_append_right (by rw [head_len ha]; omega), head_len ha]
        have := h (i - m) (by omega)
        rw [show i - m + m = i by omega] at this
        exact this
    · rw [List.getElem?_eq_none (by omega), List.getElem?_eq_none (by omega)]
/-- the lag of a number -/
def num (u v : List Nat) (n : Int) : List Nat × List Nat := if 0 < n then (head n.toNat v, []) else ([], head (-n).toNat u)
def stays (u v : List Nat) (z : List Nat × List Nat) : Bool := decide (z.1 ++ u ++ z.2 = z.2 ++ v ++ z.1)
theorem stays_num {u v : List Nat} (hu : u ≠ []) (hl : v.length = u.length) (n : Int) : stays u v (num u v n) = true ↔ if 0 < n then Pr v u n.toNat else Pr u v (-n).toNat := by
  have hv : v ≠ [] := fun z => hu (List.length_eq_zero_iff.mp (by rw [← hl, z]; rfl))
  unfold stays num
  rw [decide_eq_true_iff]
  by_cases h : 0 < n
  · rw [if_pos h, if_pos h]
    show head n.toNat v ++ u ++ [] = [] ++ v ++ head n.toNat v ↔ _
    rw [List.append_nil, List.nil_append, ← head_key hv hl.symm]
    exact eq_comm
  · rw [if_neg h, if_neg h]
    show [] ++ u ++ head (-n).toNat u = head (-n).toNat u ++ v ++ [] ↔ _
    rw [List.append_nil, List.nil_append, ← head_key hu hl]
theorem Pr.turn {u v : List Nat} (hl : v.length = u.length) {t n : Nat} (h : Pr u v t) : Pr v u n ↔ Pr u u (n + t) := by
  have e : ∀ i, i < u.length → v[(i + n) % v.length]? = u[(i + (n + t)) % u.length]? := fun i hi => by
    have := h ((i + n) % u.length) (Nat.mod_lt _ (by omega))
    rw [Nat.mod_add_mod] at this
    rw [hl, ← this, Nat.add_assoc]
  constructor
  · intro g i hi
    rw [← e i hi]; exact g i (by rw [hl]; exact hi)
  · intro g i hi
    rw [e i (by rw [← hl]; exact hi)]; exact g i (by rw [← hl]; exact hi)
theorem Pr.back {u v : List Nat} (hl : v.length = u.length) {n : Nat} (h : Pr v u n) : Pr u v (u.length - n % u.length) := fun j hj => by
  have pl : 0 < u.length := by omega
  have hn := Nat.mod_lt n pl
  have := h ((j + (u.length - n % u.length)) % u.length) (by rw [hl]; exact Nat.mod_lt _ pl)
  rw [hl, Nat.mod_add_mod] at this
  rw [← this]
  have e : j + (u.length - n % u.length) + n = j + u.length * (n / u.length + 1) := by
    have := Nat.mod_add_div n u.length
    rw [Nat.mul_add, Nat.mul_one]
    generalize u.length * (n / u.length) = z at *
    omega
  rw [e, Nat.add_mul_mod_self_left, Nat.mod_eq_of_lt hj]
theorem Pr.mod_iff {u v : List Nat} (hu : u ≠ []) {t m : Nat} (h : Pr u v t) : Pr u v m ↔ m % rho u = t % rho u := by
  obtain ⟨a, b, c, d⟩ := rho_spec hu
  constructor
  · intro g
    have g1 := Pr.mod c g
    have h1 := Pr.mod c h
    have l1 := Nat.mod_lt m a
    have l2 := Nat.mod_lt t a
    generalize m % rho u = x at *
    generalize t % rho u = y at *
    rcases Nat.lt_trichotomy x y with q | q | q
    · exact absurd (Pr.diff (t := y - x) g1 (by rw [show y - x + x = y by omega]; exact h1)) (d _ (by omega) (by omega))
    · exact q
    · exact absurd (Pr.diff (t := x - y) h1 (by rw [show x - y + y = x by omega]; exact g1)) (d _ (by omega) (by omega))
  · intro e
    have h1 := Pr.mod c h
    rw [← e] at h1
    have := Pr.add (c.mul (m / rho u)) h1
    rw [show m % rho u + m / rho u * rho u = m by rw [Nat.mul_comm]; exact Nat.mod_add_div _ _] at this
    exact this
theorem turn_of {u v : List Nat} (hu : u ≠ []) (hl : v.length = u.length) {t : Nat} (h : t ∈ turnsL u v) : Pr u v t ∧ t < rho u := by
  unfold turnsL at h
  rw [if_neg (fun z => hu z.1)] at h
  obtain ⟨h1, h2⟩ := List.mem_filter.mp h
  have h1 := List.mem_range.mp h1
  exact ⟨(rot_eq (Nat.le_trans (Nat.le_of_lt h1) (rho_le u)) hl).mp (of_decide_eq_true h2), h1⟩
theorem no_turn {u v : List Nat} (hu : u ≠ []) (hl : v.length = u.length) (h : turnsL u v = []) (m : Nat) : ¬ Pr u v m := fun g => by
  obtain ⟨a, b, c, d⟩ := rho_spec hu
  have g1 := Pr.mod c g
  have l1 := Nat.mod_lt m a
  unfold turnsL at h
  rw [if_neg (fun z => hu z.1)] at h
  exact List.filter_eq_nil_iff.mp h _ (List.mem_range.mpr l1) (decide_eq_true ((rot_eq (Nat.le_trans (Nat.le_of_lt l1) b) hl).mpr g1))
theorem stay_none {u v : List Nat} (hu : u ≠ []) (hl : v.length = u.length) (h : turnsL u v = []) (n : Int) : stays u v (num u v n) = false := by
  cases e : stays u v (num u v n) with
  | false => rfl
  | true =>
    have := (stays_num hu hl n).mp e
    by_cases q : 0 < n
    · rw [if_pos q] at this; exact absurd (Pr.back hl this) (no_turn hu hl h _)
    · rw [if_neg q] at this; exact absurd this (no_turn hu hl h _)
theorem stay_iff {u v : List Nat} (hu : u ≠ []) (hl : v.length = u.length) {t : Nat} (h : Pr u v t) (n : Int) : stays u v (num u v n) = true ↔ (n + t) % (rho u : Int) = 0 := by
  rw [stays_num hu hl]
  obtain ⟨a, b, c, d⟩ := rho_spec hu
  by_cases q : 0 < n
  · rw [if_pos q, Pr.turn hl h]
    have en : n = (n.toNat : Int) := by omega
    generalize n.toNat = k at en
    subst en
    have : (((k : Int) + (t : Int)) % (rho u : Int)) = (((k + t) % rho u : Nat) : Int) := by simp
    rw [this]
    constructor
    · intro g; rw [rho_dvd hu g]; rfl
    · intro g
      have g' : (k + t) % rho u = 0 := by omega
      have := c.mul ((k + t) / rho u)
      rw [Nat.div_mul_cancel (Nat.dvd_of_mod_eq_zero g')] at this
      exact this
  · rw [if_neg q, Pr.mod_iff hu h]
    obtain ⟨m, rfl⟩ : ∃ m : Nat, n = -(m : Int) := ⟨(-n).toNat, by omega⟩
    rw [show (-(-(m : Int))).toNat = m by omega]
    have e : (-(m : Int) + (t : Int)) = (t : Int) - m := by omega
    rw [e, ← Int.emod_eq_emod_iff_emod_sub_eq_zero]
    constructor
    · intro g
      have : ((m % rho u : Nat) : Int) = ((t % rho u : Nat) : Int) := by rw [g]
      simp at this
      exact this.symm
    · intro g
      have : ((t % rho u : Nat) : Int) = ((m % rho u : Nat) : Int) := by simpa using g
      omega
/-- all that stay, up to M letters -/
def due (u v : List Nat) (M : Nat) : List (List Nat × List Nat) := if u.length ≠ v.length then [] else ((List.range (2 * M + 1)).map fun (i : Nat) => num u v ((i : Int) - M)).filter (stays u v)
/-- the numbers of a range that leave a rest -/
theorem filter_arith {r c : Nat} (hr : 0 < r) (hc : c < r) : ∀ N, (List.range N).filter (fun i => decide (i % r = c)) = (List.range ((N + r - 1 - c) / r)).map fun k => c + k * r
  | 0 => by
    rw [show (0 + r - 1 - c) / r = 0 from Nat.div_eq_of_lt (by omega)]; rfl
  | N + 1 => by
    rw [List.range_succ, List.filter_append, filter_arith hr hc N]
    have hN := Nat.mod_add_div N r
    have hm := Nat.mod_lt N hr
    by_cases h : N % r = c
    · have e1 : (N + r - 1 - c) / r = N / r := by
        rw [show N + r - 1 - c = (r - 1) + r * (N / r) by omega, Nat.add_mul_div_left _ _ hr, Nat.div_eq_of_lt (by omega), Nat.zero_add]
      have e2 : (N + 1 + r - 1 - c) / r = N / r + 1 := by
        rw [show N + 1 + r - 1 - c = r + r * (N / r) by omega, Nat.add_mul_div_left _ _ hr, Nat.div_self hr, Nat.add_comm]
      rw [e1, e2, List.range_succ, List.map_append]
      congr 1
      have : c + N / r * r = N := by rw [Nat.mul_comm]; omega
      simp [h, this]
    · have e0 : [N].filter (fun i => decide (i % r = c)) = [] := by simp [h]
      rw [e0, List.append_nil]
      congr 2
      -- the same number
      have e : N + r - 1 - c = (N % r + r - 1 - c) + r * (N / r) := by omega
      have e' : N + 1 + r - 1 - c = (N % r + r - c) + r * (N / r) := by omega
      rw [e, e', Nat.add_mul_div_left _ _ hr, Nat.add_mul_div_left _ _ hr]
      congr 1
      rcases Nat.lt_or_ge c (N % r) with q | q
      · have a1 : (N % r + r - 1 - c) / r = 1 := by
          rw [show N % r + r - 1 - c = (N % r - 1 - c) + r * 1 by omega, Nat.add_mul_div_left _ _ hr, Nat.div_eq_of_lt (by omega)]
        have a2 : (N % r + r - c) / r = 1 := by
          rw [show N % r + r - c = (N % r - c) + r * 1 by omega, Nat.add_mul_div_left _ _ hr, Nat.div_eq_of_lt (by omega)]
        rw [a1, a2]
      · rw [Nat.div_eq_of_lt (by omega), Nat.div_eq_of_lt (by omega)]
/-- the least number -/
def least (u : List Nat) (t M : Nat) : Nat := (((M : Int) - t) % (rho u : Int)).toNat
theorem least_lt {u : List Nat} (hu : u ≠ []) (t M : Nat) : least u t M < rho u ∧ (((M : Int) - t) % (rho u : Int)) = (least u t M : Int) := by
  have a : (0 : Int) < rho u := by have := (rho_spec hu).1; omega
  have h1 := Int.emod_nonneg ((M : Int) - t) (by omega : (rho u : Int) ≠ 0)
  have h2 := Int.emod_lt_of_pos ((M : Int) - t) a
  unfold least
  omega
theorem due_of {u v : List Nat} (hu : u ≠ []) (hl : v.length = u.length) {t : Nat} (h : Pr u v t) (M : Nat) :
    due u v M = (List.range ((2 * M + 1 + rho u - 1 - least u t M) / rho u)).map fun (k : Nat) => num u v ((least u t M : Int) - M + k * (rho u : Int)) := by
  obtain ⟨a, b, c, d⟩ := rho_spec hu
  obtain ⟨l1, l2⟩ := least_lt hu t M
  unfold due
  rw [if_neg (by omega), List.filter_map]
  have e : ((stays u v) ∘ fun (i : Nat) => num u v ((i : Int) - M)) = fun i => decide (i % rho u = least u t M) := by
    funext i
    show stays u v (num u v ((i : Int) - M)) = _
    have k := stay_iff hu hl h ((i : Int) - M)
    have k2 : ((i : Int) - M + t) % (rho u : Int) = 0 ↔ i % rho u = least u t M := by
      have e1 : ((i : Int) - M + t) = (i : Int) - ((M : Int) - t) := by omega
      rw [e1, ← Int.emod_eq_emod_iff_emod_sub_eq_zero, l2]
      constructor
      · intro g
        have : ((i % rho u : Nat) : Int) = (least u t M : Int) := by simpa using g
        omega
      · intro g
        have : ((i % rho u : Nat) : Int) = (least u t M : Int) := by rw [g]
        simpa using this
    rw [k2] at k
    cases q : stays u v (num u v ((i : Int) - M)) with
    | true => rw [decide_eq_true (k.mp q)]
    | false => rw [decide_eq_false (fun z => by rw [k.mpr z] at q; cases q)]
  rw [e, filter_arith a l1, List.map_map]
  apply List.map_congr_left
  intro k _
  show num u v (((least u t M + k * rho u : Nat) : Int) - M) = num u v ((least u t M : Int) - M + (k : Int) * (rho u : Int))
  congr 1
  rw [Int.natCast_add, Int.natCast_mul]
  omega
theorem due_none {u v : List Nat} (hu : u ≠ []) (h : turnsL u v = []) (M : Nat) : due u v M = [] := by
  unfold due
  by_cases hl : v.length = u.length
  · rw [if_neg (by omega)]
    refine List.filter_eq_nil_iff.mpr fun z hz => ?_
    obtain ⟨i, _, rfl⟩ := List.mem_map.mp hz
    rw [stay_none hu hl h]; exact Bool.false_ne_true
  · rw [if_pos (by omega)]
end Lev

set_option Elab.async false
set_option linter.all false
set_option maxRecDepth 100000
set_option maxHeartbeats 8000000
namespace My
open PySem PySem.Spec PyProof.Rows L2
section
variable {P : Program} {w : World} {K : PySem.W.Frag} {mg : Str → Option Value} {base : Heap}
theorem kb_staying_most_other_one (T : Txt K mg) : KBinds K T.fd_staying ["one", "other", "most"] ["most", "other", "one"] (fun us ws => match us, ws with | [], [x2, x1, x0] => [x0, x1, x2] | _, _ => []) (fun us ws => match us, ws with | [], [x2, x1, x0] => [x0, x1, x2] | _, _ => []) := by
  obtain ⟨oc, od, kV, doc, pm, an, cdv, ct, osl, e, _, _⟩ := T.F_staying.ex
  refine ⟨fun s us ws _ hl => ?_, fun r rz => ?_⟩
  · match us, ws, hl with
    | [], [x2, x1, x0], _ =>
      rw [e]
      exact .of_eq rfl
  · match r, rz with
    | .nil, .cons r2 (.cons r1 (.cons r0 (.nil))) => exact .cons r0 (.cons r1 (.cons r2 (.nil)))
    | .nil, .nil => exact .nil
    | .nil, .cons _ (.nil) => exact .nil
    | .nil, .cons _ (.cons _ (.nil)) => exact .nil
    | .nil, .cons _ (.cons _ (.cons _ (.cons _ _))) => exact .nil
    | .cons _ _, _ => exact .nil

theorem kb_staying_most_one_other (T : Txt K mg) : KBinds K T.fd_staying ["one", "other", "most"] ["most", "one", "other"] (fun us ws => match us, ws with | [], [x2, x0, x1] => [x0, x1, x2] | _, _ => []) (fun us ws => match us, ws with | [], [x2, x0, x1] => [x0, x1, x2] | _, _ => []) := by
  obtain ⟨oc, od, kV, doc, pm, an, cdv, ct, osl, e, _, _⟩ := T.F_staying.ex
  refine ⟨fun s us ws _ hl => ?_, fun r rz => ?_⟩
  · match us, ws, hl with
    | [], [x2, x0, x1], _ =>
      rw [e]
      exact .of_eq rfl
  · match r, rz with
    | .nil, .cons r2 (.cons r0 (.cons r1 (.nil))) => exact .cons r0 (.cons r1 (.cons r2 (.nil)))
    | .nil, .nil => exact .nil
    | .nil, .cons _ (.nil) => exact .nil
    | .nil, .cons _ (.cons _ (.nil)) => exact .nil
    | .nil, .cons _ (.cons _ (.cons _ (.cons _ _))) => exact .nil
    | .cons _ _, _ => exact .nil

def spAround : Sp := fun vs H Q _ => ∃ (u : List Nat) (m : Nat), vs = [.str (S u), .int 0, .int m] ∧ u ≠ [] ∧ u.length ≤ 900 ∧ m ≤ 900 ∧ Q (.str (S (Lev.head m u))) H
theorem ok_around (T : Txt K mg) : FnOk P w K mg base CX0 1 T.f_around T.fd_around ["text", "start", "many"] spAround := by
  refine T.F_around.ok sc_around (fun vs H Q E h => ?_) (fun cdv A outer s H vs Q E hr h => ?_)
  · obtain ⟨u, m, rfl, _⟩ := h; rfl
  · obtain ⟨u, m, rfl, hne, hu, hm, q⟩ := h
    refine ⟨_, (pss_cons (ps_set (i := 3) sc_around.nd rfl (Or.inl rfl) (pe_op op_add (pe_op op_fdiv (pe_op op_add (pv 1) (pv 2)) (pe_callB call_len_str (by rfl) T.z_len (by decide +kernel) (pa_cons (pv 0) pa_nil))) pe_int))
      (pss_one (ps_ret (pe_slice sl_str (pe_op op_mul_str (pv 0) (pv 3)) (po_some (pv 1)) (po_some (pe_op op_add (pv 1) (pv 2))))))), ?_⟩
    have pl := List.length_pos_iff.mpr hne
    have zu : (S u).length ≤ sizeLine := by rw [S_len]; exact Nat.le_trans hu (by decide)
    have ek : ((fun i j : Int => V.int (i + j)) (((0 : Int) + (m : Int)) / ((S u).length : Int)) 1) = V.int ((m / u.length + 1 : Nat) : Int) := by
      rw [S_len]; exact congrArg V.int (by rw [Int.zero_add]; rfl)
    refine ⟨_, rfl, _, rfl, _, _, rfl, rfl, _, rfl, _, rfl, zu, _, _, rfl, rfl, ⟨by rw [S_len]; omega, by rw [S_len]; omega⟩, _, _, rfl, rfl, _, rfl, ?_⟩
    have lk : m / u.length ≤ 900 := Nat.le_trans (Nat.div_le_self _ _) hm
    refine ⟨_, rfl, _, _, rfl, ek, ?_, ?_⟩
    · exact mulOk_S (by omega) (by omega)
    · rw [mul_S]
      refine ⟨_, rfl, _, rfl, _, rfl, _, rfl, _, _, rfl, rfl, ?_⟩
      refine ⟨_, (congrArg V.int (by omega : (0 : Int) + (m : Int) = (m : Int))), ?_⟩
      have zr : (S (Lev.rounds (m / u.length + 1) u)).length ≤ sizeLine := by
        rw [S_len, Lev.rounds_len]
        exact Nat.le_trans (Nat.mul_le_mul (by omega : m / u.length + 1 ≤ 901) hu) (by decide)
      refine ⟨_, rfl, zr, ?_⟩
      rw [show (some (0 : Int)) = some ((0 : Nat) : Int) from rfl, cut_mid, List.drop_zero, Nat.sub_zero]
      exact q
def spNumOf : Sp := fun vs H Q _ => ∃ (u v : List Nat) (n : Int), vs = [.int n, .str (S u), .str (S v)] ∧ u ≠ [] ∧ v ≠ [] ∧ u.length ≤ 900 ∧ v.length ≤ 900 ∧ n ≤ 900 ∧ -900 ≤ n ∧
  ∀ q, H q = none → Q (.ref q) (upd H q (.tup [.str (S (Lev.num u v n).1), .str (S (Lev.num u v n).2)]))
theorem ok_lag_of_number (T : Txt K mg) : FnOk P w K mg base CX0 2 T.f_lag_of_number T.fd_lag_of_number ["number", "one", "other"] spNumOf := by
  refine T.F_lag_of_number.ok sc_lag_of_number (fun vs H Q E h => ?_) (fun cdv A outer s H vs Q E hr h => ?_)
  · obtain ⟨u, v, n, rfl, _⟩ := h; rfl
  · obtain ⟨u, v, n, rfl, hu, hv, lu, lv, n1, n2, q⟩ := h
    refine ⟨_, (pss_cons (ps_if (pt_cmpR op_lt (pv 0) pe_int (nomark _)) (pss_one (ps_ret (pe_tup (pa_cons pe_str (pa_cons (pe_call (ok_around T) (hr.mono (by decide)) rfl T.g_around T.F_around.kp T.b_around .nil pass0 (pa_cons (pv 1) (pa_cons pe_int (pa_cons (pe_un un_neg (pv 0)) pa_nil)))) pa_nil))))) pss_nil)
      (pss_one (ps_ret (pe_tup (pa_cons (pe_call (ok_around T) (hr.mono (by decide)) rfl T.g_around T.F_around.kp T.b_around .nil pass0 (pa_cons (pv 2) (pa_cons pe_int (pa_cons (pv 0) pa_nil)))) (pa_cons pe_str pa_nil)))))), ?_⟩
    have two : 2 ≤ sizeLine := by decide
    refine ⟨_, rfl, _, _, rfl, rfl, _, rfl, ite2 (fun c => ?_) (fun c => ?_)⟩
    · have c' : n < 0 := of_decide_eq_true c
      have e : Lev.num u v n = ([], Lev.head (-n).toNat u) := by unfold Lev.num; rw [if_neg (by omega)]
      rw [e] at q
      refine ⟨_, rfl, _, rfl, _, rfl, u, (-n).toNat, by rw [show (((-n).toNat : Nat) : Int) = -n by omega]; rfl, hu, lu, by omega, two, fun p hp => q p hp⟩
    · have c' : ¬ n < 0 := fun z => c (decide_eq_true z)
      have e : Lev.num u v n = (Lev.head n.toNat v, []) := by
        unfold Lev.num
        by_cases z : 0 < n
        · rw [if_pos z]
        · have : n = 0 := by omega
          subst this
          rw [if_neg z]
          show ([], Lev.head 0 u) = (Lev.head 0 v, [])
          rw [Lev.head_zero, Lev.head_zero]
      rw [e] at q
      refine ⟨_, rfl, _, rfl, v, n.toNat, by rw [show ((n.toNat : Nat) : Int) = n by omega]; rfl, hv, lv, by omega, two, fun p hp => q p hp⟩
/-- whether a value is a count, as is_count says -/
def Jc (K : PySem.W.Frag) (H : Hp) (x : V) (b : Bool) : Prop := (∃ i : Int, x = .int i ∧ b = decide (0 ≤ i)) ∨ (∃ c, x = .bl c ∧ b = false) ∨ ∃ t, TyX K H x (.type t) ∧ kitB t "int" = some false ∧ b = false
def spIsInt (K : PySem.W.Frag) : Sp := fun vs H Q _ => ∃ x, vs = [x] ∧ ((∃ i : Int, x = .int i ∧ Q (.bl true) H) ∨ (∃ c, x = .bl c ∧ Q (.bl false) H) ∨ ∃ t, TyX K H x (.type t) ∧ kitB t "int" = some false ∧ Q (.bl false) H)
theorem ok_is_integer (T : Txt K mg) : FnOk P w K mg base CX0 1 T.f_is_integer T.fd_is_integer ["value"] (spIsInt K) := by
  refine T.F_is_integer.ok sc_is_integer (fun vs H Q E h => ?_) (fun cdv A outer s H vs Q E hr h => ?_)
  · obtain ⟨x, rfl, _⟩ := h; rfl
  · obtain ⟨x, rfl, h⟩ := h
    refine ⟨_, (pss_one (ps_ret (pe_and (pe_callB call_isi (by rfl) T.z_isinstance (by decide +kernel) (pa_cons (pv 0) (pa_cons (pe_bltn (v := .ty "int") (u := .type "int") (by rfl) T.z_int (by decide +kernel) rfl) pa_nil))) (pe_one (pe_not (pe_callB call_isi (by rfl) T.z_isinstance (by decide +kernel) (pa_cons (pv 0) (pa_cons (pe_bltn (v := .ty "bool") (u := .type "bool") (by rfl) T.z_bool (by decide +kernel) rfl) pa_nil)))))))), ?_⟩
    rcases h with ⟨i, rfl, q⟩ | ⟨c, rfl, q⟩ | ⟨t, ty, kb, q⟩
    · refine ⟨_, rfl, _, _, _, _, true, rfl, .ty _, .base (.int _), kit_ty (by decide +kernel), _, rfl, iteT ?_⟩
      exact ⟨_, rfl, _, _, _, _, false, rfl, .ty _, .base (.int _), kit_ty (by decide +kernel), _, rfl, q⟩
    · refine ⟨_, rfl, _, _, _, _, true, rfl, .ty _, .base (.bl _), kit_ty (by decide +kernel), _, rfl, iteT ?_⟩
      exact ⟨_, rfl, _, _, _, _, true, rfl, .ty _, .base (.bl _), kit_ty (by decide +kernel), _, rfl, q⟩
    · refine ⟨_, rfl, _, _, _, _, false, rfl, .ty _, ty, kit_ty kb, _, rfl, iteF ?_⟩
      exact q
def spIsCount (K : PySem.W.Frag) : Sp := fun vs H Q _ => ∃ x b, vs = [x] ∧ Jc K H x b ∧ Q (.bl b) H
theorem ok_is_count (T : Txt K mg) : FnOk P w K mg base CX0 2 T.f_is_count T.fd_is_count ["value"] (spIsCount K) := by
  refine T.F_is_count.ok sc_is_count (fun vs H Q E h => ?_) (fun cdv A outer s H vs Q E hr h => ?_)
  · obtain ⟨x, b, rfl, _⟩ := h; rfl
  · obtain ⟨x, b, rfl, h, q⟩ := h
    refine ⟨_, (pss_one (ps_ret (pe_and (pe_call (ok_is_integer T) (hr.mono (by decide)) rfl T.g_is_integer T.F_is_integer.kp T.b_is_integer .nil pass0 (pa_cons (pv 0) pa_nil)) (pe_one (pe_cmpR op_ge (pv 0) pe_int (nomark _)))))), ?_⟩
    rcases h with ⟨i, rfl, rfl⟩ | ⟨c, rfl, rfl⟩ | ⟨t, ty, kb, rfl⟩
    · exact ⟨_, rfl, _, rfl, .inl ⟨i, rfl, _, rfl, iteT ⟨_, rfl, _, _, rfl, rfl, q⟩⟩⟩
    · exact ⟨_, rfl, _, rfl, .inr (.inl ⟨c, rfl, _, rfl, iteF q⟩)⟩
    · exact ⟨_, rfl, _, rfl, .inr (.inr ⟨t, ty, kb, _, rfl, iteF q⟩)⟩
end
end My

set_option Elab.async false
set_option linter.all false
set_option maxRecDepth 100000
set_option maxHeartbeats 8000000
namespace My
open PySem PySem.Spec PyProof.Rows L2
/-! ### lists of lags -/
abbrev Lag := List Nat × List Nat
def tz (z : Lag) : HO := .tup [.str (S z.1), .str (S z.2)]
def PLs (H : Hp) (ps : List (Addr × Lag)) : Prop := ∀ p ∈ ps, H p.1 = some (tz p.2)
def refs (ps : List (Addr × Lag)) : List V := ps.map fun p => .ref p.1
def PL (H : Hp) (D : Addr) (zs : List Lag) : Prop := ∃ ps : List (Addr × Lag), H D = some (.lst (refs ps)) ∧ ps.map (·.2) = zs ∧ PLs H ps
theorem PLs.same {H H' : Hp} {ps : List (Addr × Lag)} (h : PLs H ps) (s : Same H H') : PLs H' ps := fun p hp => s _ _ (h p hp)
theorem PL.same {H H' : Hp} {D : Addr} {zs : List Lag} (h : PL H D zs) (s : Same H H') : PL H' D zs := by
  obtain ⟨ps, e, m, k⟩ := h
  exact ⟨ps, s _ _ e, m, k.same s⟩
theorem PL.kp {H H' : Hp} {D b : Addr} {zs : List Lag} (h : PL H D zs) (k : Kp b H H') (n : D ≠ b) (hb : ∀ z, H b ≠ some (tz z)) : PL H' D zs := by
  obtain ⟨ps, e, m, q⟩ := h
  refine ⟨ps, k _ _ n e, m, fun p hp => k _ _ (fun z => hb p.2 ?_) (q p hp)⟩
  rw [← z]; exact q p hp
theorem box_tz {H : Hp} {p : Addr} {n : Nat} (h : BoxAt H p n) (z : Lag) : H p ≠ some (tz z) := by
  obtain ⟨o, e, a, m, c, b, rfl, _⟩ := h
  rw [e]; intro h; cases h
theorem lst_tz {H : Hp} {p : Addr} {xs : List V} (h : H p = some (.lst xs)) (z : Lag) : H p ≠ some (tz z) := by
  rw [h]; intro h; cases h
/-- one more -/
theorem PL.snoc {H : Hp} {D q : Addr} {zs : List Lag} {z : Lag} {ps : List (Addr × Lag)} (e : H D = some (.lst (refs ps))) (m : ps.map (·.2) = zs) (k : PLs H ps) (hq : H q = none) :
    PL (upd (upd H q (tz z)) D (.lst (refs ps ++ [.ref q]))) D (zs ++ [z]) := by
  have nq : q ≠ D := fun z => by rw [z, e] at hq; cases hq
  refine ⟨ps ++ [(q, z)], ?_, ?_, ?_⟩
  · rw [upd_same]; unfold refs; rw [List.map_append]; rfl
  · rw [List.map_append, m]; rfl
  · intro p hp
    rcases List.mem_append.mp hp with h | h
    · have e1 := k p h
      have n1 : p.1 ≠ D := fun z => by rw [z, e] at e1; cases e1
      rw [upd_ne n1, upd_ne (ne_of_none e1 hq)]; exact e1
    · rw [List.mem_singleton.mp h]
      show upd _ D _ q = _
      rw [upd_ne nq, upd_same]
theorem PL.len {zs : List Lag} {ps : List (Addr × Lag)} (m : ps.map (·.2) = zs) : (refs ps).length = zs.length := by
  unfold refs; rw [List.length_map, ← m, List.length_map]
theorem rgc_up {i j c : Int} (hc : 0 < c) (hc' : c < 1000000) (hi : -1000000 ≤ i) (hi' : i ≤ 1000000) (hj : -1000000 ≤ j) (hj' : j ≤ 1000000) (n : Nat) (e : (if i < j then (j - i - 1) / c + 1 else 0) = (n : Int)) (hn : n ≤ 1000000) : RgC i j c n := by
  have es : Builtin.Range.rangeSize i j c = (n : Int) := by unfold Builtin.Range.rangeSize; rw [if_pos hc]; exact e
  refine ⟨by omega, by omega, ?_, es⟩
  unfold Builtin.Range.small
  rw [es]
  have b1 : (2 : Int) ^ 63 = 9223372036854775808 := by decide
  simp only [Builtin.Range.rangeFitsLong, Bool.and_eq_true, Bool.or_eq_true, decide_eq_true_eq, beq_iff_eq]
  refine ⟨by omega, .inr ?_⟩
  rw [if_pos hc]
  simp only [Bool.and_eq_true, decide_eq_true_eq]
  omega
section
variable {P : Program} {w : World} {K : PySem.W.Frag} {mg : Str → Option Value} {base : Heap}
theorem Jc.same {H H' : Hp} {x : V} {b : Bool} (h : Jc K H x b) (s : Same H H') : Jc K H' x b := by
  rcases h with h | h | ⟨t, tx, kb, e⟩
  · exact .inl h
  · exact .inr (.inl h)
  · exact .inr (.inr ⟨t, tyX_same tx s, kb, e⟩)
def spStaying (K : PySem.W.Frag) (C C2 : Addr) : Sp := fun vs H Q E => ∃ x y m bx b2 bm, vs = [x, y, m] ∧ Jd K H x bx ∧ Jd K H y b2 ∧ Jc K H m bm ∧
  (bx = false → Bad C H x E) ∧ (bx = true → b2 = false → Bad C H y E) ∧
  (bx = true → b2 = true → ∃ u v : List Nat, x = .str (S u) ∧ y = .str (S v) ∧ u.length ≤ 900 ∧ v.length ≤ 900 ∧ (u = [] ∧ v = [] → Bad C H x E) ∧
    (¬ (u = [] ∧ v = []) → bm = false → Bad C2 H m E) ∧ (¬ (u = [] ∧ v = []) → bm = true → ∃ M : Nat, m = .int M ∧ M ≤ 900 ∧ ∀ D H', Same H H' → PL H' D (Lev.due u v M) → H D = none → Q (.ref D) H'))
theorem ok_staying (T : Txt K mg) : FnOk P w K mg base (L2.CX P w) 4 T.f_staying T.fd_staying ["one", "other", "most"] (spStaying K T.C_InvalidText T.C_InvalidCount) := by
  refine T.F_staying.okX sc_staying (fun vs H Q E h => ?_) (fun cdv A outer s H vs Q E hr h => ?_)
  · obtain ⟨x, y, m, _, _, _, rfl, _⟩ := h; rfl
  · obtain ⟨x, y, m, bx, b2, bm, rfl, jx, jy, jm, kX, kY, kQ⟩ := h
    refine ⟨_, (pss_cons (ps_expr (pe_call (ok_check_texts T) (hr.mono (by decide)) rfl T.g_check_texts T.F_check_texts.kp T.b_check_texts .nil (passes_call (takes_of rfl rfl rfl rfl) (fun _ _ _ _ z => z)) (pa_cons (pv 0) (pa_cons (pv 1) pa_nil))))
      (pss_cons (ps_if (PW.pt (pw_and (pt_cmpR op_eq (pv 0) pe_str (nomark _)) (pw_and1 (pt_cmpR op_eq (pv 1) pe_str (nomark _))))) (pss_one (ps_raiseE rfl T.e_InvalidText hr (takes_of rfl rfl rfl rfl) (pa_cons (pv 0) pa_nil))) pss_nil)
      (pss_cons (ps_if (pt_not (pt_val (pe_call (ok_is_count T) (hr.mono (by decide)) rfl T.g_is_count T.F_is_count.kp T.b_is_count .nil pass0 (pa_cons (pv 2) pa_nil)))) (pss_one (ps_raiseE rfl T.e_InvalidCount hr (takes_of rfl rfl rfl rfl) (pa_cons (pv 2) pa_nil))) pss_nil)
      (pss_cons (ps_if (pt_cmpR (op_eq_nil (un0 hr)) (pe_call (ok_turns_between T) (hr.mono (by decide)) rfl T.g_turns_between T.F_turns_between.kp T.b_turns_between .nil pass0 (pa_cons (pv 0) (pa_cons (pv 1) pa_nil))) (pe_lst pa_nil) (nomark _)) (pss_one (ps_ret (pe_lst pa_nil))) pss_nil)
      (pss_cons (ps_set (i := 3) sc_staying.nd rfl (Or.inl rfl) (pe_call (ok_length_of_root T) (hr.mono (by decide)) rfl T.g_length_of_root T.F_length_of_root.kp T.b_length_of_root .nil pass0 (pa_cons (pv 0) pa_nil)))
      (pss_cons (ps_set (i := 4) sc_staying.nd rfl (Or.inl rfl) (pe_op op_sub (pe_op op_mod (pe_op op_sub (pv 2) (pe_ix ix_list (pe_call (ok_turns_between T) (hr.mono (by decide)) rfl T.g_turns_between T.F_turns_between.kp T.b_turns_between .nil pass0 (pa_cons (pv 0) (pa_cons (pv 1) pa_nil))) pe_int (fun _ _ => rfl))) (pv 3)) (pv 2)))
      (pss_one (ps_ret (pe_lc (own := [("number", 5)]) (g := gName 5) (by rfl) sc_staying.nd (pi_range3 rfl T.z_range (pa_cons (pv 4) (pa_cons (pe_op op_add (pv 2) pe_int) (pa_cons (pv 3) pa_nil)))) (blkOk_by (own := [("number", 5)]) (N := N_staying) (sc := defScope s_staying) (by decide +kernel)) (fun _ _ _ _ _ => pg_name (i := 5) sc_staying.nd rfl (Or.inl rfl)) (fun _ _ _ _ _ => pts_nil) (fun _ _ _ _ _ => (pe_call (ok_lag_of_number T) (hr.mono (by decide)) rfl T.g_lag_of_number T.F_lag_of_number.kp T.b_lag_of_number .nil pass0 (pa_cons (pv 5) (pa_cons (pv 0) (pa_cons (pv 1) pa_nil)))))))))))))), ?_⟩
    have st : ∀ t, H t = none → Jd K (upd H t (.tup [x, y])) x bx ∧ Jd K (upd H t (.tup [x, y])) y b2 := fun t ht => ⟨jx.same (Same.new (Same.refl H) ht), jy.same (Same.new (Same.refl H) ht)⟩
    refine ⟨_, rfl, _, rfl, x, y, bx, b2, rfl, jx, jy, st, kX, kY, fun ex ey H1 s1 => ?_⟩
    obtain ⟨u, v, rfl, rfl, hu, hv, kE, kM, kR⟩ := kQ ex ey
    have bigu : Big u := Nat.le_trans hu (by decide)
    have bigv : Big v := Nat.le_trans hv (by decide)
    have z0 : 0 ≤ sizeLine := by decide
    have ze : ∀ {u : List Nat}, decide (V.str (S u) = V.str (Str.ofString "")) = decide (u = []) := fun {u} => S_eqV u []
    by_cases h0 : u = [] ∧ v = []
    · have kE' := kE h0
      obtain ⟨rfl, rfl⟩ := h0
      refine ⟨_, rfl, rfl, _, rfl, iteT ⟨_, rfl, rfl, _, rfl, iteT ⟨_, rfl, _, rfl, fun d hd => ?_⟩⟩⟩
      have hdn : H d = none := s1.free hd
      exact kE' d _ (fun b o q => by rw [upd_ne (ne_of_none (s1 b o q) hd)]; exact s1 b o q) hdn upd_same
    have kM := kM h0
    have kR := kR h0
    refine (fun rest => ⟨_, rfl, rfl, _, rfl, ite2 (fun c => ⟨_, rfl, rfl, _, rfl, ite2 (fun c2 => absurd ⟨of_decide_eq_true (ze.symm.trans c), of_decide_eq_true (ze.symm.trans c2)⟩ h0) (fun _ => rest)⟩) (fun _ => rest)⟩) ?_
    refine ⟨_, rfl, m, bm, rfl, jm.same s1, _, rfl, ?_⟩
    cases bm with
    | false =>
      refine iteT ⟨_, rfl, m, rfl, fun d hd => ?_⟩
      have hdn : H d = none := s1.free hd
      exact kM rfl d _ (fun b o q => by rw [upd_ne (ne_of_none (s1 b o q) hd)]; exact s1 b o q) hdn upd_same
    | true =>
      obtain ⟨M, rfl, hM, q⟩ := kR rfl
      refine iteF ?_
      refine ⟨_, rfl, _, rfl, u, v, rfl, bigu, bigv, fun q1 hq1 => ?_⟩
      have s2 : Same H (upd H1 q1 (.lst (intsV (Lev.turnsL u v)))) := Same.new s1 hq1
      have n12 : ∀ {q2 : Addr}, upd H1 q1 (.lst (intsV (Lev.turnsL u v))) q2 = none → q1 ≠ q2 := fun h z => by rw [← z, upd_same] at h; cases h
      refine ⟨z0, fun q2 hq2 => ⟨q1, q2, _, _, rfl, rfl, by rw [upd_ne (n12 hq2)]; exact upd_same, upd_same, .inr rfl, _, rfl, ?_⟩⟩
      have s3 : Same H (upd (upd H1 q1 (.lst (intsV (Lev.turnsL u v)))) q2 (.lst [])) := Same.new s2 hq2
      generalize upd (upd H1 q1 (.lst (intsV (Lev.turnsL u v)))) q2 (.lst []) = H2 at s3
      by_cases ht : Lev.turnsL u v = []
      · rw [decide_eq_true (by rw [ht]; rfl)]
        have e : Lev.due u v M = [] := by
          by_cases hu0 : u = []
          · unfold Lev.due
            rw [if_pos (fun z => h0 ⟨hu0, List.length_eq_zero_iff.mp (by rw [← z, hu0]; rfl)⟩)]
          · exact Lev.due_none hu0 ht M
        refine iteT ⟨z0, fun D hD => q D _ (Same.new s3 hD) ⟨[], ?_, e.symm, fun p hp => by cases hp⟩ (s3.free hD)⟩
        rw [upd_same]; rfl
      · have hl : v.length = u.length := Classical.byContradiction fun z => ht (Lev.turnsL_len z)
        have hu0 : u ≠ [] := fun z => h0 ⟨z, List.length_eq_zero_iff.mp (by rw [hl, z]; rfl)⟩
        have hv0 : v ≠ [] := fun z => hu0 (List.length_eq_zero_iff.mp (by rw [← hl, z]; rfl))
        obtain ⟨t, et⟩ : ∃ t, Lev.turnsL u v = [t] := by
          rcases Lev.turnsL_one hu0 hl (find_FindL (u ++ u) v) with ⟨e1, e2⟩ | ⟨i, e1, e2⟩
          · exact absurd e2 ht
          · exact ⟨i, e2⟩
        obtain ⟨Pt, tlt⟩ := Lev.turn_of hu0 hl (t := t) (by rw [et]; exact List.mem_singleton.mpr rfl)
        obtain ⟨r0, r1, _, _⟩ := Lev.rho_spec hu0
        obtain ⟨l1, l2⟩ := Lev.least_lt hu0 t M
        have ed := Lev.due_of hu0 hl Pt M
        rw [et, decide_eq_false (by simp [intsV])]
        refine iteF ⟨_, rfl, u, rfl, bigu, _, rfl, _, rfl, _, rfl, u, v, rfl, bigu, bigv, fun q3 hq3 => ?_⟩
        have s4 : Same H (upd H2 q3 (.lst (intsV (Lev.turnsL u v)))) := Same.new s3 hq3
        refine ⟨q3, _, _, _, rfl, rfl, SqL.of upd_same, atI_nat (j := 0) (by rw [et]; rfl), _, _, rfl, rfl, _, rfl, _, _, rfl, rfl, (by show (0 : Int) < (Lev.rho u : Int); omega), _, rfl, _, _, rfl, rfl, ?_⟩
        generalize upd H2 q3 (.lst (intsV (Lev.turnsL u v))) = H3 at s4
        show gName 4 (V.int (((M : Int) - (t : Int)) % (Lev.rho u : Int) - (M : Int))) _ H3 _
        rw [l2]
        obtain ⟨n, en⟩ : ∃ n, n = (2 * M + 1 + Lev.rho u - 1 - Lev.least u t M) / Lev.rho u := ⟨_, rfl⟩
        rw [← en] at ed
        have hn : n ≤ 2 * M + 1 + Lev.rho u := by rw [en]; exact Nat.le_trans (Nat.div_le_self _ _) (by omega)
        have rg : RgC ((Lev.least u t M : Int) - M) ((M : Int) + 1) (Lev.rho u : Int) n := by
          refine rgc_up (by omega) (by omega) (by omega) (by omega) (by omega) (by omega) n ?_ (by omega)
          rcases Nat.lt_or_ge (2 * M) (Lev.least u t M) with z | z
          · rw [if_neg (by omega), en, Nat.div_eq_of_lt (by omega)]; rfl
          · rw [if_pos (by omega), en, show 2 * M + 1 + Lev.rho u - 1 - Lev.least u t M = (2 * M - Lev.least u t M) + Lev.rho u by omega, Nat.add_div_right _ r0]
            rw [show (M : Int) + 1 - ((Lev.least u t M : Int) - M) - 1 = ((2 * M - Lev.least u t M : Nat) : Int) by omega]
            rfl
        refine ⟨_, rfl, _, rfl, _, _, rfl, rfl, _, rfl, _, _, _, n, rfl, rg, fun D hD => ?_⟩
        have bound : ∀ i, i < n → (Lev.least u t M : Int) - M + (i : Int) * (Lev.rho u : Int) ≤ M := fun i hi => by
          have h1 : n * Lev.rho u ≤ 2 * M + 1 + Lev.rho u - 1 - Lev.least u t M := by rw [en]; exact Nat.div_mul_le_self _ _
          have h2 : (i + 1) * Lev.rho u ≤ n * Lev.rho u := Nat.mul_le_mul_right _ hi
          rw [Nat.succ_mul] at h2
          have h3 : (i : Int) * (Lev.rho u : Int) = ((i * Lev.rho u : Nat) : Int) := (Int.natCast_mul _ _).symm
          rw [h3]; omega
        have low0 : ∀ i : Nat, -(900 : Int) ≤ (Lev.least u t M : Int) - M + (i : Int) * (Lev.rho u : Int) := fun i => by
          have h3 : (i : Int) * (Lev.rho u : Int) = ((i * Lev.rho u : Nat) : Int) := (Int.natCast_mul _ _).symm
          rw [h3]; omega
        have D0 : H D = none := s4.free hD
        refine lc_it (walk_rangeC (lo := (Lev.least u t M : Int) - M) (c := (Lev.rho u : Int)) (n := n)) (fun i H' => Same H H' ∧ PL H' D ((List.range i).map fun (k : Nat) => Lev.num u v ((Lev.least u t M : Int) - M + k * (Lev.rho u : Int)))) ⟨Same.new s4 hD, [], upd_same, rfl, fun p hp => by cases hp⟩ (fun _ _ _ _ => trivial) ?_ ?_
        · rintro i x H4 H5 hi ⟨s5, ps, e5, m5, k5⟩ ⟨rfl, rfl⟩
          refine ⟨rfl, tYesT ⟨_, rfl, _, rfl, _, rfl, u, v, _, rfl, hu0, hv0, hu, hv, Int.le_trans (bound i hi) (by omega), low0 i, fun q hq => ?_⟩⟩
          have nD : D ≠ q := fun z => by rw [← z, e5] at hq; cases hq
          refine ⟨_, by rw [upd_ne nD]; exact e5, ?_, ?_, ?_⟩
          · rw [PL.len m5, List.length_map, List.length_range]; exact Nat.lt_of_lt_of_le (by omega : i < 10000) (by decide)
          · intro b ob eb
            rw [upd_ne (ne_of_none eb D0), upd_ne (ne_of_none (s5 b ob eb) hq)]
            exact s5 b ob eb
          · rw [List.range_succ, List.map_append]
            exact PL.snoc e5 m5 k5 hq
        · rintro H4 ⟨s5, h5⟩
          rw [← ed] at h5
          exact q D H4 s5 h5 D0
end
end My

set_option Elab.async false
set_option linter.all false
set_option maxRecDepth 100000
set_option maxHeartbeats 8000000
namespace My
open PySem PySem.Spec PyProof.Rows L2
section
variable {P : Program} {w : World} {K : PySem.W.Frag} {mg : Str → Option Value} {base : Heap}
def spWord : Sp := fun vs H Q _ => ∃ (p l : Addr) (n m a b : Nat), vs = [.ref p, .ref l, .int m] ∧ BoxAt H p n ∧ n < 100000000 ∧ Let2 H l a b ∧ l ≠ p ∧ m ≤ 100 ∧
  ∀ (t : List Nat) H', Wd a b t → t.length = m → Kp p H H' → BoxAt H' p (n + m) → Q (.str (S t)) H'
theorem ok_law_word (T : Txt K mg) : FnOk P w K mg base CX0 2 T.f_law_word T.fd_law_word ["box", "letters", "size"] spWord := by
  refine T.F_law_word.ok sc_law_word (fun vs H Q E h => ?_) (fun cdv A outer s H vs Q E hr h => ?_)
  · obtain ⟨p, l, n, m, _, _, rfl, _⟩ := h; rfl
  · obtain ⟨p, l, n, m, a, b, rfl, hb, hn, hl, npl, hm, q⟩ := h
    refine ⟨_, (pss_one (ps_ret (pe_bm PySem.F.plainAttrs_str PySem.F.slot_str_join PySem.F.type_str_join mt_join pe_str (pa_cons (pe_lc (own := [("turn", 3)]) (g := gName 3) (by rfl) sc_law_word.nd (pi_range1 rfl T.z_range (pa_cons (pv 2) pa_nil)) (blkOk_by (own := [("turn", 3)]) (N := N_law_word) (sc := defScope s_law_word) (by decide +kernel)) (fun _ _ _ _ _ => pg_name (i := 3) sc_law_word.nd rfl (Or.inl rfl)) (fun _ _ _ _ _ => pts_nil) (fun _ _ _ _ _ => (pe_ix (ix_listK (K := K) rfl) (pv 1) (pe_call (ok_law_take T) (hr.mono (by decide)) rfl T.g_law_take T.F_law_take.kp T.b_law_take .nil pass0 (pa_cons (pv 0) (pa_cons pe_int pa_nil))) (fun _ _ => rfl)))) pa_nil)))), ?_⟩
    refine ⟨rfl, _, rfl, _, rfl, by omega, by omega, fun D hD => ?_⟩
    rw [Int.toNat_natCast]
    have npD : p ≠ D := hb.ne hD
    refine lc_range (lo := 0) (n := m) (Acc2 a b p n H D) (Acc2.start hb hD) ?_ ?_
    · rintro i H4 hi h4
      refine ⟨rfl, tYesT ?_⟩
      refine ⟨_, rfl, _, rfl, p, _, 2, rfl, h4.2.1, by omega, by omega, by omega, fun d o hd ho => ?_⟩
      obtain ⟨x, hx, ex⟩ := two_of (a := a) (b := b) (d := d) (by omega)
      exact ⟨l, _, _, _, rfl, rfl, SqL.of (by rw [upd_ne npl]; exact (hl.kp h4.1 npl).1), atI_nat (j := d) ex, h4.step npD hD (by omega) ho hx⟩
    rintro H4 ⟨k4, b4, t, lt, lent, e4⟩
    refine ⟨_, D, t.map fun c => S [c], rfl, rfl, .inl (SqL.of (by rw [List.map_map]; exact e4)), ?_, ?_⟩
    · rw [List.map_map, ones_sum, List.length_map]
      show _ + _ * 0 ≤ _
      have : (100 : Nat) ≤ 16777216 := by decide
      omega
    rw [join_ones]
    exact q t H4 lt lent k4 b4
def spLetters : Sp := fun vs H Q _ => ∃ (p : Addr) (n : Nat), vs = [.ref p] ∧ BoxAt H p n ∧ n < 100000000 ∧ ∀ D H' a b, Kp p H H' → BoxAt H' p (n + 2) → Let2 H' D a b → D ≠ p → Q (.ref D) H'
theorem ok_law_letters (T : Txt K mg) : FnOk P w K mg base CX0 2 T.f_law_letters T.fd_law_letters ["box"] spLetters := by
  refine T.F_law_letters.ok sc_law_letters (fun vs H Q E h => ?_) (fun cdv A outer s H vs Q E hr h => ?_)
  · obtain ⟨p, n, rfl, _⟩ := h; rfl
  · obtain ⟨p, n, rfl, hb, hn, q⟩ := h
    refine ⟨_, (pss_cons (ps_set (i := 1) sc_law_letters.nd rfl (Or.inl rfl) (pe_call (ok_law_take T) (hr.mono (by decide)) rfl T.g_law_take T.F_law_take.kp T.b_law_take .nil pass0 (pa_cons (pv 0) (pa_cons pe_int pa_nil))))
      (pss_cons (ps_set (i := 2) sc_law_letters.nd rfl (Or.inl rfl) (pe_op op_mod (pe_callTy call_int1 (by rfl) T.z_int (by decide +kernel) (pa_cons (pe_op op_add (pe_op op_add (pv 1) pe_int) (pe_call (ok_law_take T) (hr.mono (by decide)) rfl T.g_law_take T.F_law_take.kp T.b_law_take .nil pass0 (pa_cons (pv 0) (pa_cons pe_int pa_nil)))) pa_nil)) pe_int))
      (pss_one (ps_ret (pe_lst (pa_cons (pe_ix ix_str pe_str (pv 1) (fun _ _ => rfl)) (pa_cons (pe_ix ix_str pe_str (pv 2) (fun _ _ => rfl)) pa_nil))))))), ?_⟩
    refine ⟨_, rfl, p, n, 26, rfl, hb, by omega, by omega, by omega, fun d o hd ho => ?_⟩
    refine ⟨_, rfl, _, _, rfl, rfl, _, rfl, p, _, 25, rfl, ho.at, by omega, by omega, by omega, fun d2 o2 hd2 ho2 => ?_⟩
    refine ⟨_, _, rfl, rfl, .inl ⟨_, rfl, _, _, rfl, rfl, (by show (0 : Int) < 26; decide), ?_⟩⟩
    obtain ⟨d3, h3, e3⟩ : ∃ d3 : Nat, d3 < 26 ∧ ((d : Int) + 1 + (d2 : Int)) % 26 = (d3 : Int) := ⟨(d + 1 + d2) % 26, Nat.mod_lt _ (by omega), by omega⟩
    show gName 2 (V.int (((d : Int) + 1 + (d2 : Int)) % 26)) _ _ _
    rw [e3]
    refine ⟨_, rfl, _, _, _, rfl, rfl, (by show 26 ≤ sizeLine; decide), alpha_at (by omega), _, rfl, _, _, _, rfl, rfl, (by show 26 ≤ sizeLine; decide), alpha_at h3, (by show 2 ≤ sizeLine; decide), fun D hD => ?_⟩
    have b2 : BoxAt (upd (upd H p o) p o2) p (n + 2) := ho2.at
    exact q D _ _ _ (((Kp.refl p H).upd).upd.new hD) (b2.new hD) ⟨upd_same, low_alpha (by omega), low_alpha h3⟩ (b2.ne hD).symm
theorem Wd.cut {a b : Nat} {t : List Nat} (h : Wd a b t) (sp : Nat) : Wd a b (t.drop sp ++ t.take sp) := (h.drop sp).append (h.take sp)
def spPair : Sp := fun vs H Q _ => ∃ (p l : Addr) (n a b : Nat), vs = [.ref p, .ref l] ∧ BoxAt H p n ∧ n < 10000000 ∧ Let2 H l a b ∧ l ≠ p ∧
  ∀ (t u : List Nat) D H', Wd a b t → Wd a b u → t.length ≤ 25 → u.length ≤ 25 → ¬ (t = [] ∧ u = []) → Kp p H H' → BoxAt H' p (n + 200) → H' D = some (.lst [.str (S t), .str (S u)]) → D ≠ p → Q (.ref D) H'
theorem ok_law_pair (T : Txt K mg) : FnOk P w K mg base CX0 3 T.f_law_pair T.fd_law_pair ["box", "letters"] spPair := by
  refine T.F_law_pair.ok sc_law_pair (fun vs H Q E h => ?_) (fun cdv A outer s H vs Q E hr h => ?_)
  · obtain ⟨p, l, n, _, _, rfl, _⟩ := h; rfl
  · obtain ⟨p, l, n, a, b, rfl, hb, hn, hl, npl, q⟩ := h
    refine ⟨_, (pss_cons (ps_set (i := 2) sc_law_pair.nd rfl (Or.inl rfl) (pe_call (ok_law_take T) (hr.mono (by decide)) rfl T.g_law_take T.F_law_take.kp T.b_law_take .nil pass0 (pa_cons (pv 0) (pa_cons pe_int pa_nil))))
      (pss_cons (ps_set (i := 3) sc_law_pair.nd rfl (Or.inl rfl) (pe_call (ok_law_word T) (hr.mono (by decide)) rfl T.g_law_word T.F_law_word.kp T.b_law_word .nil pass0 (pa_cons (pv 0) (pa_cons (pv 1) (pa_cons (pe_op op_add pe_int (pe_call (ok_law_take T) (hr.mono (by decide)) rfl T.g_law_take T.F_law_take.kp T.b_law_take .nil pass0 (pa_cons (pv 0) (pa_cons pe_int pa_nil)))) pa_nil)))))
      (pss_cons (ps_set (i := 4) sc_law_pair.nd rfl (Or.inl rfl) (pe_op op_mul_str (pv 3) (pe_op op_add pe_int (pe_call (ok_law_take T) (hr.mono (by decide)) rfl T.g_law_take T.F_law_take.kp T.b_law_take .nil pass0 (pa_cons (pv 0) (pa_cons pe_int pa_nil))))))
      (pss_cons (ps_set (i := 5) sc_law_pair.nd rfl (Or.inl rfl) (pe_call (ok_law_take T) (hr.mono (by decide)) rfl T.g_law_take T.F_law_take.kp T.b_law_take .nil pass0 (pa_cons (pv 0) (pa_cons (pe_callB call_len_str (by rfl) T.z_len (by decide +kernel) (pa_cons (pv 4) pa_nil)) pa_nil))))
      (pss_cons (ps_set (i := 6) sc_law_pair.nd rfl (Or.inl rfl) (pe_op op_add_str (pe_slice sl_str (pv 4) (po_some (pv 5)) po_none) (pe_slice sl_str (pv 4) po_none (po_some (pv 5)))))
      (pss_cons (ps_if (pt_cmpR op_lt (pv 2) pe_int (nomark _)) (pss_one (ps_ret (pe_lst (pa_cons (pv 4) (pa_cons (pv 6) pa_nil))))) pss_nil)
      (pss_cons (ps_if (pt_cmpR op_eq (pv 2) pe_int (nomark _)) (pss_cons (ps_set (i := 7) sc_law_pair.nd rfl (Or.inl rfl) (pe_call (ok_law_take T) (hr.mono (by decide)) rfl T.g_law_take T.F_law_take.kp T.b_law_take .nil pass0 (pa_cons (pv 0) (pa_cons (pe_callB call_len_str (by rfl) T.z_len (by decide +kernel) (pa_cons (pv 6) pa_nil)) pa_nil))))
      (pss_one (ps_ret (pe_lst (pa_cons (pv 4) (pa_cons (pe_op op_add_str (pe_op op_add_str (pe_slice sl_str (pv 6) po_none (po_some (pv 7))) (pe_ix ix_list (pv 1) (pe_op op_sub pe_int (pe_bm PySem.F.plainAttrs_list PySem.F.slot_list_index PySem.F.type_list_index mt_index (pv 1) (pa_cons (pe_ix ix_str (pv 6) (pv 7) (fun _ _ => rfl)) pa_nil))) (fun _ _ => rfl))) (pe_slice sl_str (pv 6) (po_some (pe_op op_add (pv 7) pe_int)) po_none)) pa_nil)))))) pss_nil)
      (pss_cons (ps_if (pt_cmpR op_eq (pv 2) pe_int (nomark _)) (pss_one (ps_ret (pe_lst (pa_cons (pv 4) (pa_cons (pe_call (ok_law_word T) (hr.mono (by decide)) rfl T.g_law_word T.F_law_word.kp T.b_law_word .nil pass0 (pa_cons (pv 0) (pa_cons (pv 1) (pa_cons (pe_callB call_len_str (by rfl) T.z_len (by decide +kernel) (pa_cons (pv 4) pa_nil)) pa_nil)))) pa_nil))))) pss_nil)
      (pss_cons (ps_if (pt_cmpR op_eq (pv 2) pe_int (nomark _)) (pss_one (ps_ret (pe_lst (pa_cons (pv 4) (pa_cons (pe_op op_mul_str (pv 3) (pe_op op_add pe_int (pe_call (ok_law_take T) (hr.mono (by decide)) rfl T.g_law_take T.F_law_take.kp T.b_law_take .nil pass0 (pa_cons (pv 0) (pa_cons pe_int pa_nil))))) pa_nil))))) pss_nil)
      (pss_one (ps_ret (pe_ix ix_list (pe_lst (pa_cons (pe_lst (pa_cons (pv 4) (pa_cons pe_str pa_nil))) (pa_cons (pe_lst (pa_cons pe_str (pa_cons (pv 4) pa_nil))) (pa_cons (pe_lst (pa_cons (pe_op op_add_str (pv 4) (pe_ix ix_list (pv 1) pe_int (fun _ _ => rfl))) (pa_cons (pv 6) pa_nil))) pa_nil)))) (pe_call (ok_law_take T) (hr.mono (by decide)) rfl T.g_law_take T.F_law_take.kp T.b_law_take .nil pass0 (pa_cons (pv 0) (pa_cons pe_int pa_nil))) (fun _ _ => rfl))))))))))))), ?_⟩
    have two : 2 ≤ sizeLine := by decide
    -- way, piece, rounds, left
    refine ⟨_, rfl, p, n, 8, rfl, hb, by omega, by omega, by omega, fun way o hway ho => ?_⟩
    have k1 : Kp p H (upd H p o) := (Kp.refl p H).upd
    refine ⟨_, rfl, _, rfl, _, rfl, p, _, 6, rfl, ho.at, by omega, by omega, by omega, fun d1 o1 hd1 ho1 => ?_⟩
    have k2 : Kp p H (upd (upd H p o) p o1) := k1.upd
    refine ⟨_, _, rfl, rfl, ?_⟩
    refine ⟨p, l, n + 2, 1 + d1, a, b, by show [V.ref p, V.ref l, V.int (1 + (d1 : Int))] = _; rw [show (1 : Int) + (d1 : Int) = ((1 + d1 : Nat) : Int) by omega], ho1.at, by omega, hl.kp k2 npl, npl, by omega, fun piece H3 wp lp k3 b3 => ?_⟩
    have k3' := k2.trans k3
    refine ⟨_, rfl, _, rfl, p, _, 4, rfl, b3, by omega, by omega, by omega, fun d2 o2 hd2 ho2 => ?_⟩
    have k4 : Kp p H (upd H3 p o2) := k3'.upd
    refine ⟨_, _, rfl, rfl, _, ((1 + d2 : Nat) : Int), rfl, congrArg V.int (by omega : (1 : Int) + (d2 : Int) = ((1 + d2 : Nat) : Int)), mulOk_S (by omega) (by omega), ?_⟩
    rw [mul_S]
    obtain ⟨left, eleft⟩ : ∃ left, left = Lev.rounds (1 + d2) piece := ⟨_, rfl⟩
    have ll : left.length = (1 + d2) * (1 + d1) := by rw [eleft, Lev.rounds_len, lp]
    have ll2 : left.length ≤ 24 := by
      rw [ll]
      exact Nat.le_trans (Nat.mul_le_mul (by omega : 1 + d2 ≤ 4) (by omega : 1 + d1 ≤ 6)) (by decide)
    have ll1 : 0 < left.length := by rw [ll]; exact Nat.mul_pos (by omega) (by omega)
    have lne : left ≠ [] := List.length_pos_iff.mp ll1
    have wl : Wd a b left := by rw [eleft]; exact wp.rounds _
    rw [← eleft]
    have b4 : BoxAt (upd H3 p o2) p (n + 20) := (ho2.at (H := H3)).mono (by omega)
    have hl4 := hl.kp k4 npl
    generalize upd H3 p o2 = H4 at k4 b4 hl4
    have zl : (S left).length ≤ sizeLine := by rw [S_len]; exact Nat.le_trans ll2 (by decide)
    have zz : ∀ {x y : List Nat}, x.length ≤ 100 → y.length ≤ 100 → (S x).length + (S y).length ≤ sizeLine := fun {x y} h1 h2 => by
      rw [S_len, S_len]; exact Nat.le_trans (by omega : x.length + y.length ≤ 10000) (by decide)
    -- the turn
    refine ⟨_, rfl, _, rfl, _, rfl, zl, p, _, _, rfl, b4, by omega, by rw [S_len]; omega, by rw [S_len]; omega, fun sp o5 hsp ho5 => ?_⟩
    have k5 : Kp p H (upd H4 p o5) := k4.upd
    have b5 : BoxAt (upd H4 p o5) p (n + 21) := ho5.at
    have hl5 := hl.kp k5 npl
    generalize upd H4 p o5 = H5 at k5 b5 hl5
    refine ⟨_, rfl, _, rfl, _, rfl, _, rfl, zl, _, rfl, _, rfl, _, rfl, _, rfl, zl, ?_⟩
    rw [cut_from, cut_to]
    refine ⟨_, _, rfl, rfl, zz (by rw [List.length_drop]; omega) (by rw [List.length_take]; omega), ?_⟩
    rw [S_app]
    obtain ⟨right, eright⟩ : ∃ right, right = left.drop sp ++ left.take sp := ⟨_, rfl⟩
    have lr : right.length = left.length := by rw [eright, List.length_append, List.length_drop, List.length_take]; omega
    have wr : Wd a b right := by rw [eright]; exact wl.cut sp
    rw [← eright]
    have zr : (S right).length ≤ sizeLine := by rw [S_len]; exact Nat.le_trans (by omega : right.length ≤ 24) (by decide)
    refine ⟨_, rfl, _, _, rfl, rfl, _, rfl, ite2 (fun _ => ?_) (fun _ => ?_)⟩
    · exact ⟨_, rfl, _, rfl, two, fun D hD => q left right D _ wl wr (by omega) (by omega) (fun z => lne z.1) (k5.new hD) ((b5.new hD).mono (by omega)) upd_same (b5.ne hD).symm⟩
    refine ⟨_, rfl, rfl, _, rfl, ite2 (fun _ => ?_) (fun _ => ?_)⟩
    · -- one letter changed
      refine ⟨_, rfl, _, rfl, _, rfl, zr, p, _, _, rfl, b5, by omega, by rw [S_len]; omega, by rw [S_len]; omega, fun d o6 hd ho6 => ?_⟩
      rw [S_len] at hd
      have hd' : d < right.length := by omega
      have g : right[d]? = some (right[d]'hd') := List.getElem?_eq_getElem hd'
      have k6 : Kp p H (upd H5 p o6) := k5.upd
      have b6 : BoxAt (upd H5 p o6) p (n + 22) := ho6.at
      have hl6 := hl.kp k6 npl
      generalize upd H5 p o6 = H6 at k6 b6 hl6
      have hx := wr _ (List.getElem_mem hd')
      generalize hxe : right[d]'hd' = x at g hx
      obtain ⟨j, z, y, ej, ez, hno, ey, hy⟩ : ∃ (j : Nat) (z : V) (y : Nat), [V.str (S [a]), V.str (S [b])][j]? = some z ∧ eqV z (.str (S [x])) = true ∧ (∀ (m : Nat) z', m < j → [V.str (S [a]), V.str (S [b])][m]? = some z' → eqV z' (.str (S [x])) = false) ∧
          atI [V.str (S [a]), V.str (S [b])] (1 - (j : Int)) = some (.str (S [y])) ∧ (y = a ∨ y = b) := by
        by_cases ea : x = a
        · subst ea
          exact ⟨0, _, b, rfl, by show (S [x] == S [x]) = true; simp, fun m z' hm => absurd hm (Nat.not_lt_zero m), atI_nat (j := 1) rfl, .inr rfl⟩
        · have eb : x = b := hx.resolve_left ea
          subst eb
          refine ⟨1, _, a, rfl, by show (S [x] == S [x]) = true; simp, fun m z' hm e => ?_, atI_nat (j := 0) rfl, .inl rfl⟩
          have : m = 0 := by omega
          subst this
          cases e
          show (S [a] == S [x]) = false
          rw [beq_eq_false_iff_ne]
          intro e2
          exact ea (List.head_eq_of_cons_eq (S_inj e2)).symm
      refine ⟨_, rfl, _, rfl, _, rfl, _, rfl, _, rfl, zr, _, rfl, _, rfl, .inl ⟨rfl, _, SqL.of hl6.1⟩, _, rfl, _, rfl, _, _, _, rfl, rfl, zr, atI_S g, ?_⟩
      refine ⟨l, _, _, j, z, rfl, rfl, SqL.of hl6.1, rfl, rfl, ej, ez, hno, ?_⟩
      refine ⟨_, _, rfl, rfl, l, _, _, _, rfl, rfl, SqL.of hl6.1, ey, ?_⟩
      rw [cut_to]
      refine ⟨_, _, rfl, rfl, ?_, ?_⟩
      · rw [S_len, S_len, List.length_take]
        exact Nat.le_trans (by simp; omega : min d right.length + [y].length ≤ 10000) (by decide)
      rw [S_app]
      refine ⟨_, rfl, _, rfl, _, _, rfl, rfl, _, rfl, _, rfl, zr, ?_⟩
      rw [show (d : Int) + 1 = ((d + 1 : Nat) : Int) by omega, cut_from]
      refine ⟨_, _, rfl, rfl, ?_, ?_⟩
      · rw [S_len, S_len, List.length_append, List.length_take, List.length_drop]
        exact Nat.le_trans (by simp; omega : min d right.length + [y].length + (right.length - (d + 1)) ≤ 10000) (by decide)
      rw [S_app]
      refine ⟨two, fun D hD => q left _ D _ wl (((wr.take d).append (Wd.one hy)).append (wr.drop _)) (by omega) ?_ (fun z => lne z.1) (k6.new hD) ((b6.new hD).mono (by omega)) upd_same (b6.ne hD).symm⟩
      rw [List.length_append, List.length_append, List.length_take, List.length_drop, List.length_singleton]
      omega
    refine ⟨_, rfl, rfl, _, rfl, ite2 (fun _ => ?_) (fun _ => ?_)⟩
    · -- another text
      refine ⟨_, rfl, _, rfl, _, rfl, _, rfl, _, rfl, zl, p, l, _, left.length, a, b, by rw [S_len]; rfl, b5, by omega, hl5, npl, by omega, fun u H6 wu lu k6 b6 => ?_⟩
      exact ⟨two, fun D hD => q left u D _ wl wu (by omega) (by omega) (fun z => lne z.1) ((k5.trans k6).new hD) ((b6.new hD).mono (by omega)) upd_same (b6.ne hD).symm⟩
    refine ⟨_, rfl, rfl, _, rfl, ite2 (fun _ => ?_) (fun _ => ?_)⟩
    · -- other rounds
      refine ⟨_, rfl, _, rfl, _, rfl, p, _, 4, rfl, b5, by omega, by omega, by omega, fun d6 o6 hd6 ho6 => ?_⟩
      have k6 : Kp p H (upd H5 p o6) := k5.upd
      have b6 : BoxAt (upd H5 p o6) p (n + 22) := ho6.at
      refine ⟨_, _, rfl, rfl, _, ((1 + d6 : Nat) : Int), rfl, congrArg V.int (by omega : (1 : Int) + (d6 : Int) = ((1 + d6 : Nat) : Int)), mulOk_S (by omega) (by omega), ?_⟩
      rw [mul_S]
      refine ⟨two, fun D hD => q left _ D _ wl (wp.rounds _) (by omega) ?_ (fun z => lne z.1) (k6.new hD) ((b6.new hD).mono (by omega)) upd_same (b6.ne hD).symm⟩
      rw [Lev.rounds_len, lp]
      exact Nat.le_trans (Nat.mul_le_mul (by omega : 1 + d6 ≤ 4) (by omega : 1 + d1 ≤ 6)) (by decide)
    -- an empty one, or one longer
    refine ⟨_, rfl, two, fun q1 hq1 => ?_⟩
    obtain ⟨G1, eG1⟩ : ∃ G1, G1 = upd H5 q1 (.lst [V.str (S left), V.str (Str.ofString "")]) := ⟨_, rfl⟩
    have g1 : Same H5 G1 := by rw [eG1]; exact Same.new (Same.refl H5) hq1
    have f1 : G1 q1 = some (.lst [V.str (S left), V.str (Str.ofString "")]) := by rw [eG1]; exact upd_same
    have np1 : q1 ≠ p := (b5.ne hq1).symm
    rw [← eG1]
    refine ⟨_, rfl, two, fun q2 hq2 => ?_⟩
    obtain ⟨G2, eG2⟩ : ∃ G2, G2 = upd G1 q2 (.lst [V.str (Str.ofString ""), V.str (S left)]) := ⟨_, rfl⟩
    have g2 : Same G1 G2 := by rw [eG2]; exact Same.new (Same.refl G1) hq2
    have f2 : G2 q2 = some (.lst [V.str (Str.ofString ""), V.str (S left)]) := by rw [eG2]; exact upd_same
    have np2 : q2 ≠ p := ((b5.same g1).ne hq2).symm
    rw [← eG2]
    have hl7 : Let2 G2 l a b := ⟨g2 _ _ (g1 _ _ hl5.1), hl5.2⟩
    refine ⟨_, rfl, _, rfl, l, _, _, _, rfl, rfl, SqL.of hl7.1, atI_nat (j := 0) rfl, _, _, rfl, rfl, zz (by omega) (by simp), ?_⟩
    rw [S_app]
    refine ⟨_, rfl, two, fun q3 hq3 => ?_⟩
    obtain ⟨G3, eG3⟩ : ∃ G3, G3 = upd G2 q3 (.lst [V.str (S (left ++ [a])), V.str (S right)]) := ⟨_, rfl⟩
    have g3 : Same G2 G3 := by rw [eG3]; exact Same.new (Same.refl G2) hq3
    have f3 : G3 q3 = some (.lst [V.str (S (left ++ [a])), V.str (S right)]) := by rw [eG3]; exact upd_same
    have np3 : q3 ≠ p := ((b5.same (g1.trans g2)).ne hq3).symm
    rw [← eG3]
    refine ⟨(by show 3 ≤ sizeLine; decide), fun q4 hq4 => ?_⟩
    have g5 : Same H5 G3 := g1.trans (g2.trans g3)
    have b7 : BoxAt (upd G3 q4 (.lst [V.ref q1, .ref q2, .ref q3])) p (n + 21) := (b5.same g5).new hq4
    have np4 : q4 ≠ p := ((b5.same g5).ne hq4).symm
    have k7 : Kp p H (upd G3 q4 (.lst [V.ref q1, .ref q2, .ref q3])) := (k5.trans (Kp.of g5)).new hq4
    refine ⟨_, rfl, p, _, 3, rfl, b7, by omega, by omega, by omega, fun d o hd ho => ?_⟩
    have k8 := k7.upd (o := o)
    have b8 : BoxAt (upd (upd G3 q4 (.lst [V.ref q1, .ref q2, .ref q3])) p o) p (n + 200) := (ho.at).mono (by omega)
    have at_ : ∀ {x : Addr} {ob : HO}, G3 x = some ob → x ≠ p → upd (upd G3 q4 (.lst [V.ref q1, .ref q2, .ref q3])) p o x = some ob := fun {x ob} e n => by
      rw [upd_ne n, upd_ne (ne_of_none e hq4)]; exact e
    have e4 : upd (upd G3 q4 (.lst [V.ref q1, .ref q2, .ref q3])) p o q4 = some (.lst [V.ref q1, .ref q2, .ref q3]) := by rw [upd_ne np4]; exact upd_same
    match d, hd with
    | 0, _ => exact ⟨q4, _, _, _, rfl, rfl, SqL.of e4, atI_nat (j := 0) rfl, q left [] q1 _ wl Wd.nil (by omega) (by simp) (fun z => lne z.1) k8 b8 (at_ (g3 _ _ (g2 _ _ f1)) np1) np1⟩
    | 1, _ => exact ⟨q4, _, _, _, rfl, rfl, SqL.of e4, atI_nat (j := 1) rfl, q [] left q2 _ Wd.nil wl (by simp) (by omega) (fun z => lne z.2) k8 b8 (at_ (g3 _ _ f2) np2) np2⟩
    | 2, _ => exact ⟨q4, _, _, _, rfl, rfl, SqL.of e4, atI_nat (j := 2) rfl, q (left ++ [a]) right q3 _ (wl.append (Wd.one (.inl rfl))) wr (by simp; omega) (by omega) (fun z => by simp at z) k8 b8 (at_ f3 np3) np3⟩
    | d + 3, hd => exact absurd hd (by omega)
end
end My

set_option Elab.async false
set_option linter.all false
set_option maxRecDepth 100000
set_option maxHeartbeats 8000000
namespace Lev
theorem num_number {u v : List Nat} (hu : u ≠ []) (hv : v ≠ []) (n : Int) : ((num u v n).1.length : Int) - ((num u v n).2.length : Int) = n := by
  unfold num
  by_cases h : 0 < n
  · rw [if_pos h]; simp only [head_len hv, List.length_nil]; omega
  · rw [if_neg h]; simp only [head_len hu, List.length_nil]; omega
theorem due_mem {u v : List Nat} {M : Nat} {z : List Nat × List Nat} (hz : z ∈ due u v M) : u.length = v.length ∧ stays u v z = true ∧ ∃ n : Int, -(M : Int) ≤ n ∧ n ≤ M ∧ z = num u v n := by
  unfold due at hz
  by_cases h : u.length = v.length
  · rw [if_neg (fun z => z h)] at hz
    obtain ⟨h1, h2⟩ := List.mem_filter.mp hz
    obtain ⟨i, hi, e⟩ := List.mem_map.mp h1
    have hi := List.mem_range.mp hi
    exact ⟨h, h2, _, by omega, by omega, e.symm⟩
  · rw [if_pos h] at hz; cases hz
theorem num_len {u v : List Nat} (hu : u ≠ []) (hv : v ≠ []) {n : Int} {M : Nat} (h1 : -(M : Int) ≤ n) (h2 : n ≤ M) : (num u v n).1.length ≤ M ∧ (num u v n).2.length ≤ M := by
  unfold num
  by_cases h : 0 < n
  · rw [if_pos h]; simp only [head_len hv, List.length_nil]; omega
  · rw [if_neg h]; simp only [head_len hu, List.length_nil]; omega
theorem num_mem {u v : List Nat} (hu : u ≠ []) (hv : v ≠ []) (n : Int) : (∀ c ∈ (num u v n).1, c ∈ v) ∧ ∀ c ∈ (num u v n).2, c ∈ u := by
  unfold num
  by_cases h : 0 < n
  · rw [if_pos h]; exact ⟨fun c hc => head_mem hv hc, fun c hc => (by cases hc)⟩
  · rw [if_neg h]; exact ⟨fun c hc => (by cases hc), fun c hc => head_mem hu hc⟩
theorem due_ne {u v : List Nat} (h0 : ¬ (u = [] ∧ v = [])) {M : Nat} {z : List Nat × List Nat} (hz : z ∈ due u v M) : u ≠ [] ∧ v ≠ [] := by
  obtain ⟨e, _⟩ := due_mem hz
  have hu : u ≠ [] := fun z => h0 ⟨z, List.length_eq_zero_iff.mp (by rw [← e, z]; rfl)⟩
  exact ⟨hu, fun z => hu (List.length_eq_zero_iff.mp (by rw [e, z]; rfl))⟩
end Lev
namespace My
open PySem PySem.Spec PyProof.Rows L2
section
variable {P : Program} {w : World} {K : PySem.W.Frag} {mg : Str → Option Value} {base : Heap}
def spRootLen : Sp := fun vs H Q _ => ∃ u : List Nat, vs = [.str (S u)] ∧ u.length ≤ 1000 ∧ Q (.int (Lev.rho u : Nat)) H
theorem ok_law_root_length (T : Txt K mg) : FnOk P w K mg base CX0 1 T.f_law_root_length T.fd_law_root_length ["word"] spRootLen := by
  refine T.F_law_root_length.ok sc_law_root_length (fun vs H Q E h => ?_) (fun cdv A outer s H vs Q E hr h => ?_)
  · obtain ⟨u, rfl, _⟩ := h; rfl
  · obtain ⟨u, rfl, hu, q⟩ := h
    refine ⟨_, (pss_cons (ps_for PassesOwn.never rfl (pi_range2 rfl T.z_range (pa_cons pe_int (pa_cons (pe_op op_add (pe_callB call_len_str (by rfl) T.z_len (by decide +kernel) (pa_cons (pv 0) pa_nil)) pe_int) pa_nil))) (pg_name (i := 1) sc_law_root_length.nd rfl (Or.inl rfl)) (pss_one (ps_if (PW.pt (pw_and (pt_cmpR op_eq (pe_op op_mod (pe_callB call_len_str (by rfl) T.z_len (by decide +kernel) (pa_cons (pv 0) pa_nil)) (pv 1)) pe_int (nomark _)) (pw_and1 (pt_cmpR op_eq (pe_op op_mul_str (pe_slice sl_str (pv 0) po_none (po_some (pv 1))) (pe_op op_fdiv (pe_callB call_len_str (by rfl) T.z_len (by decide +kernel) (pa_cons (pv 0) pa_nil)) (pv 1))) (pv 0) (nomark _))))) (pss_one (ps_ret (pv 1))) pss_nil)))
      (pss_one (ps_ret pe_int))), ?_⟩
    have zu : (S u).length ≤ sizeLine := by rw [S_len]; exact Nat.le_trans hu (by decide)
    refine ⟨_, rfl, _, rfl, zu, _, _, rfl, rfl, _, _, rfl, ⟨by omega, by omega, by rw [S_len]; omega, by rw [S_len]; omega⟩, ?_⟩
    rw [S_len]
    refine for_range (lo := 1) (n := ((u.length : Int) + 1 - 1).toNat) (fun i σ H' => ∃ x1, σ = [some (.str (S u)), x1] ∧ H' = H ∧ ∀ s, 0 < s → s ≤ i → ¬ (u.length % s = 0 ∧ Lev.rounds (u.length / s) (u.take s) = u))
      ⟨none, rfl, rfl, fun s h1 h2 => by omega⟩ ?_ ?_
    · rintro i σ H1 hi ⟨x1, rfl, rfl, hno⟩
      have hi' : i < u.length := by omega
      have e1 : (1 : Int) + (i : Int) = ((1 + i : Nat) : Int) := by omega
      rw [e1]
      refine ⟨_, rfl, _, rfl, zu, _, rfl, _, _, rfl, rfl, (by show (0 : Int) < ((1 + i : Nat) : Int); omega), rfl, _, rfl, ?_⟩
      rw [S_len]
      have em : (u.length : Int) % ((1 + i : Nat) : Int) = ((u.length % (1 + i) : Nat) : Int) := rfl
      have next : (¬ (u.length % (1 + i) = 0 ∧ Lev.rounds (u.length / (1 + i)) (u.take (1 + i)) = u)) → ∃ x1, [some (V.str (S u)), some (V.int ((1 + i : Nat) : Int))] = [some (V.str (S u)), x1] ∧ H1 = H1 ∧ ∀ s, 0 < s → s ≤ i + 1 → ¬ (u.length % s = 0 ∧ Lev.rounds (u.length / s) (u.take s) = u) := fun z => by
        refine ⟨_, rfl, rfl, fun s h1 h2 => ?_⟩
        rcases Nat.lt_or_ge i s with l | l
        · have : s = 1 + i := by omega
          subst this; exact z
        · exact hno s h1 l
      refine ite2 (fun c => ?_) (fun c => next fun z => c (decide_eq_true (show V.int ((u.length : Int) % ((1 + i : Nat) : Int)) = V.int 0 by rw [em, z.1]; rfl)))
      have c1 : u.length % (1 + i) = 0 := by have z : V.int ((u.length : Int) % ((1 + i : Nat) : Int)) = V.int 0 := of_decide_eq_true c; have := V.int.inj z; omega
      refine ⟨_, rfl, _, rfl, _, rfl, _, rfl, zu, _, rfl, _, rfl, zu, _, rfl, _, _, rfl, rfl, ⟨by omega, by omega⟩, ?_⟩
      rw [cut_to, S_len]
      refine ⟨_, ((u.length / (1 + i) : Nat) : Int), rfl, rfl, mulOk_S (by rw [List.length_take]; omega) (Nat.le_trans (Nat.div_le_self _ _) hu), _, rfl, rfl, _, rfl, ?_⟩
      rw [mul_S, S_eqV]
      refine ite2 (fun c => ?_) (fun c => next fun z => c (decide_eq_true z.2))
      have c2 := of_decide_eq_true c
      have hne : u ≠ [] := by intro z; rw [z] at hi'; simp at hi'
      have er : Lev.rho u = 1 + i := by
        refine Lev.rho_eq hne (by omega) ((Lev.rounds_iff (by omega) (by omega)).mp ⟨c1, c2⟩).2 fun t t0 t1 p => ?_
        have hle := Lev.rho_least hne t0 p
        obtain ⟨r0, r1, r2, r3⟩ := Lev.rho_spec hne
        exact hno (Lev.rho u) r0 (by omega) (Lev.rho_rounds_of hne)
      rw [er] at q
      exact ⟨_, rfl, q⟩
    · rintro σ H1 ⟨x1, rfl, rfl, hno⟩
      have hu0 : u = [] := Classical.byContradiction fun hne => by
        obtain ⟨r0, r1, r2, r3⟩ := Lev.rho_spec hne
        exact hno (Lev.rho u) r0 (by omega) (Lev.rho_rounds_of hne)
      subst hu0
      exact q
theorem ok_law_numbered (T : Txt K mg) : FnOk P w K mg base CX0 1 T.f_law_numbered T.fd_law_numbered ["left", "right", "number"] (fun vs H Q E => ∃ (u v : List Nat) (n : Int), vs = [.str (S u), .str (S v), .int n] ∧ u ≠ [] ∧ v ≠ [] ∧ u.length ≤ 900 ∧ v.length ≤ 900 ∧ n ≤ 900 ∧ -900 ≤ n ∧
    ∀ q, H q = none → Q (.ref q) (upd H q (tz (Lev.num u v n)))) := by
  refine T.F_law_numbered.ok sc_law_numbered (fun vs H Q E h => ?_) (fun cdv A outer s H vs Q E hr h => ?_)
  · obtain ⟨u, v, n, rfl, _⟩ := h; rfl
  · obtain ⟨u, v, n, rfl, hu, hv, lu, lv, n1, n2, q⟩ := h
    refine ⟨_, (pss_cons (ps_set (i := 3) sc_law_numbered.nd rfl (Or.inl rfl) (pe_ifExp (pt_cmpR op_gt (pv 2) pe_int (nomark _)) (pv 1) (pv 0)))
      (pss_cons (ps_set (i := 4) sc_law_numbered.nd rfl (Or.inl rfl) (pe_slice sl_str (pe_op op_mul_str (pv 3) (pe_op op_add (pe_op op_fdiv (pe_callB call_abs (by rfl) T.z_abs (by decide +kernel) (pa_cons (pv 2) pa_nil)) (pe_callB call_len_str (by rfl) T.z_len (by decide +kernel) (pa_cons (pv 3) pa_nil))) pe_int)) po_none (po_some (pe_callB call_abs (by rfl) T.z_abs (by decide +kernel) (pa_cons (pv 2) pa_nil)))))
      (pss_one (ps_ret (pe_ifExp (pt_cmpR op_gt (pv 2) pe_int (nomark _)) (pe_tup (pa_cons (pv 4) (pa_cons pe_str pa_nil))) (pe_tup (pa_cons pe_str (pa_cons (pv 4) pa_nil)))))))), ?_⟩
    have two : 2 ≤ sizeLine := by decide
    refine ⟨_, rfl, _, _, rfl, rfl, _, rfl, ite2 (fun c => ?_) (fun c => ?_)⟩
    · have c' : 0 < n := of_decide_eq_true c
      have e : Lev.num u v n = (Lev.head n.toNat v, []) := by unfold Lev.num; rw [if_pos c']
      rw [e] at q
      have zu : (S v).length ≤ sizeLine := by rw [S_len]; exact Nat.le_trans lv (by decide)
      have pl := List.length_pos_iff.mpr hv
      obtain ⟨m, em⟩ : ∃ m : Nat, n = m := ⟨n.toNat, by omega⟩
      subst em
      have ea : (if (m : Int) < 0 then -(m : Int) else (m : Int)) = (m : Int) := if_neg (by omega)
      have ek : ((fun i j : Int => V.int (i + j)) ((m : Int) / ((S v).length : Int)) 1) = V.int ((m / v.length + 1 : Nat) : Int) := by
        rw [S_len]; rfl
      have lk : m / v.length ≤ 900 := Nat.le_trans (Nat.div_le_self _ _) (by omega)
      refine ⟨_, rfl, _, rfl, _, rfl, _, rfl, ?_⟩
      rw [ea]
      refine ⟨_, rfl, _, rfl, zu, _, _, rfl, rfl, ⟨by rw [S_len]; omega, by rw [S_len]; omega⟩, _, _, rfl, rfl, _, _, rfl, ek, mulOk_S (by omega) (by omega), ?_⟩
      rw [mul_S]
      refine ⟨_, rfl, _, rfl, ?_⟩
      rw [ea]
      have zr : (S (Lev.rounds (m / v.length + 1) v)).length ≤ sizeLine := by
        rw [S_len, Lev.rounds_len]
        exact Nat.le_trans (Nat.mul_le_mul (by omega : m / v.length + 1 ≤ 901) lv) (by decide)
      refine ⟨_, rfl, _, rfl, zr, ?_⟩
      rw [cut_to]
      exact ⟨_, rfl, _, _, rfl, rfl, _, rfl, ite2 (fun _ => ⟨_, rfl, two, fun p hp => q p hp⟩) (fun z => absurd c z)⟩
    · have c' : ¬ 0 < n := fun z => c (decide_eq_true z)
      have e : Lev.num u v n = ([], Lev.head (-n).toNat u) := by unfold Lev.num; rw [if_neg c']
      rw [e] at q
      have zu : (S u).length ≤ sizeLine := by rw [S_len]; exact Nat.le_trans lu (by decide)
      have pl := List.length_pos_iff.mpr hu
      obtain ⟨m, em⟩ : ∃ m : Nat, n = -(m : Int) := ⟨(-n).toNat, by omega⟩
      subst em
      rw [show (- -(m : Int)).toNat = m by omega] at q
      have ea : (if (-(m : Int)) < 0 then -(-(m : Int)) else -(m : Int)) = (m : Int) := by split <;> omega
      have ek : ((fun i j : Int => V.int (i + j)) ((m : Int) / ((S u).length : Int)) 1) = V.int ((m / u.length + 1 : Nat) : Int) := by
        rw [S_len]; rfl
      have lk : m / u.length ≤ 900 := Nat.le_trans (Nat.div_le_self _ _) (by omega)
      refine ⟨_, rfl, _, rfl, _, rfl, _, rfl, ?_⟩
      rw [ea]
      refine ⟨_, rfl, _, rfl, zu, _, _, rfl, rfl, ⟨by rw [S_len]; omega, by rw [S_len]; omega⟩, _, _, rfl, rfl, _, _, rfl, ek, mulOk_S (by omega) (by omega), ?_⟩
      rw [mul_S]
      refine ⟨_, rfl, _, rfl, ?_⟩
      rw [ea]
      have zr : (S (Lev.rounds (m / u.length + 1) u)).length ≤ sizeLine := by
        rw [S_len, Lev.rounds_len]
        exact Nat.le_trans (Nat.mul_le_mul (by omega : m / u.length + 1 ≤ 901) lu) (by decide)
      refine ⟨_, rfl, _, rfl, zr, ?_⟩
      rw [cut_to]
      exact ⟨_, rfl, _, _, rfl, rfl, _, rfl, ite2 (fun z => absurd z c) (fun _ => ⟨_, rfl, two, fun p hp => q p hp⟩)⟩
def spStays : Sp := fun vs H Q _ => ∃ (u v : List Nat) (p : Addr) (z : Lag), vs = [.ref p, .str (S u), .str (S v)] ∧ H p = some (tz z) ∧ u.length ≤ 1000 ∧ v.length ≤ 1000 ∧ z.1.length ≤ 1000 ∧ z.2.length ≤ 1000 ∧ u.length = v.length ∧ Q (.bl (Lev.stays u v z)) H
theorem ok_law_stays (T : Txt K mg) : FnOk P w K mg base CX0 1 T.f_law_stays T.fd_law_stays ["pair", "left", "right"] spStays := by
  refine T.F_law_stays.ok sc_law_stays (fun vs H Q E h => ?_) (fun cdv A outer s H vs Q E hr h => ?_)
  · obtain ⟨u, v, p, z, rfl, _⟩ := h; rfl
  · obtain ⟨u, v, p, z, rfl, hp, lu, lv, l1, l2, hl, q⟩ := h
    refine ⟨_, (pss_one (ps_ret (pe_and (pe_cmpR op_eq (pe_callB call_len_str (by rfl) T.z_len (by decide +kernel) (pa_cons (pv 1) pa_nil)) (pe_callB call_len_str (by rfl) T.z_len (by decide +kernel) (pa_cons (pv 2) pa_nil)) (nomark _)) (pe_one (pe_cmpR op_eq (pe_op op_add_str (pe_op op_add_str (pe_ix ix_tup (pv 0) pe_int (fun _ _ => rfl)) (pv 1)) (pe_ix ix_tup (pv 0) pe_int (fun _ _ => rfl))) (pe_op op_add_str (pe_op op_add_str (pe_ix ix_tup (pv 0) pe_int (fun _ _ => rfl)) (pv 2)) (pe_ix ix_tup (pv 0) pe_int (fun _ _ => rfl))) (nomark _)))))), ?_⟩
    obtain ⟨x, y⟩ := z
    have l1 : x.length ≤ 1000 := l1
    have l2 : y.length ≤ 1000 := l2
    have sz : ∀ {t : List Nat}, t.length ≤ 3000 → (S t).length ≤ sizeLine := fun {t} h => by rw [S_len]; exact Nat.le_trans h (by decide)
    have zz : ∀ {a b : List Nat}, a.length ≤ 3000 → b.length ≤ 3000 → (S a).length + (S b).length ≤ sizeLine := fun {a b} h1 h2 => by
      rw [S_len, S_len]; exact Nat.le_trans (by omega : a.length + b.length ≤ 10000) (by decide)
    have at0 : atI [V.str (S x), V.str (S y)] 0 = some (.str (S x)) := atI_nat (j := 0) rfl
    have at1 : atI [V.str (S x), V.str (S y)] 1 = some (.str (S y)) := atI_nat (j := 1) rfl
    have hq : SqT K H p [V.str (S x), V.str (S y)] := SqT.of hp
    refine ⟨_, rfl, _, rfl, sz (by omega), _, rfl, _, rfl, sz (by omega), rfl, _, rfl, ?_⟩
    rw [S_len, S_len, decide_eq_true (show V.int (u.length : Int) = V.int v.length by rw [hl])]
    refine iteT ⟨_, rfl, p, _, _, _, rfl, rfl, hq, at0, _, rfl, _, _, rfl, rfl, zz (by omega) (by omega), ?_⟩
    rw [S_app]
    refine ⟨_, rfl, p, _, _, _, rfl, rfl, hq, at1, _, _, rfl, rfl, zz (by rw [List.length_append]; omega) (by omega), ?_⟩
    rw [S_app]
    refine ⟨_, rfl, p, _, _, _, rfl, rfl, hq, at1, _, rfl, _, _, rfl, rfl, zz (by omega) (by omega), ?_⟩
    rw [S_app]
    refine ⟨_, rfl, p, _, _, _, rfl, rfl, hq, at0, _, _, rfl, rfl, zz (by rw [List.length_append]; omega) (by omega), ?_⟩
    rw [S_app]
    refine ⟨rfl, ?_⟩
    rw [S_eqV]
    exact q
def spDue (K : PySem.W.Frag) : Sp := fun vs H Q _ => ∃ (u v : List Nat) (M : Nat), vs = [.str (S u), .str (S v), .int M] ∧ ¬ (u = [] ∧ v = []) ∧ u.length ≤ 900 ∧ v.length ≤ 900 ∧ M ≤ 900 ∧
  ∀ D H', Same H H' → PL H' D (Lev.due u v M) → H D = none → Q (.ref D) H'
theorem ok_law_due (T : Txt K mg) : FnOk P w K mg base CX0 2 T.f_law_due T.fd_law_due ["left", "right", "highest"] (spDue K) := by
  refine T.F_law_due.ok sc_law_due (fun vs H Q E h => ?_) (fun cdv A outer s H vs Q E hr h => ?_)
  · obtain ⟨u, v, M, rfl, _⟩ := h; rfl
  · obtain ⟨u, v, M, rfl, h0, hu, hv, hM, q⟩ := h
    refine ⟨_, (pss_cons (ps_if (pt_cmpR op_ne (pe_callB call_len_str (by rfl) T.z_len (by decide +kernel) (pa_cons (pv 0) pa_nil)) (pe_callB call_len_str (by rfl) T.z_len (by decide +kernel) (pa_cons (pv 1) pa_nil)) (nomark _)) (pss_one (ps_ret (pe_lst pa_nil))) pss_nil)
      (pss_cons (ps_set (i := 3) sc_law_due.nd rfl (Or.inl rfl) (pe_lst pa_nil))
      (pss_cons (ps_for PassesOwn.never rfl (pi_range2 rfl T.z_range (pa_cons (pe_op op_sub pe_int (pv 2)) (pa_cons (pe_op op_add (pv 2) pe_int) pa_nil))) (pg_name (i := 4) sc_law_due.nd rfl (Or.inl rfl)) (pss_cons (ps_set (i := 5) sc_law_due.nd rfl (Or.inl rfl) (pe_call (ok_law_numbered T) (hr.mono (by decide)) rfl T.g_law_numbered T.F_law_numbered.kp T.b_law_numbered .nil pass0 (pa_cons (pv 0) (pa_cons (pv 1) (pa_cons (pv 4) pa_nil)))))
      (pss_one (ps_if (pt_val (pe_call (ok_law_stays T) (hr.mono (by decide)) rfl T.g_law_stays T.F_law_stays.kp T.b_law_stays .nil pass0 (pa_cons (pv 5) (pa_cons (pv 0) (pa_cons (pv 1) pa_nil))))) (pss_one (ps_expr (pe_bm PySem.F.plainAttrs_list PySem.F.slot_list_append PySem.F.type_list_append mt_append (pv 3) (pa_cons (pv 5) pa_nil)))) pss_nil))))
      (pss_one (ps_ret (pv 3)))))), ?_⟩
    have sz : ∀ {t : List Nat}, t.length ≤ 3000 → (S t).length ≤ sizeLine := fun {t} h => by rw [S_len]; exact Nat.le_trans h (by decide)
    have z0 : 0 ≤ sizeLine := by decide
    refine ⟨_, rfl, _, rfl, sz (by omega), _, rfl, _, rfl, sz (by omega), rfl, _, rfl, ?_⟩
    rw [S_len, S_len]
    by_cases hl : u.length = v.length
    · rw [decide_eq_true (show V.int (u.length : Int) = V.int v.length by rw [hl])]
      have hu0 : u ≠ [] := fun z => h0 ⟨z, List.length_eq_zero_iff.mp (by rw [← hl, z]; rfl)⟩
      have hv0 : v ≠ [] := fun z => hu0 (List.length_eq_zero_iff.mp (by rw [hl, z]; rfl))
      refine iteF ⟨z0, fun D hD => ?_⟩
      refine ⟨_, rfl, _, _, rfl, rfl, _, rfl, _, _, rfl, rfl, _, _, rfl, ?_⟩
      refine ⟨⟨by omega, by omega, by omega, by omega⟩, ?_⟩
      have en : ((M : Int) + 1 - (0 - (M : Int))).toNat = 2 * M + 1 := by omega
      rw [en]
      obtain ⟨L, eL⟩ : ∃ L : Nat → List Lag, L = fun i => ((List.range i).map fun (k : Nat) => Lev.num u v ((k : Int) - M)).filter (Lev.stays u v) := ⟨_, rfl⟩
      have L0 : L 0 = [] := by rw [eL]; rfl
      have LS : ∀ i, L (i + 1) = L i ++ if Lev.stays u v (Lev.num u v ((i : Int) - M)) = true then [Lev.num u v ((i : Int) - M)] else [] := fun i => by
        rw [eL]
        show List.filter _ (List.map _ (List.range (i + 1))) = _
        rw [List.range_succ, List.map_append, List.filter_append]
        congr 1
        by_cases c : Lev.stays u v (Lev.num u v ((i : Int) - M)) = true
        · rw [if_pos c]; simp [c]
        · rw [if_neg c]; simp [c]
      have Llen : ∀ i, (L i).length ≤ i := fun i => by
        rw [eL]
        refine Nat.le_trans (List.length_filter_le _ _) ?_
        rw [List.length_map, List.length_range]; exact Nat.le_refl _
      have Ld : L (2 * M + 1) = Lev.due u v M := by rw [eL]; unfold Lev.due; rw [if_neg (fun z => z hl)]
      refine for_range (lo := 0 - (M : Int)) (n := 2 * M + 1) (fun i σ H' => ∃ x4 x5, σ = [some (.str (S u)), some (.str (S v)), some (.int M), some (.ref D), x4, x5] ∧ Same H H' ∧ PL H' D (L i))
        ⟨none, none, rfl, Same.new (Same.refl H) hD, [], upd_same, L0.symm, fun p hp => (by cases hp)⟩ ?_ ?_
      · rintro i σ H1 hi ⟨x4, x5, rfl, s1, ps, e1, m1, k1⟩
        have ei : (0 - (M : Int) + (i : Int)) = (i : Int) - M := by omega
        rw [ei]
        refine ⟨_, rfl, _, rfl, _, rfl, u, v, _, rfl, hu0, hv0, hu, hv, by omega, by omega, fun r hr1 => ?_⟩
        have s2 : Same H (upd H1 r (tz (Lev.num u v ((i : Int) - M)))) := Same.new s1 hr1
        obtain ⟨z1, z2⟩ := Lev.num_len hu0 hv0 (n := (i : Int) - M) (M := M) (by omega) (by omega)
        have nD : D ≠ r := fun z => by rw [← z, e1] at hr1; cases hr1
        have D0 : H D = none := hD
        refine ⟨_, rfl, _, rfl, _, rfl, u, v, r, _, rfl, upd_same, by omega, by omega, by omega, by omega, hl, _, rfl, ?_⟩
        refine ite2 (fun c => ?_) (fun c => ?_)
        · refine ⟨_, rfl, .inl ⟨rfl, _, SqL.of (by rw [upd_ne nD]; exact e1)⟩, _, rfl, D, _, _, rfl, rfl, by rw [upd_ne nD]; exact e1, ?_, ?_⟩
          · rw [PL.len m1]; exact Nat.lt_of_le_of_lt (Llen i) (Nat.lt_of_lt_of_le (by omega : i < 10000) (by decide))
          · refine ⟨_, _, rfl, ?_, ?_⟩
            · intro b ob eb
              rw [upd_ne (ne_of_none eb D0)]; exact s2 b ob eb
            · rw [LS, if_pos c]
              exact PL.snoc e1 m1 k1 hr1
        · refine ⟨_, _, rfl, s2, ?_⟩
          rw [LS, if_neg c, List.append_nil]
          exact PL.same ⟨ps, e1, m1, k1⟩ (Same.new (Same.refl H1) hr1)
      · rintro σ H1 ⟨x4, x5, rfl, s1, p1⟩
        rw [Ld] at p1
        exact ⟨_, rfl, q D H1 s1 p1 hD⟩
    · rw [decide_eq_false (fun z => hl (by have := V.int.inj z; omega))]
      refine iteT ⟨z0, fun D hD => q D _ (Same.new (Same.refl H) hD) ⟨[], upd_same, ?_, fun p hp => by cases hp⟩ hD⟩
      unfold Lev.due
      rw [if_pos hl]; rfl
end
end My

set_option Elab.async false
set_option linter.all false
set_option maxRecDepth 100000
set_option maxHeartbeats 8000000
namespace My
open PySem PySem.Spec PyProof.Rows L2
def nr (z : Lag) : Int := (z.1.length : Int) - z.2.length
section
variable {P : Program} {w : World} {K : PySem.W.Frag} {mg : Str → Option Value} {base : Heap}
def spNumber : Sp := fun vs H Q _ => ∃ (p : Addr) (z : Lag), vs = [.ref p] ∧ H p = some (tz z) ∧ z.1.length ≤ 1000 ∧ z.2.length ≤ 1000 ∧ Q (.int (nr z)) H
theorem ok_law_number (T : Txt K mg) : FnOk P w K mg base CX0 1 T.f_law_number T.fd_law_number ["pair"] spNumber := by
  refine T.F_law_number.ok sc_law_number (fun vs H Q E h => ?_) (fun cdv A outer s H vs Q E hr h => ?_)
  · obtain ⟨p, z, rfl, _⟩ := h; rfl
  · obtain ⟨p, ⟨x, y⟩, rfl, hp, l1, l2, q⟩ := h
    refine ⟨_, (pss_one (ps_ret (pe_op op_sub (pe_callB call_len_str (by rfl) T.z_len (by decide +kernel) (pa_cons (pe_ix ix_tup (pv 0) pe_int (fun _ _ => rfl)) pa_nil)) (pe_callB call_len_str (by rfl) T.z_len (by decide +kernel) (pa_cons (pe_ix ix_tup (pv 0) pe_int (fun _ _ => rfl)) pa_nil))))), ?_⟩
    have l1 : x.length ≤ 1000 := l1
    have l2 : y.length ≤ 1000 := l2
    have sz : ∀ {t : List Nat}, t.length ≤ 3000 → (S t).length ≤ sizeLine := fun {t} h => by rw [S_len]; exact Nat.le_trans h (by decide)
    refine ⟨_, rfl, p, _, _, _, rfl, rfl, SqT.of hp, atI_nat (j := 0) rfl, _, rfl, sz (by omega), _, rfl, p, _, _, _, rfl, rfl, SqT.of hp, atI_nat (j := 1) rfl, _, rfl, sz (by omega), _, _, rfl, rfl, ?_⟩
    show Q (V.int (((S x).length : Int) - ((S y).length : Int))) H
    rw [S_len, S_len]
    exact q
theorem refs_get {ps : List (Addr × Lag)} {i : Nat} {x : V} (h : (refs ps)[i]? = some x) : ∃ p, ps[i]? = some p ∧ x = .ref p.1 := by
  unfold refs at h
  rw [List.getElem?_map] at h
  cases e : ps[i]? with
  | none => rw [e] at h; cases h
  | some p => rw [e] at h; exact ⟨p, rfl, (Option.some.inj h).symm⟩
theorem map_get {ps : List (Addr × Lag)} {zs : List Lag} {i : Nat} {p : Addr × Lag} (m : ps.map (·.2) = zs) (h : ps[i]? = some p) : zs[i]? = some p.2 := by
  rw [← m, List.getElem?_map, h]; rfl
/-- what each lag that stays is like -/
theorem due_small {u v : List Nat} (h0 : ¬ (u = [] ∧ v = [])) {M : Nat} {z : Lag} (hz : z ∈ Lev.due u v M) : z.1.length ≤ M ∧ z.2.length ≤ M ∧ -(M : Int) ≤ nr z ∧ nr z ≤ M := by
  obtain ⟨u0, v0⟩ := Lev.due_ne h0 hz
  obtain ⟨e, _, n, n1, n2, rfl⟩ := Lev.due_mem hz
  obtain ⟨l1, l2⟩ := Lev.num_len u0 v0 n1 n2
  have := Lev.num_number u0 v0 n
  exact ⟨l1, l2, by unfold nr; omega, by unfold nr; omega⟩
theorem due_wd {u v : List Nat} {a b : Nat} (h0 : ¬ (u = [] ∧ v = [])) (hu : Wd a b u) (hv : Wd a b v) {M : Nat} {z : Lag} (hz : z ∈ Lev.due u v M) : Wd a b z.1 ∧ Wd a b z.2 := by
  obtain ⟨u0, v0⟩ := Lev.due_ne h0 hz
  obtain ⟨e, _, n, n1, n2, rfl⟩ := Lev.due_mem hz
  obtain ⟨m1, m2⟩ := Lev.num_mem u0 v0 n
  exact ⟨fun c hc => hv c (m1 c hc), fun c hc => hu c (m2 c hc)⟩
theorem due_len (u v : List Nat) (M : Nat) : (Lev.due u v M).length ≤ 2 * M + 1 := by
  unfold Lev.due
  by_cases h : u.length ≠ v.length
  · rw [if_pos h]; exact Nat.zero_le _
  · rw [if_neg h]
    refine Nat.le_trans (List.length_filter_le _ _) ?_
    rw [List.length_map, List.length_range]; exact Nat.le_refl _
def spHighest : Sp := fun vs H Q _ => ∃ (p : Addr) (n : Nat) (u v : List Nat), vs = [.ref p, .str (S u), .str (S v)] ∧ BoxAt H p n ∧ n < 10000000 ∧ ¬ (u = [] ∧ v = []) ∧ u.length ≤ 25 ∧ v.length ≤ 25 ∧
  ∀ (M : Nat) H', M ≤ 41 → Kp p H H' → BoxAt H' p (n + 10) → Q (.int M) H'
theorem ok_law_highest (T : Txt K mg) : FnOk P w K mg base CX0 3 T.f_law_highest T.fd_law_highest ["box", "left", "right"] spHighest := by
  refine T.F_law_highest.ok sc_law_highest (fun vs H Q E h => ?_) (fun cdv A outer s H vs Q E hr h => ?_)
  · obtain ⟨p, n, u, v, rfl, _⟩ := h; rfl
  · obtain ⟨p, n, u, v, rfl, hb, hn, h0, hu, hv, q⟩ := h
    refine ⟨_, (pss_cons (ps_setLc (i := 3) (own := [("pair", 4)]) (g := gName 4) (by rfl) sc_law_highest.nd rfl rfl (sw_true rfl rfl rfl (by decide +kernel)) (pi_list (pe_call (ok_law_due T) (hr.mono (by decide)) rfl T.g_law_due T.F_law_due.kp T.b_law_due .nil pass0 (pa_cons (pv 1) (pa_cons (pv 2) (pa_cons (pe_callB call_len_str (by rfl) T.z_len (by decide +kernel) (pa_cons (pv 1) pa_nil)) pa_nil))))) (blkOk_by (own := [("pair", 4)]) (N := N_law_highest) (sc := defScope s_law_highest) (by decide +kernel)) (fun _ _ _ _ _ => pg_name (i := 4) sc_law_highest.nd rfl (Or.inl rfl)) (fun _ _ _ _ _ => pts_nil) (fun _ _ _ _ _ => (pe_callB call_abs (by rfl) T.z_abs (by decide +kernel) (pa_cons (pe_call (ok_law_number T) (hr.mono (by decide)) rfl T.g_law_number T.F_law_number.kp T.b_law_number .nil pass0 (pa_cons (pv 4) pa_nil)) pa_nil))))
      (pss_cons (ps_if (PW.pt (pw_or (pt_cmpR (op_eq_nil (un0 hr)) (pv 3) (pe_lst pa_nil) (nomark _)) (pw_or1 (pt_cmpR op_eq (pe_call (ok_law_take T) (hr.mono (by decide)) rfl T.g_law_take T.F_law_take.kp T.b_law_take .nil pass0 (pa_cons (pv 0) (pa_cons pe_int pa_nil))) pe_int (nomark _))))) (pss_one (ps_ret (pe_call (ok_law_take T) (hr.mono (by decide)) rfl T.g_law_take T.F_law_take.kp T.b_law_take .nil pass0 (pa_cons (pv 0) (pa_cons pe_int pa_nil))))) pss_nil)
      (pss_one (ps_ret (pe_callB (call_max2 rfl) (by rfl) T.z_max (by decide +kernel) (pa_cons pe_int (pa_cons (pe_ix ix_list (pe_lst (pa_cons (pe_callB (cr_min rfl) (by rfl) T.z_min (by decide +kernel) (pa_cons (pv 3) pa_nil)) (pa_cons (pe_op op_sub (pe_callB (cr_min rfl) (by rfl) T.z_min (by decide +kernel) (pa_cons (pv 3) pa_nil)) pe_int) (pa_cons (pe_callB (cr_max rfl) (by rfl) T.z_max (by decide +kernel) (pa_cons (pv 3) pa_nil)) (pa_cons (pe_op op_sub (pe_callB (cr_max rfl) (by rfl) T.z_max (by decide +kernel) (pa_cons (pv 3) pa_nil)) pe_int) pa_nil))))) (pe_call (ok_law_take T) (hr.mono (by decide)) rfl T.g_law_take T.F_law_take.kp T.b_law_take .nil pass0 (pa_cons (pv 0) (pa_cons pe_int pa_nil))) (fun _ _ => rfl)) pa_nil))))))), ?_⟩
    have sz : ∀ {t : List Nat}, t.length ≤ 3000 → (S t).length ≤ sizeLine := fun {t} h => by rw [S_len]; exact Nat.le_trans h (by decide)
    have z0 : 0 ≤ sizeLine := by decide
    refine ⟨_, rfl, _, rfl, _, rfl, _, rfl, sz (by omega), u, v, u.length, by rw [S_len]; rfl, h0, by omega, by omega, by omega, fun DU H1 s1 pl DU0 => ?_⟩
    obtain ⟨ps, e1, m1, k1⟩ := pl
    refine ⟨DU, rfl, ⟨_, SqL.of e1⟩, fun D hD => ?_⟩
    have D0 : H D = none := s1.free hD
    refine lc_list (K := K) (a := DU) (xs := refs ps) (fun i H' => Same H H' ∧ H' DU = some (.lst (refs ps)) ∧ PLs H' ps ∧ ∃ ns : List Int, ns.length = i ∧ H' D = some (.lst (ns.map V.int)) ∧ ∀ y ∈ ns, 0 ≤ y ∧ y ≤ 25) ⟨Same.new s1 hD, ?_, k1.same (Same.new (Same.refl H1) hD), [], rfl, upd_same, fun y hy => by cases hy⟩ (fun i H' _ h => SqL.of h.2.1) ?_ ?_
    · rw [upd_ne (ne_of_none e1 hD)]; exact e1
    · rintro i x H4 hx ⟨s4, e4, k4, ns, ln, e5, hns⟩
      obtain ⟨pz, g1, rfl⟩ := refs_get hx
      have gz := map_get m1 g1
      obtain ⟨z1, z2, z3, z4⟩ := due_small h0 (List.mem_of_getElem? gz)
      refine ⟨rfl, tYesT ⟨_, rfl, pz.1, pz.2, rfl, k4 pz (List.mem_of_getElem? g1), by omega, by omega, _, rfl, _, e5, ?_, ?_, ?_, ?_, ns ++ [if nr pz.2 < 0 then -nr pz.2 else nr pz.2], by rw [List.length_append, ln]; rfl, ?_, ?_⟩⟩
      · rw [List.length_map, ln]
        have hi : i < (Lev.due u v u.length).length := List.getElem?_eq_some_iff.mp gz |>.1
        have := due_len u v u.length
        exact Nat.lt_of_lt_of_le (by omega : i < 10000) (by decide)
      · intro b ob eb
        rw [upd_ne (ne_of_none eb D0)]; exact s4 b ob eb
      · rw [upd_ne (ne_of_none e1 hD)]; exact e4
      · exact fun p hp => by
          have e := k4 p hp
          rw [upd_ne (fun z => by rw [z, e5] at e; cases e)]; exact e
      · rw [upd_same, List.map_append]; rfl
      · intro y hy
        rcases List.mem_append.mp hy with h | h
        · exact hns y h
        · rw [List.mem_singleton.mp h]; split <;> omega
    · rintro H4 ⟨s4, e4, k4, ns, ln, e5, hns⟩
      have b4 : BoxAt H4 p n := hb.same s4
      have npD : D ≠ p := fun z => by rw [z] at D0; obtain ⟨o, ho, _⟩ := hb; rw [ho] at D0; cases D0
      refine ⟨_, rfl, z0, fun t ht => ⟨D, t, _, _, rfl, rfl, by rw [upd_ne (ne_of_none e5 ht)]; exact e5, upd_same, .inr rfl, _, rfl, ?_⟩⟩
      have s5 : Same H (upd H4 t (.lst [])) := Same.new s4 ht
      have e6 : upd H4 t (.lst []) D = some (.lst (ns.map V.int)) := by rw [upd_ne (ne_of_none e5 ht)]; exact e5
      generalize upd H4 t (.lst []) = H5 at s5 e6
      have b5 : BoxAt H5 p n := hb.same s5
      refine ite2 (fun c => ?_) (fun c => ?_)
      · refine iteT ⟨_, rfl, p, n, 41, rfl, b5, by omega, by omega, by omega, fun d o hd ho => ?_⟩
        exact q d _ (by omega) (Kp.of s5).upd ((ho.at).mono (by omega))
      have hne : 0 < ns.length := by
        rcases Nat.eq_zero_or_pos ns.length with z | z
        · exact absurd (decide_eq_true (by rw [List.length_map, z]; rfl)) c
        · exact z
      refine ⟨_, rfl, p, n, 2, rfl, b5, by omega, by omega, by omega, fun d o hd ho => ?_⟩
      have k6 : Kp p H (upd H5 p o) := (Kp.of s5).upd
      have b6 : BoxAt (upd H5 p o) p (n + 1) := ho.at
      have e7 : upd H5 p o D = some (.lst (ns.map V.int)) := by rw [upd_ne npD]; exact e6
      generalize upd H5 p o = H6 at k6 b6 e7
      refine ⟨rfl, _, rfl, ite2 (fun _ => ?_) (fun _ => ?_)⟩
      · refine ⟨_, rfl, p, _, 41, rfl, b6, by omega, by omega, by omega, fun d o hd ho => ?_⟩
        exact q d _ (by omega) k6.upd ((ho.at).mono (by omega))
      refine ⟨_, rfl, D, ns, rfl, SqL.of e7, hne, fun m1 hm1 _ => ⟨_, rfl, D, ns, rfl, SqL.of e7, hne, fun m2 hm2 _ => ⟨_, _, rfl, rfl, _, rfl, D, ns, rfl, SqL.of e7, hne, fun m3 hm3 _ => ⟨_, rfl, D, ns, rfl, SqL.of e7, hne, fun m4 hm4 _ => ⟨_, _, rfl, rfl, ?_⟩⟩⟩⟩⟩
      refine ⟨(by show 4 ≤ sizeLine; decide), fun r hr1 => ⟨_, rfl, p, _, 4, rfl, b6.new hr1, by omega, by omega, by omega, fun d o hd ho => ?_⟩⟩
      have npr : p ≠ r := b6.ne hr1
      have k7 := (k6.new (o := .lst [V.int m1, .int (m2 - 1), .int m3, .int (m4 - 1)]) hr1).upd (o := o)
      have e8 : upd (upd H6 r (.lst [V.int m1, .int (m2 - 1), .int m3, .int (m4 - 1)])) p o r = some (.lst [V.int m1, .int (m2 - 1), .int m3, .int (m4 - 1)]) := by rw [upd_ne npr.symm]; exact upd_same
      obtain ⟨y, ey, hy⟩ : ∃ y : Int, [V.int m1, .int (m2 - 1), .int m3, .int (m4 - 1)][d]? = some (.int y) ∧ y ≤ 25 := by
        have q1 := hns _ hm1
        have q2 := hns _ hm2
        have q3 := hns _ hm3
        have q4 := hns _ hm4
        match d, hd with
        | 0, _ => exact ⟨_, rfl, by omega⟩
        | 1, _ => exact ⟨_, rfl, by omega⟩
        | 2, _ => exact ⟨_, rfl, by omega⟩
        | 3, _ => exact ⟨_, rfl, by omega⟩
        | d + 4, hd => exact absurd hd (by omega)
      refine ⟨r, _, _, _, rfl, rfl, SqL.of e8, atI_nat (j := d) ey, 0, y, rfl, ?_⟩
      have em : (if y > 0 then y else 0) = ((y.toNat : Nat) : Int) := by split <;> omega
      rw [em]
      exact q y.toNat _ (by omega) k7 ((ho.at).mono (by omega))
end
end My

set_option Elab.async false
set_option linter.all false
set_option maxRecDepth 100000
set_option maxHeartbeats 8000000
namespace My
open PySem PySem.Spec PyProof.Rows L2
def zD (z : Lag) : PyData := .tuple [.str (S z.1), .str (S z.2)]
def zsD (zs : List Lag) : PyData := .list (zs.map zD)
section
variable {P : Program} {w : World} {K : PySem.W.Frag} {mg : Str → Option Value} {base : Heap}
theorem dp_z {H : Hp} {q : Addr} {z : Lag} (h : H q = some (tz z)) : Dp K H (.ref q) (zD z) := Dp.tup (SqT.of h) (.cons (.str _) (.cons (.str _) .nil))
theorem dp_refs {H : Hp} : ∀ {ps : List (Addr × Lag)}, PLs H ps → DpAll K H (refs ps) (ps.map fun p => zD p.2)
  | [], _ => .nil
  | p :: ps, h => .cons (dp_z (h p (List.mem_cons_self ..))) (dp_refs fun q hq => h q (List.mem_cons_of_mem _ hq))
theorem PL.dp {H : Hp} {D : Addr} {zs : List Lag} (h : PL H D zs) : Dp K H (.ref D) (zsD zs) := by
  obtain ⟨ps, e, m, k⟩ := h
  have := dp_refs (K := K) k
  rw [show (ps.map fun p => zD p.2) = zs.map zD by rw [← m, List.map_map]; rfl] at this
  exact Dp.lst (SqL.of e) this
theorem fit_z {z : Lag} (h1 : z.1.length ≤ 50) (h2 : z.2.length ≤ 50) (l1 : ∀ c ∈ z.1, c < 200) (l2 : ∀ c ∈ z.2, c < 200) : Fit (zD z) 1 102 :=
  Fit.tuple (k := 0) (FitAll.cons (Fit.str (w := 50) h1 l1) (FitAll.cons (Fit.str (w := 50) h2 l2) FitAll.nil))
theorem fit_zs : ∀ {zs : List Lag}, (∀ z ∈ zs, Fit (zD z) 1 102) → FitAll (zs.map zD) 1 (103 * zs.length)
  | [], _ => FitAll.nil
  | z :: zs, h => (FitAll.cons (h z (List.mem_cons_self ..)) (fit_zs fun y hy => h y (List.mem_cons_of_mem _ hy))).mono (Nat.le_refl _) (by rw [List.length_cons, Nat.mul_add]; omega)
theorem sh_zs {zs : List Lag} (h : ∀ z ∈ zs, Fit (zD z) 1 102) (hl : zs.length ≤ 200) : Sh (zsD zs) :=
  (Fit.list (fit_zs h)).sh (by decide) (Nat.le_trans (Nat.mul_le_mul_left 103 hl) (by decide))
theorem jc_nat {H : Hp} {M : Nat} : Jc K H (.int M) true := .inl ⟨_, rfl, (decide_eq_true (by omega)).symm⟩
def spListRight : Sp := fun vs H Q _ => ∃ (u v : List Nat) (M : Nat), vs = [.str (S u), .str (S v), .int M] ∧ ¬ (u = [] ∧ v = []) ∧ Low u ∧ Low v ∧ u.length ≤ 30 ∧ v.length ≤ 30 ∧ M ≤ 41 ∧ ∀ H', Same H H' → Q (.bl true) H'
theorem ok_law_list_right (T : Txt K mg) : FnG P w K mg base CX0 5 T.f_law_list_right T.fd_law_list_right ["left", "right", "highest"] spListRight := by
  refine T.F_law_list_right.okG sc_law_list_right (fun vs H Q E h => ?_) (fun cdv A outer s H vs Q E hgd hr h => ?_)
  · obtain ⟨u, v, M, rfl, _⟩ := h; rfl
  · obtain ⟨u, v, M, rfl, h0, wu, wv, hu, hv, hM, q⟩ := h
    have hun := un64 hr
    refine ⟨_, (pss_cons (ps_set (i := 3) sc_law_list_right.nd rfl (Or.inl rfl) (pe_call (ok_law_due T) (hr.mono (by decide)) rfl T.g_law_due T.F_law_due.kp T.b_law_due .nil pass0 (pa_cons (pv 0) (pa_cons (pv 1) (pa_cons (pv 2) pa_nil)))))
      (pss_cons (ps_set (i := 4) sc_law_list_right.nd rfl (Or.inl rfl) (pe_call (ok_staying T) (hr.mono (by decide)) rfl T.g_staying T.F_staying.kp T.b_staying .nil passL (pa_cons (pv 0) (pa_cons (pv 1) (pa_cons (pv 2) pa_nil)))))
      (pss_cons (ps_if (PW.pt (pw_or (pt_not (pt_val (pe_callB call_isi (by rfl) T.z_isinstance (by decide +kernel) (pa_cons (pv 4) (pa_cons (pe_bltn (v := .ty "list") (u := .type "list") (by rfl) T.z_list (by decide +kernel) rfl) pa_nil))))) (pw_or1 (pt_cmpR op_ne (pe_callB (call_reprD hgd hun) (by rfl) T.z_repr (by decide +kernel) (pa_cons (pv 4) pa_nil)) (pe_callB (call_reprD hgd hun) (by rfl) T.z_repr (by decide +kernel) (pa_cons (pv 3) pa_nil)) (nomark _))))) (pss_one (ps_ret pe_bl)) pss_nil)
      (pss_cons (ps_expr (pe_bm PySem.F.plainAttrs_list PySem.F.slot_list_append PySem.F.type_list_append mt_append (pv 4) (pa_cons pe_non pa_nil)))
      (pss_cons (ps_expr (pe_bm0 PySem.F.plainAttrs_list PySem.F.slot_list_reverse PySem.F.type_list_reverse mt_reverse (pv 4)))
      (pss_one (ps_ret (pe_cmpR op_eq (pe_callB (call_reprD hgd hun) (by rfl) T.z_repr (by decide +kernel) (pa_cons (pe_callKS (E := fun _ => E0) (ok_staying T) (hr.mono (by decide)) rfl T.g_staying T.F_staying.kp (kb_staying_most_other_one T) (fun σ pins H s e s2 I c => passL pins σ H s e s2 I c) (pk_cons (pv 2) (pk_cons (pv 1) (pk_cons (pv 0) pk_nil)))) pa_nil)) (pe_callB (call_reprD hgd hun) (by rfl) T.z_repr (by decide +kernel) (pa_cons (pv 3) pa_nil)) (nomark _))))))))), ?_⟩
    have nn : ∀ {A : Prop}, (true = false) → A := fun z => by cases z
    have fz : ∀ z ∈ Lev.due u v M, Fit (zD z) 1 102 := fun z hz => by
      obtain ⟨u0, v0⟩ := Lev.due_ne h0 hz
      obtain ⟨e, _, n, n1, n2, e2⟩ := Lev.due_mem hz
      obtain ⟨m1, m2⟩ := Lev.num_mem u0 v0 n
      obtain ⟨z1, z2, _⟩ := due_small h0 hz
      rw [← e2] at m1 m2
      exact fit_z (by omega) (by omega) (fun c hc => wv.lt c (m1 c hc)) (fun c hc => wu.lt c (m2 c hc))
    have sh := sh_zs fz (Nat.le_trans (due_len u v M) (by omega))
    refine ⟨_, rfl, _, rfl, _, rfl, u, v, M, rfl, h0, by omega, by omega, by omega, fun D1 H1 s1 p1 D10 => ?_⟩
    refine ⟨_, rfl, _, rfl, _, rfl, _, _, _, true, true, true, rfl, jd_low wu, jd_low wv, jc_nat, nn, fun _ => nn, fun _ _ => ⟨u, v, rfl, rfl, by omega, by omega, fun z => absurd z h0, fun _ => nn, fun _ _ => ⟨M, rfl, by omega, fun D2 H2 s2 p2 D20 => ?_⟩⟩⟩
    have p1' := p1.same s2
    obtain ⟨ps, e2, m2, k2⟩ := p2
    have p2 : PL H2 D2 (Lev.due u v M) := ⟨ps, e2, m2, k2⟩
    have n12 : D1 ≠ D2 := by
      obtain ⟨ps1, e1, _⟩ := p1
      exact ne_of_none e1 D20
    refine ⟨_, rfl, _, _, _, _, true, rfl, .ty _, .base (.lst e2), kit_ty (by decide +kernel), true, rfl, iteF ?_⟩
    refine ⟨_, rfl, _, _, rfl, .inl p2.dp, sh.1, sh.2.1, sh.2.2, _, rfl, _, _, rfl, .inl p1'.dp, sh.1, sh.2.1, sh.2.2, rfl, _, rfl, neSame ?_⟩
    -- the list is spoiled
    refine ⟨_, rfl, .inl ⟨rfl, _, SqL.of e2⟩, D2, _, _, rfl, rfl, e2, ?_, ?_⟩
    · rw [PL.len m2]; exact Nat.lt_of_le_of_lt (due_len u v M) (Nat.lt_of_lt_of_le (by omega : 2 * M + 1 < 10000) (by decide))
    have e3 : upd H2 D2 (.lst (refs ps ++ [V.non])) D2 = some (.lst (refs ps ++ [V.non])) := upd_same
    have k3 : Kp D2 H2 (upd H2 D2 (.lst (refs ps ++ [V.non]))) := (Kp.refl D2 H2).upd
    generalize upd H2 D2 (.lst (refs ps ++ [V.non])) = H3 at e3 k3
    refine ⟨_, rfl, .inl ⟨rfl, _, SqL.of e3⟩, D2, _, rfl, rfl, e3, ?_⟩
    have k4 : Kp D2 H2 (upd H3 D2 (.lst (refs ps ++ [V.non]).reverse)) := k3.upd
    generalize upd H3 D2 (.lst (refs ps ++ [V.non]).reverse) = H4 at k4
    have p4 : PL H4 D1 (Lev.due u v M) := p1'.kp k4 n12 (lst_tz e2)
    have s4 : Same H H4 := Kp.toSame k4 (s1.trans s2) (s1.free D20)
    refine ⟨_, rfl, _, rfl, _, rfl, _, _, _, true, true, true, rfl, jd_low wu, jd_low wv, jc_nat, nn, fun _ => nn, fun _ _ => ⟨u, v, rfl, rfl, by omega, by omega, fun z => absurd z h0, fun _ => nn, fun _ _ => ⟨M, rfl, by omega, fun D5 H5 s5 p5 D50 => ?_⟩⟩⟩
    refine ⟨_, _, rfl, .inl p5.dp, sh.1, sh.2.1, sh.2.2, _, rfl, _, _, rfl, .inl (p4.same s5).dp, sh.1, sh.2.1, sh.2.2, rfl, ?_⟩
    rw [decide_eq_true rfl]
    exact q H5 (s4.trans s5)
end
end My

set_option Elab.async false
set_option linter.all false
set_option maxRecDepth 100000
set_option maxHeartbeats 8000000
namespace Lev
/-- a lag that stays stands behind the rounds too -/
theorem behind_stay {u v : List Nat} (h0 : ¬ (u = [] ∧ v = [])) {M : Nat} {z : List Nat × List Nat} (hz : z ∈ due u v M) (r : Nat) : behind (z.1 ++ rounds r u) (z.2 ++ rounds r v) = some z := by
  obtain ⟨u0, v0⟩ := due_ne h0 hz
  obtain ⟨e, hs, n, _, _, en⟩ := due_mem hz
  have one : z.1 = [] ∨ z.2 = [] := by
    rw [en]; unfold num
    by_cases q : 0 < n
    · rw [if_pos q]; exact .inr rfl
    · rw [if_neg q]; exact .inl rfl
  have hs : z.1 ++ u ++ z.2 = z.2 ++ v ++ z.1 := of_decide_eq_true hs
  obtain ⟨x, y⟩ := z
  have go : ∀ {x u v : List Nat}, x ++ u = v ++ x → ∀ r, x ++ rounds r u = rounds r v ++ x := fun {x u v} h r => by
    induction r with
    | zero => exact List.append_nil x
    | succ r ih =>
      show x ++ (u ++ rounds r u) = (v ++ rounds r v) ++ x
      rw [← List.append_assoc, h, List.append_assoc, ih, List.append_assoc]
  rcases one with h | h
  · have h : x = [] := h
    subst h
    have e1 : y ++ v = u ++ y := by simpa using hs.symm
    show behind ([] ++ rounds r u) (y ++ rounds r v) = _
    rw [go e1 r, List.nil_append]
    have := behind_cancel (rounds r u) [] y
    rw [List.append_nil] at this
    rw [this]
    unfold behind
    by_cases hy : y = []
    · subst hy; rfl
    · rw [if_neg (by simpa using hy), if_pos (show List.take ([] : List Nat).length y = [] from rfl)]; rfl
  · have h : y = [] := h
    subst h
    have e1 : x ++ u = v ++ x := by simpa using hs
    show behind (x ++ rounds r u) ([] ++ rounds r v) = _
    rw [go e1 r, List.nil_append]
    have := behind_cancel (rounds r v) x []
    rw [List.append_nil] at this
    rw [this]
    rfl
theorem rounds_one (u : List Nat) : rounds 1 u = u := List.append_nil u
/-- whether there is a lag that stays -/
theorem due_turn {u v : List Nat} (h0 : ¬ (u = [] ∧ v = [])) : (due u v (u.length + v.length) ≠ []) ↔ ∃ s, s < u.length ∧ rot s u = v := by
  constructor
  · intro h
    obtain ⟨z, hz⟩ := List.exists_mem_of_ne_nil _ h
    obtain ⟨u0, v0⟩ := due_ne h0 hz
    obtain ⟨e, _⟩ := due_mem hz
    have ht : turnsL u v ≠ [] := fun q => h (due_none u0 q _)
    obtain ⟨t, ht⟩ := List.exists_mem_of_ne_nil _ ht
    obtain ⟨P, l⟩ := turn_of u0 e.symm ht
    have := rho_le u
    exact ⟨t, by omega, (rot_eq (by omega) e.symm).mpr P⟩
  · rintro ⟨s, hs, e⟩ h
    have hl : v.length = u.length := by rw [← e, rot_len]
    have u0 : u ≠ [] := fun z => by rw [z] at hs; cases hs
    have P := (rot_eq (Nat.le_of_lt hs) hl).mp e
    obtain ⟨r0, r1, _⟩ := rho_spec u0
    obtain ⟨l1, _⟩ := least_lt u0 s (u.length + v.length)
    rw [due_of u0 hl P] at h
    have h := congrArg List.length h
    rw [List.length_map, List.length_range, List.length_nil] at h
    have := Nat.div_pos (a := 2 * (u.length + v.length) + 1 + rho u - 1 - least u s (u.length + v.length)) (b := rho u) (by omega) r0
    omega
/-- the numbers of those that stay -/
theorem due_steps {u v : List Nat} (h0 : ¬ (u = [] ∧ v = [])) (M : Nat) : ∃ (n : Nat) (c : Int), (due u v M).map (fun z => (z.1.length : Int) - z.2.length) = (List.range n).map fun (k : Nat) => c + k * (rho u : Int) := by
  by_cases h : due u v M = []
  · exact ⟨0, 0, by rw [h]; rfl⟩
  · obtain ⟨z, hz⟩ := List.exists_mem_of_ne_nil _ h
    obtain ⟨u0, v0⟩ := due_ne h0 hz
    obtain ⟨e, _⟩ := due_mem hz
    have ht : turnsL u v ≠ [] := fun q => h (due_none u0 q _)
    obtain ⟨t, ht⟩ := List.exists_mem_of_ne_nil _ ht
    obtain ⟨P, l⟩ := turn_of u0 e.symm ht
    rw [due_of u0 e.symm P]
    refine ⟨(2 * M + 1 + rho u - 1 - least u t M) / rho u, (least u t M : Int) - M, ?_⟩
    rw [List.map_map]
    apply List.map_congr_left
    intro k _
    exact num_number u0 v0 _
end Lev
namespace My
open PySem PySem.Spec PyProof.Rows L2
theorem ly_s {u : List Nat} (h : ∀ c ∈ u, c < 200) : (PyData.str (S u)).canLay0 = true := by
  unfold PyData.canLay0 PyData.strOk
  rw [← Array.all_toList]
  show (cs (S u)).all _ = true
  rw [S_tl, List.all_eq_true]
  intro c hc
  exact decide_eq_true (Nat.lt_trans (h c hc) (by decide))
theorem ly_z {z : Lag} (h1 : ∀ c ∈ z.1, c < 200) (h2 : ∀ c ∈ z.2, c < 200) : (zD z).canLay0 = true := by
  unfold zD PyData.canLay0 PyData.canLayAll0
  rw [ly_s h1]
  unfold PyData.canLayAll0
  rw [ly_s h2]
  unfold PyData.canLayAll0; rfl
theorem ly_zs : ∀ {zs : List Lag}, (∀ z ∈ zs, (zD z).canLay0 = true) → PyData.canLayAll0 (zs.map zD) = true
  | [], _ => by unfold PyData.canLayAll0; rfl
  | z :: zs, h => by
    show PyData.canLayAll0 (zD z :: zs.map zD) = true
    unfold PyData.canLayAll0
    rw [h z (List.mem_cons_self ..), ly_zs fun y hy => h y (List.mem_cons_of_mem _ hy)]; rfl
theorem depth_z (z : Lag) : (zD z).depth ≤ 2 := by
  unfold zD
  simp [PyData.depth, PyData.depthAll]
theorem depth_zs (zs : List Lag) : (zsD zs).depth ≤ 3 := by
  unfold zsD PyData.depth
  have : ∀ zs : List Lag, PyData.depthAll (zs.map zD) ≤ 2 := fun zs => by
    induction zs with
    | nil => simp [PyData.depthAll]
    | cons z zs ih =>
      show PyData.depthAll (zD z :: zs.map zD) ≤ 2
      unfold PyData.depthAll
      exact Nat.max_le.mpr ⟨depth_z z, ih⟩
  have := this zs
  omega
theorem shaped_z {z : Lag} (h : (zD z).canLay0 = true) : SeqAt.shaped (zD z) = true := by
  unfold SeqAt.shaped
  rw [h, decide_eq_true (Nat.le_trans (depth_z z) (by decide))]; rfl
theorem shaped_zs {zs : List Lag} (h : ∀ z ∈ zs, (zD z).canLay0 = true) : SeqAt.shaped (zsD zs) = true := by
  unfold SeqAt.shaped
  rw [decide_eq_true (Nat.le_trans (depth_zs zs) (by decide))]
  unfold zsD PyData.canLay0
  rw [ly_zs h]; rfl
theorem eqv_z (z : Lag) : PyData.eqv (zD z) (zD z) = true := by
  unfold zD
  simp [PyData.eqv, PyData.eqvAll]
theorem eqvAll_refl' {α : Type} (f : α → PyData) (h : ∀ x, PyData.eqv (f x) (f x) = true) : ∀ l : List α, PyData.eqvAll (l.map f) (l.map f) = true
  | [] => by unfold PyData.eqvAll; rfl
  | x :: l => by
    show PyData.eqvAll (f x :: l.map f) (f x :: l.map f) = true
    unfold PyData.eqvAll
    rw [h, eqvAll_refl' f h l]; rfl
theorem eqv_zs (zs : List Lag) : PyData.eqv (zsD zs) (zsD zs) = true := by
  unfold zsD PyData.eqv
  exact eqvAll_refl' zD eqv_z zs
end My

set_option Elab.async false
set_option linter.all false
set_option maxRecDepth 100000
set_option maxHeartbeats 8000000
namespace My
open PySem PySem.Spec PyProof.Rows L2
section
variable {P : Program} {w : World} {K : PySem.W.Frag} {mg : Str → Option Value} {base : Heap}
theorem low_rounds {u : List Nat} (h : Low u) : ∀ r, Low (Lev.rounds r u)
  | 0 => Low.nil
  | r + 1 => fun c hc => (List.mem_append.mp hc).elim (h c) (low_rounds h r c)
theorem mem_cutV {xs : List V} {a b : Option Int} {x : V} (h : x ∈ cutV xs a b) : x ∈ xs := by
  unfold cutV at h
  exact List.mem_of_mem_drop (List.mem_of_mem_take h)
theorem mem_refs {ps : List (Addr × Lag)} {x : V} (h : x ∈ refs ps) : ∃ p ∈ ps, x = .ref p.1 := by
  unfold refs at h
  obtain ⟨p, hp, e⟩ := List.mem_map.mp h
  exact ⟨p, hp, e.symm⟩
theorem eqv_n (i : Nat) : PyData.eqv (.int i) (.int i) = true := by unfold PyData.eqv; exact beq_self_eq_true _
theorem eqv_nats (ns : List Nat) : PyData.eqv (.list (natsD ns)) (.list (natsD ns)) = true := by
  unfold PyData.eqv
  exact eqvAll_refl' (fun n : Nat => PyData.int n) eqv_n ns
theorem shaped_nats (ns : List Nat) : SeqAt.shaped (.list (natsD ns)) = true := by
  have h1 : PyData.canLayAll0 (natsD ns) = true := by
    induction ns with
    | nil => unfold PyData.canLayAll0; rfl
    | cons n ns ih =>
      show PyData.canLayAll0 (PyData.int n :: natsD ns) = true
      unfold PyData.canLayAll0 PyData.canLay0
      rw [ih]; rfl
  have h2 : PyData.depthAll (natsD ns) ≤ 2 := by
    induction ns with
    | nil => simp [PyData.depthAll]
    | cons n ns ih =>
      show PyData.depthAll (PyData.int n :: natsD ns) ≤ 2
      unfold PyData.depthAll
      refine Nat.max_le.mpr ⟨by simp [PyData.depth], ih ?_⟩
      unfold PyData.canLayAll0 at h1
      exact (Bool.and_eq_true_iff.mp h1).2
  unfold SeqAt.shaped
  unfold PyData.canLay0 PyData.depth
  rw [h1, decide_eq_true (by omega)]; rfl
def spPairRight : Sp := fun vs H Q _ => ∃ (p : Addr) (n : Nat) (u v : List Nat), vs = [.ref p, .str (S u), .str (S v)] ∧ BoxAt H p n ∧ n < 10000000 ∧ ¬ (u = [] ∧ v = []) ∧ Low u ∧ Low v ∧ u.length ≤ 25 ∧ v.length ≤ 25 ∧
  ∀ H', Kp p H H' → BoxAt H' p (n + 20) → Q (.bl true) H'
theorem ok_law_pair_right (T : Txt K mg) : FnG P w K mg base CX0 6 T.f_law_pair_right T.fd_law_pair_right ["box", "left", "right"] spPairRight := by
  refine T.F_law_pair_right.okG sc_law_pair_right (fun vs H Q E h => ?_) (fun cdv A outer s H vs Q E hgd hr h => ?_)
  · obtain ⟨p, n, u, v, rfl, _⟩ := h; rfl
  · obtain ⟨p, n, u, v, rfl, hb, hn, h0, wu, wv, hu, hv, q⟩ := h
    have hun := un64 hr
    refine ⟨_, (pss_cons (ps_set (i := 3) sc_law_pair_right.nd rfl (Or.inl rfl) (pe_call (ok_law_highest T) (hr.mono (by decide)) rfl T.g_law_highest T.F_law_highest.kp T.b_law_highest .nil pass0 (pa_cons (pv 0) (pa_cons (pv 1) (pa_cons (pv 2) pa_nil)))))
      (pss_cons (ps_if (PW.pt (pw_or (pt_not (pt_val (pe_callG (ok_law_list_right T) hgd (hr.mono (by decide)) rfl T.g_law_list_right T.F_law_list_right.kp T.b_law_list_right .nil pass0 (pa_cons (pv 1) (pa_cons (pv 2) (pa_cons (pv 3) pa_nil)))))) (pw_or1 (pt_not (pt_val (pe_callG (ok_law_list_right T) hgd (hr.mono (by decide)) rfl T.g_law_list_right T.F_law_list_right.kp T.b_law_list_right .nil pass0 (pa_cons (pv 2) (pa_cons (pv 1) (pa_cons (pv 3) pa_nil))))))))) (pss_one (ps_ret pe_bl)) pss_nil)
      (pss_cons (ps_set (i := 4) sc_law_pair_right.nd rfl (Or.inl rfl) (pe_call (ok_law_due T) (hr.mono (by decide)) rfl T.g_law_due T.F_law_due.kp T.b_law_due .nil pass0 (pa_cons (pv 1) (pa_cons (pv 2) (pa_cons (pv 3) pa_nil)))))
      (pss_cons (ps_set (i := 5) sc_law_pair_right.nd rfl (Or.inl rfl) (pe_op op_add pe_int (pe_call (ok_law_take T) (hr.mono (by decide)) rfl T.g_law_take T.F_law_take.kp T.b_law_take .nil pass0 (pa_cons (pv 0) (pa_cons pe_int pa_nil)))))
      (pss_cons (ps_for PassesOwn.never rfl (pi_list (pe_op op_cat (pe_slice sl_list (pv 4) po_none (po_some pe_int)) (pe_slice sl_list (pv 4) (po_some (pe_un un_neg pe_int)) po_none))) (pg_name (i := 6) sc_law_pair_right.nd rfl (Or.inl rfl)) (pss_one (ps_if (PW.pt (pw_or (pt_cmpR (op_neD (un64 hr)) (pe_call (ok_lag_behind T) (hr.mono (by decide)) rfl T.g_lag_behind T.F_lag_behind.kp T.b_lag_behind .nil passL (pa_cons (pv 6) (pa_cons (pe_op op_mul_str (pv 1) (pv 5)) (pa_cons (pe_op op_mul_str (pv 2) (pv 5)) pa_nil)))) (pv 6) (nomark _)) (pw_or1 (pt_cmpR op_ne (pe_callB (call_reprD hgd hun) (by rfl) T.z_repr (by decide +kernel) (pa_cons (pe_call (ok_lag_behind T) (hr.mono (by decide)) rfl T.g_lag_behind T.F_lag_behind.kp T.b_lag_behind .nil passL (pa_cons (pv 6) (pa_cons (pv 1) (pa_cons (pv 2) pa_nil)))) pa_nil)) (pe_callB (call_reprD hgd hun) (by rfl) T.z_repr (by decide +kernel) (pa_cons (pv 6) pa_nil)) (nomark _))))) (pss_one (ps_ret pe_bl)) pss_nil)))
      (pss_cons (ps_set (i := 7) sc_law_pair_right.nd rfl (Or.inl rfl) (pe_call (ok_staying T) (hr.mono (by decide)) rfl T.g_staying T.F_staying.kp T.b_staying .nil passL (pa_cons (pv 1) (pa_cons (pv 2) (pa_cons (pe_op op_add (pe_callB call_len_str (by rfl) T.z_len (by decide +kernel) (pa_cons (pv 1) pa_nil)) (pe_callB call_len_str (by rfl) T.z_len (by decide +kernel) (pa_cons (pv 2) pa_nil))) pa_nil)))))
      (pss_cons (ps_setLc (i := 8) (own := [("spot", 9)]) (g := gName 9) (by rfl) sc_law_pair_right.nd rfl rfl (sw_true rfl rfl rfl (by decide +kernel)) (pi_range1 rfl T.z_range (pa_cons (pe_callB call_len_str (by rfl) T.z_len (by decide +kernel) (pa_cons (pv 1) pa_nil)) pa_nil)) (blkOk_by (own := [("spot", 9)]) (N := N_law_pair_right) (sc := defScope s_law_pair_right) (by decide +kernel)) (fun _ _ _ _ _ => pg_name (i := 9) sc_law_pair_right.nd rfl (Or.inl rfl)) (fun _ _ _ _ _ => pts_nil) (fun _ _ _ _ _ => (pe_op op_add_str (pe_slice sl_str (pv 1) (po_some (pv 9)) po_none) (pe_slice sl_str (pv 1) po_none (po_some (pv 9))))))
      (pss_cons (ps_if (pt_cmpR op_ne (pe_cmpR (op_neD (un64 hr)) (pv 7) (pe_lst pa_nil) (nomark _)) (pe_cmpR op_in_seq (pv 2) (pv 8) (by rfl)) (nomark _)) (pss_one (ps_ret pe_bl)) pss_nil)
      (pss_cons (ps_set (i := 10) sc_law_pair_right.nd rfl (Or.inr rfl) (pe_lc (own := [("pair", 6)]) (g := gName 6) (by rfl) sc_law_pair_right.nd (pi_list (pv 7)) (blkOk_by (own := [("pair", 6)]) (N := N_law_pair_right) (sc := defScope s_law_pair_right) (by decide +kernel)) (fun _ _ _ _ _ => pg_name (i := 6) sc_law_pair_right.nd rfl (Or.inl rfl)) (fun _ _ _ _ _ => pts_nil) (fun _ _ _ _ _ => (pe_call (ok_law_number T) (hr.mono (by decide)) rfl T.g_law_number T.F_law_number.kp T.b_law_number .nil pass0 (pa_cons (pv 6) pa_nil)))))
      (pss_cons (ps_set (i := 11) sc_law_pair_right.nd rfl (Or.inl rfl) (pe_call (ok_law_root_length T) (hr.mono (by decide)) rfl T.g_law_root_length T.F_law_root_length.kp T.b_law_root_length .nil pass0 (pa_cons (pv 1) pa_nil)))
      (pss_one (ps_ret (pe_cmpR (op_eqD (un64 hr)) (pe_lc (own := [("k", 12)]) (g := gName 12) (by rfl) sc_law_pair_right.nd (pi_range1 rfl T.z_range (pa_cons (pe_op op_sub (pe_callB call_len_seq (by rfl) T.z_len (by decide +kernel) (pa_cons (pv 10) pa_nil)) pe_int) pa_nil)) (blkOk_by (own := [("k", 12)]) (N := N_law_pair_right) (sc := defScope s_law_pair_right) (by decide +kernel)) (fun _ _ _ _ _ => pg_name (i := 12) sc_law_pair_right.nd rfl (Or.inl rfl)) (fun _ _ _ _ _ => pts_nil) (fun _ _ _ _ _ => (pe_op op_sub (pe_ix (ix_listK (K := K) rfl) (pv 10) (pe_op op_add (pv 12) pe_int) (fun _ _ => rfl)) (pe_ix (ix_listK (K := K) rfl) (pv 10) (pv 12) (fun _ _ => rfl))))) (pe_op op_rep (pe_lst (pa_cons (pv 11) pa_nil)) (pe_callB (call_max2 rfl) (by rfl) T.z_max (by decide +kernel) (pa_cons pe_int (pa_cons (pe_op op_sub (pe_callB call_len_seq (by rfl) T.z_len (by decide +kernel) (pa_cons (pv 10) pa_nil)) pe_int) pa_nil)))) (nomark _)))))))))))))), ?_⟩
    have nn : ∀ {A : Prop}, (true = false) → A := fun z => by cases z
    have h0' : ¬ (v = [] ∧ u = []) := fun z => h0 ⟨z.2, z.1⟩
    have sz : ∀ {t : List Nat}, t.length ≤ 3000 → (S t).length ≤ sizeLine := fun {t} h => by rw [S_len]; exact Nat.le_trans h (by decide)
    have z0 : 0 ≤ sizeLine := by decide
    have lz : ∀ {M : Nat}, ∀ z ∈ Lev.due u v M, (zD z).canLay0 = true := fun {M} z hz => by
      obtain ⟨u0, v0⟩ := Lev.due_ne h0 hz
      obtain ⟨e, _, n, n1, n2, e2⟩ := Lev.due_mem hz
      obtain ⟨m1, m2⟩ := Lev.num_mem u0 v0 n
      rw [← e2] at m1 m2
      exact ly_z (fun c hc => wv.lt c (m1 c hc)) (fun c hc => wu.lt c (m2 c hc))
    have low_z : ∀ {M : Nat}, ∀ z ∈ Lev.due u v M, Low z.1 ∧ Low z.2 := fun {M} z hz => by
      obtain ⟨u0, v0⟩ := Lev.due_ne h0 hz
      obtain ⟨e, _, n, n1, n2, e2⟩ := Lev.due_mem hz
      obtain ⟨m1, m2⟩ := Lev.num_mem u0 v0 n
      rw [← e2] at m1 m2
      exact ⟨fun c hc => wv c (m1 c hc), fun c hc => wu c (m2 c hc)⟩
    refine ⟨_, rfl, _, rfl, _, rfl, p, n, u, v, rfl, hb, hn, h0, hu, hv, fun M H1 hM k1 b1 => ?_⟩
    refine ⟨_, rfl, _, rfl, _, rfl, u, v, M, rfl, h0, wu, wv, by omega, by omega, hM, fun H2 s2 => ⟨_, rfl, iteF ?_⟩⟩
    refine ⟨_, rfl, _, rfl, _, rfl, v, u, M, rfl, h0', wv, wu, by omega, by omega, hM, fun H3 s3 => ⟨_, rfl, iteF ?_⟩⟩
    have k3 : Kp p H H3 := (k1.trans (Kp.of s2)).trans (Kp.of s3)
    have b3 : BoxAt H3 p (n + 10) := (b1.same s2).same s3
    refine ⟨_, rfl, _, rfl, _, rfl, u, v, M, rfl, h0, by omega, by omega, by omega, fun D1 H4 s4 p4 D10 => ?_⟩
    have k4 : Kp p H H4 := k3.trans (Kp.of s4)
    have b4 : BoxAt H4 p (n + 10) := b3.same s4
    have nD1 : D1 ≠ p := fun z => by obtain ⟨o, e, _⟩ := b3; rw [z, e] at D10; cases D10
    refine ⟨_, rfl, p, _, 3, rfl, b4, by omega, by omega, by omega, fun d o hd ho => ?_⟩
    have k5 : Kp p H (upd H4 p o) := k4.upd
    have b5 : BoxAt (upd H4 p o) p (n + 11) := ho.at
    have p5 : PL (upd H4 p o) D1 (Lev.due u v M) := p4.kp (Kp.refl p H4).upd nD1 (box_tz b4)
    generalize upd H4 p o = H5 at k5 b5 p5
    refine ⟨_, _, rfl, rfl, ?_⟩
    show gName 5 (V.int (1 + (d : Int))) _ H5 _
    obtain ⟨r, er⟩ : ∃ r, r = 1 + d := ⟨_, rfl⟩
    rw [show (1 : Int) + (d : Int) = ((r : Nat) : Int) by omega]
    obtain ⟨ps, e5, m5, q5⟩ := p5
    refine ⟨_, rfl, _, rfl, D1, _, rfl, SqL.of e5, fun L1 hL1 => ?_⟩
    have e6 : upd H5 L1 (.lst (cutV (refs ps) none (some 3))) D1 = some (.lst (refs ps)) := by rw [upd_ne (ne_of_none e5 hL1)]; exact e5
    have s6 : Same H5 (upd H5 L1 (.lst (cutV (refs ps) none (some 3)))) := Same.new (Same.refl H5) hL1
    have f1 : upd H5 L1 (.lst (cutV (refs ps) none (some 3))) L1 = some (.lst (cutV (refs ps) none (some 3))) := upd_same
    generalize upd H5 L1 (.lst (cutV (refs ps) none (some 3))) = H6 at e6 s6 f1
    refine ⟨_, rfl, _, rfl, _, rfl, D1, _, rfl, SqL.of e6, fun L2 hL2 => ?_⟩
    have s7 : Same H6 (upd H6 L2 (.lst (cutV (refs ps) (some (-3)) none))) := Same.new (Same.refl H6) hL2
    have f2 : upd H6 L2 (.lst (cutV (refs ps) (some (-3)) none)) L2 = some (.lst (cutV (refs ps) (some (-3)) none)) := upd_same
    have f1' := s7 _ _ f1
    have hlen : (refs ps).length ≤ 2 * M + 1 := by rw [PL.len m5]; exact due_len u v M
    refine ⟨L1, L2, _, _, rfl, rfl, f1', f2, ?_, fun L3 hL3 => ?_⟩
    · have c1 := cutV_length (refs ps) none (some 3)
      have c2 := cutV_length (refs ps) (some (-3)) none
      exact Nat.le_trans (by omega : _ ≤ 1000) (by decide)
    have s8 : Same H6 (upd (upd H6 L2 (.lst (cutV (refs ps) (some (-3)) none))) L3 (.lst (cutV (refs ps) none (some 3) ++ cutV (refs ps) (some (-3)) none))) := Same.new s7 hL3
    have f3 : (upd (upd H6 L2 (.lst (cutV (refs ps) (some (-3)) none))) L3 (.lst (cutV (refs ps) none (some 3) ++ cutV (refs ps) (some (-3)) none))) L3 = some (.lst (cutV (refs ps) none (some 3) ++ cutV (refs ps) (some (-3)) none)) := upd_same
    generalize (upd (upd H6 L2 (.lst (cutV (refs ps) (some (-3)) none))) L3 (.lst (cutV (refs ps) none (some 3) ++ cutV (refs ps) (some (-3)) none))) = H8 at s8 f3
    have s58 : Same H5 H8 := s6.trans s8
    have q8 := q5.same s58
    refine ⟨L3, rfl, ⟨_, SqL.of f3⟩, for_list (K := K) (a := L3) (xs := cutV (refs ps) none (some 3) ++ cutV (refs ps) (some (-3)) none) (fun i σ H' => ∃ x6, σ = [some (.ref p), some (.str (S u)), some (.str (S v)), some (.int M), some (.ref D1), some (.int (r : Nat)), x6, none, none, none, none, none, none] ∧ Same H8 H')
      ⟨none, rfl, Same.refl H8⟩ (fun i σ H' _ ⟨_, _, e⟩ => SqL.of (e _ _ f3)) ?_ ?_⟩
    · rintro i x σ H9 hx ⟨x6, rfl, s9⟩
      obtain ⟨⟨pa, z⟩, hpz, rfl⟩ : ∃ pz ∈ ps, x = .ref pz.1 := mem_refs ((List.mem_append.mp (List.mem_of_getElem? hx)).elim mem_cutV mem_cutV)
      have e9 : H9 pa = some (tz z) := s9 _ _ (q8 _ hpz)
      have hz : z ∈ Lev.due u v M := by rw [← m5]; exact List.mem_map_of_mem hpz (f := (·.2))
      have beh := Lev.behind_stay h0 hz
      obtain ⟨z1, z2, _⟩ := due_small h0 hz
      obtain ⟨w1, w2⟩ := low_z z hz
      have shz := (fit_z (z := z) (by omega) (by omega) w1.lt w2.lt).sh (by decide) (by decide)
      have lzz := shaped_z (lz z hz)
      obtain ⟨x, y⟩ := z
      have one : x = [] ∨ y = [] := by
        obtain ⟨_, _, n, _, _, en⟩ := Lev.due_mem hz
        unfold Lev.num at en
        by_cases q : 0 < n
        · rw [if_pos q] at en; exact .inr (congrArg Prod.snd en)
        · rw [if_neg q] at en; exact .inl (congrArg Prod.fst en)
      have lag : ∀ {H' : Hp}, H' pa = some (tz (x, y)) → LagJ K H' (.ref pa) true := fun {H'} e => .inr (.inr ⟨pa, _, _, rfl, e, .inr (.inr ⟨x, y, rfl, rfl, w1, w2, (decide_eq_true one).symm⟩)⟩)
      have bx : Big x := Nat.le_trans z1 (Nat.le_trans hM (by decide))
      have by_ : Big y := Nat.le_trans z2 (Nat.le_trans hM (by decide))
      have br : ∀ {t : List Nat}, t.length ≤ 25 → Big (Lev.rounds r t) := fun {t} h => by
        unfold Big
        rw [Lev.rounds_len]
        exact Nat.le_trans (Nat.mul_le_mul (by omega : r ≤ 3) h) (by decide)
      refine ⟨_, rfl, _, rfl, _, rfl, _, _, rfl, rfl, mulOk_S (by omega) (by omega), ?_⟩
      rw [mul_S]
      refine ⟨_, rfl, _, rfl, _, _, rfl, rfl, mulOk_S (by omega) (by omega), ?_⟩
      rw [mul_S]
      refine ⟨_, _, _, true, true, true, rfl, lag e9, jd_low (low_rounds wu r), jd_low (low_rounds wv r), nn, fun _ => nn, fun _ _ => nn, fun _ _ _ => ⟨pa, x, y, _, _, rfl, e9, rfl, rfl, bx, by_, br hu, br hv, fun H10 s10 => ?_⟩⟩
      rw [show Lev.behind (x ++ Lev.rounds r u) (y ++ Lev.rounds r v) = some (x, y) from beh r]
      intro t ht
      have e10 : H10 pa = some (tz (x, y)) := s10 _ _ e9
      have t10 : upd H10 t (tz (x, y)) pa = some (tz (x, y)) := by rw [upd_ne (ne_of_none e10 ht)]; exact e10
      have s11 : Same H8 (upd H10 t (tz (x, y))) := Same.new (s9.trans s10) ht
      refine ⟨_, rfl, zD (x, y), zD (x, y), dp_z upd_same, dp_z t10, lzz, lzz, _, rfl, ?_⟩
      rw [eqv_z]
      refine iteF ?_
      change tTest _ _ (upd H10 t (tz (x, y))) _
      generalize upd H10 t (tz (x, y)) = H11 at t10 s11
      refine ⟨_, rfl, _, rfl, _, rfl, _, _, _, true, true, true, rfl, lag t10, jd_low wu, jd_low wv, nn, fun _ => nn, fun _ _ => nn, fun _ _ _ => ⟨pa, x, y, u, v, rfl, t10, rfl, rfl, bx, by_, Nat.le_trans hu (by decide), Nat.le_trans hv (by decide), fun H12 s12 => ?_⟩⟩
      have beh1 : Lev.behind (x ++ u) (y ++ v) = some (x, y) := by
        have := Lev.behind_stay h0 hz 1
        rw [Lev.rounds_one, Lev.rounds_one] at this
        exact this
      rw [beh1]
      intro t2 ht2
      have e12 := s12 _ _ t10
      have t12 : upd H12 t2 (tz (x, y)) pa = some (tz (x, y)) := by rw [upd_ne (ne_of_none e12 ht2)]; exact e12
      refine ⟨_, _, rfl, .inl (dp_z (z := (x, y)) upd_same), shz.1, shz.2.1, shz.2.2, _, rfl, _, _, rfl, .inl (dp_z t12), shz.1, shz.2.1, shz.2.2, rfl, _, rfl, neSame ?_⟩
      exact ⟨_, rfl, (s11.trans s12).trans (Same.new (Same.refl H12) ht2)⟩
    · rintro σ H9 ⟨x6, rfl, s9⟩
      have k9 : Kp p H H9 := k5.trans (Kp.of (s58.trans s9))
      have b9 : BoxAt H9 p (n + 11) := b5.same (s58.trans s9)
      refine ⟨_, rfl, _, rfl, _, rfl, _, rfl, sz (by omega), _, rfl, _, rfl, sz (by omega), _, _, rfl, rfl, ?_⟩
      refine ⟨_, _, .int ((u.length + v.length : Nat) : Int), true, true, true, by rw [S_len, S_len]; rfl, jd_low wu, jd_low wv, jc_nat, nn, fun _ => nn, fun _ _ => ⟨u, v, rfl, rfl, by omega, by omega, fun z => absurd z h0, fun _ => nn, fun _ _ => ⟨_, rfl, by omega, fun D7 H10 s10 p7 D70 => ?_⟩⟩⟩
      obtain ⟨N, eN⟩ : ∃ N, N = u.length + v.length := ⟨_, rfl⟩
      rw [← eN] at p7
      have tw : (Lev.due u v N ≠ []) ↔ ∃ s, s < u.length ∧ Lev.rot s u = v := by rw [eN]; exact Lev.due_turn h0
      have k10 : Kp p H H10 := k9.trans (Kp.of s10)
      have b10 : BoxAt H10 p (n + 11) := b9.same s10
      refine ⟨_, rfl, _, rfl, sz (by omega), _, rfl, by rw [S_len]; omega, by rw [S_len]; omega, fun D8 hD8 => ?_⟩
      rw [S_len, Int.toNat_natCast]
      refine lc_range (lo := 0) (n := u.length) (fun i H' => Same H10 H' ∧ H' D8 = some (.lst ((List.range i).map fun s => V.str (S (Lev.rot s u))))) ⟨Same.new (Same.refl H10) hD8, upd_same⟩ ?_ ?_
      · rintro i H11 hi ⟨s11, e11⟩
        refine ⟨rfl, tYesT ?_⟩
        rw [Int.zero_add]
        refine ⟨_, rfl, _, rfl, _, rfl, _, rfl, sz (by omega), _, rfl, _, rfl, _, rfl, _, rfl, sz (by omega), ?_⟩
        rw [cut_from, cut_to]
        refine ⟨_, _, rfl, rfl, by rw [S_len, S_len, List.length_drop, List.length_take]; exact Nat.le_trans (by omega : u.length - i + min i u.length ≤ 10000) (by decide), ?_⟩
        rw [S_app]
        refine ⟨_, e11, ?_, ?_, ?_⟩
        · rw [List.length_map, List.length_range]; exact Nat.lt_of_lt_of_le (by omega : i < 10000) (by decide)
        · intro b ob eb
          rw [upd_ne (ne_of_none eb hD8)]; exact s11 b ob eb
        · rw [upd_same, List.range_succ, List.map_append]; rfl
      · rintro H11 ⟨s11, e11⟩
        have k11 : Kp p H H11 := k10.trans (Kp.of s11)
        have b11 : BoxAt H11 p (n + 11) := b10.same s11
        have p11 := p7.same s11
        refine ⟨_, rfl, z0, fun t ht => ?_⟩
        have p12 := p11.same (Same.new (o := .lst []) (Same.refl H11) ht)
        refine ⟨_, .list [], p12.dp, Dp.lst (SqL.of upd_same) .nil, shaped_zs lz, by decide +kernel, ?_⟩
        have s12 : Same H11 (upd H11 t (.lst [])) := Same.new (Same.refl H11) ht
        generalize upd H11 t (.lst []) = H12 at p12 s12
        refine ⟨_, rfl, _, rfl, D8, _, rfl, .inl (SqL.of (s12 _ _ e11)), rfl, ?_, ?_⟩
        · rw [List.all_eq_true]
          intro x hx
          obtain ⟨k, _, rfl⟩ := List.mem_map.mp hx
          rfl
        have ein : inV (V.str (S v)) ((List.range u.length).map fun s => V.str (S (Lev.rot s u))) = (!PyData.eqv (zsD (Lev.due u v N)) (.list [])) := by
          have e1 : PyData.eqv (zsD (Lev.due u v N)) (.list []) = decide (Lev.due u v N = []) := by
            cases h : Lev.due u v N with
            | nil => simp [zsD, PyData.eqv, PyData.eqvAll]
            | cons z zs => simp [zsD, PyData.eqv, PyData.eqvAll]
          rw [e1]
          unfold inV
          rw [Bool.eq_iff_iff, List.any_eq_true]
          constructor
          · rintro ⟨x, hx, ex⟩
            obtain ⟨k, hk, rfl⟩ := List.mem_map.mp hx
            have ex : (S (Lev.rot k u) == S v) = true := ex
            have := tw.mpr ⟨k, List.mem_range.mp hk, S_inj (eq_of_beq ex)⟩
            simpa using this
          · intro h
            obtain ⟨k, hk, ek⟩ := tw.mp (by simpa using h)
            refine ⟨_, List.mem_map.mpr ⟨k, List.mem_range.mpr hk, rfl⟩, ?_⟩
            show (S (Lev.rot k u) == S v) = true
            rw [ek]; exact beq_self_eq_true _
        refine ⟨rfl, _, rfl, ?_⟩
        rw [show (if (false = true) then !inV (V.str (S v)) ((List.range u.length).map fun s => V.str (S (Lev.rot s u))) else inV (V.str (S v)) ((List.range u.length).map fun s => V.str (S (Lev.rot s u)))) = (!PyData.eqv (zsD (Lev.due u v N)) (.list [])) from ein]
        have nb : ∀ {x : V} {A B : Prop}, B → if (!decide (x = x)) = true then A else B := fun {x A B} h => by simp [h]
        refine nb ?_
        have k12 : Kp p H H12 := k11.trans (Kp.of s12)
        have b12 : BoxAt H12 p (n + 11) := b11.same s12
        obtain ⟨ps7, e7, m7, q7⟩ := p12
        refine ⟨_, rfl, D7, rfl, ⟨_, SqL.of e7⟩, fun D9 hD9 => ?_⟩
        refine lc_list (K := K) (a := D7) (xs := refs ps7) (fun i H' => Same H12 H' ∧ H' D9 = some (.lst (((ps7.take i).map fun p => nr p.2).map V.int))) ⟨Same.new (Same.refl H12) hD9, upd_same⟩ (fun i H' _ h => SqL.of (h.1 _ _ e7)) ?_ ?_
        · rintro i x H13 hx ⟨s13, e13⟩
          obtain ⟨pz, g1, rfl⟩ := refs_get hx
          have gz := map_get m7 g1
          obtain ⟨z1, z2, z3, z4⟩ := due_small h0 (List.mem_of_getElem? gz)
          have il : i < ps7.length := (List.getElem?_eq_some_iff.mp g1).1
          have il2 : ps7.length ≤ 2 * N + 1 := by
            have := due_len u v N
            rw [← m7, List.length_map] at this; exact this
          refine ⟨rfl, tYesT ⟨_, rfl, pz.1, pz.2, rfl, s13 _ _ (q7 pz (List.mem_of_getElem? g1)), by omega, by omega, _, e13, ?_, ?_, ?_⟩⟩
          · rw [List.length_map, List.length_map, List.length_take]; exact Nat.lt_of_le_of_lt (Nat.min_le_left _ _) (Nat.lt_of_lt_of_le (by omega : i < 10000) (by decide))
          · intro b ob eb
            rw [upd_ne (ne_of_none eb hD9)]; exact s13 b ob eb
          · rw [upd_same, List.take_add_one, g1, List.map_append, List.map_append]; rfl
        · rintro H13 ⟨s13, e13⟩
          have tk : ps7.take (refs ps7).length = ps7 := List.take_of_length_le (by unfold refs; rw [List.length_map]; exact Nat.le_refl _)
          rw [tk] at e13
          obtain ⟨m, c, ens⟩ := Lev.due_steps h0 N
          have ens' : (ps7.map fun p => nr p.2) = (List.range m).map fun (k : Nat) => c + k * (Lev.rho u : Int) := by
            rw [← ens, ← m7, List.map_map]; rfl
          rw [ens'] at e13
          have ml : m ≤ 2 * N + 1 := by
            have := due_len u v N
            have e := congrArg List.length ens
            rw [List.length_map, List.length_map, List.length_range] at e
            omega
          obtain ⟨xs, exs⟩ : ∃ xs, xs = ((List.range m).map fun (k : Nat) => c + k * (Lev.rho u : Int)).map V.int := ⟨_, rfl⟩
          have lxs : xs.length = m := by rw [exs, List.length_map, List.length_map, List.length_range]
          rw [← exs] at e13
          have gxs : ∀ k, k < m → xs[k]? = some (.int (c + k * (Lev.rho u : Int))) := fun k hk => by
            rw [exs, List.getElem?_map, List.getElem?_map, List.getElem?_range hk]; rfl
          have rl := Lev.rho_le u
          refine ⟨_, rfl, u, rfl, by omega, ?_⟩
          refine ⟨_, rfl, D9, _, rfl, .inl (SqL.of e13), _, _, rfl, rfl, _, rfl, by omega, by omega, fun D10 hD10 => ?_⟩
          rw [lxs]
          rw [show ((m : Int) - 1).toNat = m - 1 by omega]
          have repS : ∀ i, List.replicate (i + 1) (V.int ((Lev.rho u : Nat) : Int)) = List.replicate i (V.int ((Lev.rho u : Nat) : Int)) ++ [V.int ((Lev.rho u : Nat) : Int)] := fun i => List.replicate_succ'
          refine lc_range (lo := 0) (n := m - 1) (fun i H' => Same H13 H' ∧ H' D10 = some (.lst (List.replicate i (V.int ((Lev.rho u : Nat) : Int))))) ⟨Same.new (Same.refl H13) hD10, upd_same⟩ ?_ ?_
          · rintro i H14 hi ⟨s14, e14⟩
            rw [Int.zero_add]
            refine ⟨rfl, tYesT ?_⟩
            have hq : SqL K H14 D9 xs := SqL.of (s14 _ _ e13)
            refine ⟨_, rfl, _, rfl, _, _, rfl, rfl, D9, xs, ((i + 1 : Nat) : Int), _, rfl, rfl, hq, atI_nat (j := i + 1) (gxs (i + 1) (by omega)), _, rfl, _, rfl, D9, xs, _, _, rfl, rfl, hq, atI_nat (j := i) (gxs i (by omega)), _, _, rfl, rfl, _, e14, ?_, ?_, ?_⟩
            · rw [List.length_replicate]; exact Nat.lt_of_lt_of_le (by omega : i < 10000) (by decide)
            · intro b ob eb
              rw [upd_ne (ne_of_none eb hD10)]; exact s14 b ob eb
            · have e1 : (c + ((i + 1 : Nat) : Int) * (Lev.rho u : Int)) - (c + (i : Int) * (Lev.rho u : Int)) = ((Lev.rho u : Nat) : Int) := by
                rw [Int.natCast_add, Int.add_mul]
                omega
              rw [upd_same, repS]
              exact congrArg (fun x : Int => some (HO.lst (List.replicate i (V.int ((Lev.rho u : Nat) : Int)) ++ [V.int x]))) e1
          · rintro H14 ⟨s14, e14⟩
            refine ⟨_, rfl, by show 1 ≤ sizeLine; decide, fun t ht => ?_⟩
            have e15 : upd H14 t (.lst [V.int ((Lev.rho u : Nat) : Int)]) D9 = some (.lst xs) := by rw [upd_ne (ne_of_none (s14 _ _ e13) ht)]; exact s14 _ _ e13
            have e16 : upd H14 t (.lst [V.int ((Lev.rho u : Nat) : Int)]) D10 = some (.lst (List.replicate (m - 1) (V.int ((Lev.rho u : Nat) : Int)))) := by rw [upd_ne (ne_of_none e14 ht)]; exact e14
            have s15 : Same H13 (upd H14 t (.lst [V.int ((Lev.rho u : Nat) : Int)])) := Same.new s14 ht
            have et : upd H14 t (.lst [V.int ((Lev.rho u : Nat) : Int)]) t = some (.lst [V.int ((Lev.rho u : Nat) : Int)]) := upd_same
            generalize upd H14 t (.lst [V.int ((Lev.rho u : Nat) : Int)]) = H15 at e15 e16 s15 et
            refine ⟨_, rfl, D9, _, rfl, .inl (SqL.of e15), _, _, rfl, rfl, _, _, rfl, ?_⟩
            rw [lxs]
            have em : (if (m : Int) - 1 > 0 then (m : Int) - 1 else 0) = ((m - 1 : Nat) : Int) := by split <;> omega
            rw [em]
            refine ⟨t, _, _, rfl, rfl, et, by omega, by omega, ?_, fun t2 ht2 => ?_⟩
            · rw [Int.toNat_natCast]
              exact Nat.le_trans (by simp; omega : _ ≤ 10000) (by decide)
            rw [Int.toNat_natCast]
            have fl : (List.replicate (m - 1) [V.int ((Lev.rho u : Nat) : Int)]).flatten = List.replicate (m - 1) (V.int ((Lev.rho u : Nat) : Int)) := by
              simp
            rw [fl]
            have dv : ∀ {H' : Hp} {D' : Addr}, H' D' = some (.lst (List.replicate (m - 1) (V.int ((Lev.rho u : Nat) : Int)))) → Dp K H' (.ref D') (.list (natsD (List.replicate (m - 1) (Lev.rho u)))) := fun {H' D'} e => by
              have := dp_nats (K := K) (H := H') (List.replicate (m - 1) (Lev.rho u))
              rw [List.map_replicate] at this
              exact Dp.lst (SqL.of e) this
            refine ⟨_, _, dv (by rw [upd_ne (ne_of_none e16 ht2)]; exact e16), dv upd_same, shaped_nats _, shaped_nats _, ?_⟩
            rw [eqv_nats]
            have sF : Same H12 (upd H15 t2 (.lst (List.replicate (m - 1) (V.int ((Lev.rho u : Nat) : Int))))) := Same.new (s13.trans s15) ht2
            exact q _ (k12.trans (Kp.of sF)) ((b12.same sF).mono (by omega))
end
end My

set_option Elab.async false
set_option linter.all false
set_option maxRecDepth 100000
set_option maxHeartbeats 8000000
namespace Lev
theorem rounds_rep (a : Nat) : ∀ k, rounds k [a] = List.replicate k a
  | 0 => rfl
  | k + 1 => by
    show [a] ++ rounds k [a] = _
    rw [rounds_rep a k]; rfl
theorem head_rep (a m : Nat) : head m [a] = List.replicate m a := by
  unfold head
  rw [rounds_rep, List.take_replicate]
  congr 1
  show min m (m / 1 + 1) = m
  rw [Nat.div_one]; omega
def wideL (a M : Nat) : List (List Nat × List Nat) := (List.range M).map fun k => ([], rounds (M - k) [a])
def wideR (a M : Nat) : List (List Nat × List Nat) := (List.range M).map fun k => (rounds k [a], [])
theorem due_wide (a M : Nat) : due [a] [a] M = wideL a M ++ wideR a (M + 1) := by
  have P : Pr [a] [a] 0 := Pr.zero _
  have r1 : rho [a] = 1 := by
    obtain ⟨h1, h2, _⟩ := rho_spec (v := [a]) (by simp)
    have : [a].length = 1 := rfl
    omega
  have l0 : least [a] 0 M = 0 := by
    obtain ⟨h1, _⟩ := least_lt (u := [a]) (by simp) 0 M
    rw [r1] at h1; omega
  rw [due_of (by simp) rfl P, r1, l0]
  rw [show (2 * M + 1 + 1 - 1 - 0) / 1 = M + (M + 1) by rw [Nat.div_one]; omega, List.range_add, List.map_append, List.map_map]
  unfold wideL wideR
  congr 1
  · apply List.map_congr_left
    intro k hk
    have hk := List.mem_range.mp hk
    unfold num
    rw [if_neg (by simp; omega), rounds_rep, head_rep]
    congr 2
    simp; omega
  · apply List.map_congr_left
    intro k hk
    have hk := List.mem_range.mp hk
    show num [a] [a] (((0 : Nat) : Int) - (M : Int) + ((M + k : Nat) : Int) * ((1 : Nat) : Int)) = _
    rw [show (((0 : Nat) : Int) - (M : Int) + ((M + k : Nat) : Int) * ((1 : Nat) : Int)) = (k : Int) by simp; omega]
    unfold num
    rw [rounds_rep, head_rep, head_rep]
    by_cases h : k = 0
    · subst h; rfl
    · rw [if_pos (by omega)]
      simp
end Lev
namespace My
open PySem PySem.Spec PyProof.Rows L2
section
variable {P : Program} {w : World} {K : PySem.W.Frag} {mg : Str → Option Value} {base : Heap}
def wideLi (a M i : Nat) : List Lag := (List.range i).map fun k => ([], Lev.rounds (M - k) [a])
def spWide : Sp := fun vs H Q _ => ∃ (p : Addr) (n a : Nat), vs = [.ref p, .str (S [a])] ∧ BoxAt H p n ∧ n < 10000000 ∧ low a = true ∧ ∀ H', Kp p H H' → BoxAt H' p (n + 10) → Q (.bl true) H'
theorem ok_law_wide_right (T : Txt K mg) : FnOk P w K mg base CX0 5 T.f_law_wide_right T.fd_law_wide_right ["box", "letter"] spWide := by
  refine T.F_law_wide_right.ok sc_law_wide_right (fun vs H Q E h => ?_) (fun cdv A outer s H vs Q E hr h => ?_)
  · obtain ⟨p, n, a, rfl, _⟩ := h; rfl
  · obtain ⟨p, n, a, rfl, hb, hn, la, q⟩ := h
    refine ⟨_, (pss_cons (ps_set (i := 2) sc_law_wide_right.nd rfl (Or.inr rfl) (pe_ix ix_list (pe_lst (pa_cons pe_int (pa_cons (pe_call (ok_law_take T) (hr.mono (by decide)) rfl T.g_law_take T.F_law_take.kp T.b_law_take .nil pass0 (pa_cons (pv 0) (pa_cons pe_int pa_nil))) pa_nil))) (pe_call (ok_law_take T) (hr.mono (by decide)) rfl T.g_law_take T.F_law_take.kp T.b_law_take .nil pass0 (pa_cons (pv 0) (pa_cons pe_int pa_nil))) (fun _ _ => rfl)))
      (pss_cons (ps_set (i := 3) sc_law_wide_right.nd rfl (Or.inl rfl) (pe_op op_cat (pe_lc (own := [("k", 4)]) (g := gName 4) (by rfl) sc_law_wide_right.nd (pi_range1 rfl T.z_range (pa_cons (pv 2) pa_nil)) (blkOk_by (own := [("k", 4)]) (N := N_law_wide_right) (sc := defScope s_law_wide_right) (by decide +kernel)) (fun _ _ _ _ _ => pg_name (i := 4) sc_law_wide_right.nd rfl (Or.inl rfl)) (fun _ _ _ _ _ => pts_nil) (fun _ _ _ _ _ => (pe_tup (pa_cons pe_str (pa_cons (pe_op op_mul_str (pv 1) (pe_op op_sub (pv 2) (pv 4))) pa_nil))))) (pe_lc (own := [("k", 4)]) (g := gName 4) (by rfl) sc_law_wide_right.nd (pi_range1 rfl T.z_range (pa_cons (pe_op op_add (pv 2) pe_int) pa_nil)) (blkOk_by (own := [("k", 4)]) (N := N_law_wide_right) (sc := defScope s_law_wide_right) (by decide +kernel)) (fun _ _ _ _ _ => pg_name (i := 4) sc_law_wide_right.nd rfl (Or.inl rfl)) (fun _ _ _ _ _ => pts_nil) (fun _ _ _ _ _ => (pe_tup (pa_cons (pe_op op_mul_str (pv 1) (pv 4)) (pa_cons pe_str pa_nil)))))))
      (pss_one (ps_ret (pe_cmpR (op_eqD (un64 hr)) (pe_call (ok_staying T) (hr.mono (by decide)) rfl T.g_staying T.F_staying.kp T.b_staying .nil passL (pa_cons (pv 1) (pa_cons (pv 1) (pa_cons (pv 2) pa_nil)))) (pv 3) (nomark _)))))), ?_⟩
    have nn : ∀ {A : Prop}, (true = false) → A := fun z => by cases z
    have wa : Low [a] := Low.one la
    have two : 2 ≤ sizeLine := by decide
    refine ⟨_, rfl, p, n, 401, rfl, hb, by omega, by omega, by omega, fun d o hd ho => ?_⟩
    refine ⟨two, fun t ht => ⟨_, rfl, p, _, 2, rfl, (ho.at (H := H)).new ht, by omega, by omega, by omega, fun d2 o2 hd2 ho2 => ?_⟩⟩
    have npt : p ≠ t := (ho.at (H := H)).ne ht
    have k1 : Kp p H (upd (upd (upd H p o) t (.lst [V.int 400, .int (d : Nat)])) p o2) := (((Kp.refl p H).upd).new ht).upd
    have b1 : BoxAt (upd (upd (upd H p o) t (.lst [V.int 400, .int (d : Nat)])) p o2) p (n + 2) := ho2.at
    have e1 : upd (upd (upd H p o) t (.lst [V.int 400, .int (d : Nat)])) p o2 t = some (.lst [V.int 400, .int (d : Nat)]) := by rw [upd_ne npt.symm]; exact upd_same
    obtain ⟨M, eM, hM⟩ : ∃ M : Nat, [V.int 400, .int (d : Nat)][d2]? = some (.int (M : Nat)) ∧ M ≤ 400 := by
      match d2, hd2 with
      | 0, _ => exact ⟨400, rfl, by omega⟩
      | 1, _ => exact ⟨d, rfl, by omega⟩
      | d2 + 2, h => exact absurd h (by omega)
    refine ⟨t, _, _, _, rfl, rfl, SqL.of e1, atI_nat (j := d2) eM, ?_⟩
    generalize upd (upd (upd H p o) t (.lst [V.int 400, .int (d : Nat)])) p o2 = H1 at k1 b1
    refine ⟨_, rfl, _, rfl, by omega, by omega, fun D1 hD1 => ?_⟩
    rw [Int.toNat_natCast]
    have mulr : ∀ {k : Nat}, k ≤ 900 → MulOk (S [a]) ((k : Nat) : Int) := fun {k} h => mulOk_S (by simp) (by omega)
    have WLS : ∀ i, i < M → wideLi a M (i + 1) = wideLi a M i ++ [([], Lev.rounds (M - i) [a])] := fun i _ => by
      unfold wideLi; rw [List.range_succ, List.map_append]; rfl
    refine lc_range (lo := 0) (n := M) (fun i H' => Same H1 H' ∧ PL H' D1 (wideLi a M i)) ⟨Same.new (Same.refl H1) hD1, [], upd_same, rfl, fun p hp => by cases hp⟩ ?_ ?_
    · rintro i H4 hi ⟨s4, ps, e4, m4, k4⟩
      rw [Int.zero_add]
      refine ⟨rfl, tYesT ⟨_, rfl, _, rfl, _, rfl, _, _, rfl, rfl, _, ((M - i : Nat) : Int), rfl, congrArg V.int (by omega : (M : Int) - (i : Int) = ((M - i : Nat) : Int)), mulr (by omega), ?_⟩⟩
      rw [mul_S]
      refine ⟨two, fun r hr1 => ?_⟩
      have nD : D1 ≠ r := fun z => by rw [← z, e4] at hr1; cases hr1
      refine ⟨_, by rw [upd_ne nD]; exact e4, ?_, ?_, ?_⟩
      · rw [PL.len m4]; unfold wideLi; rw [List.length_map, List.length_range]; exact Nat.lt_of_lt_of_le (by omega : i < 10000) (by decide)
      · intro b ob eb
        rw [upd_ne (ne_of_none eb hD1), upd_ne (ne_of_none (s4 b ob eb) hr1)]; exact s4 b ob eb
      · rw [WLS i hi]
        exact PL.snoc (z := ([], Lev.rounds (M - i) [a])) e4 m4 k4 hr1
    rintro H4 ⟨s4, p4⟩
    refine ⟨_, rfl, _, _, rfl, rfl, _, rfl, by omega, by omega, fun D2 hD2 => ?_⟩
    rw [show ((M : Int) + 1).toNat = M + 1 by omega]
    refine lc_range (lo := 0) (n := M + 1) (fun i H' => Same H4 H' ∧ PL H' D2 (Lev.wideR a i)) ⟨Same.new (Same.refl H4) hD2, [], upd_same, rfl, fun p hp => by cases hp⟩ ?_ ?_
    · rintro i H5 hi ⟨s5, ps, e5, m5, k5⟩
      rw [Int.zero_add]
      refine ⟨rfl, tYesT ⟨_, rfl, _, rfl, _, _, rfl, rfl, mulr (by omega), ?_⟩⟩
      rw [mul_S]
      refine ⟨two, fun r hr1 => ?_⟩
      have nD : D2 ≠ r := fun z => by rw [← z, e5] at hr1; cases hr1
      refine ⟨_, by rw [upd_ne nD]; exact e5, ?_, ?_, ?_⟩
      · rw [PL.len m5]; unfold Lev.wideR; rw [List.length_map, List.length_range]; exact Nat.lt_of_lt_of_le (by omega : i < 10000) (by decide)
      · intro b ob eb
        rw [upd_ne (ne_of_none eb hD2), upd_ne (ne_of_none (s5 b ob eb) hr1)]; exact s5 b ob eb
      · rw [show Lev.wideR a (i + 1) = Lev.wideR a i ++ [(Lev.rounds i [a], [])] by unfold Lev.wideR; rw [List.range_succ, List.map_append]; rfl]
        exact PL.snoc (z := (Lev.rounds i [a], [])) e5 m5 k5 hr1
    rintro H5 ⟨s5, p5⟩
    obtain ⟨ps4, e4, m4, q4⟩ := p4.same s5
    obtain ⟨ps5, e5, m5, q5⟩ := p5
    refine ⟨D1, D2, _, _, rfl, rfl, e4, e5, ?_, fun D3 hD3 => ?_⟩
    · rw [PL.len m4, PL.len m5]
      unfold wideLi Lev.wideR
      rw [List.length_map, List.length_range, List.length_map, List.length_range]
      exact Nat.le_trans (by omega : _ ≤ 10000) (by decide)
    have p6 : PL (upd H5 D3 (.lst (refs ps4 ++ refs ps5))) D3 (Lev.due [a] [a] M) := by
      refine ⟨ps4 ++ ps5, ?_, ?_, ?_⟩
      · rw [upd_same]; unfold refs; rw [List.map_append]
      · rw [List.map_append, m4, m5, Lev.due_wide]; rfl
      · intro pz hpz
        have e : H5 pz.1 = some (tz pz.2) := (List.mem_append.mp hpz).elim (q4 pz) (q5 pz)
        rw [upd_ne (ne_of_none e hD3)]; exact e
    have s6 : Same H1 (upd H5 D3 (.lst (refs ps4 ++ refs ps5))) := Same.new (s4.trans s5) hD3
    generalize upd H5 D3 (.lst (refs ps4 ++ refs ps5)) = H6 at p6 s6
    have h0 : ¬ ([a] = [] ∧ [a] = []) := fun z => by cases z.1
    have lz : ∀ z ∈ Lev.due [a] [a] M, (zD z).canLay0 = true := fun z hz => by
      obtain ⟨u0, v0⟩ := Lev.due_ne h0 hz
      obtain ⟨e, _, n, n1, n2, e2⟩ := Lev.due_mem hz
      obtain ⟨m1, m2⟩ := Lev.num_mem u0 v0 n
      rw [← e2] at m1 m2
      exact ly_z (fun c hc => wa.lt c (m1 c hc)) (fun c hc => wa.lt c (m2 c hc))
    refine ⟨_, rfl, _, rfl, _, rfl, _, _, _, true, true, true, rfl, jd_low wa, jd_low wa, jc_nat, nn, fun _ => nn, fun _ _ => ⟨[a], [a], rfl, rfl, by simp, by simp, fun z => absurd z h0, fun _ => nn, fun _ _ => ⟨M, rfl, by omega, fun D7 H7 s7 p7 D70 => ?_⟩⟩⟩
    refine ⟨_, rfl, _, _, p7.dp, (p6.same s7).dp, shaped_zs lz, shaped_zs lz, ?_⟩
    rw [eqv_zs]
    exact q H7 (k1.trans (Kp.of (s6.trans s7))) ((b1.same (s6.trans s7)).mono (by omega))
end
end My

set_option Elab.async false
set_option linter.all false
set_option maxRecDepth 100000
set_option maxHeartbeats 8000000
namespace My
open PySem PySem.Spec PyProof.Rows L2
/-! ### what is no text, what is no count -/
def Od (H : Hp) (x : V) : Prop :=
  (∃ z : List Nat, x = .str (S z) ∧ isT (S z) = false ∧ z.length ≤ 30 ∧ ∀ c ∈ z, c < 200) ∨ x = .non ∨ x = .int 0 ∨
  (∃ a t, x = .ref a ∧ H a = some (.lst [.str (S t)]) ∧ t.length ≤ 30 ∧ Low t) ∨ ∃ a t, x = .ref a ∧ H a = some (.tup [.str (S []), .str (S t)]) ∧ t.length ≤ 30 ∧ Low t
def On (H : Hp) (x : V) : Prop := (∃ k : Nat, x = .int (-((k : Int) + 1)) ∧ k < 1000) ∨ x = .bl true ∨ x = .non ∨ x = .str (S [51]) ∨ ∃ a, x = .ref a ∧ H a = some (.lst [.int 3])
theorem isT_end {t : List Nat} {c : Nat} (h : low c = false) : isT (S (t ++ [c])) = false := by
  unfold isT
  rw [S_tl]
  simp [h]
theorem isT_front {t : List Nat} {c : Nat} (h : low c = false) : isT (S (c :: t)) = false := by
  unfold isT
  rw [S_tl]
  simp [h]
theorem Od.dv {K : PySem.W.Frag} {H : Hp} {x : V} (h : Od H x) : ∃ d, Dp K H x d ∧ Fit d 1 100 := by
  rcases h with ⟨z, rfl, hz, bz, hc⟩ | rfl | rfl | ⟨a, t, rfl, ea, bt, lt⟩ | ⟨a, t, rfl, ea, bt, lt⟩
  · exact ⟨_, .str _, Fit.str (by omega) hc⟩
  · exact ⟨_, .non, Fit.none.mono (Nat.le_refl _) (by omega)⟩
  · exact ⟨_, .int _, (Fit.nat (r := 0) (k := 1) (by omega)).mono (Nat.le_refl _) (by omega)⟩
  · exact ⟨_, .lst (SqL.of ea) (.cons (.str _) .nil), (Fit.list (FitAll.cons (Fit.str (k := 0) bt lt.lt) FitAll.nil)).mono (Nat.le_refl _) (by omega)⟩
  · exact ⟨_, .tup (SqT.of ea) (.cons (.str _) (.cons (.str _) .nil)), (Fit.tuple (FitAll.cons (Fit.str (k := 0) (w := 0) (z := []) (by simp) fun c hc => by cases hc) (FitAll.cons (Fit.str (k := 0) bt lt.lt) FitAll.nil))).mono (Nat.le_refl _) (by omega)⟩
theorem Od.jd {K : PySem.W.Frag} {H : Hp} {x : V} (h : Od H x) : Jd K H x false := by
  rcases h with ⟨z, rfl, hz, bz, hc⟩ | rfl | rfl | ⟨a, t, rfl, ea, bt, lt⟩ | ⟨a, t, rfl, ea, bt, lt⟩
  · exact .inl ⟨_, rfl, hz.symm⟩
  · exact .inr ⟨"NoneType", .base .non, by decide +kernel, rfl⟩
  · exact .inr ⟨"int", .base (.int _), by decide +kernel, rfl⟩
  · exact .inr ⟨"list", .base (.lst ea), by decide +kernel, rfl⟩
  · exact .inr ⟨"tuple", .base (.tup ea), by decide +kernel, rfl⟩
theorem BoxAt.go {H H' : Hp} {p a : Addr} {n : Nat} {o : HO} (b : BoxAt H p n) (k : Kp p H H') (e : H a = some o) (ne : ∀ u v w z, o ≠ .lst [u, v, w, z]) : H' a = some o := by
  obtain ⟨ob, ho, a', m, c, b', eo, _⟩ := b
  subst eo
  refine k _ _ ?_ e
  rintro rfl
  rw [ho] at e
  exact ne _ _ _ _ (Option.some.inj e).symm
theorem Od.kp {p : Addr} {n : Nat} {H H' : Hp} {x : V} (h : Od H x) (b : BoxAt H p n) (k : Kp p H H') : Od H' x := by
  rcases h with h | h | h | ⟨a, t, e, ea, r⟩ | ⟨a, t, e, ea, r⟩
  · exact .inl h
  · exact .inr (.inl h)
  · exact .inr (.inr (.inl h))
  · exact .inr (.inr (.inr (.inl ⟨a, t, e, b.go k ea (fun _ _ _ _ z => by cases z), r⟩)))
  · exact .inr (.inr (.inr (.inr ⟨a, t, e, b.go k ea (fun _ _ _ _ z => by cases z), r⟩)))
theorem On.kp {p : Addr} {n : Nat} {H H' : Hp} {x : V} (h : On H x) (b : BoxAt H p n) (k : Kp p H H') : On H' x := by
  rcases h with h | h | h | h | ⟨a, e, ea⟩
  · exact .inl h
  · exact .inr (.inl h)
  · exact .inr (.inr (.inl h))
  · exact .inr (.inr (.inr (.inl h)))
  · exact .inr (.inr (.inr (.inr ⟨a, e, b.go k ea (fun _ _ _ _ z => by cases z)⟩)))
theorem On.jc {K : PySem.W.Frag} {H : Hp} {x : V} (h : On H x) : Jc K H x false := by
  rcases h with ⟨k, rfl, hk⟩ | rfl | rfl | rfl | ⟨a, rfl, ea⟩
  · exact .inl ⟨_, rfl, (decide_eq_false (by omega)).symm⟩
  · exact .inr (.inl ⟨_, rfl, rfl⟩)
  · exact .inr (.inr ⟨"NoneType", .base .non, by decide +kernel, rfl⟩)
  · exact .inr (.inr ⟨"str", .base (.str _), by decide +kernel, rfl⟩)
  · exact .inr (.inr ⟨"list", .base (.lst ea), by decide +kernel, rfl⟩)
theorem fit_neg {k : Nat} (hk : k < 1000) : Fit (.int (-((k : Int) + 1))) 1 100 := by
  have hn : (-((k : Int) + 1)).natAbs = k + 1 := by omega
  have lg : (-((k : Int) + 1)).natAbs.log2 < 20 := by rw [hn]; exact log2_20 (by omega)
  refine ⟨?_, ?_, ?_, ?_⟩
  · simp only [PyData.showable, decide_eq_true_eq]
    exact Nat.lt_trans lg (by decide)
  · unfold PyData.depth; omega
  · have e := int_text_length_le (a := -((k : Int) + 1)) (k := 20) (by decide) lg
    have e2 : (PyData.int (-((k : Int) + 1))).shown = Str.ofString (toString (-((k : Int) + 1))) := by simp only [PyData.shown]
    unfold PyData.leavesShort
    refine decide_eq_true ?_
    rw [e2, PySem.ofString_length]
    omega
  · simp only [PyData.weight]
    split <;> omega
section
variable {P : Program} {w : World} {K : PySem.W.Frag} {mg : Str → Option Value} {base : Heap}
def spBadT : Sp := fun vs H Q _ => ∃ (p l : Addr) (n a b : Nat), vs = [.ref p, .ref l] ∧ BoxAt H p n ∧ n < 1000000 ∧ Let2 H l a b ∧ l ≠ p ∧ ∀ x H', Od H' x → Kp p H H' → BoxAt H' p (n + 10) → Q x H'
theorem ok_law_bad_text (T : Txt K mg) : FnOk P w K mg base CX0 3 T.f_law_bad_text T.fd_law_bad_text ["box", "letters"] spBadT := by
  refine T.F_law_bad_text.ok sc_law_bad_text (fun vs H Q E h => ?_) (fun cdv A outer s H vs Q E hr h => ?_)
  · obtain ⟨p, l, n, _, _, rfl, _⟩ := h; rfl
  · obtain ⟨p, l, n, a, b, rfl, hb, hn, hl, npl, q⟩ := h
    refine ⟨_, (pss_cons (ps_par (i := 2) (j := 3) (by rfl) sc_law_bad_text.nd rfl rfl (by decide) rfl rfl (pa_cons (pe_call (ok_law_take T) (hr.mono (by decide)) rfl T.g_law_take T.F_law_take.kp T.b_law_take .nil pass0 (pa_cons (pv 0) (pa_cons pe_int pa_nil))) (pa_cons (pe_call (ok_law_word T) (hr.mono (by decide)) rfl T.g_law_word T.F_law_word.kp T.b_law_word .nil pass0 (pa_cons (pv 0) (pa_cons (pv 1) (pa_cons (pe_call (ok_law_take T) (hr.mono (by decide)) rfl T.g_law_take T.F_law_take.kp T.b_law_take .nil pass0 (pa_cons (pv 0) (pa_cons pe_int pa_nil))) pa_nil)))) pa_nil)) (by rfl))
      (pss_cons (ps_if (pt_cmpR op_lt (pv 2) pe_int (nomark _)) (pss_one (ps_ret (pe_op op_add_str (pe_ix ix_list (pe_lst (pa_cons pe_str (pa_cons pe_str (pa_cons pe_str (pa_cons pe_str pa_nil))))) (pv 2) (fun _ _ => rfl)) (pv 3)))) pss_nil)
      (pss_one (ps_ret (pe_ix ix_list (pe_lst (pa_cons (pe_op op_add_str (pv 3) pe_str) (pa_cons (pe_lst (pa_cons (pv 3) pa_nil)) (pa_cons (pe_tup (pa_cons pe_str (pa_cons (pv 3) pa_nil))) (pa_cons pe_non (pa_cons pe_int pa_nil)))))) (pe_op op_sub (pv 2) pe_int) (fun _ _ => rfl)))))), ?_⟩
    refine ⟨_, rfl, p, n, 9, rfl, hb, by omega, by omega, by omega, fun way o hway ho => ?_⟩
    have k1 : Kp p H (upd H p o) := (Kp.refl p H).upd
    refine ⟨_, rfl, _, rfl, _, rfl, p, _, 4, rfl, ho.at, by omega, by omega, by omega, fun m o2 hm ho2 => ?_⟩
    have k2 : Kp p H (upd (upd H p o) p o2) := k1.upd
    refine ⟨p, l, _, m, a, b, rfl, ho2.at, by omega, hl.kp k2 npl, npl, by omega, fun t H3 wt lt k3 b3 => ⟨_, _, rfl, ?_⟩⟩
    have k3' := k2.trans k3
    have lo : Low t := wt.low hl.2.1 hl.2.2
    have b4 : BoxAt H3 p (n + 10) := b3.mono (by omega)
    refine ⟨_, rfl, _, _, rfl, rfl, _, rfl, ite2 (fun c => ?_) (fun c => ?_)⟩
    · have c' : (way : Int) < 4 := of_decide_eq_true c
      refine ⟨(by show 4 ≤ sizeLine; decide), fun q1 hq1 => ?_⟩
      obtain ⟨ch, hch, ech⟩ : ∃ ch : Nat, (low ch = false ∧ ch < 200) ∧ [V.str (Str.ofString "Z"), .str (Str.ofString "9"), .str (Str.ofString "{"), .str (Str.ofString "-")][way]? = some (.str (S [ch])) := by
        have h6 : way < 4 := by omega
        match way, h6 with
        | 0, _ => exact ⟨90, by decide, rfl⟩
        | 1, _ => exact ⟨57, by decide, rfl⟩
        | 2, _ => exact ⟨123, by decide, rfl⟩
        | 3, _ => exact ⟨45, by decide, rfl⟩
      refine ⟨_, rfl, q1, _, _, _, rfl, rfl, SqL.of upd_same, atI_nat (j := way) ech, ?_⟩
      refine ⟨_, rfl, _, _, rfl, rfl, ?_, ?_⟩
      · rw [S_len, S_len]
        exact Nat.le_trans (by simp; omega : [ch].length + t.length ≤ 10000) (by decide)
      rw [S_app]
      refine q _ _ (.inl ⟨_, rfl, isT_front hch.1, ?_, ?_⟩) (k3'.new hq1) (b4.new hq1)
      · show (ch :: t).length ≤ 30
        rw [List.length_cons]; omega
      · intro x hx
        rcases List.mem_cons.mp hx with hx | hx
        · rw [hx]; exact hch.2
        · exact lo.lt x hx
    · have c' : ¬ (way : Int) < 4 := fun z => c (decide_eq_true z)
      refine ⟨_, rfl, _, _, rfl, rfl, ?_, ?_⟩
      · rw [S_len]; exact Nat.le_trans (by show t.length + 1 ≤ 10000; omega) (by decide)
      rw [show S t ++ Str.ofString "\n" = S (t ++ [10]) from S_app t [10]]
      refine ⟨_, rfl, (by show 1 ≤ sizeLine; decide), fun q1 hq1 => ?_⟩
      refine ⟨_, rfl, (by show 2 ≤ sizeLine; decide), fun q2 hq2 => ?_⟩
      refine ⟨(by show 5 ≤ sizeLine; decide), fun q3 hq3 => ?_⟩
      obtain ⟨H6, e6⟩ : ∃ H6, H6 = upd (upd (upd H3 q1 (.lst [.str (S t)])) q2 (.tup [.str (S []), .str (S t)])) q3 (.lst [.str (S (t ++ [10])), .ref q1, .ref q2, .non, .int 0]) := ⟨_, rfl⟩
      have n12 : q1 ≠ q2 := ne_of_none upd_same hq2
      have n23 : q2 ≠ q3 := ne_of_none upd_same hq3
      have n13 : q1 ≠ q3 := ne_of_none (by rw [upd_ne n12]; exact upd_same) hq3
      have b5 : BoxAt H6 p (n + 10) := by rw [e6]; exact ((b4.new hq1).new hq2).new hq3
      have k5 : Kp p H H6 := by rw [e6]; exact ((k3'.new hq1).new hq2).new hq3
      have e1 : H6 q1 = some (.lst [.str (S t)]) := by rw [e6, upd_ne n13, upd_ne n12]; exact upd_same
      have e2 : H6 q2 = some (.tup [.str (S []), .str (S t)]) := by rw [e6, upd_ne n23]; exact upd_same
      have e3 : H6 q3 = some (.lst [.str (S (t ++ [10])), .ref q1, .ref q2, .non, .int 0]) := by rw [e6]; exact upd_same
      obtain ⟨x, ox, ex⟩ : ∃ x, Od H6 x ∧ [V.str (S (t ++ [10])), V.ref q1, .ref q2, .non, .int 0][way - 4]? = some x := by
        have h6 : way - 4 < 5 := by omega
        generalize way - 4 = m at h6
        match m, h6 with
        | 0, _ => exact ⟨_, .inl ⟨_, rfl, isT_end (by decide), by rw [List.length_append, List.length_singleton]; omega, fun c hc => (List.mem_append.mp hc).elim (lo.lt c) fun z => by rw [List.mem_singleton.mp z]; omega⟩, rfl⟩
        | 1, _ => exact ⟨_, .inr (.inr (.inr (.inl ⟨q1, t, rfl, e1, by omega, lo⟩))), rfl⟩
        | 2, _ => exact ⟨_, .inr (.inr (.inr (.inr ⟨q2, t, rfl, e2, by omega, lo⟩))), rfl⟩
        | 3, _ => exact ⟨_, .inr (.inl rfl), rfl⟩
        | 4, _ => exact ⟨_, .inr (.inr (.inl rfl)), rfl⟩
      subst e6
      exact ⟨_, rfl, _, _, rfl, rfl, q3, _, ((way - 4 : Nat) : Int), _, rfl, congrArg V.int (by omega : (way : Int) - 4 = ((way - 4 : Nat) : Int)), SqL.of e3, atI_nat (j := way - 4) ex, q x _ ox k5 b5⟩
end
end My

set_option Elab.async false
set_option linter.all false
set_option maxRecDepth 100000
set_option maxHeartbeats 8000000
namespace My
open PySem PySem.Spec PyProof.Rows L2
/-! ### copies -/
def Sc (v : V) : Prop := (∃ t, v = .str (S t) ∧ t.length ≤ 30 ∧ Low t) ∨ v = .int 3
def Pl (K : PySem.W.Frag) (H : Hp) (x : V) : Prop := ∃ ty d, kitB ty "list" = some false ∧ Sh d ∧ TyX K H x (.type ty) ∧ Ds K H x d
def Ls (H : Hp) (x : V) : Prop := ∃ a v, x = .ref a ∧ H a = some (.lst [v]) ∧ Sc v
theorem Pl.same {K : PySem.W.Frag} {H H' : Hp} {x : V} (h : Pl K H x) (s : Same H H') : Pl K H' x := by
  obtain ⟨ty, d, k, sh, t, r⟩ := h
  exact ⟨ty, d, k, sh, tyX_same t s, Ds.same s r⟩
theorem Ls.same {H H' : Hp} {x : V} (h : Ls H x) (s : Same H H') : Ls H' x := by
  obtain ⟨a, v, e, ea, r⟩ := h
  exact ⟨a, v, e, s _ _ ea, r⟩
/-- a bad value: shown and no list, or a list of one -/
def Ot (K : PySem.W.Frag) (J : Hp → V → Prop) (H : Hp) (x : V) : Prop := (Pl K H x ∧ J H x ∧ ∀ a, x = .ref a → ∃ o, H a = some o ∧ ∀ xs, o ≠ .lst xs) ∨ Ls H x
abbrev JD (K : PySem.W.Frag) : Hp → V → Prop := fun H x => Jd K H x false
abbrev JN (K : PySem.W.Frag) : Hp → V → Prop := fun H x => Jc K H x false
abbrev JA (K : PySem.W.Frag) : Hp → V → Prop := fun H x => ∃ b, Jc K H x b
def MonJ (K : PySem.W.Frag) (J : Hp → V → Prop) : Prop := (∀ {H H' : Hp} {x : V}, J H x → Same H H' → J H' x) ∧ ∀ {H : Hp} {a : Addr} {vs : List V}, H a = some (.lst vs) → J H (.ref a)
theorem mon_JD {K : PySem.W.Frag} : MonJ K (JD K) := ⟨fun h s => Jd.same h s, fun ea => .inr ⟨"list", .base (.lst ea), by decide +kernel, rfl⟩⟩
theorem mon_JN {K : PySem.W.Frag} : MonJ K (JN K) := ⟨fun h s => Jc.same h s, fun ea => .inr (.inr ⟨"list", .base (.lst ea), by decide +kernel, rfl⟩)⟩
theorem mon_JA {K : PySem.W.Frag} : MonJ K (JA K) := ⟨fun ⟨b, h⟩ s => ⟨b, Jc.same h s⟩, fun ea => ⟨false, .inr (.inr ⟨"list", .base (.lst ea), by decide +kernel, rfl⟩)⟩⟩
theorem noref {H : Hp} {x : V} (n : ∀ a, x ≠ .ref a) : ∀ a, x = .ref a → ∃ o, H a = some o ∧ ∀ xs, o ≠ .lst xs := fun a e => absurd e (n a)
theorem Od.ot {K : PySem.W.Frag} {H : Hp} {x : V} (h : Od H x) : Ot K (JD K) H x := by
  obtain ⟨d, dp, ft⟩ := h.dv (K := K)
  have sh := ft.sh (by omega) (by omega)
  have jd := h.jd (K := K)
  rcases h with ⟨z, rfl, _⟩ | rfl | rfl | ⟨a, t, rfl, ea, bt, lt⟩ | ⟨a, t, rfl, ea, bt, lt⟩
  · exact .inl ⟨⟨"str", d, by decide +kernel, sh, .base (.str _), .inl dp⟩, jd, noref fun a e => by cases e⟩
  · exact .inl ⟨⟨"NoneType", d, by decide +kernel, sh, .base .non, .inl dp⟩, jd, noref fun a e => by cases e⟩
  · exact .inl ⟨⟨"int", d, by decide +kernel, sh, .base (.int _), .inl dp⟩, jd, noref fun a e => by cases e⟩
  · exact .inr ⟨a, _, rfl, ea, .inl ⟨t, rfl, bt, lt⟩⟩
  · exact .inl ⟨⟨"tuple", d, by decide +kernel, sh, .base (.tup ea), .inl dp⟩, jd, fun a' e => by cases e; exact ⟨_, ea, fun xs z => by cases z⟩⟩
theorem On.ot {K : PySem.W.Frag} {H : Hp} {x : V} (h : On H x) : Ot K (JN K) H x := by
  have jc := h.jc (K := K)
  rcases h with ⟨k, rfl, hk⟩ | rfl | rfl | rfl | ⟨a, rfl, ea⟩
  · exact .inl ⟨⟨"int", _, by decide +kernel, (fit_neg hk).sh (by omega) (by omega), .base (.int _), .inl (.int _)⟩, jc, noref fun a e => by cases e⟩
  · exact .inl ⟨⟨"bool", _, by decide +kernel, (Fit.bool (k := 0)).sh (by omega) (by omega), .base (.bl _), .inl (.bl _)⟩, jc, noref fun a e => by cases e⟩
  · exact .inl ⟨⟨"NoneType", .none, by decide +kernel, (Fit.none (k := 0)).sh (by omega) (by omega), .base .non, .inl .non⟩, jc, noref fun a e => by cases e⟩
  · exact .inl ⟨⟨"str", _, by decide +kernel, (Fit.str (k := 0) (w := 1) (z := [51]) (by simp) (fun c hc => by rw [List.mem_singleton.mp hc]; omega)).sh (by omega) (by omega), .base (.str _), .inl (.str _)⟩, jc, noref fun a e => by cases e⟩
  · exact .inr ⟨a, _, rfl, ea, .inr rfl⟩
theorem Ot.any {K : PySem.W.Frag} {H : Hp} {x : V} (h : Ot K (JN K) H x) : Ot K (JA K) H x := h.elim (fun h => .inl ⟨h.1, ⟨_, h.2.1⟩, h.2.2⟩) .inr
theorem nat_ot {K : PySem.W.Frag} {H : Hp} {d : Nat} (h : d < 1000) : Ot K (JA K) H (.int (d : Nat)) :=
  .inl ⟨⟨"int", _, by decide +kernel, (Fit.nat (r := d) (k := 1) (by omega)).sh (by omega) (by omega), .base (.int _), .inl (.int _)⟩, ⟨true, jc_nat⟩, noref fun a e => by cases e⟩
/-- a copy of a bad value of Hb -/
def Cp (K : PySem.W.Frag) (J : Hp → V → Prop) (Hb H : Hp) (b : V) : Prop := (Pl K H b ∧ J H b ∧ ∀ a, b = .ref a → ∃ o, Hb a = some o ∧ ∀ xs, o ≠ .lst xs) ∨ (Ls H b ∧ ∀ a, b = .ref a → Hb a = none)
def Off (b : V) (H H' : Hp) : Prop := ∀ c o, H c = some o → (b = .ref c → ∀ xs, o ≠ .lst xs) → H' c = some o
theorem Cp.same {K : PySem.W.Frag} {J : Hp → V → Prop} (m : MonJ K J) {Hb H H' : Hp} {b : V} (h : Cp K J Hb H b) (s : Same H H') : Cp K J Hb H' b :=
  h.elim (fun h => .inl ⟨h.1.same s, m.1 h.2.1 s, h.2.2⟩) fun h => .inr ⟨h.1.same s, h.2⟩
theorem Cp.stay {K : PySem.W.Frag} {J : Hp → V → Prop} {Hb H H' : Hp} {d : V} (h : Cp K J Hb H d) (o : Off d H H') (s : Same Hb H) : Same Hb H' := by
  intro c ob e
  refine o c ob (s _ _ e) fun z xs hx => ?_
  rcases h with ⟨_, _, nl⟩ | ⟨_, f⟩
  · obtain ⟨o', q, k⟩ := nl c z
    rw [e] at q; cases q
    exact k xs hx
  · rw [f c z] at e; cases e
theorem Cp.pl {K : PySem.W.Frag} {J : Hp → V → Prop} {Hb H : Hp} {b : V} (h : Cp K J Hb H b) : Pl K H b ∨ Ls H b := h.elim (fun h => .inl h.1) fun h => .inr h.1
theorem Cp.j {K : PySem.W.Frag} {J : Hp → V → Prop} (m : MonJ K J) {Hb H : Hp} {b : V} (h : Cp K J Hb H b) : J H b := by
  rcases h with ⟨_, j, _⟩ | ⟨⟨a, vs, rfl, ea, _⟩, _⟩
  · exact j
  · exact m.2 ea
theorem Cp.ne {K : PySem.W.Frag} {J : Hp → V → Prop} {Hb H : Hp} {b : V} {q : Addr} (h : Cp K J Hb H b) (s : Same Hb H) (hq : H q = none) : ∀ a, b = .ref a → a ≠ q := by
  intro a e z
  subst z
  rcases h with ⟨_, _, nl⟩ | ⟨⟨a', vs, e', ea, _⟩, _⟩
  · obtain ⟨o, q, _⟩ := nl a e
    rw [s _ _ q] at hq; cases hq
  · rw [e] at e'; cases e'
    rw [ea] at hq; cases hq
section
variable {P : Program} {w : World} {K : PySem.W.Frag} {mg : Str → Option Value} {base : Heap}
def spCopy (K : PySem.W.Frag) : Sp := fun vs H Q _ => ∃ x, vs = [x] ∧ ((Pl K H x ∧ Q x H) ∨ ∃ a us, x = .ref a ∧ H a = some (.lst us) ∧ ∀ l, H l = none → Q (.ref l) (upd H l (.lst us)))
theorem ok_law_copy (T : Txt K mg) : FnOk P w K mg base CX0 1 T.f_law_copy T.fd_law_copy ["value"] (spCopy K) := by
  refine T.F_law_copy.ok sc_law_copy (fun vs H Q E h => ?_) (fun cdv A outer s H vs Q E hr h => ?_)
  · obtain ⟨x, rfl, _⟩ := h; rfl
  · obtain ⟨x, rfl, h⟩ := h
    refine ⟨_, (pss_one (ps_ret (pe_ifExp (pt_val (pe_callB call_isi (by rfl) T.z_isinstance (by decide +kernel) (pa_cons (pv 0) (pa_cons (pe_bltn (v := .ty "list") (u := .type "list") (by rfl) T.z_list (by decide +kernel) rfl) pa_nil)))) (pe_callTy call_list_of (by rfl) T.z_list (by decide +kernel) (pa_cons (pv 0) pa_nil)) (pv 0)))), ?_⟩
    rcases h with ⟨⟨ty, d, kb, sh, t, r⟩, q⟩ | ⟨a, v, rfl, ea, q⟩
    · exact ⟨_, rfl, _, _, _, _, false, rfl, .ty _, t, kit_ty kb, false, rfl, iteF ⟨_, rfl, q⟩⟩
    · exact ⟨_, rfl, _, _, _, _, true, rfl, .ty _, .base (.lst ea), kit_ty (by decide +kernel), true, rfl, iteT ⟨_, rfl, a, _, rfl, .inl (SqL.of ea), fun l hl => q l hl⟩⟩
theorem copy_run {J : Hp → V → Prop} (m : MonJ K J) {Hb H : Hp} {x : V} {Q : VK} (o : Ot K J Hb x) (s : Same Hb H)
    (q : ∀ b H', Cp K J Hb H' b → Same H H' → Q b H') : ∃ y, [x] = [y] ∧ ((Pl K H y ∧ Q y H) ∨ ∃ a us, y = .ref a ∧ H a = some (.lst us) ∧ ∀ l, H l = none → Q (.ref l) (upd H l (.lst us))) := by
  refine ⟨x, rfl, ?_⟩
  rcases o with ⟨p, jj, nl⟩ | ⟨a, vs, rfl, ea, r⟩
  · exact .inl ⟨p.same s, q x H (.inl ⟨p.same s, m.1 jj s, nl⟩) (Same.refl H)⟩
  · refine .inr ⟨a, _, rfl, s _ _ ea, fun l hl => ?_⟩
    exact q _ _ (.inr ⟨⟨l, vs, rfl, upd_same, r⟩, fun a e => by cases e; exact s.free hl⟩) (Same.new (Same.refl H) hl)
/-- what is told of a refusal -/
def ToldC (x y z : V) (b1 b2 b3 : Bool) (rs : List V) : Prop :=
  (b1 = false ∧ rs = [.str "text", x]) ∨ (b1 = true ∧ b2 = false ∧ rs = [.str "text", y]) ∨ (b1 = true ∧ b2 = true ∧ x = .str (S []) ∧ y = .str (S []) ∧ rs = [.str "text", x]) ∨
  (b1 = true ∧ b2 = true ∧ ∃ u v : List Nat, x = .str (S u) ∧ y = .str (S v) ∧ u.length ≤ 900 ∧ v.length ≤ 900 ∧ ¬ (u = [] ∧ v = []) ∧ ((b3 = false ∧ rs = [.str "count", z]) ∨ (b3 = true ∧ (∃ M : Nat, z = .int M ∧ M ≤ 900) ∧ rs = [])))
def spTold (K : PySem.W.Frag) : Sp := fun vs H Q _ => ∃ (i : Int) (q : Addr) (x y z : V) (b1 b2 b3 : Bool) (rs : List V), vs = [.int i, .ref q] ∧ (i = 0 ∨ i = 1) ∧ H q = some (.lst [x, y, z]) ∧ Jd K H x b1 ∧ Jd K H y b2 ∧ Jc K H z b3 ∧ ToldC x y z b1 b2 b3 rs ∧
  ∀ r H', Same H H' → H' r = none → Q (.ref r) (upd H' r (.lst rs))
theorem ok_law_told (T : Txt K mg) : FnOk P w K mg base CX0 5 T.f_law_told T.fd_law_told ["turn", "parts"] (spTold K) := by
  refine T.F_law_told.ok sc_law_told (fun vs H Q E h => ?_) (fun cdv A outer s H vs Q E hr h => ?_)
  · obtain ⟨i, q, _, _, _, _, _, _, _, rfl, _⟩ := h; rfl
  · obtain ⟨i, q, x, y, z, b1, b2, b3, rs, rfl, hi, eq, j1, j2, j3, hrs, kR⟩ := h
    refine ⟨_, (pss_one (ps_tryAll (i := 2) rfl rfl sc_law_told.nd rfl rfl takes0 (fun W pn xe tk _ => (pss_cons (ps_if (pt_cmpR op_eq (pv 0) pe_int (nomark _)) (pss_one (ps_expr (pe_callS (ok_staying T) (hr.mono (by decide)) rfl T.g_staying T.F_staying.kp T.b_staying (fun σ => passAt tk σ) (pa_cons (pe_ix (ix_listK (K := K) rfl) (pv 1) pe_int (fun _ _ => rfl)) (pa_cons (pe_ix (ix_listK (K := K) rfl) (pv 1) pe_int (fun _ _ => rfl)) (pa_cons (pe_ix (ix_listK (K := K) rfl) (pv 1) pe_int (fun _ _ => rfl)) pa_nil)))))) (pss_one (ps_expr (pe_callKS (ok_staying T) (hr.mono (by decide)) rfl T.g_staying T.F_staying.kp (kb_staying_most_one_other T) (fun σ => passAt tk σ) (pk_cons (pe_ix (ix_listK (K := K) rfl) (pv 1) pe_int (fun _ _ => rfl)) (pk_cons (pe_ix (ix_listK (K := K) rfl) (pv 1) pe_int (fun _ _ => rfl)) (pk_cons (pe_ix (ix_listK (K := K) rfl) (pv 1) pe_int (fun _ _ => rfl)) pk_nil)))))))
      (pss_one (ps_ret (pe_lst pa_nil))))) (.more ⟨rfl, by decide, Or.inl T.e_InvalidText.gC⟩ (fun a oe cls d pn hz hf => (pss_one (ps_ret (pe_lst (pa_cons pe_str (pa_cons (pe_gvn T.e_InvalidText hz hf (pv 2)) pa_nil)))))) (.more ⟨rfl, by decide, Or.inl T.e_InvalidCount.gC⟩ (fun a oe cls d pn hz hf => (pss_one (ps_ret (pe_lst (pa_cons pe_str (pa_cons (pe_gvn T.e_InvalidCount hz hf (pv 2)) pa_nil)))))) .last)))), ?_⟩
    have two : 2 ≤ sizeLine := by decide
    have zer : 0 ≤ sizeLine := by decide
    have at0 : atI [x, y, z] 0 = some x := atI_nat (j := 0) rfl
    have at1 : atI [x, y, z] 1 = some y := atI_nat (j := 1) rfl
    have at2 : atI [x, y, z] 2 = some z := atI_nat (j := 2) rfl
    have kX : b1 = false → rs = [.str "text", x] := fun e => by
      rcases hrs with ⟨_, h⟩ | ⟨z, _⟩ | ⟨z, _⟩ | ⟨z, _⟩
      · exact h
      all_goals (rw [e] at z; cases z)
    have kY : b1 = true → b2 = false → rs = [.str "text", y] := fun e e' => by
      rcases hrs with ⟨z, _⟩ | ⟨_, _, h⟩ | ⟨_, z, _⟩ | ⟨_, z, _⟩
      · rw [e] at z; cases z
      · exact h
      all_goals (rw [e'] at z; cases z)
    have kQ : b1 = true → b2 = true → ∃ u v : List Nat, x = .str (S u) ∧ y = .str (S v) ∧ u.length ≤ 900 ∧ v.length ≤ 900 ∧ (u = [] ∧ v = [] → rs = [.str "text", x]) ∧
        (¬ (u = [] ∧ v = []) → b3 = false → rs = [.str "count", z]) ∧ (¬ (u = [] ∧ v = []) → b3 = true → ∃ M : Nat, z = .int M ∧ M ≤ 900 ∧ rs = []) := fun e e' => by
      rcases hrs with ⟨z, _⟩ | ⟨_, z, _⟩ | ⟨_, _, ex, ey, h⟩ | ⟨_, _, u, v, ex, ey, hu, hv, h0, h⟩
      · rw [e] at z; cases z
      · rw [e'] at z; cases z
      · exact ⟨[], [], ex, ey, by simp, by simp, fun _ => h, fun z => absurd ⟨rfl, rfl⟩ z, fun z => absurd ⟨rfl, rfl⟩ z⟩
      · refine ⟨u, v, ex, ey, hu, hv, fun z => absurd z h0, fun _ e3 => ?_, fun _ e3 => ?_⟩
        · rcases h with ⟨_, h⟩ | ⟨z, _⟩
          · exact h
          · rw [e3] at z; cases z
        · rcases h with ⟨z, _⟩ | ⟨_, ⟨M, em, hM⟩, h⟩
          · rw [e3] at z; cases z
          · exact ⟨M, em, hM, h⟩
    rcases hi with rfl | rfl
    · refine ⟨_, rfl, rfl, _, rfl, eqT ?_⟩
      refine ⟨_, rfl, q, _, _, _, rfl, rfl, SqL.of eq, at0, _, rfl, q, _, _, _, rfl, rfl, SqL.of eq, at1, _, rfl, q, _, _, _, rfl, rfl, SqL.of eq, at2, x, y, z, b1, b2, b3, rfl, j1, j2, j3, fun e0 d H' s' _ ed => ?_, fun e0 e1 d H' s' _ ed => ?_, fun e0 e1 => ?_⟩
      · exact ⟨true, T.x_InvalidText, fun _ a _ => ⟨_, rfl, rfl, rfl, d, _, rfl, ed, two, fun r hq => by have := kR r H' s' hq; rw [kX e0] at this; exact this⟩, fun z => by cases z⟩
      · exact ⟨true, T.x_InvalidText, fun _ a _ => ⟨_, rfl, rfl, rfl, d, _, rfl, ed, two, fun r hq => by have := kR r H' s' hq; rw [kY e0 e1] at this; exact this⟩, fun z => by cases z⟩
      · obtain ⟨u, v, ex, ey, hu, hv, k1, k2, k3⟩ := kQ e0 e1
        refine ⟨u, v, ex, ey, hu, hv, fun h d H' s' _ ed => ?_, fun h e3 d H' s' _ ed => ?_, fun h e3 => ?_⟩
        · exact ⟨true, T.x_InvalidText, fun _ a _ => ⟨_, rfl, rfl, rfl, d, _, rfl, ed, two, fun r hq => by have := kR r H' s' hq; rw [k1 h] at this; exact this⟩, fun z => by cases z⟩
        · exact ⟨false, T.no_InvalidCount_InvalidText, (fun z => by cases z), fun _ => ⟨true, T.x_InvalidCount, fun _ a _ => ⟨_, rfl, rfl, rfl, d, _, rfl, ed, two, fun r hq => by have := kR r H' s' hq; rw [k2 h e3] at this; exact this⟩, fun z => by cases z⟩⟩
        · obtain ⟨M, em, hM, e⟩ := k3 h e3
          exact ⟨M, em, hM, fun D H' s' _ _ => ⟨zer, fun r hq => by have := kR r H' s' hq; rw [e] at this; exact this⟩⟩
    · refine ⟨_, rfl, rfl, _, rfl, eqF (by decide) ?_⟩
      refine ⟨_, rfl, q, _, _, _, rfl, rfl, SqL.of eq, at2, _, rfl, q, _, _, _, rfl, rfl, SqL.of eq, at0, _, rfl, q, _, _, _, rfl, rfl, SqL.of eq, at1, x, y, z, b1, b2, b3, rfl, j1, j2, j3, fun e0 d H' s' _ ed => ?_, fun e0 e1 d H' s' _ ed => ?_, fun e0 e1 => ?_⟩
      · exact ⟨true, T.x_InvalidText, fun _ a _ => ⟨_, rfl, rfl, rfl, d, _, rfl, ed, two, fun r hq => by have := kR r H' s' hq; rw [kX e0] at this; exact this⟩, fun z => by cases z⟩
      · exact ⟨true, T.x_InvalidText, fun _ a _ => ⟨_, rfl, rfl, rfl, d, _, rfl, ed, two, fun r hq => by have := kR r H' s' hq; rw [kY e0 e1] at this; exact this⟩, fun z => by cases z⟩
      · obtain ⟨u, v, ex, ey, hu, hv, k1, k2, k3⟩ := kQ e0 e1
        refine ⟨u, v, ex, ey, hu, hv, fun h d H' s' _ ed => ?_, fun h e3 d H' s' _ ed => ?_, fun h e3 => ?_⟩
        · exact ⟨true, T.x_InvalidText, fun _ a _ => ⟨_, rfl, rfl, rfl, d, _, rfl, ed, two, fun r hq => by have := kR r H' s' hq; rw [k1 h] at this; exact this⟩, fun z => by cases z⟩
        · exact ⟨false, T.no_InvalidCount_InvalidText, (fun z => by cases z), fun _ => ⟨true, T.x_InvalidCount, fun _ a _ => ⟨_, rfl, rfl, rfl, d, _, rfl, ed, two, fun r hq => by have := kR r H' s' hq; rw [k2 h e3] at this; exact this⟩, fun z => by cases z⟩⟩
        · obtain ⟨M, em, hM, e⟩ := k3 h e3
          exact ⟨M, em, hM, fun D H' s' _ _ => ⟨zer, fun r hq => by have := kR r H' s' hq; rw [e] at this; exact this⟩⟩
def spRefuses (K : PySem.W.Frag) : Sp := fun vs H Q _ => ∃ (i pl : Int) (q : Addr) (x y z b : V) (kd : List Nat) (b1 b2 b3 : Bool), vs = [.int i, .ref q, .str (S kd), .int pl] ∧ (i = 0 ∨ i = 1) ∧ H q = some (.lst [x, y, z]) ∧ Jd K H x b1 ∧ Jd K H y b2 ∧ Jc K H z b3 ∧
  (∀ c ∈ kd, c < 200) ∧ ToldC x y z b1 b2 b3 [.str (S kd), b] ∧ ((pl = 0 ∧ b = x) ∨ (pl = 1 ∧ b = y) ∨ (pl = 2 ∧ b = z)) ∧
  (Pl K H b ∨ Ls H b) ∧ (∀ a, b = .ref a → a ≠ q) ∧ ∀ H', Off b H H' → Q (.bl true) H'
theorem ok_law_refuses (T : Txt K mg) : FnG P w K mg base CX0 6 T.f_law_refuses T.fd_law_refuses ["turn", "parts", "kind", "place"] (spRefuses K) := by
  refine T.F_law_refuses.okG sc_law_refuses (fun vs H Q E h => ?_) (fun cdv A outer s H vs Q E hgd hr h => ?_)
  · obtain ⟨i, pl, q, _, _, _, _, _, _, _, _, rfl, _⟩ := h; rfl
  · obtain ⟨i, pl, q, x, y, z, b, kd, b1, b2, b3, rfl, hi, eq, j1, j2, j3, hkd, hrs, hcase, hb, hbq, kQ⟩ := h
    have hun := un64 hr
    refine ⟨_, (pss_cons (ps_par (i := 4) (j := 5) (by rfl) sc_law_refuses.nd rfl rfl (by decide) rfl rfl (pa_cons (pe_callB (call_reprD hgd hun) (by rfl) T.z_repr (by decide +kernel) (pa_cons (pe_ix ix_list (pv 1) (pv 3) (fun _ _ => rfl)) pa_nil)) (pa_cons (pe_ifExp (pt_val (pe_callB call_isi (by rfl) T.z_isinstance (by decide +kernel) (pa_cons (pe_ix ix_list (pv 1) (pv 3) (fun _ _ => rfl)) (pa_cons (pe_bltn (v := .ty "list") (u := .type "list") (by rfl) T.z_list (by decide +kernel) rfl) pa_nil)))) (pe_callB call_len_seq (by rfl) T.z_len (by decide +kernel) (pa_cons (pe_ix ix_list (pv 1) (pv 3) (fun _ _ => rfl)) pa_nil)) pe_int) pa_nil)) (by rfl))
      (pss_cons (ps_set (i := 6) sc_law_refuses.nd rfl (Or.inl rfl) (pe_call (ok_law_told T) (hr.mono (by decide)) rfl T.g_law_told T.F_law_told.kp T.b_law_told .nil pass0 (pa_cons (pv 0) (pa_cons (pv 1) pa_nil))))
      (pss_cons (ps_if (PW.pt (pw_or (pt_cmpR op_ne (pe_callB call_len_seq (by rfl) T.z_len (by decide +kernel) (pa_cons (pv 6) pa_nil)) pe_int (nomark _)) (pw_or (pt_cmpR (op_neD (un64 hr)) (pe_ix ix_list (pv 6) pe_int (fun _ _ => rfl)) (pv 2) (nomark _)) (pw_or1 (pt_cmpR op_ne (pe_callB (call_reprD hgd hun) (by rfl) T.z_repr (by decide +kernel) (pa_cons (pe_ix ix_list (pv 6) pe_int (fun _ _ => rfl)) pa_nil)) (pv 4) (nomark _)))))) (pss_one (ps_ret pe_bl)) pss_nil)
      (pss_cons (ps_if (pt_cmpR op_eq (pv 5) pe_int (nomark _)) (pss_one (ps_ret pe_bl)) pss_nil)
      (pss_cons (ps_if (pt_not (pt_val (pe_callB call_isi (by rfl) T.z_isinstance (by decide +kernel) (pa_cons (pe_ix ix_list (pv 6) pe_int (fun _ _ => rfl)) (pa_cons (pe_bltn (v := .ty "list") (u := .type "list") (by rfl) T.z_list (by decide +kernel) rfl) pa_nil))))) (pss_one (ps_ret pe_bl)) pss_nil)
      (pss_cons (ps_expr (pe_bm PySem.F.plainAttrs_list PySem.F.slot_list_append PySem.F.type_list_append mt_append (pe_ix ix_list (pv 6) pe_int (fun _ _ => rfl)) (pa_cons (pv 0) pa_nil)))
      (pss_one (ps_ret (pe_and (pe_cmpR op_eq (pe_callB call_len_seq (by rfl) T.z_len (by decide +kernel) (pa_cons (pe_ix ix_list (pv 1) (pv 3) (fun _ _ => rfl)) pa_nil)) (pe_op op_add (pv 5) pe_int) (nomark _)) (pe_one (pe_cmpR op_eq (pe_ix ix_list (pe_ix ix_list (pv 1) (pv 3) (fun _ _ => rfl)) (pe_un un_neg pe_int) (fun _ _ => rfl)) (pv 0) (nomark _)))))))))))), ?_⟩
    have shk : SeqAt.shaped (.str (S kd)) = true := by
      unfold SeqAt.shaped
      rw [ly_s hkd, decide_eq_true (by simp [PyData.depth])]; rfl
    have eqk : PyData.eqv (.str (S kd)) (.str (S kd)) = true := by unfold PyData.eqv; exact beq_self_eq_true _
    have hat : atI [x, y, z] pl = some b := by
      rcases hcase with ⟨rfl, rfl⟩ | ⟨rfl, rfl⟩ | ⟨rfl, rfl⟩
      · exact atI_nat (j := 0) rfl
      · exact atI_nat (j := 1) rfl
      · exact atI_nat (j := 2) rfl
    obtain ⟨d0, ds0, sh0⟩ : ∃ d, Ds K H b d ∧ Sh d := by
      rcases hb with ⟨ty, d, _, sh, _, r⟩ | ⟨a, v, rfl, ea, hsc⟩
      · exact ⟨d, r, sh⟩
      · rcases hsc with ⟨t, rfl, bt, lt⟩ | rfl
        · exact ⟨_, .inl (.lst (SqL.of ea) (.cons (.str _) .nil)), (Fit.list (FitAll.cons (Fit.str (k := 0) bt lt.lt) FitAll.nil)).sh (by omega) (by omega)⟩
        · exact ⟨_, .inl (.lst (SqL.of ea) (.cons (.int _) .nil)), (Fit.list (FitAll.cons (Fit.nat (r := 3) (k := 0) (by omega)) FitAll.nil)).sh (by omega) (by omega)⟩
    refine ⟨_, rfl, _, rfl, q, _, _, _, rfl, rfl, SqL.of eq, hat, _, d0, rfl, ds0, sh0.1, sh0.2.1, sh0.2.2, ?_⟩
    rcases hb with hb | ⟨a, v, rfl, ea, hsc⟩
    · obtain ⟨ty, d, kb, sh, tx, rr⟩ := hb
      refine ⟨_, rfl, _, rfl, q, _, _, _, rfl, rfl, SqL.of eq, hat, _, _, _, _, false, rfl, .ty _, tx, kit_ty kb, false, rfl, iteF ⟨_, _, rfl, ?_⟩⟩
      refine ⟨_, rfl, _, rfl, i, q, x, y, z, b1, b2, b3, [_, _], rfl, hi, eq, j1, j2, j3, hrs, fun r Hm sm hr1 => ?_⟩
      have sH : Same H (upd Hm r (.lst [.str (S kd), b])) := Same.new sm hr1
      have er : (upd Hm r (.lst [.str (S kd), b])) r = some (.lst [.str (S kd), b]) := upd_same
      generalize upd Hm r (.lst [.str (S kd), b]) = Hz at sH er
      refine ⟨_, rfl, r, _, rfl, .inl (SqL.of er), rfl, _, rfl, ?_⟩
      refine iteF ?_
      refine ⟨_, rfl, r, _, _, _, rfl, rfl, SqL.of er, atI_nat (j := 0) rfl, _, rfl, _, _, .str _, .str _, shk, shk, _, rfl, ?_⟩
      rw [eqk]
      refine iteF ?_
      refine ⟨_, rfl, r, _, _, _, rfl, rfl, SqL.of er, atI_nat (j := 1) rfl, _, d0, rfl, Ds.same sH ds0, sh0.1, sh0.2.1, sh0.2.2, _, rfl, rfl, _, rfl, neSame ?_⟩
      exact ⟨_, rfl, rfl, _, rfl, iteT (kQ _ fun c o e _ => sH c o e)⟩
    · refine ⟨_, rfl, _, rfl, q, _, _, _, rfl, rfl, SqL.of eq, hat, _, _, _, _, true, rfl, .ty _, .base (.lst ea), kit_ty (by decide +kernel), true, rfl, iteT ?_⟩
      refine ⟨_, rfl, _, rfl, q, _, _, _, rfl, rfl, SqL.of eq, hat, a, _, rfl, .inl (SqL.of ea), ⟨_, _, rfl, ?_⟩⟩
      refine ⟨_, rfl, _, rfl, i, q, x, y, z, b1, b2, b3, [_, _], rfl, hi, eq, j1, j2, j3, hrs, fun r Hm sm hr1 => ?_⟩
      have sH : Same H (upd Hm r (.lst [.str (S kd), .ref a])) := Same.new sm hr1
      have er : (upd Hm r (.lst [.str (S kd), .ref a])) r = some (.lst [.str (S kd), .ref a]) := upd_same
      generalize upd Hm r (.lst [.str (S kd), .ref a]) = H2 at sH er
      refine ⟨_, rfl, r, _, rfl, .inl (SqL.of er), rfl, _, rfl, ?_⟩
      refine iteF ?_
      refine ⟨_, rfl, r, _, _, _, rfl, rfl, SqL.of er, atI_nat (j := 0) rfl, _, rfl, _, _, .str _, .str _, shk, shk, _, rfl, ?_⟩
      rw [eqk]
      refine iteF ?_
      refine ⟨_, rfl, r, _, _, _, rfl, rfl, SqL.of er, atI_nat (j := 1) rfl, _, d0, rfl, Ds.same sH ds0, sh0.1, sh0.2.1, sh0.2.2, _, rfl, rfl, _, rfl, neSame ?_⟩
      have eq2 := sH _ _ eq
      have ea2 := sH _ _ ea
      refine ⟨_, rfl, rfl, _, rfl, ?_⟩
      refine iteF ?_
      refine ⟨_, rfl, r, _, _, _, rfl, rfl, SqL.of er, atI_nat (j := 1) rfl, _, _, _, _, true, rfl, .ty _, .base (.lst ea2), kit_ty (by decide +kernel), true, rfl, iteF ?_⟩
      refine ⟨_, rfl, r, _, _, _, rfl, rfl, SqL.of er, atI_nat (j := 1) rfl, .inl ⟨rfl, _, SqL.of ea2⟩, _, rfl, a, _, _, rfl, rfl, ea2, (by show 1 < sizeLine; decide), ?_⟩
      have naq : a ≠ q := hbq a rfl
      have eq3 : (upd H2 a (.lst ([v] ++ [.int i]))) q = some (.lst [x, y, z]) := by rw [upd_ne naq.symm]; exact eq2
      have ea3 : (upd H2 a (.lst ([v] ++ [.int i]))) a = some (.lst ([v] ++ [.int i])) := upd_same
      have off : Off (.ref a) H (upd H2 a (.lst ([v] ++ [.int i]))) := fun c o e no => by
        have nc : c ≠ a := by
          rintro rfl
          rw [ea] at e; cases e
          exact no rfl _ rfl
        rw [upd_ne nc]; exact sH _ _ e
      generalize upd H2 a (.lst ([v] ++ [.int i])) = H3 at eq3 ea3 off
      refine ⟨_, rfl, _, rfl, q, _, _, _, rfl, rfl, SqL.of eq3, hat, a, _, rfl, .inl (SqL.of ea3), _, rfl, _, _, rfl, rfl, rfl, _, rfl, ?_⟩
      refine iteT ?_
      refine ⟨_, rfl, _, rfl, q, _, _, _, rfl, rfl, SqL.of eq3, hat, _, rfl, a, _, _, _, rfl, rfl, SqL.of ea3, atI_last [v] (.int i), _, rfl, rfl, ?_⟩
      rw [decide_eq_true rfl]
      exact kQ _ off
end
end My

set_option Elab.async false
set_option linter.all false
set_option maxRecDepth 100000
set_option maxHeartbeats 8000000
namespace My
open PySem PySem.Spec PyProof.Rows L2
section
variable {P : Program} {w : World} {K : PySem.W.Frag} {mg : Str → Option Value} {base : Heap}
/-- a copy of a variable's value -/
theorem copy_v {J : Hp → V → Prop} (m : MonJ K J) {Hb H : Hp} {σ : L2.St} {j : Nat} {x : V} {Q : VK} (ex : σ[j]? = some (some x)) (o : Ot K J Hb x) (s : Same Hb H)
    (q : ∀ b H', Cp K J Hb H' b → Same H H' → Q b H') : tCall (spCopy K) [] E0 (tCons (tVar j) tNil) σ H Q := by
  refine ⟨_, ex, x, rfl, ?_⟩
  rcases o with ⟨p, jj, nl⟩ | ⟨a, vs, rfl, ea, r⟩
  · exact .inl ⟨p.same s, q x H (.inl ⟨p.same s, m.1 jj s, nl⟩) (Same.refl H)⟩
  · refine .inr ⟨a, _, rfl, s _ _ ea, fun l hl => ?_⟩
    exact q _ _ (.inr ⟨⟨l, vs, rfl, upd_same, r⟩, fun a e => by cases e; exact s.free hl⟩) (Same.new (Same.refl H) hl)
def spRefusals : Sp := fun vs H Q _ => ∃ (p l : Addr) (n a b : Nat) (u v : List Nat), vs = [.ref p, .ref l, .str (S u), .str (S v)] ∧ BoxAt H p n ∧ n < 100000 ∧ Let2 H l a b ∧ l ≠ p ∧ Low u ∧ Low v ∧ u.length ≤ 25 ∧ v.length ≤ 25 ∧
  ∀ H', Kp p H H' → BoxAt H' p (n + 40) → Q (.bl true) H'
theorem ok_law_refusals_right (T : Txt K mg) : FnG P w K mg base CX0 7 T.f_law_refusals_right T.fd_law_refusals_right ["box", "letters", "left", "right"] spRefusals := by
  refine T.F_law_refusals_right.okG sc_law_refusals_right (fun vs H Q E h => ?_) (fun cdv A outer s H vs Q E hgd hr h => ?_)
  · obtain ⟨p, l, n, _, _, _, _, rfl, _⟩ := h; rfl
  · obtain ⟨p, l, n, a, b, u, v, rfl, hb, hn, hl, npl, lu, lv, bu, bv, kQ⟩ := h
    have hun := un64 hr
    refine ⟨_, (pss_cons (ps_par3 (i := 4) (j := 5) (l := 6) (by rfl) sc_law_refusals_right.nd rfl rfl rfl (by decide) (by decide) (by decide) rfl rfl rfl (pa_cons (pe_op op_add_str (pv 2) (pe_ix ix_list (pv 1) pe_int (fun _ _ => rfl))) (pa_cons (pe_call (ok_law_bad_text T) (hr.mono (by decide)) rfl T.g_law_bad_text T.F_law_bad_text.kp T.b_law_bad_text .nil pass0 (pa_cons (pv 0) (pa_cons (pv 1) pa_nil))) (pa_cons (pe_call (ok_law_bad_text T) (hr.mono (by decide)) rfl T.g_law_bad_text T.F_law_bad_text.kp T.b_law_bad_text .nil pass0 (pa_cons (pv 0) (pa_cons (pv 1) pa_nil))) pa_nil))) (by rfl))
      (pss_cons (ps_set (i := 7) sc_law_refusals_right.nd rfl (Or.inl rfl) (pe_ix ix_list (pe_lst (pa_cons (pe_un un_neg pe_int) (pa_cons pe_bl (pa_cons pe_non (pa_cons pe_str (pa_cons (pe_lst (pa_cons pe_int pa_nil)) (pa_cons (pe_op op_sub (pe_op op_sub pe_int pe_int) (pe_call (ok_law_take T) (hr.mono (by decide)) rfl T.g_law_take T.F_law_take.kp T.b_law_take .nil pass0 (pa_cons (pv 0) (pa_cons pe_int pa_nil)))) pa_nil))))))) (pe_call (ok_law_take T) (hr.mono (by decide)) rfl T.g_law_take T.F_law_take.kp T.b_law_take .nil pass0 (pa_cons (pv 0) (pa_cons pe_int pa_nil))) (fun _ _ => rfl)))
      (pss_cons (ps_for PassesOwn.never rfl (pi_range1 rfl T.z_range (pa_cons pe_int pa_nil)) (pg_name (i := 8) sc_law_refusals_right.nd rfl (Or.inl rfl)) (pss_cons (ps_for PassesOwn.never rfl (pi_list (pe_lst (pa_cons (pe_call (ok_law_take T) (hr.mono (by decide)) rfl T.g_law_take T.F_law_take.kp T.b_law_take .nil pass0 (pa_cons (pv 0) (pa_cons pe_int pa_nil))) (pa_cons (pv 7) pa_nil)))) (pg_name (i := 9) sc_law_refusals_right.nd rfl (Or.inl rfl)) (pss_cons (ps_if (pt_not (pt_val (pe_callG (ok_law_refuses T) hgd (hr.mono (by decide)) rfl T.g_law_refuses T.F_law_refuses.kp T.b_law_refuses .nil pass0 (pa_cons (pv 8) (pa_cons (pe_lst (pa_cons (pe_call (ok_law_copy T) (hr.mono (by decide)) rfl T.g_law_copy T.F_law_copy.kp T.b_law_copy .nil pass0 (pa_cons (pv 5) pa_nil)) (pa_cons (pe_call (ok_law_copy T) (hr.mono (by decide)) rfl T.g_law_copy T.F_law_copy.kp T.b_law_copy .nil pass0 (pa_cons (pv 6) pa_nil)) (pa_cons (pe_call (ok_law_copy T) (hr.mono (by decide)) rfl T.g_law_copy T.F_law_copy.kp T.b_law_copy .nil pass0 (pa_cons (pv 9) pa_nil)) pa_nil)))) (pa_cons pe_str (pa_cons pe_int pa_nil))))))) (pss_one (ps_ret pe_bl)) pss_nil)
      (pss_cons (ps_if (pt_not (pt_val (pe_callG (ok_law_refuses T) hgd (hr.mono (by decide)) rfl T.g_law_refuses T.F_law_refuses.kp T.b_law_refuses .nil pass0 (pa_cons (pv 8) (pa_cons (pe_lst (pa_cons (pe_call (ok_law_copy T) (hr.mono (by decide)) rfl T.g_law_copy T.F_law_copy.kp T.b_law_copy .nil pass0 (pa_cons (pv 5) pa_nil)) (pa_cons (pv 4) (pa_cons (pe_call (ok_law_copy T) (hr.mono (by decide)) rfl T.g_law_copy T.F_law_copy.kp T.b_law_copy .nil pass0 (pa_cons (pv 9) pa_nil)) pa_nil)))) (pa_cons pe_str (pa_cons pe_int pa_nil))))))) (pss_one (ps_ret pe_bl)) pss_nil)
      (pss_cons (ps_if (pt_not (pt_val (pe_callG (ok_law_refuses T) hgd (hr.mono (by decide)) rfl T.g_law_refuses T.F_law_refuses.kp T.b_law_refuses .nil pass0 (pa_cons (pv 8) (pa_cons (pe_lst (pa_cons (pv 4) (pa_cons (pe_call (ok_law_copy T) (hr.mono (by decide)) rfl T.g_law_copy T.F_law_copy.kp T.b_law_copy .nil pass0 (pa_cons (pv 6) pa_nil)) (pa_cons (pe_call (ok_law_copy T) (hr.mono (by decide)) rfl T.g_law_copy T.F_law_copy.kp T.b_law_copy .nil pass0 (pa_cons (pv 9) pa_nil)) pa_nil)))) (pa_cons pe_str (pa_cons pe_int pa_nil))))))) (pss_one (ps_ret pe_bl)) pss_nil)
      (pss_one (ps_if (pt_not (pt_val (pe_callG (ok_law_refuses T) hgd (hr.mono (by decide)) rfl T.g_law_refuses T.F_law_refuses.kp T.b_law_refuses .nil pass0 (pa_cons (pv 8) (pa_cons (pe_lst (pa_cons pe_str (pa_cons pe_str (pa_cons (pe_call (ok_law_copy T) (hr.mono (by decide)) rfl T.g_law_copy T.F_law_copy.kp T.b_law_copy .nil pass0 (pa_cons (pv 9) pa_nil)) pa_nil)))) (pa_cons pe_str (pa_cons pe_int pa_nil))))))) (pss_one (ps_ret pe_bl)) pss_nil))))))
      (pss_cons (ps_if (pt_not (pt_val (pe_callG (ok_law_refuses T) hgd (hr.mono (by decide)) rfl T.g_law_refuses T.F_law_refuses.kp T.b_law_refuses .nil pass0 (pa_cons (pv 8) (pa_cons (pe_lst (pa_cons pe_str (pa_cons (pe_call (ok_law_copy T) (hr.mono (by decide)) rfl T.g_law_copy T.F_law_copy.kp T.b_law_copy .nil pass0 (pa_cons (pv 6) pa_nil)) (pa_cons pe_int pa_nil)))) (pa_cons pe_str (pa_cons pe_int pa_nil))))))) (pss_one (ps_ret pe_bl)) pss_nil)
      (pss_cons (ps_if (pt_not (pt_val (pe_callG (ok_law_refuses T) hgd (hr.mono (by decide)) rfl T.g_law_refuses T.F_law_refuses.kp T.b_law_refuses .nil pass0 (pa_cons (pv 8) (pa_cons (pe_lst (pa_cons (pv 4) (pa_cons (pv 3) (pa_cons (pe_call (ok_law_copy T) (hr.mono (by decide)) rfl T.g_law_copy T.F_law_copy.kp T.b_law_copy .nil pass0 (pa_cons (pv 7) pa_nil)) pa_nil)))) (pa_cons pe_str (pa_cons pe_int pa_nil))))))) (pss_one (ps_ret pe_bl)) pss_nil)
      (pss_one (ps_if (PW.pt (pw_or (pt_cmpR (op_neD (un64 hr)) (pe_call (ok_law_told T) (hr.mono (by decide)) rfl T.g_law_told T.F_law_told.kp T.b_law_told .nil pass0 (pa_cons (pv 8) (pa_cons (pe_lst (pa_cons (pv 4) (pa_cons pe_str (pa_cons pe_int pa_nil)))) pa_nil))) (pe_lst pa_nil) (nomark _)) (pw_or1 (pt_cmpR (op_neD (un64 hr)) (pe_call (ok_law_told T) (hr.mono (by decide)) rfl T.g_law_told T.F_law_told.kp T.b_law_told .nil pass0 (pa_cons (pv 8) (pa_cons (pe_lst (pa_cons pe_str (pa_cons (pv 4) (pa_cons pe_int pa_nil)))) pa_nil))) (pe_lst pa_nil) (nomark _))))) (pss_one (ps_ret pe_bl)) pss_nil))))))
      (pss_one (ps_ret pe_bl))))), ?_⟩
    have two : 2 ≤ sizeLine := by decide
    have three : 3 ≤ sizeLine := by decide
    have zer : 0 ≤ sizeLine := by decide
    have nn : ∀ {A : Prop}, (true = false) → A := fun z => by cases z
    have nt : ∀ {A : Prop}, (false = true) → A := fun z => by cases z
    refine ⟨_, rfl, _, rfl, l, _, _, _, rfl, rfl, SqL.of hl.1, atI_nat (j := 0) rfl, _, _, rfl, rfl, ?_, ?_⟩
    · rw [S_len, S_len]; exact Nat.le_trans (by simp; omega : u.length + [a].length ≤ 10000) (by decide)
    rw [S_app]
    obtain ⟨wd, ewd⟩ : ∃ wd, wd = u ++ [a] := ⟨_, rfl⟩
    have lw : Low wd := by rw [ewd]; exact lu.append (Low.one hl.2.1)
    have bw : wd.length ≤ 26 := by rw [ewd, List.length_append, List.length_singleton]; omega
    have wne : wd ≠ [] := by rw [ewd]; simp
    rw [← ewd]
    refine ⟨_, rfl, _, rfl, p, l, n, a, b, rfl, hb, by omega, hl, npl, fun x1 H1 ox1 k1 b1 => ?_⟩
    have hl1 := hl.kp k1 npl
    refine ⟨_, rfl, _, rfl, p, l, _, a, b, rfl, b1, by omega, hl1, npl, fun x2 H2 ox2 k2 b2 => ?_⟩
    have k12 := k1.trans k2
    refine ⟨_, _, _, rfl, ?_⟩
    have h7 : ∀ {A : Prop}, A → A := fun h => h
    refine ⟨_, rfl, by show 1 ≤ sizeLine; decide, fun q1 hq1 => ?_⟩
    have b3 : BoxAt (upd H2 q1 (.lst [.int 3])) p (n + 20) := b2.new hq1
    have k3 : Kp p H (upd H2 q1 (.lst [.int 3])) := k12.new hq1
    have f3 : (upd H2 q1 (.lst [.int 3])) q1 = some (.lst [.int 3]) := upd_same
    have np1 : q1 ≠ p := (b2.ne hq1).symm
    have k23 : Kp p H2 (upd H2 q1 (.lst [.int 3])) := (Kp.refl p H2).new hq1
    generalize upd H2 q1 (.lst [.int 3]) = H3 at b3 k3 f3 k23
    refine ⟨_, _, rfl, rfl, _, rfl, p, _, 99, rfl, b3, by omega, by omega, by omega, fun d o hd ho => ⟨_, _, rfl, rfl, by show 6 ≤ sizeLine; decide, fun q2 hq2 => ?_⟩⟩
    have b4 : BoxAt (upd H3 p o) p (n + 21) := ho.at
    have np2 : q2 ≠ p := (b4.ne hq2).symm
    refine ⟨_, rfl, p, _, 6, rfl, b4.new hq2, by omega, by omega, by omega, fun d2 o2 hd2 ho2 => ?_⟩
    obtain ⟨L6, eL6⟩ : ∃ L6 : List V, L6 = [.int (-1), .bl true, .non, .str (S [51]), .ref q1, .int (0 - 1 - (d : Nat))] := ⟨_, rfl⟩
    obtain ⟨H5, eH5⟩ : ∃ H5, H5 = upd (upd (upd H3 p o) q2 (.lst L6)) p o2 := ⟨_, rfl⟩
    have k35 : Kp p H3 H5 := by rw [eH5]; exact (((Kp.refl p H3).upd).new hq2).upd
    have b5 : BoxAt H5 p (n + 30) := by rw [eH5]; exact (ho2.at).mono (by omega)
    have e5 : H5 q2 = some (.lst L6) := by rw [eH5, upd_ne np2]; exact upd_same
    have f5 : H5 q1 = some (.lst [.int 3]) := k35 _ _ np1 f3
    obtain ⟨y, oy, ey⟩ : ∃ y, On H5 y ∧ L6[d2]? = some y := by
      rw [eL6]
      match d2, hd2 with
      | 0, _ => exact ⟨_, .inl ⟨0, rfl, by omega⟩, rfl⟩
      | 1, _ => exact ⟨_, .inr (.inl rfl), rfl⟩
      | 2, _ => exact ⟨_, .inr (.inr (.inl rfl)), rfl⟩
      | 3, _ => exact ⟨_, .inr (.inr (.inr (.inl rfl))), rfl⟩
      | 4, _ => exact ⟨_, .inr (.inr (.inr (.inr ⟨q1, rfl, f5⟩))), rfl⟩
      | 5, _ => exact ⟨_, .inl ⟨d, congrArg V.int (by omega : (0 : Int) - 1 - (d : Int) = -((d : Int) + 1)), by omega⟩, rfl⟩
      | d2 + 6, h => exact absurd h (by omega)
    rw [eL6] at e5 ey eH5
    refine ⟨q2, _, _, _, rfl, rfl, SqL.of (by rw [eH5] at e5; exact e5), atI_nat (j := d2) ey, ?_⟩
    change gName 7 y _ (upd (upd (upd H3 p o) q2 (.lst [.int (-1), .bl true, .non, .str (S [51]), .ref q1, .int (0 - 1 - (d : Nat))])) p o2) _
    rw [← eH5]
    have k5 : Kp p H H5 := k3.trans k35
    have hl5 := hl.kp k5 npl
    have od1 : Od H5 x1 := ox1.kp b1 ((k2.trans k23).trans k35)
    have od2 : Od H5 x2 := ox2.kp b2 (k23.trans k35)
    clear eH5 e5 ey eL6
    refine ⟨2, rfl, by decide, by decide, ?_⟩
    refine for_range (lo := 0) (n := 2) (fun i σ H' => ∃ x8 x9, σ = [some (.ref p), some (.ref l), some (.str (S u)), some (.str (S v)), some (.str (S wd)), some x1, some x2, some y, x8, x9] ∧ Kp p H5 H' ∧ BoxAt H' p (n + 30 + i)) ⟨none, none, rfl, Kp.refl p H5, b5⟩ ?_ ?_
    · rintro i σ H0 hi ⟨x8, x9, rfl, k0, b0⟩
      rw [Int.zero_add]
      have ci : (i : Int) = 0 ∨ (i : Int) = 1 := by omega
      refine ⟨_, rfl, p, _, 9, rfl, b0, by omega, by omega, by omega, fun d o hd ho => ⟨_, rfl, two, fun ql hql => ⟨ql, rfl, ⟨_, SqL.of upd_same⟩, ?_⟩⟩⟩
      have b6 : BoxAt (upd (upd H0 p o) ql (.lst [.int (d : Nat), y])) p (n + 30 + i + 1) := (ho.at).new hql
      have k6 : Kp p H5 (upd (upd H0 p o) ql (.lst [.int (d : Nat), y])) := (k0.upd).new hql
      have e6 : (upd (upd H0 p o) ql (.lst [.int (d : Nat), y])) ql = some (.lst [.int (d : Nat), y]) := upd_same
      generalize upd (upd H0 p o) ql (.lst [.int (d : Nat), y]) = Hb at b6 k6 e6
      have Ox1 : Ot K (JD K) Hb x1 := (od1.kp b5 k6).ot
      have Ox2 : Ot K (JD K) Hb x2 := (od2.kp b5 k6).ot
      have Oy : Ot K (JN K) Hb y := (oy.kp b5 k6).ot
      have jw : ∀ H', Jd K H' (.str (S wd)) true := fun _ => jd_low lw
      have jn : ∀ H', Jd K H' (.str (Str.ofString "")) true := fun _ => jd_low (t := []) Low.nil
      have kT : ∀ c ∈ [116, 101, 120, 116], c < 200 := by decide
      have kC : ∀ c ∈ [99, 111, 117, 110, 116], c < 200 := by decide
      refine for_list (K := K) (a := ql) (xs := [.int (d : Nat), y]) (fun _ σ H' => ∃ x9, σ = [some (.ref p), some (.ref l), some (.str (S u)), some (.str (S v)), some (.str (S wd)), some x1, some x2, some y, some (.int (i : Nat)), x9] ∧ Same Hb H') ⟨_, rfl, Same.refl _⟩ (fun _ σ H' _ ⟨_, _, s⟩ => SqL.of (s _ _ e6)) ?_ ?_
      · rintro j z σ H1 hz ⟨x9, rfl, s0⟩
        have Oz : Ot K (JA K) Hb z := by
          match j, hz with
          | 0, hz => rw [← Option.some.inj hz]; exact nat_ot (by omega)
          | 1, hz => rw [← Option.some.inj hz]; exact Oy.any
          | j + 2, hz => simp at hz
        -- a bad text, a bad text
        refine ⟨_, rfl, ?_⟩
        refine copy_v mon_JD rfl Ox1 s0 fun c1 H1' cp1 s1 => ?_
        have t1 := s0.trans s1
        refine copy_v mon_JD rfl Ox2 t1 fun c2 H2' cp2 s2 => ?_
        have t2 := t1.trans s2
        refine copy_v mon_JA rfl Oz t2 fun c3 H3' cp3 s3 => ?_
        have t3 := t2.trans s3
        refine ⟨three, fun q1 hq1 => ?_⟩
        have cp1' := (cp1.same mon_JD s2).same mon_JD s3
        have cp2' := cp2.same mon_JD s3
        have n1 : Same H3' (upd H3' q1 (.lst [c1, c2, c3])) := Same.new (Same.refl H3') hq1
        obtain ⟨bz, jz⟩ := (cp3.same mon_JA n1).j mon_JA
        refine ⟨(i : Int), 0, q1, c1, c2, c3, c1, [116, 101, 120, 116], false, false, bz, rfl, ci, upd_same, (cp1'.same mon_JD n1).j mon_JD, (cp2'.same mon_JD n1).j mon_JD, jz, kT, .inl ⟨rfl, rfl⟩, .inl ⟨rfl, rfl⟩, (cp1'.same mon_JD n1).pl, cp1'.ne t3 hq1, fun H4' o4 => ⟨true, rfl, iteF ?_⟩⟩
        have t4 : Same Hb H4' := (cp1'.same mon_JD n1).stay o4 (t3.trans n1)
        -- a bad text, a good one
        refine ⟨_, rfl, ?_⟩
        refine copy_v mon_JD rfl Ox1 t4 fun c1 H5' cp1 s5 => ?_
        have t5 := t4.trans s5
        refine ⟨_, rfl, ?_⟩
        refine copy_v mon_JA rfl Oz t5 fun c3 H6' cp3 s6 => ?_
        have t6 := t5.trans s6
        refine ⟨three, fun q2 hq2 => ?_⟩
        have cp1' := cp1.same mon_JD s6
        have n2 : Same H6' (upd H6' q2 (.lst [c1, .str (S wd), c3])) := Same.new (Same.refl H6') hq2
        obtain ⟨bz, jz⟩ := (cp3.same mon_JA n2).j mon_JA
        refine ⟨(i : Int), 0, q2, c1, .str (S wd), c3, c1, [116, 101, 120, 116], false, true, bz, rfl, ci, upd_same, (cp1'.same mon_JD n2).j mon_JD, jw _, jz, kT, .inl ⟨rfl, rfl⟩, .inl ⟨rfl, rfl⟩, (cp1'.same mon_JD n2).pl, cp1'.ne t6 hq2, fun H7' o7 => ⟨true, rfl, iteF ?_⟩⟩
        have t7 : Same Hb H7' := (cp1'.same mon_JD n2).stay o7 (t6.trans n2)
        -- a good text, a bad one
        refine ⟨_, rfl, _, rfl, ?_⟩
        refine copy_v mon_JD rfl Ox2 t7 fun c2 H8' cp2 s8 => ?_
        have t8 := t7.trans s8
        refine copy_v mon_JA rfl Oz t8 fun c3 H9' cp3 s9 => ?_
        have t9 := t8.trans s9
        refine ⟨three, fun q3 hq3 => ?_⟩
        have cp2' := cp2.same mon_JD s9
        have n3 : Same H9' (upd H9' q3 (.lst [.str (S wd), c2, c3])) := Same.new (Same.refl H9') hq3
        obtain ⟨bz, jz⟩ := (cp3.same mon_JA n3).j mon_JA
        refine ⟨(i : Int), 1, q3, .str (S wd), c2, c3, c2, [116, 101, 120, 116], true, false, bz, rfl, ci, upd_same, jw _, (cp2'.same mon_JD n3).j mon_JD, jz, kT, .inr (.inl ⟨rfl, rfl, rfl⟩), .inr (.inl ⟨rfl, rfl⟩), (cp2'.same mon_JD n3).pl, cp2'.ne t9 hq3, fun Ha' oa => ⟨true, rfl, iteF ?_⟩⟩
        have ta : Same Hb Ha' := (cp2'.same mon_JD n3).stay oa (t9.trans n3)
        -- two empty ones
        refine ⟨_, rfl, ?_⟩
        refine copy_v mon_JA rfl Oz ta fun c3 Hc' cp3 sc => ?_
        have tc := ta.trans sc
        refine ⟨three, fun q4 hq4 => ?_⟩
        have n4 : Same Hc' (upd Hc' q4 (.lst [.str (Str.ofString ""), .str (Str.ofString ""), c3])) := Same.new (Same.refl Hc') hq4
        obtain ⟨bz, jz⟩ := (cp3.same mon_JA n4).j mon_JA
        refine ⟨(i : Int), 0, q4, .str (Str.ofString ""), .str (Str.ofString ""), c3, .str (Str.ofString ""), [116, 101, 120, 116], true, true, bz, rfl, ci, upd_same, jn _, jn _, jz, kT, .inr (.inr (.inl ⟨rfl, rfl, rfl, rfl, rfl⟩)), .inl ⟨rfl, rfl⟩, .inl ⟨"str", _, by decide +kernel, (Fit.str (k := 0) (w := 0) (z := []) (by simp) (fun c hc => by cases hc)).sh (by omega) (by omega), .base (.str _), .inl (.str _)⟩, (fun a e => by cases e), fun Hd' od => ⟨true, rfl, iteF ?_⟩⟩
        have td : Same Hb Hd' := fun b o e => od b o ((tc.trans n4) b o e) (fun z => by cases z)
        exact ⟨_, rfl, td⟩
      · rintro σ H1 ⟨x9, rfl, s0⟩
        -- an empty text, a bad one
        refine ⟨_, rfl, ?_⟩
        refine copy_v mon_JD rfl Ox2 s0 fun c2 H2' cp2 s2 => ?_
        have t2 := s0.trans s2
        refine ⟨three, fun q5 hq5 => ?_⟩
        have n5 : Same H2' (upd H2' q5 (.lst [.str (Str.ofString ""), c2, .int 1])) := Same.new (Same.refl H2') hq5
        refine ⟨(i : Int), 1, q5, .str (Str.ofString ""), c2, .int 1, c2, [116, 101, 120, 116], true, false, true, rfl, ci, upd_same, jn _, (cp2.same mon_JD n5).j mon_JD, jc_nat (M := 1), kT, .inr (.inl ⟨rfl, rfl, rfl⟩), .inr (.inl ⟨rfl, rfl⟩), (cp2.same mon_JD n5).pl, cp2.ne t2 hq5, fun H3' o3 => ⟨true, rfl, iteF ?_⟩⟩
        have t3 : Same Hb H3' := (cp2.same mon_JD n5).stay o3 (t2.trans n5)
        -- a bad number
        refine ⟨_, rfl, _, rfl, _, rfl, ?_⟩
        refine copy_v mon_JN rfl Oy t3 fun c3 H4' cp3 s4 => ?_
        have t4 := t3.trans s4
        refine ⟨three, fun q6 hq6 => ?_⟩
        have n6 : Same H4' (upd H4' q6 (.lst [.str (S wd), .str (S v), c3])) := Same.new (Same.refl H4') hq6
        refine ⟨(i : Int), 2, q6, .str (S wd), .str (S v), c3, c3, [99, 111, 117, 110, 116], true, true, false, rfl, ci, upd_same, jw _, jd_low lv, (cp3.same mon_JN n6).j mon_JN, kC, .inr (.inr (.inr ⟨rfl, rfl, wd, v, rfl, rfl, by omega, by omega, fun z => wne z.1, .inl ⟨rfl, rfl⟩⟩)), .inr (.inr ⟨rfl, rfl⟩), (cp3.same mon_JN n6).pl, cp3.ne t4 hq6, fun H5' o5 => ⟨true, rfl, iteF ?_⟩⟩
        have t5 : Same Hb H5' := (cp3.same mon_JN n6).stay o5 (t4.trans n6)
        -- all good
        refine ⟨_, rfl, _, rfl, three, fun q7 hq7 => ?_⟩
        have n7 : Same H5' (upd H5' q7 (.lst [.str (S wd), .str (Str.ofString ""), .int 0])) := Same.new (Same.refl H5') hq7
        refine ⟨(i : Int), q7, .str (S wd), .str (Str.ofString ""), .int 0, true, true, true, [], rfl, ci, upd_same, jw _, jn _, jc_nat (M := 0), .inr (.inr (.inr ⟨rfl, rfl, wd, [], rfl, rfl, by omega, by simp, fun z => wne z.1, .inr ⟨rfl, ⟨0, rfl, by omega⟩, rfl⟩⟩)), fun r H6' s6 hr6 => ⟨zer, fun z9 hz9 => ?_⟩⟩
        have nrz : r ≠ z9 := ne_of_none upd_same hz9
        have t6 := (t5.trans n7).trans s6
        refine ⟨.list [], .list [], .lst (SqL.of (by rw [upd_ne nrz]; exact upd_same)) .nil, .lst (SqL.of upd_same) .nil, rfl, rfl, _, rfl, ?_⟩
        refine iteF ?_
        have t7 : Same Hb (upd (upd H6' r (.lst [])) z9 (.lst [])) := Same.new (Same.new t6 hr6) hz9
        generalize upd (upd H6' r (.lst [])) z9 (.lst []) = H7' at t7
        refine ⟨_, rfl, _, rfl, three, fun q8 hq8 => ?_⟩
        have n8 : Same H7' (upd H7' q8 (.lst [.str (Str.ofString ""), .str (S wd), .int 2])) := Same.new (Same.refl H7') hq8
        refine ⟨(i : Int), q8, .str (Str.ofString ""), .str (S wd), .int 2, true, true, true, [], rfl, ci, upd_same, jn _, jw _, jc_nat (M := 2), .inr (.inr (.inr ⟨rfl, rfl, [], wd, rfl, rfl, by simp, by omega, fun z => wne z.2, .inr ⟨rfl, ⟨2, rfl, by omega⟩, rfl⟩⟩)), fun r2 H8' s8 hr8 => ⟨zer, fun z8 hz8 => ?_⟩⟩
        have nrz2 : r2 ≠ z8 := ne_of_none upd_same hz8
        have t8 := (t7.trans n8).trans s8
        refine ⟨.list [], .list [], .lst (SqL.of (by rw [upd_ne nrz2]; exact upd_same)) .nil, .lst (SqL.of upd_same) .nil, rfl, rfl, _, rfl, ?_⟩
        refine iteF ?_
        have t9 : Same Hb (upd (upd H8' r2 (.lst [])) z8 (.lst [])) := Same.new (Same.new t8 hr8) hz8
        exact ⟨_, _, rfl, k6.trans (Kp.of t9), (b6.same t9).mono (by omega)⟩
    · rintro σ H' ⟨x8, x9, rfl, k0, b0⟩
      exact kQ _ (k5.trans k0) (b0.mono (by omega))
end
end My

set_option Elab.async false
set_option linter.all false
set_option maxRecDepth 100000
set_option maxHeartbeats 8000000
namespace My
open PySem PySem.Spec PyProof.Rows L2
section
variable {P : Program} {w : World} {K : PySem.W.Frag} {mg : Str → Option Value} {base : Heap}
def spRight : Sp := fun vs H Q _ => ∃ (p : Addr), vs = [.ref p] ∧ BoxAt H p 0 ∧ ∀ H', Kp p H H' → Q (.bl true) H'
theorem ok_law_right (T : Txt K mg) : FnG P w K mg base CX0 8 T.f_law_right T.fd_law_right ["box"] spRight := by
  refine T.F_law_right.okG sc_law_right (fun vs H Q E h => ?_) (fun cdv A outer s H vs Q E hgd hr h => ?_)
  · obtain ⟨p, rfl, _⟩ := h; rfl
  · obtain ⟨p, rfl, hb, kQ⟩ := h
    refine ⟨_, (pss_cons (ps_set (i := 1) sc_law_right.nd rfl (Or.inl rfl) (pe_call (ok_law_letters T) (hr.mono (by decide)) rfl T.g_law_letters T.F_law_letters.kp T.b_law_letters .nil pass0 (pa_cons (pv 0) pa_nil)))
      (pss_cons (ps_asg (pe_call (ok_law_pair T) (hr.mono (by decide)) rfl T.g_law_pair T.F_law_pair.kp T.b_law_pair .nil pass0 (pa_cons (pv 0) (pa_cons (pv 1) pa_nil))) (pg_lst rfl (pgs_cons (pg_name (i := 2) sc_law_right.nd rfl (Or.inl rfl)) (pgs_cons (pg_name (i := 3) sc_law_right.nd rfl (Or.inl rfl)) pgs_nil))))
      (pss_cons (ps_asg (pe_call (ok_law_pair T) (hr.mono (by decide)) rfl T.g_law_pair T.F_law_pair.kp T.b_law_pair .nil pass0 (pa_cons (pv 0) (pa_cons (pv 1) pa_nil))) (pg_lst rfl (pgs_cons (pg_name (i := 4) sc_law_right.nd rfl (Or.inl rfl)) (pgs_cons (pg_name (i := 5) sc_law_right.nd rfl (Or.inl rfl)) pgs_nil))))
      (pss_cons (ps_if (PW.pt (pw_or (pt_not (pt_val (pe_callG (ok_law_pair_right T) hgd (hr.mono (by decide)) rfl T.g_law_pair_right T.F_law_pair_right.kp T.b_law_pair_right .nil pass0 (pa_cons (pv 0) (pa_cons (pv 2) (pa_cons (pv 3) pa_nil)))))) (pw_or1 (pt_not (pt_val (pe_callG (ok_law_pair_right T) hgd (hr.mono (by decide)) rfl T.g_law_pair_right T.F_law_pair_right.kp T.b_law_pair_right .nil pass0 (pa_cons (pv 0) (pa_cons (pv 4) (pa_cons (pv 5) pa_nil))))))))) (pss_one (ps_ret pe_bl)) pss_nil)
      (pss_cons (ps_if (pt_not (pt_val (pe_call (ok_law_wide_right T) (hr.mono (by decide)) rfl T.g_law_wide_right T.F_law_wide_right.kp T.b_law_wide_right .nil pass0 (pa_cons (pv 0) (pa_cons (pe_ix ix_list (pv 1) pe_int (fun _ _ => rfl)) pa_nil))))) (pss_one (ps_ret pe_bl)) pss_nil)
      (pss_one (ps_ret (pe_and (pe_callG (ok_law_refusals_right T) hgd (hr.mono (by decide)) rfl T.g_law_refusals_right T.F_law_refusals_right.kp T.b_law_refusals_right .nil pass0 (pa_cons (pv 0) (pa_cons (pv 1) (pa_cons (pv 2) (pa_cons (pv 3) pa_nil))))) (pe_one (pe_callG (ok_law_list_right T) hgd (hr.mono (by decide)) rfl T.g_law_list_right T.F_law_list_right.kp T.b_law_list_right .nil pass0 (pa_cons (pv 2) (pa_cons (pv 3) (pa_cons (pe_call (ok_law_take T) (hr.mono (by decide)) rfl T.g_law_take T.F_law_take.kp T.b_law_take .nil pass0 (pa_cons (pv 0) (pa_cons pe_int pa_nil))) pa_nil))))))))))))), ?_⟩
    refine ⟨_, rfl, p, 0, rfl, hb, by omega, fun l H1 a b k1 b1 hl npl => ?_⟩
    refine ⟨_, rfl, _, rfl, p, l, _, a, b, rfl, b1, by omega, hl, npl, fun t u q1 H2 wt wu bt bu h0 k2 b2 e2 _ => ?_⟩
    refine ⟨q1, _, rfl, SqL.of e2, rfl, _, _, rfl, _, _, rfl, rfl, ?_⟩
    have hl2 := hl.kp k2 npl
    refine ⟨_, rfl, _, rfl, p, l, _, a, b, rfl, b2, by omega, hl2, npl, fun t2 u2 q2 H3 wt2 wu2 bt2 bu2 h02 k3 b3 e3 _ => ?_⟩
    refine ⟨q2, _, rfl, SqL.of e3, rfl, _, _, rfl, _, _, rfl, rfl, ?_⟩
    have hl3 := hl2.kp k3 npl
    have lt := wt.low hl.2.1 hl.2.2
    have lu := wu.low hl.2.1 hl.2.2
    refine ⟨_, rfl, _, rfl, _, rfl, p, _, t, u, rfl, b3, by omega, h0, lt, lu, by omega, by omega, fun H6 k6 b6 => ⟨_, rfl, iteF ?_⟩⟩
    refine ⟨_, rfl, _, rfl, _, rfl, p, _, t2, u2, rfl, b6, by omega, h02, wt2.low hl.2.1 hl.2.2, wu2.low hl.2.1 hl.2.2, by omega, by omega, fun H7 k7 b7 => ⟨_, rfl, iteF ?_⟩⟩
    have hl7 := (hl3.kp k6 npl).kp k7 npl
    refine ⟨_, rfl, _, rfl, l, _, _, _, rfl, rfl, SqL.of hl7.1, atI_nat (j := 0) rfl, p, _, a, rfl, b7, by omega, hl.2.1, fun H8 k8 b8 => ⟨_, rfl, iteF ?_⟩⟩
    have hl8 := hl7.kp k8 npl
    refine ⟨_, rfl, _, rfl, _, rfl, _, rfl, p, l, _, a, b, t, u, rfl, b8, by omega, hl8, npl, lt, lu, by omega, by omega, fun H9 k9 b9 => ⟨_, rfl, iteT ?_⟩⟩
    refine ⟨_, rfl, _, rfl, _, rfl, p, _, 12, rfl, b9, by omega, by omega, by omega, fun d o hd ho => ?_⟩
    refine ⟨t, u, d, rfl, h0, lt, lu, by omega, by omega, by omega, fun H11 s11 => ?_⟩
    exact kQ H11 ((((((((k1.trans k2).trans k3).trans k6).trans k7).trans k8).trans k9).upd).trans (Kp.of s11))
def spLaw (K : PySem.W.Frag) : Sp := fun vs H Q _ => ∃ (a : Addr) (ns : List Int), vs = [.ref a] ∧ SqL K H a (ns.map V.int) ∧ ns.length ≤ 63 ∧ ∀ H', Q (.bl true) H'
theorem ok_law (T : Txt K mg) : FnG P w K mg base CX0 9 T.f_law T.fd_law ["script"] (spLaw K) := by
  refine T.F_law.okG sc_law (fun vs H Q E h => ?_) (fun cdv A outer s H vs Q E hgd hr h => ?_)
  · obtain ⟨a, ns, rfl, _⟩ := h; rfl
  · obtain ⟨a, ns, rfl, hS, hlen, q⟩ := h
    refine ⟨_, (pss_cons (ps_for PassesOwn.never rfl (pi_range1 rfl T.z_range (pa_cons (pe_callB (call_max2 rfl) (by rfl) T.z_max (by decide +kernel) (pa_cons pe_int (pa_cons (pe_callB (call_min2 rfl) (by rfl) T.z_min (by decide +kernel) (pa_cons pe_int (pa_cons (pe_callB call_len_seq (by rfl) T.z_len (by decide +kernel) (pa_cons (pv 0) pa_nil)) pa_nil))) pa_nil))) pa_nil)) (pg_name (i := 1) sc_law.nd rfl (Or.inl rfl)) (pss_one (ps_if (pt_not (pt_val (pe_callG (ok_law_right T) hgd (hr.mono (by decide)) rfl T.g_law_right T.F_law_right.kp T.b_law_right .nil pass0 (pa_cons (pe_call (ok_law_box T) (hr.mono (by decide)) rfl T.g_law_box T.F_law_box.kp T.b_law_box .nil pass0 (pa_cons (pe_call (ok_law_cell T) (hr.mono (by decide)) rfl T.g_law_cell T.F_law_cell.kp T.b_law_cell .nil pass0 (pa_cons (pv 0) (pa_cons (pv 1) pa_nil))) pa_nil)) pa_nil)))) (pss_one (ps_ret pe_bl)) pss_nil)))
      (pss_one (ps_ret pe_bl))), ?_⟩
    refine ⟨_, rfl, a, _, rfl, .inl hS, _, _, rfl, _, _, rfl, _, rfl, ?_, ?_, ?_⟩
    · split <;> split <;> omega
    · split <;> split <;> omega
    refine for_range (lo := 0) (fun i σ H' => ∃ x1, σ = [some (.ref a), x1] ∧ Same H H') ⟨_, rfl, Same.refl _⟩ ?_ ?_
    · rintro i σ H' hi ⟨x1, rfl, sH⟩
      rw [Int.zero_add]
      refine ⟨_, rfl, _, rfl, a, ns, i, rfl, hS.ext sH, fun c H1 s1 => ?_⟩
      refine ⟨c, rfl, fun p o hp ho => ?_⟩
      have sH1 := sH.trans s1
      have hpH : H p = none := sH1.free hp
      have s2 : Same H (upd H1 p o) := Same.new sH1 hp
      refine ⟨p, rfl, ho.at, fun H2 k2 => ⟨true, rfl, iteF ?_⟩⟩
      exact ⟨_, rfl, k2.toSame s2 hpH⟩
    · rintro σ H' ⟨x1, rfl, sH⟩
      exact q H'
end
end My

set_option Elab.async false
set_option linter.all false
set_option maxRecDepth 100000
set_option maxHeartbeats 8000000
namespace My
open PySem PySem.Spec PyProof.Rows L2
theorem exm_of {K : PySem.W.Frag} {S T : Addr} {b : Bool} (h1 : PySem.W.subIn K (.ref T) (.type "BaseException") = some true) (h2 : PySem.W.isClsIn K T = true) (h3 : PySem.W.typeIn K (.ref T) = some (.type "type")) (h4 : PySem.W.subIn K (.ref S) (.ref T) = some b) :
    PySem.W.exmOne K (.ref S) (.ref T) = some b := by
  have e1 : (PySem.W.subIn K (.ref T) (.type "BaseException") == some true) = true := by rw [h1] <;> rfl
  have e2 : ((PySem.W.clsIn K T).isSome && PySem.W.typeIn K (.ref T) == some (.type "type")) = true := by
    have h2' : (PySem.W.clsIn K T).isSome = true := h2
    rw [h2', h3] <;> rfl
  show (if (PySem.W.subIn K (.ref T) (.type "BaseException") == some true) = true then (if ((PySem.W.clsIn K T).isSome && PySem.W.typeIn K (.ref T) == some (.type "type")) = true then PySem.W.subIn K (.ref S) (.ref T) else none) else none) = some b
  rw [if_pos e1, if_pos e2]
  exact h4
theorem all_mk {P : Program} {w : World} {K : PySem.W.Frag} {h : Heap} {mg : Str → Option Value} {fa : Addr} (X : K.In h) (G : h.Ns mainGlobals mg) (hfa : mg "law" = some (.ref fa))
    {C0 I0 B0 : Addr} {nm0 q0 : Str} {N0 : Addr} {bs0 : List Value} {sn0 : List Str} {sub0 : List Value} {ab0 : Bool} {col0 : Option Bool} {dd0 : Option Addr} {m00 m10 m20 m30 m50 : Option Value}
    {ei0 en0 : Option Addr} {es0 : Array (Option Value)} {eo0 ed0 ep0 ec0 et0 : Value} {p10 p20 q10 q20 q30 q40 : Pos}
    {C1 I1 B1 : Addr} {nm1 q1 : Str} {N1 : Addr} {bs1 : List Value} {sn1 : List Str} {sub1 : List Value} {ab1 : Bool} {col1 : Option Bool} {dd1 : Option Addr} {m01 m11 m21 m31 m51 : Option Value}
    {ei1 en1 : Option Addr} {es1 : Array (Option Value)} {eo1 ed1 ep1 ec1 et1 : Value} {p11 p21 q11 q21 q31 q41 : Pos}
    {f0 : Addr} {od0 an0 : Option Addr} {sl0 : Array (Option Value)} {oc0 kV0 dc0 pm0 cd0 ct0 : Value}
    {f1 : Addr} {od1 an1 : Option Addr} {sl1 : Array (Option Value)} {oc1 kV1 dc1 pm1 cd1 ct1 : Value}
    {f2 : Addr} {od2 an2 : Option Addr} {sl2 : Array (Option Value)} {oc2 kV2 dc2 pm2 cd2 ct2 : Value}
    {f3 : Addr} {od3 an3 : Option Addr} {sl3 : Array (Option Value)} {oc3 kV3 dc3 pm3 cd3 ct3 : Value}
    {f4 : Addr} {od4 an4 : Option Addr} {sl4 : Array (Option Value)} {oc4 kV4 dc4 pm4 cd4 ct4 : Value}
    {f5 : Addr} {od5 an5 : Option Addr} {sl5 : Array (Option Value)} {oc5 kV5 dc5 pm5 cd5 ct5 : Value}
    {f6 : Addr} {od6 an6 : Option Addr} {sl6 : Array (Option Value)} {oc6 kV6 dc6 pm6 cd6 ct6 : Value}
    {f7 : Addr} {od7 an7 : Option Addr} {sl7 : Array (Option Value)} {oc7 kV7 dc7 pm7 cd7 ct7 : Value}
    {f8 : Addr} {od8 an8 : Option Addr} {sl8 : Array (Option Value)} {oc8 kV8 dc8 pm8 cd8 ct8 : Value}
    {f9 : Addr} {od9 an9 : Option Addr} {sl9 : Array (Option Value)} {oc9 kV9 dc9 pm9 cd9 ct9 : Value}
    {f10 : Addr} {od10 an10 : Option Addr} {sl10 : Array (Option Value)} {oc10 kV10 dc10 pm10 cd10 ct10 : Value}
    {f11 : Addr} {od11 an11 : Option Addr} {sl11 : Array (Option Value)} {oc11 kV11 dc11 pm11 cd11 ct11 : Value}
    {f12 : Addr} {od12 an12 : Option Addr} {sl12 : Array (Option Value)} {oc12 kV12 dc12 pm12 cd12 ct12 : Value}
    {f13 : Addr} {od13 an13 : Option Addr} {sl13 : Array (Option Value)} {oc13 kV13 dc13 pm13 cd13 ct13 : Value}
    {f14 : Addr} {od14 an14 : Option Addr} {sl14 : Array (Option Value)} {oc14 kV14 dc14 pm14 cd14 ct14 : Value}
    {f15 : Addr} {od15 an15 : Option Addr} {sl15 : Array (Option Value)} {oc15 kV15 dc15 pm15 cd15 ct15 : Value}
    {f16 : Addr} {od16 an16 : Option Addr} {sl16 : Array (Option Value)} {oc16 kV16 dc16 pm16 cd16 ct16 : Value}
    {f17 : Addr} {od17 an17 : Option Addr} {sl17 : Array (Option Value)} {oc17 kV17 dc17 pm17 cd17 ct17 : Value}
    {f18 : Addr} {od18 an18 : Option Addr} {sl18 : Array (Option Value)} {oc18 kV18 dc18 pm18 cd18 ct18 : Value}
    {f19 : Addr} {od19 an19 : Option Addr} {sl19 : Array (Option Value)} {oc19 kV19 dc19 pm19 cd19 ct19 : Value}
    {f20 : Addr} {od20 an20 : Option Addr} {sl20 : Array (Option Value)} {oc20 kV20 dc20 pm20 cd20 ct20 : Value}
    {f21 : Addr} {od21 an21 : Option Addr} {sl21 : Array (Option Value)} {oc21 kV21 dc21 pm21 cd21 ct21 : Value}
    {f22 : Addr} {od22 an22 : Option Addr} {sl22 : Array (Option Value)} {oc22 kV22 dc22 pm22 cd22 ct22 : Value}
    {f23 : Addr} {od23 an23 : Option Addr} {sl23 : Array (Option Value)} {oc23 kV23 dc23 pm23 cd23 ct23 : Value}
    {f24 : Addr} {od24 an24 : Option Addr} {sl24 : Array (Option Value)} {oc24 kV24 dc24 pm24 cd24 ct24 : Value}
    {f25 : Addr} {od25 an25 : Option Addr} {sl25 : Array (Option Value)} {oc25 kV25 dc25 pm25 cd25 ct25 : Value}
    {f26 : Addr} {od26 an26 : Option Addr} {sl26 : Array (Option Value)} {oc26 kV26 dc26 pm26 cd26 ct26 : Value}
    {f27 : Addr} {od27 an27 : Option Addr} {sl27 : Array (Option Value)} {oc27 kV27 dc27 pm27 cd27 ct27 : Value}
    {f28 : Addr} {od28 an28 : Option Addr} {sl28 : Array (Option Value)} {oc28 kV28 dc28 pm28 cd28 ct28 : Value}
    {f29 : Addr} {od29 an29 : Option Addr} {sl29 : Array (Option Value)} {oc29 kV29 dc29 pm29 cd29 ct29 : Value}
    {f30 : Addr} {od30 an30 : Option Addr} {sl30 : Array (Option Value)} {oc30 kV30 dc30 pm30 cd30 ct30 : Value}
    {f31 : Addr} {od31 an31 : Option Addr} {sl31 : Array (Option Value)} {oc31 kV31 dc31 pm31 cd31 ct31 : Value}
    {f32 : Addr} {od32 an32 : Option Addr} {sl32 : Array (Option Value)} {oc32 kV32 dc32 pm32 cd32 ct32 : Value}
    {f33 : Addr} {od33 an33 : Option Addr} {sl33 : Array (Option Value)} {oc33 kV33 dc33 pm33 cd33 ct33 : Value}
    (eC0 : PySem.W.nsIn K mainGlobals "InvalidCount" = some (some (.ref C0)))
    (eL0 : K.lookup C0 = some (excClassObj nm0 q0 C0 N0 bs0 [.ref B0, .type "Exception", .type "BaseException", .type "object"] true sn0 sub0 ab0 col0 dd0 m00 m10 m20 m30 m50 "Exception.__new__"))
    (etk0 : PySem.W.takerIn K C0 "given" = some none)
    (esa0 : PySem.W.findIn K (.ref C0) "__setattr__" = some (some (.builtin "object.__setattr__")))
    (ega0 : PySem.W.findIn K (.ref C0) "__getattribute__" = some (some (.builtin "BaseException.__getattribute__")))
    (egg0 : PySem.W.findIn K (.ref C0) "__getattr__" = some none)
    (eno0 : PySem.W.findIn K (.ref C0) "given" = some none)
    (ein0 : PySem.W.findIn K (.ref C0) "__init__" = some (some (.ref I0)))
    (eti0 : PySem.W.typeIn K (.ref I0) = some (.type "function"))
    (ekC0 : PySem.W.keepIn K (.ref C0) = true)
    (eeC0 : PySem.W.subIn K (.ref C0) (.type "BaseException") = some true)
    (etC0 : PySem.W.typeIn K (.ref C0) = some (.type "type"))
    (ehC0 : PySem.W.hasDictIn K C0 = true)
    (eiC0 : PySem.W.isClsIn K C0 = true)
    (esC0 : PySem.W.subIn K (.ref C0) (.ref C0) = some true)
    (efn0 : K.lookup I0 = some ⟨eo0, ei0, .func (PySem.W.fnOf "__init__" "InvalidCount.__init__" (ErrX.iA p10 p20) (ErrX.iB q10 q20 q30 q40) ErrX.iS .none .none ed0 ep0 en0 ec0 et0), es0⟩)
    (eco0 : PySem.W.codeIn K ec0 "InvalidCount.__init__" = true)
    (eC1 : PySem.W.nsIn K mainGlobals "InvalidText" = some (some (.ref C1)))
    (eL1 : K.lookup C1 = some (excClassObj nm1 q1 C1 N1 bs1 [.ref B1, .type "Exception", .type "BaseException", .type "object"] true sn1 sub1 ab1 col1 dd1 m01 m11 m21 m31 m51 "Exception.__new__"))
    (etk1 : PySem.W.takerIn K C1 "given" = some none)
    (esa1 : PySem.W.findIn K (.ref C1) "__setattr__" = some (some (.builtin "object.__setattr__")))
    (ega1 : PySem.W.findIn K (.ref C1) "__getattribute__" = some (some (.builtin "BaseException.__getattribute__")))
    (egg1 : PySem.W.findIn K (.ref C1) "__getattr__" = some none)
    (eno1 : PySem.W.findIn K (.ref C1) "given" = some none)
    (ein1 : PySem.W.findIn K (.ref C1) "__init__" = some (some (.ref I1)))
    (eti1 : PySem.W.typeIn K (.ref I1) = some (.type "function"))
    (ekC1 : PySem.W.keepIn K (.ref C1) = true)
    (eeC1 : PySem.W.subIn K (.ref C1) (.type "BaseException") = some true)
    (etC1 : PySem.W.typeIn K (.ref C1) = some (.type "type"))
    (ehC1 : PySem.W.hasDictIn K C1 = true)
    (eiC1 : PySem.W.isClsIn K C1 = true)
    (esC1 : PySem.W.subIn K (.ref C1) (.ref C1) = some true)
    (efn1 : K.lookup I1 = some ⟨eo1, ei1, .func (PySem.W.fnOf "__init__" "InvalidText.__init__" (ErrX.iA p11 p21) (ErrX.iB q11 q21 q31 q41) ErrX.iS .none .none ed1 ep1 en1 ec1 et1), es1⟩)
    (eco1 : PySem.W.codeIn K ec1 "InvalidText.__init__" = true)
    (en_0_1 : PySem.W.subIn K (.ref C0) (.ref C1) = some false)
    (en_1_0 : PySem.W.subIn K (.ref C1) (.ref C0) = some false)
    (a0 : PySem.W.nsIn K mainGlobals "is_integer" = some (some (.ref f0)))
    (l0 : K.lookup f0 = some ⟨oc0, od0, .func (PySem.W.fnOf "is_integer" "is_integer" (defArgs s_is_integer) (defBody s_is_integer) (defScope s_is_integer) .none kV0 dc0 pm0 an0 cd0 ct0), sl0⟩)
    (c0 : PySem.W.codeIn K cd0 "is_integer" = true)
    (k0 : PySem.W.keepIn K (.ref f0) = true)
    (a1 : PySem.W.nsIn K mainGlobals "is_count" = some (some (.ref f1)))
    (l1 : K.lookup f1 = some ⟨oc1, od1, .func (PySem.W.fnOf "is_count" "is_count" (defArgs s_is_count) (defBody s_is_count) (defScope s_is_count) .none kV1 dc1 pm1 an1 cd1 ct1), sl1⟩)
    (c1 : PySem.W.codeIn K cd1 "is_count" = true)
    (k1 : PySem.W.keepIn K (.ref f1) = true)
    (a2 : PySem.W.nsIn K mainGlobals "is_text" = some (some (.ref f2)))
    (l2 : K.lookup f2 = some ⟨oc2, od2, .func (PySem.W.fnOf "is_text" "is_text" (defArgs s_is_text) (defBody s_is_text) (defScope s_is_text) .none kV2 dc2 pm2 an2 cd2 ct2), sl2⟩)
    (c2 : PySem.W.codeIn K cd2 "is_text" = true)
    (k2 : PySem.W.keepIn K (.ref f2) = true)
    (a3 : PySem.W.nsIn K mainGlobals "lag_behind" = some (some (.ref f3)))
    (l3 : K.lookup f3 = some ⟨oc3, od3, .func (PySem.W.fnOf "lag_behind" "lag_behind" (defArgs s_lag_behind) (defBody s_lag_behind) (defScope s_lag_behind) .none kV3 dc3 pm3 an3 cd3 ct3), sl3⟩)
    (c3 : PySem.W.codeIn K cd3 "lag_behind" = true)
    (k3 : PySem.W.keepIn K (.ref f3) = true)
    (a4 : PySem.W.nsIn K mainGlobals "staying" = some (some (.ref f4)))
    (l4 : K.lookup f4 = some ⟨oc4, od4, .func (PySem.W.fnOf "staying" "staying" (defArgs s_staying) (defBody s_staying) (defScope s_staying) .none kV4 dc4 pm4 an4 cd4 ct4), sl4⟩)
    (c4 : PySem.W.codeIn K cd4 "staying" = true)
    (k4 : PySem.W.keepIn K (.ref f4) = true)
    (a5 : PySem.W.nsIn K mainGlobals "check_texts" = some (some (.ref f5)))
    (l5 : K.lookup f5 = some ⟨oc5, od5, .func (PySem.W.fnOf "check_texts" "check_texts" (defArgs s_check_texts) (defBody s_check_texts) (defScope s_check_texts) .none kV5 dc5 pm5 an5 cd5 ct5), sl5⟩)
    (c5 : PySem.W.codeIn K cd5 "check_texts" = true)
    (k5 : PySem.W.keepIn K (.ref f5) = true)
    (a6 : PySem.W.nsIn K mainGlobals "is_lag" = some (some (.ref f6)))
    (l6 : K.lookup f6 = some ⟨oc6, od6, .func (PySem.W.fnOf "is_lag" "is_lag" (defArgs s_is_lag) (defBody s_is_lag) (defScope s_is_lag) .none kV6 dc6 pm6 an6 cd6 ct6), sl6⟩)
    (c6 : PySem.W.codeIn K cd6 "is_lag" = true)
    (k6 : PySem.W.keepIn K (.ref f6) = true)
    (a7 : PySem.W.nsIn K mainGlobals "length_of_root" = some (some (.ref f7)))
    (l7 : K.lookup f7 = some ⟨oc7, od7, .func (PySem.W.fnOf "length_of_root" "length_of_root" (defArgs s_length_of_root) (defBody s_length_of_root) (defScope s_length_of_root) .none kV7 dc7 pm7 an7 cd7 ct7), sl7⟩)
    (c7 : PySem.W.codeIn K cd7 "length_of_root" = true)
    (k7 : PySem.W.keepIn K (.ref f7) = true)
    (a8 : PySem.W.nsIn K mainGlobals "turns_between" = some (some (.ref f8)))
    (l8 : K.lookup f8 = some ⟨oc8, od8, .func (PySem.W.fnOf "turns_between" "turns_between" (defArgs s_turns_between) (defBody s_turns_between) (defScope s_turns_between) .none kV8 dc8 pm8 an8 cd8 ct8), sl8⟩)
    (c8 : PySem.W.codeIn K cd8 "turns_between" = true)
    (k8 : PySem.W.keepIn K (.ref f8) = true)
    (a9 : PySem.W.nsIn K mainGlobals "lag_onward" = some (some (.ref f9)))
    (l9 : K.lookup f9 = some ⟨oc9, od9, .func (PySem.W.fnOf "lag_onward" "lag_onward" (defArgs s_lag_onward) (defBody s_lag_onward) (defScope s_lag_onward) .none kV9 dc9 pm9 an9 cd9 ct9), sl9⟩)
    (c9 : PySem.W.codeIn K cd9 "lag_onward" = true)
    (k9 : PySem.W.keepIn K (.ref f9) = true)
    (a10 : PySem.W.nsIn K mainGlobals "lag_of_number" = some (some (.ref f10)))
    (l10 : K.lookup f10 = some ⟨oc10, od10, .func (PySem.W.fnOf "lag_of_number" "lag_of_number" (defArgs s_lag_of_number) (defBody s_lag_of_number) (defScope s_lag_of_number) .none kV10 dc10 pm10 an10 cd10 ct10), sl10⟩)
    (c10 : PySem.W.codeIn K cd10 "lag_of_number" = true)
    (k10 : PySem.W.keepIn K (.ref f10) = true)
    (a11 : PySem.W.nsIn K mainGlobals "around" = some (some (.ref f11)))
    (l11 : K.lookup f11 = some ⟨oc11, od11, .func (PySem.W.fnOf "around" "around" (defArgs s_around) (defBody s_around) (defScope s_around) .none kV11 dc11 pm11 an11 cd11 ct11), sl11⟩)
    (c11 : PySem.W.codeIn K cd11 "around" = true)
    (k11 : PySem.W.keepIn K (.ref f11) = true)
    (a12 : PySem.W.nsIn K mainGlobals "_law_cell" = some (some (.ref f12)))
    (l12 : K.lookup f12 = some ⟨oc12, od12, .func (PySem.W.fnOf "_law_cell" "_law_cell" (defArgs s_law_cell) (defBody s_law_cell) (defScope s_law_cell) .none kV12 dc12 pm12 an12 cd12 ct12), sl12⟩)
    (c12 : PySem.W.codeIn K cd12 "_law_cell" = true)
    (k12 : PySem.W.keepIn K (.ref f12) = true)
    (a13 : PySem.W.nsIn K mainGlobals "_law_box" = some (some (.ref f13)))
    (l13 : K.lookup f13 = some ⟨oc13, od13, .func (PySem.W.fnOf "_law_box" "_law_box" (defArgs s_law_box) (defBody s_law_box) (defScope s_law_box) .none kV13 dc13 pm13 an13 cd13 ct13), sl13⟩)
    (c13 : PySem.W.codeIn K cd13 "_law_box" = true)
    (k13 : PySem.W.keepIn K (.ref f13) = true)
    (a14 : PySem.W.nsIn K mainGlobals "_law_take" = some (some (.ref f14)))
    (l14 : K.lookup f14 = some ⟨oc14, od14, .func (PySem.W.fnOf "_law_take" "_law_take" (defArgs s_law_take) (defBody s_law_take) (defScope s_law_take) .none kV14 dc14 pm14 an14 cd14 ct14), sl14⟩)
    (c14 : PySem.W.codeIn K cd14 "_law_take" = true)
    (k14 : PySem.W.keepIn K (.ref f14) = true)
    (a15 : PySem.W.nsIn K mainGlobals "_law_letters" = some (some (.ref f15)))
    (l15 : K.lookup f15 = some ⟨oc15, od15, .func (PySem.W.fnOf "_law_letters" "_law_letters" (defArgs s_law_letters) (defBody s_law_letters) (defScope s_law_letters) .none kV15 dc15 pm15 an15 cd15 ct15), sl15⟩)
    (c15 : PySem.W.codeIn K cd15 "_law_letters" = true)
    (k15 : PySem.W.keepIn K (.ref f15) = true)
    (a16 : PySem.W.nsIn K mainGlobals "_law_word" = some (some (.ref f16)))
    (l16 : K.lookup f16 = some ⟨oc16, od16, .func (PySem.W.fnOf "_law_word" "_law_word" (defArgs s_law_word) (defBody s_law_word) (defScope s_law_word) .none kV16 dc16 pm16 an16 cd16 ct16), sl16⟩)
    (c16 : PySem.W.codeIn K cd16 "_law_word" = true)
    (k16 : PySem.W.keepIn K (.ref f16) = true)
    (a17 : PySem.W.nsIn K mainGlobals "_law_pair" = some (some (.ref f17)))
    (l17 : K.lookup f17 = some ⟨oc17, od17, .func (PySem.W.fnOf "_law_pair" "_law_pair" (defArgs s_law_pair) (defBody s_law_pair) (defScope s_law_pair) .none kV17 dc17 pm17 an17 cd17 ct17), sl17⟩)
    (c17 : PySem.W.codeIn K cd17 "_law_pair" = true)
    (k17 : PySem.W.keepIn K (.ref f17) = true)
    (a18 : PySem.W.nsIn K mainGlobals "_law_root_length" = some (some (.ref f18)))
    (l18 : K.lookup f18 = some ⟨oc18, od18, .func (PySem.W.fnOf "_law_root_length" "_law_root_length" (defArgs s_law_root_length) (defBody s_law_root_length) (defScope s_law_root_length) .none kV18 dc18 pm18 an18 cd18 ct18), sl18⟩)
    (c18 : PySem.W.codeIn K cd18 "_law_root_length" = true)
    (k18 : PySem.W.keepIn K (.ref f18) = true)
    (a19 : PySem.W.nsIn K mainGlobals "_law_numbered" = some (some (.ref f19)))
    (l19 : K.lookup f19 = some ⟨oc19, od19, .func (PySem.W.fnOf "_law_numbered" "_law_numbered" (defArgs s_law_numbered) (defBody s_law_numbered) (defScope s_law_numbered) .none kV19 dc19 pm19 an19 cd19 ct19), sl19⟩)
    (c19 : PySem.W.codeIn K cd19 "_law_numbered" = true)
    (k19 : PySem.W.keepIn K (.ref f19) = true)
    (a20 : PySem.W.nsIn K mainGlobals "_law_stays" = some (some (.ref f20)))
    (l20 : K.lookup f20 = some ⟨oc20, od20, .func (PySem.W.fnOf "_law_stays" "_law_stays" (defArgs s_law_stays) (defBody s_law_stays) (defScope s_law_stays) .none kV20 dc20 pm20 an20 cd20 ct20), sl20⟩)
    (c20 : PySem.W.codeIn K cd20 "_law_stays" = true)
    (k20 : PySem.W.keepIn K (.ref f20) = true)
    (a21 : PySem.W.nsIn K mainGlobals "_law_due" = some (some (.ref f21)))
    (l21 : K.lookup f21 = some ⟨oc21, od21, .func (PySem.W.fnOf "_law_due" "_law_due" (defArgs s_law_due) (defBody s_law_due) (defScope s_law_due) .none kV21 dc21 pm21 an21 cd21 ct21), sl21⟩)
    (c21 : PySem.W.codeIn K cd21 "_law_due" = true)
    (k21 : PySem.W.keepIn K (.ref f21) = true)
    (a22 : PySem.W.nsIn K mainGlobals "_law_number" = some (some (.ref f22)))
    (l22 : K.lookup f22 = some ⟨oc22, od22, .func (PySem.W.fnOf "_law_number" "_law_number" (defArgs s_law_number) (defBody s_law_number) (defScope s_law_number) .none kV22 dc22 pm22 an22 cd22 ct22), sl22⟩)
    (c22 : PySem.W.codeIn K cd22 "_law_number" = true)
    (k22 : PySem.W.keepIn K (.ref f22) = true)
    (a23 : PySem.W.nsIn K mainGlobals "_law_highest" = some (some (.ref f23)))
    (l23 : K.lookup f23 = some ⟨oc23, od23, .func (PySem.W.fnOf "_law_highest" "_law_highest" (defArgs s_law_highest) (defBody s_law_highest) (defScope s_law_highest) .none kV23 dc23 pm23 an23 cd23 ct23), sl23⟩)
    (c23 : PySem.W.codeIn K cd23 "_law_highest" = true)
    (k23 : PySem.W.keepIn K (.ref f23) = true)
    (a24 : PySem.W.nsIn K mainGlobals "_law_list_right" = some (some (.ref f24)))
    (l24 : K.lookup f24 = some ⟨oc24, od24, .func (PySem.W.fnOf "_law_list_right" "_law_list_right" (defArgs s_law_list_right) (defBody s_law_list_right) (defScope s_law_list_right) .none kV24 dc24 pm24 an24 cd24 ct24), sl24⟩)
    (c24 : PySem.W.codeIn K cd24 "_law_list_right" = true)
    (k24 : PySem.W.keepIn K (.ref f24) = true)
    (a25 : PySem.W.nsIn K mainGlobals "_law_pair_right" = some (some (.ref f25)))
    (l25 : K.lookup f25 = some ⟨oc25, od25, .func (PySem.W.fnOf "_law_pair_right" "_law_pair_right" (defArgs s_law_pair_right) (defBody s_law_pair_right) (defScope s_law_pair_right) .none kV25 dc25 pm25 an25 cd25 ct25), sl25⟩)
    (c25 : PySem.W.codeIn K cd25 "_law_pair_right" = true)
    (k25 : PySem.W.keepIn K (.ref f25) = true)
    (a26 : PySem.W.nsIn K mainGlobals "_law_wide_right" = some (some (.ref f26)))
    (l26 : K.lookup f26 = some ⟨oc26, od26, .func (PySem.W.fnOf "_law_wide_right" "_law_wide_right" (defArgs s_law_wide_right) (defBody s_law_wide_right) (defScope s_law_wide_right) .none kV26 dc26 pm26 an26 cd26 ct26), sl26⟩)
    (c26 : PySem.W.codeIn K cd26 "_law_wide_right" = true)
    (k26 : PySem.W.keepIn K (.ref f26) = true)
    (a27 : PySem.W.nsIn K mainGlobals "_law_bad_text" = some (some (.ref f27)))
    (l27 : K.lookup f27 = some ⟨oc27, od27, .func (PySem.W.fnOf "_law_bad_text" "_law_bad_text" (defArgs s_law_bad_text) (defBody s_law_bad_text) (defScope s_law_bad_text) .none kV27 dc27 pm27 an27 cd27 ct27), sl27⟩)
    (c27 : PySem.W.codeIn K cd27 "_law_bad_text" = true)
    (k27 : PySem.W.keepIn K (.ref f27) = true)
    (a28 : PySem.W.nsIn K mainGlobals "_law_told" = some (some (.ref f28)))
    (l28 : K.lookup f28 = some ⟨oc28, od28, .func (PySem.W.fnOf "_law_told" "_law_told" (defArgs s_law_told) (defBody s_law_told) (defScope s_law_told) .none kV28 dc28 pm28 an28 cd28 ct28), sl28⟩)
    (c28 : PySem.W.codeIn K cd28 "_law_told" = true)
    (k28 : PySem.W.keepIn K (.ref f28) = true)
    (a29 : PySem.W.nsIn K mainGlobals "_law_refuses" = some (some (.ref f29)))
    (l29 : K.lookup f29 = some ⟨oc29, od29, .func (PySem.W.fnOf "_law_refuses" "_law_refuses" (defArgs s_law_refuses) (defBody s_law_refuses) (defScope s_law_refuses) .none kV29 dc29 pm29 an29 cd29 ct29), sl29⟩)
    (c29 : PySem.W.codeIn K cd29 "_law_refuses" = true)
    (k29 : PySem.W.keepIn K (.ref f29) = true)
    (a30 : PySem.W.nsIn K mainGlobals "_law_copy" = some (some (.ref f30)))
    (l30 : K.lookup f30 = some ⟨oc30, od30, .func (PySem.W.fnOf "_law_copy" "_law_copy" (defArgs s_law_copy) (defBody s_law_copy) (defScope s_law_copy) .none kV30 dc30 pm30 an30 cd30 ct30), sl30⟩)
    (c30 : PySem.W.codeIn K cd30 "_law_copy" = true)
    (k30 : PySem.W.keepIn K (.ref f30) = true)
    (a31 : PySem.W.nsIn K mainGlobals "_law_refusals_right" = some (some (.ref f31)))
    (l31 : K.lookup f31 = some ⟨oc31, od31, .func (PySem.W.fnOf "_law_refusals_right" "_law_refusals_right" (defArgs s_law_refusals_right) (defBody s_law_refusals_right) (defScope s_law_refusals_right) .none kV31 dc31 pm31 an31 cd31 ct31), sl31⟩)
    (c31 : PySem.W.codeIn K cd31 "_law_refusals_right" = true)
    (k31 : PySem.W.keepIn K (.ref f31) = true)
    (a32 : PySem.W.nsIn K mainGlobals "_law_right" = some (some (.ref f32)))
    (l32 : K.lookup f32 = some ⟨oc32, od32, .func (PySem.W.fnOf "_law_right" "_law_right" (defArgs s_law_right) (defBody s_law_right) (defScope s_law_right) .none kV32 dc32 pm32 an32 cd32 ct32), sl32⟩)
    (c32 : PySem.W.codeIn K cd32 "_law_right" = true)
    (k32 : PySem.W.keepIn K (.ref f32) = true)
    (a33 : PySem.W.nsIn K mainGlobals "law" = some (some (.ref f33)))
    (l33 : K.lookup f33 = some ⟨oc33, od33, .func (PySem.W.fnOf "law" "law" (defArgs s_law) (defBody s_law) (defScope s_law) .none kV33 dc33 pm33 an33 cd33 ct33), sl33⟩)
    (c33 : PySem.W.codeIn K cd33 "law" = true)
    (k33 : PySem.W.keepIn K (.ref f33) = true)
    (z_abs : PySem.W.nsIn K mainGlobals "abs" = some none)
    (z_bool : PySem.W.nsIn K mainGlobals "bool" = some none)
    (z_int : PySem.W.nsIn K mainGlobals "int" = some none)
    (z_isinstance : PySem.W.nsIn K mainGlobals "isinstance" = some none)
    (z_len : PySem.W.nsIn K mainGlobals "len" = some none)
    (z_list : PySem.W.nsIn K mainGlobals "list" = some none)
    (z_max : PySem.W.nsIn K mainGlobals "max" = some none)
    (z_min : PySem.W.nsIn K mainGlobals "min" = some none)
    (z_range : PySem.W.nsIn K mainGlobals "range" = some none)
    (z_repr : PySem.W.nsIn K mainGlobals "repr" = some none)
    (z_str : PySem.W.nsIn K mainGlobals "str" = some none)
    (z_sum : PySem.W.nsIn K mainGlobals "sum" = some none)
    (z_tuple : PySem.W.nsIn K mainGlobals "tuple" = some none) :
    ∃ fd : FuncData, (∀ (s : Shared) (v : Value), BindsTo s fd ⟨[v], []⟩ [("script", v)]) ∧ ∀ base : Heap, K.In base → base.Ns mainGlobals mg → FnG P w K mg base CX0 9 fa fd ["script"] (spLaw K) := by
  have e := hfa.symm.trans (PySem.W.mg_of X G a33)
  cases e
  have F0 := fun_mk (st := s_is_integer) l0 c0 k0
  have b0 := F0.binds (ps := ["value"]) fun _ _ _ _ _ _ us hl => match us, hl with | [_], _ => rfl
  have F1 := fun_mk (st := s_is_count) l1 c1 k1
  have b1 := F1.binds (ps := ["value"]) fun _ _ _ _ _ _ us hl => match us, hl with | [_], _ => rfl
  have F2 := fun_mk (st := s_is_text) l2 c2 k2
  have b2 := F2.binds (ps := ["value"]) fun _ _ _ _ _ _ us hl => match us, hl with | [_], _ => rfl
  have F3 := fun_mk (st := s_lag_behind) l3 c3 k3
  have b3 := F3.binds (ps := ["lag", "one", "other"]) fun _ _ _ _ _ _ us hl => match us, hl with | [_, _, _], _ => rfl
  have F4 := fun_mk (st := s_staying) l4 c4 k4
  have b4 := F4.binds (ps := ["one", "other", "most"]) fun _ _ _ _ _ _ us hl => match us, hl with | [_, _, _], _ => rfl
  have F5 := fun_mk (st := s_check_texts) l5 c5 k5
  have b5 := F5.binds (ps := ["one", "other"]) fun _ _ _ _ _ _ us hl => match us, hl with | [_, _], _ => rfl
  have F6 := fun_mk (st := s_is_lag) l6 c6 k6
  have b6 := F6.binds (ps := ["value"]) fun _ _ _ _ _ _ us hl => match us, hl with | [_], _ => rfl
  have F7 := fun_mk (st := s_length_of_root) l7 c7 k7
  have b7 := F7.binds (ps := ["text"]) fun _ _ _ _ _ _ us hl => match us, hl with | [_], _ => rfl
  have F8 := fun_mk (st := s_turns_between) l8 c8 k8
  have b8 := F8.binds (ps := ["one", "other"]) fun _ _ _ _ _ _ us hl => match us, hl with | [_, _], _ => rfl
  have F9 := fun_mk (st := s_lag_onward) l9 c9 k9
  have b9 := F9.binds (ps := ["lag", "one", "other"]) fun _ _ _ _ _ _ us hl => match us, hl with | [_, _, _], _ => rfl
  have F10 := fun_mk (st := s_lag_of_number) l10 c10 k10
  have b10 := F10.binds (ps := ["number", "one", "other"]) fun _ _ _ _ _ _ us hl => match us, hl with | [_, _, _], _ => rfl
  have F11 := fun_mk (st := s_around) l11 c11 k11
  have b11 := F11.binds (ps := ["text", "start", "many"]) fun _ _ _ _ _ _ us hl => match us, hl with | [_, _, _], _ => rfl
  have F12 := fun_mk (st := s_law_cell) l12 c12 k12
  have b12 := F12.binds (ps := ["script", "k"]) fun _ _ _ _ _ _ us hl => match us, hl with | [_, _], _ => rfl
  have F13 := fun_mk (st := s_law_box) l13 c13 k13
  have b13 := F13.binds (ps := ["great"]) fun _ _ _ _ _ _ us hl => match us, hl with | [_], _ => rfl
  have F14 := fun_mk (st := s_law_take) l14 c14 k14
  have b14 := F14.binds (ps := ["box", "many"]) fun _ _ _ _ _ _ us hl => match us, hl with | [_, _], _ => rfl
  have F15 := fun_mk (st := s_law_letters) l15 c15 k15
  have b15 := F15.binds (ps := ["box"]) fun _ _ _ _ _ _ us hl => match us, hl with | [_], _ => rfl
  have F16 := fun_mk (st := s_law_word) l16 c16 k16
  have b16 := F16.binds (ps := ["box", "letters", "size"]) fun _ _ _ _ _ _ us hl => match us, hl with | [_, _, _], _ => rfl
  have F17 := fun_mk (st := s_law_pair) l17 c17 k17
  have b17 := F17.binds (ps := ["box", "letters"]) fun _ _ _ _ _ _ us hl => match us, hl with | [_, _], _ => rfl
  have F18 := fun_mk (st := s_law_root_length) l18 c18 k18
  have b18 := F18.binds (ps := ["word"]) fun _ _ _ _ _ _ us hl => match us, hl with | [_], _ => rfl
  have F19 := fun_mk (st := s_law_numbered) l19 c19 k19
  have b19 := F19.binds (ps := ["left", "right", "number"]) fun _ _ _ _ _ _ us hl => match us, hl with | [_, _, _], _ => rfl
  have F20 := fun_mk (st := s_law_stays) l20 c20 k20
  have b20 := F20.binds (ps := ["pair", "left", "right"]) fun _ _ _ _ _ _ us hl => match us, hl with | [_, _, _], _ => rfl
  have F21 := fun_mk (st := s_law_due) l21 c21 k21
  have b21 := F21.binds (ps := ["left", "right", "highest"]) fun _ _ _ _ _ _ us hl => match us, hl with | [_, _, _], _ => rfl
  have F22 := fun_mk (st := s_law_number) l22 c22 k22
  have b22 := F22.binds (ps := ["pair"]) fun _ _ _ _ _ _ us hl => match us, hl with | [_], _ => rfl
  have F23 := fun_mk (st := s_law_highest) l23 c23 k23
  have b23 := F23.binds (ps := ["box", "left", "right"]) fun _ _ _ _ _ _ us hl => match us, hl with | [_, _, _], _ => rfl
  have F24 := fun_mk (st := s_law_list_right) l24 c24 k24
  have b24 := F24.binds (ps := ["left", "right", "highest"]) fun _ _ _ _ _ _ us hl => match us, hl with | [_, _, _], _ => rfl
  have F25 := fun_mk (st := s_law_pair_right) l25 c25 k25
  have b25 := F25.binds (ps := ["box", "left", "right"]) fun _ _ _ _ _ _ us hl => match us, hl with | [_, _, _], _ => rfl
  have F26 := fun_mk (st := s_law_wide_right) l26 c26 k26
  have b26 := F26.binds (ps := ["box", "letter"]) fun _ _ _ _ _ _ us hl => match us, hl with | [_, _], _ => rfl
  have F27 := fun_mk (st := s_law_bad_text) l27 c27 k27
  have b27 := F27.binds (ps := ["box", "letters"]) fun _ _ _ _ _ _ us hl => match us, hl with | [_, _], _ => rfl
  have F28 := fun_mk (st := s_law_told) l28 c28 k28
  have b28 := F28.binds (ps := ["turn", "parts"]) fun _ _ _ _ _ _ us hl => match us, hl with | [_, _], _ => rfl
  have F29 := fun_mk (st := s_law_refuses) l29 c29 k29
  have b29 := F29.binds (ps := ["turn", "parts", "kind", "place"]) fun _ _ _ _ _ _ us hl => match us, hl with | [_, _, _, _], _ => rfl
  have F30 := fun_mk (st := s_law_copy) l30 c30 k30
  have b30 := F30.binds (ps := ["value"]) fun _ _ _ _ _ _ us hl => match us, hl with | [_], _ => rfl
  have F31 := fun_mk (st := s_law_refusals_right) l31 c31 k31
  have b31 := F31.binds (ps := ["box", "letters", "left", "right"]) fun _ _ _ _ _ _ us hl => match us, hl with | [_, _, _, _], _ => rfl
  have F32 := fun_mk (st := s_law_right) l32 c32 k32
  have b32 := F32.binds (ps := ["box"]) fun _ _ _ _ _ _ us hl => match us, hl with | [_], _ => rfl
  have F33 := fun_mk (st := s_law) l33 c33 k33
  have b33 := F33.binds (ps := ["script"]) fun _ _ _ _ _ _ us hl => match us, hl with | [_], _ => rfl
  have ov0 : PySem.W.excOver K C0 ErrX.tailE = true := by
    unfold PySem.W.excOver PySem.W.clsIn
    rw [eL0]
    show (C0 == C0 && true) = true
    rw [beq_self_eq_true]; rfl
  have E0 : ErrX.ETxt K mg "InvalidCount" "InvalidCount.__init__" C0 I0 := { gC := PySem.W.mg_of X G eC0, cls := ⟨nm0, q0, N0, bs0, _, sn0, sub0, ab0, col0, dd0, m00, m10, m20, m30, m50, eL0, rfl⟩, ov := ov0, tk := etk0, sa := esa0, ga := ega0, gg := egg0, noN := eno0, iC := ein0, tC := eti0, kC := ekC0, exC := eeC0, tyC := etC0, hdC := ehC0, fn := ⟨_, _, _, _, _, _, _, _, _, _, _, _, _, _, efn0, eco0⟩ }
  have ov1 : PySem.W.excOver K C1 ErrX.tailE = true := by
    unfold PySem.W.excOver PySem.W.clsIn
    rw [eL1]
    show (C1 == C1 && true) = true
    rw [beq_self_eq_true]; rfl
  have E1 : ErrX.ETxt K mg "InvalidText" "InvalidText.__init__" C1 I1 := { gC := PySem.W.mg_of X G eC1, cls := ⟨nm1, q1, N1, bs1, _, sn1, sub1, ab1, col1, dd1, m01, m11, m21, m31, m51, eL1, rfl⟩, ov := ov1, tk := etk1, sa := esa1, ga := ega1, gg := egg1, noN := eno1, iC := ein1, tC := eti1, kC := ekC1, exC := eeC1, tyC := etC1, hdC := ehC1, fn := ⟨_, _, _, _, _, _, _, _, _, _, _, _, _, _, efn1, eco1⟩ }
  exact ⟨PySem.W.fnOf "law" "law" (defArgs s_law) (defBody s_law) (defScope s_law) .none kV33 dc33 pm33 an33 cd33 ct33, fun s v => .of_eq rfl, fun base _ _ => ok_law ({ f_is_integer := f0, fd_is_integer := _, F_is_integer := F0, b_is_integer := b0, g_is_integer := PySem.W.mg_of X G a0, f_is_count := f1, fd_is_count := _, F_is_count := F1, b_is_count := b1, g_is_count := PySem.W.mg_of X G a1, f_is_text := f2, fd_is_text := _, F_is_text := F2, b_is_text := b2, g_is_text := PySem.W.mg_of X G a2, f_lag_behind := f3, fd_lag_behind := _, F_lag_behind := F3, b_lag_behind := b3, g_lag_behind := PySem.W.mg_of X G a3, f_staying := f4, fd_staying := _, F_staying := F4, b_staying := b4, g_staying := PySem.W.mg_of X G a4, f_check_texts := f5, fd_check_texts := _, F_check_texts := F5, b_check_texts := b5, g_check_texts := PySem.W.mg_of X G a5, f_is_lag := f6, fd_is_lag := _, F_is_lag := F6, b_is_lag := b6, g_is_lag := PySem.W.mg_of X G a6, f_length_of_root := f7, fd_length_of_root := _, F_length_of_root := F7, b_length_of_root := b7, g_length_of_root := PySem.W.mg_of X G a7, f_turns_between := f8, fd_turns_between := _, F_turns_between := F8, b_turns_between := b8, g_turns_between := PySem.W.mg_of X G a8, f_lag_onward := f9, fd_lag_onward := _, F_lag_onward := F9, b_lag_onward := b9, g_lag_onward := PySem.W.mg_of X G a9, f_lag_of_number := f10, fd_lag_of_number := _, F_lag_of_number := F10, b_lag_of_number := b10, g_lag_of_number := PySem.W.mg_of X G a10, f_around := f11, fd_around := _, F_around := F11, b_around := b11, g_around := PySem.W.mg_of X G a11, f_law_cell := f12, fd_law_cell := _, F_law_cell := F12, b_law_cell := b12, g_law_cell := PySem.W.mg_of X G a12, f_law_box := f13, fd_law_box := _, F_law_box := F13, b_law_box := b13, g_law_box := PySem.W.mg_of X G a13, f_law_take := f14, fd_law_take := _, F_law_take := F14, b_law_take := b14, g_law_take := PySem.W.mg_of X G a14, f_law_letters := f15, fd_law_letters := _, F_law_letters := F15, b_law_letters := b15, g_law_letters := PySem.W.mg_of X G a15, f_law_word := f16, fd_law_word := _, F_law_word := F16, b_law_word := b16, g_law_word := PySem.W.mg_of X G a16, f_law_pair := f17, fd_law_pair := _, F_law_pair := F17, b_law_pair := b17, g_law_pair := PySem.W.mg_of X G a17, f_law_root_length := f18, fd_law_root_length := _, F_law_root_length := F18, b_law_root_length := b18, g_law_root_length := PySem.W.mg_of X G a18, f_law_numbered := f19, fd_law_numbered := _, F_law_numbered := F19, b_law_numbered := b19, g_law_numbered := PySem.W.mg_of X G a19, f_law_stays := f20, fd_law_stays := _, F_law_stays := F20, b_law_stays := b20, g_law_stays := PySem.W.mg_of X G a20, f_law_due := f21, fd_law_due := _, F_law_due := F21, b_law_due := b21, g_law_due := PySem.W.mg_of X G a21, f_law_number := f22, fd_law_number := _, F_law_number := F22, b_law_number := b22, g_law_number := PySem.W.mg_of X G a22, f_law_highest := f23, fd_law_highest := _, F_law_highest := F23, b_law_highest := b23, g_law_highest := PySem.W.mg_of X G a23, f_law_list_right := f24, fd_law_list_right := _, F_law_list_right := F24, b_law_list_right := b24, g_law_list_right := PySem.W.mg_of X G a24, f_law_pair_right := f25, fd_law_pair_right := _, F_law_pair_right := F25, b_law_pair_right := b25, g_law_pair_right := PySem.W.mg_of X G a25, f_law_wide_right := f26, fd_law_wide_right := _, F_law_wide_right := F26, b_law_wide_right := b26, g_law_wide_right := PySem.W.mg_of X G a26, f_law_bad_text := f27, fd_law_bad_text := _, F_law_bad_text := F27, b_law_bad_text := b27, g_law_bad_text := PySem.W.mg_of X G a27, f_law_told := f28, fd_law_told := _, F_law_told := F28, b_law_told := b28, g_law_told := PySem.W.mg_of X G a28, f_law_refuses := f29, fd_law_refuses := _, F_law_refuses := F29, b_law_refuses := b29, g_law_refuses := PySem.W.mg_of X G a29, f_law_copy := f30, fd_law_copy := _, F_law_copy := F30, b_law_copy := b30, g_law_copy := PySem.W.mg_of X G a30, f_law_refusals_right := f31, fd_law_refusals_right := _, F_law_refusals_right := F31, b_law_refusals_right := b31, g_law_refusals_right := PySem.W.mg_of X G a31, f_law_right := f32, fd_law_right := _, F_law_right := F32, b_law_right := b32, g_law_right := PySem.W.mg_of X G a32, f_law := fa, fd_law := _, F_law := F33, b_law := b33, g_law := PySem.W.mg_of X G a33, z_abs := PySem.W.mg_none_of X G z_abs, z_bool := PySem.W.mg_none_of X G z_bool, z_int := PySem.W.mg_none_of X G z_int, z_isinstance := PySem.W.mg_none_of X G z_isinstance, z_len := PySem.W.mg_none_of X G z_len, z_list := PySem.W.mg_none_of X G z_list, z_max := PySem.W.mg_none_of X G z_max, z_min := PySem.W.mg_none_of X G z_min, z_range := PySem.W.mg_none_of X G z_range, z_repr := PySem.W.mg_none_of X G z_repr, z_str := PySem.W.mg_none_of X G z_str, z_sum := PySem.W.mg_none_of X G z_sum, z_tuple := PySem.W.mg_none_of X G z_tuple, C_InvalidCount := C0, i_InvalidCount := I0, e_InvalidCount := E0, x_InvalidCount := exm_of eeC0 eiC0 etC0 esC0, C_InvalidText := C1, i_InvalidText := I1, e_InvalidText := E1, x_InvalidText := exm_of eeC1 eiC1 etC1 esC1, no_InvalidCount_InvalidText := exm_of eeC1 eiC1 etC1 en_0_1, no_InvalidText_InvalidCount := exm_of eeC0 eiC0 etC0 en_1_0 } : Txt K mg)⟩
end My
open PySem PySem.W PyProof.Rows
set_option maxRecDepth 100000 in
set_option maxHeartbeats 0 in
theorem PySem.Challenge.cw_spoiltline_k12_lags_that_stay_holds : PySem.Challenge.rw_spoiltline_k12_lags_that_stay.Holds := by
  w_on; o_law; k_head; (case hw => w_witness2)
  k_fill
  refine L2.walk_G (l := PySem.Challenge.rw_spoiltline_k12_lags_that_stay) (n := 63) (k := 9) (x := "script") (sp := My.spLaw) rfl (by decide) rfl ⟨rfl, by decide, by decide⟩ (fun w h Y => PySem.W.kIn_of Y) ?F (fun _ _ a ns hl _ hS => ⟨a, ns, rfl, hS, hl, fun _ => rfl⟩)
  case F =>
    intro w mg fa h KX G hmg
    refine' My.all_mk KX G hmg ?eC0 ?eL0 ?etk0 ?esa0 ?ega0 ?egg0 ?eno0 ?ein0 ?eti0 ?ekC0 ?eeC0 ?etC0 ?ehC0 ?eiC0 ?esC0 ?efn0 ?eco0 ?eC1 ?eL1 ?etk1 ?esa1 ?ega1 ?egg1 ?eno1 ?ein1 ?eti1 ?ekC1 ?eeC1 ?etC1 ?ehC1 ?eiC1 ?esC1 ?efn1 ?eco1 ?en_0_1 ?en_1_0 ?a0 ?l0 ?c0 ?k0 ?a1 ?l1 ?c1 ?k1 ?a2 ?l2 ?c2 ?k2 ?a3 ?l3 ?c3 ?k3 ?a4 ?l4 ?c4 ?k4 ?a5 ?l5 ?c5 ?k5 ?a6 ?l6 ?c6 ?k6 ?a7 ?l7 ?c7 ?k7 ?a8 ?l8 ?c8 ?k8 ?a9 ?l9 ?c9 ?k9 ?a10 ?l10 ?c10 ?k10 ?a11 ?l11 ?c11 ?k11 ?a12 ?l12 ?c12 ?k12 ?a13 ?l13 ?c13 ?k13 ?a14 ?l14 ?c14 ?k14 ?a15 ?l15 ?c15 ?k15 ?a16 ?l16 ?c16 ?k16 ?a17 ?l17 ?c17 ?k17 ?a18 ?l18 ?c18 ?k18 ?a19 ?l19 ?c19 ?k19 ?a20 ?l20 ?c20 ?k20 ?a21 ?l21 ?c21 ?k21 ?a22 ?l22 ?c22 ?k22 ?a23 ?l23 ?c23 ?k23 ?a24 ?l24 ?c24 ?k24 ?a25 ?l25 ?c25 ?k25 ?a26 ?l26 ?c26 ?k26 ?a27 ?l27 ?c27 ?k27 ?a28 ?l28 ?c28 ?k28 ?a29 ?l29 ?c29 ?k29 ?a30 ?l30 ?c30 ?k30 ?a31 ?l31 ?c31 ?k31 ?a32 ?l32 ?c32 ?k32 ?a33 ?l33 ?c33 ?k33 ?z_abs ?z_bool ?z_int ?z_isinstance ?z_len ?z_list ?z_max ?z_min ?z_range ?z_repr ?z_str ?z_sum ?z_tuple
    (case eC0 => k_is)
    (case eL0 => k_is)
    (case etk0 => k_is)
    (case esa0 => k_is)
    (case ega0 => k_is)
    (case egg0 => k_is)
    (case eno0 => k_is)
    (case ein0 => k_is)
    (case eti0 => k_is)
    (case ekC0 => k_is)
    (case eeC0 => k_is)
    (case etC0 => k_is)
    (case ehC0 => k_is)
    (case eiC0 => k_is)
    (case esC0 => k_is)
    (case efn0 => k_is)
    (case eco0 => k_is)
    (case eC1 => k_is)
    (case eL1 => k_is)
    (case etk1 => k_is)
    (case esa1 => k_is)
    (case ega1 => k_is)
    (case egg1 => k_is)
    (case eno1 => k_is)
    (case ein1 => k_is)
    (case eti1 => k_is)
    (case ekC1 => k_is)
    (case eeC1 => k_is)
    (case etC1 => k_is)
    (case ehC1 => k_is)
    (case eiC1 => k_is)
    (case esC1 => k_is)
    (case efn1 => k_is)
    (case eco1 => k_is)
    (case en_0_1 => k_is)
    (case en_1_0 => k_is)
    (case a0 => k_is)
    (case l0 => k_is)
    (case c0 => k_is)
    (case k0 => k_is)
    (case a1 => k_is)
    (case l1 => k_is)
    (case c1 => k_is)
    (case k1 => k_is)
    (case a2 => k_is)
    (case l2 => k_is)
    (case c2 => k_is)
    (case k2 => k_is)
    (case a3 => k_is)
    (case l3 => k_is)
    (case c3 => k_is)
    (case k3 => k_is)
    (case a4 => k_is)
    (case l4 => k_is)
    (case c4 => k_is)
    (case k4 => k_is)
    (case a5 => k_is)
    (case l5 => k_is)
    (case c5 => k_is)
    (case k5 => k_is)
    (case a6 => k_is)
    (case l6 => k_is)
    (case c6 => k_is)
    (case k6 => k_is)
    (case a7 => k_is)
    (case l7 => k_is)
    (case c7 => k_is)
    (case k7 => k_is)
    (case a8 => k_is)
    (case l8 => k_is)
    (case c8 => k_is)
    (case k8 => k_is)
    (case a9 => k_is)
    (case l9 => k_is)
    (case c9 => k_is)
    (case k9 => k_is)
    (case a10 => k_is)
    (case l10 => k_is)
    (case c10 => k_is)
    (case k10 => k_is)
    (case a11 => k_is)
    (case l11 => k_is)
    (case c11 => k_is)
    (case k11 => k_is)
    (case a12 => k_is)
    (case l12 => k_is)
    (case c12 => k_is)
    (case k12 => k_is)
    (case a13 => k_is)
    (case l13 => k_is)
    (case c13 => k_is)
    (case k13 => k_is)
    (case a14 => k_is)
    (case l14 => k_is)
    (case c14 => k_is)
    (case k14 => k_is)
    (case a15 => k_is)
    (case l15 => k_is)
    (case c15 => k_is)
    (case k15 => k_is)
    (case a16 => k_is)
    (case l16 => k_is)
    (case c16 => k_is)
    (case k16 => k_is)
    (case a17 => k_is)
    (case l17 => k_is)
    (case c17 => k_is)
    (case k17 => k_is)
    (case a18 => k_is)
    (case l18 => k_is)
    (case c18 => k_is)
    (case k18 => k_is)
    (case a19 => k_is)
    (case l19 => k_is)
    (case c19 => k_is)
    (case k19 => k_is)
    (case a20 => k_is)
    (case l20 => k_is)
    (case c20 => k_is)
    (case k20 => k_is)
    (case a21 => k_is)
    (case l21 => k_is)
    (case c21 => k_is)
    (case k21 => k_is)
    (case a22 => k_is)
    (case l22 => k_is)
    (case c22 => k_is)
    (case k22 => k_is)
    (case a23 => k_is)
    (case l23 => k_is)
    (case c23 => k_is)
    (case k23 => k_is)
    (case a24 => k_is)
    (case l24 => k_is)
    (case c24 => k_is)
    (case k24 => k_is)
    (case a25 => k_is)
    (case l25 => k_is)
    (case c25 => k_is)
    (case k25 => k_is)
    (case a26 => k_is)
    (case l26 => k_is)
    (case c26 => k_is)
    (case k26 => k_is)
    (case a27 => k_is)
    (case l27 => k_is)
    (case c27 => k_is)
    (case k27 => k_is)
    (case a28 => k_is)
    (case l28 => k_is)
    (case c28 => k_is)
    (case k28 => k_is)
    (case a29 => k_is)
    (case l29 => k_is)
    (case c29 => k_is)
    (case k29 => k_is)
    (case a30 => k_is)
    (case l30 => k_is)
    (case c30 => k_is)
    (case k30 => k_is)
    (case a31 => k_is)
    (case l31 => k_is)
    (case c31 => k_is)
    (case k31 => k_is)
    (case a32 => k_is)
    (case l32 => k_is)
    (case c32 => k_is)
    (case k32 => k_is)
    (case a33 => k_is)
    (case l33 => k_is)
    (case c33 => k_is)
    (case k33 => k_is)
    (case z_abs => k_is)
    (case z_bool => k_is)
    (case z_int => k_is)
    (case z_isinstance => k_is)
    (case z_len => k_is)
    (case z_list => k_is)
    (case z_max => k_is)
    (case z_min => k_is)
    (case z_range => k_is)
    (case z_repr => k_is)
    (case z_str => k_is)
    (case z_sum => k_is)
    (case z_tuple => k_is)

