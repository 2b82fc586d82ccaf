import PyProof.Rows.All
import Wide.All
import OpenK.AllK
import Wide.FinOn
import HandS.ForMost
import HandS.Exc
import HandS.ExcOwn
import HandS.WordsExc
import HandS.TryMany
import HandS.ExcSuper
import HandS.ExcInit
import KE.KExcInit
import HandS.Flt
import HandS.StrMore
import HandS.IsInst
import HandS.Conv
import HandS.Wide
import KE.KxIndex
import HandS.OwnEq
import HandS.ExcIs
import KE.KExcIs
import PyProof.ListStr
import KE.BitLaws
import PyProof.FString3
import PyProof.Rows.StrIntSpec
import HandS.Base
import HandS.Call
import HandS.TryOnly
import HandS.Evl
import HandS.Walk
import HandS.FStr
import PySem.Challenge.RW_spoiltline_k09_prices_of_rounds
set_option Elab.async false
set_option linter.all false
set_option maxHeartbeats 8000000
namespace Lev
section
variable {α : Type}
/-- an alignment of two lists with c changes -/
inductive A : List α → List α → Nat → Prop where
  | nil : A [] [] 0
  | keep {a u v c} : A u v c → A (a :: u) (a :: v) c
  | swap {a b u v c} : A u v c → A (a :: u) (b :: v) (c + 1)
  | drop {a u v c} : A u v c → A (a :: u) v (c + 1)
  | add {b u v c} : A u v c → A u (b :: v) (c + 1)
theorem A.cast {u v u' v' : List α} {c c' : Nat} (h : A u v c) (e1 : u = u') (e2 : v = v') (e3 : c = c') : A u' v' c' := by
  subst e1 e2 e3; exact h
theorem A.refl : ∀ u : List α, A u u 0
  | [] => .nil
  | _ :: u => .keep (A.refl u)
theorem A.symm {u v : List α} {c : Nat} (h : A u v c) : A v u c := by
  induction h with
  | nil => exact .nil
  | keep _ ih => exact .keep ih
  | swap _ ih => exact .swap ih
  | drop _ ih => exact .add ih
  | add _ ih => exact .drop ih
theorem A.append {u v u' v' : List α} {c c' : Nat} (h : A u v c) (h' : A u' v' c') : A (u ++ u') (v ++ v') (c + c') := by
  induction h with
  | nil => exact h'.cast rfl rfl (Nat.zero_add _).symm
  | keep _ ih => exact .keep ih
  | swap _ ih => exact (A.swap ih).cast rfl rfl (by omega)
  | drop _ ih => exact (A.drop ih).cast rfl rfl (by omega)
  | add _ ih => exact (A.add ih).cast rfl rfl (by omega)
theorem A.drops : ∀ u : List α, A u [] u.length
  | [] => .nil
  | _ :: u => .drop (A.drops u)
theorem A.adds (u : List α) : A [] u u.length := (A.drops u).symm
theorem A.nilLeft {v : List α} {c : Nat} (h : A [] v c) : v.length ≤ c := by
  generalize e : ([] : List α) = u at h
  induction h with
  | nil => exact Nat.le_refl _
  | keep _ _ => cases e
  | swap _ _ => cases e
  | drop _ _ => cases e
  | add _ ih => have := ih e; simp; omega
/-- an alignment is cut where the left list is -/
theorem A.split {w v : List α} {c : Nat} (h : A w v c) : ∀ u u' : List α, w = u ++ u' → ∃ v1 v2 c1 c2, v = v1 ++ v2 ∧ A u v1 c1 ∧ A u' v2 c2 ∧ c = c1 + c2 := by
  induction h with
  | nil =>
    intro u u' e
    have e1 : u = [] := (List.append_eq_nil_iff.mp e.symm).1
    have e2 : u' = [] := (List.append_eq_nil_iff.mp e.symm).2
    subst e1 e2
    exact ⟨[], [], 0, 0, rfl, .nil, .nil, rfl⟩
  | @keep a w v c h ih =>
    intro u u' e
    cases u with
    | nil => exact ⟨[], a :: v, 0, c, rfl, .nil, (A.keep h).cast e rfl rfl, (Nat.zero_add _).symm⟩
    | cons x u =>
      injection e with e1 e2
      subst e1
      obtain ⟨v1, v2, c1, c2, rfl, h1, h2, rfl⟩ := ih u u' e2
      exact ⟨_ :: v1, v2, c1, c2, rfl, .keep h1, h2, rfl⟩
  | @swap a b w v c h ih =>
    intro u u' e
    cases u with
    | nil => exact ⟨[], b :: v, 0, c + 1, rfl, .nil, (A.swap h).cast e rfl rfl, (Nat.zero_add _).symm⟩
    | cons x u =>
      injection e with e1 e2
      subst e1
      obtain ⟨v1, v2, c1, c2, rfl, h1, h2, rfl⟩ := ih u u' e2
      exact ⟨_ :: v1, v2, c1 + 1, c2, rfl, .swap h1, h2, by omega⟩
  | @drop a w v c h ih =>
    intro u u' e
    cases u with
    | nil => exact ⟨[], v, 0, c + 1, rfl, .nil, (A.drop h).cast e rfl rfl, (Nat.zero_add _).symm⟩
    | cons x u =>
      injection e with e1 e2
      subst e1
      obtain ⟨v1, v2, c1, c2, rfl, h1, h2, rfl⟩ := ih u u' e2
      exact ⟨v1, v2, c1 + 1, c2, rfl, .drop h1, h2, by omega⟩
  | @add b w v c h ih =>
    intro u u' e
    obtain ⟨v1, v2, c1, c2, rfl, h1, h2, rfl⟩ := ih u u' e
    exact ⟨b :: v1, v2, c1 + 1, c2, rfl, .add h1, h2, by omega⟩

/-! ### ways over places of two lists -/
inductive P (u v : List α) : Nat → Nat → Nat → Prop where
  | zero : P u v 0 0 0
  | keep {i j c a} : P u v i j c → u[i]? = some a → v[j]? = some a → P u v (i + 1) (j + 1) c
  | swap {i j c} : P u v i j c → i < u.length → j < v.length → P u v (i + 1) (j + 1) (c + 1)
  | drop {i j c} : P u v i j c → i < u.length → P u v (i + 1) j (c + 1)
  | add {i j c} : P u v i j c → j < v.length → P u v i (j + 1) (c + 1)
variable {u v : List α}
theorem P.bounds {i j c : Nat} (h : P u v i j c) : i ≤ u.length ∧ j ≤ v.length := by
  induction h with
  | zero => exact ⟨Nat.zero_le _, Nat.zero_le _⟩
  | keep _ e1 e2 _ =>
    have h1 := (List.getElem?_eq_some_iff.mp e1).1
    have h2 := (List.getElem?_eq_some_iff.mp e2).1
    exact ⟨h1, h2⟩
  | swap _ h1 h2 _ => exact ⟨h1, h2⟩
  | drop _ h1 ih => exact ⟨h1, ih.2⟩
  | add _ h1 ih => exact ⟨ih.1, h1⟩
theorem P.toA {i j c : Nat} (h : P u v i j c) : A (u.take i) (v.take j) c := by
  induction h with
  | zero => exact (A.nil).cast (by simp) (by simp) rfl
  | keep _ e1 e2 ih =>
    exact (ih.append (A.keep A.nil)).cast (by rw [List.take_add_one, e1]; rfl) (by rw [List.take_add_one, e2]; rfl) rfl
  | @swap i j c _ h1 h2 ih =>
    exact (ih.append (A.swap (a := u[i]) (b := v[j]) A.nil)).cast (by rw [List.take_add_one, List.getElem?_eq_getElem h1]; rfl) (by rw [List.take_add_one, List.getElem?_eq_getElem h2]; rfl) rfl
  | @drop i j c _ h1 ih =>
    exact (ih.append (A.drop (a := u[i]) A.nil)).cast (by rw [List.take_add_one, List.getElem?_eq_getElem h1]; rfl) (by simp) rfl
  | @add i j c _ h1 ih =>
    exact (ih.append (A.add (b := v[j]) A.nil)).cast (by simp) (by rw [List.take_add_one, List.getElem?_eq_getElem h1]; rfl) rfl
theorem P.onA {u' v' : List α} {c' : Nat} (h : A u' v' c') : ∀ {i j c : Nat}, P u v i j c → u.drop i = u' → v.drop j = v' → i ≤ u.length → j ≤ v.length → P u v u.length v.length (c + c') := by
  induction h with
  | nil =>
    intro i j c p e1 e2 b1 b2
    have h1 : u.length ≤ i := List.drop_eq_nil_iff.mp e1
    have h2 : v.length ≤ j := List.drop_eq_nil_iff.mp e2
    have e3 : i = u.length := Nat.le_antisymm b1 h1
    have e4 : j = v.length := Nat.le_antisymm b2 h2
    subst e3 e4
    exact p
  | @keep a u' v' c' _ ih =>
    intro i j c p e1 e2 b1 b2
    have g1 : u[i]? = some a := by have := congrArg (·[0]?) e1; simpa using this
    have g2 : v[j]? = some a := by have := congrArg (·[0]?) e2; simpa using this
    have h1 := (List.getElem?_eq_some_iff.mp g1).1
    have h2 := (List.getElem?_eq_some_iff.mp g2).1
    exact ih (.keep p g1 g2) (by rw [← List.drop_drop, e1]; rfl) (by rw [← List.drop_drop, e2]; rfl) h1 h2
  | @swap a b u' v' c' _ ih =>
    intro i j c p e1 e2 b1 b2
    have g1 : u[i]? = some a := by have := congrArg (·[0]?) e1; simpa using this
    have g2 : v[j]? = some b := by have := congrArg (·[0]?) e2; simpa using this
    have h1 := (List.getElem?_eq_some_iff.mp g1).1
    have h2 := (List.getElem?_eq_some_iff.mp g2).1
    have := ih (.swap p h1 h2) (by rw [← List.drop_drop, e1]; rfl) (by rw [← List.drop_drop, e2]; rfl) h1 h2
    rw [show c + (c' + 1) = c + 1 + c' by omega]; exact this
  | @drop a u' v' c' _ ih =>
    intro i j c p e1 e2 b1 b2
    have g1 : u[i]? = some a := by have := congrArg (·[0]?) e1; simpa using this
    have h1 := (List.getElem?_eq_some_iff.mp g1).1
    have := ih (.drop p h1) (by rw [← List.drop_drop, e1]; rfl) e2 h1 b2
    rw [show c + (c' + 1) = c + 1 + c' by omega]; exact this
  | @add b u' v' c' _ ih =>
    intro i j c p e1 e2 b1 b2
    have g2 : v[j]? = some b := by have := congrArg (·[0]?) e2; simpa using this
    have h2 := (List.getElem?_eq_some_iff.mp g2).1
    have := ih (.add p h2) e1 (by rw [← List.drop_drop, e2]; rfl) b1 h2
    rw [show c + (c' + 1) = c + 1 + c' by omega]; exact this
theorem A.toP {c : Nat} (h : A u v c) : P u v u.length v.length c := by
  have := P.onA (u := u) (v := v) h .zero rfl rfl (Nat.zero_le _) (Nat.zero_le _)
  simpa using this
theorem P.toA' {c : Nat} (h : P u v u.length v.length c) : A u v c := h.toA.cast (List.take_length) (List.take_length) rfl

/-! ### the table -/
variable [DecidableEq α]
def neq (x y : Option α) : Nat := if x = y then 0 else 1
def T (u v : List α) : Nat → Nat → Nat
  | 0, j => j
  | i + 1, 0 => i + 1
  | i + 1, j + 1 => min (T u v i j + neq u[i]? v[j]?) (min (T u v (i + 1) j + 1) (T u v i (j + 1) + 1))
theorem T_zero (j : Nat) : T u v 0 j = j := by unfold T; rfl
theorem T_left (i : Nat) : T u v i 0 = i := by cases i <;> (unfold T; rfl)
theorem T_step (i j : Nat) : T u v (i + 1) (j + 1) = min (T u v i j + neq u[i]? v[j]?) (min (T u v (i + 1) j + 1) (T u v i (j + 1) + 1)) := by
  rw [T]
theorem T_le {i j c : Nat} (h : P u v i j c) : T u v i j ≤ c := by
  induction h with
  | zero => rw [T_zero]; omega
  | keep _ e1 e2 ih => rw [T_step, e1, e2]; simp only [neq, if_true]; omega
  | @swap i j c _ _ _ ih =>
    rw [T_step]
    have : neq u[i]? v[j]? ≤ 1 := by unfold neq; split <;> omega
    omega
  | @drop i j c _ _ ih => cases j with
    | zero => rw [T_left] at *; omega
    | succ j => rw [T_step]; omega
  | @add i j c _ _ ih => cases i with
    | zero => rw [T_zero] at *; omega
    | succ i => rw [T_step]; omega
theorem T_P : ∀ (i j : Nat), i ≤ u.length → j ≤ v.length → P u v i j (T u v i j) := by
  intro i
  induction i with
  | zero =>
    intro j
    induction j with
    | zero => intro _ _; rw [T_zero]; exact .zero
    | succ j ih => intro h1 h2; rw [T_zero]; have := ih h1 (by omega); rw [T_zero] at this; exact .add this (by omega)
  | succ i ihi =>
    intro j
    induction j with
    | zero => intro h1 h2; rw [T_left]; have := ihi 0 (by omega) h2; rw [T_left] at this; exact .drop this (by omega)
    | succ j ih =>
      intro h1 h2
      have p1 := ihi j (by omega) (by omega)
      have p2 := ih h1 (by omega)
      have p3 := ihi (j + 1) (by omega) h2
      rw [T_step]
      by_cases q1 : T u v i j + neq u[i]? v[j]? ≤ min (T u v (i + 1) j + 1) (T u v i (j + 1) + 1)
      · rw [Nat.min_eq_left q1]
        by_cases e : u[i]? = v[j]?
        · rw [show neq u[i]? v[j]? = 0 by unfold neq; rw [if_pos e]]
          exact .keep p1 (List.getElem?_eq_getElem (by omega)) (by rw [← e]; exact List.getElem?_eq_getElem (by omega))
        · rw [show neq u[i]? v[j]? = 1 by unfold neq; rw [if_neg e]]
          exact .swap p1 (by omega) (by omega)
      · rw [Nat.min_eq_right (by omega)]
        by_cases q2 : T u v (i + 1) j + 1 ≤ T u v i (j + 1) + 1
        · rw [Nat.min_eq_left q2]; exact .add p2 (by omega)
        · rw [Nat.min_eq_right (by omega)]; exact .drop p3 (by omega)
/-- the distance -/
def D (u v : List α) : Nat := T u v u.length v.length
theorem D_A (u v : List α) : A u v (D u v) := (T_P _ _ (Nat.le_refl _) (Nat.le_refl _)).toA'
theorem D_le {u v : List α} {c : Nat} (h : A u v c) : D u v ≤ c := T_le h.toP
theorem D_symm (u v : List α) : D u v = D v u := Nat.le_antisymm (D_le (D_A v u).symm) (D_le (D_A u v).symm)
theorem D_self (u : List α) : D u u = 0 := Nat.le_zero.mp (D_le (A.refl u))
theorem D_le_max (u v : List α) : D u v ≤ max u.length v.length := by
  have key : ∀ u v : List α, ∃ c, A u v c ∧ c ≤ max u.length v.length := by
    intro u
    induction u with
    | nil => intro v; exact ⟨_, A.adds v, by simp⟩
    | cons a u ih =>
      intro v
      cases v with
      | nil => exact ⟨_, A.drops (a :: u), by simp⟩
      | cons b v =>
        obtain ⟨c, h, hc⟩ := ih v
        exact ⟨c + 1, .swap h, by simp; omega⟩
  obtain ⟨c, h, hc⟩ := key u v
  exact Nat.le_trans (D_le h) hc
theorem A.lens {u v : List α} {c : Nat} (h : A u v c) : u.length ≤ v.length + c ∧ v.length ≤ u.length + c := by
  induction h with
  | nil => exact ⟨Nat.le_refl _, Nat.le_refl _⟩
  | keep _ ih => simp only [List.length_cons]; omega
  | swap _ ih => simp only [List.length_cons]; omega
  | drop _ ih => simp only [List.length_cons]; omega
  | add _ ih => simp only [List.length_cons]; omega
end
end Lev

set_option Elab.async false
set_option linter.all false
set_option maxHeartbeats 400000
namespace Lev
section
variable {α : Type}
/-- w is a turn of v -/
def Turn (v w : List α) : Prop := ∃ x y, v = x ++ y ∧ w = y ++ x
theorem Turn.refl (v : List α) : Turn v v := ⟨[], v, rfl, (List.append_nil v).symm⟩
theorem Turn.symm {v w : List α} (h : Turn v w) : Turn w v := by
  obtain ⟨x, y, rfl, rfl⟩ := h
  exact ⟨y, x, rfl, rfl⟩
theorem Turn.trans {u v w : List α} (h : Turn u v) (h' : Turn v w) : Turn u w := by
  obtain ⟨x, y, rfl, rfl⟩ := h
  obtain ⟨x', y', e, rfl⟩ := h'
  rcases List.append_eq_append_iff.mp e with ⟨e1, rfl, rfl⟩ | ⟨e1, rfl, rfl⟩
  · exact ⟨e1, y' ++ y, by rw [List.append_assoc], by rw [List.append_assoc]⟩
  · exact ⟨x ++ x', e1, by rw [List.append_assoc], by rw [List.append_assoc]⟩
theorem Turn.length {v w : List α} (h : Turn v w) : w.length = v.length := by
  obtain ⟨x, y, rfl, rfl⟩ := h
  simp only [List.length_append]; omega
theorem Turn.at (v : List α) (k : Nat) : Turn v (v.drop k ++ v.take k) := ⟨v.take k, v.drop k, (List.take_append_drop k v).symm, rfl⟩
/-- an alignment of turns of both is one of u and a turn -/
theorem cut {u u' v v' : List α} {c : Nat} (hu : Turn u u') (hv : Turn v v') (h : A u' v' c) : ∃ w, Turn v w ∧ A u w c := by
  obtain ⟨x, y, rfl, rfl⟩ := hu
  obtain ⟨w1, w2, c1, c2, rfl, h1, h2, rfl⟩ := h.split y x rfl
  exact ⟨w2 ++ w1, hv.trans ⟨w1, w2, rfl, rfl⟩, (h2.append h1).cast rfl rfl (Nat.add_comm _ _)⟩
/-! ### the window that is just as long -/
theorem window (N : Nat) : ∀ {u w w' : List α} {c c' k b : Nat}, u.length + w.length + w'.length ≤ N → A u w c → A u w' c' → w.length + k ≤ b → b ≤ w'.length + k →
    ∃ p q s t s' t' c1 c2 c3 c4, u = p ++ q ∧ w = s ++ t ∧ w' = s' ++ t' ∧ A p s c1 ∧ A q t c2 ∧ A p s' c3 ∧ A q t' c4 ∧ c = c1 + c2 ∧ c' = c3 + c4 ∧ t.length + (k + s'.length) = b := by
  induction N with
  | zero =>
    intro u w w' c c' k b hN h h' l1 l2
    have e1 : u = [] := List.eq_nil_of_length_eq_zero (by omega)
    have e2 : w = [] := List.eq_nil_of_length_eq_zero (by omega)
    have e3 : w' = [] := List.eq_nil_of_length_eq_zero (by omega)
    subst e1 e2 e3
    exact ⟨[], [], [], [], [], [], 0, c, 0, c', rfl, rfl, rfl, .nil, h, .nil, h', (Nat.zero_add _).symm, (Nat.zero_add _).symm, by simp at *; omega⟩
  | succ N ih =>
    intro u w w' c c' k b hN h h' l1 l2
    by_cases e : w.length + k = b
    · exact ⟨[], u, [], w, [], w', 0, c, 0, c', rfl, rfl, rfl, .nil, h, .nil, h', (Nat.zero_add _).symm, (Nat.zero_add _).symm, by simp; omega⟩
    · -- a letter more of the second
      have main : ∀ {a : α} {u w1 w1' pw pw' : List α} {c1 c1' pc pc' : Nat}, A u w1 c1 → A u w1' c1' → (∀ {p s d}, A p s d → A (a :: p) (pw ++ s) (pc + d)) → (∀ {p s d}, A p s d → A (a :: p) (pw' ++ s) (pc' + d)) → pw.length ≤ 1 → pw'.length ≤ 1 →
          (u.length + 1) + (pw ++ w1).length + (pw' ++ w1').length ≤ N + 1 → (pw ++ w1).length + k ≤ b → b ≤ (pw' ++ w1').length + k → ¬ (pw ++ w1).length + k = b →
          ∃ p q s t s' t' d1 d2 d3 d4, a :: u = p ++ q ∧ pw ++ w1 = s ++ t ∧ pw' ++ w1' = s' ++ t' ∧ A p s d1 ∧ A q t d2 ∧ A p s' d3 ∧ A q t' d4 ∧ pc + c1 = d1 + d2 ∧ pc' + c1' = d3 + d4 ∧ t.length + (k + s'.length) = b := by
        intro a u w1 w1' pw pw' c1 c1' pc pc' g g' f f' n1 n2 hN l1 l2 e
        rw [List.length_append] at hN l1 l2 e
        rw [List.length_append] at hN
        obtain ⟨p, q, s, t, s', t', d1, d2, d3, d4, rfl, rfl, rfl, a1, a2, a3, a4, e1, e2, e3⟩ := ih (k := k + pw'.length) (b := b) (by omega) g g' (by omega) (by omega)
        exact ⟨a :: p, q, pw ++ s, t, pw' ++ s', t', pc + d1, d2, pc' + d3, d4, rfl, by simp, by simp, f a1, a2, f' a3, a4, by omega, by omega, by rw [List.length_append]; omega⟩
      cases h' with
      | nil =>
        have := h.nilLeft
        simp at l2
        omega
      | @add b' _ w'' c'' g' =>
        simp only [List.length_cons] at hN l2
        obtain ⟨p, q, s, t, s', t', d1, d2, d3, d4, rfl, rfl, rfl, a1, a2, a3, a4, e1, e2, e3⟩ := ih (k := k + 1) (b := b) (by omega) h g' (by omega) (by omega)
        exact ⟨p, q, s, t, b' :: s', t', d1, d2, d3 + 1, d4, rfl, rfl, rfl, a1, a2, .add a3, a4, e1, by omega, by simp only [List.length_cons]; omega⟩
      | @keep a u w1' c1' g' =>
        cases h with
        | @add b' _ w1 c1 g =>
          simp only [List.length_cons] at hN l1 l2 e
          obtain ⟨p, q, s, t, s', t', d1, d2, d3, d4, e0, rfl, e00, a1, a2, a3, a4, e1, e2, e3⟩ := ih (k := k) (b := b) (by simp only [List.length_cons]; omega) g (A.keep g') (by omega) (by simp only [List.length_cons]; omega)
          exact ⟨p, q, b' :: s, t, s', t', d1 + 1, d2, d3, d4, e0, rfl, e00, .add a1, a2, a3, a4, by omega, e2, e3⟩
        | @keep _ _ w1 c1 g => simpa using main (pw := [a]) (pw' := [a]) (pc := 0) (pc' := 0) g g' (fun z => (A.keep z).cast rfl rfl (by omega)) (fun z => (A.keep z).cast rfl rfl (by omega)) (by simp) (by simp) (by simpa using hN) (by simpa using l1) (by simpa using l2) (by simpa using e)
        | @swap _ x _ w1 c1 g => simpa [Nat.add_comm] using main (pw := [x]) (pw' := [a]) (pc := 1) (pc' := 0) g g' (fun z => (A.swap z).cast rfl rfl (by omega)) (fun z => (A.keep z).cast rfl rfl (by omega)) (by simp) (by simp) (by simpa using hN) (by simpa using l1) (by simpa using l2) (by simpa using e)
        | @drop _ _ _ c1 g => simpa [Nat.add_comm] using main (pw := []) (pw' := [a]) (pc := 1) (pc' := 0) g g' (fun z => (A.drop z).cast rfl rfl (by omega)) (fun z => (A.keep z).cast rfl rfl (by omega)) (by simp) (by simp) (by simpa using hN) (by simpa using l1) (by simpa using l2) (by simpa using e)
      | @swap a y u w1' c1' g' =>
        cases h with
        | @add b' _ w1 c1 g =>
          simp only [List.length_cons] at hN l1 l2 e
          obtain ⟨p, q, s, t, s', t', d1, d2, d3, d4, e0, rfl, e00, a1, a2, a3, a4, e1, e2, e3⟩ := ih (k := k) (b := b) (by simp only [List.length_cons]; omega) g (A.swap (b := y) g') (by omega) (by simp only [List.length_cons]; omega)
          exact ⟨p, q, b' :: s, t, s', t', d1 + 1, d2, d3, d4, e0, rfl, e00, .add a1, a2, a3, a4, by omega, e2, e3⟩
        | @keep _ _ w1 c1 g => simpa [Nat.add_comm] using main (pw := [a]) (pw' := [y]) (pc := 0) (pc' := 1) g g' (fun z => (A.keep z).cast rfl rfl (by omega)) (fun z => (A.swap z).cast rfl rfl (by omega)) (by simp) (by simp) (by simpa using hN) (by simpa using l1) (by simpa using l2) (by simpa using e)
        | @swap _ x _ w1 c1 g => simpa [Nat.add_comm] using main (pw := [x]) (pw' := [y]) (pc := 1) (pc' := 1) g g' (fun z => (A.swap z).cast rfl rfl (by omega)) (fun z => (A.swap z).cast rfl rfl (by omega)) (by simp) (by simp) (by simpa using hN) (by simpa using l1) (by simpa using l2) (by simpa using e)
        | @drop _ _ _ c1 g => simpa [Nat.add_comm] using main (pw := []) (pw' := [y]) (pc := 1) (pc' := 1) g g' (fun z => (A.drop z).cast rfl rfl (by omega)) (fun z => (A.swap z).cast rfl rfl (by omega)) (by simp) (by simp) (by simpa using hN) (by simpa using l1) (by simpa using l2) (by simpa using e)
      | @drop a u _ c1' g' =>
        cases h with
        | @add b' _ w1 c1 g =>
          simp only [List.length_cons] at hN l1 l2 e
          obtain ⟨p, q, s, t, s', t', d1, d2, d3, d4, e0, rfl, e00, a1, a2, a3, a4, e1, e2, e3⟩ := ih (k := k) (b := b) (by simp only [List.length_cons]; omega) g (A.drop g') (by omega) (by omega)
          exact ⟨p, q, b' :: s, t, s', t', d1 + 1, d2, d3, d4, e0, rfl, e00, .add a1, a2, a3, a4, by omega, e2, e3⟩
        | @keep _ _ w1 c1 g => simpa [Nat.add_comm] using main (pw := [a]) (pw' := []) (pc := 0) (pc' := 1) g g' (fun z => (A.keep z).cast rfl rfl (by omega)) (fun z => (A.drop z).cast rfl rfl (by omega)) (by simp) (by simp) (by simpa using hN) (by simpa using l1) (by simpa using l2) (by simpa using e)
        | @swap _ x _ w1 c1 g => simpa [Nat.add_comm] using main (pw := [x]) (pw' := []) (pc := 1) (pc' := 1) g g' (fun z => (A.swap z).cast rfl rfl (by omega)) (fun z => (A.drop z).cast rfl rfl (by omega)) (by simp) (by simp) (by simpa using hN) (by simpa using l1) (by simpa using l2) (by simpa using e)
        | @drop _ _ _ c1 g => simpa [Nat.add_comm] using main (pw := []) (pw' := []) (pc := 1) (pc' := 1) g g' (fun z => (A.drop z).cast rfl rfl (by omega)) (fun z => (A.drop z).cast rfl rfl (by omega)) (by simp) (by simp) (by simpa using hN) (by simpa using l1) (by simpa using l2) (by simpa using e)
/-! ### rounds -/
def rounds : Nat → List α → List α
  | 0, _ => []
  | n + 1, v => v ++ rounds n v
theorem rounds_len (n : Nat) (v : List α) : (rounds n v).length = n * v.length := by
  induction n with
  | zero => simp [rounds]
  | succ n ih => simp [rounds, ih, Nat.succ_mul]; omega
theorem rounds_get (n : Nat) (v : List α) {i : Nat} (h : i < n * v.length) : (rounds n v)[i]? = v[i % v.length]? := by
  induction n generalizing i with
  | zero => omega
  | succ n ih =>
    show (v ++ rounds n v)[i]? = _
    rw [Nat.succ_mul] at h
    rcases Nat.lt_or_ge i v.length with q | q
    · rw [List.getElem?_append_left q, Nat.mod_eq_of_lt q]
    · rw [List.getElem?_append_right q, ih (by omega)]
      congr 1
      conv => rhs; rw [← Nat.sub_add_cancel q, Nat.add_mod_right]
/-- a piece of rounds that is as long as the text is a turn of it; the rest are rounds -/
theorem piece {n : Nat} {v x y z : List α} (h : rounds (n + 1) v = x ++ y ++ z) (hy : y.length = v.length) : Turn v y ∧ x ++ z = rounds n v := by
  by_cases hv : v.length = 0
  · have e1 : v = [] := List.eq_nil_of_length_eq_zero hv
    subst e1
    have hz : ∀ n, rounds n ([] : List α) = [] := fun n => List.eq_nil_of_length_eq_zero (by rw [rounds_len]; simp)
    rw [hz] at h
    have h' := congrArg List.length h
    simp only [List.length_nil, List.length_append] at h'
    have e2 : x = [] := List.eq_nil_of_length_eq_zero (by omega)
    have e3 : y = [] := List.eq_nil_of_length_eq_zero (by omega)
    have e4 : z = [] := List.eq_nil_of_length_eq_zero (by omega)
    subst e2 e3 e4
    exact ⟨Turn.refl _, (hz n).symm⟩
  have pos : 0 < v.length := Nat.pos_of_ne_zero hv
  have hl := congrArg List.length h
  rw [rounds_len, List.length_append, List.length_append, Nat.succ_mul] at hl
  have G : ∀ i, i < (n + 1) * v.length → (x ++ y ++ z)[i]? = v[i % v.length]? := fun i hi => by rw [← h]; exact rounds_get (n + 1) v hi
  rw [Nat.succ_mul] at G
  constructor
  · have e : y = v.drop (x.length % v.length) ++ v.take (x.length % v.length) := by
      have lt := Nat.mod_lt x.length pos
      apply List.ext_getElem?
      intro i
      rcases Nat.lt_or_ge i y.length with q | q
      · have g := G (x.length + i) (by omega)
        rw [List.append_assoc, List.getElem?_append_right (by omega), Nat.add_sub_cancel_left, List.getElem?_append_left q] at g
        rw [g]
        rcases Nat.lt_or_ge i (v.length - x.length % v.length) with q2 | q2
        · rw [List.getElem?_append_left (by rw [List.length_drop]; exact q2), List.getElem?_drop]
          congr 1
          rw [Nat.add_mod, Nat.mod_eq_of_lt (show i < v.length by omega), Nat.mod_eq_of_lt (by omega)]
        · rw [List.getElem?_append_right (by rw [List.length_drop]; exact q2), List.length_drop, List.getElem?_take, if_pos (by omega)]
          congr 1
          rw [Nat.add_mod, Nat.mod_eq_of_lt (show i < v.length by omega), Nat.mod_eq_sub_mod (by omega), Nat.mod_eq_of_lt (by omega)]
          omega
      · rw [List.getElem?_eq_none q, List.getElem?_eq_none (by simp only [List.length_append, List.length_drop, List.length_take]; omega)]
    rw [e]
    exact Turn.at v _
  · apply List.ext_getElem?
    intro i
    rcases Nat.lt_or_ge i (n * v.length) with q | q
    · rw [rounds_get n v q]
      rcases Nat.lt_or_ge i x.length with q2 | q2
      · rw [List.getElem?_append_left q2]
        have g := G i (by omega)
        rw [List.append_assoc, List.getElem?_append_left q2] at g
        exact g
      · rw [List.getElem?_append_right q2]
        have g := G (i + v.length) (by omega)
        rw [List.getElem?_append_right (by rw [List.length_append]; omega), List.length_append, Nat.add_mod_right] at g
        rw [← g]
        congr 1
        omega
    · rw [List.getElem?_eq_none (by rw [List.length_append]; omega), List.getElem?_eq_none (by rw [rounds_len]; omega)]
/-- the parts of a text that go with each round of u -/
inductive Blocks (u : List α) : Nat → List α → Nat → Prop where
  | nil : Blocks u 0 [] 0
  | cons {n w v c d} : A u w c → Blocks u n v d → Blocks u (n + 1) (w ++ v) (c + d)
theorem blocks_of {u : List α} : ∀ {n : Nat} {v : List α} {c : Nat}, A (rounds (n + 1) u) v c → Blocks u (n + 1) v c
  | 0, v, c, h => by
    have h' : A u v c := h.cast (List.append_nil u) rfl rfl
    have := Blocks.cons h' .nil
    rw [List.append_nil] at this
    exact this
  | n + 1, v, c, h => by
    obtain ⟨v1, v2, c1, c2, rfl, h1, h2, rfl⟩ := h.split u (rounds (n + 1) u) rfl
    exact .cons h1 (blocks_of h2)
def Gone (u : List α) (b n : Nat) (V : List α) (c : Nat) : Prop :=
  ∃ x y z c1 c2 u', V = x ++ y ++ z ∧ y.length = b ∧ Blocks u n (x ++ z) c1 ∧ Turn u u' ∧ A u' y c2 ∧ c = c1 + c2
theorem tri {u : List α} {b : Nat} : ∀ {n : Nat} {V : List α} {c : Nat}, Blocks u (n + 1) V c →
    (∃ w V' c1 d, V = w ++ V' ∧ A u w c1 ∧ Blocks u n V' d ∧ c = c1 + d ∧ w.length < b ∧ V.length < (n + 1) * b) ∨
    (∃ w V' c1 d, V = w ++ V' ∧ A u w c1 ∧ Blocks u n V' d ∧ c = c1 + d ∧ b < w.length ∧ (n + 1) * b < V.length) ∨ Gone u b n V c := by
  intro n
  induction n with
  | zero =>
    intro V c h
    cases h with
    | @cons _ w V' c d h1 h2 =>
      cases h2
      rcases Nat.lt_trichotomy w.length b with q | q | q
      · exact .inl ⟨w, [], c, 0, rfl, h1, .nil, rfl, q, by simp; exact q⟩
      · exact .inr (.inr ⟨[], w, [], 0, c, u, by simp, q, .nil, Turn.refl u, h1, by omega⟩)
      · exact .inr (.inl ⟨w, [], c, 0, rfl, h1, .nil, rfl, q, by simp; exact q⟩)
  | succ n ih =>
    intro V c h
    cases h with
    | @cons _ w V' c d h1 h2 =>
      have em : (n + 1 + 1) * b = (n + 1) * b + b := Nat.succ_mul _ _
      rcases ih h2 with ⟨w', V'', c', d', rfl, g1, g2, rfl, l1, l2⟩ | ⟨w', V'', c', d', rfl, g1, g2, rfl, l1, l2⟩ | ⟨x, y, z, d1, d2, u', rfl, hy, g1, g2, g3, rfl⟩
      · rcases Nat.lt_trichotomy w.length b with q | q | q
        · exact .inl ⟨w, _, c, _, rfl, h1, h2, rfl, q, by rw [List.length_append]; omega⟩
        · exact .inr (.inr ⟨[], w, _, _, c, u, by simp, q, h2, Turn.refl u, h1, by omega⟩)
        · -- longer, then shorter
          obtain ⟨p, q', s, t, s', t', k1, k2, k3, k4, rfl, rfl, rfl, a1, a2, a3, a4, rfl, rfl, e⟩ := window _ (k := 0) (b := w.length + w'.length - b) (Nat.le_refl _) g1 h1 (by omega) (by omega)
          simp only [List.length_append] at e q l1
          refine .inr (.inr ⟨s', t' ++ s, t ++ V'', (k3 + k2) + d', k4 + k1, q' ++ p, by simp, by rw [List.length_append]; omega, ?_, ⟨p, q', rfl, rfl⟩, a4.append a1, by omega⟩)
          have := Blocks.cons (a3.append a2) g2
          rw [List.append_assoc] at this
          exact this
      · rcases Nat.lt_trichotomy w.length b with q | q | q
        · obtain ⟨p, q', s, t, s', t', k1, k2, k3, k4, rfl, rfl, rfl, a1, a2, a3, a4, rfl, rfl, e⟩ := window _ (k := 0) (b := b) (Nat.le_refl _) h1 g1 (by omega) (by omega)
          refine .inr (.inr ⟨s, t ++ s', t' ++ V'', (k1 + k4) + d', k2 + k3, q' ++ p, by simp, by rw [List.length_append]; omega, ?_, ⟨p, q', rfl, rfl⟩, a2.append a3, by omega⟩)
          have := Blocks.cons (a1.append a4) g2
          rw [List.append_assoc] at this
          exact this
        · exact .inr (.inr ⟨[], w, _, _, c, u, by simp, q, h2, Turn.refl u, h1, by omega⟩)
        · exact .inr (.inl ⟨w, _, c, _, rfl, h1, h2, rfl, q, by rw [List.length_append]; omega⟩)
      · refine .inr (.inr ⟨w ++ x, y, z, c + d1, d2, u', by simp, hy, ?_, g2, g3, by omega⟩)
        rw [List.append_assoc]
        exact .cons h1 g1
/-- rounds are at least as far apart as so many turns -/
theorem rounds_ge {u v : List α} {r : Nat} (hr : ∀ w c, Turn v w → A u w c → r ≤ c) : ∀ {n : Nat} {c : Nat}, Blocks u (n + 1) (rounds (n + 1) v) c → (n + 1) * r ≤ c := by
  intro n
  induction n with
  | zero =>
    intro c h
    rw [show rounds 1 v = v from List.append_nil v] at h
    generalize e : v = V at h
    cases h with
    | @cons _ w V' c d h1 h2 =>
      cases h2
      rw [List.append_nil] at e
      subst e
      have := hr v c (Turn.refl v) h1
      omega
  | succ n ih =>
    intro c h
    have hl := rounds_len (n + 1 + 1) v
    rcases tri (b := v.length) h with ⟨w, V', c', d', e, g1, g2, _, l1, l2⟩ | ⟨w, V', c', d', e, g1, g2, _, l1, l2⟩ | ⟨x, y, z, d1, d2, u', e, hy, g1, g2, g3, rfl⟩
    · rw [hl] at l2; exact absurd l2 (Nat.lt_irrefl _)
    · rw [hl] at l2; exact absurd l2 (Nat.lt_irrefl _)
    · obtain ⟨ht, hz⟩ := piece e hy
      rw [hz] at g1
      have k1 := ih g1
      obtain ⟨w, tw, aw⟩ := cut g2 ht g3
      have k2 := hr w d2 tw aw
      rw [Nat.succ_mul]
      omega
theorem rounds_A {u w : List α} {c : Nat} (h : A u w c) : ∀ n, A (rounds n u) (rounds n w) (n * c)
  | 0 => (A.nil).cast rfl rfl (by omega)
  | n + 1 => (h.append (rounds_A h n)).cast rfl rfl (by rw [Nat.succ_mul]; omega)
theorem rounds_turn (x y : List α) : ∀ n, rounds (n + 1) (x ++ y) = x ++ rounds n (y ++ x) ++ y
  | 0 => by simp [rounds]
  | n + 1 => by
    show (x ++ y) ++ rounds (n + 1) (x ++ y) = x ++ ((y ++ x) ++ rounds n (y ++ x)) ++ y
    rw [rounds_turn x y n]
    simp
theorem rounds_last (u : List α) : ∀ n, rounds (n + 1) u = rounds n u ++ u
  | 0 => by simp [rounds]
  | n + 1 => by
    show u ++ rounds (n + 1) u = (u ++ rounds n u) ++ u
    rw [rounds_last u n]; simp
theorem rounds_le {u v w : List α} {c : Nat} (ht : Turn v w) (h : A u w c) (n : Nat) : ∃ d, A (rounds (n + 1) u) (rounds (n + 1) v) d ∧ d ≤ n * c + u.length + v.length := by
  obtain ⟨x, y, rfl, rfl⟩ := ht
  refine ⟨_, (((A.adds x).append (rounds_A h n)).append ((A.drops u).append (A.adds y))).cast (by simp [rounds_last]) (by rw [rounds_turn]; simp) rfl, ?_⟩
  simp only [List.length_append]; omega
/-! ### the price of rounds -/
variable [DecidableEq α]
/-- the least of the distances of u and the turns of v -/
def Rp (u v : List α) (r : Nat) : Prop := (∃ w, Turn v w ∧ D u w = r) ∧ ∀ w, Turn v w → r ≤ D u w
theorem Rp.uniq {u v : List α} {r r' : Nat} (h : Rp u v r) (h' : Rp u v r') : r = r' := by
  obtain ⟨⟨w, t, e⟩, k⟩ := h
  obtain ⟨⟨w', t', e'⟩, k'⟩ := h'
  have := k w' t'
  have := k' w t
  omega
theorem Rp.turns {u u' v v' : List α} {r : Nat} (h : Rp u v r) (hu : Turn u u') (hv : Turn v v') : Rp u' v' r := by
  obtain ⟨⟨w, t, e⟩, k⟩ := h
  have low : ∀ w', Turn v' w' → r ≤ D u' w' := fun w' t' => by
    obtain ⟨w2, t2, a2⟩ := cut hu (hv.trans t') (D_A u' w')
    exact Nat.le_trans (k w2 t2) (D_le a2)
  obtain ⟨w2, t2, a2⟩ := cut (v := v') hu.symm (hv.symm.trans t) (D_A u w)
  have := D_le a2
  have := low w2 t2
  exact ⟨⟨w2, t2, by omega⟩, low⟩
theorem Rp.symm {u v : List α} {r : Nat} (h : Rp u v r) : Rp v u r := by
  obtain ⟨⟨w, t, e⟩, k⟩ := h
  have low : ∀ w', Turn u w' → r ≤ D v w' := fun w' t' => by
    obtain ⟨w2, t2, a2⟩ := cut t' (Turn.refl v) (D_A v w').symm
    exact Nat.le_trans (k w2 t2) (D_le a2)
  obtain ⟨w2, t2, a2⟩ := cut (v := u) t (Turn.refl u) (D_A u w).symm
  have := D_le a2
  have := low w2 t2
  exact ⟨⟨w2, t2, by omega⟩, low⟩
theorem Rp.self {u w : List α} (h : Turn u w) : Rp u w 0 := ⟨⟨u, h.symm, D_self u⟩, fun _ _ => Nat.zero_le _⟩
theorem Rp.ge {u v : List α} {r : Nat} (h : Rp u v r) (n : Nat) : (n + 1) * r ≤ D (rounds (n + 1) u) (rounds (n + 1) v) :=
  rounds_ge (fun w c t a => Nat.le_trans (h.2 w t) (D_le a)) (blocks_of (D_A _ _))
theorem Rp.le {u v : List α} {r : Nat} (h : Rp u v r) (n : Nat) : D (rounds (n + 1) u) (rounds (n + 1) v) ≤ n * r + u.length + v.length := by
  obtain ⟨⟨w, t, rfl⟩, _⟩ := h
  obtain ⟨d, a, hd⟩ := rounds_le t (D_A u w) n
  exact Nat.le_trans (D_le a) hd
/-- the turns by their places -/
theorem turn_at {v w : List α} (h : Turn v w) : ∃ k, k < max 1 v.length ∧ w = v.drop k ++ v.take k := by
  obtain ⟨x, y, rfl, rfl⟩ := h
  by_cases e : y = []
  · subst e
    exact ⟨0, by omega, by simp⟩
  · have : 0 < y.length := List.length_pos_iff.mpr e
    exact ⟨x.length, by rw [List.length_append]; omega, by simp⟩
end
end Lev

set_option Elab.async false
set_option linter.all false
set_option maxHeartbeats 400000
namespace Lev
section
variable {α : Type} [DecidableEq α]
/-- no equal letters at these places -/
def Stop (u v : List α) (i j : Nat) : Prop := ¬ ∃ a, u[i]? = some a ∧ v[j]? = some a
/-- so many equal letters from the places on, and no more -/
structure Ext (u v : List α) (i j k : Nat) : Prop where
  le1 : i + k ≤ u.length
  le2 : j + k ≤ v.length
  eq : ∀ x, x < k → u[i + x]? = v[j + x]?
  stop : Stop u v (i + k) (j + k)
/-- diagonals from which the ends can be reached in time -/
structure InB (n m : Nat) (most : Int) (c : Nat) (d : Int) : Prop where
  a1 : -(c : Int) ≤ d
  a2 : d ≤ c
  a3 : -(n : Int) ≤ d
  a4 : d ≤ m
  a5 : (m : Int) - n - (most - c) ≤ d
  a6 : d ≤ (m : Int) - n + (most - c)
theorem inB_of {n m c : Nat} {most lo hi d : Int} (h1 : lo = max (max (-(c : Int)) (-(n : Int))) ((m : Int) - n - (most - c))) (h2 : hi = min (min (c : Int) (m : Int)) ((m : Int) - n + (most - c))) : InB n m most c d ↔ (lo ≤ d ∧ d ≤ hi) := by
  subst h1 h2
  constructor
  · intro ⟨a1, a2, a3, a4, a5, a6⟩
    exact ⟨Int.max_le.mpr ⟨Int.max_le.mpr ⟨a1, a3⟩, a5⟩, Int.le_min.mpr ⟨Int.le_min.mpr ⟨a2, a4⟩, a6⟩⟩
  · intro ⟨p, q⟩
    have p' := Int.max_le.mp p
    have p'' := Int.max_le.mp p'.1
    have q' := Int.le_min.mp q
    have q'' := Int.le_min.mp q'.1
    exact ⟨p''.1, q''.1, p''.2, q''.2, p'.2, q'.2⟩
/-- a diagonal of the next front has a neighbour in this one -/
theorem inB_near {n m c : Nat} {most d : Int} (h : InB n m most (c + 1) d) : InB n m most c d ∨ InB n m most c (d + 1) ∨ InB n m most c (d - 1) := by
  obtain ⟨a1, a2, a3, a4, a5, a6⟩ := h
  by_cases e1 : d ≤ c
  · by_cases e2 : -(c : Int) ≤ d
    · exact .inl ⟨e2, e1, a3, a4, by omega, by omega⟩
    · exact .inr (.inl ⟨by omega, by omega, by omega, by omega, by omega, by omega⟩)
  · exact .inr (.inr ⟨by omega, by omega, by omega, by omega, by omega, by omega⟩)
structure Good (u v : List α) (most : Int) (c : Nat) (lo hi : Int) (f : Int → Int) : Prop where
  f0 : ∀ d, lo ≤ d → d ≤ hi → 0 ≤ f d
  fn : ∀ d, lo ≤ d → d ≤ hi → f d ≤ u.length
  g0 : ∀ d, lo ≤ d → d ≤ hi → 0 ≤ f d + d
  gm : ∀ d, lo ≤ d → d ≤ hi → f d + d ≤ v.length
  sound : ∀ d, lo ≤ d → d ≤ hi → T u v (f d).toNat (f d + d).toNat ≤ c
  stop : ∀ d, lo ≤ d → d ≤ hi → Stop u v (f d).toNat (f d + d).toNat
  full : ∀ i j e, P u v i j c → A (u.drop i) (v.drop j) e → (c : Int) + e ≤ most → (i : Int) ≤ f ((j : Int) - i)
  band : ∀ d, InB u.length v.length most c d ↔ (lo ≤ d ∧ d ≤ hi)
theorem P.diag {u v : List α} {i j c : Nat} (h : P u v i j c) : i ≤ j + c ∧ j ≤ i + c := by
  have := h.toA.lens
  have hb := h.bounds
  rw [List.length_take, List.length_take, Nat.min_eq_left hb.1, Nat.min_eq_left hb.2] at this
  exact this
theorem ext_T {u v : List α} {i j k : Nat} (h : ∀ x, x < k → u[i + x]? = v[j + x]?) (h1 : i + k ≤ u.length) (h2 : j + k ≤ v.length) : T u v (i + k) (j + k) ≤ T u v i j := by
  induction k with
  | zero => exact Nat.le_refl _
  | succ k ih =>
    have a := ih (fun x hx => h x (by omega)) (by omega) (by omega)
    have b := h k (by omega)
    rw [show i + (k + 1) = (i + k) + 1 by omega, show j + (k + 1) = (j + k) + 1 by omega, T_step, b]
    simp only [neq, if_true]
    omega
theorem full_in {u v : List α} {most : Int} {c i j e : Nat} (p : P u v i j c) (a : A (u.drop i) (v.drop j) e) (h : (c : Int) + e ≤ most) :
    InB u.length v.length most c ((j : Int) - i) := by
  have b := p.bounds
  have d := p.diag
  have l := a.lens
  rw [List.length_drop, List.length_drop] at l
  exact ⟨by omega, by omega, by omega, by omega, by omega, by omega⟩
theorem drop_cons_of {u : List α} {i : Nat} {a : α} (h : u[i]? = some a) : u.drop i = a :: u.drop (i + 1) := by
  obtain ⟨h1, h2⟩ := List.getElem?_eq_some_iff.mp h
  rw [List.drop_eq_getElem_cons h1, h2]
/-- the first front -/
theorem good_zero {u v : List α} {most : Int} {k : Nat} (h : Ext u v 0 0 k) (h1 : (v.length : Int) - u.length ≤ most) (h2 : (u.length : Int) - v.length ≤ most) : Good u v most 0 0 0 (fun _ => (k : Int)) := by
  have l1 := h.le1
  have l2 := h.le2
  have e0 : ∀ d : Int, 0 ≤ d → d ≤ 0 → d = 0 := fun d a b => by omega
  refine ⟨fun d _ _ => by omega, fun d _ _ => by omega, fun d a _ => by omega, fun d _ _ => by omega, fun d a b => ?_, fun d a b => ?_, fun i j e p _ _ => ?_, fun d => ⟨fun q => ⟨q.a1, q.a2⟩, fun q => ⟨by omega, by omega, by omega, by omega, by omega, by omega⟩⟩⟩
  · obtain rfl := e0 d a b
    have := ext_T h.eq h.le1 h.le2
    rw [T_zero] at this
    simp only [Int.toNat_natCast, Int.add_zero, Nat.zero_add] at *
    omega
  · obtain rfl := e0 d a b
    have := h.stop
    simp only [Int.toNat_natCast, Int.add_zero, Nat.zero_add] at *
    exact this
  · -- a way without changes goes along the letters that are alike
    have key : ∀ i j c, P u v i j c → c = 0 → i = j ∧ i ≤ k := by
      intro i j c p
      induction p with
      | zero => intro _; exact ⟨rfl, Nat.zero_le _⟩
      | @keep i j c a _ e1 e2 ih =>
        intro hc
        obtain ⟨rfl, hk⟩ := ih hc
        refine ⟨rfl, ?_⟩
        rcases Nat.lt_or_ge i k with q | q
        · exact q
        · have : i = k := by omega
          subst this
          have hs := h.stop
          rw [Nat.zero_add] at hs
          exact absurd ⟨a, e1, e2⟩ hs
      | swap _ _ _ _ => intro hc; omega
      | drop _ _ _ => intro hc; omega
      | add _ _ _ => intro hc; omega
    have := (key i j 0 p rfl).2
    show (i : Int) ≤ k
    omega
/-- a row that is told ahead, or one far ahead of all rows -/
def rowAt (lo hi : Int) (f : Int → Int) (d : Int) : Int := if lo ≤ d ∧ d ≤ hi then f d else -2
def rowB (n m lo hi : Int) (f : Int → Int) (d : Int) : Int :=
  min (min (max (max (rowAt lo hi f d + 1) (rowAt lo hi f (d + 1) + 1)) (rowAt lo hi f (d - 1))) n) (m - d)
theorem T_up {u v : List α} {i j c : Nat} (h : T u v i j ≤ c) (hi : i ≤ u.length) (hj : j ≤ v.length) :
    (i < u.length → j < v.length → T u v (i + 1) (j + 1) ≤ c + 1) ∧ (i < u.length → T u v (i + 1) j ≤ c + 1) ∧ (j < v.length → T u v i (j + 1) ≤ c + 1) := by
  have p := T_P (u := u) (v := v) i j hi hj
  refine ⟨fun a b => Nat.le_trans (T_le (.swap p a b)) (by omega), fun a => Nat.le_trans (T_le (.drop p a)) (by omega), fun b => Nat.le_trans (T_le (.add p b)) (by omega)⟩
theorem P.lift {u v : List α} {i j c n m : Nat} (h : P (u.take n) (v.take m) i j c) : P u v i j c := by
  induction h with
  | zero => exact .zero
  | keep _ e1 e2 ih =>
    rw [List.getElem?_take] at e1 e2
    split at e1
    · split at e2
      · exact .keep ih e1 e2
      · cases e2
    · cases e1
  | swap _ h1 h2 ih => rw [List.length_take] at h1 h2; exact .swap ih (by omega) (by omega)
  | drop _ h1 ih => rw [List.length_take] at h1; exact .drop ih (by omega)
  | add _ h1 ih => rw [List.length_take] at h1; exact .add ih (by omega)
theorem A.toPre {u v : List α} {i j c : Nat} (h : A (u.take i) (v.take j) c) (hi : i ≤ u.length) (hj : j ≤ v.length) : P u v i j c := by
  have := h.toP.lift
  rw [List.length_take, List.length_take, Nat.min_eq_left hi, Nat.min_eq_left hj] at this
  exact this
/-- one letter less on a side: at most one change more -/
theorem T_back2 {u v : List α} {i j c : Nat} (h : P u v i (j + 1) c) (hj : j < v.length) : T u v i j ≤ c + 1 := by
  obtain ⟨v1, v2, c1, c2, e, h1, h2, rfl⟩ := (h.toA.symm).split (v.take j) [v[j]] (by rw [List.take_add_one, List.getElem?_eq_getElem hj]; rfl)
  have b := h.bounds
  have l := h2.lens
  simp only [List.length_singleton] at l
  have h3 := (h1.append (A.adds v2)).symm
  have e4 : u.take i = v1 ++ v2 := e
  have h4 : A (u.take i) (v.take j) (c1 + v2.length) := h3.cast e4.symm (List.append_nil _) rfl
  have := A.toPre h4 b.1 (by omega)
  exact Nat.le_trans (T_le this) (by omega)
theorem T_back1 {u v : List α} {i j c : Nat} (h : P u v (i + 1) j c) (hi : i < u.length) : T u v i j ≤ c + 1 := by
  obtain ⟨v1, v2, c1, c2, e, h1, h2, rfl⟩ := (h.toA).split (u.take i) [u[i]] (by rw [List.take_add_one, List.getElem?_eq_getElem hi]; rfl)
  have b := h.bounds
  have l := h2.lens
  simp only [List.length_singleton] at l
  have h3 := h1.append (A.adds v2)
  have h4 : A (u.take i) (v.take j) (c1 + v2.length) := h3.cast (List.append_nil _) e.symm rfl
  have := A.toPre h4 (by omega) b.2
  exact Nat.le_trans (T_le this) (by omega)
theorem rowAt_in {lo hi : Int} {f : Int → Int} {d : Int} (h : lo ≤ d ∧ d ≤ hi) : rowAt lo hi f d = f d := by unfold rowAt; rw [if_pos h]
theorem rowAt_out {lo hi : Int} {f : Int → Int} {d : Int} (h : ¬ (lo ≤ d ∧ d ≤ hi)) : rowAt lo hi f d = -2 := by unfold rowAt; rw [if_neg h]
/-- a neighbour of which the row comes -/
theorem max_of {x y z : Int} : ∃ w, max (max x y) z = w ∧ x ≤ w ∧ y ≤ w ∧ z ≤ w ∧ (w = x ∨ w = y ∨ w = z) := ⟨_, rfl, by omega, by omega, by omega, by omega⟩
theorem min_of {x y z : Int} : ∃ w, min (min x y) z = w ∧ w ≤ x ∧ w ≤ y ∧ w ≤ z ∧ (w = x ∨ w = y ∨ w = z) := ⟨_, rfl, by omega, by omega, by omega, by omega⟩
/-- the row is well placed and has no more changes -/
theorem rowB_ok {u v : List α} {most : Int} {c : Nat} {lo hi : Int} {f : Int → Int} (G : Good u v most c lo hi f) {d : Int} (hd : InB u.length v.length most (c + 1) d) :
    ∃ r, rowB u.length v.length lo hi f d = r ∧ 0 ≤ r ∧ r ≤ u.length ∧ 0 ≤ r + d ∧ r + d ≤ v.length ∧ T u v r.toNat (r + d).toNat ≤ c + 1 := by
  have some_ : (lo ≤ d ∧ d ≤ hi) ∨ (lo ≤ d + 1 ∧ d + 1 ≤ hi) ∨ (lo ≤ d - 1 ∧ d - 1 ≤ hi) := by
    rcases inB_near hd with q | q | q
    · exact .inl ((G.band _).mp q)
    · exact .inr (.inl ((G.band _).mp q))
    · exact .inr (.inr ((G.band _).mp q))
  have b3 := hd.a3
  have b4 := hd.a4
  obtain ⟨mx, em, m1, m2, m3, mo⟩ := max_of (x := rowAt lo hi f d + 1) (y := rowAt lo hi f (d + 1) + 1) (z := rowAt lo hi f (d - 1))
  obtain ⟨r, er, r1, r2, r3, ro⟩ := min_of (x := mx) (y := (u.length : Int)) (z := v.length - d)
  have S := fun (e : Int) (p : lo ≤ e ∧ e ≤ hi) (pf : 0 ≤ f e ∧ f e ≤ u.length ∧ 0 ≤ f e + e ∧ f e + e ≤ v.length) => T_up (u := u) (v := v) (G.sound e p.1 p.2) (i := (f e).toNat) (j := (f e + e).toNat) (by omega) (by omega)
  have B := fun (e : Int) (q : lo ≤ e ∧ e ≤ hi) => (⟨G.f0 e q.1 q.2, G.fn e q.1 q.2, G.g0 e q.1 q.2, G.gm e q.1 q.2⟩ : 0 ≤ f e ∧ f e ≤ u.length ∧ 0 ≤ f e + e ∧ f e + e ≤ v.length)
  refine ⟨r, by unfold rowB; rw [em]; exact er, ?_⟩
  -- mx is at least 0
  have m0 : 0 ≤ mx := by
    rcases some_ with q | q | q
    · have := rowAt_in (f := f) q; have := B _ q; omega
    · have := rowAt_in (f := f) q; have := B _ q; omega
    · have := rowAt_in (f := f) q; have := B _ q; omega
  have src : ((lo ≤ d ∧ d ≤ hi) ∧ mx = f d + 1) ∨ ((lo ≤ d + 1 ∧ d + 1 ≤ hi) ∧ mx = f (d + 1) + 1) ∨ ((lo ≤ d - 1 ∧ d - 1 ≤ hi) ∧ mx = f (d - 1)) := by
    rcases mo with z | z | z
    · left
      by_cases q : lo ≤ d ∧ d ≤ hi
      · exact ⟨q, by rw [rowAt_in q] at z; exact z⟩
      · rw [rowAt_out q] at z; omega
    · right; left
      by_cases q : lo ≤ d + 1 ∧ d + 1 ≤ hi
      · exact ⟨q, by rw [rowAt_in q] at z; exact z⟩
      · rw [rowAt_out q] at z; omega
    · right; right
      by_cases q : lo ≤ d - 1 ∧ d - 1 ≤ hi
      · exact ⟨q, by rw [rowAt_in q] at z; exact z⟩
      · rw [rowAt_out q] at z; omega
  clear some_ mo m1 m2 m3 em er
  rcases src with ⟨q, z⟩ | ⟨q, z⟩ | ⟨q, z⟩
  · have bb := B d q
    have s := S d q bb
    have g := G.sound d q.1 q.2
    have w : r = f d + 1 ∨ r = f d := by omega
    refine ⟨by omega, by omega, by omega, by omega, ?_⟩
    rcases w with w | w
    · have e1 : r.toNat = (f d).toNat + 1 := by omega
      have e2 : (r + d).toNat = (f d + d).toNat + 1 := by omega
      rw [e1, e2]
      exact s.1 (by omega) (by omega)
    · rw [w]; omega
  · have bb := B (d + 1) q
    have s := S (d + 1) q bb
    have g := G.sound (d + 1) q.1 q.2
    have w : r = f (d + 1) + 1 ∨ r = f (d + 1) := by omega
    refine ⟨by omega, by omega, by omega, by omega, ?_⟩
    rcases w with w | w
    · have e1 : r.toNat = (f (d + 1)).toNat + 1 := by omega
      have e2 : (r + d).toNat = (f (d + 1) + (d + 1)).toNat := by omega
      rw [e1, e2]
      exact s.2.1 (by omega)
    · have e2 : (f (d + 1) + (d + 1)).toNat = (r + d).toNat + 1 := by omega
      rw [← w] at g e2
      rw [e2] at g
      have p := T_P (u := u) (v := v) r.toNat ((r + d).toNat + 1) (by omega) (by omega)
      exact Nat.le_trans (T_back2 p (by omega)) (by omega)
  · have bb := B (d - 1) q
    have s := S (d - 1) q bb
    have g := G.sound (d - 1) q.1 q.2
    have w : r = f (d - 1) ∨ r = f (d - 1) - 1 := by omega
    refine ⟨by omega, by omega, by omega, by omega, ?_⟩
    rcases w with w | w
    · have e2 : (r + d).toNat = (f (d - 1) + (d - 1)).toNat + 1 := by omega
      rw [← w] at s e2
      rw [e2]
      exact s.2.2 (by omega)
    · have e1 : (f (d - 1)).toNat = r.toNat + 1 := by omega
      have e2 : (f (d - 1) + (d - 1)).toNat = (r + d).toNat := by omega
      rw [e1, e2] at g
      have p := T_P (u := u) (v := v) (r.toNat + 1) (r + d).toNat (by omega) (by omega)
      exact Nat.le_trans (T_back1 p (by omega)) (by omega)
/-- the row is no less than a neighbour leads to, within the texts -/
theorem rowB_cut {n m lo hi d x : Int} {f : Int → Int} (h : (lo ≤ d ∧ d ≤ hi ∧ x ≤ f d + 1) ∨ (lo ≤ d + 1 ∧ d + 1 ≤ hi ∧ x ≤ f (d + 1) + 1) ∨ (lo ≤ d - 1 ∧ d - 1 ≤ hi ∧ x ≤ f (d - 1))) (h1 : x ≤ n) (h2 : x + d ≤ m) :
    x ≤ rowB n m lo hi f d := by
  obtain ⟨mx, em, m1, m2, m3, _⟩ := max_of (x := rowAt lo hi f d + 1) (y := rowAt lo hi f (d + 1) + 1) (z := rowAt lo hi f (d - 1))
  obtain ⟨r, er, _, _, _, ro⟩ := min_of (x := mx) (y := n) (z := m - d)
  have e : rowB n m lo hi f d = r := by unfold rowB; rw [em]; exact er
  rw [e]
  rcases h with ⟨a, b, c⟩ | ⟨a, b, c⟩ | ⟨a, b, c⟩
  · rw [rowAt_in ⟨a, b⟩] at m1; omega
  · rw [rowAt_in ⟨a, b⟩] at m2; omega
  · rw [rowAt_in ⟨a, b⟩] at m3; omega
/-- the next front -/
theorem good_succ {u v : List α} {most : Int} {c : Nat} {lo hi lo' hi' : Int} {f f' : Int → Int} (G : Good u v most c lo hi f)
    (band : ∀ d, InB u.length v.length most (c + 1) d ↔ (lo' ≤ d ∧ d ≤ hi'))
    (hf : ∀ d, lo' ≤ d → d ≤ hi' → ∃ k, Ext u v (rowB u.length v.length lo hi f d).toNat (rowB u.length v.length lo hi f d + d).toNat k ∧ f' d = rowB u.length v.length lo hi f d + k) : Good u v most (c + 1) lo' hi' f' := by
  have key : ∀ d, InB u.length v.length most (c + 1) d → 0 ≤ f' d ∧ f' d ≤ u.length ∧ 0 ≤ f' d + d ∧ f' d + d ≤ v.length ∧ T u v (f' d).toNat (f' d + d).toNat ≤ c + 1 ∧ Stop u v (f' d).toNat (f' d + d).toNat ∧ rowB u.length v.length lo hi f d ≤ f' d := by
    intro d hd
    have ab := (band d).mp hd
    obtain ⟨k, e, ef⟩ := hf d ab.1 ab.2
    obtain ⟨r, er, r0, rn, s0, sm, t⟩ := rowB_ok G hd
    rw [er] at e ef ⊢
    have l1 := e.le1
    have l2 := e.le2
    have et := ext_T e.eq l1 l2
    have es := e.stop
    have e1 : (f' d).toNat = r.toNat + k := by omega
    have e2 : (f' d + d).toNat = (r + d).toNat + k := by omega
    rw [e1, e2]
    exact ⟨by omega, by omega, by omega, by omega, Nat.le_trans et t, es, by omega⟩
  have key' := fun d a b => key d ((band d).mpr ⟨a, b⟩)
  refine ⟨fun d a b => (key' d a b).1, fun d a b => (key' d a b).2.1, fun d a b => (key' d a b).2.2.1, fun d a b => (key' d a b).2.2.2.1, fun d a b => (key' d a b).2.2.2.2.1, fun d a b => (key' d a b).2.2.2.2.2.1, ?_, band⟩
  intro i j e p
  generalize ec : c + 1 = c' at p
  induction p generalizing e with
  | zero => intro _ _; omega
  | @keep i j c'' a p e1 e2 ih =>
    intro al hle
    subst ec
    have al' : A (u.drop i) (v.drop j) e := by
      rw [drop_cons_of e1, drop_cons_of e2]; exact .keep al
    have h3 := ih e rfl al' hle
    have k := key ((j : Int) - i) (full_in p al' hle)
    have e3 : ((j + 1 : Nat) : Int) - ((i + 1 : Nat) : Int) = (j : Int) - i := by omega
    rw [e3]
    rcases Int.lt_or_le (i : Int) (f' ((j : Int) - i)) with q | q
    · omega
    · exfalso
      have z : f' ((j : Int) - i) = i := by omega
      have st := k.2.2.2.2.2.1
      rw [z] at st
      have y : ((i : Int) + ((j : Int) - i)).toNat = j := by omega
      rw [y, Int.toNat_natCast] at st
      exact st ⟨a, e1, e2⟩
  | @swap i j c'' p hi_ hj _ =>
    intro al hle
    have ec' : c'' = c := by omega
    subst ec'
    have al' : A (u.drop i) (v.drop j) (e + 1) := by
      rw [List.drop_eq_getElem_cons hi_, List.drop_eq_getElem_cons hj]; exact .swap al
    have h3 := G.full i j (e + 1) p al' (by omega)
    have B := (G.band _).mp (full_in p al' (by omega))
    have B' := full_in (P.swap p hi_ hj) al hle
    have e3 : ((j + 1 : Nat) : Int) - ((i + 1 : Nat) : Int) = (j : Int) - i := by omega
    rw [e3] at B' ⊢
    have k := (key ((j : Int) - i) B').2.2.2.2.2.2
    have := rowB_cut (n := u.length) (m := v.length) (lo := lo) (hi := hi) (f := f) (d := (j : Int) - i) (x := i + 1) (.inl ⟨B.1, B.2, by omega⟩) (by omega) (by omega)
    omega
  | @drop i j c'' p hi_ _ =>
    intro al hle
    have ec' : c'' = c := by omega
    subst ec'
    have al' : A (u.drop i) (v.drop j) (e + 1) := by
      rw [List.drop_eq_getElem_cons hi_]; exact .drop al
    have b := p.bounds
    have h3 := G.full i j (e + 1) p al' (by omega)
    have B := (G.band _).mp (full_in p al' (by omega))
    have B' := full_in (P.drop p hi_) al hle
    have e3 : (j : Int) - ((i + 1 : Nat) : Int) = (j : Int) - i - 1 := by omega
    rw [e3] at B' ⊢
    have k := (key ((j : Int) - i - 1) B').2.2.2.2.2.2
    have y : (j : Int) - i - 1 + 1 = (j : Int) - i := by omega
    have := rowB_cut (n := u.length) (m := v.length) (lo := lo) (hi := hi) (f := f) (d := (j : Int) - i - 1) (x := i + 1) (.inr (.inl (by rw [y]; exact ⟨B.1, B.2, by omega⟩))) (by omega) (by omega)
    omega
  | @add i j c'' p hj _ =>
    intro al hle
    have ec' : c'' = c := by omega
    subst ec'
    have al' : A (u.drop i) (v.drop j) (e + 1) := by
      rw [List.drop_eq_getElem_cons hj]; exact .add al
    have b := p.bounds
    have h3 := G.full i j (e + 1) p al' (by omega)
    have B := (G.band _).mp (full_in p al' (by omega))
    have B' := full_in (P.add p hj) al hle
    have e3 : ((j + 1 : Nat) : Int) - (i : Int) = (j : Int) - i + 1 := by omega
    rw [e3] at B' ⊢
    have k := (key ((j : Int) - i + 1) B').2.2.2.2.2.2
    have y : (j : Int) - i + 1 - 1 = (j : Int) - i := by omega
    have := rowB_cut (n := u.length) (m := v.length) (lo := lo) (hi := hi) (f := f) (d := (j : Int) - i + 1) (x := i) (.inr (.inr (by rw [y]; exact ⟨B.1, B.2, by omega⟩))) (by omega) (by omega)
    omega
/-- what the front at the goal tells -/
theorem good_goal {u v : List α} {most : Int} {c : Nat} {lo hi : Int} {f : Int → Int} (G : Good u v most c lo hi f) (hm : (c : Int) ≤ most) (hD : c ≤ D u v) :
    (rowAt lo hi f ((v.length : Int) - u.length) = u.length → D u v = c) ∧ (rowAt lo hi f ((v.length : Int) - u.length) ≠ u.length → c + 1 ≤ D u v) := by
  refine ⟨fun h => ?_, fun h => ?_⟩
  · have q : lo ≤ (v.length : Int) - u.length ∧ (v.length : Int) - u.length ≤ hi := by
      by_cases q : lo ≤ (v.length : Int) - u.length ∧ (v.length : Int) - u.length ≤ hi
      · exact q
      · rw [rowAt_out q] at h; omega
    rw [rowAt_in q] at h
    have s := G.sound _ q.1 q.2
    rw [h] at s
    have e1 : ((u.length : Int)).toNat = u.length := by omega
    have e2 : ((u.length : Int) + ((v.length : Int) - u.length)).toNat = v.length := by omega
    rw [e1, e2] at s
    exact Nat.le_antisymm s hD
  · have key : ¬ (D u v = c) := by
      intro e
      have p := (D_A u v).toP
      rw [e] at p
      have al : A (u.drop u.length) (v.drop v.length) 0 := by simp; exact .nil
      have := G.full _ _ 0 p al (by omega)
      have q := (G.band _).mp (full_in p al (by omega))
      have n := G.fn _ q.1 q.2
      rw [rowAt_in q] at h
      omega
    omega
theorem D_far {u v : List α} {most : Int} (h : ¬ ((v.length : Int) - u.length ≤ most ∧ (u.length : Int) - v.length ≤ most)) : (D u v : Int) > most := by
  have := (D_A u v).lens
  omega
end
end Lev

set_option Elab.async false
set_option linter.all false
set_option maxHeartbeats 400000
namespace Lev
section
variable {α : Type} [DecidableEq α]
/-! ### turns by a number, and roots -/
def rot (k : Nat) (v : List α) : List α := v.drop k ++ v.take k
theorem rot_len (k : Nat) (v : List α) : (rot k v).length = v.length := by
  unfold rot; rw [List.length_append, List.length_drop, List.length_take]; omega
theorem rot_get {k : Nat} {v : List α} (hk : k ≤ v.length) {i : Nat} (hi : i < v.length) : (rot k v)[i]? = v[(i + k) % v.length]? := by
  unfold rot
  by_cases h : i < v.length - k
  · rw [List.getElem?_append_left (by rw [List.length_drop]; exact h), List.getElem?_drop, Nat.mod_eq_of_lt (by omega), Nat.add_comm]
  · rw [List.getElem?_append_right (by rw [List.length_drop]; omega), List.length_drop, List.getElem?_take, if_pos (by omega)]
    have e : i + k = (i - (v.length - k)) + v.length := by omega
    rw [e, Nat.add_mod_right, Nat.mod_eq_of_lt (by omega)]
/-- each letter is the one so many places on -/
def Pr (v u : List α) (s : Nat) : Prop := ∀ i, i < v.length → v[(i + s) % v.length]? = u[i]?
theorem rot_eq {k : Nat} {v u : List α} (hk : k ≤ v.length) (hl : u.length = v.length) : rot k v = u ↔ Pr v u k := by
  constructor
  · intro h i hi
    rw [← h, rot_get hk hi]
  · intro h
    apply List.ext_getElem?
    intro i
    by_cases hi : i < v.length
    · rw [rot_get hk hi]; exact h i hi
    · rw [List.getElem?_eq_none (by rw [rot_len]; omega), List.getElem?_eq_none (by omega)]
theorem Pr.zero (v : List α) : Pr v v 0 := fun i hi => by rw [Nat.add_zero, Nat.mod_eq_of_lt hi]
theorem Pr.whole (v : List α) : Pr v v v.length := fun i hi => by rw [Nat.add_mod_right, Nat.mod_eq_of_lt hi]
theorem Pr.add {v u : List α} {s t : Nat} (h : Pr v v s) (g : Pr v u t) : Pr v u (t + s) := fun i hi => by
  have e := h ((i + t) % v.length) (Nat.mod_lt _ (by omega))
  rw [Nat.mod_add_mod] at e
  rw [← Nat.add_assoc, e, g i hi]
theorem Pr.sub {v u : List α} {s t : Nat} (h : Pr v v s) (g : Pr v u (t + s)) : Pr v u t := fun i hi => by
  have e := h ((i + t) % v.length) (Nat.mod_lt _ (by omega))
  rw [Nat.mod_add_mod] at e
  rw [← e, Nat.add_assoc, g i hi]
theorem Pr.mul {v : List α} {s : Nat} (h : Pr v v s) : ∀ q, Pr v v (q * s)
  | 0 => by rw [Nat.zero_mul]; exact Pr.zero v
  | q + 1 => by rw [Nat.succ_mul]; exact h.add (Pr.mul h q)
theorem Pr.mod {v u : List α} {s t : Nat} (h : Pr v v s) (g : Pr v u t) : Pr v u (t % s) := by
  refine Pr.sub (h.mul (t / s)) ?_
  rw [Nat.mul_comm, Nat.mod_add_div]; exact g
theorem Pr.diff {v u : List α} {s t : Nat} (h : Pr v u s) (g : Pr v u (t + s)) : Pr v v t := fun i hi => by
  -- the letters i + t and i are both read by u
  have hv : 0 < v.length := by omega
  -- choose j with j + s ≡ i
  have key : ∃ j, j < v.length ∧ (j + s) % v.length = i := by
    refine ⟨(i + (v.length - s % v.length)) % v.length, Nat.mod_lt _ hv, ?_⟩
    rw [Nat.mod_add_mod]
    have hs := Nat.mod_lt s hv
    have e : i + (v.length - s % v.length) + s = i + v.length * (s / v.length + 1) := by
      have := Nat.mod_add_div s v.length
      rw [Nat.mul_add, Nat.mul_one]
      generalize v.length * (s / v.length) = z at *
      omega
    rw [e, Nat.add_mul_mod_self_left, Nat.mod_eq_of_lt hi]
  obtain ⟨j, hj, ej⟩ := key
  have e1 := h j hj
  have e2 := g j hj
  rw [ej] at e1
  have e3 : (j + (t + s)) % v.length = (i + t) % v.length := by
    rw [show j + (t + s) = (j + s) + t by omega, ← Nat.mod_add_mod, ej]
  rw [e3] at e2
  rw [e2, e1]
instance (v u : List α) (s : Nat) : Decidable (Pr v u s) := by unfold Pr; infer_instance
/-- the length of the root -/
def rho (v : List α) : Nat := ((List.range v.length).find? fun s => decide (Pr v v (s + 1))).elim 0 (· + 1)
theorem rho_nil : rho ([] : List α) = 0 := rfl
theorem find_range {n : Nat} {p : Nat → Bool} {s : Nat} (h : (List.range n).find? p = some s) : s < n ∧ p s = true ∧ ∀ t, t < s → p t = false := by
  have e := List.find?_eq_some_iff_getElem.mp h
  obtain ⟨h1, i, hi, h2, h3⟩ := e
  rw [List.length_range] at hi
  rw [List.getElem_range] at h2
  subst h2
  exact ⟨hi, h1, fun t ht => by have := h3 t ht; rw [List.getElem_range] at this; simpa using this⟩
theorem rho_spec {v : List α} (hv : v ≠ []) : 0 < rho v ∧ rho v ≤ v.length ∧ Pr v v (rho v) ∧ ∀ t, 0 < t → t < rho v → ¬ Pr v v t := by
  have hl : 0 < v.length := List.length_pos_iff.mpr hv
  unfold rho
  cases h : (List.range v.length).find? fun s => decide (Pr v v (s + 1)) with
  | none =>
    have := List.find?_eq_none.mp h (v.length - 1) (List.mem_range.mpr (by omega))
    rw [show v.length - 1 + 1 = v.length by omega] at this
    exact absurd (decide_eq_true (Pr.whole v)) this
  | some s =>
    obtain ⟨h1, h2, h3⟩ := find_range h
    refine ⟨Nat.succ_pos _, h1, of_decide_eq_true h2, fun t t0 t1 => ?_⟩
    have := h3 (t - 1) (by have : t < s + 1 := t1; omega)
    rw [show t - 1 + 1 = t by omega] at this
    exact of_decide_eq_false this
theorem rho_le (v : List α) : rho v ≤ v.length := by
  by_cases h : v = []
  · subst h; exact Nat.le_refl _
  · exact (rho_spec h).2.1
theorem rho_least {v : List α} (hv : v ≠ []) {t : Nat} (t0 : 0 < t) (h : Pr v v t) : rho v ≤ t := by
  obtain ⟨_, _, _, k⟩ := rho_spec hv
  rcases Nat.lt_or_ge t (rho v) with q | q
  · exact absurd h (k t t0 q)
  · exact q
theorem rho_eq {v : List α} (hv : v ≠ []) {s : Nat} (s0 : 0 < s) (h : Pr v v s) (k : ∀ t, 0 < t → t < s → ¬ Pr v v t) : rho v = s := by
  refine Nat.le_antisymm (rho_least hv s0 h) ?_
  obtain ⟨a, _, c, _⟩ := rho_spec hv
  rcases Nat.lt_or_ge (rho v) s with q | q
  · exact absurd c (k _ a q)
  · exact q
theorem rho_dvd {v : List α} (hv : v ≠ []) {t : Nat} (h : Pr v v t) : t % rho v = 0 := by
  obtain ⟨a, _, c, k⟩ := rho_spec hv
  rcases Nat.eq_zero_or_pos (t % rho v) with q | q
  · exact q
  · exact absurd (Pr.mod c h) (k _ q (Nat.mod_lt _ a))
/-- the rounds of a piece -/
theorem rounds_Pr {w : List α} (hw : w ≠ []) (k : Nat) (s : Nat) : Pr (rounds (k + 1) w) (rounds (k + 1) w) s ↔ Pr w w s := by
  have hm : 0 < w.length := List.length_pos_iff.mpr hw
  have hl : (rounds (k + 1) w).length = (k + 1) * w.length := rounds_len _ _
  have get : ∀ i, (rounds (k + 1) w)[i % ((k + 1) * w.length)]? = w[i % w.length]? := fun i => by
    rw [rounds_get _ _ (Nat.mod_lt _ (Nat.mul_pos (Nat.succ_pos _) hm)), Nat.mod_mod_of_dvd _ (Nat.dvd_mul_left _ _)]
  constructor
  · intro h i hi
    have e := h i (by rw [hl, Nat.succ_mul]; omega)
    rw [hl, get] at e
    have e2 := get i
    rw [Nat.mod_eq_of_lt (by rw [Nat.succ_mul]; omega), Nat.mod_eq_of_lt hi] at e2
    rw [e, e2]
  · intro h i hi
    rw [hl] at hi
    rw [hl, get]
    have e2 := get i
    rw [Nat.mod_eq_of_lt hi] at e2
    rw [e2]
    have := h (i % w.length) (Nat.mod_lt _ hm)
    rw [Nat.mod_add_mod] at this
    exact this
theorem rounds_ne {w : List α} (hw : w ≠ []) (k : Nat) : rounds (k + 1) w ≠ [] := by
  intro h
  have := congrArg List.length h
  rw [rounds_len, Nat.succ_mul, List.length_nil] at this
  have := List.length_pos_iff.mpr hw
  omega
theorem rho_rounds {w : List α} (hw : w ≠ []) (k : Nat) : rho (rounds (k + 1) w) = rho w := by
  obtain ⟨a, _, c, d⟩ := rho_spec hw
  exact rho_eq (rounds_ne hw k) a ((rounds_Pr hw k _).mpr c) fun t t0 t1 h => d t t0 t1 ((rounds_Pr hw k _).mp h)
theorem rho_ext {v w : List α} (h : ∀ s, Pr v v s ↔ Pr w w s) (hv : v ≠ []) (hw : w ≠ []) : rho v = rho w := by
  obtain ⟨a, _, c, d⟩ := rho_spec hw
  exact rho_eq hv a ((h _).mpr c) fun t t0 t1 q => d t t0 t1 ((h _).mp q)
/-- a text is the rounds of a beginning of s letters exactly if s divides and it is periodic -/
theorem rounds_iff {v : List α} {s : Nat} (s0 : 0 < s) (hs : s ≤ v.length) : (v.length % s = 0 ∧ rounds (v.length / s) (v.take s) = v) ↔ (v.length % s = 0 ∧ Pr v v s) := by
  have lt : (v.take s).length = s := by rw [List.length_take]; omega
  constructor
  · rintro ⟨h1, h2⟩
    refine ⟨h1, ?_⟩
    have hq : 0 < v.length / s := Nat.div_pos hs s0
    obtain ⟨k, hk⟩ : ∃ k, v.length / s = k + 1 := ⟨v.length / s - 1, by omega⟩
    rw [hk] at h2
    have hw : v.take s ≠ [] := by intro z; rw [z] at lt; simp at lt; omega
    have := (rounds_Pr hw k s).mpr (by have := Pr.whole (v.take s); rw [lt] at this; exact this)
    rw [h2] at this
    exact this
  · rintro ⟨h1, h2⟩
    refine ⟨h1, ?_⟩
    have hd : v.length / s * s = v.length := Nat.div_mul_cancel (Nat.dvd_of_mod_eq_zero h1)
    apply List.ext_getElem?
    intro i
    by_cases hi : i < v.length
    · rw [rounds_get _ _ (by rw [lt, hd]; exact hi), lt, List.getElem?_take, if_pos (Nat.mod_lt _ s0)]
      have e := h2.mul (i / s) (i % s) (Nat.lt_of_lt_of_le (Nat.mod_lt _ s0) hs)
      rw [Nat.mul_comm, Nat.mod_add_div, Nat.mod_eq_of_lt hi] at e
      exact e.symm
    · rw [List.getElem?_eq_none (by rw [rounds_len, lt, hd]; omega), List.getElem?_eq_none (by omega)]
theorem rho_rounds_of {v : List α} (hv : v ≠ []) : v.length % rho v = 0 ∧ rounds (v.length / rho v) (v.take (rho v)) = v := by
  obtain ⟨a, b, c, _⟩ := rho_spec hv
  exact (rounds_iff a b).mpr ⟨rho_dvd hv (Pr.whole v), c⟩
def root (v : List α) : List α := v.take (rho v)
theorem root_nil : root ([] : List α) = [] := rfl
theorem root_len (v : List α) : (root v).length = rho v := by unfold root; rw [List.length_take]; have := rho_le v; omega
theorem root_ne {v : List α} (hv : v ≠ []) : root v ≠ [] := by
  intro h
  have := congrArg List.length h
  rw [root_len] at this
  have := (rho_spec hv).1
  simp at *; omega
theorem root_rounds {w : List α} (hw : w ≠ []) (k : Nat) : root (rounds (k + 1) w) = root w := by
  unfold root
  rw [rho_rounds hw]
  show (w ++ rounds k w).take (rho w) = _
  rw [List.take_append_of_le_length (rho_le w)]
theorem root_of {v : List α} (hv : v ≠ []) : ∃ k, v = rounds (k + 1) (root v) := by
  obtain ⟨h1, h2⟩ := rho_rounds_of hv
  have hq : 0 < v.length / rho v := Nat.div_pos (rho_le v) (rho_spec hv).1
  exact ⟨v.length / rho v - 1, by rw [show v.length / rho v - 1 + 1 = v.length / rho v by omega]; exact h2.symm⟩
theorem rounds_addR (v : List α) (n : Nat) : ∀ k, rounds (k + n) v = rounds k v ++ rounds n v
  | 0 => by rw [Nat.zero_add]; rfl
  | k + 1 => by
    rw [Nat.add_right_comm]
    show v ++ rounds (k + n) v = (v ++ rounds k v) ++ rounds n v
    rw [rounds_addR v n k, List.append_assoc]
/-- texts that commute are rounds of one text -/
theorem commute {N : Nat} : ∀ {x y : List α}, x.length + y.length ≤ N → x ≠ [] → y ≠ [] → x ++ y = y ++ x → ∃ z a b, z ≠ [] ∧ x = rounds (a + 1) z ∧ y = rounds (b + 1) z := by
  induction N with
  | zero => intro x y h hx _ _; exact absurd (List.length_eq_zero_iff.mp (by omega)) hx
  | succ N ih =>
    intro x y h hx hy e
    have px := List.length_pos_iff.mpr hx
    have py := List.length_pos_iff.mpr hy
    have one : ∀ {x y : List α}, x.length + y.length ≤ N + 1 → x ≠ [] → y ≠ [] → x ++ y = y ++ x → x.length < y.length → ∃ z a b, z ≠ [] ∧ x = rounds (a + 1) z ∧ y = rounds (b + 1) z := by
      intro x y h hx hy e l
      have px := List.length_pos_iff.mpr hx
      have hp : y = x ++ y.drop x.length := by
        have := congrArg (List.take x.length) e
        rw [List.take_left', List.take_append_of_le_length (by omega)] at this
        · conv => lhs; rw [← List.take_append_drop x.length y]
          rw [← this]
        · rfl
      generalize hy' : y.drop x.length = y' at hp
      have ly : y'.length = y.length - x.length := by rw [← hy', List.length_drop]
      rw [hp] at e
      have e2 : x ++ y' = y' ++ x := by
        rw [List.append_assoc] at e
        exact List.append_cancel_left e
      have hy2 : y' ≠ [] := by intro z; rw [z] at ly; simp at ly; omega
      obtain ⟨z, a, b, hz, e3, e4⟩ := ih (by omega) hx hy2 e2
      refine ⟨z, a, a + 1 + b, hz, e3, ?_⟩
      rw [hp, show a + 1 + b + 1 = (a + 1) + (b + 1) by omega, rounds_addR, ← e3, ← e4]
    rcases Nat.lt_trichotomy x.length y.length with l | l | l
    · exact one h hx hy e l
    · have : x = y := by
        have := congrArg (List.take x.length) e
        rw [List.take_left' rfl, List.take_left' l.symm] at this
        exact this
      subst this
      exact ⟨x, 0, 0, hx, by simp [rounds], by simp [rounds]⟩
    · obtain ⟨z, a, b, hz, e1, e2⟩ := one (by omega) hy hx e.symm l
      exact ⟨z, b, a, hz, e2, e1⟩
theorem root_commute {x y : List α} (hx : x ≠ []) (hy : y ≠ []) : root x = root y ↔ x ++ y = y ++ x := by
  constructor
  · intro h
    obtain ⟨a, ea⟩ := root_of hx
    obtain ⟨b, eb⟩ := root_of hy
    rw [← h] at eb
    rw [ea, eb, ← rounds_addR, ← rounds_addR, Nat.add_comm]
  · intro h
    obtain ⟨z, a, b, hz, e1, e2⟩ := commute (Nat.le_refl _) hx hy h
    rw [e1, e2, root_rounds hz, root_rounds hz]
end
end Lev

set_option Elab.async false
set_option linter.all false
set_option maxRecDepth 100000
set_option maxHeartbeats 2000000
/-! An own error class over another own class over Exception, whose __init__ keeps its one argument: raised, caught, its attribute read. -/
namespace ErrX
open PySem PySem.W PySem.Calls PyProof.Rows PySem.HandSPX Builtin Builtin.ObjectAttr
abbrev tailE : List Value := [.type "Exception", .type "BaseException", .type "object"]
/-! ### the text of such an __init__ -/
def iA (p1 p2 : Pos) : Arguments := { posonlyargs := [], args := [{ arg := "self", annotation := none, pos := p1 }, { arg := "given", annotation := none, pos := p2 }], vararg := none, kwonlyargs := [], kw_defaults := [], kwarg := none, defaults := [] }
def iB (q1 q2 q3 q4 : Pos) : List Stmt := [.Assign [.Attribute (.Name "self" q1) "given" q2] (.Name "given" q3) q4]
def iS : Scope := { kind := .function, names := [(PySem.Str.ofString "self", .local), (PySem.Str.ofString "given", .local)], isGenerator := false, isCoroutine := false, more := [] }
/-- what the written part says of the class cn, at C, and of its __init__, at fI -/
structure ETxt (K : Frag) (mg : Str → Option Value) (cn qi : Str) (C fI : Addr) : Prop where
  gC : mg cn = some (.ref C)
  cls : ∃ nm q N bs bm sn sub ab col dd k0 k1 k2 k3 k5, K.lookup C = some (excClassObj nm q C N bs bm true sn sub ab col dd k0 k1 k2 k3 k5 "Exception.__new__") ∧ excTail tailE bm = true
  ov : excOver K C tailE = true
  tk : takerIn K C "given" = some none
  sa : findIn K (.ref C) "__setattr__" = some (some (.builtin "object.__setattr__"))
  ga : findIn K (.ref C) "__getattribute__" = some (some (.builtin "BaseException.__getattribute__"))
  gg : findIn K (.ref C) "__getattr__" = some none
  noN : findIn K (.ref C) "given" = some none
  iC : findIn K (.ref C) "__init__" = some (some (.ref fI))
  tC : typeIn K (.ref fI) = some (.type "function")
  kC : keepIn K (.ref C) = true
  exC : subIn K (.ref C) (.type "BaseException") = some true
  tyC : typeIn K (.ref C) = some (.type "type")
  hdC : hasDictIn K C = true
  fn : ∃ (oc : Value) (od : Option Addr) (doc pm : Value) (an : Option Addr) (cdv ct : Value) (osl : Array (Option Value)) (p1 p2 q1 q2 q3 q4 : Pos),
    K.lookup fI = some ⟨oc, od, .func (fnOf "__init__" qi (iA p1 p2) (iB q1 q2 q3 q4) iS .none .none doc pm an cdv ct), osl⟩ ∧ codeIn K cdv qi = true
theorem one_fits (v : Value) : [v].length ≤ sizeLine := by
  rw [sizeLine_eq]
  exact (by decide : 1 ≤ 16777216)
/-- what __init__ leaves of a fresh error at x -/
structure EndE (h h' : Heap) (x C dx t1 : Addr) (fl : Str) (v : Value) : Prop where
  keep : ∀ b o, b ≠ x → h.get? b = some o → h'.get? b = some o
  obj : h'.get? x = some (excObj C t1 (some dx) .none)
  dbig : h.objs.size ≤ dx
  dne : dx ≠ x
  ns : h'.Ns1 dx (fun y => if y = fl then some v else none)
structure MadeE (h h' : Heap) (e C d : Addr) (fl : Str) (v : Value) : Prop where
  keep : ∀ b o, h.get? b = some o → h'.get? b = some o
  new : h.objs.size ≤ e
  obj : ∃ t, h'.get? e = some (excObj C t (some d) .none)
  dbig : h.objs.size ≤ d
  dne : d ≠ e
  ns : h'.Ns1 d (fun y => if y = fl then some v else none)
section
variable {prog : Program} {w : World} {A : Around} {E : Value → Shared → Prop} {R : Result → Shared → Prop} {s : Shared} {K : Frag} {mg : Str → Option Value} {C fI : Addr} {cn qi : Str}
/-- the first store into a fresh error -/
theorem store_new {name : Str} {tk : Tok} {v : Value} {x t0 : Addr} (X : K.In s.heap) (hx : s.heap.get? x = some (excObj C t0 none .none)) (ho : excOver K C tailE = true) (ht : takerIn K C name = some none) (hh : hasDictIn K C = true)
    (hq : ∀ h' tk' dx, EndE s.heap h' x C dx t0 name v → R (.ok (.ret .none)) { s with heap := h', toks := tk' }) :
    codeAny (model prog w) A (.call (.builtin "object.__setattr__") ⟨[.ref x, .str name tk, v], []⟩) R s := by
  refine osa_openX (od := none) F.store_Exception X ⟨hx, rfl, rfl, trivial⟩ ho ht fun b => ?_
  obtain ⟨cd, hc, hd'⟩ := any_some hh
  have hxs : x ≠ s.heap.objs.size := Nat.ne_of_lt (Heap.lt_size hx)
  have hx1 : (s.heap.push { cls := .type "dict", data := .dict #[] }).get? x = some (excObj C t0 none .none) := Heap.get?_push_of_some _ hx
  refine wpAny_bind (wpAny_pure (wpAny_bind (instanceDict_exc hx (looks_clsIn X hc) hd' ?_)))
  show wpAny _ _ (storeInDict s.heap.objs.size (.str name tk) name v) _ _ _
  obtain ⟨hp, g, dr, t, os⟩ := s
  refine store_in_new ?_ ?_
  · exact ⟨_, #[], _, (Heap.get?_update_ne _ _ _ _ hxs.symm).trans (Heap.get?_push_at rfl rfl), rfl, fun e he => absurd he (by simp), fun _ => rfl⟩
  · intro h' tk' hn' hs
    refine hq h' tk' hp.objs.size ⟨fun b o hb ho => ?_, ?_, Nat.le_refl _, hxs.symm, hn'⟩
    · exact (hs.2 b (Nat.ne_of_lt (Heap.lt_size ho))).trans ((Heap.get?_update_ne _ _ _ _ hb).trans (Heap.get?_push_of_some _ ho))
    · exact (hs.2 x hxs).trans (Heap.get?_update_self _ hx1 rfl)
theorem ldC {M : Model} {s : Shared} {name : Str} {scope : Scope} {L a : Addr} {cd : Value} {m : Str → Option Value} {x : Str} {pos : Pos} {v : Value} {Q : Value → Shared → Prop} {A : Around} {E : Value → Shared → Prop} (hn : s.heap.Ns L m) (hv : m x = some v) (h : Q v s)
    (hk : scope.kind = .function := by rfl) (hl : (envOfC name scope L a cd).kindOf x = some .local := by rfl) (hd : (x == ("__debug__" : Str)) = false := by decide) :
    wpAny M A (eval (.Name x pos) (envOfC name scope L a cd)) Q E s := wpAny_Name (wpAny_loadName_local hk hl hn hv h) hd
theorem init_ok (T : ETxt K mg cn qi C fI) {x t0 : Addr} {v : Value} (X : K.In s.heap) (hlim : s.heap.NoLimit) (hx : s.heap.get? x = some (excObj C t0 none .none)) (hroom : A.depth < recursionLimit)
    (hq : ∀ h' tk dx, EndE s.heap h' x C dx t0 "given" v → R (.ok (.ret .none)) { s with heap := h', toks := tk }) :
    codeAny (model prog w) A (.call (.ref fI) ⟨[.ref x, v], []⟩) R s := by
  obtain ⟨oc, od, doc, pm, an, cdv, ct, osl, p1, p2, q1, q2, q3, q4, ho, hcd⟩ := T.fn
  refine Att.call_fn (binds := [("self", .ref x), ("given", v)]) X hlim ho hcd hroom (BindsTo.of_eq (by first | rfl | with_unfolding_all rfl)) (by first | rfl | decide | with_unfolding_all rfl) (fun s1 IC => ?_) rfl rfl rfl
  obtain ⟨h1, tk1, rfl⟩ := IC.toInCall.same
  have k : ∀ b o, s.heap.get? b = some o → h1.get? b = some o := IC.toInCall.keep
  have hn := IC.toInCall.ns
  have X1 : K.In h1 := X.keeps k
  have hx1 := k _ _ hx
  show wpAny _ _ (execs _ _) _ _ _
  refine wpAny_execs_cons (plainObj_wpAny_Assign_Attribute ?_)
  refine ldC (v := v) hn (by first | rfl | with_unfolding_all rfl | kernel_rfl) (ldC (v := .ref x) hn (by first | rfl | with_unfolding_all rfl | kernel_rfl) ?_)
  refine set_plain X1 (ox := excObj C t0 none .none) (od := none) ⟨hx1, rfl, rfl, trivial⟩ T.sa ?_
  refine store_new X1 hx1 T.ov T.tk T.hdC fun h3 tk3 dx M => ?_
  show wpAny _ _ (execs _ _) _ _ _
  have z : s.heap.objs.size < h1.objs.size := hn.lt
  exact wpAny_execs_nil (hq h3 tk3 dx ⟨fun b o hb e => M.keep b o hb (k b o e), M.obj, Nat.le_of_lt (Nat.lt_of_lt_of_le z M.dbig), M.dne, M.ns⟩)
theorem made_ok (T : ETxt K mg cn qi C fI) {v : Value} (X : K.In s.heap) (hlim : s.heap.NoLimit) (hroom : A.depth + 1 < recursionLimit)
    (hq : ∀ h' tk e d, MadeE s.heap h' e C d "given" v → R (.ok (.ret (.ref e))) { s with heap := h', toks := tk }) :
    codeAny (model prog w) A (.call (.ref C) ⟨[v], []⟩) R s := by
  obtain ⟨nm, q, N, bs, bm, sn, sub, ab, col, dd, k0, k1, k2, k3, k5, hC, hbm⟩ := T.cls
  obtain ⟨hp, g, dr, tk, os⟩ := s
  have k : ∀ b o, hp.get? b = some o → ((hp.push (kdv_tup [v])).push (excO C hp.objs.size)).get? b = some o := fun b o e => Heap.get?_push_of_some _ (Heap.get?_push_of_some _ e)
  have hget : ((hp.push (kdv_tup [v])).push (excO C hp.objs.size)).get? (hp.objs.size + 1) = some (excO C hp.objs.size) := by heap_get
  refine call_own F.excBase_Exception (fun X => excTail_contains X bm hbm) (X _ _ hC) (looks_findIn X T.iC) (fun self => bind_fn X self T.tC) (one_fits v) ?_
  refine init_ok (s := ⟨(hp.push (kdv_tup [v])).push (excO C hp.objs.size), g, dr, tk, os⟩) T (X.keeps k) (hlim.keeps k) hget ?_ fun h' tk' dx M => ?_
  · show A.depth + 1 < recursionLimit
    exact hroom
  · have old : ∀ b o, hp.get? b = some o → h'.get? b = some o := fun b o e => M.keep b o (Nat.ne_of_lt (Nat.lt_succ_of_lt (Heap.lt_size e))) (k b o e)
    have z : hp.objs.size + 1 + 1 ≤ dx := by
      have q := M.dbig
      first
        | exact q
        | (rw [Heap.size_push, Heap.size_push] at q; exact q)
        | (simpa only [Heap.size_push] using q)
    exact ⟨rfl, hq h' tk' (hp.objs.size + 1) dx ⟨old, Nat.le_succ _, ⟨_, M.obj⟩, Nat.le_trans (Nat.le_trans (Nat.le_succ _) (Nat.le_succ _)) z, M.dne, M.ns⟩⟩
end
end ErrX
namespace L2
open PySem PySem.Spec PyProof.Rows
/-- the own dict of an error that keeps v -/
abbrev gvn (v : V) : List (Str × V) := [(("given" : Str), v)]
theorem relO_gvn {v : V} {v' : Value} (r : RelV v v') (f : Str) : RelO (List.lookup f (gvn v)) (if f = "given" then some v' else none) := by
  have e := lookup_put "given" f v []
  show RelO (List.lookup f [(("given" : Str), v)]) _
  rw [e]
  by_cases h : f = "given"
  · rw [if_pos h, if_pos h]; exact r
  · rw [if_neg h, if_neg h]; trivial
section
variable {X : Cx} {C fI : Addr} {cn qi : Str}
/-- C(e) -/
def tMkE (C : Addr) (ta : TA) : St → Hp → XK → Prop := fun σ H Q => ta σ H fun vs H1 => ∃ v, vs = [v] ∧ ∀ d, H1 d = none → Q (.ref C) (some d) (upd H1 d (.xd (gvn v)))
theorem pmk_err {a : Expr} {ta : TA} {p pos : Pos} {k : Nat} (T : ErrX.ETxt X.K X.mg cn qi C fI) (hr : Room k X.A) (ha : PA X [a] ta) (hg : Gl X cn) (hdb : (cn == ("__debug__" : Str)) = false)
    (he : starEach (a :: []) X.env = (false, eval a X.env) :: starEach [] X.env := by rfl) (hpl : (backTo pos (starEach [] X.env)).any (·.1) = false := by rfl) :
    PMk X (.Call (.Name cn p) [a] [] pos) (tMkE C ta) := by
  intro pins s σ H Q I h
  refine wpAny_Call_Name_kw (ld_glob I hg T.gC ?_ hdb)
  refine PySem.W.callWith_K (h₀ := X.base) I.ok.mod.kin T.kC (thn (ha.run pos pins s σ H _ I h) fun us s1 hh => ?_) he hpl
  obtain ⟨vs, H1, I1, r1, v, ev, q1⟩ := hh
  subst ev
  refine ⟨I1.kIn, ?_⟩
  cases r1 with
  | cons rv rn =>
    rename_i v' us'
    cases rn
    show wpAny _ _ (call (.ref C) [v']) _ _ _
    have hlim := I1.nolimit
    obtain ⟨hp, g, dr, tk, os⟩ := s1
    refine wpAny_call (ErrX.made_ok T I1.kIn hlim (by have := hr.dp; omega) fun h' tk' e d M => ?_)
    show MkP X pins σ Q (.ref e) ⟨h', g, dr, tk', os⟩
    obtain ⟨t, hoe⟩ := M.obj
    have hns := M.ns
    obtain ⟨G', g1, g2⟩ := restrict h' fun b => decide (b ≠ e)
    have gk : ∀ b, b ≠ e → G'.get? b = h'.get? b := fun b hb => g1 b (decide_eq_true hb)
    have ge : G'.get? e = none := g2 e (by simp)
    have old : ∀ b o, hp.get? b = some o → G'.get? b = some o := fun b o q => (gk b (Nat.ne_of_lt (Nat.lt_of_lt_of_le (Heap.lt_size q) M.new))).trans (M.keep b o q)
    have ob : ObjOk X.prog X.w (upd H1 d (.xd (gvn v))) G' d (.xd (gvn v)) :=
      ⟨_, hns.at (fun o q => (gk d M.dne).trans q), fun f => relO_gvn rv f⟩
    have J : Inv X pins σ (upd H1 d (.xd (gvn v))) ⟨G', g, dr, tk', os⟩ := I1.laid (t' := tk') old M.dbig ob
    refine ⟨e, _, _, ⟨G', g, dr, tk', os⟩, _, .ref C, some d, rfl, J, fun b o q => ?_, ge, hoe, ⟨rfl, rfl⟩, rfl, rfl, ?_, rfl, I1.bare, raises_own T.exC T.tyC, q1 d (I1.hok.fresh M.dbig)⟩
    · by_cases hb : b = e
      · have q' : G'.get? b = some o := q
        rw [hb, ge] at q'; cases q'
      · exact (gk b hb).symm.trans q
    · rw [upd_ne (Ne.symm M.dne)]
      exact I1.hok.fresh M.new
/-- raise C(e) -/
def tRaiseE (C : Addr) (W : WX) (ta : TA) : TS := fun _ σ H => tMkE C ta σ H fun cls d H' => W cls d σ H'
theorem ps_raiseE {a : Expr} {ta : TA} {W : WX} {p pos pos2 : Pos} {k : Nat} (hc : X.calm = true) (T : ErrX.ETxt X.K X.mg cn qi C fI) (hr : Room k X.A) (tk : Takes X W) (ha : PA X [a] ta) (hg : Gl X cn := by rfl) (hdb : (cn == ("__debug__" : Str)) = false := by decide)
    (he : starEach (a :: []) X.env = (false, eval a X.env) :: starEach [] X.env := by rfl) (hpl : (backTo pos (starEach [] X.env)).any (·.1) = false := by rfl) :
    PS X (.Raise (some (.Call (.Name cn p) [a] [] pos)) none pos2) (tRaiseE C W ta) := ps_raise hc tk (pmk_err T hr ha hg hdb he hpl)
/-- e.given, e the error that the suite holds (at a; its class cls, its dict d) -/
def tGvn (C : Addr) (a : Addr) (cls : Value) (d : Option Addr) (te : TE) : TE := fun σ H Q => te σ H fun x H1 => x = .ref a ∧ cls = .ref C ∧ ∃ (dd : Addr) (v : V), d = some dd ∧ H1 dd = some (.xd (gvn v)) ∧ Q v H1
theorem pe_gvn {a : Addr} {oe : Obj} {cls : Value} {d : Option Addr} {pn : List (Addr × Obj)} {e : Expr} {te : TE} {pos : Pos} (T : ErrX.ETxt X.K X.mg cn qi C fI) (hz : Zc cls d oe) (hf : ∃ vs, oe.data = .fields vs) (he : PE (X.suite a ((a, oe) :: pn)) e te)
    (hb : attributeBase e "given" X.env (eval e X.env) = eval e X.env := by rfl) :
    PE (X.suite a ((a, oe) :: pn)) (.Attribute e "given" pos) (tGvn C a cls d te) := by
  refine ⟨fun pins s σ H Q I h => ?_⟩
  refine attr_of hb (thn (he.run pins s σ H _ I h) fun u s1 hh => ?_)
  obtain ⟨x, H1, I1, rx, ex, ec, dd, v, ed, ea, q⟩ := hh
  subst ex
  obtain rfl : u = Value.ref a := rx
  subst ec
  subst ed
  obtain ⟨ha, _⟩ := I1.pin (a, oe) (List.mem_append_left _ List.mem_cons_self)
  obtain ⟨vs, hd⟩ := hf
  have hx : ObjOk X.prog X.w H1 s1.heap dd (.xd (gvn v)) := I1.hok dd _ ea
  obtain ⟨mA, hns, hr⟩ := hx
  obtain ⟨od, ho, hl⟩ := lookIn_ns hns
  have l : List.lookup ("given" : Str) (gvn v) = some v := by
    show List.lookup ("given" : Str) [(("given" : Str), v)] = some v
    rw [lookup_put, if_pos rfl]
  obtain ⟨u, hu, ru⟩ := RelO.some_of (v := v) (o := mA "given") (by rw [← l]; exact hr "given")
  have J : PySem.W.InstAt s1.heap a oe C (some od) := ⟨ha, hz.1, by unfold PySem.W.notCls; rw [hd] <;> rfl, by rw [hz.2]; exact ho⟩
  exact HandSPX.exc_get I1.kIn J T.ga T.gg T.exC (PySem.W.findObj_own T.hdC T.noN rfl (by rw [hl, hu])) (handed_of ru) ⟨v, H1, I1.tok _, ru, q⟩
end
end L2

set_option Elab.async false
set_option linter.all false
set_option maxRecDepth 100000
set_option maxHeartbeats 2000000
/-! Further rules over the hand layer: texts by their codes, three numbers' max and min, repr of data. -/
namespace L2
open PySem PySem.Spec PyProof.Rows
/-! ### texts by their codes -/
abbrev cs (x : Str) : List Nat := x.cps.toList
def S (l : List Nat) : Str := ⟨l.toArray⟩
theorem S_tl (l : List Nat) : cs (S l) = l := by simp [S, cs]
theorem S_of (z : Str) : S (cs z) = z := by obtain ⟨⟨l⟩⟩ := z; rfl
theorem S_len (l : List Nat) : (S l).length = l.length := by simp [S, Str.length]
theorem S_inj {l m : List Nat} (h : S l = S m) : l = m := by have := congrArg cs h; rwa [S_tl, S_tl] at this
theorem S_app (l m : List Nat) : S l ++ S m = S (l ++ m) := by
  show (⟨l.toArray ++ m.toArray⟩ : Str) = ⟨(l ++ m).toArray⟩
  simp
theorem S_eqV (l m : List Nat) : decide (V.str (S l) = V.str (S m)) = decide (l = m) := by
  by_cases h : l = m
  · subst h; simp
  · rw [decide_eq_false h, decide_eq_false]
    intro e; exact h (S_inj (V.str.inj e))
theorem sIx_some (n d i : Nat) : HT.sIx n d (some ((i : Nat) : Int)) = min i n := HT.sIx_nat n d i
theorem cut_from (l : List Nat) (i : Nat) : cutS (S l) (some (i : Int)) none = S (l.drop i) := by
  show S (((cs (S l)).drop (HT.sIx (S l).length 0 (some (i : Int)))).take (HT.sIx (S l).length (S l).length none - HT.sIx (S l).length 0 (some (i : Int)))) = _
  rw [S_tl, S_len, sIx_some, HT.sIx_none]
  congr 1
  rcases Nat.le_total i l.length with h | h
  · rw [Nat.min_eq_left h, List.take_of_length_le (by rw [List.length_drop]; omega)]
  · rw [Nat.min_eq_right h, Nat.sub_self, List.take_zero, List.drop_of_length_le h]
theorem cut_to (l : List Nat) (i : Nat) : cutS (S l) none (some (i : Int)) = S (l.take i) := by
  show S (((cs (S l)).drop (HT.sIx (S l).length 0 none)).take (HT.sIx (S l).length (S l).length (some (i : Int)) - HT.sIx (S l).length 0 none)) = _
  rw [S_tl, S_len, sIx_some, HT.sIx_none, List.drop_zero, Nat.sub_zero]
  congr 1
  rcases Nat.le_total i l.length with h | h
  · rw [Nat.min_eq_left h]
  · rw [Nat.min_eq_right h, List.take_of_length_le h, List.take_of_length_le (Nat.le_refl _)]
theorem cut_mid (l : List Nat) (i j : Nat) : cutS (S l) (some (i : Int)) (some (j : Int)) = S ((l.drop i).take (j - i)) := by
  show S (((cs (S l)).drop (HT.sIx (S l).length 0 (some (i : Int)))).take (HT.sIx (S l).length (S l).length (some (j : Int)) - HT.sIx (S l).length 0 (some (i : Int)))) = _
  rw [S_tl, S_len, sIx_some, sIx_some]
  congr 1
  rcases Nat.le_total i l.length with h | h
  · rw [Nat.min_eq_left h]
    rcases Nat.le_total j l.length with h2 | h2
    · rw [Nat.min_eq_left h2]
    · rw [Nat.min_eq_right h2, List.take_of_length_le (by rw [List.length_drop]; omega), List.take_of_length_le (by rw [List.length_drop]; omega)]
  · rw [Nat.min_eq_right h, List.drop_of_length_le h, List.drop_of_length_le (Nat.le_refl _)]
    simp
theorem atI_S {l : List Nat} {i : Nat} {c : Nat} (h : l[i]? = some c) : atI (S l).cps.toList (i : Int) = some c := by
  show atI (cs (S l)) (i : Int) = some c
  rw [S_tl]
  exact atI_nat h
/-! ### what a text is -/
def low (c : Nat) : Bool := decide (97 ≤ c) && decide (c ≤ 122)
theorem ascii_facts : ∀ c : Fin 128, Unicode.isAlpha c.val = (low c.val || (decide (65 ≤ c.val) && decide (c.val ≤ 90))) ∧ Unicode.isLower c.val = low c.val ∧ (Unicode.isUpper c.val || Unicode.isTitle c.val) = (decide (65 ≤ c.val) && decide (c.val ≤ 90)) := by
  decide +kernel
theorem istext_eq (z : Str) : (decide (V.str z = V.str (Str.ofString "")) || (Txt.isascii z && Txt.isalpha z && Txt.islower z)) = (cs z).all low := by
  obtain ⟨⟨l⟩⟩ := z
  have e0 : (V.str (⟨⟨l⟩⟩ : Str) = V.str (Str.ofString "")) ↔ l = [] := by
    constructor
    · intro h
      have h2 := congrArg cs (V.str.inj h)
      exact h2
    · intro h; subst h; rfl
  show (decide _ || ((l.toArray.all (· < 128)) && (decide (l.toArray.size > 0) && l.toArray.all Unicode.isAlpha) && (l.toArray.any Unicode.isLower && !l.toArray.any fun c => Unicode.isUpper c || Unicode.isTitle c))) = l.all low
  have ea : ∀ p : Nat → Bool, (l.toArray).all p = l.all p := fun p => by rw [← Array.all_toList]
  have eb : ∀ p : Nat → Bool, (l.toArray).any p = l.any p := fun p => by rw [← Array.any_toList]
  have ec : (⟨l⟩ : Array Nat) = l.toArray := rfl
  simp only [ea, eb]
  simp only [List.size_toArray]
  clear ea eb ec
  cases l with
  | nil => rw [decide_eq_true (e0.mpr rfl)]; rfl
  | cons a r =>
    rw [decide_eq_false (fun h => by cases e0.mp h), Bool.false_or]
    generalize hl : a :: r = l
    have hne : l ≠ [] := by rw [← hl]; simp
    have F : ∀ c ∈ l, c < 128 → Unicode.isAlpha c = (low c || (decide (65 ≤ c) && decide (c ≤ 90))) ∧ Unicode.isLower c = low c ∧ (Unicode.isUpper c || Unicode.isTitle c) = (decide (65 ≤ c) && decide (c ≤ 90)) := fun c _ hc => ascii_facts ⟨c, hc⟩
    rw [Bool.eq_iff_iff]
    simp only [Bool.and_eq_true, List.all_eq_true, List.any_eq_true, Bool.not_eq_true', List.any_eq_false, decide_eq_true_eq]
    constructor
    · rintro ⟨⟨h1, _, h2⟩, _, h3⟩ c hc
      obtain ⟨f1, f2, f3⟩ := F c hc (h1 c hc)
      have q2 := h2 c hc
      have q3 := h3 c hc
      rw [f1] at q2
      rw [f3] at q3
      simp only [Bool.or_eq_true] at q2
      rcases q2 with q2 | q2
      · exact q2
      · exact absurd q2 q3
    · intro h
      have hb : ∀ c ∈ l, c < 128 := fun c hc => by
        have := h c hc
        unfold low at this
        simp only [Bool.and_eq_true, decide_eq_true_eq] at this
        omega
      refine ⟨⟨hb, by rw [← hl]; simp, fun c hc => ?_⟩, ?_, fun c hc => ?_⟩
      · rw [(F c hc (hb c hc)).1, h c hc, Bool.true_or]
      · obtain ⟨c, hc⟩ := List.exists_mem_of_ne_nil l hne
        exact ⟨c, hc, by rw [(F c hc (hb c hc)).2.1]; exact h c hc⟩
      · rw [(F c hc (hb c hc)).2.2]
        have := h c hc
        unfold low at this
        simp only [Bool.and_eq_true, decide_eq_true_eq] at this
        simp; omega
/-! ### calls -/
theorem nuMax3_int (i j k : Int) : nuMax3 (.int i) (.int j) (.int k) = some (.int (max (max i j) k)) := by
  have h2 : ∀ a b : Int, nuMax2 (.int a) (.int b) = some (.int (max a b)) := fun a b => by
    show Option.map (fun c => if c = true then V.int b else V.int a) (some (decide (a < b))) = some (V.int (max a b))
    by_cases h : a < b
    · rw [decide_eq_true h]; simp; omega
    · rw [decide_eq_false h]; simp; omega
  unfold nuMax3
  rw [h2]
  exact h2 _ _
theorem nuMin3_int (i j k : Int) : nuMin3 (.int i) (.int j) (.int k) = some (.int (min (min i j) k)) := by
  have h2 : ∀ a b : Int, nuMin2 (.int a) (.int b) = some (.int (min a b)) := fun a b => by
    show Option.map (fun c => if c = true then V.int b else V.int a) (some (decide (b < a))) = some (V.int (min a b))
    by_cases h : b < a
    · rw [decide_eq_true h]; simp; omega
    · rw [decide_eq_false h]; simp; omega
  unfold nuMin3
  rw [h2]
  exact h2 _ _
def rMax3 : List V → Hp → VK → Prop := fun xs H Q => ∃ i j k, xs = [.int i, .int j, .int k] ∧ Q (.int (max (max i j) k)) H
def rMin3 : List V → Hp → VK → Prop := fun xs H Q => ∃ i j k, xs = [.int i, .int j, .int k] ∧ Q (.int (min (min i j) k)) H
theorem call_max3 {X : Cx} (hc : X.calm = true) : CallR X (.builtin "max") rMax3 := fun pins s σ H xs us Q I r h => by
  obtain ⟨i, j, k, rfl, q⟩ := h
  exact call_max3Nu hc pins s σ H _ us Q I r ⟨_, _, _, _, rfl, nuMax3_int i j k, q⟩
theorem call_min3 {X : Cx} (hc : X.calm = true) : CallR X (.builtin "min") rMin3 := fun pins s σ H xs us Q I r h => by
  obtain ⟨i, j, k, rfl, q⟩ := h
  exact call_min3Nu hc pins s σ H _ us Q I r ⟨_, _, _, _, rfl, nuMin3_int i j k, q⟩
/-! ### repr of data: Dp, and an empty dict -/
def Dr (K : PySem.W.Frag) (H : Hp) (x : V) (d : PyData) : Prop := Dp K H x d ∨ ∃ a, x = .ref a ∧ H a = some (.dK []) ∧ d = .dict []
def rRepr (K : PySem.W.Frag) : List V → Hp → VK → Prop := fun xs H Q => ∃ x d, xs = [x] ∧ Dr K H x d ∧ d.showable = true ∧ d.depth ≤ 60 ∧ d.shown.length ≤ sizeLine ∧ Q (.str d.shown) H
theorem hasDict_dp {K : PySem.W.Frag} {H : Hp} : (∀ {x d}, Dp K H x d → d.hasDict = false) ∧ (∀ {xs ds}, DpAll K H xs ds → PyData.hasDictAll ds = false) := by
  constructor
  · intro x d h
    exact Dp.rec (motive_1 := fun _ d _ => d.hasDict = false) (motive_2 := fun _ ds _ => PyData.hasDictAll ds = false) rfl (fun _ => rfl) (fun _ => rfl) (fun _ => rfl)
      (fun _ _ ih => by unfold PyData.hasDict; exact ih) (fun _ _ ih => by unfold PyData.hasDict; exact ih) rfl (fun _ _ i1 i2 => by unfold PyData.hasDictAll; rw [i1, i2]; rfl) h
  · intro x d h
    exact DpAll.rec (motive_1 := fun _ d _ => d.hasDict = false) (motive_2 := fun _ ds _ => PyData.hasDictAll ds = false) rfl (fun _ => rfl) (fun _ => rfl) (fun _ => rfl)
      (fun _ _ ih => by unfold PyData.hasDict; exact ih) (fun _ _ ih => by unfold PyData.hasDict; exact ih) rfl (fun _ _ i1 i2 => by unfold PyData.hasDictAll; rw [i1, i2]; rfl) h
end L2
namespace L2
open PySem PySem.Spec PyProof.Rows
section
variable {X : Cx}
theorem call_repr (hc : X.A.guards = some []) (hu : X.A.units + 64 < cLine) : CallR X (.builtin "repr") (rRepr X.K) := by
  intro pins s σ H xs us Q I r h
  obtain ⟨x, d, rfl, hd, hs, hdp, hz, q⟩ := h
  cases r with
  | cons r1 rn =>
    rename_i u us'
    cases rn
    rcases hd with hd | ⟨a, rfl, ha, rfl⟩
    · obtain ⟨as, rd⟩ := Dp.reads I d x u hd r1
      cases hd with
      | non => cases rd; exact P.repr_of_none ⟨.str _, H, I.tok _, ⟨_, rfl⟩, q⟩
      | bl b => cases rd; exact P.repr_of_bool ⟨.str _, H, I.tok _, ⟨_, rfl⟩, q⟩
      | int i =>
        cases rd
        have hi : i.natAbs.log2 < 1920 := of_decide_eq_true hs
        exact P.repr_of_int hi ⟨.str _, H, I.tok _, ⟨_, rfl⟩, q⟩
      | str z => cases rd; exact P.repr_of_str ⟨.str _, H, I.tok _, ⟨_, rfl⟩, q⟩ hz
      | lst h1 h2 =>
        obtain rfl : u = Value.ref _ := r1
        have hh : PyData.hasDict _ = false := hasDict_dp.1 (Dp.lst h1 h2)
        exact repr_of_reads' rd hs (fun e => by rw [hh] at e; cases e) hc (by omega) (fun _ _ e => e) (fun h' u tk k => ⟨.str _, H, I.kept k, ⟨_, rfl⟩, q⟩) hz
      | tup h1 h2 =>
        obtain rfl : u = Value.ref _ := r1
        have hh : PyData.hasDict _ = false := hasDict_dp.1 (Dp.tup h1 h2)
        exact repr_of_reads' rd hs (fun e => by rw [hh] at e; cases e) hc (by omega) (fun _ _ e => e) (fun h' u tk k => ⟨.str _, H, I.kept k, ⟨_, rfl⟩, q⟩) hz
    · obtain rfl : u = Value.ref a := r1
      obtain ⟨_, hsys, vs, hkv, od, es, ep, hget, hcl, hdat, hko, hps, _⟩ : ObjOk X.prog X.w H s.heap a (.dK []) := I.hok a _ ha
      cases hkv
      have he : es.toList = [] := by
        generalize es.toList = l at hps
        cases hps; rfl
      have rd : Reads s.heap (.ref a) (.dict []) (a :: [] ++ []) := .dict hget hcl.1 hdat (by rw [he]; exact .nil) (by rw [he]; exact .nil)
      refine repr_of_reads' rd hs (fun _ hm => ?_) hc (by omega) (fun _ _ e => e) (fun h' u tk k => ⟨.str _, H, I.kept k, ⟨_, rfl⟩, q⟩) hz
      have e : sysModules = a := by simpa using hm
      rw [← e] at hsys
      exact absurd hsys (by decide)
end
end L2
namespace L2
open PySem PySem.Spec PyProof.Rows
section
variable {X : Cx}
theorem op_mul_str : OpR X (binaryOp .Mult) (fun x y H Q => ∃ z k, x = .str z ∧ y = .int k ∧ MulOk z k ∧ Q (.str (Txt.mul z k)) H) := by
  intro pins s σ H x y v u Q I rx ry h
  obtain ⟨z, k, rfl, rfl, hz, q⟩ := h
  obtain ⟨t, rfl⟩ := rx
  obtain ⟨t', rfl⟩ := ry
  exact SB.mul hz fun t2 k2 => ⟨.str _, H, I.tok _, ⟨_, rfl⟩, q⟩
/-- f(k = v, ..) by keywords alone, what is raised wished for at the slots -/
def tCallKS (sp : Sp) (gV : List V → List V → List V) (E : St → XK) (tk : TA) : TE := fun σ H Q => tk σ H fun zs H1 => sp (gV [] zs) H1 Q (E σ)
theorem pe_callKS {CX : CXT} {k : Nat} {f : Addr} {fd : FuncData} {ps ks : List Str} {sp : Sp} {E : St → XK} {x : Str} {p pos : Pos} {kws : List Keyword} {tk : TA} {g : List Value → List Value → List Value} {gV : List V → List V → List V}
    (F : FnOk X.prog X.w X.K X.mg X.base CX k f fd ps sp) (hr : Room k X.A) (hg : Gl X x) (hm : X.mg x = some (.ref f)) (hk : PySem.W.keepIn X.K (.ref f) = true) (hb : KBinds X.K fd ps ks g gV) (hx : ∀ σ, PassesAt CX X σ (E σ))
    (hkw : PK X kws tk) (hall : (backToKw pos (keywordEach kws X.env)).all (·.1.isSome) = true := by rfl) (hks : (backToKw pos (keywordEach kws X.env)).filterMap (·.1) = ks := by rfl)
    (hdb : (x == ("__debug__" : Str)) = false := by decide) (hpl : ((backTo pos (starEach [] X.env)).any (·.1) || (backToKw pos (keywordEach kws X.env)).any (·.1.isNone)) = false := by rfl) :
    PE X (.Call (.Name x p) [] kws pos) (tCallKS sp gV E tk) := by
  constructor
  intro pins s σ H Q I h
  apply wpAny_Call_Name_kw (ld_glob I hg hm ?_ hdb)
  apply PySem.W.callWith_KW0 (h₀ := X.base) I.ok.mod.kin hk hall (thn (hkw.run pos pins s σ H _ I h) ?_) hpl
  rintro ws s1 ⟨zs, H1, I1, rz, q⟩
  refine ⟨I1.kIn, ?_⟩
  rw [hks]
  have r2 := hb.rel (vs := []) (us := []) .nil rz
  have hl : (g [] ws).length = ps.length := (r2.length).symm.trans (F.len _ _ _ _ q)
  apply wpAny_call
  apply codeAny_mono (F.run X.A X.stack s1 H1 ⟨[], ks.zip ws⟩ (g [] ws) (gV [] zs) Q (E σ) hr I1.env0 (hb.to s1 [] ws I1.kIn hl) r2 q)
  intro r s' hq
  match r, hq with
  | .error er, hq => exact hx σ pins H1 s1 er s' I1 hq
  | .ok (.ret u), hq => exact I1.after hq
  | .ok .next, hq => exact hq.elim
  | .ok .brk, hq => exact hq.elim
  | .ok .cont, hq => exact hq.elim
end
end L2

set_option Elab.async false
set_option linter.all false
set_option maxRecDepth 100000
set_option maxHeartbeats 2000000
/-! Defs that call repr: the promise is shown only where no repr is running around the call. -/
namespace L2
open PySem PySem.Spec PyProof.Rows
/-- as FnOk, where no guard stands around -/
structure FnG (P : Program) (w : World) (K : PySem.W.Frag) (mg : Str → Option Value) (base : Heap) (CX : CXT) (k : Nat) (f : Addr) (fd : FuncData) (ps : List Str) (sp : Sp) : Prop where
  len : ∀ vs H Q E, sp vs H Q E → vs.length = ps.length
  run : ∀ (A : Around) (outer : List Env) (s : Shared) (H : Hp) (args : Args) (us : List Value) (vs : List V) (Q : VK) (E : XK), A.guards = some [] → Room k A → Env0 P w K mg base A outer s H →
    BindsTo s fd args (ps.zip us) → Vals vs us → sp vs H Q E → codeAny (model P w) A (.call (.ref f) args) (CR CX outer P w H s Q E) s
theorem FnOk.toG {P : Program} {w : World} {K : PySem.W.Frag} {mg : Str → Option Value} {base : Heap} {CX : CXT} {k : Nat} {f : Addr} {fd : FuncData} {ps : List Str} {sp : Sp} (F : FnOk P w K mg base CX k f fd ps sp) : FnG P w K mg base CX k f fd ps sp :=
  ⟨F.len, fun A outer s H args us vs Q E _ hr => F.run A outer s H args us vs Q E hr⟩
section
variable {X : Cx} {CX : CXT} {k : Nat} {f : Addr} {fd : FuncData} {ps : List Str} {sp : Sp} {dvs : List V} {ds : List Value} {E : XK} {x : Str} {p pos : Pos} {e : Expr} {es : List Expr} {t : TA}
theorem pe_callG (F : FnG X.prog X.w X.K X.mg X.base CX k f fd ps sp) (hgd : X.A.guards = some []) (hr : Room k X.A) (hg : Gl X x) (hm : X.mg x = some (.ref f)) (hk : PySem.W.keepIn X.K (.ref f) = true) (hb : Binds X.K fd ps ds) (hd : Vals dvs ds) (hx : Passes CX X E)
    (ha : PA X (e :: es) t) (hdb : (x == ("__debug__" : Str)) = false := by decide) (he : starEach (e :: es) X.env = (false, eval e X.env) :: starEach es X.env := by rfl) (hpl : (backTo pos (starEach es X.env)).any (·.1) = false := by rfl) :
    PE X (.Call (.Name x p) (e :: es) [] pos) (tCall sp dvs E t) := by
  constructor
  intro pins s σ H Q I h
  apply wpAny_Call_Name_kw (ld_glob I hg hm ?_ hdb)
  apply PySem.W.callWith_K (h₀ := X.base) I.ok.mod.kin hk (thn (ha.run pos pins s σ H _ I h) ?_) he hpl
  rintro us s1 ⟨vs, H1, I1, rv, q⟩
  refine ⟨I1.kIn, ?_⟩
  have r2 : Vals (vs ++ dvs) (us ++ ds) := rv.append hd
  have hl : (us ++ ds).length = ps.length := (r2.length).symm.trans (F.len _ _ _ _ q)
  apply wpAny_call
  apply codeAny_mono (F.run X.A X.stack s1 H1 ⟨us, []⟩ (us ++ ds) (vs ++ dvs) Q E hgd hr I1.env0 (hb s1 us I1.kIn hl) r2 q)
  intro r s' hq
  match r, hq with
  | .error er, hq => exact hx pins σ H1 s1 er s' I1 hq
  | .ok (.ret u), hq => exact I1.after hq
  | .ok .next, hq => exact hq.elim
  | .ok .brk, hq => exact hq.elim
  | .ok .cont, hq => exact hq.elim
end
theorem deeper_guards {A : Around} {env : Env} : (A.deeper env).guards = A.guards := rfl
section
variable {P : Program} {w : World} {K : PySem.W.Frag} {mg : Str → Option Value} {base : Heap}
/-- the rule for a def, where no guard stands around -/
theorem Fun.okG {x qual : Str} {st : Stmt} {f : Addr} {fd : FuncData} {N ps : List Str} {k : Nat} {sp : Sp} (F : Fun K x qual st f fd) (S : FnScope N ps (defScope st)) (len : ∀ vs H Q E, sp vs H Q E → vs.length = ps.length)
    (hbody : ∀ (cdv : Value) (A : Around) (outer : List Env) (s : Shared) (H : Hp) (vs : List V) (Q : VK) (E : XK), (A.deeper (envOfC qual (defScope st) s.heap.objs.size f cdv)).guards = some [] → Room k (A.deeper (envOfC qual (defScope st) s.heap.objs.size f cdv)) → sp vs H Q E →
      ∃ t, PSs (cxOf CX0 P w K mg base N qual (defScope st) f cdv A outer s H E).nox (defBody st) t ∧ t { nx := fun _ H' => Q .non H', rt := Q } (start N vs) H) : FnG P w K mg base CX0 (k + 1) f fd ps sp := by
  obtain ⟨oc, od, kV, doc, pm, an, cdv, ct, osl, rfl, lk, hcd⟩ := F.ex
  refine ⟨len, fun A outer s H args us vs Q E hgd hr e0 hb r hsp => ?_⟩
  have KX : K.In s.heap := e0.mod.kin.keeps fun b o e => (e0.bs b o e).1
  have lim : s.heap.NoLimit := e0.mod.nolimit.keeps fun b o e => (e0.bs b o e).1
  apply codeAny_call_function hr.depth (KX _ _ lk) rfl S.co S.gen rfl (PySem.W.codeRec_of KX hcd) (hb _ _ _ _ ?_)
  apply wpAny_newFunctionEnv_cells S.kind ?_ ?_
  · rintro ⟨n, v⟩ hy
    rcases S.par n (List.of_mem_zip hy).1 with q | q
    · exact Or.inl q
    · exact Or.inr ⟨q, PySem.W.cellsFrom_some _ _ _ (Or.inl q)⟩
  · intro env he s1 x
    subst he
    refine ⟨lim.keeps x.toInCall.keep, codeAny_func ?_⟩
    obtain ⟨t, ht, hq⟩ := hbody cdv A outer s H vs Q E (deeper_guards.trans hgd) (hr.deeper _) hsp
    have I := inv_start (CX := CX0) (E := E) S hr.hd e0 (len _ _ _ _ hsp) r x
    apply wpAny_mono (ht.nox.run [] s1 (start N vs) H _ I hq) ?_ fun e s' hs => hs
    intro fl s' hs
    match fl, hs with
    | .ret u, ⟨v, σ', H', J, rv, q⟩ => exact ⟨v, H', J.os, J.bare, J.base, J.hok, rv, q⟩
    | .next, ⟨σ', H', J, q⟩ => exact ⟨V.non, H', J.os, J.bare, J.base, J.hok, rfl, q⟩
    | .brk, ⟨_, _, _, q⟩ => exact q.elim
    | .cont, ⟨_, _, _, q⟩ => exact q.elim
end
end L2
namespace L2
open PySem PySem.Spec PyProof.Rows
section
variable {P : Program} {w : World} {K : PySem.W.Frag} {mg mb : Str → Option Value} {k : Nat} {fa a : Addr} {fd : FuncData} {x : Str} {sp : Sp} {s1 : Shared} {vs : List Value} {ns : List Int}
/-- the law's call, H telling nothing but, maybe, the script at a -/
theorem enterG {H : Hp} (KX : K.In s1.heap) (hns : s1.heap.Ns mainGlobals mg) (hb : s1.heap.Ns builtinsNs mb) (hbb : ∀ x : Str, x ≠ "__name__" → mb x = bootBuiltins x) (hlim : s1.heap.NoLimit) (hg : s1.gens = #[])
    (ha : s1.heap.get? a = some { cls := .type "list", data := .seq vs.toArray }) (hr : Room k callerA)
    (F : ∀ base : Heap, K.In base → base.Ns mainGlobals mg → FnG P w K mg base CX0 k fa fd [x] sp) (hbind : ∀ (s : Shared) (u : Value), BindsTo s fd ⟨[u], []⟩ [(x, u)])
    (hO : Only H) (hok : HOk P w H s1.heap) (hA : ∀ b, H b ≠ none → b = a) (hK : ∀ b o, K.lookup b = some o → H b = none) (hsp : sp [.ref a] H (fun v _ => v = .bl true) fun _ _ _ => False) :
    codeAny (model P w) callerA (.call (.ref fa) ⟨[.ref a], []⟩) (fun r s' => r = .ok (.ret (.bool true)) ∧ OldK s1.heap s'.heap ∧ s'.os = s1.os ∧ AllBare s'.gens) s1 := by
  have nsK : ∀ {b : Addr} {m : Str → Option Value}, s1.heap.Ns b m → (hidT s1.heap H).Ns b m := by
    rintro b m ⟨o, es, ep, e, d, r⟩
    have n : H b = none := by
      cases q : H b with
      | none => rfl
      | some u =>
        have z := hA b (by rw [q]; exact fun z => nomatch z)
        rw [z, ha] at e
        rw [← Option.some.inj e] at d
        exact nomatch d
    exact ⟨o, es, ep, hidT_get e n, d, r⟩
  have hKb : K.In (hidT s1.heap H) := fun b o e => hidT_get (KX b o e) (hK b o e)
  have e0 : Env0 P w K mg (hidT s1.heap H) callerA [] s1 H :=
    { frames := rfl, mod := ⟨hKb, nsK hns, ⟨mb, nsK hb, hbb⟩, hlim.elim fun mc h => ⟨mc, nsK h.1, h.2⟩⟩, bs := fun b o e => of_hidT e, bsz := Nat.le_of_eq (hidT_size _ _), funs := trivial, frf := fun b hb => (List.not_mem_nil hb).elim, hok := hok, bare := .of_eq hg }
  apply codeAny_mono ((F _ hKb (nsK hns)).run callerA [] s1 H ⟨[.ref a], []⟩ [.ref a] [.ref a] _ _ rfl hr e0 (hbind s1 (.ref a)) (.cons rfl .nil) hsp)
  intro r s' h
  match r, h with
  | .error e, h =>
    obtain ⟨_, _, _, h⟩ := h
  | .ok .next, h => exact h.elim
  | .ok .brk, h => exact h.elim
  | .ok .cont, h => exact h.elim
  | .ok (.ret u), ⟨v, H', os, bare, un, hok', r', q⟩ =>
    obtain rfl : v = .bl true := q
    obtain rfl : u = Value.bool true := r'
    refine ⟨rfl, OldK.of_keep fun b o e => ?_, os, bare⟩
    rcases hO b with z | ⟨ob, xs, z⟩
    · exact un.keep b o e z (List.not_mem_nil) (List.not_mem_nil)
    · have e1 := (hok b _ z).1
      have e2 := (hok' b _ (un.frzs b ob _ z)).1
      rw [e] at e1
      rw [Option.some.inj e1]
      exact e2
end
/-- the goal that the head leaves, from the law's promise, where the law's def calls repr -/
theorem walk_G {l : PySem.W.OpenLaw} {n k : Nat} {q : Program} {loose : List Str} {XP : (Str → Option Value) → Heap → Prop} {YP : World → Heap → Prop} {d : DefRec} {K : Params → PySem.W.Frag} {sp : PySem.W.Frag → Sp} {x : Str}
    (hn : l.most = some n) (hn2 : n ≤ sizeLine) (hdf : d.params.defaults = []) (hr : Room k callerA)
    (hY : ∀ (w : World) (h : Heap), YP w h → (K w.params).In h)
    (F : ∀ (w : World) (mg : Str → Option Value) (fa : Addr) (h : Heap), (K w.params).In h → h.Ns mainGlobals mg → mg d.name = some (.ref fa) →
      ∃ fd : FuncData, (∀ (s : Shared) (u : Value), BindsTo s fd ⟨[u], []⟩ [(x, u)]) ∧
        ∀ base : Heap, (K w.params).In base → base.Ns mainGlobals mg → FnG l.prog w (K w.params) mg base CX0 k fa fd [x] (sp (K w.params)))
    (hsp : ∀ (K : PySem.W.Frag) (H : Hp) (a : Addr) (ns : List Int), ns.length ≤ n → Only H → SqL K H a (ns.map V.int) → sp K [.ref a] H (fun v _ => v = .bl true) fun _ _ _ => False) :
    PySem.W.WalkO q loose XP YP l.row.toRowW d [] (fun f vs => PySem.call f vs) := by
  refine Att.attach_call hn hdf fun w s0 s1 mg mb fa o pm cd doc a vs ns G Y ho hd hcd hmg hobj hints hlen hg => ?_
  have KX := hY w _ Y
  obtain ⟨fd, hb, hF⟩ := F w mg fa _ KX G.T.g hmg
  have rv := vals_ints hints
  have lenV := hints.length
  have hl := Nat.le_trans hlen hn2
  cases hk : (K w.params).lookup a with
  | some ob =>
    have e := KX a ob hk
    rw [hobj] at e
    have e' := (Option.some.inj e).symm
    subst e'
    refine enterG (H := fun _ => none) KX G.T.g G.T.b G.T.builtins G.T.nolimit hg hobj hr hF hb (fun _ => .inl rfl) (fun b u z => nomatch (show (none : Option HO) = some u from z)) (fun b z => (z rfl).elim) (fun _ _ _ => rfl) ?_
    exact hsp (K w.params) _ a ns hlen (fun _ => .inl rfl) (.inr ⟨_, vs.toArray, _, hk, rfl, rfl, rfl, by rw [List.size_toArray, lenV]; exact hl, by simpa using rv⟩)
  | none =>
    have at_a : (fun b => if b = a then some (HO.frz { cls := .type "list", data := .seq vs.toArray } (.lst (ns.map V.int))) else none) a = some (HO.frz { cls := .type "list", data := .seq vs.toArray } (.lst (ns.map V.int))) := if_pos rfl
    have only : Only (fun b => if b = a then some (HO.frz { cls := .type "list", data := .seq vs.toArray } (.lst (ns.map V.int))) else none) := fun b => by
      by_cases z : b = a
      · exact .inr ⟨_, _, if_pos z⟩
      · exact .inl (if_neg z)
    refine enterG (H := fun b => if b = a then some (HO.frz { cls := .type "list", data := .seq vs.toArray } (.lst (ns.map V.int))) else none) KX G.T.g G.T.b G.T.builtins G.T.nolimit hg hobj hr hF hb only (fun b u z => ?_) (fun b z => ?_) (fun b ob z => ?_) ?_
    · by_cases y : b = a
      · subst y
        have z' := at_a.symm.trans z
        rw [← Option.some.inj z']
        exact ⟨hobj, by rw [List.length_map]; exact hl, vs, _, rv, hobj⟩
      · exact nomatch (if_neg y).symm.trans z
    · by_cases y : b = a
      · exact y
      · exact (z (if_neg y)).elim
    · refine if_neg fun y => ?_
      rw [y, hk] at z
      cases z
    · exact hsp (K w.params) _ a ns hlen only (.inl (.inr ⟨_, at_a⟩))
end L2

set_option Elab.async false
set_option linter.all false
set_option maxRecDepth 100000
set_option maxHeartbeats 2000000
/-! Further rules: isinstance of a caught error, list of a text, == of lists of unlike length, find, dicts shown. -/
namespace L2
open PySem PySem.Spec PyProof.Rows PySem.Builtin PySem.Builtin.Str
/-! ### find -/
theorem occ_stay (s sub : Str) (hi : Nat) : ∀ (l : List Nat) (st : Array Nat × Nat), st.1.size = 1 → (forIn l st (StrLaws.occBody s sub hi 1)).run.fst = st.1
  | [], st, h => rfl
  | a :: l, st, h => by
    rw [List.forIn_cons]
    unfold StrLaws.occBody
    rw [if_neg (fun z => by have := z.1.1.1; omega)]
    exact occ_stay s sub hi l _ h
theorem occ_one (s sub : Str) (hi : Nat) : ∀ (l : List Nat) (free : Nat), (∀ i ∈ l, free ≤ i) →
    (forIn l ((#[] : Array Nat), free) (StrLaws.occBody s sub hi 1)).run.fst.toList = (l.find? fun i => decide (i + sub.length ≤ hi) && subAt s sub i).toList
  | [], free, _ => rfl
  | a :: l, free, hf => by
    have ha : free ≤ a := hf a List.mem_cons_self
    rw [List.forIn_cons]
    by_cases c : a + sub.length ≤ hi ∧ subAt s sub a = true
    · rw [List.find?_cons_of_pos (by simp [c.1, c.2])]
      have e : StrLaws.occBody s sub hi 1 a ((#[] : Array Nat), free) = pure (ForInStep.yield ((#[] : Array Nat).push a, a + sub.length)) := by
        unfold StrLaws.occBody
        rw [if_pos ⟨⟨⟨by simp, ha⟩, c.1⟩, c.2⟩]
      rw [e]
      show (forIn l ((#[] : Array Nat).push a, a + sub.length) (StrLaws.occBody s sub hi 1)).run.fst.toList = _
      rw [occ_stay s sub hi l _ (by simp)]
      rfl
    · rw [List.find?_cons_of_neg (by simpa using c)]
      have e : StrLaws.occBody s sub hi 1 a ((#[] : Array Nat), free) = pure (ForInStep.yield ((#[] : Array Nat), free)) := by
        unfold StrLaws.occBody
        rw [if_neg (fun h => c ⟨h.1.2, h.2⟩)]
      rw [e]
      exact occ_one s sub hi l free fun i h => hf i (List.mem_cons_of_mem _ h)
theorem occ_find (s sub : Str) (lo hi : Nat) : occurrences s sub lo hi 1 = ((List.range' lo (hi + 1 - lo)).find? fun i => decide (i + sub.length ≤ hi) && subAt s sub i).toList := by
  rw [StrLaws.occ_eq]
  exact occ_one s sub hi _ lo fun i h => (List.mem_range'_1.mp h).1
/-- v stands in u at i -/
def AtL (u v : List Nat) (i : Nat) : Prop := i + v.length ≤ u.length ∧ (u.drop i).take v.length = v
theorem atL_iff (u v : List Nat) (i : Nat) : (decide (i + (S v).length ≤ (S u).length) && subAt (S u) (S v) i) = true ↔ AtL u v i := by
  rw [StrLaws.subAt_eq, Bool.and_eq_true, decide_eq_true_iff]
  show (i + (S v).length ≤ (S u).length ∧ (((cs (S u)).drop i).take (S v).length == cs (S v)) = true) ↔ _
  rw [S_tl, S_tl, S_len, S_len, beq_iff_eq]
  exact Iff.rfl
/-- the first place from lo on -/
def FindL (u v : List Nat) (lo : Nat) (r : Int) : Prop := (∃ i : Nat, r = i ∧ lo ≤ i ∧ AtL u v i ∧ ∀ j, lo ≤ j → j < i → ¬ AtL u v j) ∨ (r = -1 ∧ ∀ j, lo ≤ j → ¬ AtL u v j)
theorem find_range' {lo n : Nat} {p : Nat → Bool} {s : Nat} (h : (List.range' lo n).find? p = some s) : lo ≤ s ∧ p s = true ∧ ∀ t, lo ≤ t → t < s → p t = false := by
  obtain ⟨h1, i, hi, h2, h3⟩ := List.find?_eq_some_iff_getElem.mp h
  rw [List.getElem_range'] at h2
  subst h2
  refine ⟨by omega, h1, fun t ht hlt => ?_⟩
  have := h3 (t - lo) (by omega)
  rw [List.getElem_range'] at this
  rw [show lo + 1 * (t - lo) = t by omega] at this
  simpa using this
theorem occ_FindL (u v : List Nat) (lo : Nat) : FindL u v lo (match occurrences (S u) (S v) lo (S u).length 1 with | k :: _ => (k : Int) | [] => -1) := by
  rw [occ_find]
  cases h : (List.range' lo ((S u).length + 1 - lo)).find? fun i => decide (i + (S v).length ≤ (S u).length) && subAt (S u) (S v) i with
  | none =>
    right
    refine ⟨rfl, fun j hj z => ?_⟩
    have l := z.1
    have := List.find?_eq_none.mp h j (List.mem_range'_1.mpr ⟨hj, by rw [S_len]; omega⟩)
    exact this ((atL_iff u v j).mpr z)
  | some i =>
    left
    obtain ⟨h1, h2, h3⟩ := find_range' h
    refine ⟨i, rfl, h1, (atL_iff u v i).mp h2, fun j a b z => ?_⟩
    have := (atL_iff u v j).mpr z
    rw [h3 j a b] at this
    cases this
theorem find_FindL (u v : List Nat) : FindL u v 0 (Txt.find (S u) (S v)) := occ_FindL u v 0
theorem find3_FindL (u v : List Nat) (i : Nat) : FindL u v i (Txt.find3 (S u) (S v) (i : Int)) := by
  unfold Txt.find3
  rw [show fromIndex (S u).length (i : Int) = i by unfold fromIndex; rw [if_neg (by omega)]; omega]
  exact occ_FindL u v i
/-! ### list of a text -/
section
variable {X : Cx}
theorem call_listStr (hc : X.calm = true) : CallR X (.type "list") (fun xs H Q => ∃ z : List Nat, xs = [.str (S z)] ∧ z.length ≤ sizeLine ∧ ∀ l, H l = none → Q (.ref l) (upd H l (.lst (z.map fun c => V.str (S [c]))))) := by
  intro pins s σ H xs us Q I r h
  obtain ⟨z, rfl, hz, q⟩ := h
  obtain ⟨u, rfl, t, rfl⟩ := vals1 r
  refine call_list_str (I.ok.hd hc) (S z) t (fun h' tk acc' c' kp e hacc => ?_) (by show (S z).length ≤ sizeLine; rw [S_len]; exact hz)
  obtain ⟨hsz, hat⟩ := hacc
  have hsz' : acc'.size = z.length := hsz.trans (S_len z)
  refine ⟨.ref s.heap.objs.size, _, I.laid (t' := tk) kp (Nat.le_refl _) (show ObjOk X.prog X.w _ h' _ (.lst (z.map fun c => V.str (S [c]))) from ⟨by rw [List.length_map]; exact hz, acc'.toList, c', ?_, by rw [Array.toArray_toList]; exact e⟩), rfl, q _ (I.hok.fresh (Nat.le_refl _))⟩
  -- the items
  have go : ∀ (ys : List Nat) (vs : List Value), vs.length = ys.length → (∀ (i c : Nat), ys[i]? = some c → ∃ t, vs[i]? = some (Value.str ⟨#[c]⟩ t)) → Vals (ys.map fun c => V.str (S [c])) vs := by
    intro ys
    induction ys with
    | nil => intro vs h _; rw [List.length_eq_zero_iff.mp h]; exact .nil
    | cons c ys ih =>
      intro vs h k
      match vs, h with
      | v :: vs, h =>
        obtain ⟨t, e⟩ := k 0 c rfl
        obtain rfl := Option.some.inj e
        exact .cons ⟨t, rfl⟩ (ih vs (Nat.succ.inj h) fun i c hc => k (i + 1) c hc)
  refine go z acc'.toList (by rw [Array.length_toList]; exact hsz') fun i c hc => ?_
  have hi : i < z.length := (List.getElem?_eq_some_iff.mp hc).1
  have hv : acc'[i]? = some (acc'[i]'(by omega)) := Array.getElem?_eq_getElem _
  obtain ⟨c', t', hc', e'⟩ := hat i _ hv
  rw [e'] at hv
  have : (S z).cps[i]? = some c := by
    show z.toArray[i]? = some c
    rw [List.getElem?_toArray]; exact hc
  rw [this] at hc'
  obtain rfl := Option.some.inj hc'
  exact ⟨t', by rw [Array.getElem?_toList]; exact hv⟩
end
/-! ### isinstance of the error that the suite holds, with an own dict -/
def rIsEd (K : PySem.W.Frag) (C a : Addr) (cls : Value) (d : Option Addr) : List V → Hp → VK → Prop := fun xs H Q => ∃ (c : V) (cv : Value) (b : Bool) (dd : Addr) (fs : List (Str × V)), xs = [.ref a, c] ∧ ClsV c cv ∧ cls = .ref C ∧ d = some dd ∧ H dd = some (.xd fs) ∧ PySem.W.kitOne K (.ref C) cv = some b ∧ Q (.bl b) H
theorem call_isEd {X : Cx} {a C : Addr} {oe : Obj} {cls : Value} {d : Option Addr} {pn : List (Addr × Obj)} (T : ExcC X.K C) (hz : Zc cls d oe) (hf : ∃ vs, oe.data = .fields vs) : CallR (X.suite a ((a, oe) :: pn)) (.builtin "isinstance") (rIsEd X.K C a cls d) := by
  intro pins s σ H xs us Q I r h
  obtain ⟨c, cv, b, dd, fs, rfl, hcv, rfl, rfl, hd, e, q⟩ := h
  obtain ⟨u1, u2, rfl, r1, r2⟩ := vals2 r
  cases (show u1 = Value.ref a from r1)
  have ec := hcv.eq r2
  subst ec
  obtain ⟨hget, _⟩ := I.pin (a, oe) (List.mem_append.mpr (.inl List.mem_cons_self))
  obtain ⟨vs, hv⟩ := hf
  have hx : ObjOk X.prog X.w H s.heap dd (.xd fs) := I.hok dd _ hd
  obtain ⟨mA, hns, hr⟩ := hx
  obtain ⟨od, ho, hl⟩ := lookIn_ns hns
  have J : PySem.W.InstAt s.heap a oe C (some od) := ⟨hget, hz.1, by unfold PySem.W.notCls; rw [hv] <;> rfl, by rw [hz.2]; exact ho⟩
  obtain ⟨cd, hcd, _⟩ := PySem.W.any_some T.hd
  exact PySem.W.kia_one (PySem.W.kitx_exc (by rw [hcd]; rfl) T.hg T.hk T.hs T.ha T.hn T.ht T.hm) I.kIn J e (fun z => nomatch z) fun tk => ⟨.bl b, H, I.kept (t' := tk) fun _ _ z => z, rfl, q⟩
end L2
namespace GQ
open PySem PySem.Spec PyProof.Rows
section
variable {prog : Program} {w : World} {A : Around} {R : Result → Shared → Prop}
theorem list_eq_len (l b : Addr) (items items2 : Array Value) (n n2 : Nat) (hne : items.size ≠ items2.size) {s : Shared} (hl1 : s.heap.get? l = some { cls := .type "list", data := .seq items n }) (hb1 : s.heap.get? b = some { cls := .type "list", data := .seq items2 n2 })
    (fin : R (.ok (.ret (.bool false))) s) :
    wpAny (model prog w) A.in1 (Builtin.«list.__eq__» ⟨[.ref l, .ref b], []⟩) (FinOf prog w A R) (fun e s' => R (.error e) s') s := by
  obtain ⟨hp, g, d, tk, os⟩ := s
  have f3 := AutoSeq1.sub_list_list
  have hne' : (items.size != items2.size) = true := by simp [hne]
  wp_walk using wpAny_loadPart' hl1, wpAny_loadPart' hb1
  exact fin
end
section
variable {prog : Program} {w : World} {A : Around} {E : Value → Shared → Prop} {s : Shared}
theorem rc_list_len {l b : Addr} {items items2 : Array Value} {n n2 : Nat} {Q : Value → Shared → Prop} (hu : A.units < cLine) (hne : items.size ≠ items2.size) (hl1 : s.heap.get? l = some { cls := .type "list", data := .seq items n }) (hb1 : s.heap.get? b = some { cls := .type "list", data := .seq items2 n2 })
    (fin : Q (.bool false) s) : wpAny (model prog w) A (richCompare .Eq (.ref l) (.ref b)) Q E s := by
  refine wpAny_richCompare_same_room (op := .Eq) ⟨_, hl1, rfl⟩ ⟨_, hb1, rfl⟩ F.slot_list_eq (call_here F.slot_list_eq ⟨_, hl1, rfl⟩ F.entry_list_eq (F.args_list_eq_2 _ _) ?_) hu
  exact list_eq_len (R := wants (fun v s' => v ≠ .notImplemented ∧ Q v s') E) l b items items2 n n2 hne hl1 hb1 ⟨(fun x => nomatch x), fin⟩
end
end GQ
namespace L2
open PySem PySem.Spec PyProof.Rows PySem.Builtin PySem.Builtin.Str
section
variable {X : Cx}
/-- xs == ys of two lists of which one is empty -/
def rEqNil : R2 := fun x y H Q => ∃ p q xs ys, x = .ref p ∧ y = .ref q ∧ H p = some (.lst xs) ∧ H q = some (.lst ys) ∧ (xs = [] ∨ ys = []) ∧ Q (.bl (decide (xs.length = ys.length))) H
theorem op_eq_nil (hu : X.A.units < cLine) : OpR X (compareOp .Eq) rEqNil := by
  intro pins s σ H x y v u Q I rx ry h
  obtain ⟨p, q, xs, ys, rfl, rfl, hp, hq, hn, k⟩ := h
  cases (show v = Value.ref p from rx)
  cases (show u = Value.ref q from ry)
  obtain ⟨z1, its, n, r1, hl, e1⟩ := I.lstM hp
  obtain ⟨z2, its2, n2, r2, hl2, e2⟩ := I.lstM hq
  by_cases hl3 : xs.length = ys.length
  · have ex : xs = [] := by
      rcases hn with e | e
      · exact e
      · subst e; exact List.length_eq_zero_iff.mp hl3
    have ey : ys = [] := by
      rcases hn with e | e
      · subst e; exact List.length_eq_zero_iff.mp hl3.symm
      · exact e
    subst ex ey
    cases r1; cases r2
    rw [decide_eq_true hl3] at k
    exact GQ.rc_listG hu (N := 0) (fun i s' => i = 0 ∧ s' = s) (fun i s' hi => by obtain ⟨rfl, rfl⟩ := hi; exact ⟨_, _, _, _, e1, e2, rfl, rfl, fun h1 _ => absurd h1 (by simp)⟩) (fun s' hs => by obtain ⟨_, rfl⟩ := hs; exact ⟨.bl true, H, I, rfl, k⟩) ⟨rfl, rfl⟩
  · rw [decide_eq_false hl3] at k
    refine GQ.rc_list_len hu ?_ e1 e2 ⟨.bl false, H, I, rfl, k⟩
    have := r1.length
    have := r2.length
    simp only [List.size_toArray]
    omega
/-! ### dicts of flat values, shown -/
def FlatD : V → PyData → Prop := fun v d => (v = .non ∧ d = .none) ∨ (∃ b, v = .bl b ∧ d = .bool b) ∨ (∃ i, v = .int i ∧ d = .int i) ∨ ∃ z, v = .str z ∧ d = .str z
def keyD : Key → PyData
  | .inl i => .int i
  | .inr x => .str x
def DictD : List (Key × V) → List (PyData × PyData) → Prop := Paired fun p q => q.1 = keyD p.1 ∧ FlatD p.2 q.2
/-- data, or a dict of flat values -/
def Ds (K : PySem.W.Frag) (H : Hp) (x : V) (d : PyData) : Prop := Dp K H x d ∨ ∃ a kvs ds, x = .ref a ∧ H a = some (.dK kvs) ∧ d = .dict ds ∧ DictD kvs ds
def rReprD (K : PySem.W.Frag) : List V → Hp → VK → Prop := fun xs H Q => ∃ x d, xs = [x] ∧ Ds K H x d ∧ d.showable = true ∧ d.depth ≤ 60 ∧ d.shown.length ≤ sizeLine ∧ Q (.str d.shown) H
theorem FlatD.reads {v : V} {d : PyData} {u : Value} {h : Heap} (f : FlatD v d) (r : RelV v u) : Reads h u d [] := by
  rcases f with ⟨rfl, rfl⟩ | ⟨b, rfl, rfl⟩ | ⟨i, rfl, rfl⟩ | ⟨z, rfl, rfl⟩
  · cases (show u = Value.none from r); exact .none
  · cases (show u = Value.bool b from r); exact .bool _
  · obtain ⟨t, rfl⟩ := r; exact .int _ _
  · obtain ⟨t, rfl⟩ := r; exact .str _ _
theorem keyD_reads {k : Key} {u : Value} {h : Heap} (e : keyIs k u = true) : Reads h u (keyD k) [] := by
  rcases keyIs_shape e with ⟨i, t, rfl, rfl⟩ | ⟨x, t, rfl, rfl⟩
  · exact .int _ _
  · exact .str _ _
theorem dictD_reads {h : Heap} {P : Program} {w : World} {kvs : List (Key × V)} {ds : List (PyData × PyData)} (dd : DictD kvs ds) : ∀ {vs : List (Key × Value)} {es : List DictEntry}, KV kvs vs → Pairs (mixKind P w) es vs →
    ReadsAll h (es.map (·.key)) (ds.map (·.1)) [] ∧ ReadsAll h (es.map (·.val)) (ds.map (·.2)) [] := by
  unfold DictD at dd
  induction dd with
  | nil =>
    intro vs es kv ps
    cases kv
    cases ps
    exact ⟨.nil, .nil⟩
  | @cons p q l1 l2 h1 _ ih =>
    intro vs es kv ps
    unfold KV at kv
    cases kv with
    | cons a t =>
      cases ps with
      | cons hk hv hp =>
        obtain ⟨i1, i2⟩ := ih t hp
        obtain ⟨e1, f⟩ := h1
        obtain ⟨ka, ra⟩ := a
        refine ⟨.cons (as := []) (bs := []) ?_ i1, .cons (as := []) (bs := []) ?_ i2⟩
        · show Reads h _ q.1 []
          rw [e1, ka]
          exact keyD_reads hk
        · have := f.reads (h := h) ra
          rw [← hv] at this
          exact this
theorem call_reprD (hc : X.A.guards = some []) (hu : X.A.units + 64 < cLine) : CallR X (.builtin "repr") (rReprD X.K) := by
  intro pins s σ H xs us Q I r h
  obtain ⟨x, d, rfl, hd, hs, hdp, hz, q⟩ := h
  rcases hd with hd | ⟨a, kvs, ds, rfl, ha, rfl, dd⟩
  · exact call_repr hc hu pins s σ H _ us Q I r ⟨x, d, rfl, .inl hd, hs, hdp, hz, q⟩
  · obtain ⟨u, rfl, r1⟩ := vals1 r
    obtain rfl : u = Value.ref a := r1
    obtain ⟨_, hsys, vs, hkv, od, es, ep, hget, hcl, hdat, hko, hps, _⟩ : ObjOk X.prog X.w H s.heap a (.dK kvs) := I.hok a _ ha
    obtain ⟨i1, i2⟩ := dictD_reads (h := s.heap) dd hkv hps
    have rd : Reads s.heap (.ref a) (.dict ds) (a :: [] ++ []) := .dict hget hcl.1 hdat i1 i2
    refine repr_of_reads' rd hs (fun _ hm => ?_) hc (by omega) (fun _ _ e => e) (fun h' u tk k => ⟨.str _, H, I.kept k, ⟨_, rfl⟩, q⟩) hz
    have e : sysModules = a := by simpa using hm
    rw [← e] at hsys
    exact absurd hsys (by decide)
end
end L2

set_option Elab.async false
set_option linter.all false
set_option maxRecDepth 100000
set_option maxHeartbeats 2000000
namespace Cols
/-! ### columns of the table of distances by bits -/
def Col (c : Nat → Int) (m : Nat) (V N : Nat → Bool) : Prop := ∀ i, i < m → (V i = true ∧ N i = false ∧ c (i + 1) = c i + 1) ∨ (V i = false ∧ N i = true ∧ c (i + 1) = c i - 1) ∨ (V i = false ∧ N i = false ∧ c (i + 1) = c i)
structure Step (m : Nat) (V N E L R W V' N' : Nat → Bool) : Prop where
  l0 : 0 < m → L 0 = (E 0 || N 0)
  ls : ∀ i, i + 1 < m → L (i + 1) = (E (i + 1) || N (i + 1) || (L i && V i))
  r0 : R 0 = true
  rs : ∀ i, i < m → R (i + 1) = (N i || !(L i || V i))
  w0 : W 0 = false
  ws : ∀ i, i < m → W (i + 1) = (L i && V i)
  v' : ∀ i, i < m → V' i = (W i || !(L i || R i))
  n' : ∀ i, i < m → N' i = (L i && R i)
theorem step {m : Nat} {V N E L R W V' N' : Nat → Bool} (s : Step m V N E L R W V' N') {c c' : Nat → Int} (h : Col c m V N) (h0 : c' 0 = c 0 + 1)
    (hc : ∀ i, i < m → c' (i + 1) = min (c i + if E i = true then 0 else 1) (min (c (i + 1) + 1) (c' i + 1))) : Col c' m V' N' := by
  have key : ∀ i, i ≤ m → ((R i = true ∧ W i = false ∧ c' i = c i + 1) ∨ (R i = false ∧ W i = true ∧ c' i = c i - 1) ∨ (R i = false ∧ W i = false ∧ c' i = c i)) ∧
      (i < m → L i = (E i || N i || W i)) := by
    intro i
    induction i with
    | zero => exact fun _ => ⟨.inl ⟨s.r0, s.w0, h0⟩, fun hm => by rw [s.l0 hm, s.w0, Bool.or_false]⟩
    | succ i ih =>
      intro hi
      obtain ⟨ih1, ih2⟩ := ih (by omega)
      have hL := ih2 (by omega)
      have hv := h i (by omega)
      have e := hc i (by omega)
      have er := s.rs i (by omega)
      have ew := s.ws i (by omega)
      refine ⟨?_, fun hm => by rw [s.ls i hm, ← ew]⟩
      rw [er, ew]
      cases hE : E i <;> rcases hv with ⟨a, b, d⟩ | ⟨a, b, d⟩ | ⟨a, b, d⟩ <;> rcases ih1 with ⟨r, w, k⟩ | ⟨r, w, k⟩ | ⟨r, w, k⟩ <;> rw [hE, b, w] at hL <;> rw [hE] at e <;> simp only [a, b, hL, Bool.or_false, Bool.false_or, Bool.or_true, Bool.true_or, Bool.and_true, Bool.and_false, Bool.not_true, Bool.not_false, Bool.false_eq_true, reduceIte, if_true, if_false] at e ⊢ <;> simp <;> omega
  intro i hi
  obtain ⟨k1, k2⟩ := key i (by omega)
  have hL := k2 hi
  have hv := h i hi
  have e := hc i hi
  rw [s.v' i hi, s.n' i hi]
  cases hE : E i <;> rcases hv with ⟨a, b, d⟩ | ⟨a, b, d⟩ | ⟨a, b, d⟩ <;> rcases k1 with ⟨r, w, k⟩ | ⟨r, w, k⟩ | ⟨r, w, k⟩ <;> rw [hE, b, w] at hL <;> rw [hE] at e <;> simp only [r, w, hL, Bool.or_false, Bool.false_or, Bool.or_true, Bool.true_or, Bool.and_true, Bool.and_false, Bool.not_true, Bool.not_false, Bool.false_eq_true, reduceIte, if_true, if_false] at e ⊢ <;> simp <;> omega
/-! ### bits of natural numbers -/
theorem sub_and : ∀ (i x k : Nat), (x - (x &&& k)).testBit i = (x.testBit i && !k.testBit i) := by
  intro i
  induction i with
  | zero =>
    intro x k
    have h1 : (x &&& k) % 2 = (x % 2) &&& (k % 2) := by simp [Nat.and_mod_two_pow (n := 1)]
    have h2 : x &&& k ≤ x := Nat.and_le_left
    simp only [Nat.testBit_zero]
    generalize x &&& k = y at h1 h2 ⊢
    rcases Nat.mod_two_eq_zero_or_one x with a | a <;> rcases Nat.mod_two_eq_zero_or_one k with b | b <;> rw [a, b] at h1 <;> (have h1 : y % 2 = _ := h1) <;> (rw [a, b]) <;> simp at h1 ⊢ <;> omega
  | succ i ih =>
    intro x k
    have h1 : (x &&& k) % 2 = (x % 2) &&& (k % 2) := by simp [Nat.and_mod_two_pow (n := 1)]
    have h2 : x &&& k ≤ x := Nat.and_le_left
    have h3 : (x &&& k) / 2 = x / 2 &&& k / 2 := Nat.and_div_two
    have h4 : (x - (x &&& k)) / 2 = x / 2 - (x / 2 &&& k / 2) := by
      rw [← h3]
      generalize x &&& k = y at h1 h2 h3 ⊢
      rcases Nat.mod_two_eq_zero_or_one x with a | a <;> rcases Nat.mod_two_eq_zero_or_one k with b | b <;> rw [a, b] at h1 <;> simp at h1 <;> omega
    simp only [Nat.testBit_succ]
    rw [h4, ih]
def maj (a b c : Bool) : Bool := (a && b) || (c && (a || b))
def car (a b : Nat → Bool) (c : Bool) : Nat → Bool
  | 0 => c
  | i + 1 => maj (a i) (b i) (car a b c i)
theorem car_succ (a b : Nat → Bool) (c : Bool) : ∀ i, car a b c (i + 1) = car (fun j => a (j + 1)) (fun j => b (j + 1)) (maj (a 0) (b 0) c) i
  | 0 => rfl
  | i + 1 => by
    show maj (a (i + 1)) (b (i + 1)) (car a b c (i + 1)) = maj (a (i + 1)) (b (i + 1)) (car _ _ _ i)
    rw [car_succ a b c i]
theorem add_bit : ∀ (i a b : Nat) (c : Bool), (a + b + c.toNat).testBit i = ((a.testBit i ^^ b.testBit i) ^^ car a.testBit b.testBit c i) := by
  intro i
  induction i with
  | zero =>
    intro a b c
    simp only [Nat.testBit_zero, car]
    rcases Nat.mod_two_eq_zero_or_one a with x | x <;> rcases Nat.mod_two_eq_zero_or_one b with y | y <;> cases c <;> simp [x, y] <;> omega
  | succ i ih =>
    intro a b c
    have e : (a + b + c.toNat) / 2 = a / 2 + b / 2 + (maj (a.testBit 0) (b.testBit 0) c).toNat := by
      simp only [Nat.testBit_zero, maj]
      rcases Nat.mod_two_eq_zero_or_one a with x | x <;> rcases Nat.mod_two_eq_zero_or_one b with y | y <;> cases c <;> simp [x, y] <;> omega
    rw [car_succ]
    simp only [Nat.testBit_succ]
    rw [e, ih]
/-! ### bits of integers -/
def B (x : Int) (i : Nat) : Bool := if 0 ≤ x then x.toNat.testBit i else !(-x - 1).toNat.testBit i
theorem B_nat (n i : Nat) : B (n : Int) i = n.testBit i := by
  unfold B; rw [if_pos (by omega), Int.toNat_natCast]
theorem B_neg (k i : Nat) : B (-(k : Int) - 1) i = !k.testBit i := by
  unfold B; rw [if_neg (by omega), show (-(-(k : Int) - 1) - 1).toNat = k by omega]
theorem two_sorts (x : Int) : (∃ n : Nat, x = n) ∨ ∃ k : Nat, x = -(k : Int) - 1 := by
  rcases Int.lt_or_le x 0 with h | h
  · exact .inr ⟨(-x - 1).toNat, by omega⟩
  · exact .inl ⟨x.toNat, by omega⟩
open PySem.Builtin in
theorem B_not (x : Int) (i : Nat) : B (bitNot x) i = !B x i := by
  unfold bitNot
  rcases two_sorts x with ⟨n, rfl⟩ | ⟨k, rfl⟩
  · rw [B_neg, B_nat]
  · rw [show -(-(k : Int) - 1) - 1 = (k : Int) by omega, B_nat, B_neg, Bool.not_not]
open PySem.Builtin in
theorem B_and (x y : Int) (i : Nat) : B (bitAnd x y) i = (B x i && B y i) := by
  unfold bitAnd
  rcases two_sorts x with ⟨n, rfl⟩ | ⟨k, rfl⟩ <;> rcases two_sorts y with ⟨n2, rfl⟩ | ⟨k2, rfl⟩
  · rw [decide_eq_true (by omega), decide_eq_true (by omega)]
    show B (((n : Int).toNat &&& (n2 : Int).toNat : Nat) : Int) i = _
    rw [Int.toNat_natCast, Int.toNat_natCast, B_nat, B_nat, B_nat, Nat.testBit_and]
  · rw [decide_eq_true (by omega), decide_eq_false (by omega)]
    show B ((n : Int) - (((n : Int).toNat &&& (bitNot (-(k2 : Int) - 1)).toNat : Nat) : Int)) i = _
    unfold bitNot
    rw [Int.toNat_natCast, show (-(-(k2 : Int) - 1) - 1).toNat = k2 by omega]
    have := Nat.and_le_left (n := n) (m := k2)
    rw [show (n : Int) - ((n &&& k2 : Nat) : Int) = ((n - (n &&& k2) : Nat) : Int) by omega, B_nat, B_nat, B_neg, sub_and]
  · rw [decide_eq_false (by omega), decide_eq_true (by omega)]
    show B ((n2 : Int) - (((n2 : Int).toNat &&& (bitNot (-(k : Int) - 1)).toNat : Nat) : Int)) i = _
    unfold bitNot
    rw [Int.toNat_natCast, show (-(-(k : Int) - 1) - 1).toNat = k by omega]
    have := Nat.and_le_left (n := n2) (m := k)
    rw [show (n2 : Int) - ((n2 &&& k : Nat) : Int) = ((n2 - (n2 &&& k) : Nat) : Int) by omega, B_nat, B_nat, B_neg, sub_and, Bool.and_comm]
  · rw [decide_eq_false (by omega), decide_eq_false (by omega)]
    show B (bitNot (((bitNot (-(k : Int) - 1)).toNat ||| (bitNot (-(k2 : Int) - 1)).toNat : Nat) : Int)) i = _
    rw [B_not]
    unfold bitNot
    rw [show (-(-(k : Int) - 1) - 1).toNat = k by omega, show (-(-(k2 : Int) - 1) - 1).toNat = k2 by omega, B_nat, B_neg, B_neg, Nat.testBit_or, Bool.not_or]
open PySem.Builtin in
theorem B_or (x y : Int) (i : Nat) : B (bitOr x y) i = (B x i || B y i) := by
  unfold bitOr
  rw [B_not, B_and, B_not, B_not, Bool.not_and, Bool.not_not, Bool.not_not]
open PySem.Builtin in
theorem B_xor (n k i : Nat) : B (bitXor n k) i = (B n i ^^ B k i) := by
  have h1 : bitOr (n : Int) k = ((n ||| k : Nat) : Int) := by
    unfold bitOr bitAnd
    rw [decide_eq_false (by unfold bitNot; omega), decide_eq_false (by unfold bitNot; omega)]
    unfold bitNot
    rw [show (-(-(n : Int) - 1) - 1).toNat = n by omega, show (-(-(k : Int) - 1) - 1).toNat = k by omega]
    show -(-((n ||| k : Nat) : Int) - 1) - 1 = _
    omega
  have h2 : bitAnd (n : Int) k = ((n &&& k : Nat) : Int) := by
    unfold bitAnd
    rw [decide_eq_true (by omega), decide_eq_true (by omega)]
    rfl
  unfold bitXor
  rw [h1, h2]
  have h3 : n &&& k = (n ||| k) &&& (n &&& k) := by
    apply Nat.eq_of_testBit_eq
    intro j
    simp only [Nat.testBit_and, Nat.testBit_or]
    cases n.testBit j <;> cases k.testBit j <;> rfl
  have h4 : n &&& k ≤ n ||| k := by rw [h3]; exact Nat.and_le_left
  rw [show ((n ||| k : Nat) : Int) - ((n &&& k : Nat) : Int) = (((n ||| k) - (n &&& k) : Nat) : Int) by omega]
  rw [B_nat, B_nat, B_nat]
  rw [h3, sub_and]
  simp only [Nat.testBit_and, Nat.testBit_or]
  cases n.testBit i <;> cases k.testBit i <;> rfl
theorem B_dbl0 (x : Int) : B (x * 2) 0 = false := by
  rcases two_sorts x with ⟨n, rfl⟩ | ⟨k, rfl⟩
  · rw [show (n : Int) * 2 = ((n * 2 : Nat) : Int) by omega, B_nat]; simp
  · rw [show (-(k : Int) - 1) * 2 = -((2 * k + 1 : Nat) : Int) - 1 by omega, B_neg]; simp
theorem B_dbl (x : Int) (i : Nat) : B (x * 2) (i + 1) = B x i := by
  rcases two_sorts x with ⟨n, rfl⟩ | ⟨k, rfl⟩
  · rw [show (n : Int) * 2 = ((n * 2 : Nat) : Int) by omega, B_nat, B_nat, Nat.testBit_succ, Nat.mul_div_cancel _ (by omega)]
  · rw [show (-(k : Int) - 1) * 2 = -((2 * k + 1 : Nat) : Int) - 1 by omega, B_neg, B_neg, Nat.testBit_succ, show (2 * k + 1) / 2 = k by omega]
theorem B_one (i : Nat) : B 1 i = decide (i = 0) := by
  rw [show (1 : Int) = ((1 : Nat) : Int) from rfl, B_nat]
  cases i with
  | zero => rfl
  | succ i => rw [Nat.testBit_succ]; simp
theorem B_whole (m i : Nat) : B (2 ^ m - 1) i = decide (i < m) := by
  have : ((2 : Int) ^ m - 1) = ((2 ^ m - 1 : Nat) : Int) := by
    have := Nat.two_pow_pos m
    rw [Int.natCast_sub (by omega)]
    simp
  rw [this, B_nat, Nat.testBit_two_pow_sub_one]
open PySem.Builtin in
theorem and_nat {x y : Int} (h : 0 ≤ x ∨ 0 ≤ y) : 0 ≤ bitAnd x y := by
  unfold bitAnd
  rcases two_sorts x with ⟨n, rfl⟩ | ⟨k, rfl⟩ <;> rcases two_sorts y with ⟨n2, rfl⟩ | ⟨k2, rfl⟩
  · rw [decide_eq_true (by omega), decide_eq_true (by omega)]
    exact Int.natCast_nonneg _
  · rw [decide_eq_true (by omega), decide_eq_false (by omega)]
    show 0 ≤ (n : Int) - (((n : Int).toNat &&& (bitNot (-(k2 : Int) - 1)).toNat : Nat) : Int)
    have := Nat.and_le_left (n := n) (m := (bitNot (-(k2 : Int) - 1)).toNat)
    rw [Int.toNat_natCast]; omega
  · rw [decide_eq_false (by omega), decide_eq_true (by omega)]
    show 0 ≤ (n2 : Int) - (((n2 : Int).toNat &&& (bitNot (-(k : Int) - 1)).toNat : Nat) : Int)
    have := Nat.and_le_left (n := n2) (m := (bitNot (-(k : Int) - 1)).toNat)
    rw [Int.toNat_natCast]; omega
  · omega
open PySem.Builtin in
/-- one letter more, as the program reckons -/
theorem reckon {m : Nat} {up down same : Nat} (dis : ∀ i, i < m → ¬ (B up i = true ∧ B down i = true)) {level raised lowered up' down' : Int}
    (e1 : level = bitOr (bitOr (bitXor (bitAnd same up + up) up) same) down) (e2 : raised = bitOr (bitOr down (bitNot (bitOr level up)) * 2) 1)
    (e3 : lowered = bitAnd level up * 2) (e4 : up' = bitAnd (bitOr lowered (bitNot (bitOr level raised))) (2 ^ m - 1)) (e5 : down' = bitAnd (bitAnd level raised) (2 ^ m - 1)) :
    Step m (B up) (B down) (B same) (B level) (B raised) (B lowered) (B up') (B down') ∧ 0 ≤ up' ∧ 0 ≤ down' := by
  have w0 : (0 : Int) ≤ 2 ^ m - 1 := by
    have : ((2 : Int) ^ m - 1) = ((2 ^ m - 1 : Nat) : Int) := by
      have := Nat.two_pow_pos m
      rw [Int.natCast_sub (by omega)]
      simp
    rw [this]; exact Int.natCast_nonneg _
  have a0 : 0 ≤ bitAnd (same : Int) up := and_nat (.inl (by omega))
  obtain ⟨a, ha⟩ : ∃ a : Nat, bitAnd (same : Int) up = a := ⟨(bitAnd (same : Int) up).toNat, by omega⟩
  have hl : ∀ i, B level i = (B same i || B down i || car a.testBit up.testBit false i) := fun i => by
    rw [e1, B_or, B_or, ha, show (a : Int) + (up : Int) = ((a + up : Nat) : Int) by omega, B_xor, B_nat, B_nat, show a + up = a + up + false.toNat from rfl, add_bit]
    have : a.testBit i = (B same i && up.testBit i) := by rw [← B_nat a, ← ha, B_and, B_nat up]
    rw [this]
    cases B same i <;> cases B down i <;> cases up.testBit i <;> cases car a.testBit up.testBit false i <;> rfl
  have hr : ∀ i, B raised (i + 1) = (B down i || !(B level i || B up i)) := fun i => by
    rw [e2, B_or, B_dbl, B_or, B_not, B_or, B_one]
    simp
  have hw : ∀ i, B lowered (i + 1) = (B level i && B up i) := fun i => by rw [e3, B_dbl, B_and]
  refine ⟨⟨fun _ => ?_, fun i hi => ?_, ?_, fun i _ => hr i, ?_, fun i _ => hw i, fun i hi => ?_, fun i hi => ?_⟩, by rw [e4]; exact and_nat (.inr w0), by rw [e5]; exact and_nat (.inr w0)⟩
  · rw [hl]
    show (B same 0 || B down 0 || false) = _
    rw [Bool.or_false]
  · rw [hl]
    congr 1
    show maj (a.testBit i) (up.testBit i) (car a.testBit up.testBit false i) = _
    have ea : a.testBit i = (B same i && up.testBit i) := by rw [← B_nat a, ← ha, B_and, B_nat up]
    rw [ea, hl i]
    have d := dis i (by omega)
    rw [B_nat up] at d ⊢
    unfold maj
    cases hs : B same i <;> cases hd : B down i <;> cases hu : up.testBit i <;> cases hc : car a.testBit up.testBit false i <;> first | rfl | exact absurd ⟨hu, hd⟩ d
  · rw [e2, B_or, B_dbl0, B_one]; rfl
  · rw [e3, B_dbl0]
  · rw [e4, B_and, B_or, B_not, B_or, B_whole, decide_eq_true hi, Bool.and_true]
  · rw [e5, B_and, B_and, B_whole, decide_eq_true hi, Bool.and_true]
open PySem.Builtin in
theorem or_nat (n k : Nat) : bitOr (n : Int) k = ((n ||| k : Nat) : Int) := by
  unfold bitOr bitAnd
  rw [decide_eq_false (by unfold bitNot; omega), decide_eq_false (by unfold bitNot; omega)]
  unfold bitNot
  rw [show (-(-(n : Int) - 1) - 1).toNat = n by omega, show (-(-(k : Int) - 1) - 1).toNat = k by omega]
  show -(-((n ||| k : Nat) : Int) - 1) - 1 = _
  omega
open PySem.Builtin in
theorem and_natn (n k : Nat) : bitAnd (n : Int) k = ((n &&& k : Nat) : Int) := by
  unfold bitAnd
  rw [decide_eq_true (by omega), decide_eq_true (by omega)]
  rfl
open PySem.Builtin in
theorem xor_nat (n k : Nat) : bitXor (n : Int) k = ((n ^^^ k : Nat) : Int) := by
  have h0 : 0 ≤ bitXor (n : Int) k := by
    unfold bitXor
    rw [or_nat, and_natn]
    have : n &&& k ≤ n ||| k := by
      have : n &&& k = (n ||| k) &&& (n &&& k) := by
        apply Nat.eq_of_testBit_eq
        intro j
        simp only [Nat.testBit_and, Nat.testBit_or]
        cases n.testBit j <;> cases k.testBit j <;> rfl
      rw [this]; exact Nat.and_le_left
    omega
  obtain ⟨x, hx⟩ : ∃ x : Nat, bitXor (n : Int) k = x := ⟨(bitXor (n : Int) k).toNat, by omega⟩
  rw [hx]
  congr 1
  apply Nat.eq_of_testBit_eq
  intro i
  rw [← B_nat, ← hx, B_xor, B_nat, B_nat, Nat.testBit_xor]
/-! ### how many bits -/
def P (V : Nat → Bool) : Nat → Nat
  | 0 => 0
  | i + 1 => P V i + (V i).toNat
theorem P_succ (V : Nat → Bool) : ∀ i, P V (i + 1) = (V 0).toNat + P (fun j => V (j + 1)) i
  | 0 => by show 0 + (V 0).toNat = (V 0).toNat + 0; omega
  | i + 1 => by
    show P V (i + 1) + (V (i + 1)).toNat = (V 0).toNat + (P (fun j => V (j + 1)) i + (V (i + 1)).toNat)
    rw [P_succ V i]; omega
theorem P_ext {V V' : Nat → Bool} : ∀ {m : Nat}, (∀ i, i < m → V i = V' i) → P V m = P V' m
  | 0, _ => rfl
  | m + 1, h => by
    show P V m + (V m).toNat = P V' m + (V' m).toNat
    rw [P_ext fun i hi => h i (by omega), h m (by omega)]
theorem col_sum {c : Nat → Int} {m : Nat} {V N : Nat → Bool} (h : Col c m V N) : ∀ i, i ≤ m → c i = c 0 + (P V i : Int) - (P N i : Int)
  | 0, _ => by show c 0 = c 0 + ((0 : Nat) : Int) - ((0 : Nat) : Int); omega
  | i + 1, hi => by
    have := col_sum h i (by omega)
    show c (i + 1) = c 0 + ((P V i + (V i).toNat : Nat) : Int) - ((P N i + (N i).toNat : Nat) : Int)
    rcases h i (by omega) with ⟨a, b, d⟩ | ⟨a, b, d⟩ | ⟨a, b, d⟩ <;> rw [a, b] <;> simp <;> omega
/-- the ones among the figures in base two -/
def ones (l : List Char) : Nat := (l.filter fun c => c == '1').length
theorem ones_cons (c : Char) (l : List Char) : ones (c :: l) = (if c == '1' then 1 else 0) + ones l := by
  unfold ones
  rw [List.filter_cons]
  split
  · rw [List.length_cons]; omega
  · omega
theorem ones_core : ∀ (fuel n m : Nat) (ds : List Char), n < fuel → n < 2 ^ m → ones (Nat.toDigitsCore 2 fuel n ds) = P n.testBit m + ones ds
  | 0, n, m, ds, h, _ => absurd h (Nat.not_lt_zero n)
  | fuel + 1, n, m, ds, h, hm => by
    unfold Nat.toDigitsCore
    have hd : ones (Nat.digitChar (n % 2) :: ds) = (n.testBit 0).toNat + ones ds := by
      rw [ones_cons]
      simp only [Nat.testBit_zero]
      rcases Nat.mod_two_eq_zero_or_one n with a | a <;> rw [a] <;> rfl
    cases m with
    | zero =>
      have : n = 0 := by simp at hm; exact hm
      subst this
      show ones (if 0 / 2 = 0 then _ else _) = _
      rw [if_pos rfl]
      exact hd
    | succ m =>
      have e2 : P n.testBit (m + 1) = (n.testBit 0).toNat + P (n / 2).testBit m := by
        rw [P_succ]
        congr 1
        exact P_ext fun i _ => Nat.testBit_succ n i
      have hm2 : n / 2 < 2 ^ m := by rw [Nat.pow_succ] at hm; omega
      show ones (if n / 2 = 0 then Nat.digitChar (n % 2) :: ds else Nat.toDigitsCore 2 fuel (n / 2) (Nat.digitChar (n % 2) :: ds)) = _
      by_cases h0 : n / 2 = 0
      · rw [if_pos h0, hd, e2, h0]
        have : P (0 : Nat).testBit m = 0 := by
          have : ∀ m, P (0 : Nat).testBit m = 0 := fun m => by
            induction m with
            | zero => rfl
            | succ m ih => show P _ m + _ = 0; rw [ih, Nat.zero_testBit]; rfl
          exact this m
        rw [this]; omega
      · rw [if_neg h0, ones_core fuel (n / 2) m _ (by omega) hm2, hd, e2]; omega
theorem ones_bin {n m : Nat} (h : n < 2 ^ m) : ones (Nat.toDigits 2 n) = P n.testBit m := by
  unfold Nat.toDigits
  rw [ones_core _ _ m _ (by omega) h]
  rfl
/-! ### the columns of two texts -/
def At (p t : List Nat) (j up down : Nat) : Prop := Col (fun i => (Lev.T p t i j : Int)) p.length (B up) (B down) ∧ up < 2 ^ p.length ∧ down < 2 ^ p.length
theorem At.start (p t : List Nat) : At p t 0 (2 ^ p.length - 1) 0 := by
  have hp := Nat.two_pow_pos p.length
  refine ⟨fun i hi => .inl ⟨?_, ?_, ?_⟩, by omega, hp⟩
  · rw [B_nat, Nat.testBit_two_pow_sub_one]; exact decide_eq_true hi
  · rw [B_nat, Nat.zero_testBit]
  · show (Lev.T p t (i + 1) 0 : Int) = Lev.T p t i 0 + 1
    rw [Lev.T_left, Lev.T_left]; omega
open PySem.Builtin in
theorem At.step {p t : List Nat} {j up down same : Nat} (h : At p t j up down) (hs : ∀ i, i < p.length → B same i = decide (p[i]? = t[j]?)) {level raised lowered up' down' : Int}
    (e1 : level = bitOr (bitOr (bitXor (bitAnd same up + up) up) same) down) (e2 : raised = bitOr (bitOr down (bitNot (bitOr level up)) * 2) 1)
    (e3 : lowered = bitAnd level up * 2) (e4 : up' = bitAnd (bitOr lowered (bitNot (bitOr level raised))) (2 ^ p.length - 1)) (e5 : down' = bitAnd (bitAnd level raised) (2 ^ p.length - 1)) :
    ∃ u d : Nat, up' = u ∧ down' = d ∧ At p t (j + 1) u d := by
  obtain ⟨hc, hu, hd⟩ := h
  have dis : ∀ i, i < p.length → ¬ (B up i = true ∧ B down i = true) := fun i hi z => by
    rcases hc i hi with ⟨a, b, _⟩ | ⟨a, b, _⟩ | ⟨a, b, _⟩
    · rw [z.2] at b; cases b
    · rw [z.1] at a; cases a
    · rw [z.1] at a; cases a
  obtain ⟨s, u0, d0⟩ := reckon dis e1 e2 e3 e4 e5
  have w0 : (2 : Int) ^ p.length - 1 = ((2 ^ p.length - 1 : Nat) : Int) := by
    have := Nat.two_pow_pos p.length
    rw [Int.natCast_sub (by omega)]
    simp
  have hp := Nat.two_pow_pos p.length
  have r1 := (PyProof.Rows.bitAnd_range (bitOr lowered (bitNot (bitOr level raised))) (y := 2 ^ p.length - 1) (by rw [w0]; omega)).2
  have r2 := (PyProof.Rows.bitAnd_range (bitAnd level raised) (y := 2 ^ p.length - 1) (by rw [w0]; omega)).2
  rw [← e4, w0] at r1
  rw [← e5, w0] at r2
  refine ⟨up'.toNat, down'.toNat, by omega, by omega, ?_, by omega, by omega⟩
  have eu : ((up'.toNat : Nat) : Int) = up' := by omega
  have ed : ((down'.toNat : Nat) : Int) = down' := by omega
  rw [eu, ed]
  refine Cols.step s hc ?_ ?_
  · show (Lev.T p t 0 (j + 1) : Int) = Lev.T p t 0 j + 1
    rw [Lev.T_zero, Lev.T_zero]; omega
  · intro i hi
    show (Lev.T p t (i + 1) (j + 1) : Int) = min ((Lev.T p t i j : Int) + if B same i = true then 0 else 1) (min ((Lev.T p t (i + 1) j : Int) + 1) ((Lev.T p t i (j + 1) : Int) + 1))
    rw [Lev.T_step, hs i hi]
    unfold Lev.neq
    by_cases q : p[i]? = t[j]?
    · rw [if_pos q, decide_eq_true q, if_pos rfl]; omega
    · rw [if_neg q, decide_eq_false q, if_neg (by simp)]; omega
theorem At.done {p t : List Nat} {up down : Nat} (h : At p t t.length up down) : (t.length : Int) + (ones (Nat.toDigits 2 up) : Int) - (ones (Nat.toDigits 2 down) : Int) = (Lev.D p t : Int) := by
  obtain ⟨hc, hu, hd⟩ := h
  have := col_sum hc p.length (Nat.le_refl _)
  rw [ones_bin hu, ones_bin hd]
  have b : ∀ n : Nat, B n = n.testBit := fun n => funext fun i => B_nat n i
  rw [b, b] at this
  simp only [Lev.T_zero] at this
  unfold Lev.D
  omega
end Cols

set_option Elab.async false
set_option linter.all false
set_option maxRecDepth 100000
set_option maxHeartbeats 2000000
namespace PySem
open PySem.Spec PyProof.Rows Builtin
/-- a number's figures in base two -/
def binS (n : Nat) : Str := ⟨((Nat.toDigits 2 n).map Char.toNat).toArray⟩
theorem gives_int_b (n : Nat) (t u : Tok) : Gives («int.__format__» ⟨[.int (n : Int) t, .str (Str.ofString "b") u], []⟩) (.str (binS n)) := fun prog w A R s hq => by
  unfold Builtin.«int.__format__»
  simp only [selfAndOne, noKeywords, Builtin.Int.intOfSelf, asInt?, asStr?, List.isEmpty_nil, if_true, pure_bind, bind_pure, bind_assoc, show ((Str.ofString "b").length == 0) = false from rfl, Bool.false_eq_true, if_false,
    show (Value.str (Str.ofString "b") u == Value.none) = false from rfl]
  refine wpAny_bind (wpAny_typeNameOf (T := "str") (typeIs_str _ _ _) (by decide) fun _ => ?_)
  rw [if_neg (by decide)]
  refine wpAny_bind (wpAny_typeNameOfCut_int ?_)
  obtain ⟨f, ef⟩ : ∃ f : Float.FormatSpec, f = { fill := 32, align := 62, type := some 98 } := ⟨_, rfl⟩
  have hp : Float.parseFormatSpec (Str.ofString "b").cps.toList "int" 62 = .ok f := by rw [ef]; rfl
  have hty : f.type.getD (if ((Str.ofString "b").cps.back? == some 0) = true then 0 else 100) = 98 := by rw [ef]; rfl
  simp only [hp, hty]
  rw [if_pos (by decide)]
  show wpAny _ _ (if _ then _ else _) _ _ _
  rw [if_neg (by rw [ef]; decide)]
  show wpAny _ _ (if _ then _ else _) _ _ _
  rw [if_neg (by rw [ef]; decide)]
  show wpAny _ _ (if _ then _ else _) _ _ _
  rw [if_neg (by decide)]
  show wpAny _ _ (if f.width.getD 0 > 100000 then _ else retStr _) _ _ _
  rw [if_neg (by rw [ef]; decide)]
  have key : ∀ y, y = binS n → wpAny (model prog w) A.in1 (retStr y) (fun fin s' => match fin with | Fin.done f => R (Except.ok f) s' | Fin.again c' => c'.quiet = true ∧ codeAny (model prog w) A c' R s') (fun e s' => R (Except.error e) s') s := fun y e => by
    rw [e]
    unfold retStr
    exact wpAny_bind (wpAny_mkStr (wpAny_pure hq.2) hq.1)
  refine key _ ?_
  rw [ef]
  obtain ⟨L, eL⟩ : ∃ L, L = (Nat.toDigits 2 n).map Char.toNat := ⟨_, rfl⟩
  have e1 : (List.map (fun c => (if (98 == 88) = true then Char.toUpper c else c).toNat) (Nat.toDigits 2 ((n : Int)).natAbs)) = L := by
    rw [eL, Int.natAbs_natCast]; rfl
  have en : decide ((n : Int) < 0) = false := decide_eq_false (by omega)
  show _ = (⟨((Nat.toDigits 2 n).map Char.toNat).toArray⟩ : Str)
  rw [← eL, en]
  conv => lhs; arg 4; rw [show (List.map (fun c => (if (98 == 88) = true then Char.toUpper c else c).toNat) (Nat.toDigits 2 ((n : Int)).natAbs)) = L from e1]
  show (⟨(List.replicate (((-1 : Int) - ((0 : Int) + (0 : Int) + (0 : Int)) - ((if L.isEmpty = true then [] else List.replicate (Int.toNat 0 - L.length) 48 ++ L).length : Int)).toNat) 32 ++ [] ++ [] ++ List.replicate 0 32 ++ (if L.isEmpty = true then [] else List.replicate (Int.toNat 0 - L.length) 48 ++ L) ++ [] ++ List.replicate 0 32).toArray⟩ : Str) = _
  have e0 : (if L.isEmpty = true then [] else List.replicate (Int.toNat 0 - L.length) 48 ++ L) = L := by
    cases L with
    | nil => rfl
    | cons a l => rw [if_neg (by simp)]; simp
  rw [e0, show ((-1 : Int) - ((0 : Int) + (0 : Int) + (0 : Int)) - (L.length : Int)).toNat = 0 by omega]
  simp
section
variable {prog : Program} {w : World} {A : Around} {E : Value → Shared → Prop} {s : Shared} {env : Env}
theorem wpAny_formatField_b {n : Nat} {t : Tok} {Q : Value → Shared → Prop} (h : Q (.str (binS n) (s.toks + 1)) { s with toks := s.toks + 1 + 1 }) (hz : (binS n).length ≤ sizeLine) :
    wpAny (model prog w) A (formatField (.int (n : Int) t) (Str.ofString "b")) Q E s :=
  wpAny_formatField_spec rfl (fun s' => typeIs_int s' _ t) F.slot_int_format F.entry_int_format F.args_int_format_2 (fun u => gives_int_b n t u) h (by decide) hz
end
end PySem
namespace L2
open PySem PySem.Spec PyProof.Rows
section
variable {X : Cx}
/-- f"{e:b}" of a natural number -/
def tFmtB (te : TE) : TE := fun σ H Q => te σ H fun x H1 => ∃ n : Nat, x = .int n ∧ (binS n).length ≤ sizeLine ∧ Q (.str (binS n)) H1
theorem pe_fmtB {e : Expr} {te : TE} {pos : Pos} {sp : Expr} (he : PE X e te) (hs : PE X sp (fun σ H Q => Q (.str (Str.ofString "b")) H)) : PE X (.FormattedValue e (-1) (some sp) pos) (tFmtB te) := by
  refine ⟨fun pins s σ H Q I h => ?_⟩
  refine wpAny_FormattedValue_spec (thn (he.run pins s σ H _ I h) fun v s1 hv => ?_)
  obtain ⟨x, H1, I1, r1, n, rfl, hz, q⟩ := hv
  obtain ⟨t, rfl⟩ := r1
  refine thn (hs.run pins s1 σ H1 (fun y H' => y = .str (Str.ofString "b") ∧ H' = H1) I1 ⟨rfl, rfl⟩) fun r s2 h2 => ?_
  obtain ⟨y, H2, I2, r2, e1, e2⟩ := h2
  subst e1 e2
  obtain ⟨t2, rfl⟩ := r2
  exact ⟨_, _, rfl, wpAny_formatField_b ⟨.str (binS n), _, I2.tok _, ⟨_, rfl⟩, q⟩ hz⟩
end
end L2

set_option Elab.async false
set_option linter.all false
set_option maxRecDepth 100000
set_option maxHeartbeats 2000000
namespace My
open PySem PySem.Spec PyProof.Rows L2
def topS (i : Nat) : Stmt := PySem.Challenge.pw_spoiltline_k09_prices_of_rounds.main.body.getD i (.Pass ⟨0, 0, 0, 0⟩)
abbrev s_is_text : Stmt := topS 1
abbrev N_is_text : List Str := ["value"]
theorem sc_is_text : FnScope N_is_text ["value"] (defScope s_is_text) := ⟨rfl, rfl, rfl, by decide +kernel, rfl, by decide +kernel, by decide +kernel⟩
abbrev s_changes_between : Stmt := topS 3
abbrev N_changes_between : List Str := ["one", "other", "letters", "pattern", "whole", "up", "down"]
theorem sc_changes_between : FnScope N_changes_between ["one", "other"] (defScope s_changes_between) := ⟨rfl, rfl, rfl, by decide +kernel, rfl, by decide +kernel, by decide +kernel⟩
abbrev s_places_of : Stmt := topS 4
abbrev N_places_of : List Str := ["pattern", "places", "bit", "letter"]
theorem sc_places_of : FnScope N_places_of ["pattern"] (defScope s_places_of) := ⟨rfl, rfl, rfl, by decide +kernel, rfl, by decide +kernel, by decide +kernel⟩
abbrev s_column_behind : Stmt := topS 5
abbrev N_column_behind : List Str := ["up", "down", "letters", "places", "whole", "letter", "same", "level", "raised", "lowered"]
theorem sc_column_behind : FnScope N_column_behind ["up", "down", "letters", "places", "whole"] (defScope s_column_behind) := ⟨rfl, rfl, rfl, by decide +kernel, rfl, by decide +kernel, by decide +kernel⟩
abbrev s_ones : Stmt := topS 6
abbrev N_ones : List Str := ["bits"]
theorem sc_ones : FnScope N_ones ["bits"] (defScope s_ones) := ⟨rfl, rfl, rfl, by decide +kernel, rfl, by decide +kernel, by decide +kernel⟩
abbrev s_check_texts : Stmt := topS 11
abbrev N_check_texts : List Str := ["one", "other", "text"]
theorem sc_check_texts : FnScope N_check_texts ["one", "other"] (defScope s_check_texts) := ⟨rfl, rfl, rfl, by decide +kernel, rfl, by decide +kernel, by decide +kernel⟩
abbrev s_length_of_root : Stmt := topS 12
abbrev N_length_of_root : List Str := ["text"]
theorem sc_length_of_root : FnScope N_length_of_root ["text"] (defScope s_length_of_root) := ⟨rfl, rfl, rfl, by decide +kernel, rfl, by decide +kernel, by decide +kernel⟩
abbrev s_round_price : Stmt := topS 14
abbrev N_round_price : List Str := ["one", "other", "least", "turns", "turned", "changes"]
theorem sc_round_price : FnScope N_round_price ["one", "other"] (defScope s_round_price) := ⟨rfl, rfl, rfl, by decide +kernel, rfl, by decide +kernel, by decide +kernel⟩
abbrev s_law_cell : Stmt := topS 16
abbrev N_law_cell : List Str := ["script", "k"]
theorem sc_law_cell : FnScope N_law_cell ["script", "k"] (defScope s_law_cell) := ⟨rfl, rfl, rfl, by decide +kernel, rfl, by decide +kernel, by decide +kernel⟩
abbrev s_law_box : Stmt := topS 17
abbrev N_law_box : List Str := ["great"]
theorem sc_law_box : FnScope N_law_box ["great"] (defScope s_law_box) := ⟨rfl, rfl, rfl, by decide +kernel, rfl, by decide +kernel, by decide +kernel⟩
abbrev s_law_take : Stmt := topS 18
abbrev N_law_take : List Str := ["box", "many", "digit", "mixed"]
theorem sc_law_take : FnScope N_law_take ["box", "many"] (defScope s_law_take) := ⟨rfl, rfl, rfl, by decide +kernel, rfl, by decide +kernel, by decide +kernel⟩
abbrev s_law_turned : Stmt := topS 19
abbrev N_law_turned : List Str := ["box", "text", "at"]
theorem sc_law_turned : FnScope N_law_turned ["box", "text"] (defScope s_law_turned) := ⟨rfl, rfl, rfl, by decide +kernel, rfl, by decide +kernel, by decide +kernel⟩
abbrev s_law_changed : Stmt := topS 20
abbrev N_law_changed : List Str := ["box", "letters", "text", "found", "turn", "at", "way", "letter"]
theorem sc_law_changed : FnScope N_law_changed ["box", "letters", "text"] (defScope s_law_changed) := ⟨rfl, rfl, rfl, by decide +kernel, rfl, by decide +kernel, by decide +kernel⟩
abbrev s_law_texts : Stmt := topS 21
abbrev N_law_texts : List Str := ["box", "way", "letters", "k", "size", "text"]
theorem sc_law_texts : FnScope N_law_texts ["box"] (defScope s_law_texts) := ⟨rfl, rfl, rfl, by decide +kernel, rfl, by decide +kernel, by decide +kernel⟩
abbrev s_law_table : Stmt := topS 22
abbrev N_law_table : List Str := ["first", "second", "row", "i", "ahead", "j", "here"]
theorem sc_law_table : FnScope N_law_table ["first", "second"] (defScope s_law_table) := ⟨rfl, rfl, rfl, by decide +kernel, rfl, by decide +kernel, by decide +kernel⟩
abbrev s_law_least : Stmt := topS 23
abbrev N_law_least : List Str := ["first", "second", "at"]
theorem sc_law_least : FnScope N_law_least ["first", "second"] (defScope s_law_least) := ⟨rfl, rfl, rfl, by decide +kernel, rfl, by decide +kernel, by decide +kernel⟩
abbrev s_law_met : Stmt := topS 24
abbrev N_law_met : List Str := ["which", "first", "second", "e"]
theorem sc_law_met : FnScope N_law_met ["which", "first", "second"] (defScope s_law_met) := ⟨rfl, rfl, rfl, by decide +kernel, rfl, by decide +kernel, by decide +kernel⟩
abbrev s_law_right : Stmt := topS 25
abbrev N_law_right : List Str := ["box", "first", "second", "due", "right", "which", "told", "many", "far"]
theorem sc_law_right : FnScope N_law_right ["box", "first", "second"] (defScope s_law_right) := ⟨rfl, rfl, rfl, by decide +kernel, rfl, by decide +kernel, by decide +kernel⟩
abbrev s_law_odd : Stmt := topS 26
abbrev N_law_odd : List Str := ["box", "text", "way", "at"]
theorem sc_law_odd : FnScope N_law_odd ["box", "text"] (defScope s_law_odd) := ⟨rfl, rfl, rfl, by decide +kernel, rfl, by decide +kernel, by decide +kernel⟩
abbrev s_law_refused_right : Stmt := topS 27
abbrev N_law_refused_right : List Str := ["box", "first", "second", "one_odd", "other_odd", "which", "row", "pair", "value", "told", "odd"]
theorem sc_law_refused_right : FnScope N_law_refused_right ["box", "first", "second"] (defScope s_law_refused_right) := ⟨rfl, rfl, rfl, by decide +kernel, rfl, by decide +kernel, by decide +kernel⟩
abbrev s_law : Stmt := topS 28
abbrev N_law : List Str := ["script", "k", "box", "first", "second"]
theorem sc_law : FnScope N_law ["script"] (defScope s_law) := ⟨rfl, rfl, rfl, by decide +kernel, rfl, by decide +kernel, by decide +kernel⟩
structure Txt (K : PySem.W.Frag) (mg : Str → Option Value) where
  f_is_text : Addr
  fd_is_text : FuncData
  F_is_text : Fun K "is_text" "is_text" s_is_text f_is_text fd_is_text
  b_is_text : Binds K fd_is_text ["value"] []
  g_is_text : mg "is_text" = some (.ref f_is_text)
  f_changes_between : Addr
  fd_changes_between : FuncData
  F_changes_between : Fun K "changes_between" "changes_between" s_changes_between f_changes_between fd_changes_between
  b_changes_between : Binds K fd_changes_between ["one", "other"] []
  g_changes_between : mg "changes_between" = some (.ref f_changes_between)
  f_places_of : Addr
  fd_places_of : FuncData
  F_places_of : Fun K "places_of" "places_of" s_places_of f_places_of fd_places_of
  b_places_of : Binds K fd_places_of ["pattern"] []
  g_places_of : mg "places_of" = some (.ref f_places_of)
  f_column_behind : Addr
  fd_column_behind : FuncData
  F_column_behind : Fun K "column_behind" "column_behind" s_column_behind f_column_behind fd_column_behind
  b_column_behind : Binds K fd_column_behind ["up", "down", "letters", "places", "whole"] []
  g_column_behind : mg "column_behind" = some (.ref f_column_behind)
  f_ones : Addr
  fd_ones : FuncData
  F_ones : Fun K "ones" "ones" s_ones f_ones fd_ones
  b_ones : Binds K fd_ones ["bits"] []
  g_ones : mg "ones" = some (.ref f_ones)
  f_check_texts : Addr
  fd_check_texts : FuncData
  F_check_texts : Fun K "check_texts" "check_texts" s_check_texts f_check_texts fd_check_texts
  b_check_texts : Binds K fd_check_texts ["one", "other"] []
  g_check_texts : mg "check_texts" = some (.ref f_check_texts)
  f_length_of_root : Addr
  fd_length_of_root : FuncData
  F_length_of_root : Fun K "length_of_root" "length_of_root" s_length_of_root f_length_of_root fd_length_of_root
  b_length_of_root : Binds K fd_length_of_root ["text"] []
  g_length_of_root : mg "length_of_root" = some (.ref f_length_of_root)
  f_round_price : Addr
  fd_round_price : FuncData
  F_round_price : Fun K "round_price" "round_price" s_round_price f_round_price fd_round_price
  b_round_price : Binds K fd_round_price ["one", "other"] []
  g_round_price : mg "round_price" = some (.ref f_round_price)
  f_law_cell : Addr
  fd_law_cell : FuncData
  F_law_cell : Fun K "_law_cell" "_law_cell" s_law_cell f_law_cell fd_law_cell
  b_law_cell : Binds K fd_law_cell ["script", "k"] []
  g_law_cell : mg "_law_cell" = some (.ref f_law_cell)
  f_law_box : Addr
  fd_law_box : FuncData
  F_law_box : Fun K "_law_box" "_law_box" s_law_box f_law_box fd_law_box
  b_law_box : Binds K fd_law_box ["great"] []
  g_law_box : mg "_law_box" = some (.ref f_law_box)
  f_law_take : Addr
  fd_law_take : FuncData
  F_law_take : Fun K "_law_take" "_law_take" s_law_take f_law_take fd_law_take
  b_law_take : Binds K fd_law_take ["box", "many"] []
  g_law_take : mg "_law_take" = some (.ref f_law_take)
  f_law_turned : Addr
  fd_law_turned : FuncData
  F_law_turned : Fun K "_law_turned" "_law_turned" s_law_turned f_law_turned fd_law_turned
  b_law_turned : Binds K fd_law_turned ["box", "text"] []
  g_law_turned : mg "_law_turned" = some (.ref f_law_turned)
  f_law_changed : Addr
  fd_law_changed : FuncData
  F_law_changed : Fun K "_law_changed" "_law_changed" s_law_changed f_law_changed fd_law_changed
  b_law_changed : Binds K fd_law_changed ["box", "letters", "text"] []
  g_law_changed : mg "_law_changed" = some (.ref f_law_changed)
  f_law_texts : Addr
  fd_law_texts : FuncData
  F_law_texts : Fun K "_law_texts" "_law_texts" s_law_texts f_law_texts fd_law_texts
  b_law_texts : Binds K fd_law_texts ["box"] []
  g_law_texts : mg "_law_texts" = some (.ref f_law_texts)
  f_law_table : Addr
  fd_law_table : FuncData
  F_law_table : Fun K "_law_table" "_law_table" s_law_table f_law_table fd_law_table
  b_law_table : Binds K fd_law_table ["first", "second"] []
  g_law_table : mg "_law_table" = some (.ref f_law_table)
  f_law_least : Addr
  fd_law_least : FuncData
  F_law_least : Fun K "_law_least" "_law_least" s_law_least f_law_least fd_law_least
  b_law_least : Binds K fd_law_least ["first", "second"] []
  g_law_least : mg "_law_least" = some (.ref f_law_least)
  f_law_met : Addr
  fd_law_met : FuncData
  F_law_met : Fun K "_law_met" "_law_met" s_law_met f_law_met fd_law_met
  b_law_met : Binds K fd_law_met ["which", "first", "second"] []
  g_law_met : mg "_law_met" = some (.ref f_law_met)
  f_law_right : Addr
  fd_law_right : FuncData
  F_law_right : Fun K "_law_right" "_law_right" s_law_right f_law_right fd_law_right
  b_law_right : Binds K fd_law_right ["box", "first", "second"] []
  g_law_right : mg "_law_right" = some (.ref f_law_right)
  f_law_odd : Addr
  fd_law_odd : FuncData
  F_law_odd : Fun K "_law_odd" "_law_odd" s_law_odd f_law_odd fd_law_odd
  b_law_odd : Binds K fd_law_odd ["box", "text"] []
  g_law_odd : mg "_law_odd" = some (.ref f_law_odd)
  f_law_refused_right : Addr
  fd_law_refused_right : FuncData
  F_law_refused_right : Fun K "_law_refused_right" "_law_refused_right" s_law_refused_right f_law_refused_right fd_law_refused_right
  b_law_refused_right : Binds K fd_law_refused_right ["box", "first", "second"] []
  g_law_refused_right : mg "_law_refused_right" = some (.ref f_law_refused_right)
  f_law : Addr
  fd_law : FuncData
  F_law : Fun K "law" "law" s_law f_law fd_law
  b_law : Binds K fd_law ["script"] []
  g_law : mg "law" = some (.ref f_law)
  z_abs : mg "abs" = none
  z_int : mg "int" = none
  z_isinstance : mg "isinstance" = none
  z_len : mg "len" = none
  z_list : mg "list" = none
  z_max : mg "max" = none
  z_min : mg "min" = none
  z_range : mg "range" = none
  z_repr : mg "repr" = none
  z_str : mg "str" = none
  z_sum : mg "sum" = none
  C_InvalidText : Addr
  i_InvalidText : Addr
  e_InvalidText : ErrX.ETxt K mg "InvalidText" "InvalidText.__init__" C_InvalidText i_InvalidText
  x_InvalidText : PySem.W.exmOne K (.ref C_InvalidText) (.ref C_InvalidText) = some true
end My

set_option Elab.async false
set_option linter.all false
set_option maxRecDepth 100000
set_option maxHeartbeats 8000000
namespace My
open PySem PySem.Spec PyProof.Rows L2
section
variable {P : Program} {w : World} {K : PySem.W.Frag} {mg : Str → Option Value} {base : Heap}
/-! ### is_text -/
def isT (z : Str) : Bool := (cs z).all low
def spIsText (K : PySem.W.Frag) : Sp := fun vs H Q _ => ∃ x, vs = [x] ∧ ((∃ z, x = .str z ∧ Q (.bl (isT z)) H) ∨ ∃ t, TyX K H x (.type t) ∧ kitB t "str" = some false ∧ Q (.bl false) H)
theorem ok_is_text (T : Txt K mg) : FnOk P w K mg base CX0 1 T.f_is_text T.fd_is_text ["value"] (spIsText K) := by
  refine T.F_is_text.ok sc_is_text (fun vs H Q E h => ?_) (fun cdv A outer s H vs Q E hr h => ?_)
  · obtain ⟨x, rfl, _⟩ := h; rfl
  · obtain ⟨x, rfl, h⟩ := h
    refine ⟨_, (pss_cons (ps_if (pt_not (pt_val (pe_callB call_isi (by rfl) T.z_isinstance (by decide +kernel) (pa_cons (pv 0) (pa_cons (pe_bltn (v := .ty "str") (u := .type "str") (by rfl) T.z_str (by decide +kernel) rfl) pa_nil))))) (pss_one (ps_ret pe_bl)) pss_nil)
      (pss_one (ps_ret (pe_or (pe_cmpR op_eq (pv 0) pe_str (nomark _)) (pe_one (pe_and (pe_bm0 PySem.F.plainAttrs_str PySem.F.slot_str_isascii PySem.F.type_str_isascii mt_isascii (pv 0)) (pe_and (pe_bm0 PySem.F.plainAttrs_str PySem.F.slot_str_isalpha PySem.F.type_str_isalpha mt_isalpha (pv 0)) (pe_one (pe_bm0 PySem.F.plainAttrs_str PySem.F.slot_str_islower PySem.F.type_str_islower mt_islower (pv 0)))))))))), ?_⟩
    rcases h with ⟨z, rfl, q⟩ | ⟨t, ty, kb, q⟩
    · refine ⟨_, rfl, _, _, _, _, true, rfl, .ty _, .base (.str z), kit_ty (by decide +kernel), true, rfl, iteF ?_⟩
      refine ⟨_, rfl, rfl, _, rfl, ?_⟩
      have e := istext_eq z
      cases h0 : decide (V.str z = V.str (Str.ofString "")) with
      | true =>
        rw [h0, Bool.true_or] at e
        refine iteT ?_
        unfold isT at q
        rw [← e] at q
        exact q
      | false =>
        rw [h0, Bool.false_or] at e
        have e2 : (Txt.isascii z && (Txt.isalpha z && Txt.islower z)) = isT z := by rw [← Bool.and_assoc]; exact e
        refine iteF ⟨_, rfl, rfl, z, rfl, rfl, trivial, _, rfl, ?_⟩
        cases h1 : Txt.isascii z with
        | false => rw [h1] at e2; rw [← e2] at q; exact iteF q
        | true =>
          rw [h1, Bool.true_and] at e2
          refine iteT ⟨_, rfl, rfl, z, rfl, rfl, trivial, _, rfl, ?_⟩
          cases h2 : Txt.isalpha z with
          | false => rw [h2] at e2; rw [← e2] at q; exact iteF q
          | true =>
            rw [h2, Bool.true_and] at e2
            rw [← e2] at q
            exact iteT ⟨_, rfl, rfl, z, rfl, rfl, trivial, q⟩
    · refine ⟨_, rfl, _, _, _, _, false, rfl, .ty _, ty, kit_ty kb, false, rfl, iteT ?_⟩
      exact q
/-! ### longer -/
def Big (u : List Nat) : Prop := u.length ≤ 100000
theorem Big.fits {u : List Nat} (h : Big u) : (S u).length ≤ sizeLine := by rw [S_len]; exact Nat.le_trans h (by decide)
theorem Big.lt {n : Nat} (h : n ≤ 100000) : n < sizeLine := Nat.lt_of_le_of_lt h (by decide)
/-! ### check_texts -/
/-- whether a value is a text, as is_text says -/
def Jd (K : PySem.W.Frag) (H : Hp) (x : V) (b : Bool) : Prop := (∃ z, x = .str z ∧ b = isT z) ∨ ∃ t, TyX K H x (.type t) ∧ kitB t "str" = some false ∧ b = false
/-- an InvalidText of x -/
def Bad (C : Addr) (H : Hp) (x : V) (E : XK) : Prop := ∀ d H', Same H H' → H d = none → H' d = some (.xd (gvn x)) → E (.ref C) (some d) H'
def spCheck (K : PySem.W.Frag) (C : Addr) : Sp := fun vs H Q E => ∃ x y bx b2, vs = [x, y] ∧ Jd K H x bx ∧ Jd K H y b2 ∧ (∀ t, H t = none → Jd K (upd H t (.tup [x, y])) x bx ∧ Jd K (upd H t (.tup [x, y])) y b2) ∧
  (bx = false → Bad C H x E) ∧ (bx = true → b2 = false → Bad C H y E) ∧ (bx = true → b2 = true → ∀ H', Same H H' → Q .non H')
theorem ok_check_texts (T : Txt K mg) : FnOk P w K mg base (L2.CX P w) 3 T.f_check_texts T.fd_check_texts ["one", "other"] (spCheck K T.C_InvalidText) := by
  refine T.F_check_texts.okX sc_check_texts (fun vs H Q E h => ?_) (fun cdv A outer s H vs Q E hr h => ?_)
  · obtain ⟨x, y, _, _, rfl, _⟩ := h; rfl
  · obtain ⟨x, y, bx, b2, rfl, _, _, hj, kX, kY, kQ⟩ := h
    refine ⟨_, (pss_one (ps_for (passes_of rfl) rfl (pi_tup (pe_tup (pa_cons (pv 0) (pa_cons (pv 1) pa_nil)))) (pg_name (i := 2) sc_check_texts.nd rfl (Or.inl rfl)) (pss_one (ps_if (pt_not (pt_val (pe_call (ok_is_text T) (hr.mono (by decide)) rfl T.g_is_text T.F_is_text.kp T.b_is_text .nil pass0 (pa_cons (pv 2) pa_nil)))) (pss_one (ps_raiseE rfl T.e_InvalidText hr (takes_of rfl rfl rfl rfl) (pa_cons (pv 2) pa_nil))) pss_nil)))), ?_⟩
    refine ⟨_, rfl, _, rfl, (by show 2 ≤ sizeLine; decide), fun t ht => ?_⟩
    obtain ⟨jx, jy⟩ := hj t ht
    have st : Same H (upd H t (.tup [x, y])) := fun b o e => by rw [upd_ne (ne_of_none e ht)]; exact e
    refine ⟨t, rfl, ⟨_, SqT.of upd_same⟩, for_tup (K := K) (a := t) (xs := [x, y]) (fun i σ H' => ∃ x2, σ = [some x, some y, x2] ∧ H' = upd H t (.tup [x, y]) ∧ (1 ≤ i → bx = true) ∧ (2 ≤ i → b2 = true))
      ⟨none, rfl, rfl, fun z => by omega, fun z => by omega⟩ (fun i σ H' _ ⟨_, _, e, _⟩ => by rw [e]; exact SqT.of upd_same) ?_ ?_⟩
    · rintro i z σ H' hz ⟨x2, rfl, rfl, h1, h2⟩
      have step : ∀ (z : V) (b : Bool) (N : L2.St → Hp → Prop), Jd K (upd H t (.tup [x, y])) z b → (b = false → Bad T.C_InvalidText H z E) → (b = true → N [some x, some y, some z] (upd H t (.tup [x, y]))) →
          tIfS (tNot (tB (tCall (spIsText K) [] E0 (tCons (tVar 2) tNil)))) (tRaiseE T.C_InvalidText (fun cls d _ H => E cls d H) (tCons (tVar 2) tNil)) tNext
            { nx := N, rt := Q, bk := fun σ' H' => Q .non H', ct := N } [some x, some y, some z] (upd H t (.tup [x, y])) := by
        intro z b N jz kb kn
        have raise_ : b = false → tRaiseE T.C_InvalidText (fun cls d _ H => E cls d H) (tCons (tVar 2) tNil) { nx := N, rt := Q, bk := fun σ' H' => Q .non H', ct := N } [some x, some y, some z] (upd H t (.tup [x, y])) := fun e => by
          refine ⟨_, rfl, z, rfl, fun d hd => ?_⟩
          have hdn : H d = none := st.free hd
          exact kb e d _ (fun b o q => by rw [upd_ne (ne_of_none (st b o q) hd)]; exact st b o q) hdn upd_same
        rcases jz with ⟨s, rfl, rfl⟩ | ⟨ty, h1, h2, rfl⟩
        · refine ⟨_, rfl, _, rfl, .inl ⟨s, rfl, _, rfl, ?_⟩⟩
          cases e : isT s with
          | true => exact iteF (kn e)
          | false => exact iteT (raise_ e)
        · exact ⟨_, rfl, _, rfl, .inr ⟨ty, h1, h2, _, rfl, iteT (raise_ rfl)⟩⟩
      match i, hz with
      | 0, hz =>
        obtain rfl : x = z := Option.some.inj hz
        exact step x bx _ jx kX fun e => ⟨_, rfl, rfl, fun _ => e, fun z => by omega⟩
      | 1, hz =>
        obtain rfl : y = z := Option.some.inj hz
        have e1 := h1 (Nat.le_refl _)
        exact step y b2 _ jy (kY e1) fun e => ⟨_, rfl, rfl, fun _ => e1, fun _ => e⟩
      | i + 2, hz => simp at hz
    · rintro σ H' ⟨x2, rfl, rfl, h1, h2⟩
      exact kQ (h1 (by show 1 ≤ 2; omega)) (h2 (by show 2 ≤ 2; omega)) _ st
end
end My

set_option Elab.async false
set_option linter.all false
set_option maxRecDepth 100000
set_option maxHeartbeats 8000000
namespace My
open PySem PySem.Spec PyProof.Rows L2
/-! ### columns of bits -/
theorem through2 {t : TE} {σ : L2.St} {H : Hp} {Q : VK} (R : V → Hp → Prop) (h : ∀ Q' : VK, (∀ v H', R v H' → Q' v H') → t σ H Q') (rest : ∀ v H', R v H' → Q v H') : t σ H Q := h Q rest
theorem Same.new {q : Addr} {H H' : Hp} {o : HO} (k : Same H H') (h : H' q = none) : Same H (upd H' q o) := fun b ob e => by
  rw [upd_ne (ne_of_none (k b ob e) h)]; exact k b ob e
/-- for each letter the bits of its places among the first j -/
def Plc (kvs : List (Key × V)) (p : List Nat) (j : Nat) : Prop := kvs.length ≤ j ∧ ∀ c : Nat, ∃ n : Nat, (valV kvs (.inr ⟨#[c]⟩)).getD (.int 0) = .int (n : Nat) ∧ n < 2 ^ j ∧ ∀ i, n.testBit i = decide (i < j ∧ p[i]? = some c)
theorem Plc.nil (p : List Nat) : Plc [] p 0 := ⟨Nat.le_refl _, fun c => ⟨0, rfl, by decide, fun i => by rw [Nat.zero_testBit]; simp⟩⟩
theorem Plc.step {kvs : List (Key × V)} {p : List Nat} {j c n : Nat} (h : Plc kvs p j) (hc : p[j]? = some c) (hn : (valV kvs (.inr ⟨#[c]⟩)).getD (.int 0) = .int (n : Nat)) : Plc (putK kvs (.inr ⟨#[c]⟩) (.int ((n ||| 2 ^ j : Nat) : Int))) p (j + 1) := by
  obtain ⟨hl, h⟩ := h
  refine ⟨Nat.le_trans (length_putK kvs _ _) (by omega), fun x => ?_⟩
  rw [valV_put]
  have two : 2 ^ j < 2 ^ (j + 1) := by rw [Nat.pow_succ]; have := Nat.two_pow_pos j; omega
  by_cases e : x = c
  · subst e
    rw [if_pos rfl]
    obtain ⟨m, e1, l1, b1⟩ := h x
    have : m = n := by rw [e1] at hn; have := V.int.inj hn; omega
    subst this
    refine ⟨m ||| 2 ^ j, rfl, Nat.or_lt_two_pow (by omega) two, fun i => ?_⟩
    rw [Nat.testBit_or, b1, Nat.testBit_two_pow]
    by_cases q : j = i
    · subst q; simp [hc]
    · rw [decide_eq_false q, Bool.or_false]
      by_cases l : i < j
      · simp [l, Nat.lt_succ_of_lt l]
      · have l2 : ¬ i < j + 1 := by omega
        simp [l, l2]
  · have ne : (Sum.inr (⟨#[x]⟩ : Str) : Key) ≠ .inr ⟨#[c]⟩ := fun z => e (by
      have := Sum.inr.inj z
      injection this with this
      injection this with this
      injection this)
    rw [if_neg ne]
    obtain ⟨m, e1, l1, b1⟩ := h x
    refine ⟨m, e1, by omega, fun i => ?_⟩
    rw [b1]
    by_cases q : i = j
    · subst q
      have : p[i]? ≠ some x := by rw [hc]; intro z; exact e (Option.some.inj z).symm
      simp [this]
    · have l : i < j ↔ i < j + 1 := by omega
      simp [l]
section
variable {P : Program} {w : World} {K : PySem.W.Frag} {mg : Str → Option Value} {base : Heap}
def spPlaces : Sp := fun vs H Q _ => ∃ p : List Nat, vs = [.str (S p)] ∧ p.length ≤ 50 ∧ ∀ q kvs, H q = none → Plc kvs p p.length → Q (.ref q) (upd H q (.dK kvs))
theorem ok_places_of (T : Txt K mg) : FnOk P w K mg base CX0 1 T.f_places_of T.fd_places_of ["pattern"] spPlaces := by
  refine T.F_places_of.ok sc_places_of (fun vs H Q E h => ?_) (fun cdv A outer s H vs Q E hr h => ?_)
  · obtain ⟨p, rfl, _⟩ := h; rfl
  · obtain ⟨p, rfl, hp, k⟩ := h
    refine ⟨_, (pss_cons (ps_set (i := 1) sc_places_of.nd rfl (Or.inl rfl) pe_dnewK)
      (pss_cons (ps_set (i := 2) sc_places_of.nd rfl (Or.inl rfl) pe_int)
      (pss_cons (ps_for PassesOwn.never rfl (pi_str (pv 0)) (pg_name (i := 3) sc_places_of.nd rfl (Or.inl rfl)) (pss_cons (ps_dput (hu_of hr) (pv 1) (pv 3) (pe_op op_or (pe_dget2 (hu_of hr) (pv 1) (pv 3) pe_int ⟨rfl, rfl, rfl, rfl⟩) (pv 2)) rfl)
      (pss_one (ps_set (i := 2) sc_places_of.nd rfl (Or.inl rfl) (pe_op op_shl (pv 2) pe_int)))))
      (pss_one (ps_ret (pv 1)))))), ?_⟩
    intro q hq
    refine ⟨_, rfl, _, rfl, for_it walk_str (n := p.length) (fun i σ H' => ∃ kvs x3, σ = [some (.str (S p)), some (.ref q), some (.int ((2 ^ i : Nat) : Int)), x3] ∧ H' = upd H q (.dK kvs) ∧ Plc kvs p i) ⟨[], none, rfl, rfl, Plc.nil p⟩ (fun _ _ _ _ _ => trivial) ?_ ?_⟩
    · rintro i x σ H1 H2 hi ⟨kvs, x3, rfl, rfl, hk⟩ ⟨rfl, c, gc, rfl⟩
      obtain ⟨n, en, ln, bn⟩ := hk.2 c
      have gc' : p[i]? = some c := by simpa [S] using gc
      have h2 : (2 : Nat) ^ i < 2 ^ 64 := Nat.pow_lt_pow_right (by omega) (by omega)
      refine ⟨_, rfl, q, rfl, .inl ⟨_, .inl upd_same⟩, _, rfl, _, DGet.k (k := .inr ⟨#[c]⟩) upd_same, ?_⟩
      rw [en]
      refine ⟨_, rfl, _, _, rfl, rfl, ?_⟩
      have hst : Plc (putK kvs (.inr ⟨#[c]⟩) (.int (Builtin.bitOr (n : Int) ((2 ^ i : Nat) : Int)))) p (i + 1) := by rw [Cols.or_nat]; exact hk.step gc' en
      refine ⟨_, rfl, _, rfl, q, _, rfl, DPut.k (k := .inr ⟨#[c]⟩) upd_same (Nat.lt_of_le_of_lt hk.1 (Nat.lt_of_lt_of_le (by omega : i < 10000) (by decide))), ?_⟩
      refine ⟨_, rfl, _, _, rfl, rfl, ⟨by omega, by omega, by omega⟩, _, some (.str ⟨#[c]⟩), ?_, upd_upd, hst⟩
      have e2 : ((2 ^ i : Nat) : Int) * 2 ^ (1 : Int).toNat = ((2 ^ (i + 1) : Nat) : Int) := by
        rw [Nat.pow_succ, Int.natCast_mul]; rfl
      show [some (V.str (S p)), some (V.ref q), some (V.int (((2 ^ i : Nat) : Int) * 2 ^ (1 : Int).toNat)), _] = _
      rw [e2]
    · rintro σ H1 ⟨kvs, x3, rfl, rfl, hk⟩
      exact ⟨_, rfl, k q kvs hq hk⟩
def spColumn : Sp := fun vs H Q _ => ∃ (p t : List Nat) (q : Addr) (kvs : List (Key × V)), vs = [.int (2 ^ p.length - 1), .int 0, .str (S t), .ref q, .int (2 ^ p.length - 1)] ∧ p.length ≤ 50 ∧ H q = some (.dK kvs) ∧ Plc kvs p p.length ∧
  ∀ (u d : Nat) a, Cols.At p t t.length u d → H a = none → Q (.ref a) (upd H a (.tup [.int u, .int d]))
theorem ok_column_behind (T : Txt K mg) : FnOk P w K mg base CX0 1 T.f_column_behind T.fd_column_behind ["up", "down", "letters", "places", "whole"] spColumn := by
  refine T.F_column_behind.ok sc_column_behind (fun vs H Q E h => ?_) (fun cdv A outer s H vs Q E hr h => ?_)
  · obtain ⟨p, t, q, kvs, rfl, _⟩ := h; rfl
  · obtain ⟨p, t, q, kvs, rfl, hp, hq, hk, k⟩ := h
    refine ⟨_, (pss_cons (ps_for PassesOwn.never rfl (pi_str (pv 2)) (pg_name (i := 5) sc_column_behind.nd rfl (Or.inl rfl)) (pss_cons (ps_set (i := 6) sc_column_behind.nd rfl (Or.inl rfl) (pe_dget2 (hu_of hr) (pv 3) (pv 5) pe_int ⟨rfl, rfl, rfl, rfl⟩))
      (pss_cons (ps_set (i := 7) sc_column_behind.nd rfl (Or.inl rfl) (pe_op op_or (pe_op op_or (pe_op op_xor (pe_op op_add (pe_op op_and (pv 6) (pv 0)) (pv 0)) (pv 0)) (pv 6)) (pv 1)))
      (pss_cons (ps_set (i := 8) sc_column_behind.nd rfl (Or.inl rfl) (pe_op op_or (pe_op op_shl (pe_op op_or (pv 1) (pe_un un_inv (pe_op op_or (pv 7) (pv 0)))) pe_int) pe_int))
      (pss_cons (ps_set (i := 9) sc_column_behind.nd rfl (Or.inl rfl) (pe_op op_shl (pe_op op_and (pv 7) (pv 0)) pe_int))
      (pss_cons (ps_set (i := 0) sc_column_behind.nd rfl (Or.inl rfl) (pe_op op_and (pe_op op_or (pv 9) (pe_un un_inv (pe_op op_or (pv 7) (pv 8)))) (pv 4)))
      (pss_one (ps_set (i := 1) sc_column_behind.nd rfl (Or.inl rfl) (pe_op op_and (pe_op op_and (pv 7) (pv 8)) (pv 4))))))))))
      (pss_one (ps_ret (pe_tup (pa_cons (pv 0) (pa_cons (pv 1) pa_nil)))))), ?_⟩
    have w0 : (2 : Int) ^ p.length - 1 = ((2 ^ p.length - 1 : Nat) : Int) := by
      have := Nat.two_pow_pos p.length
      rw [Int.natCast_sub (by omega)]
      simp
    refine ⟨_, rfl, _, rfl, for_it walk_str (n := t.length) (fun i σ H' => ∃ (u d : Nat) (x5 x6 x7 x8 x9 : Option V), σ = [some (.int u), some (.int d), some (.str (S t)), some (.ref q), some (.int (2 ^ p.length - 1)), x5, x6, x7, x8, x9] ∧ H' = H ∧ Cols.At p t i u d) ⟨2 ^ p.length - 1, 0, none, none, none, none, none, ?_, rfl, Cols.At.start p t⟩ (fun _ _ _ _ _ => trivial) ?_ ?_⟩
    · rw [w0]; rfl
    · rintro i x σ H1 H2 hi ⟨u, d, x5, x6, x7, x8, x9, rfl, rfl, hat⟩ ⟨rfl, c, gc, rfl⟩
      have gc' : t[i]? = some c := by simpa [S] using gc
      obtain ⟨n, en, ln, bn⟩ := hk.2 c
      refine ⟨_, rfl, q, rfl, .inl ⟨_, .inl hq⟩, _, rfl, _, DGet.k (k := .inr ⟨#[c]⟩) hq, ?_⟩
      rw [en]
      have lu := hat.2.1
      have ld := hat.2.2
      have t1 : (2 : Nat) ^ p.length < 2 ^ (p.length + 1) := by rw [Nat.pow_succ]; have := Nat.two_pow_pos p.length; omega
      have t2 : (2 : Nat) ^ (p.length + 1) ≤ 2 ^ 51 := Nat.pow_le_pow_right (by omega) (by omega)
      have t3 : (2 : Nat) ^ (p.length + 1) = 2 ^ p.length + 2 ^ p.length := by rw [Nat.pow_succ]; omega
      -- level
      refine ⟨_, rfl, _, rfl, _, _, rfl, rfl, _, rfl, _, _, rfl, rfl, _, rfl, _, _, rfl, rfl, _, rfl, _, _, rfl, rfl, _, rfl, _, _, rfl, rfl, ?_⟩
      have la : n &&& u ≤ u := Nat.and_le_right
      have elev : Builtin.bitOr (Builtin.bitOr (Builtin.bitXor (Builtin.bitAnd (n : Int) u + u) u) n) d = (((((n &&& u) + u) ^^^ u) ||| n ||| d : Nat) : Int) := by
        rw [Cols.and_natn, show ((n &&& u : Nat) : Int) + (u : Int) = (((n &&& u) + u : Nat) : Int) by omega, Cols.xor_nat, Cols.or_nat, Cols.or_nat]
      obtain ⟨lev, hlev⟩ : ∃ lev : Nat, lev = (((n &&& u) + u) ^^^ u) ||| n ||| d := ⟨_, rfl⟩
      have llev : lev < 2 ^ (p.length + 1) := by
        rw [hlev]
        exact Nat.or_lt_two_pow (Nat.or_lt_two_pow (Nat.xor_lt_two_pow (by omega) (by omega)) (by omega)) (by omega)
      have elev2 : Builtin.bitOr (Builtin.bitOr (Builtin.bitXor (Builtin.bitAnd (n : Int) u + u) u) n) d = (lev : Int) := by rw [elev, hlev]
      show gName 7 (V.int (Builtin.bitOr (Builtin.bitOr (Builtin.bitXor (Builtin.bitAnd (n : Int) u + u) u) n) d)) _ _ _
      rw [elev2]
      -- raised
      have lor : (lev ||| u) < 2 ^ (p.length + 1) := Nat.or_lt_two_pow llev (by omega)
      have rb : Builtin.bitOr (d : Int) (Builtin.bitNot ((lev ||| u : Nat) : Int)) = Builtin.bitNot (Builtin.bitAnd (Builtin.bitNot d) ((lev ||| u : Nat) : Int)) := by
        unfold Builtin.bitOr
        congr 2
        unfold Builtin.bitNot
        omega
      have rr := PyProof.Rows.bitAnd_range (Builtin.bitNot (d : Int)) (y := ((lev ||| u : Nat) : Int)) (by omega)
      have cb : (Builtin.bitOr (d : Int) (Builtin.bitNot (Builtin.bitOr (lev : Int) u))).natAbs < 2 ^ 64 := by
        rw [Cols.or_nat, rb]
        unfold Builtin.bitNot at rr ⊢
        omega
      refine ⟨_, rfl, _, rfl, _, rfl, _, _, rfl, rfl, _, rfl, _, _, rfl, rfl, _, _, rfl, rfl, ⟨by omega, by omega, cb⟩, _, _, rfl, rfl, ?_⟩
      -- lowered
      have cb2 : (Builtin.bitAnd (lev : Int) u).natAbs < 2 ^ 64 := by
        rw [Cols.and_natn]
        have : lev &&& u ≤ u := Nat.and_le_right
        omega
      refine ⟨_, rfl, _, rfl, _, _, rfl, rfl, _, _, rfl, rfl, ⟨by omega, by omega, cb2⟩, ?_⟩
      refine ⟨_, rfl, _, rfl, _, rfl, _, _, rfl, rfl, _, rfl, _, _, rfl, rfl, _, rfl, _, _, rfl, rfl, ?_⟩
      refine ⟨_, rfl, _, rfl, _, _, rfl, rfl, _, rfl, _, _, rfl, rfl, ?_⟩
      obtain ⟨u2, d2, eu, ed, hat2⟩ := hat.step (same := n) (fun j hj => by rw [Cols.B_nat, bn j, gc']; simp [hj]) elev2.symm rfl rfl rfl rfl
      refine ⟨u2, d2, some (.str ⟨#[c]⟩), some (.int n), some (.int lev), some (.int (Builtin.bitOr (Builtin.bitOr (d : Int) (Builtin.bitNot (Builtin.bitOr (lev : Int) u)) * 2 ^ Int.toNat 1) 1)), some (.int (Builtin.bitAnd (lev : Int) u * 2 ^ Int.toNat 1)), ?_, rfl, hat2⟩
      rw [← eu, ← ed]
      rfl
    · rintro σ H1 ⟨u, d, x5, x6, x7, x8, x9, rfl, rfl, hat⟩
      exact ⟨_, rfl, _, rfl, (by show 2 ≤ sizeLine; decide), fun a ha => k u d a hat ha⟩
def spOnes : Sp := fun vs H Q _ => ∃ n : Nat, vs = [.int n] ∧ n < 2 ^ 50 ∧ Q (.int (Cols.ones (Nat.toDigits 2 n) : Nat)) H
theorem toDigits_len (n : Nat) (h : n < 2 ^ 50) : (Nat.toDigits 2 n).length ≤ 100 := by
  have go : ∀ (fuel n k : Nat) (ds : List Char), n < 2 ^ k → (Nat.toDigitsCore 2 fuel n ds).length ≤ ds.length + k + 1 := by
    intro fuel
    induction fuel with
    | zero => intro n k ds _; unfold Nat.toDigitsCore; omega
    | succ fuel ih =>
      intro n k ds h
      unfold Nat.toDigitsCore
      show (if n / 2 = 0 then _ else _ : List Char).length ≤ _
      by_cases h0 : n / 2 = 0
      · rw [if_pos h0, List.length_cons]; omega
      · rw [if_neg h0]
        cases k with
        | zero => simp at h; subst h; simp at h0
        | succ k =>
          have := ih (n / 2) k (Nat.digitChar (n % 2) :: ds) (by rw [Nat.pow_succ] at h; omega)
          rw [List.length_cons] at this
          omega
  have := go (n + 1) n 50 [] h
  unfold Nat.toDigits
  simp at this
  omega
theorem cnt_ones : ∀ l : List Char, PyProof.Rows.cnt 49 (l.map Char.toNat) = (Cols.ones l : Nat)
  | [] => rfl
  | c :: l => by
    show PyProof.Rows.cnt 49 (c.toNat :: l.map Char.toNat) = _
    rw [PyProof.Rows.cnt_cons, cnt_ones l, Cols.ones_cons]
    have : (c.toNat = 49) ↔ (c == '1') = true := by
      rw [beq_iff_eq]
      constructor
      · intro h; exact Char.ext (UInt32.toNat_inj.mp h)
      · intro h; subst h; rfl
    by_cases e : c.toNat = 49
    · rw [if_pos e, if_pos (this.mp e)]; omega
    · rw [if_neg e, if_neg (fun z => e (this.mpr z))]; omega
theorem ok_ones (T : Txt K mg) : FnOk P w K mg base CX0 1 T.f_ones T.fd_ones ["bits"] spOnes := by
  refine T.F_ones.ok sc_ones (fun vs H Q E h => ?_) (fun cdv A outer s H vs Q E hr h => ?_)
  · obtain ⟨n, rfl, _⟩ := h; rfl
  · obtain ⟨n, rfl, hn, k⟩ := h
    refine ⟨_, (pss_one (ps_ret (pe_bm PySem.F.plainAttrs_str PySem.F.slot_str_count PySem.F.type_str_count mt_count (pe_joined1 (pe_fmtB (pv 0) (pe_joined1 pe_str))) (pa_cons pe_str pa_nil)))), ?_⟩
    refine ⟨_, rfl, n, rfl, ?_, rfl, _, _, rfl, rfl, ?_⟩
    · show (binS n).cps.size ≤ sizeLine
      unfold binS
      simp only [List.size_toArray, List.length_map]
      exact Nat.le_trans (toDigits_len n hn) (by decide)
    · show Q (.int (Txt.count (binS n) ⟨#[49]⟩)) H
      rw [PyProof.Rows.count_cnt]
      unfold binS
      simp only [List.toList_toArray]
      rw [cnt_ones]
      exact k
def spBetween : Sp := fun vs H Q _ => ∃ u v : List Nat, vs = [.str (S u), .str (S v)] ∧ u.length ≤ 50 ∧ v.length ≤ 50 ∧ ∀ H', Same H H' → Q (.int (Lev.D u v : Nat)) H'
theorem ok_changes_between (T : Txt K mg) : FnOk P w K mg base CX0 2 T.f_changes_between T.fd_changes_between ["one", "other"] spBetween := by
  refine T.F_changes_between.ok sc_changes_between (fun vs H Q E h => ?_) (fun cdv A outer s H vs Q E hr h => ?_)
  · obtain ⟨u, v, rfl, _⟩ := h; rfl
  · obtain ⟨u, v, rfl, hu, hv, k⟩ := h
    refine ⟨_, (pss_cons (ps_asg (pe_ifExp (pt_cmpR op_lt (pe_callB call_len_str (by rfl) T.z_len (by decide +kernel) (pa_cons (pv 0) pa_nil)) (pe_callB call_len_str (by rfl) T.z_len (by decide +kernel) (pa_cons (pv 1) pa_nil)) (nomark _)) (pe_tup (pa_cons (pv 0) (pa_cons (pv 1) pa_nil))) (pe_tup (pa_cons (pv 1) (pa_cons (pv 0) pa_nil)))) (pg_tup rfl (pgs_cons (pg_name (i := 2) sc_changes_between.nd rfl (Or.inl rfl)) (pgs_cons (pg_name (i := 3) sc_changes_between.nd rfl (Or.inl rfl)) pgs_nil))))
      (pss_cons (ps_set (i := 4) sc_changes_between.nd rfl (Or.inl rfl) (pe_op op_sub (pe_op op_shl pe_int (pe_callB call_len_str (by rfl) T.z_len (by decide +kernel) (pa_cons (pv 3) pa_nil))) pe_int))
      (pss_cons (ps_asg (pe_call (ok_column_behind T) (hr.mono (by decide)) rfl T.g_column_behind T.F_column_behind.kp T.b_column_behind .nil pass0 (pa_cons (pv 4) (pa_cons pe_int (pa_cons (pv 2) (pa_cons (pe_call (ok_places_of T) (hr.mono (by decide)) rfl T.g_places_of T.F_places_of.kp T.b_places_of .nil pass0 (pa_cons (pv 3) pa_nil)) (pa_cons (pv 4) pa_nil)))))) (pg_tup rfl (pgs_cons (pg_name (i := 5) sc_changes_between.nd rfl (Or.inl rfl)) (pgs_cons (pg_name (i := 6) sc_changes_between.nd rfl (Or.inl rfl)) pgs_nil))))
      (pss_one (ps_ret (pe_op op_sub (pe_op op_add (pe_callB call_len_str (by rfl) T.z_len (by decide +kernel) (pa_cons (pv 2) pa_nil)) (pe_call (ok_ones T) (hr.mono (by decide)) rfl T.g_ones T.F_ones.kp T.b_ones .nil pass0 (pa_cons (pv 5) pa_nil))) (pe_call (ok_ones T) (hr.mono (by decide)) rfl T.g_ones T.F_ones.kp T.b_ones .nil pass0 (pa_cons (pv 6) pa_nil)))))))), ?_⟩
    have sz : ∀ {t : List Nat}, t.length ≤ 3000 → (S t).length ≤ sizeLine := fun {t} h => by rw [S_len]; exact Nat.le_trans h (by decide)
    have two : 2 ≤ sizeLine := by decide
    refine through2 (t := tIf (tTest (tOp (rI0 fun i j => V.bl (decide (i < j))) (tCB (fun xs H Q => ∃ z : Str, xs = [V.str z] ∧ z.length ≤ sizeLine ∧ Q (V.int z.length) H) (tCons (tVar 0) tNil)) (tCB (fun xs H Q => ∃ z : Str, xs = [V.str z] ∧ z.length ≤ sizeLine ∧ Q (V.int z.length) H) (tCons (tVar 1) tNil)))) (tTup (tCons (tVar 0) (tCons (tVar 1) tNil))) (tTup (tCons (tVar 1) (tCons (tVar 0) tNil)))) (fun x H' => ∃ (t p : List Nat) (a : Addr), x = .ref a ∧ H' a = some (.tup [.str (S t), .str (S p)]) ∧ Same H H' ∧ t.length ≤ 50 ∧ p.length ≤ 50 ∧ Lev.D p t = Lev.D u v) (fun Q' rest => ?_) (fun x H' hx => ?_)
    · refine ⟨_, rfl, _, rfl, sz (by omega), _, rfl, _, rfl, sz (by omega), _, _, rfl, rfl, _, rfl, ite2 (fun _ => ?_) (fun _ => ?_)⟩
      · exact ⟨_, rfl, _, rfl, two, fun a ha => rest _ _ ⟨u, v, a, rfl, upd_same, Same.new (Same.refl H) ha, hu, hv, Lev.D_symm v u⟩⟩
      · exact ⟨_, rfl, _, rfl, two, fun a ha => rest _ _ ⟨v, u, a, rfl, upd_same, Same.new (Same.refl H) ha, hv, hu, rfl⟩⟩
    obtain ⟨t, p, a, rfl, ea, s1, ht, hp, eD⟩ := hx
    have h2 : (2 : Nat) ^ p.length ≤ 2 ^ 50 := Nat.pow_le_pow_right (by omega) hp
    refine ⟨a, _, rfl, SqT.of ea, rfl, _, _, rfl, _, _, rfl, rfl, ?_⟩
    refine ⟨_, rfl, _, rfl, sz (by omega), _, _, rfl, rfl, ⟨by omega, by rw [S_len]; omega, by decide⟩, _, _, rfl, rfl, ?_⟩
    have ew : (1 : Int) * 2 ^ ((S p).length : Int).toNat - 1 = 2 ^ p.length - 1 := by rw [S_len, Int.toNat_natCast, Int.one_mul]
    show gName 4 (V.int ((1 : Int) * 2 ^ ((S p).length : Int).toNat - 1)) _ H' _
    rw [ew]
    refine ⟨_, rfl, _, rfl, _, rfl, p, rfl, hp, fun q kvs hq hk => ?_⟩
    have s2 : Same H (upd H' q (.dK kvs)) := Same.new s1 hq
    refine ⟨_, rfl, p, t, q, kvs, rfl, hp, upd_same, hk, fun x d b hat hb => ?_⟩
    have s3 : Same H (upd (upd H' q (.dK kvs)) b (.tup [.int x, .int d])) := Same.new s2 hb
    refine ⟨b, _, rfl, SqT.of upd_same, rfl, _, _, rfl, _, _, rfl, rfl, ?_⟩
    have lx := hat.2.1
    have ld := hat.2.2
    refine ⟨_, rfl, _, rfl, sz (by omega), _, rfl, x, rfl, by omega, _, _, rfl, rfl, _, rfl, d, rfl, by omega, _, _, rfl, rfl, ?_⟩
    have e := hat.done
    have ee : ((S t).length : Int) + ((Cols.ones (Nat.toDigits 2 x) : Nat) : Int) - ((Cols.ones (Nat.toDigits 2 d) : Nat) : Int) = ((Lev.D u v : Nat) : Int) := by rw [S_len, e, eD]
    show Q (.int (((S t).length : Int) + ((Cols.ones (Nat.toDigits 2 x) : Nat) : Int) - ((Cols.ones (Nat.toDigits 2 d) : Nat) : Int))) _
    rw [ee]
    exact k _ s3
end
end My

set_option Elab.async false
set_option linter.all false
set_option maxRecDepth 100000
set_option maxHeartbeats 8000000
namespace Lev
theorem double_at {u v : List Nat} {k : Nat} (hl : v.length = u.length) : L2.AtL (u ++ u) v k ↔ k ≤ u.length ∧ rot k u = v := by
  unfold L2.AtL rot
  rw [hl, List.length_append]
  have e : k ≤ u.length → ((u ++ u).drop k).take u.length = u.drop k ++ u.take k := fun h => by
    rw [List.drop_append_of_le_length h, List.take_append, List.take_of_length_le (by rw [List.length_drop]; omega), List.length_drop, show u.length - (u.length - k) = k by omega]
  constructor
  · rintro ⟨h1, h2⟩
    have hk : k ≤ u.length := by omega
    exact ⟨hk, by rw [← e hk]; exact h2⟩
  · rintro ⟨h1, h2⟩
    exact ⟨by omega, by rw [e h1]; exact h2⟩
/-- the first place from 1 on where a text stands in two rounds of it -/
theorem find_rho {u : List Nat} (hu : u ≠ []) {r : Int} (h : L2.FindL (u ++ u) u 1 r) : r = (rho u : Nat) := by
  have hl := List.length_pos_iff.mpr hu
  rcases h with ⟨i, rfl, h1, h2, h3⟩ | ⟨_, h⟩
  · obtain ⟨a, b⟩ := (double_at rfl).mp h2
    rw [rho_eq hu h1 ((rot_eq a rfl).mp b) fun t t0 t1 p => h3 t t0 t1 ((double_at rfl).mpr ⟨by omega, (rot_eq (by omega) rfl).mpr p⟩)]
  · exact absurd ((double_at rfl).mpr ⟨Nat.le_refl _, (rot_eq (Nat.le_refl _) rfl).mpr (Pr.whole u)⟩) (h u.length hl)
end Lev
namespace Lev
theorem D_front {u y : List Nat} {x : Nat} : D u (x :: y) ≤ D u (y ++ [x]) + 2 := by
  obtain ⟨v1, v2, c1, c2, e, a1, a2, ec⟩ := (D_A u (y ++ [x])).symm.split y [x] rfl
  have l := a2.lens
  have h := ((A.drops [x]).append a1).append (A.adds v2)
  have h2 : A u (x :: y) ([x].length + c1 + v2.length) := h.symm.cast (by rw [e]; rfl) (by simp) rfl
  have := D_le h2
  simp at this l
  omega
end Lev
namespace My
open PySem PySem.Spec PyProof.Rows L2
/-! ### turns by their places -/
def rot (k : Nat) (v : List Nat) : List Nat := v.drop k ++ v.take k
theorem rot_zero (v : List Nat) : rot 0 v = v := by simp [rot]
theorem rot_len (k : Nat) (v : List Nat) : (rot k v).length = v.length := by simp [rot]; omega
theorem rot_rot {a b : Nat} {v : List Nat} (h : a + b ≤ v.length) : rot a (rot b v) = rot (b + a) v := by
  unfold rot
  rw [List.drop_append_of_le_length (by rw [List.length_drop]; omega), List.take_append_of_le_length (by rw [List.length_drop]; omega), List.drop_drop, List.append_assoc, List.take_add]
/-- the least of the first n turns -/
def LeastTo (u v : List Nat) (n r : Nat) : Prop := (∃ k, k < n ∧ Lev.D u (rot k v) = r) ∧ ∀ k, k < n → r ≤ Lev.D u (rot k v)
theorem LeastTo.rp {u v : List Nat} {n r : Nat} (h : LeastTo u v n r) (hn : v.length ≤ n) : Lev.Rp u v r := by
  obtain ⟨⟨k, _, e⟩, l⟩ := h
  refine ⟨⟨rot k v, Lev.Turn.at v k, e⟩, fun w t => ?_⟩
  obtain ⟨j, hj, rfl⟩ := Lev.turn_at t
  rcases Nat.lt_or_ge j n with q | q
  · exact l j q
  · have e0 : j = 0 ∧ n = 0 := by omega
    omega
/-- from a turn on that is the text itself the same turns come again -/
theorem LeastTo.round {u v : List Nat} {n r : Nat} (h : LeastTo u v n r) (h1 : 0 < n) (hn : n ≤ v.length) (e : rot n v = v) : Lev.Rp u v r := by
  obtain ⟨⟨k, _, ek⟩, l⟩ := h
  refine ⟨⟨rot k v, Lev.Turn.at v k, ek⟩, fun w t => ?_⟩
  obtain ⟨j, hj, rfl⟩ := Lev.turn_at t
  have key : ∀ m j, j ≤ m → j ≤ v.length → r ≤ Lev.D u (rot j v) := by
    intro m
    induction m with
    | zero => intro j hj _; exact l j (by omega)
    | succ m ih =>
      intro j hj hl
      rcases Nat.lt_or_ge j n with q | q
      · exact l j q
      · have z : rot j v = rot (j - n) v := by
          have := rot_rot (a := j - n) (b := n) (v := v) (by omega)
          rw [e, show n + (j - n) = j by omega] at this
          exact this.symm
        rw [z]
        exact ih (j - n) (by omega) (by omega)
  exact key j j (Nat.le_refl _) (by omega)
theorem rot_step {u v : List Nat} {s : Nat} (h : s < v.length) : Lev.D u (rot s v) ≤ Lev.D u (rot (s + 1) v) + 2 := by
  have e1 : rot s v = v[s] :: (v.drop (s + 1) ++ v.take s) := by
    unfold rot
    rw [List.drop_eq_getElem_cons h]; rfl
  have e2 : rot (s + 1) v = (v.drop (s + 1) ++ v.take s) ++ [v[s]] := by
    unfold rot
    rw [List.take_add_one, List.getElem?_eq_getElem h, List.append_assoc]; rfl
  rw [e1, e2]
  exact Lev.D_front
theorem rot_far {u v : List Nat} {s : Nat} : ∀ k, s + k ≤ v.length → Lev.D u (rot s v) ≤ Lev.D u (rot (s + k) v) + 2 * k
  | 0, _ => by simp
  | k + 1, h => by
    have h1 := rot_far (u := u) (v := v) (s := s) k (by omega)
    have h2 := rot_step (u := u) (v := v) (s := s + k) (by omega)
    rw [show s + (k + 1) = s + k + 1 by omega]
    omega
/-- the turns that are passed over are no better -/
theorem LeastTo.skip {u v : List Nat} {n r R : Nat} (h : LeastTo u v n r) (hR : R ≤ v.length) (hn : n < R) :
    LeastTo u v (min (n + ((Lev.D u (rot n v) - min r (Lev.D u (rot n v)) + 2) / 2)) R) (min r (Lev.D u (rot n v))) := by
  obtain ⟨⟨k, hk, ek⟩, l⟩ := h
  obtain ⟨c, hc⟩ : ∃ c, c = Lev.D u (rot n v) := ⟨_, rfl⟩
  rw [← hc]
  constructor
  · rcases Nat.le_total r c with q | q
    · exact ⟨k, by omega, by omega⟩
    · exact ⟨n, by omega, by omega⟩
  · intro j hj
    rcases Nat.lt_or_ge j n with q | q
    · have := l j q; omega
    · have := rot_far (u := u) (v := v) (s := n) (j - n) (by omega)
      rw [show n + (j - n) = j by omega, ← hc] at this
      omega
section
variable {P : Program} {w : World} {K : PySem.W.Frag} {mg : Str → Option Value} {base : Heap}
theorem Big.dbl {u : List Nat} (h : Big u) : (S u).length + (S u).length ≤ sizeLine := by
  have : u.length ≤ 100000 := h
  rw [S_len]; exact Nat.le_trans (by omega : u.length + u.length ≤ 200000) (by decide)
def spLenRoot : Sp := fun vs H Q _ => ∃ u : List Nat, vs = [.str (S u)] ∧ Big u ∧ Q (.int (Lev.rho u : Nat)) H
theorem neZ {u : List Nat} : (((S u).length : Int) != 0) = decide (u ≠ []) := by
  rw [S_len]
  by_cases h : u = []
  · subst h; rfl
  · have := List.length_pos_iff.mpr h
    rw [decide_eq_true h]
    simp only [bne_iff_ne, ne_eq]
    omega
theorem ok_length_of_root (T : Txt K mg) : FnOk P w K mg base CX0 1 T.f_length_of_root T.fd_length_of_root ["text"] spLenRoot := by
  refine T.F_length_of_root.ok sc_length_of_root (fun vs H Q E h => ?_) (fun cdv A outer s H vs Q E hr h => ?_)
  · obtain ⟨u, rfl, _⟩ := h; rfl
  · obtain ⟨u, rfl, hu, q⟩ := h
    refine ⟨_, (pss_one (ps_ret (pe_ifExp (pt_truth (pv 0) (fun _ => rfl)) (pe_bm PySem.F.plainAttrs_str PySem.F.slot_str_find PySem.F.type_str_find mt_find3 (pe_op op_add_str (pv 0) (pv 0)) (pa_cons (pv 0) (pa_cons pe_int pa_nil))) pe_int))), ?_⟩
    refine ⟨_, rfl, decide (u ≠ []), ⟨hu.fits, neZ.symm⟩, ite2 (fun c => ?_) (fun c => ?_)⟩
    · have c' : u ≠ [] := of_decide_eq_true c
      refine ⟨_, rfl, _, rfl, _, _, rfl, rfl, hu.dbl, rfl, _, rfl, _, _, _, rfl, rfl, ?_⟩
      rw [S_app]
      have e := Lev.find_rho c' (find3_FindL (u ++ u) u 1)
      show Q (.int (Txt.find3 (S (u ++ u)) (S u) 1)) H
      rw [show (1 : Int) = ((1 : Nat) : Int) from rfl, e]
      exact q
    · have c' : u = [] := Classical.byContradiction fun z => c (decide_eq_true z)
      subst c'
      exact q
def spRound (K : PySem.W.Frag) (C : Addr) : Sp := fun vs H Q E => ∃ x y bx b2, vs = [x, y] ∧ Jd K H x bx ∧ Jd K H y b2 ∧ (∀ t, H t = none → Jd K (upd H t (.tup [x, y])) x bx ∧ Jd K (upd H t (.tup [x, y])) y b2) ∧
  (bx = false → Bad C H x E) ∧ (bx = true → b2 = false → Bad C H y E) ∧
  (bx = true → b2 = true → ∃ u v : List Nat, x = .str (S u) ∧ y = .str (S v) ∧ u.length ≤ 50 ∧ v.length ≤ 50 ∧ ∀ (r : Nat) H', Same H H' → Lev.Rp u v r → Q (.int r) H')
theorem ok_round_price (T : Txt K mg) : FnOk P w K mg base (L2.CX P w) 4 T.f_round_price T.fd_round_price ["one", "other"] (spRound K T.C_InvalidText) := by
  refine T.F_round_price.okX sc_round_price (fun vs H Q E h => ?_) (fun cdv A outer s H vs Q E hr h => ?_)
  · obtain ⟨x, y, _, _, rfl, _⟩ := h; rfl
  · obtain ⟨x, y, bx, b2, rfl, jx, jy, hj, kX, kY, kQ⟩ := h
    refine ⟨_, (pss_cons (ps_expr (pe_call (ok_check_texts T) (hr.mono (by decide)) rfl T.g_check_texts T.F_check_texts.kp T.b_check_texts .nil (passes_call (takes_of rfl rfl rfl rfl) (fun _ _ _ _ z => z)) (pa_cons (pv 0) (pa_cons (pv 1) pa_nil))))
      (Evl.pss_cut (ps_if (pt_cmpR op_lt (pe_call (ok_length_of_root T) (hr.mono (by decide)) rfl T.g_length_of_root T.F_length_of_root.kp T.b_length_of_root .nil pass0 (pa_cons (pv 0) pa_nil)) (pe_call (ok_length_of_root T) (hr.mono (by decide)) rfl T.g_length_of_root T.F_length_of_root.kp T.b_length_of_root .nil pass0 (pa_cons (pv 1) pa_nil)) (nomark _)) (pss_one (ps_par (i := 0) (j := 1) (by rfl) sc_round_price.nd rfl rfl (by decide) rfl rfl (pa_cons (pv 1) (pa_cons (pv 0) pa_nil)) (by rfl))) pss_nil)
      (pss_cons (ps_set (i := 2) sc_round_price.nd rfl (Or.inl rfl) (pe_call (ok_changes_between T) (hr.mono (by decide)) rfl T.g_changes_between T.F_changes_between.kp T.b_changes_between .nil pass0 (pa_cons (pv 0) (pa_cons (pv 1) pa_nil))))
      (pss_cons (ps_set (i := 3) sc_round_price.nd rfl (Or.inl rfl) (pe_call (ok_length_of_root T) (hr.mono (by decide)) rfl T.g_length_of_root T.F_length_of_root.kp T.b_length_of_root .nil pass0 (pa_cons (pv 1) pa_nil)))
      (pss_cons (ps_set (i := 4) sc_round_price.nd rfl (Or.inl rfl) pe_int)
      (pss_cons (ps_while (passes_of rfl) (pt_cmpR op_lt (pv 4) (pv 3) (nomark _)) (pss_cons (ps_set (i := 5) sc_round_price.nd rfl (Or.inl rfl) (pe_call (ok_changes_between T) (hr.mono (by decide)) rfl T.g_changes_between T.F_changes_between.kp T.b_changes_between .nil pass0 (pa_cons (pv 0) (pa_cons (pe_op op_add_str (pe_slice sl_str (pv 1) (po_some (pv 4)) po_none) (pe_slice sl_str (pv 1) po_none (po_some (pv 4)))) pa_nil))))
      (pss_cons (ps_set (i := 2) sc_round_price.nd rfl (Or.inl rfl) (pe_callB (call_min2 rfl) (by rfl) T.z_min (by decide +kernel) (pa_cons (pv 2) (pa_cons (pv 5) pa_nil))))
      (pss_one (ps_aug (i := 4) sc_round_price.nd rfl (Or.inl rfl) (pe_op op_fdiv (pe_op op_add (pe_op op_sub (pv 5) (pv 2)) pe_int) pe_int) ip_add)))))
      (pss_one (ps_ret (pv 2))))))))), ?_⟩
    refine ⟨_, rfl, _, rfl, x, y, bx, b2, rfl, jx, jy, hj, kX, kY, fun ex ey H1 s1 => ?_⟩
    obtain ⟨u, v, rfl, rfl, hu, hv, kR⟩ := kQ ex ey
    have big : ∀ {t : List Nat}, t.length ≤ 50 → Big t := fun h => Nat.le_trans h (by decide)
    refine ⟨fun σ H' => ∃ a b : List Nat, σ = [some (.str (S a)), some (.str (S b)), none, none, none, none] ∧ H' = H1 ∧ a.length ≤ 50 ∧ b.length ≤ 50 ∧ ∀ (r : Nat) H', Same H H' → Lev.Rp a b r → Q (.int r) H', ?_, ?_⟩
    · refine ⟨_, rfl, u, rfl, big hu, _, rfl, v, rfl, big hv, _, _, rfl, rfl, _, rfl, ite2 (fun _ => ?_) (fun _ => ?_)⟩
      · exact ⟨_, rfl, _, rfl, _, _, rfl, v, u, rfl, rfl, hv, hu, fun r H' s' h => kR r H' s' h.symm⟩
      · exact ⟨u, v, rfl, rfl, hu, hv, kR⟩
    · rintro σ H' ⟨a, b, rfl, rfl, ha, hb, kR⟩
      have ba : a.length ≤ 100000 := Nat.le_trans ha (by decide)
      have zb : (S b).length ≤ sizeLine := (big hb).fits
      have rl := Lev.rho_le b
      refine ⟨_, rfl, _, rfl, a, b, rfl, ha, hb, fun H2 s2 => ?_⟩
      refine ⟨_, rfl, b, rfl, big hb, ?_⟩
      refine ⟨fun m σ H' => ∃ (r n : Nat) (x5 : Option V), σ = [some (.str (S a)), some (.str (S b)), some (.int r), some (.int (Lev.rho b : Nat)), some (.int n), x5] ∧ Same H H' ∧ 1 ≤ n ∧ LeastTo a b (min n (max (Lev.rho b) 1)) r ∧ m = Lev.rho b - n,
        ⟨_, Lev.D a b, 1, none, rfl, s1.trans s2, Nat.le_refl _, ?_, rfl⟩, ?_⟩
      · rw [show min 1 (max (Lev.rho b) 1) = 1 by omega]
        exact ⟨⟨0, by omega, by rw [rot_zero]⟩, fun k hk => by rw [show k = 0 by omega, rot_zero]; exact Nat.le_refl _⟩
      rintro m σ H3 ⟨r, n, x5, rfl, sH, hn, lt, rfl⟩
      refine ⟨_, rfl, _, rfl, _, _, rfl, rfl, _, rfl, ite2 (fun c => ?_) (fun c => ?_)⟩
      · have c' : n < Lev.rho b := by have z : (n : Int) < (Lev.rho b : Nat) := of_decide_eq_true c; omega
        refine ⟨fun σ' H4 => ∃ (r' n' : Nat) (x5 : Option V), σ' = [some (.str (S a)), some (.str (S b)), some (.int r'), some (.int (Lev.rho b : Nat)), some (.int n'), x5] ∧ Same H H4 ∧ n < n' ∧ LeastTo a b (min n' (max (Lev.rho b) 1)) r',
          fun σ' H4 ⟨r', n', x5, e1, s4, h1, h2⟩ => ⟨_, by omega, r', n', x5, e1, s4, by omega, h2, rfl⟩, ?_⟩
        refine ⟨_, rfl, _, rfl, _, rfl, _, rfl, _, rfl, zb, _, rfl, _, rfl, _, rfl, _, rfl, zb, ?_⟩
        rw [cut_from, cut_to]
        refine ⟨_, _, rfl, rfl, by rw [S_len, S_len, List.length_drop, List.length_take]; exact Nat.le_trans (by omega : b.length - n + min n b.length ≤ 10000) (by decide), ?_⟩
        rw [S_app]
        refine ⟨a, rot n b, rfl, ha, by rw [rot_len]; exact hb, fun H4 s4 => ?_⟩
        have hm : max (Lev.rho b) 1 = Lev.rho b := by omega
        rw [hm, show min n (Lev.rho b) = n by omega] at lt
        have sk := lt.skip rl c'
        obtain ⟨cc, hcc⟩ : ∃ cc, cc = Lev.D a (rot n b) := ⟨_, rfl⟩
        rw [← hcc] at sk ⊢
        refine ⟨_, rfl, _, rfl, _, _, rfl, ?_⟩
        have em : (if (cc : Int) < (r : Int) then (cc : Int) else (r : Int)) = ((min r cc : Nat) : Int) := by split <;> omega
        rw [em]
        refine ⟨_, rfl, _, rfl, _, rfl, _, _, rfl, rfl, _, _, rfl, rfl, _, _, rfl, rfl, ⟨by omega, by omega⟩, _, _, rfl, rfl, ?_⟩
        refine ⟨min r cc, n + (cc - min r cc + 2) / 2, some (.int cc), ?_, sH.trans s4, by omega, ?_⟩
        · have e : (n : Int) + ((cc : Int) - ((min r cc : Nat) : Int) + 2) / 2 = ((n + (cc - min r cc + 2) / 2 : Nat) : Int) := by omega
          show [some (V.str (S a)), some (V.str (S b)), some (V.int ((min r cc : Nat) : Int)), some (V.int (Lev.rho b : Nat)), some (V.int ((n : Int) + ((cc : Int) - ((min r cc : Nat) : Int) + 2) / 2)), some (V.int cc)] = _
          rw [e]
        · rw [hm]; exact sk
      · have c' : ¬ n < Lev.rho b := fun z => c (decide_eq_true (show (n : Int) < (Lev.rho b : Nat) by omega))
        rw [show min n (max (Lev.rho b) 1) = max (Lev.rho b) 1 by omega] at lt
        refine ⟨_, rfl, kR r _ sH ?_⟩
        by_cases hb0 : b = []
        · subst hb0
          exact lt.rp (by simp)
        · obtain ⟨r0, _, pr, _⟩ := Lev.rho_spec hb0
          rw [show max (Lev.rho b) 1 = Lev.rho b by omega] at lt
          exact lt.round r0 rl ((Lev.rot_eq rl rfl).mpr pr)
end
end My

set_option Elab.async false
set_option linter.all false
set_option maxRecDepth 100000
set_option maxHeartbeats 4000000
namespace My
open PySem PySem.Spec PyProof.Rows L2
/-! ### the law's box of draws -/
def BoxO (n : Nat) (o : HO) : Prop := ∃ (a m c : Int) (b : Bool), o = .lst [.int a, .bl b, .int m, .int c] ∧ 0 ≤ m ∧ m < 2147483648 ∧ 0 ≤ c ∧ c ≤ n
def BoxAt (H : Hp) (p : Addr) (n : Nat) : Prop := ∃ o, H p = some o ∧ BoxO n o
theorem BoxAt.mono {H : Hp} {p : Addr} {n m : Nat} (h : BoxAt H p n) (l : n ≤ m) : BoxAt H p m := by
  obtain ⟨o, e, a, m', c, b, e2, h1, h2, h3, h4⟩ := h
  exact ⟨o, e, a, m', c, b, e2, h1, h2, h3, by omega⟩
/-- all but the box stands -/
def Kp (p : Addr) (H H' : Hp) : Prop := ∀ b o, b ≠ p → H b = some o → H' b = some o
theorem Kp.refl (p : Addr) (H : Hp) : Kp p H H := fun _ _ _ e => e
theorem Kp.trans {p : Addr} {H H1 H2 : Hp} (a : Kp p H H1) (b : Kp p H1 H2) : Kp p H H2 := fun c o n e => b c o n (a c o n e)
theorem Kp.of {p : Addr} {H H' : Hp} (s : Same H H') : Kp p H H' := fun b o _ e => s b o e
theorem Kp.new {p q : Addr} {H H' : Hp} {o : HO} (k : Kp p H H') (h : H' q = none) : Kp p H (upd H' q o) := fun b ob n e => by
  have := k b ob n e
  rw [upd_ne (ne_of_none this h)]; exact this
theorem BoxAt.new {p q : Addr} {H : Hp} {o : HO} {n : Nat} (h : BoxAt H p n) (hq : H q = none) : BoxAt (upd H q o) p n := by
  obtain ⟨ob, e, r⟩ := h
  exact ⟨ob, by rw [upd_ne (ne_of_none e hq)]; exact e, r⟩
theorem BoxAt.same {p : Addr} {H H' : Hp} {n : Nat} (h : BoxAt H p n) (s : Same H H') : BoxAt H' p n := by
  obtain ⟨ob, e, r⟩ := h
  exact ⟨ob, s _ _ e, r⟩
theorem cutV_to (xs : List V) (n : Nat) : cutV xs none (some (n : Int)) = xs.take n := by
  unfold cutV
  rw [HT.sIx_none, sIx_some, List.drop_zero, Nat.sub_zero]
  rcases Nat.le_total n xs.length with h | h
  · rw [Nat.min_eq_left h]
  · rw [Nat.min_eq_right h, List.take_of_length_le h, List.take_of_length_le (Nat.le_refl _)]
section
variable {P : Program} {w : World} {K : PySem.W.Frag} {mg : Str → Option Value} {base : Heap}
def spCell (K : PySem.W.Frag) : Sp := fun vs H Q _ => ∃ (a : Addr) (ns : List Int) (k : Nat), vs = [.ref a, .int k] ∧ SqL K H a (ns.map V.int) ∧ ∀ c H', Same H H' → Q (.int c) H'
theorem ok_law_cell (T : Txt K mg) : FnOk P w K mg base CX0 1 T.f_law_cell T.fd_law_cell ["script", "k"] (spCell K) := by
  refine T.F_law_cell.ok sc_law_cell (fun vs H Q E h => ?_) (fun cdv A outer s H vs Q E hr h => ?_)
  · obtain ⟨a, ns, k, rfl, _⟩ := h; rfl
  · obtain ⟨a, ns, k, rfl, hS, q⟩ := h
    refine ⟨_, (pss_one (ps_ret (pe_ifExp (pt_cmpR op_lt (pv 1) (pe_callB call_len_seq (by rfl) T.z_len (by decide +kernel) (pa_cons (pv 0) pa_nil)) (nomark _)) (pe_ix ix_list (pv 0) (pv 1) (fun _ _ => rfl)) (pe_op op_add (pe_op op_mul pe_int (pv 1)) (pe_op op_mod (pe_callTy call_int1 (by rfl) T.z_int (by decide +kernel) (pa_cons (pe_callB (cr_sum rfl) (by rfl) T.z_sum (by decide +kernel) (pa_cons (pe_slice sl_list (pv 0) po_none (po_some pe_int)) pa_nil)) pa_nil)) pe_int))))), ?_⟩
    refine ⟨_, rfl, _, rfl, a, _, rfl, .inl hS, _, _, rfl, rfl, _, rfl, ite2 (fun c => ?_) (fun c => ?_)⟩
    · have c' := of_decide_eq_true c
      have hk : k < ns.length := by rw [List.length_map] at c'; omega
      exact ⟨_, rfl, _, rfl, a, _, _, _, rfl, rfl, hS, atI_nat (j := k) (v := V.int ns[k]) (by rw [List.getElem?_map, List.getElem?_eq_getElem hk]; rfl), q _ H (Same.refl H)⟩
    · refine ⟨_, rfl, _, _, rfl, rfl, .inl (by decide), _, rfl, 1, rfl, a, _, rfl, hS, fun p hp => ?_⟩
      rw [show cutV (ns.map V.int) none (some 1) = (ns.take 1).map V.int by rw [show (some (1 : Int)) = some ((1 : Nat) : Int) from rfl, cutV_to, List.map_take]]
      exact ⟨p, ns.take 1, rfl, SqL.of upd_same, .inl ⟨_, rfl, _, _, rfl, rfl, (by show (0 : Int) < 1000117; decide), _, _, rfl, rfl, q _ _ (Same.new (Same.refl H) hp)⟩⟩
def spBox : Sp := fun vs H Q _ => ∃ c : Int, vs = [.int c] ∧ ∀ p o, H p = none → BoxO 0 o → Q (.ref p) (upd H p o)
theorem ok_law_box (T : Txt K mg) : FnOk P w K mg base CX0 1 T.f_law_box T.fd_law_box ["great"] spBox := by
  refine T.F_law_box.ok sc_law_box (fun vs H Q E h => ?_) (fun cdv A outer s H vs Q E hr h => ?_)
  · obtain ⟨c, rfl, _⟩ := h; rfl
  · obtain ⟨c, rfl, q⟩ := h
    refine ⟨_, (pss_one (ps_ret (pe_lst (pa_cons (pe_callB call_abs (by rfl) T.z_abs (by decide +kernel) (pa_cons (pv 0) pa_nil)) (pa_cons (pe_cmpR op_ge (pe_callB call_abs (by rfl) T.z_abs (by decide +kernel) (pa_cons (pv 0) pa_nil)) (pe_op op_pow pe_int pe_int) (nomark _)) (pa_cons (pe_op op_mod (pe_callTy call_int1 (by rfl) T.z_int (by decide +kernel) (pa_cons (pe_callB call_abs (by rfl) T.z_abs (by decide +kernel) (pa_cons (pv 0) pa_nil)) pa_nil)) pe_int) (pa_cons pe_int pa_nil))))))), ?_⟩
    refine ⟨_, rfl, _, rfl, _, rfl, _, rfl, _, _, rfl, rfl, ⟨by decide, by decide, by decide⟩, _, _, rfl, rfl, _, rfl, _, rfl, .inl ⟨_, rfl, _, _, rfl, rfl, (by show (0 : Int) < 2147483579; decide), (by show 4 ≤ sizeLine; decide), fun p hp => q p _ hp ⟨_, _, _, _, rfl, ?_, ?_, Int.le_refl 0, Int.le_refl 0⟩⟩⟩
    · exact Int.emod_nonneg _ (by decide)
    · have := Int.emod_lt_of_pos (if c < 0 then -c else c) (by decide : (0 : Int) < 2147483579)
      omega
/-- a draw below many; the box goes on -/
def spTake : Sp := fun vs H Q _ => ∃ (p : Addr) (n : Nat) (many : Int), vs = [.ref p, .int many] ∧ BoxAt H p n ∧ n < 1000000000 ∧ 0 < many ∧ many < 1000000 ∧
  ∀ (d : Nat) o, (d : Int) < many → BoxO (n + 1) o → Q (.int d) (upd H p o)
theorem ok_law_take (T : Txt K mg) : FnOk P w K mg base CX0 1 T.f_law_take T.fd_law_take ["box", "many"] spTake := by
  refine T.F_law_take.ok sc_law_take (fun vs H Q E h => ?_) (fun cdv A outer s H vs Q E hr h => ?_)
  · obtain ⟨p, n, m, rfl, _⟩ := h; rfl
  · obtain ⟨p, n, many, rfl, ⟨o, ho, a, m, c, b, rfl, m0, m1, c0, c1⟩, hn, p0, p1, q⟩ := h
    refine ⟨_, (pss_cons (ps_if (PW.pt (pw_and (pt_val (pe_ix ix_list (pv 0) pe_int (fun _ _ => rfl))) (pw_and1 (pt_cmpR op_gt (pe_ix ix_list (pv 0) pe_int (fun _ _ => rfl)) pe_int (nomark _))))) (pss_cons (ps_set (i := 2) sc_law_take.nd rfl (Or.inl rfl) (pe_op op_mod (pe_callTy call_int1 (by rfl) T.z_int (by decide +kernel) (pa_cons (pe_ix ix_list (pv 0) pe_int (fun _ _ => rfl)) pa_nil)) (pv 1)))
      (pss_cons (ps_asg (pe_op op_fdivW (pe_ix ix_list (pv 0) pe_int (fun _ _ => rfl)) (pv 1)) (pg_sub (pv 0) pe_int set_list))
      (pss_one (ps_ret (pv 2))))) pss_nil)
      (pss_cons (ps_asg (pe_op op_add (pe_ix ix_list (pv 0) pe_int (fun _ _ => rfl)) pe_int) (pg_sub (pv 0) pe_int set_list))
      (pss_cons (ps_set (i := 3) sc_law_take.nd rfl (Or.inl rfl) (pe_op op_mod (pe_callTy call_int1 (by rfl) T.z_int (by decide +kernel) (pa_cons (pe_op op_pow (pe_op op_add (pe_op op_add (pe_ix ix_list (pv 0) pe_int (fun _ _ => rfl)) (pe_op op_mul pe_int (pe_ix ix_list (pv 0) pe_int (fun _ _ => rfl)))) pe_int) pe_int) pa_nil)) pe_int))
      (pss_one (ps_ret (pe_op op_mod (pe_op op_fdivW (pe_op op_mod (pe_callTy call_int1 (by rfl) T.z_int (by decide +kernel) (pa_cons (pe_op op_pow (pe_op op_add (pe_op op_mul (pv 3) pe_int) (pe_op op_mul pe_int (pe_ix ix_list (pv 0) pe_int (fun _ _ => rfl)))) pe_int) pa_nil)) pe_int) pe_int) (pv 1))))))), ?_⟩
    have at0 : atI [V.int a, .bl b, .int m, .int c] 0 = some (.int a) := atI_nat (j := 0) rfl
    have at1 : atI [V.int a, .bl b, .int m, .int c] 1 = some (.bl b) := atI_nat (j := 1) rfl
    have at3 : atI [V.int a, .bl b, .int m, .int c] 3 = some (.int c) := atI_nat (j := 3) rfl
    have lm : CDivW a many := ⟨p0, by
      have : many.natAbs < 2 ^ 20 := by omega
      exact Nat.lt_of_lt_of_le (PySem.Flt.log2_lt_of (by decide) this) (by decide)⟩
    have second : tSeq (tAsg (tOp (rI0 fun i j => .int (i + j)) (tOp (rIxL K) (tVar 0) (tC (.int 3))) (tC (.int 1))) (gSub (tVar 0) (tC (.int 3)) rSetL))
        (tSeq (tAsg (tOp (rI (fun _ j => 0 < j) fun i j => .int (i % j)) (tCB (fun xs H Q => (∃ i, xs = [.int i] ∧ Q (.int i) H) ∨ ∃ k, xs = [.bl k] ∧ Q (.int (if k then 1 else 0)) H) (tCons (tOp (rI CPow fun i j => .int (i ^ j.toNat)) (tOp (rI0 fun i j => .int (i + j)) (tOp (rI0 fun i j => .int (i + j)) (tOp (rIxL K) (tVar 0) (tC (.int 2))) (tOp (rI CMul fun i j => .int (i * j)) (tC (.int 15485849)) (tOp (rIxL K) (tVar 0) (tC (.int 3))))) (tC (.int 179424743))) (tC (.int 5))) tNil)) (tC (.int 2147483647))) (gName 3))
        (tRet (tOp (rI (fun _ j => 0 < j) fun i j => .int (i % j)) (tOp (rI CDivW fun i j => .int (i / j)) (tOp (rI (fun _ j => 0 < j) fun i j => .int (i % j)) (tCB (fun xs H Q => (∃ i, xs = [.int i] ∧ Q (.int i) H) ∨ ∃ k, xs = [.bl k] ∧ Q (.int (if k then 1 else 0)) H) (tCons (tOp (rI CPow fun i j => .int (i ^ j.toNat)) (tOp (rI0 fun i j => .int (i + j)) (tOp (rI CMul fun i j => .int (i * j)) (tVar 3) (tC (.int 48271))) (tOp (rI CMul fun i j => .int (i * j)) (tC (.int 104759)) (tOp (rIxL K) (tVar 0) (tC (.int 3))))) (tC (.int 3))) tNil)) (tC (.int 2147483579))) (tC (.int 64))) (tVar 1))))
        { nx := fun _ H' => Q .non H', rt := Q } [some (.ref p), some (.int many), none, none] H := by
      refine ⟨_, rfl, p, _, _, _, rfl, rfl, SqL.of ho, at3, _, _, rfl, rfl, _, rfl, p, _, 3, 3, rfl, rfl, ho, rfl, ?_⟩
      have hu : upd H p (.lst [.int a, .bl b, .int m, .int (c + 1)]) p = some (.lst [.int a, .bl b, .int m, .int (c + 1)]) := upd_same
      refine ⟨_, rfl, p, _, _, _, rfl, rfl, SqL.of hu, atI_nat (j := 2) rfl, _, rfl, p, _, _, _, rfl, rfl, SqL.of hu, atI_nat (j := 3) rfl, _, _, rfl, rfl, .inl (by decide), _, _, rfl, rfl, _, _, rfl, rfl, _, _, rfl, rfl, ⟨by decide, by decide, by omega⟩, .inl ⟨_, rfl, _, _, rfl, rfl, (by show (0 : Int) < 2147483647; decide), ?_⟩⟩
      refine ⟨_, rfl, _, _, rfl, rfl, .inr (by decide), _, rfl, p, _, _, _, rfl, rfl, SqL.of hu, atI_nat (j := 3) rfl, _, _, rfl, rfl, .inl (by decide), _, _, rfl, rfl, _, _, rfl, rfl, ⟨by decide, by decide, by omega⟩, .inl ⟨_, rfl, _, _, rfl, rfl, (by show (0 : Int) < 2147483579; decide), _, _, rfl, rfl, ⟨by decide, by decide⟩, _, rfl, _, _, rfl, rfl, p0, ?_⟩⟩
      have y0 := Int.emod_nonneg ((((m + 15485849 * (c + 1) + 179424743) ^ (5 : Int).toNat % 2147483647) * 48271 + 104759 * (c + 1)) ^ (3 : Int).toNat % 2147483579 / 64) (by omega : many ≠ 0)
      have y1 := Int.emod_lt_of_pos ((((m + 15485849 * (c + 1) + 179424743) ^ (5 : Int).toNat % 2147483647) * 48271 + 104759 * (c + 1)) ^ (3 : Int).toNat % 2147483579 / 64) p0
      show Q (.int ((((m + 15485849 * (c + 1) + 179424743) ^ (5 : Int).toNat % 2147483647) * 48271 + 104759 * (c + 1)) ^ (3 : Int).toNat % 2147483579 / 64 % many)) _
      generalize (((m + 15485849 * (c + 1) + 179424743) ^ (5 : Int).toNat % 2147483647) * 48271 + 104759 * (c + 1)) ^ (3 : Int).toNat % 2147483579 / 64 % many = y at *
      obtain ⟨d, rfl⟩ : ∃ d : Nat, y = d := ⟨y.toNat, by omega⟩
      exact q d _ y1 ⟨a, m, c + 1, b, rfl, m0, m1, by omega, by omega⟩
    refine ⟨_, rfl, p, _, _, _, rfl, rfl, SqL.of ho, at1, b, rfl, ?_⟩
    cases b with
    | false => exact iteF (iteF second)
    | true =>
      refine iteT ⟨_, rfl, p, _, _, _, rfl, rfl, SqL.of ho, at0, _, _, rfl, rfl, _, rfl, ite2 (fun z => ?_) (fun z => second)⟩
      refine ⟨_, rfl, p, _, _, _, rfl, rfl, SqL.of ho, at0, .inl ⟨_, rfl, _, rfl, _, _, rfl, rfl, p0, ?_⟩⟩
      refine ⟨_, rfl, p, _, _, _, rfl, rfl, SqL.of ho, at0, _, rfl, _, _, rfl, rfl, lm, _, rfl, p, _, 0, 0, rfl, rfl, ho, rfl, _, rfl, ?_⟩
      have y0 := Int.emod_nonneg a (by omega : many ≠ 0)
      have y1 := Int.emod_lt_of_pos a p0
      show Q (.int (a % many)) _
      generalize a % many = y at *
      obtain ⟨d, rfl⟩ : ∃ d : Nat, y = d := ⟨y.toNat, by omega⟩
      exact q d _ y1 ⟨a / many, m, c, true, rfl, m0, m1, c0, by omega⟩
end
end My

set_option Elab.async false
set_option linter.all false
set_option maxRecDepth 100000
set_option maxHeartbeats 4000000
namespace My
open PySem PySem.Spec PyProof.Rows L2
theorem Kp.upd {p : Addr} {H H' : Hp} {o : HO} (k : Kp p H H') : Kp p H (upd H' p o) := fun b ob n e => by
  rw [upd_ne n]; exact k b ob n e
theorem BoxO.at {H : Hp} {p : Addr} {n : Nat} {o : HO} (h : BoxO n o) : BoxAt (upd H p o) p n := ⟨o, upd_same, h⟩
theorem Big.rot {t : List Nat} (h : Big t) (a : Nat) : Big (rot a t) := by unfold Big; rw [rot_len]; exact h
theorem Big.two {a : Nat} {t : List Nat} (h : Big t) : (S (t.drop a)).length + (S (t.take a)).length ≤ sizeLine := by
  rw [S_len, S_len]
  have : t.length ≤ 100000 := h
  exact Nat.le_trans (by rw [List.length_drop, List.length_take]; omega) (by decide : 200000 ≤ sizeLine)
theorem tYesT {σ : L2.St} {H : Hp} {A B : Hp → Prop} (h : A H) : tYes σ H (fun b H3 => if b = true then A H3 else B H3) := by
  show (if true = true then A H else B H)
  rw [if_pos rfl]; exact h
theorem ixN_nat {n j : Nat} (h : j < n) : ixN n (j : Int) = some j := by
  unfold ixN
  rw [if_pos (by omega), if_pos (by omega), Int.toNat_natCast]
section
variable {P : Program} {w : World} {K : PySem.W.Frag} {mg : Str → Option Value} {base : Heap}
def spTurned : Sp := fun vs H Q _ => ∃ (p : Addr) (n : Nat) (t : List Nat), vs = [.ref p, .str (S t)] ∧ BoxAt H p n ∧ n < 1000000000 ∧ Big t ∧
  ∀ (a : Nat) H', a ≤ t.length → Kp p H H' → BoxAt H' p (n + 1) → Q (.str (S (rot a t))) H'
theorem ok_law_turned (T : Txt K mg) : FnOk P w K mg base CX0 2 T.f_law_turned T.fd_law_turned ["box", "text"] spTurned := by
  refine T.F_law_turned.ok sc_law_turned (fun vs H Q E h => ?_) (fun cdv A outer s H vs Q E hr h => ?_)
  · obtain ⟨p, n, t, rfl, _⟩ := h; rfl
  · obtain ⟨p, n, t, rfl, hb, hn, ht, q⟩ := h
    have bt : t.length ≤ 100000 := ht
    refine ⟨_, (pss_cons (ps_set (i := 2) sc_law_turned.nd rfl (Or.inl rfl) (pe_call (ok_law_take T) (hr.mono (by decide)) rfl T.g_law_take T.F_law_take.kp T.b_law_take .nil pass0 (pa_cons (pv 0) (pa_cons (pe_op op_add (pe_callB call_len_str (by rfl) T.z_len (by decide +kernel) (pa_cons (pv 1) pa_nil)) pe_int) pa_nil))))
      (pss_one (ps_ret (pe_op op_add_str (pe_slice sl_str (pv 1) (po_some (pv 2)) po_none) (pe_slice sl_str (pv 1) po_none (po_some (pv 2))))))), ?_⟩
    refine ⟨_, rfl, _, rfl, _, rfl, ht.fits, _, _, rfl, rfl, p, n, _, rfl, hb, hn, ?_, ?_, fun d o hd ho => ?_⟩
    · rw [S_len]; omega
    · rw [S_len]; omega
    · rw [S_len] at hd
      refine ⟨_, rfl, _, rfl, _, rfl, _, rfl, ht.fits, _, rfl, _, rfl, _, rfl, _, rfl, ht.fits, _, _, rfl, rfl, ?_, ?_⟩
      · rw [cut_from, cut_to]; exact ht.two
      · rw [cut_from, cut_to, S_app]
        exact q d _ (by omega) (Kp.refl p H).upd ho.at
/-! ### the law's own table -/
def mixV (u v : List Nat) (i j : Nat) : List V := (List.range (v.length + 1)).map fun k => V.int ((if k < j then Lev.T u v (i + 1) k else Lev.T u v i k : Nat) : Int)
theorem mixV_len (u v : List Nat) (i j : Nat) : (mixV u v i j).length = v.length + 1 := by unfold mixV; rw [List.length_map, List.length_range]
theorem mixV_get (u v : List Nat) (i j : Nat) {k : Nat} (h : k < v.length + 1) : (mixV u v i j)[k]? = some (.int ((if k < j then Lev.T u v (i + 1) k else Lev.T u v i k : Nat) : Int)) := by
  unfold mixV
  rw [List.getElem?_map, List.getElem?_range h]; rfl
theorem mixV_set (u v : List Nat) (i : Nat) {j : Nat} (x : Int) (h : j < v.length + 1) (e : x = (Lev.T u v (i + 1) j : Nat)) : (mixV u v i j).set j (.int x) = mixV u v i (j + 1) := by
  subst e
  apply List.ext_getElem?
  intro k
  rw [List.getElem?_set, mixV_len]
  by_cases hk : k < v.length + 1
  · rw [mixV_get u v i j hk, mixV_get u v i (j + 1) hk]
    by_cases e : j = k
    · subst e
      rw [if_pos rfl, if_pos h, if_pos (Nat.lt_succ_self j)]
    · rw [if_neg e]
      by_cases l : k < j
      · rw [if_pos l, if_pos (by omega)]
      · rw [if_neg l, if_neg (by omega)]
  · have e1 : (mixV u v i j)[k]? = none := List.getElem?_eq_none (by rw [mixV_len]; omega)
    have e2 : (mixV u v i (j + 1))[k]? = none := List.getElem?_eq_none (by rw [mixV_len]; omega)
    rw [e1, e2, if_neg (by omega)]
theorem mixV_next (u v : List Nat) (i : Nat) : mixV u v i (v.length + 1) = mixV u v (i + 1) 0 := by
  unfold mixV
  apply List.map_congr_left
  intro k hk
  rw [List.mem_range] at hk
  rw [if_pos hk, if_neg (by omega)]
theorem mixV_zero (u v : List Nat) : rgV 0 ((v.length : Int) + 1) = mixV u v 0 0 := by
  unfold rgV mixV
  rw [show ((v.length : Int) + 1 - 0).toNat = v.length + 1 by omega]
  apply List.map_congr_left
  intro k hk
  rw [if_neg (by omega), Lev.T_zero, Int.zero_add]
theorem mixV_last (u v : List Nat) (i : Nat) : atI (mixV u v i 0) (-1) = some (.int (Lev.T u v i v.length : Nat)) := by
  have e : mixV u v i 0 = ((List.range v.length).map fun k => V.int ((if k < 0 then Lev.T u v (i + 1) k else Lev.T u v i k : Nat) : Int)) ++ [V.int ((if v.length < 0 then Lev.T u v (i + 1) v.length else Lev.T u v i v.length : Nat) : Int)] := by
    unfold mixV
    rw [List.range_succ, List.map_append]; rfl
  rw [e, atI_last, if_neg (by omega)]
def spTable : Sp := fun vs H Q _ => ∃ (u v : List Nat), vs = [.str (S u), .str (S v)] ∧ Big u ∧ Big v ∧ ∀ H', Same H H' → Q (.int (Lev.D u v : Nat)) H'
theorem ok_law_table (T : Txt K mg) : FnOk P w K mg base CX0 1 T.f_law_table T.fd_law_table ["first", "second"] spTable := by
  refine T.F_law_table.ok sc_law_table (fun vs H Q E h => ?_) (fun cdv A outer s H vs Q E hr h => ?_)
  · obtain ⟨u, v, rfl, _⟩ := h; rfl
  · obtain ⟨u, v, rfl, hu, hv, kQ⟩ := h
    have bu : u.length ≤ 100000 := hu
    have bv : v.length ≤ 100000 := hv
    refine ⟨_, (pss_cons (ps_set (i := 2) sc_law_table.nd rfl (Or.inl rfl) (pe_listRg rfl (by rfl) T.z_list (prg_1 (by rfl) T.z_range (pe_op op_add (pe_callB call_len_str (by rfl) T.z_len (by decide +kernel) (pa_cons (pv 1) pa_nil)) pe_int))))
      (pss_cons (ps_for PassesOwn.never rfl (pi_range1 rfl T.z_range (pa_cons (pe_callB call_len_str (by rfl) T.z_len (by decide +kernel) (pa_cons (pv 0) pa_nil)) pa_nil)) (pg_name (i := 3) sc_law_table.nd rfl (Or.inl rfl)) (pss_cons (ps_asg (pe_tup (pa_cons (pe_ix ix_list (pv 2) pe_int (fun _ _ => rfl)) (pa_cons (pe_op op_add (pv 3) pe_int) pa_nil))) (pg_tup rfl (pgs_cons (pg_name (i := 4) sc_law_table.nd rfl (Or.inl rfl)) (pgs_cons (pg_sub (pv 2) pe_int set_list) pgs_nil))))
      (pss_one (ps_for PassesOwn.never rfl (pi_range1 rfl T.z_range (pa_cons (pe_callB call_len_str (by rfl) T.z_len (by decide +kernel) (pa_cons (pv 1) pa_nil)) pa_nil)) (pg_name (i := 5) sc_law_table.nd rfl (Or.inl rfl)) (pss_cons (ps_set (i := 6) sc_law_table.nd rfl (Or.inl rfl) (pe_op op_add (pv 4) (pe_callTy call_int1 (by rfl) T.z_int (by decide +kernel) (pa_cons (pe_cmpR op_ne (pe_ix ix_str (pv 0) (pv 3) (fun _ _ => rfl)) (pe_ix ix_str (pv 1) (pv 5) (fun _ _ => rfl)) (nomark _)) pa_nil))))
      (pss_cons (ps_set (i := 4) sc_law_table.nd rfl (Or.inl rfl) (pe_ix ix_list (pv 2) (pe_op op_add (pv 5) pe_int) (fun _ _ => rfl)))
      (pss_one (ps_asg (pe_callB (call_min3 rfl) (by rfl) T.z_min (by decide +kernel) (pa_cons (pv 6) (pa_cons (pe_op op_add (pe_ix ix_list (pv 2) (pv 5) (fun _ _ => rfl)) pe_int) (pa_cons (pe_op op_add (pv 4) pe_int) pa_nil)))) (pg_sub (pv 2) (pe_op op_add (pv 5) pe_int) set_list)))))))))
      (pss_one (ps_ret (pe_ix ix_list (pv 2) (pe_un un_neg pe_int) (fun _ _ => rfl)))))), ?_⟩
    refine ⟨_, rfl, _, rfl, hv.fits, _, _, rfl, rfl, _, rfl, ?_⟩
    rw [S_len]
    refine ⟨RgOk.of_le (by omega) (by omega) (by omega) (by omega), fun q hq => ?_⟩
    rw [mixV_zero u v]
    refine ⟨_, rfl, _, rfl, hu.fits, _, rfl, by rw [S_len]; omega, by rw [S_len]; omega, ?_⟩
    rw [S_len, Int.toNat_natCast]
    have s0 : ∀ (H' : Hp) (xs : List V), Same H H' → H' q = some (.lst xs) → ∀ ys, Same H (upd H' q (.lst ys)) := fun H' xs s e ys b o eo => by
      have nb : b ≠ q := by rintro rfl; rw [hq] at eo; cases eo
      rw [upd_ne nb]; exact s b o eo
    refine for_range (lo := 0) (n := u.length) (fun i σ H' => ∃ x3 x4 x5 x6, σ = [some (.str (S u)), some (.str (S v)), some (.ref q), x3, x4, x5, x6] ∧ Same H H' ∧ H' q = some (.lst (mixV u v i 0)))
      ⟨none, none, none, none, rfl, Same.new (Same.refl H) hq, upd_same⟩ ?_ ?_
    · rintro i σ H1 hi ⟨x3, x4, x5, x6, rfl, s1, e1⟩
      rw [Int.zero_add]
      refine ⟨_, rfl, q, _, _, _, rfl, rfl, SqL.of e1, atI_nat (j := 0) (mixV_get u v i 0 (Nat.succ_pos _)), _, rfl, _, _, rfl, rfl, (by show 2 ≤ sizeLine; decide), fun t ht => ?_⟩
      have ntq : q ≠ t := ne_of_none e1 ht
      refine ⟨t, _, rfl, SqT.of upd_same, rfl, _, _, rfl, ?_⟩
      refine ⟨_, _, rfl, _, rfl, q, _, 0, 0, rfl, rfl, (by rw [upd_ne ntq]; exact e1), (by rw [mixV_len]; exact ixN_nat (Nat.succ_pos _)), rfl, ?_⟩
      rw [mixV_set u v i (j := 0) _ (Nat.succ_pos _) (by rw [Lev.T_left]; omega), if_neg (Nat.not_lt_zero _)]
      refine ⟨_, rfl, _, rfl, hv.fits, _, rfl, by rw [S_len]; omega, by rw [S_len]; omega, ?_⟩
      rw [S_len, Int.toNat_natCast]
      have sB : Same H (upd (upd H1 t (.tup [.int (Lev.T u v i 0 : Nat), .int ((i : Int) + 1)])) q (.lst (mixV u v i 1))) := by
        refine s0 _ (mixV u v i 0) (Same.new s1 ht) (by rw [upd_ne ntq]; exact e1) _
      refine for_range (lo := 0) (n := v.length) (fun j σ H' => ∃ x5 x6, σ = [some (.str (S u)), some (.str (S v)), some (.ref q), some (.int i), some (.int (Lev.T u v i j : Nat)), x5, x6] ∧ Same H H' ∧ H' q = some (.lst (mixV u v i (j + 1))))
        ⟨x5, x6, rfl, sB, upd_same⟩ ?_ ?_
      · rintro j σ H2 hj ⟨x5, x6, rfl, s2, e2⟩
        rw [Int.zero_add]
        have g1 : u[i]? = some (u[i]'hi) := List.getElem?_eq_getElem _
        have g2 : v[j]? = some (v[j]'hj) := List.getElem?_eq_getElem _
        refine ⟨_, rfl, _, rfl, _, rfl, _, _, _, rfl, rfl, hu.fits, atI_S g1, _, rfl, _, rfl, _, _, _, rfl, rfl, hv.fits, atI_S g2, rfl, .inr ⟨_, rfl, ?_⟩⟩
        rw [show (⟨#[u[i]'hi]⟩ : Str) = S [u[i]'hi] from rfl, show (⟨#[v[j]'hj]⟩ : Str) = S [v[j]'hj] from rfl, S_eqV]
        have en : (if (!decide ([u[i]'hi] = [v[j]'hj])) = true then (1 : Int) else 0) = (Lev.neq u[i]? v[j]? : Nat) := by
          unfold Lev.neq
          rw [g1, g2]
          by_cases e : u[i]'hi = v[j]'hj
          · rw [e]; simp
          · simp [e]
        rw [en]
        refine ⟨_, _, rfl, rfl, ?_⟩
        refine ⟨_, rfl, _, rfl, _, _, rfl, rfl, q, _, _, _, rfl, rfl, SqL.of e2, atI_nat (j := j + 1) (mixV_get u v i (j + 1) (by omega)), ?_⟩
        rw [if_neg (Nat.lt_irrefl _)]
        refine ⟨_, rfl, _, rfl, _, rfl, q, _, _, _, rfl, rfl, SqL.of e2, atI_nat (j := j) (mixV_get u v i (j + 1) (by omega)), _, _, rfl, rfl, _, rfl, _, _, rfl, rfl, _, _, _, rfl, ?_⟩
        rw [if_pos (Nat.lt_succ_self _)]
        refine ⟨_, rfl, _, rfl, _, _, rfl, rfl, q, _, _, j + 1, rfl, rfl, e2, (by rw [mixV_len]; exact ixN_nat (j := j + 1) (by omega)), ?_⟩
        rw [mixV_set u v i (j := j + 1) _ (by omega) (by rw [Lev.T_step]; omega)]
        exact ⟨_, _, rfl, s0 _ _ s2 e2 _, upd_same⟩
      · rintro σ H2 ⟨x5, x6, rfl, s2, e2⟩
        exact ⟨_, _, _, _, rfl, s2, by rw [← mixV_next]; exact e2⟩
    · rintro σ H1 ⟨x3, x4, x5, x6, rfl, s1, e1⟩
      exact ⟨_, rfl, _, rfl, q, _, _, _, rfl, rfl, SqL.of e1, mixV_last u v _, kQ _ s1⟩
/-! ### the least distance to a turn -/
def spLeast : Sp := fun vs H Q _ => ∃ (u v : List Nat), vs = [.str (S u), .str (S v)] ∧ Big u ∧ Big v ∧ ∀ (r : Nat) H', Lev.Rp u v r → Same H H' → Q (.int r) H'
theorem ok_law_least (T : Txt K mg) : FnOk P w K mg base CX0 2 T.f_law_least T.fd_law_least ["first", "second"] spLeast := by
  refine T.F_law_least.ok sc_law_least (fun vs H Q E h => ?_) (fun cdv A outer s H vs Q E hr h => ?_)
  · obtain ⟨u, v, rfl, _⟩ := h; rfl
  · obtain ⟨u, v, rfl, hu, hv, kQ⟩ := h
    have bu : u.length ≤ 100000 := hu
    have bv : v.length ≤ 100000 := hv
    refine ⟨_, (pss_one (ps_ret (pe_callB (cr_min rfl) (by rfl) T.z_min (by decide +kernel) (pa_cons (pe_lc (own := [("at", 2)]) (g := gName 2) (by rfl) sc_law_least.nd (pi_range1 rfl T.z_range (pa_cons (pe_callB (call_max2 rfl) (by rfl) T.z_max (by decide +kernel) (pa_cons pe_int (pa_cons (pe_callB call_len_str (by rfl) T.z_len (by decide +kernel) (pa_cons (pv 1) pa_nil)) pa_nil))) pa_nil)) (blkOk_by (own := [("at", 2)]) (N := N_law_least) (sc := defScope s_law_least) (by decide +kernel)) (fun _ _ _ _ _ => pg_name (i := 2) sc_law_least.nd rfl (Or.inl rfl)) (fun _ _ _ _ _ => pts_nil) (fun _ _ _ _ _ => (pe_call (ok_law_table T) (hr.mono (by decide)) rfl T.g_law_table T.F_law_table.kp T.b_law_table .nil pass0 (pa_cons (pv 0) (pa_cons (pe_op op_add_str (pe_slice sl_str (pv 1) (po_some (pv 2)) po_none) (pe_slice sl_str (pv 1) po_none (po_some (pv 2)))) pa_nil))))) pa_nil)))), ?_⟩
    refine ⟨_, rfl, _, rfl, hv.fits, _, _, rfl, _, rfl, ?_, ?_, fun D hD => ?_⟩
    · rw [S_len]; split <;> omega
    · rw [S_len]; split <;> omega
    have en : (if ((S v).length : Int) > 1 then ((S v).length : Int) else 1).toNat = max 1 v.length := by rw [S_len]; split <;> omega
    rw [en]
    have sU : ∀ H', Same H H' → ∀ acc ys, H' D = some (.lst acc) → Same H (upd H' D (.lst ys)) := fun H' s acc ys e b o eo => by
      have nb : b ≠ D := by rintro rfl; rw [hD] at eo; cases eo
      rw [upd_ne nb]; exact s b o eo
    refine lc_range (lo := 0) (n := max 1 v.length) (fun i H' => Same H H' ∧ H' D = some (.lst (((List.range i).map fun k => ((Lev.D u (rot k v) : Nat) : Int)).map V.int)))
      ⟨Same.new (Same.refl H) hD, upd_same⟩ ?_ ?_
    · rintro i H1 hi ⟨s1, e1⟩
      rw [Int.zero_add]
      refine ⟨rfl, ?_⟩
      refine tYesT ?_
      refine ⟨_, rfl, _, rfl, _, rfl, _, rfl, _, rfl, hv.fits, _, rfl, _, rfl, _, rfl, _, rfl, hv.fits, _, _, rfl, rfl, ?_, ?_⟩
      · rw [cut_from, cut_to]; exact hv.two
      rw [cut_from, cut_to, S_app]
      refine ⟨u, rot i v, rfl, hu, hv.rot i, fun H2 s2 => ?_⟩
      have e2 := s2 _ _ e1
      refine ⟨_, e2, ?_, sU _ (s1.trans s2) _ _ e2, ?_⟩
      · rw [List.length_map, List.length_map, List.length_range]
        exact Nat.lt_of_lt_of_le (by omega : i < 200000) (by decide)
      · rw [upd_same, List.range_succ, List.map_append, List.map_append]; rfl
    · rintro H1 ⟨s1, e1⟩
      refine ⟨D, _, rfl, SqL.of e1, by rw [List.length_map, List.length_range]; omega, fun m hm hl => ?_⟩
      obtain ⟨k, hk, rfl⟩ := List.mem_map.mp hm
      rw [List.mem_range] at hk
      refine kQ _ _ (LeastTo.rp (n := max 1 v.length) ⟨⟨k, hk, rfl⟩, fun j hj => ?_⟩ (by omega)) s1
      have := hl _ (List.mem_map.mpr ⟨j, List.mem_range.mpr hj, rfl⟩)
      omega
end
end My

set_option Elab.async false
set_option linter.all false
set_option maxRecDepth 100000
set_option maxHeartbeats 4000000
namespace My
open PySem PySem.Spec PyProof.Rows L2
theorem ix_listK {X : Cx} {K : PySem.W.Frag} (e : X.K = K) : IxR X (rIxL K) := by rw [← e]; exact ix_list
/-! ### rounds as a product -/
theorem foldl_rep (x : Array Nat) : ∀ (n : Nat) (b : Array Nat), (List.replicate n x).foldl (· ++ ·) b = b ++ (Lev.rounds n x.toList).toArray
  | 0, b => by simp [Lev.rounds]
  | n + 1, b => by
    rw [List.replicate_succ, List.foldl_cons, foldl_rep x n]
    simp [Lev.rounds]
    obtain ⟨x⟩ := x
    simp
theorem rounds_nil : ∀ n, Lev.rounds n ([] : List Nat) = []
  | 0 => rfl
  | n + 1 => by simp [Lev.rounds, rounds_nil n]
theorem mul_S (x : List Nat) (n : Nat) : Txt.mul (S x) (n : Int) = S (Lev.rounds n x) := by
  unfold Txt.mul
  by_cases h : n = 0
  · subst h; rfl
  · rw [if_neg (by omega)]
    by_cases h1 : ((n : Int) == 1 || (S x).length == 0) = true
    · rw [if_pos h1]
      simp only [Bool.or_eq_true, beq_iff_eq] at h1
      rcases h1 with e | e
      · have : n = 1 := by omega
        subst this
        simp [Lev.rounds]
      · rw [S_len] at e
        have : x = [] := List.eq_nil_of_length_eq_zero e
        subst this
        rw [rounds_nil]
    · rw [if_neg h1, Int.toNat_natCast, foldl_rep]
      simp [S]
theorem mulOk_S {x : List Nat} {n : Nat} (hx : x.length ≤ 1000) (hn : n ≤ 1000) : MulOk (S x) (n : Int) := by
  refine ⟨?_, fun _ _ => ?_, fun _ _ => ?_⟩
  · simp only [Bool.or_eq_false_iff, decide_eq_false_iff_not]; omega
  · rw [S_len]
    rcases Nat.eq_zero_or_pos n with e | e
    · subst e; contradiction
    · have : ((2 : Int) ^ 63 - 1) / n ≥ ((2 : Int) ^ 63 - 1) / 1000 := by
        have h1 : (2 ^ 63 - 1 : Int) / 1000 * n ≤ 2 ^ 63 - 1 := by omega
        exact Int.le_ediv_of_mul_le (by omega) h1
      omega
  · rw [S_len, Int.toNat_natCast]
    have : x.length * n ≤ 1000 * 1000 := Nat.mul_le_mul hx hn
    show decide (x.length * n > sizeLine) = false
    rw [decide_eq_false_iff_not]
    exact Nat.not_lt.mpr (Nat.le_trans this (by decide))
/-! ### letters -/
def Low (t : List Nat) : Prop := ∀ c ∈ t, low c = true
theorem Low.isT {t : List Nat} (h : Low t) : isT (S t) = true := by
  unfold My.isT
  rw [S_tl]
  exact List.all_eq_true.mpr h
theorem Low.append {t u : List Nat} (h : Low t) (g : Low u) : Low (t ++ u) := fun c hc => by
  rcases List.mem_append.mp hc with q | q
  · exact h c q
  · exact g c q
theorem Low.take {t : List Nat} (h : Low t) (n : Nat) : Low (t.take n) := fun c hc => h c (List.mem_of_mem_take hc)
theorem Low.drop {t : List Nat} (h : Low t) (n : Nat) : Low (t.drop n) := fun c hc => h c (List.mem_of_mem_drop hc)
theorem Low.rot {t : List Nat} (h : Low t) (n : Nat) : Low (rot n t) := (h.drop n).append (h.take n)
theorem Low.nil : Low [] := fun c hc => by cases hc
theorem Low.one {c : Nat} (h : low c = true) : Low [c] := fun d hd => by rw [List.mem_singleton.mp hd]; exact h
/-- the list of the three letters -/
def Let (H : Hp) (l : Addr) : Prop := ∃ a b c, H l = some (.lst [.str (S [a]), .str (S [b]), .str (S [c])]) ∧ low a = true ∧ low b = true ∧ low c = true
theorem Let.kp {H H' : Hp} {p l : Addr} (h : Let H l) (k : Kp p H H') (n : l ≠ p) : Let H' l := by
  obtain ⟨a, b, c, e, r⟩ := h
  exact ⟨a, b, c, k _ _ n e, r⟩
theorem three {a b c : Nat} {d : Nat} (h : d < 3) (ha : low a = true) (hb : low b = true) (hc : low c = true) : ∃ x, low x = true ∧ [V.str (S [a]), V.str (S [b]), V.str (S [c])][d]? = some (.str (S [x])) := by
  match d, h with
  | 0, _ => exact ⟨a, ha, rfl⟩
  | 1, _ => exact ⟨b, hb, rfl⟩
  | 2, _ => exact ⟨c, hc, rfl⟩
theorem Kp.free {p D : Addr} {H H' : Hp} {o : HO} (k : Kp p H H') (h : H D = none) : Kp p H (L2.upd H' D o) := fun b ob n e => by
  rw [upd_ne (ne_of_none e h)]; exact k b ob n e
theorem BoxAt.other {p q : Addr} {H : Hp} {o : HO} {n : Nat} (h : BoxAt H p n) (hq : p ≠ q) : BoxAt (upd H q o) p n := by
  obtain ⟨ob, e, r⟩ := h
  exact ⟨ob, by rw [upd_ne hq]; exact e, r⟩
theorem BoxAt.ne {p q : Addr} {H : Hp} {n : Nat} (h : BoxAt H p n) (hq : H q = none) : p ≠ q := by
  obtain ⟨ob, e, r⟩ := h
  exact ne_of_none e hq
section
variable {P : Program} {w : World} {K : PySem.W.Frag} {mg : Str → Option Value} {base : Heap}
/-! ### up to three changes -/
def spChanged : Sp := fun vs H Q _ => ∃ (p l : Addr) (n : Nat) (t : List Nat), vs = [.ref p, .ref l, .str (S t)] ∧ BoxAt H p n ∧ n < 100000000 ∧ Let H l ∧ l ≠ p ∧ Low t ∧ t.length ≤ 1000 ∧
  ∀ (t' : List Nat) H', Low t' → t'.length ≤ t.length + 3 → Kp p H H' → BoxAt H' p (n + 10) → Q (.str (S t')) H'
theorem ok_law_changed (T : Txt K mg) : FnOk P w K mg base CX0 2 T.f_law_changed T.fd_law_changed ["box", "letters", "text"] spChanged := by
  refine T.F_law_changed.ok sc_law_changed (fun vs H Q E h => ?_) (fun cdv A outer s H vs Q E hr h => ?_)
  · obtain ⟨p, l, n, t, rfl, _⟩ := h; rfl
  · obtain ⟨p, l, n, t, rfl, hb, hn, hl, npl, lt, bt, q⟩ := h
    refine ⟨_, (pss_cons (ps_set (i := 3) sc_law_changed.nd rfl (Or.inl rfl) (pv 2))
      (pss_cons (ps_for PassesOwn.never rfl (pi_range1 rfl T.z_range (pa_cons (pe_call (ok_law_take T) (hr.mono (by decide)) rfl T.g_law_take T.F_law_take.kp T.b_law_take .nil pass0 (pa_cons (pv 0) (pa_cons pe_int pa_nil))) pa_nil)) (pg_name (i := 4) sc_law_changed.nd rfl (Or.inl rfl)) (pss_cons (ps_par (i := 5) (j := 6) (by rfl) sc_law_changed.nd rfl rfl (by decide) rfl rfl (pa_cons (pe_call (ok_law_take T) (hr.mono (by decide)) rfl T.g_law_take T.F_law_take.kp T.b_law_take .nil pass0 (pa_cons (pv 0) (pa_cons (pe_op op_add (pe_callB call_len_str (by rfl) T.z_len (by decide +kernel) (pa_cons (pv 3) pa_nil)) pe_int) pa_nil))) (pa_cons (pe_call (ok_law_take T) (hr.mono (by decide)) rfl T.g_law_take T.F_law_take.kp T.b_law_take .nil pass0 (pa_cons (pv 0) (pa_cons pe_int pa_nil))) pa_nil)) (by rfl))
      (pss_cons (ps_set (i := 7) sc_law_changed.nd rfl (Or.inl rfl) (pe_ix ix_list (pv 1) (pe_call (ok_law_take T) (hr.mono (by decide)) rfl T.g_law_take T.F_law_take.kp T.b_law_take .nil pass0 (pa_cons (pv 0) (pa_cons pe_int pa_nil))) (fun _ _ => rfl)))
      (pss_one (ps_set (i := 3) sc_law_changed.nd rfl (Or.inl rfl) (pe_op op_add_str (pe_op op_add_str (pe_slice sl_str (pv 3) po_none (po_some (pv 5))) (pe_ix ix_list (pe_lst (pa_cons pe_str (pa_cons (pv 7) (pa_cons (pv 7) pa_nil)))) (pv 6) (fun _ _ => rfl))) (pe_slice sl_str (pv 3) (po_some (pe_op op_add (pv 5) (pe_ix ix_list (pe_lst (pa_cons pe_int (pa_cons pe_int (pa_cons pe_int pa_nil)))) (pv 6) (fun _ _ => rfl)))) po_none)))))))
      (pss_one (ps_ret (pv 3))))), ?_⟩
    refine ⟨_, rfl, _, rfl, p, n, 4, rfl, hb, by omega, by omega, by omega, fun d o hd ho => ?_⟩
    refine ⟨_, rfl, by omega, by omega, ?_⟩
    rw [Int.toNat_natCast]
    refine for_range (lo := 0) (n := d) (fun i σ H' => ∃ f x4 x5 x6 x7, σ = [some (.ref p), some (.ref l), some (.str (S t)), some (.str (S f)), x4, x5, x6, x7] ∧ Kp p H H' ∧ BoxAt H' p (n + 1 + 3 * i) ∧ Low f ∧ f.length ≤ t.length + i)
      ⟨t, none, none, none, none, rfl, (Kp.refl p H).upd, ho.at, lt, Nat.le_refl _⟩ ?_ ?_
    · rintro i σ H1 hi ⟨f, x4, x5, x6, x7, rfl, k1, b1, lf, bf⟩
      have hf : (S f).length ≤ sizeLine := by rw [S_len]; exact Nat.le_trans (by omega : f.length ≤ 10000) (by decide)
      refine ⟨_, rfl, _, rfl, _, rfl, hf, _, _, rfl, rfl, p, _, _, rfl, b1, by omega, by rw [S_len]; omega, by rw [S_len]; omega, fun d1 o1 hd1 ho1 => ?_⟩
      rw [S_len] at hd1
      refine ⟨_, rfl, p, _, 3, rfl, ho1.at, by omega, by omega, by omega, fun d2 o2 hd2 ho2 => ?_⟩
      refine ⟨_, _, rfl, ?_⟩
      refine ⟨_, rfl, _, rfl, p, _, 3, rfl, ho2.at, by omega, by omega, by omega, fun d3 o3 hd3 ho3 => ?_⟩
      have k3 := ((k1.upd (o := o1)).upd (o := o2)).upd (o := o3)
      obtain ⟨a, b, c, el, la, lb, lc⟩ := hl.kp k3 npl
      obtain ⟨x, lx, ex⟩ := three (d := d3) (by omega) la lb lc
      refine ⟨l, _, _, _, rfl, rfl, SqL.of el, atI_nat (j := d3) ex, ?_⟩
      refine ⟨_, rfl, _, rfl, _, rfl, _, rfl, hf, _, rfl, _, rfl, (by show 3 ≤ sizeLine; decide), fun q1 hq1 => ?_⟩
      obtain ⟨g, e, hg, e1, e2⟩ : ∃ (g : List Nat) (e : Nat), (g = [] ∨ g = [x]) ∧ [V.str (Str.ofString ""), V.str (S [x]), V.str (S [x])][d2]? = some (.str (S g)) ∧ [V.int 1, V.int 0, V.int 1][d2]? = some (.int e) := by
        have h2 : d2 < 3 := by omega
        match d2, h2 with
        | 0, _ => exact ⟨[], 1, .inl rfl, rfl, rfl⟩
        | 1, _ => exact ⟨[x], 0, .inr rfl, rfl, rfl⟩
        | 2, _ => exact ⟨[x], 1, .inr rfl, rfl, rfl⟩
      have lg : Low g := by rcases hg with rfl | rfl; exact Low.nil; exact Low.one lx
      have bg : g.length ≤ 1 := by rcases hg with rfl | rfl <;> simp
      have b3 : BoxAt (upd (upd (upd H1 p o1) p o2) p o3) p (n + 1 + 3 * (i + 1)) := ho3.at.mono (by omega)
      refine ⟨_, rfl, q1, _, _, _, rfl, rfl, SqL.of upd_same, atI_nat (j := d2) e1, _, _, rfl, rfl, ?_, ?_⟩
      · rw [cut_to, S_len, S_len, List.length_take]
        exact Nat.le_trans (by omega : min d1 f.length + g.length ≤ 10000) (by decide)
      refine ⟨_, rfl, _, rfl, (by show 3 ≤ sizeLine; decide), fun q2 hq2 => ?_⟩
      refine ⟨_, rfl, q2, _, _, _, rfl, rfl, SqL.of upd_same, atI_nat (j := d2) e2, _, _, rfl, rfl, _, rfl, _, rfl, hf, ?_⟩
      rw [show (d1 : Int) + (e : Int) = ((d1 + e : Nat) : Int) by omega, cut_to, cut_from, S_app]
      refine ⟨_, _, rfl, rfl, ?_, ?_⟩
      · rw [S_len, S_len, List.length_append, List.length_take, List.length_drop]
        exact Nat.le_trans (by omega : min d1 f.length + g.length + (f.length - (d1 + e)) ≤ 10000) (by decide)
      rw [S_app]
      refine ⟨f.take d1 ++ g ++ f.drop (d1 + e), _, _, _, _, rfl, (k3.new hq1).new hq2, (b3.new hq1).new hq2, ((lf.take d1).append lg).append (lf.drop _), ?_⟩
      rw [List.length_append, List.length_append, List.length_take, List.length_drop]
      omega
    · rintro σ H1 ⟨f, x4, x5, x6, x7, rfl, k1, b1, lf, bf⟩
      exact ⟨_, rfl, q f H1 lf (by omega) k1 (b1.mono (by omega))⟩
/-! ### the two texts -/
theorem alpha_at {d : Nat} (h : d < 26) : atI (Str.ofString "abcdefghijklmnopqrstuvwxyz").cps.toList (d : Int) = some (97 + d) := by
  have e : (Str.ofString "abcdefghijklmnopqrstuvwxyz").cps.toList = (List.range 26).map (97 + ·) := by decide +kernel
  rw [e]
  exact atI_nat (by rw [List.getElem?_map, List.getElem?_range h]; rfl)
theorem low_alpha {d : Nat} (h : d < 26) : low (97 + d) = true := by
  unfold low; simp; omega
theorem join_ones (t : List Nat) : Txt.join (Str.ofString "") (t.map fun c => S [c]) = S t := by
  rw [TL.join_eq]
  have e : cs (Str.join (Str.ofString "") (t.map fun c => S [c])) = t := by
    rw [show cs (Str.join (Str.ofString "") (t.map fun c => S [c])) = TL.tl (Str.join (Str.ofString "") (t.map fun c => S [c])) from rfl, TL.tl_join, List.map_map]
    have go : ∀ t : List Nat, TL.joinL [] (t.map fun c => [c]) = t := by
      intro t
      induction t with
      | nil => rfl
      | cons c r ih =>
        cases r with
        | nil => rfl
        | cons d r => show [c] ++ ([] ++ TL.joinL [] ((d :: r).map fun c => [c])) = _; rw [ih]; rfl
    exact go t
  rw [← S_of (Str.join _ _), e]
/-- one of the three letters -/
theorem letter_one {p l : Addr} {w' x3 x4 x5 : Option V} {H : Hp} {m : Nat} {Q : VK} (hb : BoxAt H p m) (hl : Let H l) (npl : l ≠ p) (hm : m < 1000000000) (h : ∀ c o, low c = true → BoxO (m + 1) o → Q (.str (S [c])) (L2.upd H p o)) :
    (tOp (rIxL K) (tVar 2) (tCall spTake [] E0 (tCons (tVar 0) (tCons (tC (.int 3)) tNil)))) [some (.ref p), w', some (.ref l), x3, x4, x5] H Q := by
  refine ⟨_, rfl, _, rfl, p, m, 3, rfl, hb, hm, by omega, by omega, fun d o hd ho => ?_⟩
  obtain ⟨a, b, c, el, la, lb, lc⟩ := hl
  obtain ⟨x, lx, ex⟩ := three (d := d) (by omega) la lb lc
  exact ⟨l, _, _, _, rfl, rfl, SqL.of (by rw [upd_ne npl]; exact el), atI_nat (j := d) ex, h x o lx ho⟩
/-- a list of such letters, made at D -/
def Acc (p : Addr) (m : Nat) (H : Hp) (D : Addr) (i : Nat) (H' : Hp) : Prop := Kp p H H' ∧ BoxAt H' p (m + i) ∧ ∃ t, Low t ∧ t.length = i ∧ H' D = some (.lst (t.map fun c => V.str (S [c])))
theorem Acc.start {p D : Addr} {m : Nat} {H : Hp} (hb : BoxAt H p m) (hD : H D = none) : Acc p m H D 0 (L2.upd H D (.lst [])) :=
  ⟨(Kp.refl p H).new hD, hb.new hD, [], Low.nil, rfl, upd_same⟩
theorem Acc.step {p D : Addr} {m i : Nat} {H H' : Hp} {o : HO} {c : Nat} (h : Acc p m H D i H') (npD : p ≠ D) (hD : H D = none) (hi : i < 100) (ho : BoxO (m + i + 1) o) (lc : low c = true) :
    ∃ acc, L2.upd H' p o D = some (.lst acc) ∧ acc.length < sizeLine ∧ Acc p m H D (i + 1) (L2.upd (L2.upd H' p o) D (.lst (acc ++ [.str (S [c])]))) := by
  obtain ⟨k, b, t, lt, le, e⟩ := h
  refine ⟨_, by rw [upd_ne npD.symm]; exact e, by rw [List.length_map]; exact Nat.lt_of_lt_of_le (by omega : t.length < 100) (by decide), k.upd.free hD, ho.at.other npD, t ++ [c], lt.append (Low.one lc), by simp [le], ?_⟩
  rw [upd_same, List.map_append]; rfl
end
end My

set_option Elab.async false
set_option linter.all false
set_option maxRecDepth 100000
set_option maxHeartbeats 8000000
namespace My
open PySem PySem.Spec PyProof.Rows L2
theorem ones_sum (t : List Nat) : (List.map ((fun x : Str => x.length) ∘ fun c => S [c]) t).sum = t.length := by
  induction t with
  | nil => rfl
  | cons c r ih => rw [List.map_cons, List.sum_cons, ih, List.length_cons]; show 1 + _ = _; omega
section
variable {P : Program} {w : World} {K : PySem.W.Frag} {mg : Str → Option Value} {base : Heap}
def spTexts : Sp := fun vs H Q _ => ∃ (p : Addr) (n : Nat), vs = [.ref p] ∧ BoxAt H p n ∧ n < 1000000 ∧
  ∀ (t u : List Nat) q H', Low t → Low u → t.length ≤ 11 → u.length ≤ 14 → Kp p H H' → BoxAt H' p (n + 100) → H' q = none → Q (.ref q) (L2.upd H' q (.lst [.str (S t), .str (S u)]))
theorem ok_law_texts (T : Txt K mg) : FnOk P w K mg base CX0 3 T.f_law_texts T.fd_law_texts ["box"] spTexts := by
  refine T.F_law_texts.ok sc_law_texts (fun vs H Q E h => ?_) (fun cdv A outer s H vs Q E hr h => ?_)
  · obtain ⟨p, n, rfl, _⟩ := h; rfl
  · obtain ⟨p, n, rfl, hb, hn, q⟩ := h
    refine ⟨_, (pss_cons (ps_set (i := 1) sc_law_texts.nd rfl (Or.inl rfl) (pe_call (ok_law_take T) (hr.mono (by decide)) rfl T.g_law_take T.F_law_take.kp T.b_law_take .nil pass0 (pa_cons (pv 0) (pa_cons pe_int pa_nil))))
      (pss_cons (ps_set (i := 2) sc_law_texts.nd rfl (Or.inr rfl) (pe_lc (own := [("k", 3)]) (g := gName 3) (by rfl) sc_law_texts.nd (pi_range1 rfl T.z_range (pa_cons pe_int pa_nil)) (blkOk_by (own := [("k", 3)]) (N := N_law_texts) (sc := defScope s_law_texts) (by decide +kernel)) (fun _ _ _ _ _ => pg_name (i := 3) sc_law_texts.nd rfl (Or.inl rfl)) (fun _ _ _ _ _ => pts_nil) (fun _ _ _ _ _ => (pe_ix ix_str pe_str (pe_call (ok_law_take T) (hr.mono (by decide)) rfl T.g_law_take T.F_law_take.kp T.b_law_take .nil pass0 (pa_cons (pv 0) (pa_cons pe_int pa_nil))) (fun _ _ => rfl)))))
      (pss_cons (ps_asg (pe_ix ix_list (pv 2) (pe_call (ok_law_take T) (hr.mono (by decide)) rfl T.g_law_take T.F_law_take.kp T.b_law_take .nil pass0 (pa_cons (pv 0) (pa_cons pe_int pa_nil))) (fun _ _ => rfl)) (pg_sub (pv 2) pe_int set_list))
      (pss_cons (ps_set (i := 4) sc_law_texts.nd rfl (Or.inl rfl) (pe_ix ix_list (pe_lst (pa_cons pe_int (pa_cons pe_int (pa_cons pe_int (pa_cons pe_int (pa_cons pe_int (pa_cons pe_int (pa_cons pe_int (pa_cons pe_int pa_nil))))))))) (pe_call (ok_law_take T) (hr.mono (by decide)) rfl T.g_law_take T.F_law_take.kp T.b_law_take .nil pass0 (pa_cons (pv 0) (pa_cons pe_int pa_nil))) (fun _ _ => rfl)))
      (pss_cons (ps_set (i := 5) sc_law_texts.nd rfl (Or.inl rfl) (pe_bm PySem.F.plainAttrs_str PySem.F.slot_str_join PySem.F.type_str_join mt_join pe_str (pa_cons (pe_lc (own := [("k", 3)]) (g := gName 3) (by rfl) sc_law_texts.nd (pi_range1 rfl T.z_range (pa_cons (pv 4) pa_nil)) (blkOk_by (own := [("k", 3)]) (N := N_law_texts) (sc := defScope s_law_texts) (by decide +kernel)) (fun _ _ _ _ _ => pg_name (i := 3) sc_law_texts.nd rfl (Or.inl rfl)) (fun _ _ _ _ _ => pts_nil) (fun _ _ _ _ _ => (pe_ix (ix_listK (K := K) rfl) (pv 2) (pe_call (ok_law_take T) (hr.mono (by decide)) rfl T.g_law_take T.F_law_take.kp T.b_law_take .nil pass0 (pa_cons (pv 0) (pa_cons pe_int pa_nil))) (fun _ _ => rfl)))) pa_nil)))
      (pss_cons (ps_if (pt_cmpR op_lt (pv 1) pe_int (nomark _)) (pss_one (ps_ret (pe_lst (pa_cons (pv 5) (pa_cons (pe_call (ok_law_turned T) (hr.mono (by decide)) rfl T.g_law_turned T.F_law_turned.kp T.b_law_turned .nil pass0 (pa_cons (pv 0) (pa_cons (pe_call (ok_law_changed T) (hr.mono (by decide)) rfl T.g_law_changed T.F_law_changed.kp T.b_law_changed .nil pass0 (pa_cons (pv 0) (pa_cons (pv 2) (pa_cons (pv 5) pa_nil)))) pa_nil))) pa_nil))))) pss_nil)
      (pss_cons (ps_if (pt_cmpR op_eq (pv 1) pe_int (nomark _)) (pss_one (ps_ret (pe_lst (pa_cons (pv 5) (pa_cons (pe_call (ok_law_turned T) (hr.mono (by decide)) rfl T.g_law_turned T.F_law_turned.kp T.b_law_turned .nil pass0 (pa_cons (pv 0) (pa_cons (pe_op op_mul_str (pe_slice sl_str (pv 5) po_none (po_some (pe_op op_add pe_int (pe_call (ok_law_take T) (hr.mono (by decide)) rfl T.g_law_take T.F_law_take.kp T.b_law_take .nil pass0 (pa_cons (pv 0) (pa_cons pe_int pa_nil)))))) pe_int) pa_nil))) pa_nil))))) pss_nil)
      (pss_cons (ps_if (pt_cmpR op_eq (pv 1) pe_int (nomark _)) (pss_one (ps_ret (pe_lst (pa_cons (pv 5) (pa_cons (pe_ix ix_list (pe_lst (pa_cons (pv 5) (pa_cons pe_str pa_nil))) (pe_call (ok_law_take T) (hr.mono (by decide)) rfl T.g_law_take T.F_law_take.kp T.b_law_take .nil pass0 (pa_cons (pv 0) (pa_cons pe_int pa_nil))) (fun _ _ => rfl)) pa_nil))))) pss_nil)
      (pss_one (ps_ret (pe_lst (pa_cons (pv 5) (pa_cons (pe_bm PySem.F.plainAttrs_str PySem.F.slot_str_join PySem.F.type_str_join mt_join pe_str (pa_cons (pe_lc (own := [("k", 3)]) (g := gName 3) (by rfl) sc_law_texts.nd (pi_range1 rfl T.z_range (pa_cons (pe_call (ok_law_take T) (hr.mono (by decide)) rfl T.g_law_take T.F_law_take.kp T.b_law_take .nil pass0 (pa_cons (pv 0) (pa_cons pe_int pa_nil))) pa_nil)) (blkOk_by (own := [("k", 3)]) (N := N_law_texts) (sc := defScope s_law_texts) (by decide +kernel)) (fun _ _ _ _ _ => pg_name (i := 3) sc_law_texts.nd rfl (Or.inl rfl)) (fun _ _ _ _ _ => pts_nil) (fun _ _ _ _ _ => (pe_ix (ix_listK (K := K) rfl) (pv 2) (pe_call (ok_law_take T) (hr.mono (by decide)) rfl T.g_law_take T.F_law_take.kp T.b_law_take .nil pass0 (pa_cons (pv 0) (pa_cons pe_int pa_nil))) (fun _ _ => rfl)))) pa_nil)) pa_nil))))))))))))), ?_⟩
    -- way
    refine ⟨_, rfl, p, n, 8, rfl, hb, by omega, by omega, by omega, fun way o hway ho => ?_⟩
    -- letters
    refine ⟨3, rfl, by decide, by decide, fun D hD => ?_⟩
    have b1 : BoxAt (L2.upd H p o) p (n + 1) := ho.at
    have npD : p ≠ D := b1.ne hD
    refine lc_range (lo := 0) (n := 3) (Acc p (n + 1) (L2.upd H p o) D) (Acc.start b1 hD) ?_ ?_
    · rintro i H1 hi h1
      refine ⟨rfl, tYesT ?_⟩
      have h1' := h1
      obtain ⟨k1, bx, _⟩ := h1'
      refine ⟨_, rfl, p, _, 26, rfl, bx, by omega, by omega, by omega, fun d o1 hd ho1 => ?_⟩
      exact ⟨_, _, _, rfl, rfl, (by show 26 ≤ sizeLine; decide), alpha_at (by omega), h1.step npD hD (by omega) ho1 (low_alpha (by omega))⟩
    rintro H1 ⟨k1, bx, ls, lls, len3, eD⟩
    -- letters[2]
    obtain ⟨a, b, c, rfl⟩ : ∃ a b c, ls = [a, b, c] := by
      match ls, len3 with
      | [a, b, c], _ => exact ⟨a, b, c, rfl⟩
    have la := lls a (by simp)
    have lb := lls b (by simp)
    have lc := lls c (by simp)
    refine ⟨_, rfl, _, rfl, p, _, 3, rfl, bx, by omega, by omega, by omega, fun d o1 hd ho1 => ?_⟩
    obtain ⟨x, lx, ex⟩ := three (d := d) (by omega) la lb lc
    have eD2 : (L2.upd H1 p o1) D = some (.lst [.str (S [a]), .str (S [b]), .str (S [c])]) := by rw [upd_ne npD.symm]; exact eD
    refine ⟨D, _, _, _, rfl, rfl, SqL.of eD2, atI_nat (j := d) ex, ?_⟩
    refine ⟨_, rfl, D, _, 2, 2, rfl, rfl, eD2, rfl, ?_⟩
    have hl : Let (L2.upd (L2.upd H1 p o1) D (.lst ([V.str (S [a]), .str (S [b]), .str (S [c])].set 2 (.str (S [x]))))) D := ⟨a, b, x, upd_same, la, lb, lx⟩
    have bL : BoxAt (L2.upd (L2.upd H1 p o1) D (.lst ([V.str (S [a]), .str (S [b]), .str (S [c])].set 2 (.str (S [x]))))) p (n + 5) := ho1.at.other npD
    have kL : Kp p H (L2.upd (L2.upd H1 p o1) D (.lst ([V.str (S [a]), .str (S [b]), .str (S [c])].set 2 (.str (S [x]))))) := by
      have hDn : H D = none := by rw [upd_ne npD.symm] at hD; exact hD
      exact ((Kp.refl p H).upd.trans k1).upd.free hDn
    generalize L2.upd (L2.upd H1 p o1) D (.lst ([V.str (S [a]), .str (S [b]), .str (S [c])].set 2 (.str (S [x])))) = H2 at hl bL kL
    -- size
    refine ⟨(by show 8 ≤ sizeLine; decide), fun q1 hq1 => ?_⟩
    have npq : p ≠ q1 := bL.ne hq1
    refine ⟨_, rfl, p, _, 8, rfl, bL.new hq1, by omega, by omega, by omega, fun d2 o2 hd2 ho2 => ?_⟩
    obtain ⟨m, hm, em⟩ : ∃ m : Nat, m ≤ 11 ∧ [V.int 5, .int 3, .int 7, .int 6, .int 4, .int 11, .int 1, .int 0][d2]? = some (.int m) := by
      have h8 : d2 < 8 := by omega
      match d2, h8 with
      | 0, _ => exact ⟨5, by omega, rfl⟩
      | 1, _ => exact ⟨3, by omega, rfl⟩
      | 2, _ => exact ⟨7, by omega, rfl⟩
      | 3, _ => exact ⟨6, by omega, rfl⟩
      | 4, _ => exact ⟨4, by omega, rfl⟩
      | 5, _ => exact ⟨11, by omega, rfl⟩
      | 6, _ => exact ⟨1, by omega, rfl⟩
      | 7, _ => exact ⟨0, by omega, rfl⟩
    refine ⟨q1, _, _, _, rfl, rfl, SqL.of (by rw [upd_ne npq.symm]; exact upd_same), atI_nat (j := d2) em, ?_⟩
    have npl : D ≠ p := npD.symm
    have b3 : BoxAt (L2.upd (L2.upd H2 q1 (.lst [V.int 5, .int 3, .int 7, .int 6, .int 4, .int 11, .int 1, .int 0])) p o2) p (n + 6) := ho2.at
    have k3 : Kp p H2 (L2.upd (L2.upd H2 q1 (.lst [V.int 5, .int 3, .int 7, .int 6, .int 4, .int 11, .int 1, .int 0])) p o2) := ((Kp.refl p H2).new hq1).upd
    generalize L2.upd (L2.upd H2 q1 (.lst [V.int 5, .int 3, .int 7, .int 6, .int 4, .int 11, .int 1, .int 0])) p o2 = H3 at b3 k3
    have hl3 := hl.kp k3 npl
    have kH3 := kL.trans k3
    -- text
    refine ⟨rfl, _, rfl, (m : Int), rfl, by omega, by omega, fun D2 hD2 => ?_⟩
    rw [Int.toNat_natCast]
    have npD2 : p ≠ D2 := b3.ne hD2
    refine lc_range (lo := 0) (n := m) (Acc p (n + 6) H3 D2) (Acc.start b3 hD2) ?_ ?_
    · rintro i H4 hi h4
      refine ⟨rfl, tYesT ?_⟩
      exact letter_one h4.2.1 (hl3.kp h4.1 npl) npl (by omega) fun c o lc ho => h4.step npD2 hD2 (by omega) ho lc
    rintro H4 ⟨k4, b4, t, lt, lent, e4⟩
    have bt : t.length ≤ 11 := by omega
    have htf : (S t).length ≤ sizeLine := by rw [S_len]; exact Nat.le_trans bt (by decide)
    refine ⟨_, D2, t.map fun c => S [c], rfl, rfl, .inl (SqL.of (by rw [List.map_map]; exact e4)), ?_, ?_⟩
    · rw [List.map_map, ones_sum, List.length_map]
      show _ + _ * 0 ≤ _
      omega
    rw [join_ones]
    have kH4 := kH3.trans k4
    have hl4 := hl3.kp k4 npl
    have b4' : BoxAt H4 p (n + 20) := b4.mono (by omega)
    clear hl kL k3 hl3 kH3 e4 k4 b4 bL bx eD hb
    refine ⟨_, rfl, _, _, rfl, rfl, _, rfl, ite2 (fun _ => ?_) (fun _ => ?_)⟩
    · refine ⟨_, rfl, _, rfl, _, rfl, _, rfl, _, rfl, p, D, n + 20, t, rfl, b4', by omega, hl4, npl, lt, by omega, fun t' H5 lt' bt' k5 b5 => ?_⟩
      refine ⟨p, n + 30, t', rfl, b5, by omega, (by show t'.length ≤ 100000; omega), fun a H6 ha k6 b6 => ?_⟩
      exact ⟨(by show 2 ≤ sizeLine; decide), fun q2 hq2 => q t (rot a t') q2 H6 lt (lt'.rot a) bt (by rw [rot_len]; omega) ((kH4.trans k5).trans k6) (b6.mono (by omega)) hq2⟩
    refine ⟨_, rfl, rfl, _, rfl, ite2 (fun _ => ?_) (fun _ => ?_)⟩
    · refine ⟨_, rfl, _, rfl, _, rfl, _, rfl, p, n + 20, 3, rfl, b4', by omega, by omega, by omega, fun d3 o3 hd3 ho3 => ?_⟩
      refine ⟨_, _, rfl, rfl, _, rfl, _, rfl, htf, ?_⟩
      rw [show (1 : Int) + (d3 : Int) = ((1 + d3 : Nat) : Int) by omega, cut_to]
      refine ⟨_, _, rfl, rfl, mulOk_S (n := 2) (by rw [List.length_take]; omega) (by omega), ?_⟩
      have em := mul_S (t.take (1 + d3)) 2
      rw [show ((2 : Nat) : Int) = 2 from rfl] at em
      rw [em]
      have lr : Low (Lev.rounds 2 (t.take (1 + d3))) := (lt.take _).append ((lt.take _).append Low.nil)
      have br : (Lev.rounds 2 (t.take (1 + d3))).length ≤ 6 := by rw [Lev.rounds_len, List.length_take]; omega
      refine ⟨p, n + 21, _, rfl, ho3.at, by omega, (by show _ ≤ 100000; omega), fun a H6 ha k6 b6 => ?_⟩
      exact ⟨(by show 2 ≤ sizeLine; decide), fun q2 hq2 => q t _ q2 H6 lt (lr.rot a) bt (by rw [rot_len]; omega) (kH4.upd.trans k6) (b6.mono (by omega)) hq2⟩
    refine ⟨_, rfl, rfl, _, rfl, ite2 (fun _ => ?_) (fun _ => ?_)⟩
    · refine ⟨_, rfl, _, rfl, (by show 2 ≤ sizeLine; decide), fun q2 hq2 => ?_⟩
      have npq2 : p ≠ q2 := b4'.ne hq2
      refine ⟨_, rfl, p, n + 20, 2, rfl, b4'.new hq2, by omega, by omega, by omega, fun d3 o3 hd3 ho3 => ?_⟩
      obtain ⟨u, lu, bu, eu⟩ : ∃ u : List Nat, Low u ∧ u.length ≤ 14 ∧ [V.str (S t), V.str (Str.ofString "")][d3]? = some (.str (S u)) := by
        have h2 : d3 < 2 := by omega
        match d3, h2 with
        | 0, _ => exact ⟨t, lt, by omega, rfl⟩
        | 1, _ => exact ⟨[], Low.nil, by simp, rfl⟩
      refine ⟨q2, _, _, _, rfl, rfl, SqL.of (by rw [upd_ne npq2.symm]; exact upd_same), atI_nat (j := d3) eu, ?_⟩
      exact ⟨(by show 2 ≤ sizeLine; decide), fun q3 hq3 => q t u q3 _ lt lu bt bu (kH4.new hq2).upd (ho3.at.mono (by omega)) hq3⟩
    refine ⟨_, rfl, rfl, _, rfl, p, n + 20, 7, rfl, b4', by omega, by omega, by omega, fun d3 o3 hd3 ho3 => ?_⟩
    refine ⟨_, rfl, by omega, by omega, fun D3 hD3 => ?_⟩
    rw [Int.toNat_natCast]
    have b5 : BoxAt (L2.upd H4 p o3) p (n + 21) := ho3.at
    have npD3 : p ≠ D3 := b5.ne hD3
    have hl5 := hl4.kp ((Kp.refl p H4).upd (o := o3)) npl
    have k5 := kH4.upd (o := o3)
    generalize L2.upd H4 p o3 = H5 at hD3 b5 hl5 k5
    refine lc_range (lo := 0) (n := d3) (Acc p (n + 21) H5 D3) (Acc.start b5 hD3) ?_ ?_
    · rintro i H6 hi h6
      refine ⟨rfl, tYesT ?_⟩
      exact letter_one h6.2.1 (hl5.kp h6.1 npl) npl (by omega) fun c o lc ho => h6.step npD3 hD3 (by omega) ho lc
    rintro H6 ⟨k6, b6, u, lu, lenu, e6⟩
    refine ⟨_, D3, u.map fun c => S [c], rfl, rfl, .inl (SqL.of (by rw [List.map_map]; exact e6)), ?_, ?_⟩
    · rw [List.map_map, ones_sum, List.length_map]
      show _ + _ * 0 ≤ _
      omega
    rw [join_ones]
    exact ⟨(by show 2 ≤ sizeLine; decide), fun q3 hq3 => q t u q3 H6 lt lu bt (by omega) (k5.trans k6) (b6.mono (by omega)) hq3⟩
end
end My

set_option Elab.async false
set_option linter.all false
set_option maxRecDepth 100000
set_option maxHeartbeats 8000000
namespace My
open PySem PySem.Spec PyProof.Rows L2
theorem tyOf_same {K : PySem.W.Frag} {H H' : Hp} {x : V} {t : Value} (h : TyOf K H x t) (s : Same H H') : TyOf K H' x t := by
  cases h
  case non => exact .non
  case bl => exact .bl _
  case int => exact .int _
  case str => exact .str _
  case flt => exact .flt _
  case lst e => exact .lst (s _ _ e)
  case frz e => exact .frz (s _ _ e)
  case tup e => exact .tup (s _ _ e)
  case dK e => exact .dK (s _ _ e)
  case dT e => exact .dT (s _ _ e)
  case ins e cl ha hn htk hm => exact .ins (s _ _ e) cl ha hn htk hm
theorem tyX_same {K : PySem.W.Frag} {H H' : Hp} {x : V} {t : Value} (h : TyX K H x t) (s : Same H H') : TyX K H' x t := by
  cases h
  case base e => exact .base (tyOf_same e s)
  case byt => exact .byt _
  case set e => exact .set (s _ _ e)
  case kList e c => exact .kList e c
  case kTuple e c => exact .kTuple e c
  case kDict e c => exact .kDict e c
  case fTuple e => exact .fTuple (s _ _ e)
  case fDict e => exact .fDict (s _ _ e)
theorem Jd.same {K : PySem.W.Frag} {H H' : Hp} {x : V} {b : Bool} (h : Jd K H x b) (s : Same H H') : Jd K H' x b := by
  rcases h with h | ⟨t, h1, h2, h3⟩
  · exact .inl h
  · exact .inr ⟨t, tyX_same h1 s, h2, h3⟩
section
variable {P : Program} {w : World} {K : PySem.W.Frag} {mg : Str → Option Value} {base : Heap}
theorem kb_round_price_other_one (T : Txt K mg) : KBinds K T.fd_round_price ["one", "other"] ["other", "one"] (fun us ws => match us, ws with | [], [x1, x0] => [x0, x1] | _, _ => []) (fun us ws => match us, ws with | [], [x1, x0] => [x0, x1] | _, _ => []) := by
  obtain ⟨oc, od, kV, doc, pm, an, cdv, ct, osl, e, _, _⟩ := T.F_round_price.ex
  refine ⟨fun s us ws _ hl => ?_, fun r rz => ?_⟩
  · match us, ws, hl with
    | [], [x1, x0], _ =>
      rw [e]
      exact .of_eq rfl
  · match r, rz with
    | .nil, .cons r1 (.cons r0 (.nil)) => exact .cons r0 (.cons r1 (.nil))
    | .nil, .nil => exact .nil
    | .nil, .cons _ (.nil) => exact .nil
    | .nil, .cons _ (.cons _ (.cons _ _)) => exact .nil
    | .cons _ _, _ => exact .nil

def spMet (K : PySem.W.Frag) : Sp := fun vs H Q _ => ∃ (i : Int) (x y : V) (bx b2 : Bool), vs = [.int i, x, y] ∧ Jd K H x bx ∧ Jd K H y b2 ∧
  (bx = false → ∀ q H', Same H H' → H' q = none → Q (.ref q) (upd H' q (.lst [.str "text", x]))) ∧
  (bx = true → b2 = false → ∀ q H', Same H H' → H' q = none → Q (.ref q) (upd H' q (.lst [.str "text", y]))) ∧
  (bx = true → b2 = true → ∃ u v : List Nat, x = .str (S u) ∧ y = .str (S v) ∧ u.length ≤ 50 ∧ v.length ≤ 50 ∧ ∀ (r : Nat) q H', Lev.Rp u v r → Same H H' → H' q = none → Q (.ref q) (upd H' q (.lst [.str "told", .int r])))
theorem ok_law_met (T : Txt K mg) : FnOk P w K mg base CX0 5 T.f_law_met T.fd_law_met ["which", "first", "second"] (spMet K) := by
  refine T.F_law_met.ok sc_law_met (fun vs H Q E h => ?_) (fun cdv A outer s H vs Q E hr h => ?_)
  · obtain ⟨i, x, y, _, _, rfl, _⟩ := h; rfl
  · obtain ⟨i, x, y, bx, b2, rfl, jx, jy, kX, kY, kQ⟩ := h
    refine ⟨_, (pss_one (ps_try_as (i := 3) rfl rfl sc_law_met.nd rfl rfl ⟨rfl, by decide, Or.inl T.e_InvalidText.gC⟩ takes0 (fun W pn xe tk _ => (pss_one (ps_ret (pe_lst (pa_cons pe_str (pa_cons (pe_ifExp (pt_cmpR op_eq (pv 0) pe_int (nomark _)) (pe_callS (ok_round_price T) (hr.mono (by decide)) rfl T.g_round_price T.F_round_price.kp T.b_round_price (fun σ => passAt tk σ) (pa_cons (pv 1) (pa_cons (pv 2) pa_nil))) (pe_callKS (ok_round_price T) (hr.mono (by decide)) rfl T.g_round_price T.F_round_price.kp (kb_round_price_other_one T) (fun σ => passAt tk σ) (pk_cons (pv 2) (pk_cons (pv 1) pk_nil)))) pa_nil)))))) (fun a oe cls d pn hz hf => (pss_one (ps_ret (pe_lst (pa_cons pe_str (pa_cons (pe_gvn T.e_InvalidText hz hf (pv 3)) pa_nil)))))))), ?_⟩
    have st : ∀ t, H t = none → Jd K (upd H t (.tup [x, y])) x bx ∧ Jd K (upd H t (.tup [x, y])) y b2 := fun t ht => ⟨jx.same (Same.new (Same.refl H) ht), jy.same (Same.new (Same.refl H) ht)⟩
    refine ⟨_, rfl, rfl, _, rfl, ite2 (fun c => ?_) (fun c => ?_)⟩
    all_goals
      refine ⟨_, rfl, _, rfl, x, y, bx, b2, rfl, jx, jy, st, fun eb d H' s' _ ed => ?_, fun ex ey d H' s' _ ed => ?_, fun ex ey => ?_⟩
      · exact ⟨true, T.x_InvalidText, fun _ a _ => ⟨_, rfl, rfl, rfl, d, _, rfl, ed, (by show 2 ≤ sizeLine; decide), fun q hq => kX eb q H' s' hq⟩, fun z => by cases z⟩
      · exact ⟨true, T.x_InvalidText, fun _ a _ => ⟨_, rfl, rfl, rfl, d, _, rfl, ed, (by show 2 ≤ sizeLine; decide), fun q hq => kY ex ey q H' s' hq⟩, fun z => by cases z⟩
      · obtain ⟨u, v, e1, e2, hu, hv, k⟩ := kQ ex ey
        exact ⟨u, v, e1, e2, hu, hv, fun r H' s' rp => ⟨(by show 2 ≤ sizeLine; decide), fun q hq => k r q H' rp s' hq⟩⟩
/-! ### what is no text -/
def Od (H : Hp) (x : V) : Prop := (∃ z, x = .str (S z) ∧ isT (S z) = false ∧ z.length ≤ 100 ∧ ∀ c ∈ z, c < 200) ∨ x = .non ∨ x = .int 5 ∨ x = .bl true ∨
  (∃ a t, x = .ref a ∧ H a = some (.lst [.str (S t)]) ∧ t.length ≤ 100 ∧ Low t) ∨ (∃ a t, x = .ref a ∧ H a = some (.tup [.str (S t), .str "a"]) ∧ t.length ≤ 100 ∧ Low t) ∨ (∃ a, x = .ref a ∧ H a = some (.dK []))
theorem Low.lt {t : List Nat} (h : Low t) : ∀ c ∈ t, c < 200 := fun c hc => by
  have := h c hc
  unfold low at this
  simp only [Bool.and_eq_true, decide_eq_true_eq] at this
  omega
def spOdd : Sp := fun vs H Q _ => ∃ (p : Addr) (n : Nat) (t : List Nat), vs = [.ref p, .str (S t)] ∧ BoxAt H p n ∧ n < 1000000 ∧ Low t ∧ t.length ≤ 50 ∧
  ∀ x H', Od H' x → Kp p H H' → BoxAt H' p (n + 2) → Q x H'
theorem ok_law_odd (T : Txt K mg) : FnOk P w K mg base CX0 2 T.f_law_odd T.fd_law_odd ["box", "text"] spOdd := by
  refine T.F_law_odd.ok sc_law_odd (fun vs H Q E h => ?_) (fun cdv A outer s H vs Q E hr h => ?_)
  · obtain ⟨p, n, t, rfl, _⟩ := h; rfl
  · obtain ⟨p, n, t, rfl, hb, hn, lt, bt, q⟩ := h
    have ht : (S t).length ≤ sizeLine := by rw [S_len]; exact Nat.le_trans bt (by decide)
    refine ⟨_, (pss_cons (ps_par (i := 2) (j := 3) (by rfl) sc_law_odd.nd rfl rfl (by decide) rfl rfl (pa_cons (pe_call (ok_law_take T) (hr.mono (by decide)) rfl T.g_law_take T.F_law_take.kp T.b_law_take .nil pass0 (pa_cons (pv 0) (pa_cons pe_int pa_nil))) (pa_cons (pe_call (ok_law_take T) (hr.mono (by decide)) rfl T.g_law_take T.F_law_take.kp T.b_law_take .nil pass0 (pa_cons (pv 0) (pa_cons (pe_op op_add (pe_callB call_len_str (by rfl) T.z_len (by decide +kernel) (pa_cons (pv 1) pa_nil)) pe_int) pa_nil))) pa_nil)) (by rfl))
      (pss_cons (ps_if (pt_cmpR op_lt (pv 2) pe_int (nomark _)) (pss_one (ps_ret (pe_op op_add_str (pe_op op_add_str (pe_slice sl_str (pv 1) po_none (po_some (pv 3))) (pe_ix ix_list (pe_lst (pa_cons pe_str (pa_cons pe_str (pa_cons pe_str (pa_cons pe_str (pa_cons pe_str (pa_cons pe_str (pa_cons pe_str pa_nil)))))))) (pv 2) (fun _ _ => rfl))) (pe_slice sl_str (pv 1) (po_some (pv 3)) po_none)))) pss_nil)
      (pss_one (ps_ret (pe_ix ix_list (pe_lst (pa_cons pe_non (pa_cons pe_int (pa_cons pe_bl (pa_cons (pe_lst (pa_cons (pv 1) pa_nil)) (pa_cons (pe_tup (pa_cons (pv 1) (pa_cons pe_str pa_nil))) (pa_cons pe_dnewK pa_nil))))))) (pe_op op_sub (pv 2) pe_int) (fun _ _ => rfl)))))), ?_⟩
    refine ⟨_, rfl, p, n, 13, rfl, hb, by omega, by omega, by omega, fun way o hway ho => ?_⟩
    refine ⟨_, rfl, _, rfl, _, rfl, ht, _, _, rfl, rfl, p, _, _, rfl, ho.at, by omega, by rw [S_len]; omega, by rw [S_len]; omega, fun d o2 hd ho2 => ?_⟩
    rw [S_len] at hd
    have k0 := ((Kp.refl p H).upd (o := o)).upd (o := o2)
    have b0 : BoxAt (upd (upd H p o) p o2) p (n + 2) := ho2.at
    generalize upd (upd H p o) p o2 = H1 at k0 b0
    refine ⟨_, _, rfl, _, rfl, _, _, rfl, rfl, _, rfl, ite2 (fun c => ?_) (fun c => ?_)⟩
    · have c' : (way : Int) < 7 := of_decide_eq_true c
      obtain ⟨x, lx, bx, ex⟩ : ∃ x : Nat, low x = false ∧ x < 200 ∧ [V.str (Str.ofString "A"), .str (Str.ofString "{"), .str (Str.ofString " "), .str (Str.ofString "0"), .str (Str.ofString "-"), .str (Str.ofString "Z"), .str (Str.ofString "\n")][way]? = some (.str (S [x])) := by
        have h7 : way < 7 := by omega
        match way, h7 with
        | 0, _ => exact ⟨65, by decide, by omega, congrArg (fun z => some (V.str z)) (by decide +kernel)⟩
        | 1, _ => exact ⟨123, by decide, by omega, congrArg (fun z => some (V.str z)) (by decide +kernel)⟩
        | 2, _ => exact ⟨32, by decide, by omega, congrArg (fun z => some (V.str z)) (by decide +kernel)⟩
        | 3, _ => exact ⟨48, by decide, by omega, congrArg (fun z => some (V.str z)) (by decide +kernel)⟩
        | 4, _ => exact ⟨45, by decide, by omega, congrArg (fun z => some (V.str z)) (by decide +kernel)⟩
        | 5, _ => exact ⟨90, by decide, by omega, congrArg (fun z => some (V.str z)) (by decide +kernel)⟩
        | 6, _ => exact ⟨10, by decide, by omega, congrArg (fun z => some (V.str z)) (by decide +kernel)⟩
      refine ⟨_, rfl, _, rfl, _, rfl, _, rfl, ht, (by show 7 ≤ sizeLine; decide), fun q1 hq1 => ?_⟩
      refine ⟨_, rfl, q1, _, _, _, rfl, rfl, SqL.of upd_same, atI_nat (j := way) ex, _, _, rfl, rfl, ?_, ?_⟩
      · rw [cut_to, S_len, S_len, List.length_take]
        exact Nat.le_trans (by simp; omega : min d t.length + [x].length ≤ 100) (by decide)
      refine ⟨_, rfl, _, rfl, _, rfl, _, rfl, ht, ?_⟩
      rw [cut_to, cut_from, S_app]
      refine ⟨_, _, rfl, rfl, ?_, ?_⟩
      · rw [S_len, S_len, List.length_append, List.length_take, List.length_drop]
        exact Nat.le_trans (by simp; omega : min d t.length + [x].length + (t.length - d) ≤ 200) (by decide)
      rw [S_app]
      refine q _ _ (.inl ⟨_, rfl, ?_, ?_, fun c hc => ?_⟩) (k0.new hq1) (b0.new hq1)
      · unfold isT
        rw [S_tl, List.all_eq_false]
        exact ⟨x, by simp, by simp [lx]⟩
      · simp only [List.length_append, List.length_take, List.length_drop, List.length_singleton]; omega
      · simp only [List.mem_append, List.mem_singleton] at hc
        rcases hc with (hc | hc) | hc
        · exact lt.lt c (List.mem_of_mem_take hc)
        · omega
        · exact lt.lt c (List.mem_of_mem_drop hc)
    · have c' : ¬ (way : Int) < 7 := fun z => c (decide_eq_true z)
      refine ⟨_, rfl, (by show 1 ≤ sizeLine; decide), fun q1 hq1 => ?_⟩
      refine ⟨_, rfl, (by show 2 ≤ sizeLine; decide), fun q2 hq2 => ?_⟩
      intro q3 hq3
      refine ⟨(by show 6 ≤ sizeLine; decide), fun q4 hq4 => ?_⟩
      have k4 := ((((k0.new hq1 (o := .lst [.str (S t)])).new hq2 (o := .tup [.str (S t), .str "a"])).new hq3 (o := .dK []))).new hq4 (o := .lst [.non, .int 5, .bl true, .ref q1, .ref q2, .ref q3])
      have b4 := ((((b0.new hq1 (o := .lst [.str (S t)])).new hq2 (o := .tup [.str (S t), .str "a"])).new hq3 (o := .dK []))).new hq4 (o := .lst [.non, .int 5, .bl true, .ref q1, .ref q2, .ref q3])
      have n12 : q1 ≠ q2 := ne_of_none upd_same hq2
      have n13 : q1 ≠ q3 := ne_of_none (by rw [upd_ne n12]; exact upd_same) hq3
      have n23 : q2 ≠ q3 := ne_of_none upd_same hq3
      have n14 : q1 ≠ q4 := ne_of_none (by rw [upd_ne n13, upd_ne n12]; exact upd_same) hq4
      have n24 : q2 ≠ q4 := ne_of_none (by rw [upd_ne n23]; exact upd_same) hq4
      have n34 : q3 ≠ q4 := ne_of_none upd_same hq4
      obtain ⟨x, ox, ex⟩ : ∃ x, Od (upd (upd (upd (upd H1 q1 (.lst [.str (S t)])) q2 (.tup [.str (S t), .str "a"])) q3 (.dK [])) q4 (.lst [.non, .int 5, .bl true, .ref q1, .ref q2, .ref q3])) x ∧ [V.non, .int 5, .bl true, .ref q1, .ref q2, .ref q3][way - 7]? = some x := by
        have h6 : way - 7 < 6 := by omega
        generalize way - 7 = j at h6
        match j, h6 with
        | 0, _ => exact ⟨_, .inr (.inl rfl), rfl⟩
        | 1, _ => exact ⟨_, .inr (.inr (.inl rfl)), rfl⟩
        | 2, _ => exact ⟨_, .inr (.inr (.inr (.inl rfl))), rfl⟩
        | 3, _ => exact ⟨_, .inr (.inr (.inr (.inr (.inl ⟨q1, t, rfl, by rw [upd_ne n14, upd_ne n13, upd_ne n12]; exact upd_same, by omega, lt⟩)))), rfl⟩
        | 4, _ => exact ⟨_, .inr (.inr (.inr (.inr (.inr (.inl ⟨q2, t, rfl, by rw [upd_ne n24, upd_ne n23]; exact upd_same, by omega, lt⟩))))), rfl⟩
        | 5, _ => exact ⟨_, .inr (.inr (.inr (.inr (.inr (.inr ⟨q3, rfl, by rw [upd_ne n34]; exact upd_same⟩))))), rfl⟩
      refine ⟨_, rfl, _, _, rfl, rfl, ?_⟩
      have e7 : (way : Int) - 7 = ((way - 7 : Nat) : Int) := by omega
      exact ⟨q4, _, ((way - 7 : Nat) : Int), _, rfl, congrArg V.int e7, SqL.of upd_same, atI_nat (j := way - 7) ex, q x _ ox k4 b4⟩
end
end My

set_option Elab.async false
set_option linter.all false
set_option maxRecDepth 100000
set_option maxHeartbeats 8000000
namespace My
open PySem PySem.Spec PyProof.Rows L2
/-! ### what can be shown -/
def Sh (d : PyData) : Prop := d.showable = true ∧ d.depth ≤ 60 ∧ d.shown.length ≤ sizeLine
theorem sh_of {d : PyData} (h1 : d.showable = true) (h2 : d.depth ≤ 60) (h3 : d.leavesShort 40 = true) (h4 : d.weight ≤ 100000) : Sh d := by
  refine ⟨h1, h2, ?_⟩
  have e := PyData.shown_le 40 (by omega) d h3
  exact Nat.le_trans e (Nat.le_trans (by omega : (40 + 2) * d.weight + 40 ≤ 4200040) (by decide))
theorem log2_20 {r : Nat} (h : r < 1048576) : r.log2 < 20 := PySem.Flt.log2_lt_of (by decide) h
theorem short_int {r : Nat} (h : r < 1048576) : (PyData.int r).leavesShort 40 = true := by
  have e := int_text_length_le (a := (r : Int)) (k := 20) (by decide) (log2_20 h)
  have e2 : (PyData.int (r : Int)).shown = Str.ofString (toString (r : Int)) := by simp only [PyData.shown]
  unfold PyData.leavesShort
  refine decide_eq_true ?_
  rw [e2, PySem.ofString_length]
  omega
theorem show_int {r : Nat} (h : r < 1048576) : (PyData.int r).showable = true := by
  simp only [PyData.showable, decide_eq_true_eq]
  exact Nat.lt_trans (log2_20 h) (by decide)
theorem weight_int {r : Nat} (h : r < 1048576) : (PyData.int r).weight ≤ 21 := by
  simp only [PyData.weight]
  have := log2_20 h
  split
  · omega
  · show (r : Int).natAbs.log2 + 1 ≤ 21
    rw [Int.natAbs_natCast]; omega
def dT (r : Nat) : PyData := .list [.str "told", .int r]
theorem sh_dT {r : Nat} (h : r < 1048576) : Sh (dT r) := by
  have h1 := show_int h
  have h2 := short_int h
  have h3 := weight_int h
  have s1 : (PyData.str "told").showable = true := by simp only [PyData.showable]
  have s2 : (PyData.str "told").leavesShort 40 = true := by decide +kernel
  have s3 : (PyData.str "told").weight = 4 := by decide +kernel
  unfold dT
  refine sh_of ?_ ?_ ?_ ?_
  · simp only [PyData.showable, PyData.showableAll] at h1 ⊢
    rw [h1]; rfl
  · simp only [PyData.depth, PyData.depthAll]; omega
  · simp only [PyData.leavesShort, PyData.leavesShortAll] at h2 s2 ⊢
    rw [h2, s2]; rfl
  · simp only [PyData.weight, PyData.weightAll] at h3 s3 ⊢
    omega
theorem dr_dT {K : PySem.W.Frag} {H : Hp} {q : Addr} {r : Nat} : Dr K (upd H q (.lst [.str "told", .int r])) (.ref q) (dT r) :=
  .inl (.lst (SqL.of upd_same) (.cons (.str _) (.cons (.int _) .nil)))
theorem un64 {k : Nat} {A : Around} (hr : Room k A) : A.units + 64 < cLine := by have := hr.un; omega
theorem neSame {z : Str} {A B : Prop} (h : B) : if (!decide (V.str z = V.str z)) = true then A else B := by
  rw [decide_eq_true rfl]; exact iteF h
theorem jd_low {K : PySem.W.Frag} {H : Hp} {t : List Nat} (h : Low t) : Jd K H (.str (S t)) true := .inl ⟨_, rfl, h.isT.symm⟩
section
variable {P : Program} {w : World} {K : PySem.W.Frag} {mg : Str → Option Value} {base : Heap}
def spRight : Sp := fun vs H Q _ => ∃ (p : Addr) (n : Nat) (u v : List Nat), vs = [.ref p, .str (S u), .str (S v)] ∧ BoxAt H p n ∧ n < 1000000 ∧ Low u ∧ Low v ∧ u.length ≤ 50 ∧ v.length ≤ 50 ∧
  ∀ H', Kp p H H' → BoxAt H' p (n + 10) → Q (.bl true) H'
theorem ok_law_right (T : Txt K mg) : FnG P w K mg base CX0 6 T.f_law_right T.fd_law_right ["box", "first", "second"] spRight := by
  refine T.F_law_right.okG sc_law_right (fun vs H Q E h => ?_) (fun cdv A outer s H vs Q E hgd hr h => ?_)
  · obtain ⟨p, n, u, v, rfl, _⟩ := h; rfl
  · obtain ⟨p, n, u, v, rfl, hb, hn, lu, lv, bu, bv, q⟩ := h
    have hu : Big u := Nat.le_trans bu (by omega)
    have hv : Big v := Nat.le_trans bv (by omega)
    have h4u : u.length ≤ 50 := Nat.le_trans bu (by omega)
    have h4v : v.length ≤ 50 := Nat.le_trans bv (by omega)
    have r4 : ∀ {t : List Nat}, t.length ≤ 50 → ∀ a, (rot a t).length ≤ 50 := fun h a => by rw [rot_len]; exact h
    have hun := un64 hr
    refine ⟨_, (pss_cons (ps_set (i := 3) sc_law_right.nd rfl (Or.inl rfl) (pe_call (ok_law_least T) (hr.mono (by decide)) rfl T.g_law_least T.F_law_least.kp T.b_law_least .nil pass0 (pa_cons (pv 1) (pa_cons (pv 2) pa_nil))))
      (pss_cons (ps_par (i := 4) (j := 5) (by rfl) sc_law_right.nd rfl rfl (by decide) rfl rfl (pa_cons (pe_callB (call_repr hgd hun) (by rfl) T.z_repr (by decide +kernel) (pa_cons (pe_lst (pa_cons pe_str (pa_cons (pv 3) pa_nil))) pa_nil)) (pa_cons (pe_call (ok_law_take T) (hr.mono (by decide)) rfl T.g_law_take T.F_law_take.kp T.b_law_take .nil pass0 (pa_cons (pv 0) (pa_cons pe_int pa_nil))) pa_nil)) (by rfl))
      (pss_cons (ps_if (PW.pt (pw_or (pt_cmpR op_ne (pe_callB (call_repr hgd hun) (by rfl) T.z_repr (by decide +kernel) (pa_cons (pe_call (ok_law_met T) (hr.mono (by decide)) rfl T.g_law_met T.F_law_met.kp T.b_law_met .nil pass0 (pa_cons (pv 5) (pa_cons (pv 1) (pa_cons (pv 2) pa_nil)))) pa_nil)) (pv 4) (nomark _)) (pw_or1 (pt_cmpR op_ne (pe_callB (call_repr hgd hun) (by rfl) T.z_repr (by decide +kernel) (pa_cons (pe_call (ok_law_met T) (hr.mono (by decide)) rfl T.g_law_met T.F_law_met.kp T.b_law_met .nil pass0 (pa_cons (pe_op op_sub pe_int (pv 5)) (pa_cons (pv 2) (pa_cons (pv 1) pa_nil)))) pa_nil)) (pv 4) (nomark _))))) (pss_one (ps_ret pe_bl)) pss_nil)
      (pss_cons (ps_if (pt_cmpR op_ne (pe_callB (call_repr hgd hun) (by rfl) T.z_repr (by decide +kernel) (pa_cons (pe_call (ok_law_met T) (hr.mono (by decide)) rfl T.g_law_met T.F_law_met.kp T.b_law_met .nil pass0 (pa_cons (pv 5) (pa_cons (pe_call (ok_law_turned T) (hr.mono (by decide)) rfl T.g_law_turned T.F_law_turned.kp T.b_law_turned .nil pass0 (pa_cons (pv 0) (pa_cons (pv 1) pa_nil))) (pa_cons (pe_call (ok_law_turned T) (hr.mono (by decide)) rfl T.g_law_turned T.F_law_turned.kp T.b_law_turned .nil pass0 (pa_cons (pv 0) (pa_cons (pv 2) pa_nil))) pa_nil)))) pa_nil)) (pv 4) (nomark _)) (pss_one (ps_ret pe_bl)) pss_nil)
      (pss_cons (ps_set (i := 6) sc_law_right.nd rfl (Or.inl rfl) (pe_call (ok_round_price T) (hr.mono (by decide)) rfl T.g_round_price T.F_round_price.kp T.b_round_price .nil passL (pa_cons (pv 1) (pa_cons (pv 2) pa_nil))))
      (pss_cons (ps_for PassesOwn.never rfl (pi_range2 rfl T.z_range (pa_cons pe_int (pa_cons (pe_ifExp (pt_cmpR op_lt (pe_callB call_len_str (by rfl) T.z_len (by decide +kernel) (pa_cons (pv 1) pa_nil)) pe_int (nomark _)) pe_int pe_int) pa_nil))) (pg_name (i := 7) sc_law_right.nd rfl (Or.inl rfl)) (pss_cons (ps_set (i := 8) sc_law_right.nd rfl (Or.inl rfl) (pe_call (ok_law_table T) (hr.mono (by decide)) rfl T.g_law_table T.F_law_table.kp T.b_law_table .nil pass0 (pa_cons (pe_op op_mul_str (pv 1) (pv 7)) (pa_cons (pe_op op_mul_str (pv 2) (pv 7)) pa_nil))))
      (pss_one (ps_if (PW.pt (pw_or (pt_cmpR op_lt (pv 8) (pe_op op_mul (pv 7) (pv 6)) (nomark _)) (pw_or1 (pt_cmpR op_gt (pv 8) (pe_op op_add (pe_op op_add (pe_op op_mul (pe_op op_sub (pv 7) pe_int) (pv 6)) (pe_callB call_len_str (by rfl) T.z_len (by decide +kernel) (pa_cons (pv 1) pa_nil))) (pe_callB call_len_str (by rfl) T.z_len (by decide +kernel) (pa_cons (pv 2) pa_nil))) (nomark _))))) (pss_one (ps_ret pe_bl)) pss_nil))))
      (pss_one (ps_ret (pe_cmpR op_eq (pe_callB (call_repr hgd hun) (by rfl) T.z_repr (by decide +kernel) (pa_cons (pe_call (ok_law_met T) (hr.mono (by decide)) rfl T.g_law_met T.F_law_met.kp T.b_law_met .nil pass0 (pa_cons pe_int (pa_cons (pv 1) (pa_cons (pe_call (ok_law_turned T) (hr.mono (by decide)) rfl T.g_law_turned T.F_law_turned.kp T.b_law_turned .nil pass0 (pa_cons (pv 0) (pa_cons (pv 1) pa_nil))) pa_nil)))) pa_nil)) (pe_callB (call_repr hgd hun) (by rfl) T.z_repr (by decide +kernel) (pa_cons (pe_lst (pa_cons pe_str (pa_cons pe_int pa_nil))) pa_nil)) (nomark _)))))))))), ?_⟩
    refine ⟨_, rfl, _, rfl, u, v, rfl, hu, hv, fun due H1 rp s1 => ?_⟩
    have bd : due < 1048576 := by
      obtain ⟨⟨w', t', e'⟩, _⟩ := rp
      have h1 := Lev.D_le_max u w'
      obtain ⟨j, _, e2⟩ := Lev.turn_at t'
      have h2 : w'.length = v.length := by rw [e2]; exact rot_len j v
      omega
    have hsh := sh_dT bd
    refine ⟨_, rfl, (by show 2 ≤ sizeLine; decide), fun q1 hq1 => ?_⟩
    refine ⟨_, dT due, rfl, dr_dT, hsh.1, hsh.2.1, hsh.2.2, ?_⟩
    have k1 := (Kp.of (p := p) s1).new hq1 (o := .lst [.str "told", .int due])
    have b1 := (hb.same s1).new hq1 (o := .lst [.str "told", .int due])
    refine ⟨_, rfl, p, n, 2, rfl, b1, by omega, by omega, by omega, fun wh o hwh ho => ?_⟩
    have k2 := k1.upd (o := o)
    have b2 : BoxAt (upd (upd H1 q1 (.lst [.str "told", .int due])) p o) p (n + 1) := ho.at
    generalize upd (upd H1 q1 (.lst [.str "told", .int due])) p o = H2 at k2 b2
    refine ⟨_, _, rfl, ?_⟩
    -- told in both orders
    have nn : ∀ {A : Prop}, (true = false) → A := fun z => by cases z
    refine ⟨_, rfl, _, rfl, _, rfl, _, _, _, true, true, rfl, jd_low lu, jd_low lv, nn, fun _ => nn, fun _ _ => ⟨u, v, rfl, rfl, h4u, h4v, fun r q2 H3 rp2 s3 hq2 => ?_⟩⟩
    obtain rfl := rp.uniq rp2
    refine ⟨_, dT due, rfl, dr_dT, hsh.1, hsh.2.1, hsh.2.2, ?_⟩
    refine ⟨_, rfl, rfl, _, rfl, neSame ?_⟩
    have k3 := (k2.trans (Kp.of s3)).new hq2 (o := .lst [.str "told", .int due])
    have b3 := (b2.same s3).new hq2 (o := .lst [.str "told", .int due])
    generalize upd H3 q2 (.lst [.str "told", .int due]) = H4 at k3 b3
    refine ⟨_, rfl, _, _, rfl, rfl, _, rfl, _, rfl, _, _, _, true, true, rfl, jd_low lv, jd_low lu, nn, fun _ => nn, fun _ _ => ⟨v, u, rfl, rfl, h4v, h4u, fun r q3 H5 rp3 s5 hq3 => ?_⟩⟩
    obtain rfl := rp.uniq rp3.symm
    refine ⟨_, dT due, rfl, dr_dT, hsh.1, hsh.2.1, hsh.2.2, ?_⟩
    refine ⟨_, rfl, rfl, _, rfl, neSame ?_⟩
    have k5 := (k3.trans (Kp.of s5)).new hq3 (o := .lst [.str "told", .int due])
    have b5 := (b3.same s5).new hq3 (o := .lst [.str "told", .int due])
    generalize upd H5 q3 (.lst [.str "told", .int due]) = H6 at k5 b5
    -- turns of both
    refine ⟨_, rfl, _, rfl, _, rfl, p, _, u, rfl, b5, by omega, hu, fun a H7 ha k7 b7 => ?_⟩
    refine ⟨_, rfl, _, rfl, p, _, v, rfl, b7, by omega, hv, fun b H8 hb8 k8 b8 => ?_⟩
    refine ⟨_, _, _, true, true, rfl, jd_low (lu.rot a), jd_low (lv.rot b), nn, fun _ => nn, fun _ _ => ⟨_, _, rfl, rfl, r4 h4u a, r4 h4v b, fun r q4 H9 rp4 s9 hq4 => ?_⟩⟩
    obtain rfl := (rp.turns (Lev.Turn.at u a) (Lev.Turn.at v b)).uniq rp4
    refine ⟨_, dT due, rfl, dr_dT, hsh.1, hsh.2.1, hsh.2.2, ?_⟩
    refine ⟨_, rfl, rfl, _, rfl, neSame ?_⟩
    have k9 := (((k5.trans k7).trans k8).trans (Kp.of s9)).new hq4 (o := .lst [.str "told", .int due])
    have b9 := (b8.same s9).new hq4 (o := .lst [.str "told", .int due])
    generalize upd H9 q4 (.lst [.str "told", .int due]) = Ha at k9 b9
    -- told
    refine ⟨_, rfl, _, rfl, _, _, true, true, rfl, jd_low lu, jd_low lv, fun t ht => ⟨jd_low lu, jd_low lv⟩, nn, fun _ => nn, fun _ _ => ⟨u, v, rfl, rfl, h4u, h4v, fun r Hb sb rp5 => ?_⟩⟩
    obtain rfl := rp.uniq rp5
    have kb := k9.trans (Kp.of sb)
    have bb := b9.same sb
    -- rounds of both
    have hfu : (S u).length ≤ sizeLine := hu.fits
    have hfv : (S v).length ≤ sizeLine := hv.fits
    refine ⟨_, rfl, _, rfl, hfu, _, _, rfl, rfl, _, rfl, ?_⟩
    have fin : ∀ {x7 x8 : Option V} {Hc : Hp}, Same Hb Hc → (tRet (tOp rEq (tCB (rRepr K) (tCons (tCall (spMet K) [] E0 (tCons (tC (.int 0)) (tCons (tVar 1) (tCons (tCall spTurned [] E0 (tCons (tVar 0) (tCons (tVar 1) tNil))) tNil)))) tNil)) (tCB (rRepr K) (tCons (tLst (tCons (tC (.str "told")) (tCons (tC (.int 0)) tNil))) tNil))))
        { nx := fun _ H' => Q .non H', rt := Q } [some (.ref p), some (.str (S u)), some (.str (S v)), some (.int due), some (.str (dT due).shown), some (.int wh), some (.int due), x7, x8] Hc := by
      intro x7 x8 Hc sc
      have bc := bb.same sc
      have h0 := sh_dT (r := 0) (by omega)
      refine ⟨_, rfl, _, rfl, _, rfl, p, _, u, rfl, bc, by omega, hu, fun a Hd ha kd bdx => ?_⟩
      refine ⟨_, _, _, true, true, rfl, jd_low lu, jd_low (lu.rot a), nn, fun _ => nn, fun _ _ => ⟨_, _, rfl, rfl, h4u, r4 h4u a, fun r q5 He rp6 se hq5 => ?_⟩⟩
      obtain rfl : 0 = r := (Lev.Rp.self (Lev.Turn.at u a)).uniq rp6
      refine ⟨_, dT 0, rfl, dr_dT, h0.1, h0.2.1, h0.2.2, (by show 2 ≤ sizeLine; decide), fun q6 hq6 => ?_⟩
      refine ⟨_, dT 0, rfl, dr_dT, h0.1, h0.2.1, h0.2.2, rfl, ?_⟩
      rw [decide_eq_true rfl]
      exact q _ ((((kb.trans (Kp.of sc)).trans kd).trans (Kp.of se)).new hq5 |>.new hq6) ((((bdx.same se).new hq5).new hq6).mono (by omega))
    refine ite2 (fun c => ?_) (fun c => ?_)
    all_goals
      refine ⟨_, _, rfl, ⟨by omega, by omega, by omega, by omega⟩, ?_⟩
      refine for_range (lo := 1) (fun i σ H' => ∃ x7 x8, σ = [some (.ref p), some (.str (S u)), some (.str (S v)), some (.int due), some (.str (dT due).shown), some (.int wh), some (.int due), x7, x8] ∧ Same Hb H') ⟨none, none, rfl, Same.refl _⟩ ?_ ?_
      · rintro i σ H' hi ⟨x7, x8, rfl, sc⟩
        have hi3 : i < 3 := Nat.lt_of_lt_of_le hi (by decide)
        rw [show (1 : Int) + (i : Int) = ((i + 1 : Nat) : Int) by omega]
        have len : ∀ x : List Nat, x.length ≤ 50 → (Lev.rounds (i + 1) x).length ≤ 200 := fun x hx => by
          rw [Lev.rounds_len]
          exact Nat.le_trans (Nat.mul_le_mul (by omega : i + 1 ≤ 4) hx) (by omega)
        refine ⟨_, rfl, _, rfl, _, _, rfl, rfl, mulOk_S (by omega) (by omega), _, rfl, _, rfl, _, _, rfl, rfl, mulOk_S (by omega) (by omega), ?_⟩
        rw [mul_S, mul_S]
        refine ⟨_, _, rfl, Nat.le_trans (len u bu) (by omega), Nat.le_trans (len v bv) (by omega), fun Hd sd => ?_⟩
        have g1 := rp.ge i
        have g2 := rp.le i
        generalize Lev.D (Lev.rounds (i + 1) u) (Lev.rounds (i + 1) v) = far at g1 g2
        have f1 : ¬ (far : Int) < ((i + 1 : Nat) : Int) * (due : Int) := by
          rw [← Int.natCast_mul]; omega
        have f2 : ¬ (far : Int) > (((i + 1 : Nat) : Int) - 1) * (due : Int) + ((S u).length : Int) + ((S v).length : Int) := by
          rw [S_len, S_len, show ((i + 1 : Nat) : Int) - 1 = (i : Int) by omega, ← Int.natCast_mul]; omega
        refine ⟨_, rfl, _, rfl, _, rfl, _, _, rfl, rfl, .inl ⟨by omega, by omega⟩, _, _, rfl, rfl, _, rfl, ?_⟩
        refine ite2 (fun z => absurd (of_decide_eq_true z) f1) (fun _ => ?_)
        refine ⟨_, rfl, _, rfl, _, _, rfl, rfl, _, rfl, _, _, rfl, rfl, .inl ⟨by omega, by omega⟩, _, rfl, _, rfl, hfu, _, _, rfl, rfl, _, rfl, _, rfl, hfv, _, _, rfl, rfl, _, _, rfl, rfl, _, rfl, ?_⟩
        refine ite2 (fun z => absurd (of_decide_eq_true z) f2) (fun _ => ?_)
        exact ⟨_, _, rfl, sc.trans sd⟩
      · rintro σ H' ⟨x7, x8, rfl, sc⟩
        exact fin sc
end
end My

set_option Elab.async false
set_option linter.all false
set_option maxRecDepth 100000
set_option maxHeartbeats 8000000
namespace My
open PySem PySem.Spec PyProof.Rows L2
theorem call_isi_K {X : Cx} {K : PySem.W.Frag} (e : X.K = K) : CallR X (.builtin "isinstance") (rIsi K) := by rw [← e]; exact call_isi
def rListOf (K : PySem.W.Frag) : List V → Hp → VK → Prop := fun xs H Q => ∃ p ys, xs = [.ref p] ∧ (SqL K H p ys ∨ SqT K H p ys) ∧ ∀ l, H l = none → Q (.ref l) (upd H l (.lst ys))
theorem call_list_of_K {X : Cx} {K : PySem.W.Frag} (e : X.K = K) : CallR X (.type "list") (rListOf K) := by rw [← e]; exact call_list_of
/-- a list among them is one that H0 does not have -/
def OdN (H0 H : Hp) (x : V) : Prop := (∃ z, x = .str (S z) ∧ isT (S z) = false ∧ z.length ≤ 100 ∧ ∀ c ∈ z, c < 200) ∨ x = .non ∨ x = .int 5 ∨ x = .bl true ∨
  (∃ a t, x = .ref a ∧ H a = some (.lst [.str (S t)]) ∧ t.length ≤ 100 ∧ Low t ∧ H0 a = none) ∨ (∃ a t, x = .ref a ∧ H a = some (.tup [.str (S t), .str "a"]) ∧ t.length ≤ 100 ∧ Low t) ∨ (∃ a, x = .ref a ∧ H a = some (.dK []))
theorem Od.kp {p : Addr} {n : Nat} {H H' : Hp} {x : V} (h : Od H x) (b : BoxAt H p n) (k : Kp p H H') : Od H' x := by
  obtain ⟨o, ho, a', m, c, b', eo, _⟩ := b
  subst eo
  rcases h with h | h | h | h | ⟨a, t, e, ea, r⟩ | ⟨a, t, e, ea, r⟩ | ⟨a, e, ea⟩
  · exact .inl h
  · exact .inr (.inl h)
  · exact .inr (.inr (.inl h))
  · exact .inr (.inr (.inr (.inl h)))
  · refine .inr (.inr (.inr (.inr (.inl ⟨a, t, e, k _ _ ?_ ea, r⟩))))
    rintro rfl; rw [ho] at ea; cases ea
  · refine .inr (.inr (.inr (.inr (.inr (.inl ⟨a, t, e, k _ _ ?_ ea, r⟩)))))
    rintro rfl; rw [ho] at ea; cases ea
  · refine .inr (.inr (.inr (.inr (.inr (.inr ⟨a, e, k _ _ ?_ ea⟩)))))
    rintro rfl; rw [ho] at ea; cases ea
theorem Od.same {H H' : Hp} {x : V} (h : Od H x) (k : Same H H') : Od H' x := by
  rcases h with h | h | h | h | ⟨a, t, e, ea, r⟩ | ⟨a, t, e, ea, r⟩ | ⟨a, e, ea⟩
  · exact .inl h
  · exact .inr (.inl h)
  · exact .inr (.inr (.inl h))
  · exact .inr (.inr (.inr (.inl h)))
  · exact .inr (.inr (.inr (.inr (.inl ⟨a, t, e, k _ _ ea, r⟩))))
  · exact .inr (.inr (.inr (.inr (.inr (.inl ⟨a, t, e, k _ _ ea, r⟩)))))
  · exact .inr (.inr (.inr (.inr (.inr (.inr ⟨a, e, k _ _ ea⟩)))))
theorem OdN.same {H0 H H' : Hp} {x : V} (h : OdN H0 H x) (k : Same H H') : OdN H0 H' x := by
  rcases h with h | h | h | h | ⟨a, t, e, ea, r⟩ | ⟨a, t, e, ea, r⟩ | ⟨a, e, ea⟩
  · exact .inl h
  · exact .inr (.inl h)
  · exact .inr (.inr (.inl h))
  · exact .inr (.inr (.inr (.inl h)))
  · exact .inr (.inr (.inr (.inr (.inl ⟨a, t, e, k _ _ ea, r⟩))))
  · exact .inr (.inr (.inr (.inr (.inr (.inl ⟨a, t, e, k _ _ ea, r⟩)))))
  · exact .inr (.inr (.inr (.inr (.inr (.inr ⟨a, e, k _ _ ea⟩)))))
theorem sh_str {z : List Nat} (h : z.length ≤ 1000) (hc : ∀ c ∈ z, c < 200) : Sh (.str (S z)) := by
  refine sh_of (by simp only [PyData.showable]) (by simp only [PyData.depth]; omega) ?_ ?_
  · unfold PyData.leavesShort
    rw [List.all_eq_true]
    intro c hcm
    have : c ∈ z := by rw [← S_tl z]; exact hcm
    have := hc c this
    exact decide_eq_true (by omega)
  · unfold PyData.weight
    show (S z).length ≤ 100000
    rw [S_len]; omega
theorem sh_two {f : List PyData → PyData} {z : List Nat} {y : Str} (hf : f = .list ∨ f = .tuple) (h : z.length ≤ 1000) (hc : ∀ c ∈ z, c < 200) (hy : y = "a" ∨ y = "z") : Sh (f [.str (S z), .str y]) := by
  have l1 : (PyData.str (S z)).leavesShort 40 = true := by
    unfold PyData.leavesShort
    rw [List.all_eq_true]
    intro c hcm
    have : c ∈ z := by rw [← S_tl z]; exact hcm
    have := hc c this
    exact decide_eq_true (by omega)
  have l2 : (PyData.str y).leavesShort 40 = true := by rcases hy with rfl | rfl <;> decide +kernel
  have w1 : (PyData.str (S z)).weight ≤ 1000 := by
    unfold PyData.weight
    show (S z).length ≤ 1000
    rw [S_len]; omega
  have w2 : (PyData.str y).weight = 1 := by rcases hy with rfl | rfl <;> decide +kernel
  rcases hf with rfl | rfl
  all_goals
    refine sh_of ?_ ?_ ?_ ?_
    · simp only [PyData.showable, PyData.showableAll, Bool.and_self]
    · simp only [PyData.depth, PyData.depthAll]; omega
    · simp only [PyData.leavesShort, PyData.leavesShortAll] at l1 l2 ⊢
      rw [l1, l2]; rfl
    · simp only [PyData.weight, PyData.weightAll] at w1 w2 ⊢
      omega
theorem Od.dr {K : PySem.W.Frag} {H0 H : Hp} {x : V} (h : OdN H0 H x) (hl : ∀ a xs, x = .ref a → H a ≠ some (.lst xs)) : ∃ d, Dr K H x d ∧ Sh d := by
  rcases h with ⟨z, rfl, _, hz, hc⟩ | rfl | rfl | rfl | ⟨a, t, rfl, ea, r⟩ | ⟨a, t, rfl, ea, ht, lt⟩ | ⟨a, rfl, ea⟩
  · exact ⟨_, .inl (.str _), sh_str (by omega) hc⟩
  · exact ⟨_, .inl .non, by refine ⟨?_, ?_, ?_⟩ <;> decide +kernel⟩
  · exact ⟨_, .inl (.int _), by refine ⟨?_, ?_, ?_⟩ <;> decide +kernel⟩
  · exact ⟨_, .inl (.bl _), by refine ⟨?_, ?_, ?_⟩ <;> decide +kernel⟩
  · exact absurd ea (hl a _ rfl)
  · exact ⟨_, .inl (.tup (SqT.of ea) (.cons (.str _) (.cons (.str _) .nil))), sh_two (.inr rfl) (by omega) lt.lt (.inl rfl)⟩
  · exact ⟨.dict [], .inr ⟨a, rfl, ea, rfl⟩, by refine ⟨?_, ?_, ?_⟩ <;> decide +kernel⟩
def Tx (x : V) : Prop := ∃ t, x = .str (S t) ∧ Low t ∧ t.length ≤ 100
section
variable {P : Program} {w : World} {K : PySem.W.Frag} {mg : Str → Option Value} {base : Heap}
/-- a value of a row: of the odd ones, or a text -/
def Vl (H : Hp) (o : Bool) (a : V) : Prop := (o = true ∧ Od H a) ∨ (o = false ∧ Tx a)
theorem Vl.same {H H' : Hp} {o : Bool} {a : V} (h : Vl H o a) (k : Same H H') : Vl H' o a := by
  rcases h with ⟨e, h⟩ | h
  · exact .inl ⟨e, h.same k⟩
  · exact .inr h
def Wl (H0 H : Hp) (o : Bool) (a : V) : Prop := (o = true ∧ OdN H0 H a) ∨ (o = false ∧ Tx a)
theorem Wl.same {H0 H H' : Hp} {o : Bool} {b : V} (h : Wl H0 H o b) (k : Same H H') : Wl H0 H' o b := by
  rcases h with ⟨e, h⟩ | h
  · exact .inl ⟨e, h.same k⟩
  · exact .inr h
theorem Wl.upd {H0 H : Hp} {o : Bool} {b : V} {D : Addr} {ob : HO} (h : Wl H0 H o b) (n : b ≠ .ref D) : Wl H0 (L2.upd H D ob) o b := by
  rcases h with ⟨e, h⟩ | h
  · refine .inl ⟨e, ?_⟩
    rcases h with h | h | h | h | ⟨a, t, e, ea, r⟩ | ⟨a, t, e, ea, r⟩ | ⟨a, e, ea⟩
    · exact .inl h
    · exact .inr (.inl h)
    · exact .inr (.inr (.inl h))
    · exact .inr (.inr (.inr (.inl h)))
    · exact .inr (.inr (.inr (.inr (.inl ⟨a, t, e, by rw [upd_ne (fun z => n (by rw [e, z]))]; exact ea, r⟩))))
    · exact .inr (.inr (.inr (.inr (.inr (.inl ⟨a, t, e, by rw [upd_ne (fun z => n (by rw [e, z]))]; exact ea, r⟩)))))
    · exact .inr (.inr (.inr (.inr (.inr (.inr ⟨a, e, by rw [upd_ne (fun z => n (by rw [e, z]))]; exact ea⟩)))))
  · exact .inr h
theorem Wl.jd {H0 H : Hp} {o : Bool} {b : V} (h : Wl H0 H o b) : Jd K H b (!o) := by
  rcases h with ⟨rfl, h⟩ | ⟨rfl, t, rfl, lt, _⟩
  · rcases h with ⟨z, rfl, hz, _⟩ | rfl | rfl | rfl | ⟨a, t, rfl, ea, r⟩ | ⟨a, t, rfl, ea, r⟩ | ⟨a, rfl, ea⟩
    · exact .inl ⟨_, rfl, hz.symm⟩
    · exact .inr ⟨"NoneType", .base .non, by decide +kernel, rfl⟩
    · exact .inr ⟨"int", .base (.int _), by decide +kernel, rfl⟩
    · exact .inr ⟨"bool", .base (.bl _), by decide +kernel, rfl⟩
    · exact .inr ⟨"list", .base (.lst ea), by decide +kernel, rfl⟩
    · exact .inr ⟨"tuple", .base (.tup ea), by decide +kernel, rfl⟩
    · exact .inr ⟨"dict", .base (.dK ea), by decide +kernel, rfl⟩
  · exact jd_low lt
abbrev copyE (K : PySem.W.Frag) : TE := tIf (tB (tCB (rIsi K) (tCons (tVar 8) (tCons (tC (V.ty "list")) tNil)))) (tCB (rListOf K) (tCons (tVar 8) tNil)) (tVar 8)
theorem copy_ok {H0 H : Hp} {o : Bool} {a : V} {y0 y1 y2 y3 y4 y5 y6 y7 y9 y10 : Option V} {Q : VK} (h : Vl H o a) (s : Same H0 H)
    (q : ∀ b H', Wl H0 H' o b → Same H H' → (∀ D xs, H D = some (.lst xs) → b ≠ .ref D) → Q b H') : copyE K [y0, y1, y2, y3, y4, y5, y6, y7, some a, y9, y10] H Q := by
  rcases h with ⟨rfl, h⟩ | ⟨rfl, t, rfl, lt, bt⟩
  · rcases h with ⟨z, rfl, h⟩ | rfl | rfl | rfl | ⟨a, t, rfl, ea, r⟩ | ⟨a, t, rfl, ea, r⟩ | ⟨a, rfl, ea⟩
    · exact ⟨_, rfl, _, _, _, _, false, rfl, .ty _, .base (.str _), kit_ty (by decide +kernel), false, rfl, iteF ⟨_, rfl, q _ H (.inl ⟨rfl, .inl ⟨z, rfl, h⟩⟩) (Same.refl H) (fun _ _ _ z => by cases z)⟩⟩
    · exact ⟨_, rfl, _, _, _, _, false, rfl, .ty _, .base .non, kit_ty (by decide +kernel), false, rfl, iteF ⟨_, rfl, q _ H (.inl ⟨rfl, .inr (.inl rfl)⟩) (Same.refl H) (fun _ _ _ z => by cases z)⟩⟩
    · exact ⟨_, rfl, _, _, _, _, false, rfl, .ty _, .base (.int _), kit_ty (by decide +kernel), false, rfl, iteF ⟨_, rfl, q _ H (.inl ⟨rfl, .inr (.inr (.inl rfl))⟩) (Same.refl H) (fun _ _ _ z => by cases z)⟩⟩
    · exact ⟨_, rfl, _, _, _, _, false, rfl, .ty _, .base (.bl _), kit_ty (by decide +kernel), false, rfl, iteF ⟨_, rfl, q _ H (.inl ⟨rfl, .inr (.inr (.inr (.inl rfl)))⟩) (Same.refl H) (fun _ _ _ z => by cases z)⟩⟩
    · refine ⟨_, rfl, _, _, _, _, true, rfl, .ty _, .base (.lst ea), kit_ty (by decide +kernel), true, rfl, iteT ⟨_, rfl, a, _, rfl, .inl (SqL.of ea), fun l hl => ?_⟩⟩
      refine q _ _ (.inl ⟨rfl, .inr (.inr (.inr (.inr (.inl ⟨l, t, rfl, upd_same, r.1, r.2, s.free hl⟩))))⟩) (Same.new (Same.refl H) hl) (fun D xs e z => ?_)
      cases z
      rw [hl] at e; cases e
    · refine ⟨_, rfl, _, _, _, _, false, rfl, .ty _, .base (.tup ea), kit_ty (by decide +kernel), false, rfl, iteF ⟨_, rfl, q _ H (.inl ⟨rfl, .inr (.inr (.inr (.inr (.inr (.inl ⟨a, t, rfl, ea, r⟩)))))⟩) (Same.refl H) (fun D xs e z => ?_)⟩⟩
      cases z
      rw [ea] at e; cases e
    · refine ⟨_, rfl, _, _, _, _, false, rfl, .ty _, .base (.dK ea), kit_ty (by decide +kernel), false, rfl, iteF ⟨_, rfl, q _ H (.inl ⟨rfl, .inr (.inr (.inr (.inr (.inr (.inr ⟨a, rfl, ea⟩)))))⟩) (Same.refl H) (fun D xs e z => ?_)⟩⟩
      cases z
      rw [ea] at e; cases e
  · exact ⟨_, rfl, _, _, _, _, false, rfl, .ty _, .base (.str _), kit_ty (by decide +kernel), false, rfl, iteF ⟨_, rfl, q _ H (.inr ⟨rfl, t, rfl, lt, bt⟩) (Same.refl H) (fun _ _ _ z => by cases z)⟩⟩
/-- what stands behind the call: the value of the error is shown like the value that was handed in -/
abbrev tailT (K : PySem.W.Frag) : TS :=
  tSeq (tAsg (tOp (rIxL K) (tVar 7) (tOp (rIxL K) (tVar 6) (tC (V.int 2)))) (gName 10))
    (tSeq (tIfS (tB (tCB (rIsi K) (tCons (tVar 10) (tCons (tC (V.ty "list")) tNil)))) (tDrop (tBM K "list" rAppend (tVar 10) (tCons (tC (V.str (Str.ofString "z"))) tNil))) tNext)
      (tIfS (tOr (tTest (tOp rNe (tOp (rIxL K) (tVar 9) (tC (V.int 0))) (tC (V.str (Str.ofString "text")))))
          (tTest (tOp rNe (tCB (rRepr K) (tCons (tOp (rIxL K) (tVar 9) (tC (V.int 1))) tNil)) (tCB (rRepr K) (tCons (tVar 10) tNil)))))
        (tRet (tC (V.bl false))) tNext))
theorem tail_ok {H0 H : Hp} {y0 y1 y2 y3 y4 y5 y8 y10 : Option V} {D : Ends} {r d4 q4 : Addr} {c0 c1 b0 b1 b : V} {k : Nat} (s0 : Same H0 H) (er : H r = some (.lst [c0, c1, .int k])) (eD : H d4 = some (.lst [b0, b1])) (ek : [b0, b1][k]? = some b)
    (e4 : H q4 = some (.lst [.str "text", b])) (ob : OdN H0 H b) (nx : ∀ y H', Same H0 H' → D.nx [y0, y1, y2, y3, y4, y5, some (.ref r), some (.ref d4), y8, some (.ref q4), y] H') :
    tailT K D [y0, y1, y2, y3, y4, y5, some (.ref r), some (.ref d4), y8, some (.ref q4), y10] H := by
  refine ⟨_, rfl, _, rfl, r, _, _, _, rfl, rfl, SqL.of er, atI_nat (j := 2) rfl, d4, _, _, _, rfl, rfl, SqL.of eD, atI_nat (j := k) ek, ?_⟩
  -- the end, once the value is as it is to be
  have last : ∀ Hz, Same H0 Hz → Hz q4 = some (.lst [.str "text", b]) → (∃ d, Dr K Hz b d ∧ Sh d) →
      (tIfS (tOr (tTest (tOp rNe (tOp (rIxL K) (tVar 9) (tC (V.int 0))) (tC (V.str (Str.ofString "text")))))
          (tTest (tOp rNe (tCB (rRepr K) (tCons (tOp (rIxL K) (tVar 9) (tC (V.int 1))) tNil)) (tCB (rRepr K) (tCons (tVar 10) tNil)))))
        (tRet (tC (V.bl false))) tNext) D [y0, y1, y2, y3, y4, y5, some (.ref r), some (.ref d4), y8, some (.ref q4), some b] Hz := by
    intro Hz sz ez ⟨d, dr, h1, h2, h3⟩
    refine ⟨_, rfl, q4, _, _, _, rfl, rfl, SqL.of ez, atI_nat (j := 0) rfl, rfl, _, rfl, neSame ?_⟩
    refine ⟨_, rfl, q4, _, _, _, rfl, rfl, SqL.of ez, atI_nat (j := 1) rfl, _, d, rfl, dr, h1, h2, h3, _, rfl, _, d, rfl, dr, h1, h2, h3, rfl, _, rfl, neSame ?_⟩
    exact nx _ _ sz
  have plain : (∀ a xs, b = .ref a → H a ≠ some (.lst xs)) → _ := fun hl => last H s0 e4 (Od.dr ob hl)
  have ob' := ob
  rcases ob' with ⟨z, rfl, h⟩ | rfl | rfl | rfl | ⟨a, t, rfl, ea, ht, lt, hn⟩ | ⟨a, t, rfl, ea, h⟩ | ⟨a, rfl, ea⟩
  · exact ⟨_, rfl, _, _, _, _, false, rfl, .ty _, .base (.str _), kit_ty (by decide +kernel), false, rfl, iteF (plain fun _ _ z => by cases z)⟩
  · exact ⟨_, rfl, _, _, _, _, false, rfl, .ty _, .base .non, kit_ty (by decide +kernel), false, rfl, iteF (plain fun _ _ z => by cases z)⟩
  · exact ⟨_, rfl, _, _, _, _, false, rfl, .ty _, .base (.int _), kit_ty (by decide +kernel), false, rfl, iteF (plain fun _ _ z => by cases z)⟩
  · exact ⟨_, rfl, _, _, _, _, false, rfl, .ty _, .base (.bl _), kit_ty (by decide +kernel), false, rfl, iteF (plain fun _ _ z => by cases z)⟩
  · refine ⟨_, rfl, _, _, _, _, true, rfl, .ty _, .base (.lst ea), kit_ty (by decide +kernel), true, rfl, iteT ?_⟩
    refine ⟨_, rfl, .inl ⟨rfl, _, SqL.of ea⟩, a, _, _, rfl, rfl, ea, (by show 1 < sizeLine; decide), ?_⟩
    have n4 : q4 ≠ a := by rintro rfl; rw [e4] at ea; cases ea
    refine last _ (fun c o e => ?_) (by rw [upd_ne n4]; exact e4) ⟨_, .inl (.lst (SqL.of upd_same) (.cons (.str _) (.cons (.str _) .nil))), sh_two (.inl rfl) (by omega) lt.lt (.inr rfl)⟩
    have nc : c ≠ a := by rintro rfl; rw [hn] at e; cases e
    rw [upd_ne nc]; exact s0 _ _ e
  · exact ⟨_, rfl, _, _, _, _, false, rfl, .ty _, .base (.tup ea), kit_ty (by decide +kernel), false, rfl, iteF (plain fun _ _ z => by cases z; rw [ea]; intro z; cases z)⟩
  · exact ⟨_, rfl, _, _, _, _, false, rfl, .ty _, .base (.dK ea), kit_ty (by decide +kernel), false, rfl, iteF (plain fun _ _ z => by cases z; rw [ea]; intro z; cases z)⟩
def spRefused : Sp := fun vs H Q _ => ∃ (p : Addr) (n : Nat) (u v : List Nat), vs = [.ref p, .str (S u), .str (S v)] ∧ BoxAt H p n ∧ n < 100000 ∧ Low u ∧ Low v ∧ u.length ≤ 50 ∧ v.length ≤ 50 ∧
  ∀ H', Kp p H H' → BoxAt H' p (n + 10) → Q (.bl true) H'
theorem ok_law_refused_right (T : Txt K mg) : FnG P w K mg base CX0 6 T.f_law_refused_right T.fd_law_refused_right ["box", "first", "second"] spRefused := by
  refine T.F_law_refused_right.okG sc_law_refused_right (fun vs H Q E h => ?_) (fun cdv A outer s H vs Q E hgd hr h => ?_)
  · obtain ⟨p, n, u, v, rfl, _⟩ := h; rfl
  · obtain ⟨p, n, u, v, rfl, hb, hn, lu, lv, bu, bv, q⟩ := h
    have hun := un64 hr
    refine ⟨_, (pss_cons (ps_par (i := 3) (j := 4) (by rfl) sc_law_refused_right.nd rfl rfl (by decide) rfl rfl (pa_cons (pe_call (ok_law_odd T) (hr.mono (by decide)) rfl T.g_law_odd T.F_law_odd.kp T.b_law_odd .nil pass0 (pa_cons (pv 0) (pa_cons (pv 1) pa_nil))) (pa_cons (pe_call (ok_law_odd T) (hr.mono (by decide)) rfl T.g_law_odd T.F_law_odd.kp T.b_law_odd .nil pass0 (pa_cons (pv 0) (pa_cons (pv 2) pa_nil))) pa_nil)) (by rfl))
      (pss_cons (ps_for PassesOwn.never rfl (pi_range1 rfl T.z_range (pa_cons pe_int pa_nil)) (pg_name (i := 5) sc_law_refused_right.nd rfl (Or.inl rfl)) (pss_one (ps_for PassesOwn.never rfl (pi_list (pe_lst (pa_cons (pe_lst (pa_cons (pv 3) (pa_cons (pv 2) (pa_cons pe_int pa_nil)))) (pa_cons (pe_lst (pa_cons (pv 1) (pa_cons (pv 4) (pa_cons pe_int pa_nil)))) (pa_cons (pe_lst (pa_cons (pv 3) (pa_cons (pv 4) (pa_cons pe_int pa_nil)))) pa_nil))))) (pg_name (i := 6) sc_law_refused_right.nd rfl (Or.inl rfl)) (pss_cons (ps_setLc (i := 7) (own := [("value", 8)]) (g := gName 8) (by rfl) sc_law_refused_right.nd rfl rfl (sw_true rfl rfl rfl (by decide +kernel)) (pi_list (pe_slice sl_list (pv 6) po_none (po_some pe_int))) (blkOk_by (own := [("value", 8)]) (N := N_law_refused_right) (sc := defScope s_law_refused_right) (by decide +kernel)) (fun _ _ _ _ _ => pg_name (i := 8) sc_law_refused_right.nd rfl (Or.inl rfl)) (fun _ _ _ _ _ => pts_nil) (fun _ _ _ _ _ => (pe_ifExp (pt_val (pe_callB (call_isi_K (K := K) rfl) (by rfl) T.z_isinstance (by decide +kernel) (pa_cons (pv 8) (pa_cons (pe_bltn (v := .ty "list") (u := .type "list") (by rfl) T.z_list (by decide +kernel) rfl) pa_nil)))) (pe_callTy (call_list_of_K (K := K) rfl) (by rfl) T.z_list (by decide +kernel) (pa_cons (pv 8) pa_nil)) (pv 8))))
      (pss_cons (ps_set (i := 9) sc_law_refused_right.nd rfl (Or.inl rfl) (pe_call (ok_law_met T) (hr.mono (by decide)) rfl T.g_law_met T.F_law_met.kp T.b_law_met .nil pass0 (pa_cons (pv 5) (pa_cons (pe_ix ix_list (pv 7) pe_int (fun _ _ => rfl)) (pa_cons (pe_ix ix_list (pv 7) pe_int (fun _ _ => rfl)) pa_nil)))))
      (pss_cons (ps_set (i := 10) sc_law_refused_right.nd rfl (Or.inl rfl) (pe_ix ix_list (pv 7) (pe_ix ix_list (pv 6) pe_int (fun _ _ => rfl)) (fun _ _ => rfl)))
      (pss_cons (ps_if (pt_val (pe_callB call_isi (by rfl) T.z_isinstance (by decide +kernel) (pa_cons (pv 10) (pa_cons (pe_bltn (v := .ty "list") (u := .type "list") (by rfl) T.z_list (by decide +kernel) rfl) pa_nil)))) (pss_one (ps_expr (pe_bm PySem.F.plainAttrs_list PySem.F.slot_list_append PySem.F.type_list_append mt_append (pv 10) (pa_cons pe_str pa_nil)))) pss_nil)
      (pss_one (ps_if (PW.pt (pw_or (pt_cmpR op_ne (pe_ix ix_list (pv 9) pe_int (fun _ _ => rfl)) pe_str (nomark _)) (pw_or1 (pt_cmpR op_ne (pe_callB (call_repr hgd hun) (by rfl) T.z_repr (by decide +kernel) (pa_cons (pe_ix ix_list (pv 9) pe_int (fun _ _ => rfl)) pa_nil)) (pe_callB (call_repr hgd hun) (by rfl) T.z_repr (by decide +kernel) (pa_cons (pv 10) pa_nil)) (nomark _))))) (pss_one (ps_ret pe_bl)) pss_nil)))))))))
      (pss_one (ps_ret pe_bl)))), ?_⟩
    refine ⟨_, rfl, _, rfl, p, n, u, rfl, hb, by omega, lu, bu, fun x H1 ox k1 b1 => ?_⟩
    refine ⟨_, rfl, _, rfl, p, _, v, rfl, b1, by omega, lv, bv, fun y H2 oy k2 b2 => ?_⟩
    refine ⟨_, _, rfl, ?_⟩
    have ox2 := ox.kp b1 k2
    refine ⟨2, rfl, by decide, by decide, ?_⟩
    refine for_range (lo := 0) (n := 2) (fun i σ H' => ∃ x5 x6 x7 x8 x9 x10, σ = [some (.ref p), some (.str (S u)), some (.str (S v)), some x, some y, x5, x6, x7, x8, x9, x10] ∧ Same H2 H') ⟨_, _, _, _, _, _, rfl, Same.refl _⟩ ?_ ?_
    rotate_left
    · rintro σ H' ⟨x5, x6, x7, x8, x9, x10, rfl, s2⟩
      exact q _ ((k1.trans k2).trans (Kp.of s2)) ((b2.same s2).mono (by omega))
    rintro i σ H3 hi ⟨x5, x6, x7, x8, x9, x10, rfl, s3⟩
    refine ⟨_, rfl, _, rfl, (by show 3 ≤ sizeLine; decide), fun r1 hr1 => ?_⟩
    refine ⟨_, rfl, _, rfl, (by show 3 ≤ sizeLine; decide), fun r2 hr2 => ?_⟩
    refine ⟨_, rfl, _, rfl, (by show 3 ≤ sizeLine; decide), fun r3 hr3 => ?_⟩
    refine ⟨(by show 3 ≤ sizeLine; decide), fun rs hrs => ?_⟩
    have s4 : Same H3 (upd (upd (upd (upd H3 r1 (.lst [x, .str (S v), .int 0])) r2 (.lst [.str (S u), y, .int 1])) r3 (.lst [x, y, .int 0])) rs (.lst [.ref r1, .ref r2, .ref r3])) := Same.new (Same.new (Same.new (Same.new (Same.refl H3) hr1) hr2) hr3) hrs
    have n12 : r1 ≠ r2 := ne_of_none upd_same hr2
    have n13 : r1 ≠ r3 := ne_of_none (by rw [upd_ne n12]; exact upd_same) hr3
    have n23 : r2 ≠ r3 := ne_of_none upd_same hr3
    have n14 : r1 ≠ rs := ne_of_none (by rw [upd_ne n13, upd_ne n12]; exact upd_same) hrs
    have n24 : r2 ≠ rs := ne_of_none (by rw [upd_ne n23]; exact upd_same) hrs
    have n34 : r3 ≠ rs := ne_of_none upd_same hrs
    refine ⟨rs, rfl, ⟨_, SqL.of upd_same⟩, ?_⟩
    refine for_list (K := K) (a := rs) (xs := [.ref r1, .ref r2, .ref r3]) (fun j σ H' => ∃ x6 x7 x8 x9 x10, σ = [some (.ref p), some (.str (S u)), some (.str (S v)), some x, some y, some (.int (0 + (i : Int))), x6, x7, x8, x9, x10] ∧ Same (upd (upd (upd (upd H3 r1 (.lst [x, .str (S v), .int 0])) r2 (.lst [.str (S u), y, .int 1])) r3 (.lst [x, y, .int 0])) rs (.lst [.ref r1, .ref r2, .ref r3])) H')
      ⟨_, _, _, _, _, rfl, Same.refl _⟩ ?_ ?_ ?_
    · rintro j σ H' _ ⟨_, _, _, _, _, _, sH⟩
      exact SqL.of (sH _ _ upd_same)
    · rintro j z σ H' hz ⟨x6, x7, x8, x9, x10, rfl, sH⟩
      have sA := s3.trans (s4.trans sH)
      have vx : Vl H' true x := .inl ⟨rfl, ox2.same sA⟩
      have vy : Vl H' true y := .inl ⟨rfl, oy.same sA⟩
      have vu : Vl H' false (.str (S u)) := .inr ⟨rfl, u, rfl, lu, by omega⟩
      have vv : Vl H' false (.str (S v)) := .inr ⟨rfl, v, rfl, lv, by omega⟩
      obtain ⟨r, a0, a1, k, o0, o1, rfl, er, v0, v1, hk⟩ : ∃ (r : Addr) (a0 a1 : V) (k : Nat) (o0 o1 : Bool), z = .ref r ∧ H' r = some (.lst [a0, a1, .int k]) ∧ Vl H' o0 a0 ∧ Vl H' o1 a1 ∧ ((k = 0 ∧ o0 = true) ∨ (k = 1 ∧ o0 = false ∧ o1 = true)) := by
        match j, hz with
        | 0, hz => exact ⟨r1, x, _, 0, true, false, (Option.some.inj hz).symm, sH _ _ (by rw [upd_ne n14, upd_ne n13, upd_ne n12]; exact upd_same), vx, vv, .inl ⟨rfl, rfl⟩⟩
        | 1, hz => exact ⟨r2, _, y, 1, false, true, (Option.some.inj hz).symm, sH _ _ (by rw [upd_ne n24, upd_ne n23]; exact upd_same), vu, vy, .inr ⟨rfl, rfl, rfl⟩⟩
        | 2, hz => exact ⟨r3, x, y, 0, true, true, (Option.some.inj hz).symm, sH _ _ (by rw [upd_ne n34]; exact upd_same), vx, vy, .inl ⟨rfl, rfl⟩⟩
        | j + 3, hz => simp at hz
      clear vx vy vu vv
      refine ⟨_, rfl, _, rfl, r, _, rfl, SqL.of er, fun sl hsl => ?_⟩
      have ec : cutV [a0, a1, V.int k] none (some 2) = [a0, a1] := cutV_to _ 2
      rw [ec]
      refine ⟨sl, rfl, ⟨_, SqL.of upd_same⟩, fun D hD => ?_⟩
      have sS : Same H' (upd H' sl (.lst [a0, a1])) := Same.new (Same.refl _) hsl
      have eS : (upd H' sl (.lst [a0, a1])) sl = some (.lst [a0, a1]) := upd_same
      have v0' : Vl (upd H' sl (.lst [a0, a1])) o0 a0 := v0.same sS
      have v1' : Vl (upd H' sl (.lst [a0, a1])) o1 a1 := v1.same sS
      generalize upd H' sl (.lst [a0, a1]) = HS at hD sS eS v0' v1'
      refine lc_list (K := K) (a := sl) (xs := [a0, a1]) (fun i Hc => Same HS Hc ∧ (i = 0 → Hc D = some (.lst [])) ∧ (i = 1 → ∃ b0, Hc D = some (.lst [b0]) ∧ b0 ≠ .ref D ∧ Wl HS Hc o0 b0) ∧ (i = 2 → ∃ b0 b1, Hc D = some (.lst [b0, b1]) ∧ Wl HS Hc o0 b0 ∧ Wl HS Hc o1 b1))
        ⟨Same.new (Same.refl _) hD, fun _ => upd_same, fun z => by omega, fun z => by omega⟩ ?_ ?_ ?_
      · rintro i Hc _ ⟨sc, _⟩
        exact SqL.of (sc _ _ eS)
      · rintro i a Hc ha ⟨sc, p0, p1, p2⟩
        have sU : ∀ Hd ob, Same Hc Hd → Same HS (upd Hd D ob) := fun Hd ob sd c o e => by
          rw [upd_ne (ne_of_none e hD)]; exact sd _ _ (sc _ _ e)
        match i, ha with
        | 0, ha =>
          obtain rfl : a0 = a := Option.some.inj ha
          have e0 := p0 rfl
          refine ⟨rfl, tYesT ?_⟩
          refine copy_ok (v0'.same sc) sc fun b Hd wb sd nb => ?_
          exact ⟨[], sd _ _ e0, (by show 0 < sizeLine; decide), sU _ _ sd, fun z => by omega, fun _ => ⟨b, upd_same, nb D _ e0, wb.upd (nb D _ e0)⟩, fun z => by omega⟩
        | 1, ha =>
          obtain rfl : a1 = a := Option.some.inj ha
          obtain ⟨b0, e1, n0, w0⟩ := p1 rfl
          refine ⟨rfl, tYesT ?_⟩
          refine copy_ok (v1'.same sc) sc fun b Hd wb sd nb => ?_
          exact ⟨[b0], sd _ _ e1, (by show 1 < sizeLine; decide), sU _ _ sd, fun z => by omega, fun z => by omega, fun _ => ⟨b0, b, upd_same, (w0.same sd).upd n0, wb.upd (nb D _ e1)⟩⟩
        | i + 2, ha => simp at ha
      rintro Hc ⟨sc, _, _, p2⟩
      obtain ⟨b0, b1, eD, w0, w1⟩ := p2 rfl
      have er' : Hc r = some (.lst [a0, a1, .int k]) := sc _ _ (sS _ _ er)
      refine ⟨_, rfl, _, rfl, D, _, _, _, rfl, rfl, SqL.of eD, atI_nat (j := 0) rfl, _, rfl, D, _, _, _, rfl, rfl, SqL.of eD, atI_nat (j := 1) rfl, _, b0, b1, !o0, !o1, rfl, w0.jd, w1.jd, fun e q4 H6 s6 hq4 => ?_, fun e e' q4 H6 s6 hq4 => ?_, fun e e' => ?_⟩
      · have sN := Same.new s6 hq4 (o := .lst [.str "text", b0])
        rcases hk with ⟨rfl, rfl⟩ | ⟨_, rfl, _⟩
        · rcases w0 with ⟨_, od⟩ | ⟨z, _⟩
          · exact tail_ok (sc.trans sN) (sN _ _ er') (sN _ _ eD) rfl upd_same (od.same sN) fun y Hz sz => ⟨_, _, _, _, _, rfl, sH.trans (sS.trans sz)⟩
          · cases z
        · cases e
      · have sN := Same.new s6 hq4 (o := .lst [.str "text", b1])
        rcases hk with ⟨_, rfl⟩ | ⟨rfl, _, rfl⟩
        · cases e
        · rcases w1 with ⟨_, od⟩ | ⟨z, _⟩
          · exact tail_ok (sc.trans sN) (sN _ _ er') (sN _ _ eD) rfl upd_same (od.same sN) fun y Hz sz => ⟨_, _, _, _, _, rfl, sH.trans (sS.trans sz)⟩
          · cases z
      · rcases hk with ⟨_, rfl⟩ | ⟨_, _, rfl⟩
        · cases e
        · cases e'
    · rintro σ H' ⟨x6, x7, x8, x9, x10, rfl, sH⟩
      exact ⟨_, _, _, _, _, _, rfl, (s3.trans s4).trans sH⟩
end
end My

set_option Elab.async false
set_option linter.all false
set_option maxRecDepth 100000
set_option maxHeartbeats 8000000
namespace My
open PySem PySem.Spec PyProof.Rows L2
theorem Kp.toSame {p : Addr} {H H1 H2 : Hp} (k : Kp p H1 H2) (s : Same H H1) (h : H p = none) : Same H H2 := fun b o e => k b o (ne_of_none e h) (s b o e)
section
variable {P : Program} {w : World} {K : PySem.W.Frag} {mg : Str → Option Value} {base : Heap}
def spLaw (K : PySem.W.Frag) : Sp := fun vs H Q _ => ∃ (a : Addr) (ns : List Int), vs = [.ref a] ∧ SqL K H a (ns.map V.int) ∧ ns.length ≤ 63 ∧ ∀ H', Q (.bl true) H'
theorem ok_law (T : Txt K mg) : FnG P w K mg base CX0 7 T.f_law T.fd_law ["script"] (spLaw K) := by
  refine T.F_law.okG sc_law (fun vs H Q E h => ?_) (fun cdv A outer s H vs Q E hgd hr h => ?_)
  · obtain ⟨a, ns, rfl, _⟩ := h; rfl
  · obtain ⟨a, ns, rfl, hS, hlen, q⟩ := h
    refine ⟨_, (pss_cons (ps_for PassesOwn.never rfl (pi_range1 rfl T.z_range (pa_cons (pe_callB (call_max2 rfl) (by rfl) T.z_max (by decide +kernel) (pa_cons pe_int (pa_cons (pe_callB (call_min2 rfl) (by rfl) T.z_min (by decide +kernel) (pa_cons pe_int (pa_cons (pe_callB call_len_seq (by rfl) T.z_len (by decide +kernel) (pa_cons (pv 0) pa_nil)) pa_nil))) pa_nil))) pa_nil)) (pg_name (i := 1) sc_law.nd rfl (Or.inl rfl)) (pss_cons (ps_set (i := 2) sc_law.nd rfl (Or.inl rfl) (pe_call (ok_law_box T) (hr.mono (by decide)) rfl T.g_law_box T.F_law_box.kp T.b_law_box .nil pass0 (pa_cons (pe_call (ok_law_cell T) (hr.mono (by decide)) rfl T.g_law_cell T.F_law_cell.kp T.b_law_cell .nil pass0 (pa_cons (pv 0) (pa_cons (pv 1) pa_nil))) pa_nil)))
      (pss_cons (ps_asg (pe_call (ok_law_texts T) (hr.mono (by decide)) rfl T.g_law_texts T.F_law_texts.kp T.b_law_texts .nil pass0 (pa_cons (pv 2) pa_nil)) (pg_lst rfl (pgs_cons (pg_name (i := 3) sc_law.nd rfl (Or.inl rfl)) (pgs_cons (pg_name (i := 4) sc_law.nd rfl (Or.inl rfl)) pgs_nil))))
      (pss_one (ps_if (PW.pt (pw_or (pt_not (pt_val (pe_callG (ok_law_right T) hgd (hr.mono (by decide)) rfl T.g_law_right T.F_law_right.kp T.b_law_right .nil pass0 (pa_cons (pv 2) (pa_cons (pv 3) (pa_cons (pv 4) pa_nil)))))) (pw_or1 (pt_not (pt_val (pe_callG (ok_law_refused_right T) hgd (hr.mono (by decide)) rfl T.g_law_refused_right T.F_law_refused_right.kp T.b_law_refused_right .nil pass0 (pa_cons (pv 2) (pa_cons (pv 3) (pa_cons (pv 4) pa_nil))))))))) (pss_one (ps_ret pe_bl)) pss_nil)))))
      (pss_one (ps_ret pe_bl))), ?_⟩
    refine ⟨_, rfl, a, _, rfl, .inl hS, _, _, rfl, _, _, rfl, _, rfl, ?_, ?_, ?_⟩
    · split <;> split <;> omega
    · split <;> split <;> omega
    refine for_range (lo := 0) (fun i σ H' => ∃ x1 x2 x3 x4, σ = [some (.ref a), x1, x2, x3, x4] ∧ Same H H') ⟨_, _, _, _, rfl, Same.refl _⟩ ?_ ?_
    · rintro i σ H' hi ⟨x1, x2, x3, x4, rfl, sH⟩
      rw [Int.zero_add]
      refine ⟨_, rfl, _, rfl, a, ns, i, rfl, hS.ext sH, fun c H1 s1 => ?_⟩
      refine ⟨c, rfl, fun p o hp ho => ?_⟩
      have sH1 := sH.trans s1
      have hpH : H p = none := sH1.free hp
      have s2 : Same H (upd H1 p o) := Same.new sH1 hp
      refine ⟨_, rfl, p, 0, rfl, ho.at, by omega, fun t u q1 H2 lt lu bt bu k2 b2 hq1 => ?_⟩
      have k3 := k2.new hq1 (o := .lst [.str (S t), .str (S u)])
      have b3 := b2.new hq1 (o := .lst [.str (S t), .str (S u)])
      refine ⟨q1, _, rfl, SqL.of upd_same, rfl, _, _, rfl, _, _, rfl, rfl, ?_⟩
      refine ⟨_, rfl, _, rfl, _, rfl, p, _, t, u, rfl, b3, by omega, lt, lu, by omega, by omega, fun H4 k4 b4 => ?_⟩
      refine ⟨true, rfl, iteF ?_⟩
      refine ⟨_, rfl, _, rfl, _, rfl, p, _, t, u, rfl, b4, by omega, lt, lu, by omega, by omega, fun H5 k5 b5 => ?_⟩
      refine ⟨true, rfl, iteF ?_⟩
      exact ⟨_, _, _, _, rfl, ((k3.trans k4).trans k5).toSame s2 hpH⟩
    · rintro σ H' ⟨x1, x2, x3, x4, rfl, sH⟩
      exact q H'
end
end My

set_option Elab.async false
set_option linter.all false
set_option maxRecDepth 100000
set_option maxHeartbeats 8000000
namespace My
open PySem PySem.Spec PyProof.Rows L2
theorem exm_of {K : PySem.W.Frag} {S T : Addr} {b : Bool} (h1 : PySem.W.subIn K (.ref T) (.type "BaseException") = some true) (h2 : PySem.W.isClsIn K T = true) (h3 : PySem.W.typeIn K (.ref T) = some (.type "type")) (h4 : PySem.W.subIn K (.ref S) (.ref T) = some b) :
    PySem.W.exmOne K (.ref S) (.ref T) = some b := by
  have e1 : (PySem.W.subIn K (.ref T) (.type "BaseException") == some true) = true := by rw [h1] <;> rfl
  have e2 : ((PySem.W.clsIn K T).isSome && PySem.W.typeIn K (.ref T) == some (.type "type")) = true := by
    have h2' : (PySem.W.clsIn K T).isSome = true := h2
    rw [h2', h3] <;> rfl
  show (if (PySem.W.subIn K (.ref T) (.type "BaseException") == some true) = true then (if ((PySem.W.clsIn K T).isSome && PySem.W.typeIn K (.ref T) == some (.type "type")) = true then PySem.W.subIn K (.ref S) (.ref T) else none) else none) = some b
  rw [if_pos e1, if_pos e2]
  exact h4
theorem all_mk {P : Program} {w : World} {K : PySem.W.Frag} {h : Heap} {mg : Str → Option Value} {fa : Addr} (X : K.In h) (G : h.Ns mainGlobals mg) (hfa : mg "law" = some (.ref fa))
    {C0 I0 B0 : Addr} {nm0 q0 : Str} {N0 : Addr} {bs0 : List Value} {sn0 : List Str} {sub0 : List Value} {ab0 : Bool} {col0 : Option Bool} {dd0 : Option Addr} {m00 m10 m20 m30 m50 : Option Value}
    {ei0 en0 : Option Addr} {es0 : Array (Option Value)} {eo0 ed0 ep0 ec0 et0 : Value} {p10 p20 q10 q20 q30 q40 : Pos}
    {f0 : Addr} {od0 an0 : Option Addr} {sl0 : Array (Option Value)} {oc0 kV0 dc0 pm0 cd0 ct0 : Value}
    {f1 : Addr} {od1 an1 : Option Addr} {sl1 : Array (Option Value)} {oc1 kV1 dc1 pm1 cd1 ct1 : Value}
    {f2 : Addr} {od2 an2 : Option Addr} {sl2 : Array (Option Value)} {oc2 kV2 dc2 pm2 cd2 ct2 : Value}
    {f3 : Addr} {od3 an3 : Option Addr} {sl3 : Array (Option Value)} {oc3 kV3 dc3 pm3 cd3 ct3 : Value}
    {f4 : Addr} {od4 an4 : Option Addr} {sl4 : Array (Option Value)} {oc4 kV4 dc4 pm4 cd4 ct4 : Value}
    {f5 : Addr} {od5 an5 : Option Addr} {sl5 : Array (Option Value)} {oc5 kV5 dc5 pm5 cd5 ct5 : Value}
    {f6 : Addr} {od6 an6 : Option Addr} {sl6 : Array (Option Value)} {oc6 kV6 dc6 pm6 cd6 ct6 : Value}
    {f7 : Addr} {od7 an7 : Option Addr} {sl7 : Array (Option Value)} {oc7 kV7 dc7 pm7 cd7 ct7 : Value}
    {f8 : Addr} {od8 an8 : Option Addr} {sl8 : Array (Option Value)} {oc8 kV8 dc8 pm8 cd8 ct8 : Value}
    {f9 : Addr} {od9 an9 : Option Addr} {sl9 : Array (Option Value)} {oc9 kV9 dc9 pm9 cd9 ct9 : Value}
    {f10 : Addr} {od10 an10 : Option Addr} {sl10 : Array (Option Value)} {oc10 kV10 dc10 pm10 cd10 ct10 : Value}
    {f11 : Addr} {od11 an11 : Option Addr} {sl11 : Array (Option Value)} {oc11 kV11 dc11 pm11 cd11 ct11 : Value}
    {f12 : Addr} {od12 an12 : Option Addr} {sl12 : Array (Option Value)} {oc12 kV12 dc12 pm12 cd12 ct12 : Value}
    {f13 : Addr} {od13 an13 : Option Addr} {sl13 : Array (Option Value)} {oc13 kV13 dc13 pm13 cd13 ct13 : Value}
    {f14 : Addr} {od14 an14 : Option Addr} {sl14 : Array (Option Value)} {oc14 kV14 dc14 pm14 cd14 ct14 : Value}
    {f15 : Addr} {od15 an15 : Option Addr} {sl15 : Array (Option Value)} {oc15 kV15 dc15 pm15 cd15 ct15 : Value}
    {f16 : Addr} {od16 an16 : Option Addr} {sl16 : Array (Option Value)} {oc16 kV16 dc16 pm16 cd16 ct16 : Value}
    {f17 : Addr} {od17 an17 : Option Addr} {sl17 : Array (Option Value)} {oc17 kV17 dc17 pm17 cd17 ct17 : Value}
    {f18 : Addr} {od18 an18 : Option Addr} {sl18 : Array (Option Value)} {oc18 kV18 dc18 pm18 cd18 ct18 : Value}
    {f19 : Addr} {od19 an19 : Option Addr} {sl19 : Array (Option Value)} {oc19 kV19 dc19 pm19 cd19 ct19 : Value}
    {f20 : Addr} {od20 an20 : Option Addr} {sl20 : Array (Option Value)} {oc20 kV20 dc20 pm20 cd20 ct20 : Value}
    (eC0 : PySem.W.nsIn K mainGlobals "InvalidText" = some (some (.ref C0)))
    (eL0 : K.lookup C0 = some (excClassObj nm0 q0 C0 N0 bs0 [.ref B0, .type "Exception", .type "BaseException", .type "object"] true sn0 sub0 ab0 col0 dd0 m00 m10 m20 m30 m50 "Exception.__new__"))
    (etk0 : PySem.W.takerIn K C0 "given" = some none)
    (esa0 : PySem.W.findIn K (.ref C0) "__setattr__" = some (some (.builtin "object.__setattr__")))
    (ega0 : PySem.W.findIn K (.ref C0) "__getattribute__" = some (some (.builtin "BaseException.__getattribute__")))
    (egg0 : PySem.W.findIn K (.ref C0) "__getattr__" = some none)
    (eno0 : PySem.W.findIn K (.ref C0) "given" = some none)
    (ein0 : PySem.W.findIn K (.ref C0) "__init__" = some (some (.ref I0)))
    (eti0 : PySem.W.typeIn K (.ref I0) = some (.type "function"))
    (ekC0 : PySem.W.keepIn K (.ref C0) = true)
    (eeC0 : PySem.W.subIn K (.ref C0) (.type "BaseException") = some true)
    (etC0 : PySem.W.typeIn K (.ref C0) = some (.type "type"))
    (ehC0 : PySem.W.hasDictIn K C0 = true)
    (eiC0 : PySem.W.isClsIn K C0 = true)
    (esC0 : PySem.W.subIn K (.ref C0) (.ref C0) = some true)
    (efn0 : K.lookup I0 = some ⟨eo0, ei0, .func (PySem.W.fnOf "__init__" "InvalidText.__init__" (ErrX.iA p10 p20) (ErrX.iB q10 q20 q30 q40) ErrX.iS .none .none ed0 ep0 en0 ec0 et0), es0⟩)
    (eco0 : PySem.W.codeIn K ec0 "InvalidText.__init__" = true)
    (a0 : PySem.W.nsIn K mainGlobals "is_text" = some (some (.ref f0)))
    (l0 : K.lookup f0 = some ⟨oc0, od0, .func (PySem.W.fnOf "is_text" "is_text" (defArgs s_is_text) (defBody s_is_text) (defScope s_is_text) .none kV0 dc0 pm0 an0 cd0 ct0), sl0⟩)
    (c0 : PySem.W.codeIn K cd0 "is_text" = true)
    (k0 : PySem.W.keepIn K (.ref f0) = true)
    (a1 : PySem.W.nsIn K mainGlobals "changes_between" = some (some (.ref f1)))
    (l1 : K.lookup f1 = some ⟨oc1, od1, .func (PySem.W.fnOf "changes_between" "changes_between" (defArgs s_changes_between) (defBody s_changes_between) (defScope s_changes_between) .none kV1 dc1 pm1 an1 cd1 ct1), sl1⟩)
    (c1 : PySem.W.codeIn K cd1 "changes_between" = true)
    (k1 : PySem.W.keepIn K (.ref f1) = true)
    (a2 : PySem.W.nsIn K mainGlobals "places_of" = some (some (.ref f2)))
    (l2 : K.lookup f2 = some ⟨oc2, od2, .func (PySem.W.fnOf "places_of" "places_of" (defArgs s_places_of) (defBody s_places_of) (defScope s_places_of) .none kV2 dc2 pm2 an2 cd2 ct2), sl2⟩)
    (c2 : PySem.W.codeIn K cd2 "places_of" = true)
    (k2 : PySem.W.keepIn K (.ref f2) = true)
    (a3 : PySem.W.nsIn K mainGlobals "column_behind" = some (some (.ref f3)))
    (l3 : K.lookup f3 = some ⟨oc3, od3, .func (PySem.W.fnOf "column_behind" "column_behind" (defArgs s_column_behind) (defBody s_column_behind) (defScope s_column_behind) .none kV3 dc3 pm3 an3 cd3 ct3), sl3⟩)
    (c3 : PySem.W.codeIn K cd3 "column_behind" = true)
    (k3 : PySem.W.keepIn K (.ref f3) = true)
    (a4 : PySem.W.nsIn K mainGlobals "ones" = some (some (.ref f4)))
    (l4 : K.lookup f4 = some ⟨oc4, od4, .func (PySem.W.fnOf "ones" "ones" (defArgs s_ones) (defBody s_ones) (defScope s_ones) .none kV4 dc4 pm4 an4 cd4 ct4), sl4⟩)
    (c4 : PySem.W.codeIn K cd4 "ones" = true)
    (k4 : PySem.W.keepIn K (.ref f4) = true)
    (a5 : PySem.W.nsIn K mainGlobals "check_texts" = some (some (.ref f5)))
    (l5 : K.lookup f5 = some ⟨oc5, od5, .func (PySem.W.fnOf "check_texts" "check_texts" (defArgs s_check_texts) (defBody s_check_texts) (defScope s_check_texts) .none kV5 dc5 pm5 an5 cd5 ct5), sl5⟩)
    (c5 : PySem.W.codeIn K cd5 "check_texts" = true)
    (k5 : PySem.W.keepIn K (.ref f5) = true)
    (a6 : PySem.W.nsIn K mainGlobals "length_of_root" = some (some (.ref f6)))
    (l6 : K.lookup f6 = some ⟨oc6, od6, .func (PySem.W.fnOf "length_of_root" "length_of_root" (defArgs s_length_of_root) (defBody s_length_of_root) (defScope s_length_of_root) .none kV6 dc6 pm6 an6 cd6 ct6), sl6⟩)
    (c6 : PySem.W.codeIn K cd6 "length_of_root" = true)
    (k6 : PySem.W.keepIn K (.ref f6) = true)
    (a7 : PySem.W.nsIn K mainGlobals "round_price" = some (some (.ref f7)))
    (l7 : K.lookup f7 = some ⟨oc7, od7, .func (PySem.W.fnOf "round_price" "round_price" (defArgs s_round_price) (defBody s_round_price) (defScope s_round_price) .none kV7 dc7 pm7 an7 cd7 ct7), sl7⟩)
    (c7 : PySem.W.codeIn K cd7 "round_price" = true)
    (k7 : PySem.W.keepIn K (.ref f7) = true)
    (a8 : PySem.W.nsIn K mainGlobals "_law_cell" = some (some (.ref f8)))
    (l8 : K.lookup f8 = some ⟨oc8, od8, .func (PySem.W.fnOf "_law_cell" "_law_cell" (defArgs s_law_cell) (defBody s_law_cell) (defScope s_law_cell) .none kV8 dc8 pm8 an8 cd8 ct8), sl8⟩)
    (c8 : PySem.W.codeIn K cd8 "_law_cell" = true)
    (k8 : PySem.W.keepIn K (.ref f8) = true)
    (a9 : PySem.W.nsIn K mainGlobals "_law_box" = some (some (.ref f9)))
    (l9 : K.lookup f9 = some ⟨oc9, od9, .func (PySem.W.fnOf "_law_box" "_law_box" (defArgs s_law_box) (defBody s_law_box) (defScope s_law_box) .none kV9 dc9 pm9 an9 cd9 ct9), sl9⟩)
    (c9 : PySem.W.codeIn K cd9 "_law_box" = true)
    (k9 : PySem.W.keepIn K (.ref f9) = true)
    (a10 : PySem.W.nsIn K mainGlobals "_law_take" = some (some (.ref f10)))
    (l10 : K.lookup f10 = some ⟨oc10, od10, .func (PySem.W.fnOf "_law_take" "_law_take" (defArgs s_law_take) (defBody s_law_take) (defScope s_law_take) .none kV10 dc10 pm10 an10 cd10 ct10), sl10⟩)
    (c10 : PySem.W.codeIn K cd10 "_law_take" = true)
    (k10 : PySem.W.keepIn K (.ref f10) = true)
    (a11 : PySem.W.nsIn K mainGlobals "_law_turned" = some (some (.ref f11)))
    (l11 : K.lookup f11 = some ⟨oc11, od11, .func (PySem.W.fnOf "_law_turned" "_law_turned" (defArgs s_law_turned) (defBody s_law_turned) (defScope s_law_turned) .none kV11 dc11 pm11 an11 cd11 ct11), sl11⟩)
    (c11 : PySem.W.codeIn K cd11 "_law_turned" = true)
    (k11 : PySem.W.keepIn K (.ref f11) = true)
    (a12 : PySem.W.nsIn K mainGlobals "_law_changed" = some (some (.ref f12)))
    (l12 : K.lookup f12 = some ⟨oc12, od12, .func (PySem.W.fnOf "_law_changed" "_law_changed" (defArgs s_law_changed) (defBody s_law_changed) (defScope s_law_changed) .none kV12 dc12 pm12 an12 cd12 ct12), sl12⟩)
    (c12 : PySem.W.codeIn K cd12 "_law_changed" = true)
    (k12 : PySem.W.keepIn K (.ref f12) = true)
    (a13 : PySem.W.nsIn K mainGlobals "_law_texts" = some (some (.ref f13)))
    (l13 : K.lookup f13 = some ⟨oc13, od13, .func (PySem.W.fnOf "_law_texts" "_law_texts" (defArgs s_law_texts) (defBody s_law_texts) (defScope s_law_texts) .none kV13 dc13 pm13 an13 cd13 ct13), sl13⟩)
    (c13 : PySem.W.codeIn K cd13 "_law_texts" = true)
    (k13 : PySem.W.keepIn K (.ref f13) = true)
    (a14 : PySem.W.nsIn K mainGlobals "_law_table" = some (some (.ref f14)))
    (l14 : K.lookup f14 = some ⟨oc14, od14, .func (PySem.W.fnOf "_law_table" "_law_table" (defArgs s_law_table) (defBody s_law_table) (defScope s_law_table) .none kV14 dc14 pm14 an14 cd14 ct14), sl14⟩)
    (c14 : PySem.W.codeIn K cd14 "_law_table" = true)
    (k14 : PySem.W.keepIn K (.ref f14) = true)
    (a15 : PySem.W.nsIn K mainGlobals "_law_least" = some (some (.ref f15)))
    (l15 : K.lookup f15 = some ⟨oc15, od15, .func (PySem.W.fnOf "_law_least" "_law_least" (defArgs s_law_least) (defBody s_law_least) (defScope s_law_least) .none kV15 dc15 pm15 an15 cd15 ct15), sl15⟩)
    (c15 : PySem.W.codeIn K cd15 "_law_least" = true)
    (k15 : PySem.W.keepIn K (.ref f15) = true)
    (a16 : PySem.W.nsIn K mainGlobals "_law_met" = some (some (.ref f16)))
    (l16 : K.lookup f16 = some ⟨oc16, od16, .func (PySem.W.fnOf "_law_met" "_law_met" (defArgs s_law_met) (defBody s_law_met) (defScope s_law_met) .none kV16 dc16 pm16 an16 cd16 ct16), sl16⟩)
    (c16 : PySem.W.codeIn K cd16 "_law_met" = true)
    (k16 : PySem.W.keepIn K (.ref f16) = true)
    (a17 : PySem.W.nsIn K mainGlobals "_law_right" = some (some (.ref f17)))
    (l17 : K.lookup f17 = some ⟨oc17, od17, .func (PySem.W.fnOf "_law_right" "_law_right" (defArgs s_law_right) (defBody s_law_right) (defScope s_law_right) .none kV17 dc17 pm17 an17 cd17 ct17), sl17⟩)
    (c17 : PySem.W.codeIn K cd17 "_law_right" = true)
    (k17 : PySem.W.keepIn K (.ref f17) = true)
    (a18 : PySem.W.nsIn K mainGlobals "_law_odd" = some (some (.ref f18)))
    (l18 : K.lookup f18 = some ⟨oc18, od18, .func (PySem.W.fnOf "_law_odd" "_law_odd" (defArgs s_law_odd) (defBody s_law_odd) (defScope s_law_odd) .none kV18 dc18 pm18 an18 cd18 ct18), sl18⟩)
    (c18 : PySem.W.codeIn K cd18 "_law_odd" = true)
    (k18 : PySem.W.keepIn K (.ref f18) = true)
    (a19 : PySem.W.nsIn K mainGlobals "_law_refused_right" = some (some (.ref f19)))
    (l19 : K.lookup f19 = some ⟨oc19, od19, .func (PySem.W.fnOf "_law_refused_right" "_law_refused_right" (defArgs s_law_refused_right) (defBody s_law_refused_right) (defScope s_law_refused_right) .none kV19 dc19 pm19 an19 cd19 ct19), sl19⟩)
    (c19 : PySem.W.codeIn K cd19 "_law_refused_right" = true)
    (k19 : PySem.W.keepIn K (.ref f19) = true)
    (a20 : PySem.W.nsIn K mainGlobals "law" = some (some (.ref f20)))
    (l20 : K.lookup f20 = some ⟨oc20, od20, .func (PySem.W.fnOf "law" "law" (defArgs s_law) (defBody s_law) (defScope s_law) .none kV20 dc20 pm20 an20 cd20 ct20), sl20⟩)
    (c20 : PySem.W.codeIn K cd20 "law" = true)
    (k20 : PySem.W.keepIn K (.ref f20) = true)
    (z_abs : PySem.W.nsIn K mainGlobals "abs" = some none)
    (z_int : PySem.W.nsIn K mainGlobals "int" = some none)
    (z_isinstance : PySem.W.nsIn K mainGlobals "isinstance" = some none)
    (z_len : PySem.W.nsIn K mainGlobals "len" = some none)
    (z_list : PySem.W.nsIn K mainGlobals "list" = some none)
    (z_max : PySem.W.nsIn K mainGlobals "max" = some none)
    (z_min : PySem.W.nsIn K mainGlobals "min" = some none)
    (z_range : PySem.W.nsIn K mainGlobals "range" = some none)
    (z_repr : PySem.W.nsIn K mainGlobals "repr" = some none)
    (z_str : PySem.W.nsIn K mainGlobals "str" = some none)
    (z_sum : PySem.W.nsIn K mainGlobals "sum" = some none) :
    ∃ fd : FuncData, (∀ (s : Shared) (v : Value), BindsTo s fd ⟨[v], []⟩ [("script", v)]) ∧ ∀ base : Heap, K.In base → base.Ns mainGlobals mg → FnG P w K mg base CX0 7 fa fd ["script"] (spLaw K) := by
  have e := hfa.symm.trans (PySem.W.mg_of X G a20)
  cases e
  have F0 := fun_mk (st := s_is_text) l0 c0 k0
  have b0 := F0.binds (ps := ["value"]) fun _ _ _ _ _ _ us hl => match us, hl with | [_], _ => rfl
  have F1 := fun_mk (st := s_changes_between) l1 c1 k1
  have b1 := F1.binds (ps := ["one", "other"]) fun _ _ _ _ _ _ us hl => match us, hl with | [_, _], _ => rfl
  have F2 := fun_mk (st := s_places_of) l2 c2 k2
  have b2 := F2.binds (ps := ["pattern"]) fun _ _ _ _ _ _ us hl => match us, hl with | [_], _ => rfl
  have F3 := fun_mk (st := s_column_behind) l3 c3 k3
  have b3 := F3.binds (ps := ["up", "down", "letters", "places", "whole"]) fun _ _ _ _ _ _ us hl => match us, hl with | [_, _, _, _, _], _ => rfl
  have F4 := fun_mk (st := s_ones) l4 c4 k4
  have b4 := F4.binds (ps := ["bits"]) fun _ _ _ _ _ _ us hl => match us, hl with | [_], _ => rfl
  have F5 := fun_mk (st := s_check_texts) l5 c5 k5
  have b5 := F5.binds (ps := ["one", "other"]) fun _ _ _ _ _ _ us hl => match us, hl with | [_, _], _ => rfl
  have F6 := fun_mk (st := s_length_of_root) l6 c6 k6
  have b6 := F6.binds (ps := ["text"]) fun _ _ _ _ _ _ us hl => match us, hl with | [_], _ => rfl
  have F7 := fun_mk (st := s_round_price) l7 c7 k7
  have b7 := F7.binds (ps := ["one", "other"]) fun _ _ _ _ _ _ us hl => match us, hl with | [_, _], _ => rfl
  have F8 := fun_mk (st := s_law_cell) l8 c8 k8
  have b8 := F8.binds (ps := ["script", "k"]) fun _ _ _ _ _ _ us hl => match us, hl with | [_, _], _ => rfl
  have F9 := fun_mk (st := s_law_box) l9 c9 k9
  have b9 := F9.binds (ps := ["great"]) fun _ _ _ _ _ _ us hl => match us, hl with | [_], _ => rfl
  have F10 := fun_mk (st := s_law_take) l10 c10 k10
  have b10 := F10.binds (ps := ["box", "many"]) fun _ _ _ _ _ _ us hl => match us, hl with | [_, _], _ => rfl
  have F11 := fun_mk (st := s_law_turned) l11 c11 k11
  have b11 := F11.binds (ps := ["box", "text"]) fun _ _ _ _ _ _ us hl => match us, hl with | [_, _], _ => rfl
  have F12 := fun_mk (st := s_law_changed) l12 c12 k12
  have b12 := F12.binds (ps := ["box", "letters", "text"]) fun _ _ _ _ _ _ us hl => match us, hl with | [_, _, _], _ => rfl
  have F13 := fun_mk (st := s_law_texts) l13 c13 k13
  have b13 := F13.binds (ps := ["box"]) fun _ _ _ _ _ _ us hl => match us, hl with | [_], _ => rfl
  have F14 := fun_mk (st := s_law_table) l14 c14 k14
  have b14 := F14.binds (ps := ["first", "second"]) fun _ _ _ _ _ _ us hl => match us, hl with | [_, _], _ => rfl
  have F15 := fun_mk (st := s_law_least) l15 c15 k15
  have b15 := F15.binds (ps := ["first", "second"]) fun _ _ _ _ _ _ us hl => match us, hl with | [_, _], _ => rfl
  have F16 := fun_mk (st := s_law_met) l16 c16 k16
  have b16 := F16.binds (ps := ["which", "first", "second"]) fun _ _ _ _ _ _ us hl => match us, hl with | [_, _, _], _ => rfl
  have F17 := fun_mk (st := s_law_right) l17 c17 k17
  have b17 := F17.binds (ps := ["box", "first", "second"]) fun _ _ _ _ _ _ us hl => match us, hl with | [_, _, _], _ => rfl
  have F18 := fun_mk (st := s_law_odd) l18 c18 k18
  have b18 := F18.binds (ps := ["box", "text"]) fun _ _ _ _ _ _ us hl => match us, hl with | [_, _], _ => rfl
  have F19 := fun_mk (st := s_law_refused_right) l19 c19 k19
  have b19 := F19.binds (ps := ["box", "first", "second"]) fun _ _ _ _ _ _ us hl => match us, hl with | [_, _, _], _ => rfl
  have F20 := fun_mk (st := s_law) l20 c20 k20
  have b20 := F20.binds (ps := ["script"]) fun _ _ _ _ _ _ us hl => match us, hl with | [_], _ => rfl
  have ov0 : PySem.W.excOver K C0 ErrX.tailE = true := by
    unfold PySem.W.excOver PySem.W.clsIn
    rw [eL0]
    show (C0 == C0 && true) = true
    rw [beq_self_eq_true]; rfl
  have E0 : ErrX.ETxt K mg "InvalidText" "InvalidText.__init__" C0 I0 := { gC := PySem.W.mg_of X G eC0, cls := ⟨nm0, q0, N0, bs0, _, sn0, sub0, ab0, col0, dd0, m00, m10, m20, m30, m50, eL0, rfl⟩, ov := ov0, tk := etk0, sa := esa0, ga := ega0, gg := egg0, noN := eno0, iC := ein0, tC := eti0, kC := ekC0, exC := eeC0, tyC := etC0, hdC := ehC0, fn := ⟨_, _, _, _, _, _, _, _, _, _, _, _, _, _, efn0, eco0⟩ }
  exact ⟨PySem.W.fnOf "law" "law" (defArgs s_law) (defBody s_law) (defScope s_law) .none kV20 dc20 pm20 an20 cd20 ct20, fun s v => .of_eq rfl, fun base _ _ => ok_law ({ f_is_text := f0, fd_is_text := _, F_is_text := F0, b_is_text := b0, g_is_text := PySem.W.mg_of X G a0, f_changes_between := f1, fd_changes_between := _, F_changes_between := F1, b_changes_between := b1, g_changes_between := PySem.W.mg_of X G a1, f_places_of := f2, fd_places_of := _, F_places_of := F2, b_places_of := b2, g_places_of := PySem.W.mg_of X G a2, f_column_behind := f3, fd_column_behind := _, F_column_behind := F3, b_column_behind := b3, g_column_behind := PySem.W.mg_of X G a3, f_ones := f4, fd_ones := _, F_ones := F4, b_ones := b4, g_ones := PySem.W.mg_of X G a4, f_check_texts := f5, fd_check_texts := _, F_check_texts := F5, b_check_texts := b5, g_check_texts := PySem.W.mg_of X G a5, f_length_of_root := f6, fd_length_of_root := _, F_length_of_root := F6, b_length_of_root := b6, g_length_of_root := PySem.W.mg_of X G a6, f_round_price := f7, fd_round_price := _, F_round_price := F7, b_round_price := b7, g_round_price := PySem.W.mg_of X G a7, f_law_cell := f8, fd_law_cell := _, F_law_cell := F8, b_law_cell := b8, g_law_cell := PySem.W.mg_of X G a8, f_law_box := f9, fd_law_box := _, F_law_box := F9, b_law_box := b9, g_law_box := PySem.W.mg_of X G a9, f_law_take := f10, fd_law_take := _, F_law_take := F10, b_law_take := b10, g_law_take := PySem.W.mg_of X G a10, f_law_turned := f11, fd_law_turned := _, F_law_turned := F11, b_law_turned := b11, g_law_turned := PySem.W.mg_of X G a11, f_law_changed := f12, fd_law_changed := _, F_law_changed := F12, b_law_changed := b12, g_law_changed := PySem.W.mg_of X G a12, f_law_texts := f13, fd_law_texts := _, F_law_texts := F13, b_law_texts := b13, g_law_texts := PySem.W.mg_of X G a13, f_law_table := f14, fd_law_table := _, F_law_table := F14, b_law_table := b14, g_law_table := PySem.W.mg_of X G a14, f_law_least := f15, fd_law_least := _, F_law_least := F15, b_law_least := b15, g_law_least := PySem.W.mg_of X G a15, f_law_met := f16, fd_law_met := _, F_law_met := F16, b_law_met := b16, g_law_met := PySem.W.mg_of X G a16, f_law_right := f17, fd_law_right := _, F_law_right := F17, b_law_right := b17, g_law_right := PySem.W.mg_of X G a17, f_law_odd := f18, fd_law_odd := _, F_law_odd := F18, b_law_odd := b18, g_law_odd := PySem.W.mg_of X G a18, f_law_refused_right := f19, fd_law_refused_right := _, F_law_refused_right := F19, b_law_refused_right := b19, g_law_refused_right := PySem.W.mg_of X G a19, f_law := fa, fd_law := _, F_law := F20, b_law := b20, g_law := PySem.W.mg_of X G a20, z_abs := PySem.W.mg_none_of X G z_abs, z_int := PySem.W.mg_none_of X G z_int, z_isinstance := PySem.W.mg_none_of X G z_isinstance, z_len := PySem.W.mg_none_of X G z_len, z_list := PySem.W.mg_none_of X G z_list, z_max := PySem.W.mg_none_of X G z_max, z_min := PySem.W.mg_none_of X G z_min, z_range := PySem.W.mg_none_of X G z_range, z_repr := PySem.W.mg_none_of X G z_repr, z_str := PySem.W.mg_none_of X G z_str, z_sum := PySem.W.mg_none_of X G z_sum, C_InvalidText := C0, i_InvalidText := I0, e_InvalidText := E0, x_InvalidText := exm_of eeC0 eiC0 etC0 esC0 } : Txt K mg)⟩
end My
open PySem PySem.W PyProof.Rows
set_option maxRecDepth 100000 in
set_option maxHeartbeats 0 in
theorem PySem.Challenge.cw_spoiltline_k09_prices_of_rounds_holds : PySem.Challenge.rw_spoiltline_k09_prices_of_rounds.Holds := by
  w_on; o_law; k_head; (case hw => w_witness2)
  k_fill
  refine L2.walk_G (l := PySem.Challenge.rw_spoiltline_k09_prices_of_rounds) (n := 63) (k := 7) (x := "script") (sp := My.spLaw) rfl (by decide) rfl ⟨rfl, by decide, by decide⟩ (fun w h Y => PySem.W.kIn_of Y) ?F (fun _ _ a ns hl _ hS => ⟨a, ns, rfl, hS, hl, fun _ => rfl⟩)
  case F =>
    intro w mg fa h KX G hmg
    refine' My.all_mk KX G hmg ?eC0 ?eL0 ?etk0 ?esa0 ?ega0 ?egg0 ?eno0 ?ein0 ?eti0 ?ekC0 ?eeC0 ?etC0 ?ehC0 ?eiC0 ?esC0 ?efn0 ?eco0 ?a0 ?l0 ?c0 ?k0 ?a1 ?l1 ?c1 ?k1 ?a2 ?l2 ?c2 ?k2 ?a3 ?l3 ?c3 ?k3 ?a4 ?l4 ?c4 ?k4 ?a5 ?l5 ?c5 ?k5 ?a6 ?l6 ?c6 ?k6 ?a7 ?l7 ?c7 ?k7 ?a8 ?l8 ?c8 ?k8 ?a9 ?l9 ?c9 ?k9 ?a10 ?l10 ?c10 ?k10 ?a11 ?l11 ?c11 ?k11 ?a12 ?l12 ?c12 ?k12 ?a13 ?l13 ?c13 ?k13 ?a14 ?l14 ?c14 ?k14 ?a15 ?l15 ?c15 ?k15 ?a16 ?l16 ?c16 ?k16 ?a17 ?l17 ?c17 ?k17 ?a18 ?l18 ?c18 ?k18 ?a19 ?l19 ?c19 ?k19 ?a20 ?l20 ?c20 ?k20 ?z_abs ?z_int ?z_isinstance ?z_len ?z_list ?z_max ?z_min ?z_range ?z_repr ?z_str ?z_sum
    (case eC0 => k_is)
    (case eL0 => k_is)
    (case etk0 => k_is)
    (case esa0 => k_is)
    (case ega0 => k_is)
    (case egg0 => k_is)
    (case eno0 => k_is)
    (case ein0 => k_is)
    (case eti0 => k_is)
    (case ekC0 => k_is)
    (case eeC0 => k_is)
    (case etC0 => k_is)
    (case ehC0 => k_is)
    (case eiC0 => k_is)
    (case esC0 => k_is)
    (case efn0 => k_is)
    (case eco0 => k_is)
    (case a0 => k_is)
    (case l0 => k_is)
    (case c0 => k_is)
    (case k0 => k_is)
    (case a1 => k_is)
    (case l1 => k_is)
    (case c1 => k_is)
    (case k1 => k_is)
    (case a2 => k_is)
    (case l2 => k_is)
    (case c2 => k_is)
    (case k2 => k_is)
    (case a3 => k_is)
    (case l3 => k_is)
    (case c3 => k_is)
    (case k3 => k_is)
    (case a4 => k_is)
    (case l4 => k_is)
    (case c4 => k_is)
    (case k4 => k_is)
    (case a5 => k_is)
    (case l5 => k_is)
    (case c5 => k_is)
    (case k5 => k_is)
    (case a6 => k_is)
    (case l6 => k_is)
    (case c6 => k_is)
    (case k6 => k_is)
    (case a7 => k_is)
    (case l7 => k_is)
    (case c7 => k_is)
    (case k7 => k_is)
    (case a8 => k_is)
    (case l8 => k_is)
    (case c8 => k_is)
    (case k8 => k_is)
    (case a9 => k_is)
    (case l9 => k_is)
    (case c9 => k_is)
    (case k9 => k_is)
    (case a10 => k_is)
    (case l10 => k_is)
    (case c10 => k_is)
    (case k10 => k_is)
    (case a11 => k_is)
    (case l11 => k_is)
    (case c11 => k_is)
    (case k11 => k_is)
    (case a12 => k_is)
    (case l12 => k_is)
    (case c12 => k_is)
    (case k12 => k_is)
    (case a13 => k_is)
    (case l13 => k_is)
    (case c13 => k_is)
    (case k13 => k_is)
    (case a14 => k_is)
    (case l14 => k_is)
    (case c14 => k_is)
    (case k14 => k_is)
    (case a15 => k_is)
    (case l15 => k_is)
    (case c15 => k_is)
    (case k15 => k_is)
    (case a16 => k_is)
    (case l16 => k_is)
    (case c16 => k_is)
    (case k16 => k_is)
    (case a17 => k_is)
    (case l17 => k_is)
    (case c17 => k_is)
    (case k17 => k_is)
    (case a18 => k_is)
    (case l18 => k_is)
    (case c18 => k_is)
    (case k18 => k_is)
    (case a19 => k_is)
    (case l19 => k_is)
    (case c19 => k_is)
    (case k19 => k_is)
    (case a20 => k_is)
    (case l20 => k_is)
    (case c20 => k_is)
    (case k20 => k_is)
    (case z_abs => k_is)
    (case z_int => k_is)
    (case z_isinstance => k_is)
    (case z_len => k_is)
    (case z_list => k_is)
    (case z_max => k_is)
    (case z_min => k_is)
    (case z_range => k_is)
    (case z_repr => k_is)
    (case z_str => k_is)
    (case z_sum => k_is)

