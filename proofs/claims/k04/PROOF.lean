import PyProof.Rows.All
import Wide.All
import OpenK.AllK
import Wide.FinOn
import HandS.ForMost
import HandS.Exc
import HandS.ExcOwn
import HandS.WordsExc
import HandS.TryMany
import HandS.ExcSuper
import HandS.ExcInit
import KE.KExcInit
import HandS.Flt
import HandS.StrMore
import HandS.IsInst
import HandS.Conv
import HandS.Wide
import KE.KxIndex
import HandS.OwnEq
import HandS.ExcIs
import KE.KExcIs
import PyProof.ListStr
import HandS.TryOnly
import HandS.Style
import PyProof.EqKinds
import PyProof.NeKinds
import HandS.More
import HandS.HeadHook3
import HandS.TupAny
import PyProof.CollectIter
import PyProof.WalksMore
import HandS.Base
import HandS.Evl
import HandS.Walk
import PySem.Challenge.RW_spoiltline_k04_kinds_and_passings
set_option Elab.async false
set_option linter.all false
set_option maxHeartbeats 8000000
namespace Lev
section
variable {α : Type}
/-- an alignment of two lists with c changes -/
inductive A : List α → List α → Nat → Prop where
  | nil : A [] [] 0
  | keep {a u v c} : A u v c → A (a :: u) (a :: v) c
  | swap {a b u v c} : A u v c → A (a :: u) (b :: v) (c + 1)
  | drop {a u v c} : A u v c → A (a :: u) v (c + 1)
  | add {b u v c} : A u v c → A u (b :: v) (c + 1)
theorem A.cast {u v u' v' : List α} {c c' : Nat} (h : A u v c) (e1 : u = u') (e2 : v = v') (e3 : c = c') : A u' v' c' := by
  subst e1 e2 e3; exact h
theorem A.refl : ∀ u : List α, A u u 0
  | [] => .nil
  | _ :: u => .keep (A.refl u)
theorem A.symm {u v : List α} {c : Nat} (h : A u v c) : A v u c := by
  induction h with
  | nil => exact .nil
  | keep _ ih => exact .keep ih
  | swap _ ih => exact .swap ih
  | drop _ ih => exact .add ih
  | add _ ih => exact .drop ih
theorem A.append {u v u' v' : List α} {c c' : Nat} (h : A u v c) (h' : A u' v' c') : A (u ++ u') (v ++ v') (c + c') := by
  induction h with
  | nil => exact h'.cast rfl rfl (Nat.zero_add _).symm
  | keep _ ih => exact .keep ih
  | swap _ ih => exact (A.swap ih).cast rfl rfl (by omega)
  | drop _ ih => exact (A.drop ih).cast rfl rfl (by omega)
  | add _ ih => exact (A.add ih).cast rfl rfl (by omega)
theorem A.drops : ∀ u : List α, A u [] u.length
  | [] => .nil
  | _ :: u => .drop (A.drops u)
theorem A.adds (u : List α) : A [] u u.length := (A.drops u).symm
theorem A.nilLeft {v : List α} {c : Nat} (h : A [] v c) : v.length ≤ c := by
  generalize e : ([] : List α) = u at h
  induction h with
  | nil => exact Nat.le_refl _
  | keep _ _ => cases e
  | swap _ _ => cases e
  | drop _ _ => cases e
  | add _ ih => have := ih e; simp; omega
/-- an alignment is cut where the left list is -/
theorem A.split {w v : List α} {c : Nat} (h : A w v c) : ∀ u u' : List α, w = u ++ u' → ∃ v1 v2 c1 c2, v = v1 ++ v2 ∧ A u v1 c1 ∧ A u' v2 c2 ∧ c = c1 + c2 := by
  induction h with
  | nil =>
    intro u u' e
    have e1 : u = [] := (List.append_eq_nil_iff.mp e.symm).1
    have e2 : u' = [] := (List.append_eq_nil_iff.mp e.symm).2
    subst e1 e2
    exact ⟨[], [], 0, 0, rfl, .nil, .nil, rfl⟩
  | @keep a w v c h ih =>
    intro u u' e
    cases u with
    | nil => exact ⟨[], a :: v, 0, c, rfl, .nil, (A.keep h).cast e rfl rfl, (Nat.zero_add _).symm⟩
    | cons x u =>
      injection e with e1 e2
      subst e1
      obtain ⟨v1, v2, c1, c2, rfl, h1, h2, rfl⟩ := ih u u' e2
      exact ⟨_ :: v1, v2, c1, c2, rfl, .keep h1, h2, rfl⟩
  | @swap a b w v c h ih =>
    intro u u' e
    cases u with
    | nil => exact ⟨[], b :: v, 0, c + 1, rfl, .nil, (A.swap h).cast e rfl rfl, (Nat.zero_add _).symm⟩
    | cons x u =>
      injection e with e1 e2
      subst e1
      obtain ⟨v1, v2, c1, c2, rfl, h1, h2, rfl⟩ := ih u u' e2
      exact ⟨_ :: v1, v2, c1 + 1, c2, rfl, .swap h1, h2, by omega⟩
  | @drop a w v c h ih =>
    intro u u' e
    cases u with
    | nil => exact ⟨[], v, 0, c + 1, rfl, .nil, (A.drop h).cast e rfl rfl, (Nat.zero_add _).symm⟩
    | cons x u =>
      injection e with e1 e2
      subst e1
      obtain ⟨v1, v2, c1, c2, rfl, h1, h2, rfl⟩ := ih u u' e2
      exact ⟨v1, v2, c1 + 1, c2, rfl, .drop h1, h2, by omega⟩
  | @add b w v c h ih =>
    intro u u' e
    obtain ⟨v1, v2, c1, c2, rfl, h1, h2, rfl⟩ := ih u u' e
    exact ⟨b :: v1, v2, c1 + 1, c2, rfl, .add h1, h2, by omega⟩

/-! ### ways over places of two lists -/
inductive P (u v : List α) : Nat → Nat → Nat → Prop where
  | zero : P u v 0 0 0
  | keep {i j c a} : P u v i j c → u[i]? = some a → v[j]? = some a → P u v (i + 1) (j + 1) c
  | swap {i j c} : P u v i j c → i < u.length → j < v.length → P u v (i + 1) (j + 1) (c + 1)
  | drop {i j c} : P u v i j c → i < u.length → P u v (i + 1) j (c + 1)
  | add {i j c} : P u v i j c → j < v.length → P u v i (j + 1) (c + 1)
variable {u v : List α}
theorem P.bounds {i j c : Nat} (h : P u v i j c) : i ≤ u.length ∧ j ≤ v.length := by
  induction h with
  | zero => exact ⟨Nat.zero_le _, Nat.zero_le _⟩
  | keep _ e1 e2 _ =>
    have h1 := (List.getElem?_eq_some_iff.mp e1).1
    have h2 := (List.getElem?_eq_some_iff.mp e2).1
    exact ⟨h1, h2⟩
  | swap _ h1 h2 _ => exact ⟨h1, h2⟩
  | drop _ h1 ih => exact ⟨h1, ih.2⟩
  | add _ h1 ih => exact ⟨ih.1, h1⟩
theorem P.toA {i j c : Nat} (h : P u v i j c) : A (u.take i) (v.take j) c := by
  induction h with
  | zero => exact (A.nil).cast (by simp) (by simp) rfl
  | keep _ e1 e2 ih =>
    exact (ih.append (A.keep A.nil)).cast (by rw [List.take_add_one, e1]; rfl) (by rw [List.take_add_one, e2]; rfl) rfl
  | @swap i j c _ h1 h2 ih =>
    exact (ih.append (A.swap (a := u[i]) (b := v[j]) A.nil)).cast (by rw [List.take_add_one, List.getElem?_eq_getElem h1]; rfl) (by rw [List.take_add_one, List.getElem?_eq_getElem h2]; rfl) rfl
  | @drop i j c _ h1 ih =>
    exact (ih.append (A.drop (a := u[i]) A.nil)).cast (by rw [List.take_add_one, List.getElem?_eq_getElem h1]; rfl) (by simp) rfl
  | @add i j c _ h1 ih =>
    exact (ih.append (A.add (b := v[j]) A.nil)).cast (by simp) (by rw [List.take_add_one, List.getElem?_eq_getElem h1]; rfl) rfl
theorem P.onA {u' v' : List α} {c' : Nat} (h : A u' v' c') : ∀ {i j c : Nat}, P u v i j c → u.drop i = u' → v.drop j = v' → i ≤ u.length → j ≤ v.length → P u v u.length v.length (c + c') := by
  induction h with
  | nil =>
    intro i j c p e1 e2 b1 b2
    have h1 : u.length ≤ i := List.drop_eq_nil_iff.mp e1
    have h2 : v.length ≤ j := List.drop_eq_nil_iff.mp e2
    have e3 : i = u.length := Nat.le_antisymm b1 h1
    have e4 : j = v.length := Nat.le_antisymm b2 h2
    subst e3 e4
    exact p
  | @keep a u' v' c' _ ih =>
    intro i j c p e1 e2 b1 b2
    have g1 : u[i]? = some a := by have := congrArg (·[0]?) e1; simpa using this
    have g2 : v[j]? = some a := by have := congrArg (·[0]?) e2; simpa using this
    have h1 := (List.getElem?_eq_some_iff.mp g1).1
    have h2 := (List.getElem?_eq_some_iff.mp g2).1
    exact ih (.keep p g1 g2) (by rw [← List.drop_drop, e1]; rfl) (by rw [← List.drop_drop, e2]; rfl) h1 h2
  | @swap a b u' v' c' _ ih =>
    intro i j c p e1 e2 b1 b2
    have g1 : u[i]? = some a := by have := congrArg (·[0]?) e1; simpa using this
    have g2 : v[j]? = some b := by have := congrArg (·[0]?) e2; simpa using this
    have h1 := (List.getElem?_eq_some_iff.mp g1).1
    have h2 := (List.getElem?_eq_some_iff.mp g2).1
    have := ih (.swap p h1 h2) (by rw [← List.drop_drop, e1]; rfl) (by rw [← List.drop_drop, e2]; rfl) h1 h2
    rw [show c + (c' + 1) = c + 1 + c' by omega]; exact this
  | @drop a u' v' c' _ ih =>
    intro i j c p e1 e2 b1 b2
    have g1 : u[i]? = some a := by have := congrArg (·[0]?) e1; simpa using this
    have h1 := (List.getElem?_eq_some_iff.mp g1).1
    have := ih (.drop p h1) (by rw [← List.drop_drop, e1]; rfl) e2 h1 b2
    rw [show c + (c' + 1) = c + 1 + c' by omega]; exact this
  | @add b u' v' c' _ ih =>
    intro i j c p e1 e2 b1 b2
    have g2 : v[j]? = some b := by have := congrArg (·[0]?) e2; simpa using this
    have h2 := (List.getElem?_eq_some_iff.mp g2).1
    have := ih (.add p h2) e1 (by rw [← List.drop_drop, e2]; rfl) b1 h2
    rw [show c + (c' + 1) = c + 1 + c' by omega]; exact this
theorem A.toP {c : Nat} (h : A u v c) : P u v u.length v.length c := by
  have := P.onA (u := u) (v := v) h .zero rfl rfl (Nat.zero_le _) (Nat.zero_le _)
  simpa using this
theorem P.toA' {c : Nat} (h : P u v u.length v.length c) : A u v c := h.toA.cast (List.take_length) (List.take_length) rfl

/-! ### the table -/
variable [DecidableEq α]
def neq (x y : Option α) : Nat := if x = y then 0 else 1
def T (u v : List α) : Nat → Nat → Nat
  | 0, j => j
  | i + 1, 0 => i + 1
  | i + 1, j + 1 => min (T u v i j + neq u[i]? v[j]?) (min (T u v (i + 1) j + 1) (T u v i (j + 1) + 1))
theorem T_zero (j : Nat) : T u v 0 j = j := by unfold T; rfl
theorem T_left (i : Nat) : T u v i 0 = i := by cases i <;> (unfold T; rfl)
theorem T_step (i j : Nat) : T u v (i + 1) (j + 1) = min (T u v i j + neq u[i]? v[j]?) (min (T u v (i + 1) j + 1) (T u v i (j + 1) + 1)) := by
  rw [T]
theorem T_le {i j c : Nat} (h : P u v i j c) : T u v i j ≤ c := by
  induction h with
  | zero => rw [T_zero]; omega
  | keep _ e1 e2 ih => rw [T_step, e1, e2]; simp only [neq, if_true]; omega
  | @swap i j c _ _ _ ih =>
    rw [T_step]
    have : neq u[i]? v[j]? ≤ 1 := by unfold neq; split <;> omega
    omega
  | @drop i j c _ _ ih => cases j with
    | zero => rw [T_left] at *; omega
    | succ j => rw [T_step]; omega
  | @add i j c _ _ ih => cases i with
    | zero => rw [T_zero] at *; omega
    | succ i => rw [T_step]; omega
theorem T_P : ∀ (i j : Nat), i ≤ u.length → j ≤ v.length → P u v i j (T u v i j) := by
  intro i
  induction i with
  | zero =>
    intro j
    induction j with
    | zero => intro _ _; rw [T_zero]; exact .zero
    | succ j ih => intro h1 h2; rw [T_zero]; have := ih h1 (by omega); rw [T_zero] at this; exact .add this (by omega)
  | succ i ihi =>
    intro j
    induction j with
    | zero => intro h1 h2; rw [T_left]; have := ihi 0 (by omega) h2; rw [T_left] at this; exact .drop this (by omega)
    | succ j ih =>
      intro h1 h2
      have p1 := ihi j (by omega) (by omega)
      have p2 := ih h1 (by omega)
      have p3 := ihi (j + 1) (by omega) h2
      rw [T_step]
      by_cases q1 : T u v i j + neq u[i]? v[j]? ≤ min (T u v (i + 1) j + 1) (T u v i (j + 1) + 1)
      · rw [Nat.min_eq_left q1]
        by_cases e : u[i]? = v[j]?
        · rw [show neq u[i]? v[j]? = 0 by unfold neq; rw [if_pos e]]
          exact .keep p1 (List.getElem?_eq_getElem (by omega)) (by rw [← e]; exact List.getElem?_eq_getElem (by omega))
        · rw [show neq u[i]? v[j]? = 1 by unfold neq; rw [if_neg e]]
          exact .swap p1 (by omega) (by omega)
      · rw [Nat.min_eq_right (by omega)]
        by_cases q2 : T u v (i + 1) j + 1 ≤ T u v i (j + 1) + 1
        · rw [Nat.min_eq_left q2]; exact .add p2 (by omega)
        · rw [Nat.min_eq_right (by omega)]; exact .drop p3 (by omega)
/-- the distance -/
def D (u v : List α) : Nat := T u v u.length v.length
theorem D_A (u v : List α) : A u v (D u v) := (T_P _ _ (Nat.le_refl _) (Nat.le_refl _)).toA'
theorem D_le {u v : List α} {c : Nat} (h : A u v c) : D u v ≤ c := T_le h.toP
theorem D_symm (u v : List α) : D u v = D v u := Nat.le_antisymm (D_le (D_A v u).symm) (D_le (D_A u v).symm)
theorem D_self (u : List α) : D u u = 0 := Nat.le_zero.mp (D_le (A.refl u))
theorem D_le_max (u v : List α) : D u v ≤ max u.length v.length := by
  have key : ∀ u v : List α, ∃ c, A u v c ∧ c ≤ max u.length v.length := by
    intro u
    induction u with
    | nil => intro v; exact ⟨_, A.adds v, by simp⟩
    | cons a u ih =>
      intro v
      cases v with
      | nil => exact ⟨_, A.drops (a :: u), by simp⟩
      | cons b v =>
        obtain ⟨c, h, hc⟩ := ih v
        exact ⟨c + 1, .swap h, by simp; omega⟩
  obtain ⟨c, h, hc⟩ := key u v
  exact Nat.le_trans (D_le h) hc
theorem A.lens {u v : List α} {c : Nat} (h : A u v c) : u.length ≤ v.length + c ∧ v.length ≤ u.length + c := by
  induction h with
  | nil => exact ⟨Nat.le_refl _, Nat.le_refl _⟩
  | keep _ ih => simp only [List.length_cons]; omega
  | swap _ ih => simp only [List.length_cons]; omega
  | drop _ ih => simp only [List.length_cons]; omega
  | add _ ih => simp only [List.length_cons]; omega
end
end Lev

set_option Elab.async false
set_option linter.all false
set_option maxHeartbeats 400000
namespace Lev
section
variable {α : Type}
/-- w is a turn of v -/
def Turn (v w : List α) : Prop := ∃ x y, v = x ++ y ∧ w = y ++ x
theorem Turn.refl (v : List α) : Turn v v := ⟨[], v, rfl, (List.append_nil v).symm⟩
theorem Turn.symm {v w : List α} (h : Turn v w) : Turn w v := by
  obtain ⟨x, y, rfl, rfl⟩ := h
  exact ⟨y, x, rfl, rfl⟩
theorem Turn.trans {u v w : List α} (h : Turn u v) (h' : Turn v w) : Turn u w := by
  obtain ⟨x, y, rfl, rfl⟩ := h
  obtain ⟨x', y', e, rfl⟩ := h'
  rcases List.append_eq_append_iff.mp e with ⟨e1, rfl, rfl⟩ | ⟨e1, rfl, rfl⟩
  · exact ⟨e1, y' ++ y, by rw [List.append_assoc], by rw [List.append_assoc]⟩
  · exact ⟨x ++ x', e1, by rw [List.append_assoc], by rw [List.append_assoc]⟩
theorem Turn.length {v w : List α} (h : Turn v w) : w.length = v.length := by
  obtain ⟨x, y, rfl, rfl⟩ := h
  simp only [List.length_append]; omega
theorem Turn.at (v : List α) (k : Nat) : Turn v (v.drop k ++ v.take k) := ⟨v.take k, v.drop k, (List.take_append_drop k v).symm, rfl⟩
/-- an alignment of turns of both is one of u and a turn -/
theorem cut {u u' v v' : List α} {c : Nat} (hu : Turn u u') (hv : Turn v v') (h : A u' v' c) : ∃ w, Turn v w ∧ A u w c := by
  obtain ⟨x, y, rfl, rfl⟩ := hu
  obtain ⟨w1, w2, c1, c2, rfl, h1, h2, rfl⟩ := h.split y x rfl
  exact ⟨w2 ++ w1, hv.trans ⟨w1, w2, rfl, rfl⟩, (h2.append h1).cast rfl rfl (Nat.add_comm _ _)⟩
/-! ### the window that is just as long -/
theorem window (N : Nat) : ∀ {u w w' : List α} {c c' k b : Nat}, u.length + w.length + w'.length ≤ N → A u w c → A u w' c' → w.length + k ≤ b → b ≤ w'.length + k →
    ∃ p q s t s' t' c1 c2 c3 c4, u = p ++ q ∧ w = s ++ t ∧ w' = s' ++ t' ∧ A p s c1 ∧ A q t c2 ∧ A p s' c3 ∧ A q t' c4 ∧ c = c1 + c2 ∧ c' = c3 + c4 ∧ t.length + (k + s'.length) = b := by
  induction N with
  | zero =>
    intro u w w' c c' k b hN h h' l1 l2
    have e1 : u = [] := List.eq_nil_of_length_eq_zero (by omega)
    have e2 : w = [] := List.eq_nil_of_length_eq_zero (by omega)
    have e3 : w' = [] := List.eq_nil_of_length_eq_zero (by omega)
    subst e1 e2 e3
    exact ⟨[], [], [], [], [], [], 0, c, 0, c', rfl, rfl, rfl, .nil, h, .nil, h', (Nat.zero_add _).symm, (Nat.zero_add _).symm, by simp at *; omega⟩
  | succ N ih =>
    intro u w w' c c' k b hN h h' l1 l2
    by_cases e : w.length + k = b
    · exact ⟨[], u, [], w, [], w', 0, c, 0, c', rfl, rfl, rfl, .nil, h, .nil, h', (Nat.zero_add _).symm, (Nat.zero_add _).symm, by simp; omega⟩
    · -- a letter more of the second
      have main : ∀ {a : α} {u w1 w1' pw pw' : List α} {c1 c1' pc pc' : Nat}, A u w1 c1 → A u w1' c1' → (∀ {p s d}, A p s d → A (a :: p) (pw ++ s) (pc + d)) → (∀ {p s d}, A p s d → A (a :: p) (pw' ++ s) (pc' + d)) → pw.length ≤ 1 → pw'.length ≤ 1 →
          (u.length + 1) + (pw ++ w1).length + (pw' ++ w1').length ≤ N + 1 → (pw ++ w1).length + k ≤ b → b ≤ (pw' ++ w1').length + k → ¬ (pw ++ w1).length + k = b →
          ∃ p q s t s' t' d1 d2 d3 d4, a :: u = p ++ q ∧ pw ++ w1 = s ++ t ∧ pw' ++ w1' = s' ++ t' ∧ A p s d1 ∧ A q t d2 ∧ A p s' d3 ∧ A q t' d4 ∧ pc + c1 = d1 + d2 ∧ pc' + c1' = d3 + d4 ∧ t.length + (k + s'.length) = b := by
        intro a u w1 w1' pw pw' c1 c1' pc pc' g g' f f' n1 n2 hN l1 l2 e
        rw [List.length_append] at hN l1 l2 e
        rw [List.length_append] at hN
        obtain ⟨p, q, s, t, s', t', d1, d2, d3, d4, rfl, rfl, rfl, a1, a2, a3, a4, e1, e2, e3⟩ := ih (k := k + pw'.length) (b := b) (by omega) g g' (by omega) (by omega)
        exact ⟨a :: p, q, pw ++ s, t, pw' ++ s', t', pc + d1, d2, pc' + d3, d4, rfl, by simp, by simp, f a1, a2, f' a3, a4, by omega, by omega, by rw [List.length_append]; omega⟩
      cases h' with
      | nil =>
        have := h.nilLeft
        simp at l2
        omega
      | @add b' _ w'' c'' g' =>
        simp only [List.length_cons] at hN l2
        obtain ⟨p, q, s, t, s', t', d1, d2, d3, d4, rfl, rfl, rfl, a1, a2, a3, a4, e1, e2, e3⟩ := ih (k := k + 1) (b := b) (by omega) h g' (by omega) (by omega)
        exact ⟨p, q, s, t, b' :: s', t', d1, d2, d3 + 1, d4, rfl, rfl, rfl, a1, a2, .add a3, a4, e1, by omega, by simp only [List.length_cons]; omega⟩
      | @keep a u w1' c1' g' =>
        cases h with
        | @add b' _ w1 c1 g =>
          simp only [List.length_cons] at hN l1 l2 e
          obtain ⟨p, q, s, t, s', t', d1, d2, d3, d4, e0, rfl, e00, a1, a2, a3, a4, e1, e2, e3⟩ := ih (k := k) (b := b) (by simp only [List.length_cons]; omega) g (A.keep g') (by omega) (by simp only [List.length_cons]; omega)
          exact ⟨p, q, b' :: s, t, s', t', d1 + 1, d2, d3, d4, e0, rfl, e00, .add a1, a2, a3, a4, by omega, e2, e3⟩
        | @keep _ _ w1 c1 g => simpa using main (pw := [a]) (pw' := [a]) (pc := 0) (pc' := 0) g g' (fun z => (A.keep z).cast rfl rfl (by omega)) (fun z => (A.keep z).cast rfl rfl (by omega)) (by simp) (by simp) (by simpa using hN) (by simpa using l1) (by simpa using l2) (by simpa using e)
        | @swap _ x _ w1 c1 g => simpa [Nat.add_comm] using main (pw := [x]) (pw' := [a]) (pc := 1) (pc' := 0) g g' (fun z => (A.swap z).cast rfl rfl (by omega)) (fun z => (A.keep z).cast rfl rfl (by omega)) (by simp) (by simp) (by simpa using hN) (by simpa using l1) (by simpa using l2) (by simpa using e)
        | @drop _ _ _ c1 g => simpa [Nat.add_comm] using main (pw := []) (pw' := [a]) (pc := 1) (pc' := 0) g g' (fun z => (A.drop z).cast rfl rfl (by omega)) (fun z => (A.keep z).cast rfl rfl (by omega)) (by simp) (by simp) (by simpa using hN) (by simpa using l1) (by simpa using l2) (by simpa using e)
      | @swap a y u w1' c1' g' =>
        cases h with
        | @add b' _ w1 c1 g =>
          simp only [List.length_cons] at hN l1 l2 e
          obtain ⟨p, q, s, t, s', t', d1, d2, d3, d4, e0, rfl, e00, a1, a2, a3, a4, e1, e2, e3⟩ := ih (k := k) (b := b) (by simp only [List.length_cons]; omega) g (A.swap (b := y) g') (by omega) (by simp only [List.length_cons]; omega)
          exact ⟨p, q, b' :: s, t, s', t', d1 + 1, d2, d3, d4, e0, rfl, e00, .add a1, a2, a3, a4, by omega, e2, e3⟩
        | @keep _ _ w1 c1 g => simpa [Nat.add_comm] using main (pw := [a]) (pw' := [y]) (pc := 0) (pc' := 1) g g' (fun z => (A.keep z).cast rfl rfl (by omega)) (fun z => (A.swap z).cast rfl rfl (by omega)) (by simp) (by simp) (by simpa using hN) (by simpa using l1) (by simpa using l2) (by simpa using e)
        | @swap _ x _ w1 c1 g => simpa [Nat.add_comm] using main (pw := [x]) (pw' := [y]) (pc := 1) (pc' := 1) g g' (fun z => (A.swap z).cast rfl rfl (by omega)) (fun z => (A.swap z).cast rfl rfl (by omega)) (by simp) (by simp) (by simpa using hN) (by simpa using l1) (by simpa using l2) (by simpa using e)
        | @drop _ _ _ c1 g => simpa [Nat.add_comm] using main (pw := []) (pw' := [y]) (pc := 1) (pc' := 1) g g' (fun z => (A.drop z).cast rfl rfl (by omega)) (fun z => (A.swap z).cast rfl rfl (by omega)) (by simp) (by simp) (by simpa using hN) (by simpa using l1) (by simpa using l2) (by simpa using e)
      | @drop a u _ c1' g' =>
        cases h with
        | @add b' _ w1 c1 g =>
          simp only [List.length_cons] at hN l1 l2 e
          obtain ⟨p, q, s, t, s', t', d1, d2, d3, d4, e0, rfl, e00, a1, a2, a3, a4, e1, e2, e3⟩ := ih (k := k) (b := b) (by simp only [List.length_cons]; omega) g (A.drop g') (by omega) (by omega)
          exact ⟨p, q, b' :: s, t, s', t', d1 + 1, d2, d3, d4, e0, rfl, e00, .add a1, a2, a3, a4, by omega, e2, e3⟩
        | @keep _ _ w1 c1 g => simpa [Nat.add_comm] using main (pw := [a]) (pw' := []) (pc := 0) (pc' := 1) g g' (fun z => (A.keep z).cast rfl rfl (by omega)) (fun z => (A.drop z).cast rfl rfl (by omega)) (by simp) (by simp) (by simpa using hN) (by simpa using l1) (by simpa using l2) (by simpa using e)
        | @swap _ x _ w1 c1 g => simpa [Nat.add_comm] using main (pw := [x]) (pw' := []) (pc := 1) (pc' := 1) g g' (fun z => (A.swap z).cast rfl rfl (by omega)) (fun z => (A.drop z).cast rfl rfl (by omega)) (by simp) (by simp) (by simpa using hN) (by simpa using l1) (by simpa using l2) (by simpa using e)
        | @drop _ _ _ c1 g => simpa [Nat.add_comm] using main (pw := []) (pw' := []) (pc := 1) (pc' := 1) g g' (fun z => (A.drop z).cast rfl rfl (by omega)) (fun z => (A.drop z).cast rfl rfl (by omega)) (by simp) (by simp) (by simpa using hN) (by simpa using l1) (by simpa using l2) (by simpa using e)
/-! ### rounds -/
def rounds : Nat → List α → List α
  | 0, _ => []
  | n + 1, v => v ++ rounds n v
theorem rounds_len (n : Nat) (v : List α) : (rounds n v).length = n * v.length := by
  induction n with
  | zero => simp [rounds]
  | succ n ih => simp [rounds, ih, Nat.succ_mul]; omega
theorem rounds_get (n : Nat) (v : List α) {i : Nat} (h : i < n * v.length) : (rounds n v)[i]? = v[i % v.length]? := by
  induction n generalizing i with
  | zero => omega
  | succ n ih =>
    show (v ++ rounds n v)[i]? = _
    rw [Nat.succ_mul] at h
    rcases Nat.lt_or_ge i v.length with q | q
    · rw [List.getElem?_append_left q, Nat.mod_eq_of_lt q]
    · rw [List.getElem?_append_right q, ih (by omega)]
      congr 1
      conv => rhs; rw [← Nat.sub_add_cancel q, Nat.add_mod_right]
/-- a piece of rounds that is as long as the text is a turn of it; the rest are rounds -/
theorem piece {n : Nat} {v x y z : List α} (h : rounds (n + 1) v = x ++ y ++ z) (hy : y.length = v.length) : Turn v y ∧ x ++ z = rounds n v := by
  by_cases hv : v.length = 0
  · have e1 : v = [] := List.eq_nil_of_length_eq_zero hv
    subst e1
    have hz : ∀ n, rounds n ([] : List α) = [] := fun n => List.eq_nil_of_length_eq_zero (by rw [rounds_len]; simp)
    rw [hz] at h
    have h' := congrArg List.length h
    simp only [List.length_nil, List.length_append] at h'
    have e2 : x = [] := List.eq_nil_of_length_eq_zero (by omega)
    have e3 : y = [] := List.eq_nil_of_length_eq_zero (by omega)
    have e4 : z = [] := List.eq_nil_of_length_eq_zero (by omega)
    subst e2 e3 e4
    exact ⟨Turn.refl _, (hz n).symm⟩
  have pos : 0 < v.length := Nat.pos_of_ne_zero hv
  have hl := congrArg List.length h
  rw [rounds_len, List.length_append, List.length_append, Nat.succ_mul] at hl
  have G : ∀ i, i < (n + 1) * v.length → (x ++ y ++ z)[i]? = v[i % v.length]? := fun i hi => by rw [← h]; exact rounds_get (n + 1) v hi
  rw [Nat.succ_mul] at G
  constructor
  · have e : y = v.drop (x.length % v.length) ++ v.take (x.length % v.length) := by
      have lt := Nat.mod_lt x.length pos
      apply List.ext_getElem?
      intro i
      rcases Nat.lt_or_ge i y.length with q | q
      · have g := G (x.length + i) (by omega)
        rw [List.append_assoc, List.getElem?_append_right (by omega), Nat.add_sub_cancel_left, List.getElem?_append_left q] at g
        rw [g]
        rcases Nat.lt_or_ge i (v.length - x.length % v.length) with q2 | q2
        · rw [List.getElem?_append_left (by rw [List.length_drop]; exact q2), List.getElem?_drop]
          congr 1
          rw [Nat.add_mod, Nat.mod_eq_of_lt (show i < v.length by omega), Nat.mod_eq_of_lt (by omega)]
        · rw [List.getElem?_append_right (by rw [List.length_drop]; exact q2), List.length_drop, List.getElem?_take, if_pos (by omega)]
          congr 1
          rw [Nat.add_mod, Nat.mod_eq_of_lt (show i < v.length by omega), Nat.mod_eq_sub_mod (by omega), Nat.mod_eq_of_lt (by omega)]
          omega
      · rw [List.getElem?_eq_none q, List.getElem?_eq_none (by simp only [List.length_append, List.length_drop, List.length_take]; omega)]
    rw [e]
    exact Turn.at v _
  · apply List.ext_getElem?
    intro i
    rcases Nat.lt_or_ge i (n * v.length) with q | q
    · rw [rounds_get n v q]
      rcases Nat.lt_or_ge i x.length with q2 | q2
      · rw [List.getElem?_append_left q2]
        have g := G i (by omega)
        rw [List.append_assoc, List.getElem?_append_left q2] at g
        exact g
      · rw [List.getElem?_append_right q2]
        have g := G (i + v.length) (by omega)
        rw [List.getElem?_append_right (by rw [List.length_append]; omega), List.length_append, Nat.add_mod_right] at g
        rw [← g]
        congr 1
        omega
    · rw [List.getElem?_eq_none (by rw [List.length_append]; omega), List.getElem?_eq_none (by rw [rounds_len]; omega)]
/-- the parts of a text that go with each round of u -/
inductive Blocks (u : List α) : Nat → List α → Nat → Prop where
  | nil : Blocks u 0 [] 0
  | cons {n w v c d} : A u w c → Blocks u n v d → Blocks u (n + 1) (w ++ v) (c + d)
theorem blocks_of {u : List α} : ∀ {n : Nat} {v : List α} {c : Nat}, A (rounds (n + 1) u) v c → Blocks u (n + 1) v c
  | 0, v, c, h => by
    have h' : A u v c := h.cast (List.append_nil u) rfl rfl
    have := Blocks.cons h' .nil
    rw [List.append_nil] at this
    exact this
  | n + 1, v, c, h => by
    obtain ⟨v1, v2, c1, c2, rfl, h1, h2, rfl⟩ := h.split u (rounds (n + 1) u) rfl
    exact .cons h1 (blocks_of h2)
def Gone (u : List α) (b n : Nat) (V : List α) (c : Nat) : Prop :=
  ∃ x y z c1 c2 u', V = x ++ y ++ z ∧ y.length = b ∧ Blocks u n (x ++ z) c1 ∧ Turn u u' ∧ A u' y c2 ∧ c = c1 + c2
theorem tri {u : List α} {b : Nat} : ∀ {n : Nat} {V : List α} {c : Nat}, Blocks u (n + 1) V c →
    (∃ w V' c1 d, V = w ++ V' ∧ A u w c1 ∧ Blocks u n V' d ∧ c = c1 + d ∧ w.length < b ∧ V.length < (n + 1) * b) ∨
    (∃ w V' c1 d, V = w ++ V' ∧ A u w c1 ∧ Blocks u n V' d ∧ c = c1 + d ∧ b < w.length ∧ (n + 1) * b < V.length) ∨ Gone u b n V c := by
  intro n
  induction n with
  | zero =>
    intro V c h
    cases h with
    | @cons _ w V' c d h1 h2 =>
      cases h2
      rcases Nat.lt_trichotomy w.length b with q | q | q
      · exact .inl ⟨w, [], c, 0, rfl, h1, .nil, rfl, q, by simp; exact q⟩
      · exact .inr (.inr ⟨[], w, [], 0, c, u, by simp, q, .nil, Turn.refl u, h1, by omega⟩)
      · exact .inr (.inl ⟨w, [], c, 0, rfl, h1, .nil, rfl, q, by simp; exact q⟩)
  | succ n ih =>
    intro V c h
    cases h with
    | @cons _ w V' c d h1 h2 =>
      have em : (n + 1 + 1) * b = (n + 1) * b + b := Nat.succ_mul _ _
      rcases ih h2 with ⟨w', V'', c', d', rfl, g1, g2, rfl, l1, l2⟩ | ⟨w', V'', c', d', rfl, g1, g2, rfl, l1, l2⟩ | ⟨x, y, z, d1, d2, u', rfl, hy, g1, g2, g3, rfl⟩
      · rcases Nat.lt_trichotomy w.length b with q | q | q
        · exact .inl ⟨w, _, c, _, rfl, h1, h2, rfl, q, by rw [List.length_append]; omega⟩
        · exact .inr (.inr ⟨[], w, _, _, c, u, by simp, q, h2, Turn.refl u, h1, by omega⟩)
        · -- longer, then shorter
          obtain ⟨p, q', s, t, s', t', k1, k2, k3, k4, rfl, rfl, rfl, a1, a2, a3, a4, rfl, rfl, e⟩ := window _ (k := 0) (b := w.length + w'.length - b) (Nat.le_refl _) g1 h1 (by omega) (by omega)
          simp only [List.length_append] at e q l1
          refine .inr (.inr ⟨s', t' ++ s, t ++ V'', (k3 + k2) + d', k4 + k1, q' ++ p, by simp, by rw [List.length_append]; omega, ?_, ⟨p, q', rfl, rfl⟩, a4.append a1, by omega⟩)
          have := Blocks.cons (a3.append a2) g2
          rw [List.append_assoc] at this
          exact this
      · rcases Nat.lt_trichotomy w.length b with q | q | q
        · obtain ⟨p, q', s, t, s', t', k1, k2, k3, k4, rfl, rfl, rfl, a1, a2, a3, a4, rfl, rfl, e⟩ := window _ (k := 0) (b := b) (Nat.le_refl _) h1 g1 (by omega) (by omega)
          refine .inr (.inr ⟨s, t ++ s', t' ++ V'', (k1 + k4) + d', k2 + k3, q' ++ p, by simp, by rw [List.length_append]; omega, ?_, ⟨p, q', rfl, rfl⟩, a2.append a3, by omega⟩)
          have := Blocks.cons (a1.append a4) g2
          rw [List.append_assoc] at this
          exact this
        · exact .inr (.inr ⟨[], w, _, _, c, u, by simp, q, h2, Turn.refl u, h1, by omega⟩)
        · exact .inr (.inl ⟨w, _, c, _, rfl, h1, h2, rfl, q, by rw [List.length_append]; omega⟩)
      · refine .inr (.inr ⟨w ++ x, y, z, c + d1, d2, u', by simp, hy, ?_, g2, g3, by omega⟩)
        rw [List.append_assoc]
        exact .cons h1 g1
/-- rounds are at least as far apart as so many turns -/
theorem rounds_ge {u v : List α} {r : Nat} (hr : ∀ w c, Turn v w → A u w c → r ≤ c) : ∀ {n : Nat} {c : Nat}, Blocks u (n + 1) (rounds (n + 1) v) c → (n + 1) * r ≤ c := by
  intro n
  induction n with
  | zero =>
    intro c h
    rw [show rounds 1 v = v from List.append_nil v] at h
    generalize e : v = V at h
    cases h with
    | @cons _ w V' c d h1 h2 =>
      cases h2
      rw [List.append_nil] at e
      subst e
      have := hr v c (Turn.refl v) h1
      omega
  | succ n ih =>
    intro c h
    have hl := rounds_len (n + 1 + 1) v
    rcases tri (b := v.length) h with ⟨w, V', c', d', e, g1, g2, _, l1, l2⟩ | ⟨w, V', c', d', e, g1, g2, _, l1, l2⟩ | ⟨x, y, z, d1, d2, u', e, hy, g1, g2, g3, rfl⟩
    · rw [hl] at l2; exact absurd l2 (Nat.lt_irrefl _)
    · rw [hl] at l2; exact absurd l2 (Nat.lt_irrefl _)
    · obtain ⟨ht, hz⟩ := piece e hy
      rw [hz] at g1
      have k1 := ih g1
      obtain ⟨w, tw, aw⟩ := cut g2 ht g3
      have k2 := hr w d2 tw aw
      rw [Nat.succ_mul]
      omega
theorem rounds_A {u w : List α} {c : Nat} (h : A u w c) : ∀ n, A (rounds n u) (rounds n w) (n * c)
  | 0 => (A.nil).cast rfl rfl (by omega)
  | n + 1 => (h.append (rounds_A h n)).cast rfl rfl (by rw [Nat.succ_mul]; omega)
theorem rounds_turn (x y : List α) : ∀ n, rounds (n + 1) (x ++ y) = x ++ rounds n (y ++ x) ++ y
  | 0 => by simp [rounds]
  | n + 1 => by
    show (x ++ y) ++ rounds (n + 1) (x ++ y) = x ++ ((y ++ x) ++ rounds n (y ++ x)) ++ y
    rw [rounds_turn x y n]
    simp
theorem rounds_last (u : List α) : ∀ n, rounds (n + 1) u = rounds n u ++ u
  | 0 => by simp [rounds]
  | n + 1 => by
    show u ++ rounds (n + 1) u = (u ++ rounds n u) ++ u
    rw [rounds_last u n]; simp
theorem rounds_le {u v w : List α} {c : Nat} (ht : Turn v w) (h : A u w c) (n : Nat) : ∃ d, A (rounds (n + 1) u) (rounds (n + 1) v) d ∧ d ≤ n * c + u.length + v.length := by
  obtain ⟨x, y, rfl, rfl⟩ := ht
  refine ⟨_, (((A.adds x).append (rounds_A h n)).append ((A.drops u).append (A.adds y))).cast (by simp [rounds_last]) (by rw [rounds_turn]; simp) rfl, ?_⟩
  simp only [List.length_append]; omega
/-! ### the price of rounds -/
variable [DecidableEq α]
/-- the least of the distances of u and the turns of v -/
def Rp (u v : List α) (r : Nat) : Prop := (∃ w, Turn v w ∧ D u w = r) ∧ ∀ w, Turn v w → r ≤ D u w
theorem Rp.uniq {u v : List α} {r r' : Nat} (h : Rp u v r) (h' : Rp u v r') : r = r' := by
  obtain ⟨⟨w, t, e⟩, k⟩ := h
  obtain ⟨⟨w', t', e'⟩, k'⟩ := h'
  have := k w' t'
  have := k' w t
  omega
theorem Rp.turns {u u' v v' : List α} {r : Nat} (h : Rp u v r) (hu : Turn u u') (hv : Turn v v') : Rp u' v' r := by
  obtain ⟨⟨w, t, e⟩, k⟩ := h
  have low : ∀ w', Turn v' w' → r ≤ D u' w' := fun w' t' => by
    obtain ⟨w2, t2, a2⟩ := cut hu (hv.trans t') (D_A u' w')
    exact Nat.le_trans (k w2 t2) (D_le a2)
  obtain ⟨w2, t2, a2⟩ := cut (v := v') hu.symm (hv.symm.trans t) (D_A u w)
  have := D_le a2
  have := low w2 t2
  exact ⟨⟨w2, t2, by omega⟩, low⟩
theorem Rp.symm {u v : List α} {r : Nat} (h : Rp u v r) : Rp v u r := by
  obtain ⟨⟨w, t, e⟩, k⟩ := h
  have low : ∀ w', Turn u w' → r ≤ D v w' := fun w' t' => by
    obtain ⟨w2, t2, a2⟩ := cut t' (Turn.refl v) (D_A v w').symm
    exact Nat.le_trans (k w2 t2) (D_le a2)
  obtain ⟨w2, t2, a2⟩ := cut (v := u) t (Turn.refl u) (D_A u w).symm
  have := D_le a2
  have := low w2 t2
  exact ⟨⟨w2, t2, by omega⟩, low⟩
theorem Rp.self {u w : List α} (h : Turn u w) : Rp u w 0 := ⟨⟨u, h.symm, D_self u⟩, fun _ _ => Nat.zero_le _⟩
theorem Rp.ge {u v : List α} {r : Nat} (h : Rp u v r) (n : Nat) : (n + 1) * r ≤ D (rounds (n + 1) u) (rounds (n + 1) v) :=
  rounds_ge (fun w c t a => Nat.le_trans (h.2 w t) (D_le a)) (blocks_of (D_A _ _))
theorem Rp.le {u v : List α} {r : Nat} (h : Rp u v r) (n : Nat) : D (rounds (n + 1) u) (rounds (n + 1) v) ≤ n * r + u.length + v.length := by
  obtain ⟨⟨w, t, rfl⟩, _⟩ := h
  obtain ⟨d, a, hd⟩ := rounds_le t (D_A u w) n
  exact Nat.le_trans (D_le a) hd
/-- the turns by their places -/
theorem turn_at {v w : List α} (h : Turn v w) : ∃ k, k < max 1 v.length ∧ w = v.drop k ++ v.take k := by
  obtain ⟨x, y, rfl, rfl⟩ := h
  by_cases e : y = []
  · subst e
    exact ⟨0, by omega, by simp⟩
  · have : 0 < y.length := List.length_pos_iff.mpr e
    exact ⟨x.length, by rw [List.length_append]; omega, by simp⟩
end
end Lev

set_option Elab.async false
set_option linter.all false
set_option maxHeartbeats 400000
namespace Lev
section
variable {α : Type} [DecidableEq α]
/-! ### turns by a number, and roots -/
def rot (k : Nat) (v : List α) : List α := v.drop k ++ v.take k
theorem rot_len (k : Nat) (v : List α) : (rot k v).length = v.length := by
  unfold rot; rw [List.length_append, List.length_drop, List.length_take]; omega
theorem rot_get {k : Nat} {v : List α} (hk : k ≤ v.length) {i : Nat} (hi : i < v.length) : (rot k v)[i]? = v[(i + k) % v.length]? := by
  unfold rot
  by_cases h : i < v.length - k
  · rw [List.getElem?_append_left (by rw [List.length_drop]; exact h), List.getElem?_drop, Nat.mod_eq_of_lt (by omega), Nat.add_comm]
  · rw [List.getElem?_append_right (by rw [List.length_drop]; omega), List.length_drop, List.getElem?_take, if_pos (by omega)]
    have e : i + k = (i - (v.length - k)) + v.length := by omega
    rw [e, Nat.add_mod_right, Nat.mod_eq_of_lt (by omega)]
/-- each letter is the one so many places on -/
def Pr (v u : List α) (s : Nat) : Prop := ∀ i, i < v.length → v[(i + s) % v.length]? = u[i]?
theorem rot_eq {k : Nat} {v u : List α} (hk : k ≤ v.length) (hl : u.length = v.length) : rot k v = u ↔ Pr v u k := by
  constructor
  · intro h i hi
    rw [← h, rot_get hk hi]
  · intro h
    apply List.ext_getElem?
    intro i
    by_cases hi : i < v.length
    · rw [rot_get hk hi]; exact h i hi
    · rw [List.getElem?_eq_none (by rw [rot_len]; omega), List.getElem?_eq_none (by omega)]
theorem Pr.zero (v : List α) : Pr v v 0 := fun i hi => by rw [Nat.add_zero, Nat.mod_eq_of_lt hi]
theorem Pr.whole (v : List α) : Pr v v v.length := fun i hi => by rw [Nat.add_mod_right, Nat.mod_eq_of_lt hi]
theorem Pr.add {v u : List α} {s t : Nat} (h : Pr v v s) (g : Pr v u t) : Pr v u (t + s) := fun i hi => by
  have e := h ((i + t) % v.length) (Nat.mod_lt _ (by omega))
  rw [Nat.mod_add_mod] at e
  rw [← Nat.add_assoc, e, g i hi]
theorem Pr.sub {v u : List α} {s t : Nat} (h : Pr v v s) (g : Pr v u (t + s)) : Pr v u t := fun i hi => by
  have e := h ((i + t) % v.length) (Nat.mod_lt _ (by omega))
  rw [Nat.mod_add_mod] at e
  rw [← e, Nat.add_assoc, g i hi]
theorem Pr.mul {v : List α} {s : Nat} (h : Pr v v s) : ∀ q, Pr v v (q * s)
  | 0 => by rw [Nat.zero_mul]; exact Pr.zero v
  | q + 1 => by rw [Nat.succ_mul]; exact h.add (Pr.mul h q)
theorem Pr.mod {v u : List α} {s t : Nat} (h : Pr v v s) (g : Pr v u t) : Pr v u (t % s) := by
  refine Pr.sub (h.mul (t / s)) ?_
  rw [Nat.mul_comm, Nat.mod_add_div]; exact g
theorem Pr.diff {v u : List α} {s t : Nat} (h : Pr v u s) (g : Pr v u (t + s)) : Pr v v t := fun i hi => by
  -- the letters i + t and i are both read by u
  have hv : 0 < v.length := by omega
  -- choose j with j + s ≡ i
  have key : ∃ j, j < v.length ∧ (j + s) % v.length = i := by
    refine ⟨(i + (v.length - s % v.length)) % v.length, Nat.mod_lt _ hv, ?_⟩
    rw [Nat.mod_add_mod]
    have hs := Nat.mod_lt s hv
    have e : i + (v.length - s % v.length) + s = i + v.length * (s / v.length + 1) := by
      have := Nat.mod_add_div s v.length
      rw [Nat.mul_add, Nat.mul_one]
      generalize v.length * (s / v.length) = z at *
      omega
    rw [e, Nat.add_mul_mod_self_left, Nat.mod_eq_of_lt hi]
  obtain ⟨j, hj, ej⟩ := key
  have e1 := h j hj
  have e2 := g j hj
  rw [ej] at e1
  have e3 : (j + (t + s)) % v.length = (i + t) % v.length := by
    rw [show j + (t + s) = (j + s) + t by omega, ← Nat.mod_add_mod, ej]
  rw [e3] at e2
  rw [e2, e1]
instance (v u : List α) (s : Nat) : Decidable (Pr v u s) := by unfold Pr; infer_instance
/-- the length of the root -/
def rho (v : List α) : Nat := ((List.range v.length).find? fun s => decide (Pr v v (s + 1))).elim 0 (· + 1)
theorem rho_nil : rho ([] : List α) = 0 := rfl
theorem find_range {n : Nat} {p : Nat → Bool} {s : Nat} (h : (List.range n).find? p = some s) : s < n ∧ p s = true ∧ ∀ t, t < s → p t = false := by
  have e := List.find?_eq_some_iff_getElem.mp h
  obtain ⟨h1, i, hi, h2, h3⟩ := e
  rw [List.length_range] at hi
  rw [List.getElem_range] at h2
  subst h2
  exact ⟨hi, h1, fun t ht => by have := h3 t ht; rw [List.getElem_range] at this; simpa using this⟩
theorem rho_spec {v : List α} (hv : v ≠ []) : 0 < rho v ∧ rho v ≤ v.length ∧ Pr v v (rho v) ∧ ∀ t, 0 < t → t < rho v → ¬ Pr v v t := by
  have hl : 0 < v.length := List.length_pos_iff.mpr hv
  unfold rho
  cases h : (List.range v.length).find? fun s => decide (Pr v v (s + 1)) with
  | none =>
    have := List.find?_eq_none.mp h (v.length - 1) (List.mem_range.mpr (by omega))
    rw [show v.length - 1 + 1 = v.length by omega] at this
    exact absurd (decide_eq_true (Pr.whole v)) this
  | some s =>
    obtain ⟨h1, h2, h3⟩ := find_range h
    refine ⟨Nat.succ_pos _, h1, of_decide_eq_true h2, fun t t0 t1 => ?_⟩
    have := h3 (t - 1) (by have : t < s + 1 := t1; omega)
    rw [show t - 1 + 1 = t by omega] at this
    exact of_decide_eq_false this
theorem rho_le (v : List α) : rho v ≤ v.length := by
  by_cases h : v = []
  · subst h; exact Nat.le_refl _
  · exact (rho_spec h).2.1
theorem rho_least {v : List α} (hv : v ≠ []) {t : Nat} (t0 : 0 < t) (h : Pr v v t) : rho v ≤ t := by
  obtain ⟨_, _, _, k⟩ := rho_spec hv
  rcases Nat.lt_or_ge t (rho v) with q | q
  · exact absurd h (k t t0 q)
  · exact q
theorem rho_eq {v : List α} (hv : v ≠ []) {s : Nat} (s0 : 0 < s) (h : Pr v v s) (k : ∀ t, 0 < t → t < s → ¬ Pr v v t) : rho v = s := by
  refine Nat.le_antisymm (rho_least hv s0 h) ?_
  obtain ⟨a, _, c, _⟩ := rho_spec hv
  rcases Nat.lt_or_ge (rho v) s with q | q
  · exact absurd c (k _ a q)
  · exact q
theorem rho_dvd {v : List α} (hv : v ≠ []) {t : Nat} (h : Pr v v t) : t % rho v = 0 := by
  obtain ⟨a, _, c, k⟩ := rho_spec hv
  rcases Nat.eq_zero_or_pos (t % rho v) with q | q
  · exact q
  · exact absurd (Pr.mod c h) (k _ q (Nat.mod_lt _ a))
/-- the rounds of a piece -/
theorem rounds_Pr {w : List α} (hw : w ≠ []) (k : Nat) (s : Nat) : Pr (rounds (k + 1) w) (rounds (k + 1) w) s ↔ Pr w w s := by
  have hm : 0 < w.length := List.length_pos_iff.mpr hw
  have hl : (rounds (k + 1) w).length = (k + 1) * w.length := rounds_len _ _
  have get : ∀ i, (rounds (k + 1) w)[i % ((k + 1) * w.length)]? = w[i % w.length]? := fun i => by
    rw [rounds_get _ _ (Nat.mod_lt _ (Nat.mul_pos (Nat.succ_pos _) hm)), Nat.mod_mod_of_dvd _ (Nat.dvd_mul_left _ _)]
  constructor
  · intro h i hi
    have e := h i (by rw [hl, Nat.succ_mul]; omega)
    rw [hl, get] at e
    have e2 := get i
    rw [Nat.mod_eq_of_lt (by rw [Nat.succ_mul]; omega), Nat.mod_eq_of_lt hi] at e2
    rw [e, e2]
  · intro h i hi
    rw [hl] at hi
    rw [hl, get]
    have e2 := get i
    rw [Nat.mod_eq_of_lt hi] at e2
    rw [e2]
    have := h (i % w.length) (Nat.mod_lt _ hm)
    rw [Nat.mod_add_mod] at this
    exact this
theorem rounds_ne {w : List α} (hw : w ≠ []) (k : Nat) : rounds (k + 1) w ≠ [] := by
  intro h
  have := congrArg List.length h
  rw [rounds_len, Nat.succ_mul, List.length_nil] at this
  have := List.length_pos_iff.mpr hw
  omega
theorem rho_rounds {w : List α} (hw : w ≠ []) (k : Nat) : rho (rounds (k + 1) w) = rho w := by
  obtain ⟨a, _, c, d⟩ := rho_spec hw
  exact rho_eq (rounds_ne hw k) a ((rounds_Pr hw k _).mpr c) fun t t0 t1 h => d t t0 t1 ((rounds_Pr hw k _).mp h)
theorem rho_ext {v w : List α} (h : ∀ s, Pr v v s ↔ Pr w w s) (hv : v ≠ []) (hw : w ≠ []) : rho v = rho w := by
  obtain ⟨a, _, c, d⟩ := rho_spec hw
  exact rho_eq hv a ((h _).mpr c) fun t t0 t1 q => d t t0 t1 ((h _).mp q)
/-- a text is the rounds of a beginning of s letters exactly if s divides and it is periodic -/
theorem rounds_iff {v : List α} {s : Nat} (s0 : 0 < s) (hs : s ≤ v.length) : (v.length % s = 0 ∧ rounds (v.length / s) (v.take s) = v) ↔ (v.length % s = 0 ∧ Pr v v s) := by
  have lt : (v.take s).length = s := by rw [List.length_take]; omega
  constructor
  · rintro ⟨h1, h2⟩
    refine ⟨h1, ?_⟩
    have hq : 0 < v.length / s := Nat.div_pos hs s0
    obtain ⟨k, hk⟩ : ∃ k, v.length / s = k + 1 := ⟨v.length / s - 1, by omega⟩
    rw [hk] at h2
    have hw : v.take s ≠ [] := by intro z; rw [z] at lt; simp at lt; omega
    have := (rounds_Pr hw k s).mpr (by have := Pr.whole (v.take s); rw [lt] at this; exact this)
    rw [h2] at this
    exact this
  · rintro ⟨h1, h2⟩
    refine ⟨h1, ?_⟩
    have hd : v.length / s * s = v.length := Nat.div_mul_cancel (Nat.dvd_of_mod_eq_zero h1)
    apply List.ext_getElem?
    intro i
    by_cases hi : i < v.length
    · rw [rounds_get _ _ (by rw [lt, hd]; exact hi), lt, List.getElem?_take, if_pos (Nat.mod_lt _ s0)]
      have e := h2.mul (i / s) (i % s) (Nat.lt_of_lt_of_le (Nat.mod_lt _ s0) hs)
      rw [Nat.mul_comm, Nat.mod_add_div, Nat.mod_eq_of_lt hi] at e
      exact e.symm
    · rw [List.getElem?_eq_none (by rw [rounds_len, lt, hd]; omega), List.getElem?_eq_none (by omega)]
theorem rho_rounds_of {v : List α} (hv : v ≠ []) : v.length % rho v = 0 ∧ rounds (v.length / rho v) (v.take (rho v)) = v := by
  obtain ⟨a, b, c, _⟩ := rho_spec hv
  exact (rounds_iff a b).mpr ⟨rho_dvd hv (Pr.whole v), c⟩
def root (v : List α) : List α := v.take (rho v)
theorem root_nil : root ([] : List α) = [] := rfl
theorem root_len (v : List α) : (root v).length = rho v := by unfold root; rw [List.length_take]; have := rho_le v; omega
theorem root_ne {v : List α} (hv : v ≠ []) : root v ≠ [] := by
  intro h
  have := congrArg List.length h
  rw [root_len] at this
  have := (rho_spec hv).1
  simp at *; omega
theorem root_rounds {w : List α} (hw : w ≠ []) (k : Nat) : root (rounds (k + 1) w) = root w := by
  unfold root
  rw [rho_rounds hw]
  show (w ++ rounds k w).take (rho w) = _
  rw [List.take_append_of_le_length (rho_le w)]
theorem root_of {v : List α} (hv : v ≠ []) : ∃ k, v = rounds (k + 1) (root v) := by
  obtain ⟨h1, h2⟩ := rho_rounds_of hv
  have hq : 0 < v.length / rho v := Nat.div_pos (rho_le v) (rho_spec hv).1
  exact ⟨v.length / rho v - 1, by rw [show v.length / rho v - 1 + 1 = v.length / rho v by omega]; exact h2.symm⟩
theorem rounds_addR (v : List α) (n : Nat) : ∀ k, rounds (k + n) v = rounds k v ++ rounds n v
  | 0 => by rw [Nat.zero_add]; rfl
  | k + 1 => by
    rw [Nat.add_right_comm]
    show v ++ rounds (k + n) v = (v ++ rounds k v) ++ rounds n v
    rw [rounds_addR v n k, List.append_assoc]
/-- texts that commute are rounds of one text -/
theorem commute {N : Nat} : ∀ {x y : List α}, x.length + y.length ≤ N → x ≠ [] → y ≠ [] → x ++ y = y ++ x → ∃ z a b, z ≠ [] ∧ x = rounds (a + 1) z ∧ y = rounds (b + 1) z := by
  induction N with
  | zero => intro x y h hx _ _; exact absurd (List.length_eq_zero_iff.mp (by omega)) hx
  | succ N ih =>
    intro x y h hx hy e
    have px := List.length_pos_iff.mpr hx
    have py := List.length_pos_iff.mpr hy
    have one : ∀ {x y : List α}, x.length + y.length ≤ N + 1 → x ≠ [] → y ≠ [] → x ++ y = y ++ x → x.length < y.length → ∃ z a b, z ≠ [] ∧ x = rounds (a + 1) z ∧ y = rounds (b + 1) z := by
      intro x y h hx hy e l
      have px := List.length_pos_iff.mpr hx
      have hp : y = x ++ y.drop x.length := by
        have := congrArg (List.take x.length) e
        rw [List.take_left', List.take_append_of_le_length (by omega)] at this
        · conv => lhs; rw [← List.take_append_drop x.length y]
          rw [← this]
        · rfl
      generalize hy' : y.drop x.length = y' at hp
      have ly : y'.length = y.length - x.length := by rw [← hy', List.length_drop]
      rw [hp] at e
      have e2 : x ++ y' = y' ++ x := by
        rw [List.append_assoc] at e
        exact List.append_cancel_left e
      have hy2 : y' ≠ [] := by intro z; rw [z] at ly; simp at ly; omega
      obtain ⟨z, a, b, hz, e3, e4⟩ := ih (by omega) hx hy2 e2
      refine ⟨z, a, a + 1 + b, hz, e3, ?_⟩
      rw [hp, show a + 1 + b + 1 = (a + 1) + (b + 1) by omega, rounds_addR, ← e3, ← e4]
    rcases Nat.lt_trichotomy x.length y.length with l | l | l
    · exact one h hx hy e l
    · have : x = y := by
        have := congrArg (List.take x.length) e
        rw [List.take_left' rfl, List.take_left' l.symm] at this
        exact this
      subst this
      exact ⟨x, 0, 0, hx, by simp [rounds], by simp [rounds]⟩
    · obtain ⟨z, a, b, hz, e1, e2⟩ := one (by omega) hy hx e.symm l
      exact ⟨z, b, a, hz, e2, e1⟩
theorem root_commute {x y : List α} (hx : x ≠ []) (hy : y ≠ []) : root x = root y ↔ x ++ y = y ++ x := by
  constructor
  · intro h
    obtain ⟨a, ea⟩ := root_of hx
    obtain ⟨b, eb⟩ := root_of hy
    rw [← h] at eb
    rw [ea, eb, ← rounds_addR, ← rounds_addR, Nat.add_comm]
  · intro h
    obtain ⟨z, a, b, hz, e1, e2⟩ := commute (Nat.le_refl _) hx hy h
    rw [e1, e2, root_rounds hz, root_rounds hz]
end
end Lev

set_option Elab.async false
set_option linter.all false
set_option maxRecDepth 100000
set_option maxHeartbeats 2000000
/-! An own error class over another own class over Exception, whose __init__ keeps its one argument: raised, caught, its attribute read. -/
namespace ErrX
open PySem PySem.W PySem.Calls PyProof.Rows PySem.HandSPX Builtin Builtin.ObjectAttr
abbrev tailE : List Value := [.type "Exception", .type "BaseException", .type "object"]
/-! ### the text of such an __init__ -/
def iA (p1 p2 : Pos) : Arguments := { posonlyargs := [], args := [{ arg := "self", annotation := none, pos := p1 }, { arg := "given", annotation := none, pos := p2 }], vararg := none, kwonlyargs := [], kw_defaults := [], kwarg := none, defaults := [] }
def iB (q1 q2 q3 q4 : Pos) : List Stmt := [.Assign [.Attribute (.Name "self" q1) "given" q2] (.Name "given" q3) q4]
def iS : Scope := { kind := .function, names := [(PySem.Str.ofString "self", .local), (PySem.Str.ofString "given", .local)], isGenerator := false, isCoroutine := false, more := [] }
/-- what the written part says of the class cn, at C, and of its __init__, at fI -/
structure ETxt (K : Frag) (mg : Str → Option Value) (cn qi : Str) (C fI : Addr) : Prop where
  gC : mg cn = some (.ref C)
  cls : ∃ nm q N bs bm sn sub ab col dd k0 k1 k2 k3 k5, K.lookup C = some (excClassObj nm q C N bs bm true sn sub ab col dd k0 k1 k2 k3 k5 "Exception.__new__") ∧ excTail tailE bm = true
  ov : excOver K C tailE = true
  tk : takerIn K C "given" = some none
  sa : findIn K (.ref C) "__setattr__" = some (some (.builtin "object.__setattr__"))
  ga : findIn K (.ref C) "__getattribute__" = some (some (.builtin "BaseException.__getattribute__"))
  gg : findIn K (.ref C) "__getattr__" = some none
  noN : findIn K (.ref C) "given" = some none
  iC : findIn K (.ref C) "__init__" = some (some (.ref fI))
  tC : typeIn K (.ref fI) = some (.type "function")
  kC : keepIn K (.ref C) = true
  exC : subIn K (.ref C) (.type "BaseException") = some true
  tyC : typeIn K (.ref C) = some (.type "type")
  hdC : hasDictIn K C = true
  fn : ∃ (oc : Value) (od : Option Addr) (doc pm : Value) (an : Option Addr) (cdv ct : Value) (osl : Array (Option Value)) (p1 p2 q1 q2 q3 q4 : Pos),
    K.lookup fI = some ⟨oc, od, .func (fnOf "__init__" qi (iA p1 p2) (iB q1 q2 q3 q4) iS .none .none doc pm an cdv ct), osl⟩ ∧ codeIn K cdv qi = true
theorem one_fits (v : Value) : [v].length ≤ sizeLine := by
  rw [sizeLine_eq]
  exact (by decide : 1 ≤ 16777216)
/-- what __init__ leaves of a fresh error at x -/
structure EndE (h h' : Heap) (x C dx t1 : Addr) (fl : Str) (v : Value) : Prop where
  keep : ∀ b o, b ≠ x → h.get? b = some o → h'.get? b = some o
  obj : h'.get? x = some (excObj C t1 (some dx) .none)
  dbig : h.objs.size ≤ dx
  dne : dx ≠ x
  ns : h'.Ns1 dx (fun y => if y = fl then some v else none)
structure MadeE (h h' : Heap) (e C d : Addr) (fl : Str) (v : Value) : Prop where
  keep : ∀ b o, h.get? b = some o → h'.get? b = some o
  new : h.objs.size ≤ e
  obj : ∃ t, h'.get? e = some (excObj C t (some d) .none)
  dbig : h.objs.size ≤ d
  dne : d ≠ e
  ns : h'.Ns1 d (fun y => if y = fl then some v else none)
section
variable {prog : Program} {w : World} {A : Around} {E : Value → Shared → Prop} {R : Result → Shared → Prop} {s : Shared} {K : Frag} {mg : Str → Option Value} {C fI : Addr} {cn qi : Str}
/-- the first store into a fresh error -/
theorem store_new {name : Str} {tk : Tok} {v : Value} {x t0 : Addr} (X : K.In s.heap) (hx : s.heap.get? x = some (excObj C t0 none .none)) (ho : excOver K C tailE = true) (ht : takerIn K C name = some none) (hh : hasDictIn K C = true)
    (hq : ∀ h' tk' dx, EndE s.heap h' x C dx t0 name v → R (.ok (.ret .none)) { s with heap := h', toks := tk' }) :
    codeAny (model prog w) A (.call (.builtin "object.__setattr__") ⟨[.ref x, .str name tk, v], []⟩) R s := by
  refine osa_openX (od := none) F.store_Exception X ⟨hx, rfl, rfl, trivial⟩ ho ht fun b => ?_
  obtain ⟨cd, hc, hd'⟩ := any_some hh
  have hxs : x ≠ s.heap.objs.size := Nat.ne_of_lt (Heap.lt_size hx)
  have hx1 : (s.heap.push { cls := .type "dict", data := .dict #[] }).get? x = some (excObj C t0 none .none) := Heap.get?_push_of_some _ hx
  refine wpAny_bind (wpAny_pure (wpAny_bind (instanceDict_exc hx (looks_clsIn X hc) hd' ?_)))
  show wpAny _ _ (storeInDict s.heap.objs.size (.str name tk) name v) _ _ _
  obtain ⟨hp, g, dr, t, os⟩ := s
  refine store_in_new ?_ ?_
  · exact ⟨_, #[], _, (Heap.get?_update_ne _ _ _ _ hxs.symm).trans (Heap.get?_push_at rfl rfl), rfl, fun e he => absurd he (by simp), fun _ => rfl⟩
  · intro h' tk' hn' hs
    refine hq h' tk' hp.objs.size ⟨fun b o hb ho => ?_, ?_, Nat.le_refl _, hxs.symm, hn'⟩
    · exact (hs.2 b (Nat.ne_of_lt (Heap.lt_size ho))).trans ((Heap.get?_update_ne _ _ _ _ hb).trans (Heap.get?_push_of_some _ ho))
    · exact (hs.2 x hxs).trans (Heap.get?_update_self _ hx1 rfl)
theorem ldC {M : Model} {s : Shared} {name : Str} {scope : Scope} {L a : Addr} {cd : Value} {m : Str → Option Value} {x : Str} {pos : Pos} {v : Value} {Q : Value → Shared → Prop} {A : Around} {E : Value → Shared → Prop} (hn : s.heap.Ns L m) (hv : m x = some v) (h : Q v s)
    (hk : scope.kind = .function := by rfl) (hl : (envOfC name scope L a cd).kindOf x = some .local := by rfl) (hd : (x == ("__debug__" : Str)) = false := by decide) :
    wpAny M A (eval (.Name x pos) (envOfC name scope L a cd)) Q E s := wpAny_Name (wpAny_loadName_local hk hl hn hv h) hd
theorem init_ok (T : ETxt K mg cn qi C fI) {x t0 : Addr} {v : Value} (X : K.In s.heap) (hlim : s.heap.NoLimit) (hx : s.heap.get? x = some (excObj C t0 none .none)) (hroom : A.depth < recursionLimit)
    (hq : ∀ h' tk dx, EndE s.heap h' x C dx t0 "given" v → R (.ok (.ret .none)) { s with heap := h', toks := tk }) :
    codeAny (model prog w) A (.call (.ref fI) ⟨[.ref x, v], []⟩) R s := by
  obtain ⟨oc, od, doc, pm, an, cdv, ct, osl, p1, p2, q1, q2, q3, q4, ho, hcd⟩ := T.fn
  refine Att.call_fn (binds := [("self", .ref x), ("given", v)]) X hlim ho hcd hroom (BindsTo.of_eq (by first | rfl | with_unfolding_all rfl)) (by first | rfl | decide | with_unfolding_all rfl) (fun s1 IC => ?_) rfl rfl rfl
  obtain ⟨h1, tk1, rfl⟩ := IC.toInCall.same
  have k : ∀ b o, s.heap.get? b = some o → h1.get? b = some o := IC.toInCall.keep
  have hn := IC.toInCall.ns
  have X1 : K.In h1 := X.keeps k
  have hx1 := k _ _ hx
  show wpAny _ _ (execs _ _) _ _ _
  refine wpAny_execs_cons (plainObj_wpAny_Assign_Attribute ?_)
  refine ldC (v := v) hn (by first | rfl | with_unfolding_all rfl | kernel_rfl) (ldC (v := .ref x) hn (by first | rfl | with_unfolding_all rfl | kernel_rfl) ?_)
  refine set_plain X1 (ox := excObj C t0 none .none) (od := none) ⟨hx1, rfl, rfl, trivial⟩ T.sa ?_
  refine store_new X1 hx1 T.ov T.tk T.hdC fun h3 tk3 dx M => ?_
  show wpAny _ _ (execs _ _) _ _ _
  have z : s.heap.objs.size < h1.objs.size := hn.lt
  exact wpAny_execs_nil (hq h3 tk3 dx ⟨fun b o hb e => M.keep b o hb (k b o e), M.obj, Nat.le_of_lt (Nat.lt_of_lt_of_le z M.dbig), M.dne, M.ns⟩)
theorem made_ok (T : ETxt K mg cn qi C fI) {v : Value} (X : K.In s.heap) (hlim : s.heap.NoLimit) (hroom : A.depth + 1 < recursionLimit)
    (hq : ∀ h' tk e d, MadeE s.heap h' e C d "given" v → R (.ok (.ret (.ref e))) { s with heap := h', toks := tk }) :
    codeAny (model prog w) A (.call (.ref C) ⟨[v], []⟩) R s := by
  obtain ⟨nm, q, N, bs, bm, sn, sub, ab, col, dd, k0, k1, k2, k3, k5, hC, hbm⟩ := T.cls
  obtain ⟨hp, g, dr, tk, os⟩ := s
  have k : ∀ b o, hp.get? b = some o → ((hp.push (kdv_tup [v])).push (excO C hp.objs.size)).get? b = some o := fun b o e => Heap.get?_push_of_some _ (Heap.get?_push_of_some _ e)
  have hget : ((hp.push (kdv_tup [v])).push (excO C hp.objs.size)).get? (hp.objs.size + 1) = some (excO C hp.objs.size) := by heap_get
  refine call_own F.excBase_Exception (fun X => excTail_contains X bm hbm) (X _ _ hC) (looks_findIn X T.iC) (fun self => bind_fn X self T.tC) (one_fits v) ?_
  refine init_ok (s := ⟨(hp.push (kdv_tup [v])).push (excO C hp.objs.size), g, dr, tk, os⟩) T (X.keeps k) (hlim.keeps k) hget ?_ fun h' tk' dx M => ?_
  · show A.depth + 1 < recursionLimit
    exact hroom
  · have old : ∀ b o, hp.get? b = some o → h'.get? b = some o := fun b o e => M.keep b o (Nat.ne_of_lt (Nat.lt_succ_of_lt (Heap.lt_size e))) (k b o e)
    have z : hp.objs.size + 1 + 1 ≤ dx := by
      have q := M.dbig
      first
        | exact q
        | (rw [Heap.size_push, Heap.size_push] at q; exact q)
        | (simpa only [Heap.size_push] using q)
    exact ⟨rfl, hq h' tk' (hp.objs.size + 1) dx ⟨old, Nat.le_succ _, ⟨_, M.obj⟩, Nat.le_trans (Nat.le_trans (Nat.le_succ _) (Nat.le_succ _)) z, M.dne, M.ns⟩⟩
end
end ErrX
namespace L2
open PySem PySem.Spec PyProof.Rows
/-- the own dict of an error that keeps v -/
abbrev gvn (v : V) : List (Str × V) := [(("given" : Str), v)]
theorem relO_gvn {v : V} {v' : Value} (r : RelV v v') (f : Str) : RelO (List.lookup f (gvn v)) (if f = "given" then some v' else none) := by
  have e := lookup_put "given" f v []
  show RelO (List.lookup f [(("given" : Str), v)]) _
  rw [e]
  by_cases h : f = "given"
  · rw [if_pos h, if_pos h]; exact r
  · rw [if_neg h, if_neg h]; trivial
section
variable {X : Cx} {C fI : Addr} {cn qi : Str}
/-- C(e) -/
def tMkE (C : Addr) (ta : TA) : St → Hp → XK → Prop := fun σ H Q => ta σ H fun vs H1 => ∃ v, vs = [v] ∧ ∀ d, H1 d = none → Q (.ref C) (some d) (upd H1 d (.xd (gvn v)))
theorem pmk_err {a : Expr} {ta : TA} {p pos : Pos} {k : Nat} (T : ErrX.ETxt X.K X.mg cn qi C fI) (hr : Room k X.A) (ha : PA X [a] ta) (hg : Gl X cn) (hdb : (cn == ("__debug__" : Str)) = false)
    (he : starEach (a :: []) X.env = (false, eval a X.env) :: starEach [] X.env := by rfl) (hpl : (backTo pos (starEach [] X.env)).any (·.1) = false := by rfl) :
    PMk X (.Call (.Name cn p) [a] [] pos) (tMkE C ta) := by
  intro pins s σ H Q I h
  refine wpAny_Call_Name_kw (ld_glob I hg T.gC ?_ hdb)
  refine PySem.W.callWith_K (h₀ := X.base) I.ok.mod.kin T.kC (thn (ha.run pos pins s σ H _ I h) fun us s1 hh => ?_) he hpl
  obtain ⟨vs, H1, I1, r1, v, ev, q1⟩ := hh
  subst ev
  refine ⟨I1.kIn, ?_⟩
  cases r1 with
  | cons rv rn =>
    rename_i v' us'
    cases rn
    show wpAny _ _ (call (.ref C) [v']) _ _ _
    have hlim := I1.nolimit
    obtain ⟨hp, g, dr, tk, os⟩ := s1
    refine wpAny_call (ErrX.made_ok T I1.kIn hlim (by have := hr.dp; omega) fun h' tk' e d M => ?_)
    show MkP X pins σ Q (.ref e) ⟨h', g, dr, tk', os⟩
    obtain ⟨t, hoe⟩ := M.obj
    have hns := M.ns
    obtain ⟨G', g1, g2⟩ := restrict h' fun b => decide (b ≠ e)
    have gk : ∀ b, b ≠ e → G'.get? b = h'.get? b := fun b hb => g1 b (decide_eq_true hb)
    have ge : G'.get? e = none := g2 e (by simp)
    have old : ∀ b o, hp.get? b = some o → G'.get? b = some o := fun b o q => (gk b (Nat.ne_of_lt (Nat.lt_of_lt_of_le (Heap.lt_size q) M.new))).trans (M.keep b o q)
    have ob : ObjOk X.prog X.w (upd H1 d (.xd (gvn v))) G' d (.xd (gvn v)) :=
      ⟨_, hns.at (fun o q => (gk d M.dne).trans q), fun f => relO_gvn rv f⟩
    have J : Inv X pins σ (upd H1 d (.xd (gvn v))) ⟨G', g, dr, tk', os⟩ := I1.laid (t' := tk') old M.dbig ob
    refine ⟨e, _, _, ⟨G', g, dr, tk', os⟩, _, .ref C, some d, rfl, J, fun b o q => ?_, ge, hoe, ⟨rfl, rfl⟩, rfl, rfl, ?_, rfl, I1.bare, raises_own T.exC T.tyC, q1 d (I1.hok.fresh M.dbig)⟩
    · by_cases hb : b = e
      · have q' : G'.get? b = some o := q
        rw [hb, ge] at q'; cases q'
      · exact (gk b hb).symm.trans q
    · rw [upd_ne (Ne.symm M.dne)]
      exact I1.hok.fresh M.new
/-- raise C(e) -/
def tRaiseE (C : Addr) (W : WX) (ta : TA) : TS := fun _ σ H => tMkE C ta σ H fun cls d H' => W cls d σ H'
theorem ps_raiseE {a : Expr} {ta : TA} {W : WX} {p pos pos2 : Pos} {k : Nat} (hc : X.calm = true) (T : ErrX.ETxt X.K X.mg cn qi C fI) (hr : Room k X.A) (tk : Takes X W) (ha : PA X [a] ta) (hg : Gl X cn := by rfl) (hdb : (cn == ("__debug__" : Str)) = false := by decide)
    (he : starEach (a :: []) X.env = (false, eval a X.env) :: starEach [] X.env := by rfl) (hpl : (backTo pos (starEach [] X.env)).any (·.1) = false := by rfl) :
    PS X (.Raise (some (.Call (.Name cn p) [a] [] pos)) none pos2) (tRaiseE C W ta) := ps_raise hc tk (pmk_err T hr ha hg hdb he hpl)
/-- e.given, e the error that the suite holds (at a; its class cls, its dict d) -/
def tGvn (C : Addr) (a : Addr) (cls : Value) (d : Option Addr) (te : TE) : TE := fun σ H Q => te σ H fun x H1 => x = .ref a ∧ cls = .ref C ∧ ∃ (dd : Addr) (v : V), d = some dd ∧ H1 dd = some (.xd (gvn v)) ∧ Q v H1
theorem pe_gvn {a : Addr} {oe : Obj} {cls : Value} {d : Option Addr} {pn : List (Addr × Obj)} {e : Expr} {te : TE} {pos : Pos} (T : ErrX.ETxt X.K X.mg cn qi C fI) (hz : Zc cls d oe) (hf : ∃ vs, oe.data = .fields vs) (he : PE (X.suite a ((a, oe) :: pn)) e te)
    (hb : attributeBase e "given" X.env (eval e X.env) = eval e X.env := by rfl) :
    PE (X.suite a ((a, oe) :: pn)) (.Attribute e "given" pos) (tGvn C a cls d te) := by
  refine ⟨fun pins s σ H Q I h => ?_⟩
  refine attr_of hb (thn (he.run pins s σ H _ I h) fun u s1 hh => ?_)
  obtain ⟨x, H1, I1, rx, ex, ec, dd, v, ed, ea, q⟩ := hh
  subst ex
  obtain rfl : u = Value.ref a := rx
  subst ec
  subst ed
  obtain ⟨ha, _⟩ := I1.pin (a, oe) (List.mem_append_left _ List.mem_cons_self)
  obtain ⟨vs, hd⟩ := hf
  have hx : ObjOk X.prog X.w H1 s1.heap dd (.xd (gvn v)) := I1.hok dd _ ea
  obtain ⟨mA, hns, hr⟩ := hx
  obtain ⟨od, ho, hl⟩ := lookIn_ns hns
  have l : List.lookup ("given" : Str) (gvn v) = some v := by
    show List.lookup ("given" : Str) [(("given" : Str), v)] = some v
    rw [lookup_put, if_pos rfl]
  obtain ⟨u, hu, ru⟩ := RelO.some_of (v := v) (o := mA "given") (by rw [← l]; exact hr "given")
  have J : PySem.W.InstAt s1.heap a oe C (some od) := ⟨ha, hz.1, by unfold PySem.W.notCls; rw [hd] <;> rfl, by rw [hz.2]; exact ho⟩
  exact HandSPX.exc_get I1.kIn J T.ga T.gg T.exC (PySem.W.findObj_own T.hdC T.noN rfl (by rw [hl, hu])) (handed_of ru) ⟨v, H1, I1.tok _, ru, q⟩
end
end L2

set_option Elab.async false
set_option linter.all false
set_option maxRecDepth 100000
set_option maxHeartbeats 2000000
/-! Further rules over the hand layer: texts by their codes, three numbers' max and min, repr of data. -/
namespace L2
open PySem PySem.Spec PyProof.Rows
/-! ### texts by their codes -/
abbrev cs (x : Str) : List Nat := x.cps.toList
def S (l : List Nat) : Str := ⟨l.toArray⟩
theorem S_tl (l : List Nat) : cs (S l) = l := by simp [S, cs]
theorem S_of (z : Str) : S (cs z) = z := by obtain ⟨⟨l⟩⟩ := z; rfl
theorem S_len (l : List Nat) : (S l).length = l.length := by simp [S, Str.length]
theorem S_inj {l m : List Nat} (h : S l = S m) : l = m := by have := congrArg cs h; rwa [S_tl, S_tl] at this
theorem S_app (l m : List Nat) : S l ++ S m = S (l ++ m) := by
  show (⟨l.toArray ++ m.toArray⟩ : Str) = ⟨(l ++ m).toArray⟩
  simp
theorem S_eqV (l m : List Nat) : decide (V.str (S l) = V.str (S m)) = decide (l = m) := by
  by_cases h : l = m
  · subst h; simp
  · rw [decide_eq_false h, decide_eq_false]
    intro e; exact h (S_inj (V.str.inj e))
theorem sIx_some (n d i : Nat) : HT.sIx n d (some ((i : Nat) : Int)) = min i n := HT.sIx_nat n d i
theorem cut_from (l : List Nat) (i : Nat) : cutS (S l) (some (i : Int)) none = S (l.drop i) := by
  show S (((cs (S l)).drop (HT.sIx (S l).length 0 (some (i : Int)))).take (HT.sIx (S l).length (S l).length none - HT.sIx (S l).length 0 (some (i : Int)))) = _
  rw [S_tl, S_len, sIx_some, HT.sIx_none]
  congr 1
  rcases Nat.le_total i l.length with h | h
  · rw [Nat.min_eq_left h, List.take_of_length_le (by rw [List.length_drop]; omega)]
  · rw [Nat.min_eq_right h, Nat.sub_self, List.take_zero, List.drop_of_length_le h]
theorem cut_to (l : List Nat) (i : Nat) : cutS (S l) none (some (i : Int)) = S (l.take i) := by
  show S (((cs (S l)).drop (HT.sIx (S l).length 0 none)).take (HT.sIx (S l).length (S l).length (some (i : Int)) - HT.sIx (S l).length 0 none)) = _
  rw [S_tl, S_len, sIx_some, HT.sIx_none, List.drop_zero, Nat.sub_zero]
  congr 1
  rcases Nat.le_total i l.length with h | h
  · rw [Nat.min_eq_left h]
  · rw [Nat.min_eq_right h, List.take_of_length_le h, List.take_of_length_le (Nat.le_refl _)]
theorem cut_mid (l : List Nat) (i j : Nat) : cutS (S l) (some (i : Int)) (some (j : Int)) = S ((l.drop i).take (j - i)) := by
  show S (((cs (S l)).drop (HT.sIx (S l).length 0 (some (i : Int)))).take (HT.sIx (S l).length (S l).length (some (j : Int)) - HT.sIx (S l).length 0 (some (i : Int)))) = _
  rw [S_tl, S_len, sIx_some, sIx_some]
  congr 1
  rcases Nat.le_total i l.length with h | h
  · rw [Nat.min_eq_left h]
    rcases Nat.le_total j l.length with h2 | h2
    · rw [Nat.min_eq_left h2]
    · rw [Nat.min_eq_right h2, List.take_of_length_le (by rw [List.length_drop]; omega), List.take_of_length_le (by rw [List.length_drop]; omega)]
  · rw [Nat.min_eq_right h, List.drop_of_length_le h, List.drop_of_length_le (Nat.le_refl _)]
    simp
theorem atI_S {l : List Nat} {i : Nat} {c : Nat} (h : l[i]? = some c) : atI (S l).cps.toList (i : Int) = some c := by
  show atI (cs (S l)) (i : Int) = some c
  rw [S_tl]
  exact atI_nat h
/-! ### what a text is -/
def low (c : Nat) : Bool := decide (97 ≤ c) && decide (c ≤ 122)
theorem ascii_facts : ∀ c : Fin 128, Unicode.isAlpha c.val = (low c.val || (decide (65 ≤ c.val) && decide (c.val ≤ 90))) ∧ Unicode.isLower c.val = low c.val ∧ (Unicode.isUpper c.val || Unicode.isTitle c.val) = (decide (65 ≤ c.val) && decide (c.val ≤ 90)) := by
  decide +kernel
theorem istext_eq (z : Str) : (decide (V.str z = V.str (Str.ofString "")) || (Txt.isascii z && Txt.isalpha z && Txt.islower z)) = (cs z).all low := by
  obtain ⟨⟨l⟩⟩ := z
  have e0 : (V.str (⟨⟨l⟩⟩ : Str) = V.str (Str.ofString "")) ↔ l = [] := by
    constructor
    · intro h
      have h2 := congrArg cs (V.str.inj h)
      exact h2
    · intro h; subst h; rfl
  show (decide _ || ((l.toArray.all (· < 128)) && (decide (l.toArray.size > 0) && l.toArray.all Unicode.isAlpha) && (l.toArray.any Unicode.isLower && !l.toArray.any fun c => Unicode.isUpper c || Unicode.isTitle c))) = l.all low
  have ea : ∀ p : Nat → Bool, (l.toArray).all p = l.all p := fun p => by rw [← Array.all_toList]
  have eb : ∀ p : Nat → Bool, (l.toArray).any p = l.any p := fun p => by rw [← Array.any_toList]
  have ec : (⟨l⟩ : Array Nat) = l.toArray := rfl
  simp only [ea, eb]
  simp only [List.size_toArray]
  clear ea eb ec
  cases l with
  | nil => rw [decide_eq_true (e0.mpr rfl)]; rfl
  | cons a r =>
    rw [decide_eq_false (fun h => by cases e0.mp h), Bool.false_or]
    generalize hl : a :: r = l
    have hne : l ≠ [] := by rw [← hl]; simp
    have F : ∀ c ∈ l, c < 128 → Unicode.isAlpha c = (low c || (decide (65 ≤ c) && decide (c ≤ 90))) ∧ Unicode.isLower c = low c ∧ (Unicode.isUpper c || Unicode.isTitle c) = (decide (65 ≤ c) && decide (c ≤ 90)) := fun c _ hc => ascii_facts ⟨c, hc⟩
    rw [Bool.eq_iff_iff]
    simp only [Bool.and_eq_true, List.all_eq_true, List.any_eq_true, Bool.not_eq_true', List.any_eq_false, decide_eq_true_eq]
    constructor
    · rintro ⟨⟨h1, _, h2⟩, _, h3⟩ c hc
      obtain ⟨f1, f2, f3⟩ := F c hc (h1 c hc)
      have q2 := h2 c hc
      have q3 := h3 c hc
      rw [f1] at q2
      rw [f3] at q3
      simp only [Bool.or_eq_true] at q2
      rcases q2 with q2 | q2
      · exact q2
      · exact absurd q2 q3
    · intro h
      have hb : ∀ c ∈ l, c < 128 := fun c hc => by
        have := h c hc
        unfold low at this
        simp only [Bool.and_eq_true, decide_eq_true_eq] at this
        omega
      refine ⟨⟨hb, by rw [← hl]; simp, fun c hc => ?_⟩, ?_, fun c hc => ?_⟩
      · rw [(F c hc (hb c hc)).1, h c hc, Bool.true_or]
      · obtain ⟨c, hc⟩ := List.exists_mem_of_ne_nil l hne
        exact ⟨c, hc, by rw [(F c hc (hb c hc)).2.1]; exact h c hc⟩
      · rw [(F c hc (hb c hc)).2.2]
        have := h c hc
        unfold low at this
        simp only [Bool.and_eq_true, decide_eq_true_eq] at this
        simp; omega
/-! ### calls -/
theorem nuMax3_int (i j k : Int) : nuMax3 (.int i) (.int j) (.int k) = some (.int (max (max i j) k)) := by
  have h2 : ∀ a b : Int, nuMax2 (.int a) (.int b) = some (.int (max a b)) := fun a b => by
    show Option.map (fun c => if c = true then V.int b else V.int a) (some (decide (a < b))) = some (V.int (max a b))
    by_cases h : a < b
    · rw [decide_eq_true h]; simp; omega
    · rw [decide_eq_false h]; simp; omega
  unfold nuMax3
  rw [h2]
  exact h2 _ _
theorem nuMin3_int (i j k : Int) : nuMin3 (.int i) (.int j) (.int k) = some (.int (min (min i j) k)) := by
  have h2 : ∀ a b : Int, nuMin2 (.int a) (.int b) = some (.int (min a b)) := fun a b => by
    show Option.map (fun c => if c = true then V.int b else V.int a) (some (decide (b < a))) = some (V.int (min a b))
    by_cases h : b < a
    · rw [decide_eq_true h]; simp; omega
    · rw [decide_eq_false h]; simp; omega
  unfold nuMin3
  rw [h2]
  exact h2 _ _
def rMax3 : List V → Hp → VK → Prop := fun xs H Q => ∃ i j k, xs = [.int i, .int j, .int k] ∧ Q (.int (max (max i j) k)) H
def rMin3 : List V → Hp → VK → Prop := fun xs H Q => ∃ i j k, xs = [.int i, .int j, .int k] ∧ Q (.int (min (min i j) k)) H
theorem call_max3 {X : Cx} (hc : X.calm = true) : CallR X (.builtin "max") rMax3 := fun pins s σ H xs us Q I r h => by
  obtain ⟨i, j, k, rfl, q⟩ := h
  exact call_max3Nu hc pins s σ H _ us Q I r ⟨_, _, _, _, rfl, nuMax3_int i j k, q⟩
theorem call_min3 {X : Cx} (hc : X.calm = true) : CallR X (.builtin "min") rMin3 := fun pins s σ H xs us Q I r h => by
  obtain ⟨i, j, k, rfl, q⟩ := h
  exact call_min3Nu hc pins s σ H _ us Q I r ⟨_, _, _, _, rfl, nuMin3_int i j k, q⟩
/-! ### repr of data: Dp, and an empty dict -/
def Dr (K : PySem.W.Frag) (H : Hp) (x : V) (d : PyData) : Prop := Dp K H x d ∨ ∃ a, x = .ref a ∧ H a = some (.dK []) ∧ d = .dict []
def rRepr (K : PySem.W.Frag) : List V → Hp → VK → Prop := fun xs H Q => ∃ x d, xs = [x] ∧ Dr K H x d ∧ d.showable = true ∧ d.depth ≤ 60 ∧ d.shown.length ≤ sizeLine ∧ Q (.str d.shown) H
theorem hasDict_dp {K : PySem.W.Frag} {H : Hp} : (∀ {x d}, Dp K H x d → d.hasDict = false) ∧ (∀ {xs ds}, DpAll K H xs ds → PyData.hasDictAll ds = false) := by
  constructor
  · intro x d h
    exact Dp.rec (motive_1 := fun _ d _ => d.hasDict = false) (motive_2 := fun _ ds _ => PyData.hasDictAll ds = false) rfl (fun _ => rfl) (fun _ => rfl) (fun _ => rfl)
      (fun _ _ ih => by unfold PyData.hasDict; exact ih) (fun _ _ ih => by unfold PyData.hasDict; exact ih) rfl (fun _ _ i1 i2 => by unfold PyData.hasDictAll; rw [i1, i2]; rfl) h
  · intro x d h
    exact DpAll.rec (motive_1 := fun _ d _ => d.hasDict = false) (motive_2 := fun _ ds _ => PyData.hasDictAll ds = false) rfl (fun _ => rfl) (fun _ => rfl) (fun _ => rfl)
      (fun _ _ ih => by unfold PyData.hasDict; exact ih) (fun _ _ ih => by unfold PyData.hasDict; exact ih) rfl (fun _ _ i1 i2 => by unfold PyData.hasDictAll; rw [i1, i2]; rfl) h
end L2
namespace L2
open PySem PySem.Spec PyProof.Rows
section
variable {X : Cx}
theorem call_repr (hc : X.A.guards = some []) (hu : X.A.units + 64 < cLine) : CallR X (.builtin "repr") (rRepr X.K) := by
  intro pins s σ H xs us Q I r h
  obtain ⟨x, d, rfl, hd, hs, hdp, hz, q⟩ := h
  cases r with
  | cons r1 rn =>
    rename_i u us'
    cases rn
    rcases hd with hd | ⟨a, rfl, ha, rfl⟩
    · obtain ⟨as, rd⟩ := Dp.reads I d x u hd r1
      cases hd with
      | non => cases rd; exact P.repr_of_none ⟨.str _, H, I.tok _, ⟨_, rfl⟩, q⟩
      | bl b => cases rd; exact P.repr_of_bool ⟨.str _, H, I.tok _, ⟨_, rfl⟩, q⟩
      | int i =>
        cases rd
        have hi : i.natAbs.log2 < 1920 := of_decide_eq_true hs
        exact P.repr_of_int hi ⟨.str _, H, I.tok _, ⟨_, rfl⟩, q⟩
      | str z => cases rd; exact P.repr_of_str ⟨.str _, H, I.tok _, ⟨_, rfl⟩, q⟩ hz
      | lst h1 h2 =>
        obtain rfl : u = Value.ref _ := r1
        have hh : PyData.hasDict _ = false := hasDict_dp.1 (Dp.lst h1 h2)
        exact repr_of_reads' rd hs (fun e => by rw [hh] at e; cases e) hc (by omega) (fun _ _ e => e) (fun h' u tk k => ⟨.str _, H, I.kept k, ⟨_, rfl⟩, q⟩) hz
      | tup h1 h2 =>
        obtain rfl : u = Value.ref _ := r1
        have hh : PyData.hasDict _ = false := hasDict_dp.1 (Dp.tup h1 h2)
        exact repr_of_reads' rd hs (fun e => by rw [hh] at e; cases e) hc (by omega) (fun _ _ e => e) (fun h' u tk k => ⟨.str _, H, I.kept k, ⟨_, rfl⟩, q⟩) hz
    · obtain rfl : u = Value.ref a := r1
      obtain ⟨_, hsys, vs, hkv, od, es, ep, hget, hcl, hdat, hko, hps, _⟩ : ObjOk X.prog X.w H s.heap a (.dK []) := I.hok a _ ha
      cases hkv
      have he : es.toList = [] := by
        generalize es.toList = l at hps
        cases hps; rfl
      have rd : Reads s.heap (.ref a) (.dict []) (a :: [] ++ []) := .dict hget hcl.1 hdat (by rw [he]; exact .nil) (by rw [he]; exact .nil)
      refine repr_of_reads' rd hs (fun _ hm => ?_) hc (by omega) (fun _ _ e => e) (fun h' u tk k => ⟨.str _, H, I.kept k, ⟨_, rfl⟩, q⟩) hz
      have e : sysModules = a := by simpa using hm
      rw [← e] at hsys
      exact absurd hsys (by decide)
end
end L2
namespace L2
open PySem PySem.Spec PyProof.Rows
section
variable {X : Cx}
theorem op_mul_str : OpR X (binaryOp .Mult) (fun x y H Q => ∃ z k, x = .str z ∧ y = .int k ∧ MulOk z k ∧ Q (.str (Txt.mul z k)) H) := by
  intro pins s σ H x y v u Q I rx ry h
  obtain ⟨z, k, rfl, rfl, hz, q⟩ := h
  obtain ⟨t, rfl⟩ := rx
  obtain ⟨t', rfl⟩ := ry
  exact SB.mul hz fun t2 k2 => ⟨.str _, H, I.tok _, ⟨_, rfl⟩, q⟩
/-- f(k = v, ..) by keywords alone, what is raised wished for at the slots -/
def tCallKS (sp : Sp) (gV : List V → List V → List V) (E : St → XK) (tk : TA) : TE := fun σ H Q => tk σ H fun zs H1 => sp (gV [] zs) H1 Q (E σ)
theorem pe_callKS {CX : CXT} {k : Nat} {f : Addr} {fd : FuncData} {ps ks : List Str} {sp : Sp} {E : St → XK} {x : Str} {p pos : Pos} {kws : List Keyword} {tk : TA} {g : List Value → List Value → List Value} {gV : List V → List V → List V}
    (F : FnOk X.prog X.w X.K X.mg X.base CX k f fd ps sp) (hr : Room k X.A) (hg : Gl X x) (hm : X.mg x = some (.ref f)) (hk : PySem.W.keepIn X.K (.ref f) = true) (hb : KBinds X.K fd ps ks g gV) (hx : ∀ σ, PassesAt CX X σ (E σ))
    (hkw : PK X kws tk) (hall : (backToKw pos (keywordEach kws X.env)).all (·.1.isSome) = true := by rfl) (hks : (backToKw pos (keywordEach kws X.env)).filterMap (·.1) = ks := by rfl)
    (hdb : (x == ("__debug__" : Str)) = false := by decide) (hpl : ((backTo pos (starEach [] X.env)).any (·.1) || (backToKw pos (keywordEach kws X.env)).any (·.1.isNone)) = false := by rfl) :
    PE X (.Call (.Name x p) [] kws pos) (tCallKS sp gV E tk) := by
  constructor
  intro pins s σ H Q I h
  apply wpAny_Call_Name_kw (ld_glob I hg hm ?_ hdb)
  apply PySem.W.callWith_KW0 (h₀ := X.base) I.ok.mod.kin hk hall (thn (hkw.run pos pins s σ H _ I h) ?_) hpl
  rintro ws s1 ⟨zs, H1, I1, rz, q⟩
  refine ⟨I1.kIn, ?_⟩
  rw [hks]
  have r2 := hb.rel (vs := []) (us := []) .nil rz
  have hl : (g [] ws).length = ps.length := (r2.length).symm.trans (F.len _ _ _ _ q)
  apply wpAny_call
  apply codeAny_mono (F.run X.A X.stack s1 H1 ⟨[], ks.zip ws⟩ (g [] ws) (gV [] zs) Q (E σ) hr I1.env0 (hb.to s1 [] ws I1.kIn hl) r2 q)
  intro r s' hq
  match r, hq with
  | .error er, hq => exact hx σ pins H1 s1 er s' I1 hq
  | .ok (.ret u), hq => exact I1.after hq
  | .ok .next, hq => exact hq.elim
  | .ok .brk, hq => exact hq.elim
  | .ok .cont, hq => exact hq.elim
end
end L2

set_option Elab.async false
set_option linter.all false
set_option maxRecDepth 100000
set_option maxHeartbeats 2000000
/-! Defs that call repr: the promise is shown only where no repr is running around the call. -/
namespace L2
open PySem PySem.Spec PyProof.Rows
/-- as FnOk, where no guard stands around -/
structure FnG (P : Program) (w : World) (K : PySem.W.Frag) (mg : Str → Option Value) (base : Heap) (CX : CXT) (k : Nat) (f : Addr) (fd : FuncData) (ps : List Str) (sp : Sp) : Prop where
  len : ∀ vs H Q E, sp vs H Q E → vs.length = ps.length
  run : ∀ (A : Around) (outer : List Env) (s : Shared) (H : Hp) (args : Args) (us : List Value) (vs : List V) (Q : VK) (E : XK), A.guards = some [] → Room k A → Env0 P w K mg base A outer s H →
    BindsTo s fd args (ps.zip us) → Vals vs us → sp vs H Q E → codeAny (model P w) A (.call (.ref f) args) (CR CX outer P w H s Q E) s
theorem FnOk.toG {P : Program} {w : World} {K : PySem.W.Frag} {mg : Str → Option Value} {base : Heap} {CX : CXT} {k : Nat} {f : Addr} {fd : FuncData} {ps : List Str} {sp : Sp} (F : FnOk P w K mg base CX k f fd ps sp) : FnG P w K mg base CX k f fd ps sp :=
  ⟨F.len, fun A outer s H args us vs Q E _ hr => F.run A outer s H args us vs Q E hr⟩
section
variable {X : Cx} {CX : CXT} {k : Nat} {f : Addr} {fd : FuncData} {ps : List Str} {sp : Sp} {dvs : List V} {ds : List Value} {E : XK} {x : Str} {p pos : Pos} {e : Expr} {es : List Expr} {t : TA}
theorem pe_callG (F : FnG X.prog X.w X.K X.mg X.base CX k f fd ps sp) (hgd : X.A.guards = some []) (hr : Room k X.A) (hg : Gl X x) (hm : X.mg x = some (.ref f)) (hk : PySem.W.keepIn X.K (.ref f) = true) (hb : Binds X.K fd ps ds) (hd : Vals dvs ds) (hx : Passes CX X E)
    (ha : PA X (e :: es) t) (hdb : (x == ("__debug__" : Str)) = false := by decide) (he : starEach (e :: es) X.env = (false, eval e X.env) :: starEach es X.env := by rfl) (hpl : (backTo pos (starEach es X.env)).any (·.1) = false := by rfl) :
    PE X (.Call (.Name x p) (e :: es) [] pos) (tCall sp dvs E t) := by
  constructor
  intro pins s σ H Q I h
  apply wpAny_Call_Name_kw (ld_glob I hg hm ?_ hdb)
  apply PySem.W.callWith_K (h₀ := X.base) I.ok.mod.kin hk (thn (ha.run pos pins s σ H _ I h) ?_) he hpl
  rintro us s1 ⟨vs, H1, I1, rv, q⟩
  refine ⟨I1.kIn, ?_⟩
  have r2 : Vals (vs ++ dvs) (us ++ ds) := rv.append hd
  have hl : (us ++ ds).length = ps.length := (r2.length).symm.trans (F.len _ _ _ _ q)
  apply wpAny_call
  apply codeAny_mono (F.run X.A X.stack s1 H1 ⟨us, []⟩ (us ++ ds) (vs ++ dvs) Q E hgd hr I1.env0 (hb s1 us I1.kIn hl) r2 q)
  intro r s' hq
  match r, hq with
  | .error er, hq => exact hx pins σ H1 s1 er s' I1 hq
  | .ok (.ret u), hq => exact I1.after hq
  | .ok .next, hq => exact hq.elim
  | .ok .brk, hq => exact hq.elim
  | .ok .cont, hq => exact hq.elim
end
theorem deeper_guards {A : Around} {env : Env} : (A.deeper env).guards = A.guards := rfl
section
variable {P : Program} {w : World} {K : PySem.W.Frag} {mg : Str → Option Value} {base : Heap}
/-- the rule for a def, where no guard stands around -/
theorem Fun.okG {x qual : Str} {st : Stmt} {f : Addr} {fd : FuncData} {N ps : List Str} {k : Nat} {sp : Sp} (F : Fun K x qual st f fd) (S : FnScope N ps (defScope st)) (len : ∀ vs H Q E, sp vs H Q E → vs.length = ps.length)
    (hbody : ∀ (cdv : Value) (A : Around) (outer : List Env) (s : Shared) (H : Hp) (vs : List V) (Q : VK) (E : XK), (A.deeper (envOfC qual (defScope st) s.heap.objs.size f cdv)).guards = some [] → Room k (A.deeper (envOfC qual (defScope st) s.heap.objs.size f cdv)) → sp vs H Q E →
      ∃ t, PSs (cxOf CX0 P w K mg base N qual (defScope st) f cdv A outer s H E).nox (defBody st) t ∧ t { nx := fun _ H' => Q .non H', rt := Q } (start N vs) H) : FnG P w K mg base CX0 (k + 1) f fd ps sp := by
  obtain ⟨oc, od, kV, doc, pm, an, cdv, ct, osl, rfl, lk, hcd⟩ := F.ex
  refine ⟨len, fun A outer s H args us vs Q E hgd hr e0 hb r hsp => ?_⟩
  have KX : K.In s.heap := e0.mod.kin.keeps fun b o e => (e0.bs b o e).1
  have lim : s.heap.NoLimit := e0.mod.nolimit.keeps fun b o e => (e0.bs b o e).1
  apply codeAny_call_function hr.depth (KX _ _ lk) rfl S.co S.gen rfl (PySem.W.codeRec_of KX hcd) (hb _ _ _ _ ?_)
  apply wpAny_newFunctionEnv_cells S.kind ?_ ?_
  · rintro ⟨n, v⟩ hy
    rcases S.par n (List.of_mem_zip hy).1 with q | q
    · exact Or.inl q
    · exact Or.inr ⟨q, PySem.W.cellsFrom_some _ _ _ (Or.inl q)⟩
  · intro env he s1 x
    subst he
    refine ⟨lim.keeps x.toInCall.keep, codeAny_func ?_⟩
    obtain ⟨t, ht, hq⟩ := hbody cdv A outer s H vs Q E (deeper_guards.trans hgd) (hr.deeper _) hsp
    have I := inv_start (CX := CX0) (E := E) S hr.hd e0 (len _ _ _ _ hsp) r x
    apply wpAny_mono (ht.nox.run [] s1 (start N vs) H _ I hq) ?_ fun e s' hs => hs
    intro fl s' hs
    match fl, hs with
    | .ret u, ⟨v, σ', H', J, rv, q⟩ => exact ⟨v, H', J.os, J.bare, J.base, J.hok, rv, q⟩
    | .next, ⟨σ', H', J, q⟩ => exact ⟨V.non, H', J.os, J.bare, J.base, J.hok, rfl, q⟩
    | .brk, ⟨_, _, _, q⟩ => exact q.elim
    | .cont, ⟨_, _, _, q⟩ => exact q.elim
end
end L2
namespace L2
open PySem PySem.Spec PyProof.Rows
section
variable {P : Program} {w : World} {K : PySem.W.Frag} {mg mb : Str → Option Value} {k : Nat} {fa a : Addr} {fd : FuncData} {x : Str} {sp : Sp} {s1 : Shared} {vs : List Value} {ns : List Int}
/-- the law's call, H telling nothing but, maybe, the script at a -/
theorem enterG {H : Hp} (KX : K.In s1.heap) (hns : s1.heap.Ns mainGlobals mg) (hb : s1.heap.Ns builtinsNs mb) (hbb : ∀ x : Str, x ≠ "__name__" → mb x = bootBuiltins x) (hlim : s1.heap.NoLimit) (hg : s1.gens = #[])
    (ha : s1.heap.get? a = some { cls := .type "list", data := .seq vs.toArray }) (hr : Room k callerA)
    (F : ∀ base : Heap, K.In base → base.Ns mainGlobals mg → FnG P w K mg base CX0 k fa fd [x] sp) (hbind : ∀ (s : Shared) (u : Value), BindsTo s fd ⟨[u], []⟩ [(x, u)])
    (hO : Only H) (hok : HOk P w H s1.heap) (hA : ∀ b, H b ≠ none → b = a) (hK : ∀ b o, K.lookup b = some o → H b = none) (hsp : sp [.ref a] H (fun v _ => v = .bl true) fun _ _ _ => False) :
    codeAny (model P w) callerA (.call (.ref fa) ⟨[.ref a], []⟩) (fun r s' => r = .ok (.ret (.bool true)) ∧ OldK s1.heap s'.heap ∧ s'.os = s1.os ∧ AllBare s'.gens) s1 := by
  have nsK : ∀ {b : Addr} {m : Str → Option Value}, s1.heap.Ns b m → (hidT s1.heap H).Ns b m := by
    rintro b m ⟨o, es, ep, e, d, r⟩
    have n : H b = none := by
      cases q : H b with
      | none => rfl
      | some u =>
        have z := hA b (by rw [q]; exact fun z => nomatch z)
        rw [z, ha] at e
        rw [← Option.some.inj e] at d
        exact nomatch d
    exact ⟨o, es, ep, hidT_get e n, d, r⟩
  have hKb : K.In (hidT s1.heap H) := fun b o e => hidT_get (KX b o e) (hK b o e)
  have e0 : Env0 P w K mg (hidT s1.heap H) callerA [] s1 H :=
    { frames := rfl, mod := ⟨hKb, nsK hns, ⟨mb, nsK hb, hbb⟩, hlim.elim fun mc h => ⟨mc, nsK h.1, h.2⟩⟩, bs := fun b o e => of_hidT e, bsz := Nat.le_of_eq (hidT_size _ _), funs := trivial, frf := fun b hb => (List.not_mem_nil hb).elim, hok := hok, bare := .of_eq hg }
  apply codeAny_mono ((F _ hKb (nsK hns)).run callerA [] s1 H ⟨[.ref a], []⟩ [.ref a] [.ref a] _ _ rfl hr e0 (hbind s1 (.ref a)) (.cons rfl .nil) hsp)
  intro r s' h
  match r, h with
  | .error e, h =>
    obtain ⟨_, _, _, h⟩ := h
  | .ok .next, h => exact h.elim
  | .ok .brk, h => exact h.elim
  | .ok .cont, h => exact h.elim
  | .ok (.ret u), ⟨v, H', os, bare, un, hok', r', q⟩ =>
    obtain rfl : v = .bl true := q
    obtain rfl : u = Value.bool true := r'
    refine ⟨rfl, OldK.of_keep fun b o e => ?_, os, bare⟩
    rcases hO b with z | ⟨ob, xs, z⟩
    · exact un.keep b o e z (List.not_mem_nil) (List.not_mem_nil)
    · have e1 := (hok b _ z).1
      have e2 := (hok' b _ (un.frzs b ob _ z)).1
      rw [e] at e1
      rw [Option.some.inj e1]
      exact e2
end
/-- the goal that the head leaves, from the law's promise, where the law's def calls repr -/
theorem walk_G {l : PySem.W.OpenLaw} {n k : Nat} {q : Program} {loose : List Str} {XP : (Str → Option Value) → Heap → Prop} {YP : World → Heap → Prop} {d : DefRec} {K : Params → PySem.W.Frag} {sp : PySem.W.Frag → Sp} {x : Str}
    (hn : l.most = some n) (hn2 : n ≤ sizeLine) (hdf : d.params.defaults = []) (hr : Room k callerA)
    (hY : ∀ (w : World) (h : Heap), YP w h → (K w.params).In h)
    (F : ∀ (w : World) (mg : Str → Option Value) (fa : Addr) (h : Heap), (K w.params).In h → h.Ns mainGlobals mg → mg d.name = some (.ref fa) →
      ∃ fd : FuncData, (∀ (s : Shared) (u : Value), BindsTo s fd ⟨[u], []⟩ [(x, u)]) ∧
        ∀ base : Heap, (K w.params).In base → base.Ns mainGlobals mg → FnG l.prog w (K w.params) mg base CX0 k fa fd [x] (sp (K w.params)))
    (hsp : ∀ (K : PySem.W.Frag) (H : Hp) (a : Addr) (ns : List Int), ns.length ≤ n → Only H → SqL K H a (ns.map V.int) → sp K [.ref a] H (fun v _ => v = .bl true) fun _ _ _ => False) :
    PySem.W.WalkO q loose XP YP l.row.toRowW d [] (fun f vs => PySem.call f vs) := by
  refine Att.attach_call hn hdf fun w s0 s1 mg mb fa o pm cd doc a vs ns G Y ho hd hcd hmg hobj hints hlen hg => ?_
  have KX := hY w _ Y
  obtain ⟨fd, hb, hF⟩ := F w mg fa _ KX G.T.g hmg
  have rv := vals_ints hints
  have lenV := hints.length
  have hl := Nat.le_trans hlen hn2
  cases hk : (K w.params).lookup a with
  | some ob =>
    have e := KX a ob hk
    rw [hobj] at e
    have e' := (Option.some.inj e).symm
    subst e'
    refine enterG (H := fun _ => none) KX G.T.g G.T.b G.T.builtins G.T.nolimit hg hobj hr hF hb (fun _ => .inl rfl) (fun b u z => nomatch (show (none : Option HO) = some u from z)) (fun b z => (z rfl).elim) (fun _ _ _ => rfl) ?_
    exact hsp (K w.params) _ a ns hlen (fun _ => .inl rfl) (.inr ⟨_, vs.toArray, _, hk, rfl, rfl, rfl, by rw [List.size_toArray, lenV]; exact hl, by simpa using rv⟩)
  | none =>
    have at_a : (fun b => if b = a then some (HO.frz { cls := .type "list", data := .seq vs.toArray } (.lst (ns.map V.int))) else none) a = some (HO.frz { cls := .type "list", data := .seq vs.toArray } (.lst (ns.map V.int))) := if_pos rfl
    have only : Only (fun b => if b = a then some (HO.frz { cls := .type "list", data := .seq vs.toArray } (.lst (ns.map V.int))) else none) := fun b => by
      by_cases z : b = a
      · exact .inr ⟨_, _, if_pos z⟩
      · exact .inl (if_neg z)
    refine enterG (H := fun b => if b = a then some (HO.frz { cls := .type "list", data := .seq vs.toArray } (.lst (ns.map V.int))) else none) KX G.T.g G.T.b G.T.builtins G.T.nolimit hg hobj hr hF hb only (fun b u z => ?_) (fun b z => ?_) (fun b ob z => ?_) ?_
    · by_cases y : b = a
      · subst y
        have z' := at_a.symm.trans z
        rw [← Option.some.inj z']
        exact ⟨hobj, by rw [List.length_map]; exact hl, vs, _, rv, hobj⟩
      · exact nomatch (if_neg y).symm.trans z
    · by_cases y : b = a
      · exact y
      · exact (z (if_neg y)).elim
    · refine if_neg fun y => ?_
      rw [y, hk] at z
      cases z
    · exact hsp (K w.params) _ a ns hlen only (.inl (.inr ⟨_, at_a⟩))
end L2

set_option Elab.async false
set_option linter.all false
set_option maxRecDepth 100000
set_option maxHeartbeats 2000000
/-! Several clauses 'except .. as e', one behind the other, all of them with one name. -/
namespace L2
open PySem PySem.Spec PyProof.Rows
/-- what stands behind the suite: the name is gone -/
def goneEnds (i : Nat) (D : Ends) : Ends :=
  { nx := fun u G => D.nx (u.set i none) G,
    rt := D.rt,
    bk := fun u G => D.bk (u.set i none) G,
    ct := fun u G => D.ct (u.set i none) G }
abbrev SuiteT := Addr → Value → Option Addr → TS
def wAll (K : PySem.W.Frag) (i : Nat) (Wo : WX) (D : Ends) : List (Value × SuiteT) → WX
  | [] => Wo
  | q :: l => fun cls d σ H =>
    ∃ b, PySem.W.exmOne K cls q.1 = some b ∧
      (b = true → ∀ a, H a = none → q.2 a cls d (goneEnds i D) (σ.set i (some (.ref a))) H) ∧
      (b = false → wAll K i Wo D l cls d σ H)
/-- the clauses and what their suites tell -/
inductive Clauses (X : Cx) (n : Str) : List ExceptHandler → List (Value × SuiteT) → Prop
  | last : Clauses X n [] []
  | more {x : Str} {c : Value} {ts : SuiteT} {b₀ : Stmt} {su : List Stmt} {p1 p2 : Pos} {hl : List ExceptHandler} {l : List (Value × SuiteT)} :
      Names X x c →
      (∀ (a : Addr) (oe : Obj) (cls : Value) (d : Option Addr) (pn : List (Addr × Obj)), Zc cls d oe → (∃ vs, oe.data = .fields vs) →
        PSs (X.suite a ((a, oe) :: pn)) (b₀ :: su) (ts a cls d)) →
      Clauses X n hl l → Clauses X n (.ExceptHandler (some (.Name x p1)) (some n) (b₀ :: su) p2 :: hl) ((c, ts) :: l)
section
variable {X : Cx} {n : Str} {i : Nat} {body : List Stmt} {h₀ : ExceptHandler} {hl : List ExceptHandler} {l : List (Value × SuiteT)} {pos : Pos} {tb : WX → TS} {Wo : WX}
theorem ps_tryAll (eS : X.stack = X.env :: X.outer) (eF : X.env.frame = some X.env.locals) (nd : X.N.Nodup) (ei : X.N[i]? = some n) (en : X.env.kindOf n = some .local) (tk : Takes X Wo)
    (hb : ∀ (W : WX) (pn : List (Addr × Obj)) (xe : Value → Shared → Prop), Takes (X.tr pn xe) W →
      PassesOwn (model X.prog X.w) X.A X.env xe → PSs (X.tr pn xe) body (tb W))
    (hc : Clauses X n (h₀ :: hl) l) :
    PS X (.Try body (h₀ :: hl) [] [] pos) (fun D σ H => tb (wAll X.K i Wo D l) D σ H) := by
  constructor
  intro pins s σ H D I hyp
  have iok := I.ok
  have fr : X.A.frames = some (X.env :: X.outer) := iok.frames.trans (congrArg some eS)
  apply wpAny_Try_except
  let XE : Value → Shared → Prop := fun e s₁ =>
    wpAny (model X.prog X.w) X.A (noteFrame e X.env) (fun _ s₂ =>
      wpAny (model X.prog X.w) X.A (setFlight e none) (fun _ s₃ =>
        wpAny (model X.prog X.w) X.A (handleBy e X.env (h₀ :: hl)) (SP X pins D) X.xe s₃) X.xe s₂) X.xe s₁
  have run := (hb (wAll X.K i Wo D l) (X.pn ++ pins) XE ?_ PassesOwn.looking).run [] s σ H D (I.toTry _) hyp
  · refine wpAny_mono run (fun f s1 sp => ?_) (fun e s1 q => q)
    match f, sp with
    | .next, ⟨u, G, J, q⟩ => exact wpAny_execs_nil ⟨u, G, J.ofTry iok, q⟩
    | .brk, ⟨u, G, J, q⟩ => exact ⟨u, G, J.ofTry iok, q⟩
    | .cont, ⟨u, G, J, q⟩ => exact ⟨u, G, J.ofTry iok, q⟩
    | .ret _, ⟨v, u, G, J, r, q⟩ => exact ⟨v, u, G, J.ofTry iok, r, q⟩
  · -- what flies out of the body
    rintro u s' ⟨a, B, sI, pins', τ, G, cls, d, rfl, J', nb, up, sky, na, os, ag, wish⟩
    have J : Inv X pins τ G sI := J'.ofTry iok
    have sky2 : Sky B (X.env :: X.outer) a (Zc cls d) X.env.locals s'.heap := eS ▸ sky
    show wpAny _ X.A (noteFrame (.ref a) X.env) _ _ _
    apply Sky.land Zc.steady fr eF sky2
    intro g3 fly3 up3
    have J3 : Inv X pins τ G { s' with heap := g3 } := J.landed nb fly3.1 (up.trans up3) os ag
    obtain ⟨o3, v3, at3, z3, d3⟩ := fly3.there
    have off : a ∉ frs (X.env :: X.outer) := by
      intro hm
      obtain ⟨_, o', e', hn⟩ := fly3.2.2.1.mem hm
      rw [at3] at e'
      cases e'
      exact hn _ d3
    have offL : a ≠ X.env.locals := by
      intro z
      exact off (List.mem_filterMap.mpr ⟨X.env, List.mem_cons_self, by rw [eF, z]⟩)
    have offF : a ∉ X.fs := by
      intro hm
      obtain ⟨e, he, q⟩ := List.mem_filterMap.mp hm
      exact off (List.mem_filterMap.mpr ⟨e, List.mem_cons_of_mem _ he, q⟩)
    have S3 := J3.suite at3 d3 na offL offF
    -- clause by clause
    suffices go : ∀ {hs : List ExceptHandler} {k : List (Value × SuiteT)}, Clauses X n hs k → wAll X.K i Wo D k cls d τ G →
        wpAny (model X.prog X.w) X.A (handleBy (.ref a) X.env hs) (SP X pins D) X.xe { s' with heap := g3 } from go hc wish
    intro hs k hk
    induction hk with
    | last =>
      intro out
      apply wpAny_handleBy_nil
      obtain ⟨k1, k2, k3, oe, vs, T, oT, ts', he, hz, hd, h1, hr⟩ := id fly3
      unfold PySem.passOn
      apply wpAny_bind
      apply wpAny_field he hd h1
      rw [if_neg (by simp : ¬ ((Value.ref T == Value.none) = true))]
      have thrown : wpAny (model X.prog X.w) X.A (setFlight (.ref a) X.env.frame) (fun _ s4 =>
          wpAny (model X.prog X.w) X.A (throw (.ref a) : Sem Flow) (SP X pins D) X.xe s4) X.xe { s' with heap := g3 } := by
        rw [eF]
        apply HandSPX.setFlight_upZ fly3
        intro g4 fly4 up4
        apply wpAny_throw
        apply tk
        exact ⟨a, B, sI, pins, τ, G, cls, d, rfl, J, nb, (up.trans up3).trans up4, .inr (.inr (eS ▸ fly4)), na, os, ag, out⟩
      first
        | exact wpAny_bind (wpAny_pure (wpAny_bind thrown))
        | exact wpAny_bind thrown
    | @more x c ts b₀ su p1 p2 hl2 l2 nm suite _ ih =>
      rintro ⟨b, eb, yes, no⟩
      have looks : PySem.W.Looks (model X.prog X.w) g3 (typeOf (.ref a)) cls := by
        intro A' Q' E' t k q
        exact wpAny_typeOf_ref (k _ _ at3) (by rw [z3.1]; exact q)
      have LM := PySem.W.exm_one (M := model X.prog X.w) (J3.kIn) looks eb
      apply wpAny_handleBy_cons (codeAny_handlers_test ?_) (by intro q; cases q)
      have named : ∀ {Q' : Value → Shared → Prop} {E' : Value → Shared → Prop}, Q' c { s' with heap := g3 } →
          wpAny (model X.prog X.w) (X.A.mark (some (.ref a))) (eval (.Name x p1) X.env) Q' E' { s' with heap := g3 } := by
        intro Q' E' q
        rcases nm with ⟨g, dbg, m | ⟨m, v, w⟩⟩
        · exact ld_glob (X := X.suite a ((a, o3) :: (X.pn ++ pins))) S3 g m q dbg
        · exact ld_blt (X := X.suite a ((a, o3) :: (X.pn ++ pins))) S3 g m v q w dbg
      apply named
      apply LM.here
      match b, yes, no with
      | false, _, no => exact ih (no rfl)
      | true, yes, _ =>
        apply codeAny_handlers_suite_as
        apply HandSPX.lands_againZ fly3
        intro g4 fly4 up4
        have J4 : Inv X pins τ G { s' with heap := g4 } := J.landed nb fly4.1 ((up.trans up3).trans up4) os ag
        obtain ⟨o4, v4, at4, z4, d4⟩ := fly4.there
        have S4 := J4.suite at4 d4 na offL offF
        apply store_ok (X := X.suite a ((a, o4) :: (X.pn ++ pins))) (v := .ref a) S4 nd ei (.inl en) rfl ?_ (.inr en)
        intro s5 S5
        have ran := (suite a o4 cls d (X.pn ++ pins) z4 ⟨_, d4⟩).run [] s5 _ G _ S5 (yes rfl a na)
        refine wpAny_mono ran (fun f s6 sp => ?_) (fun _ _ z => z.elim)
        have gone : ∀ {u : St} {K6 : Hp} {Q' : Shared → Prop}, Inv (X.suite a ((a, o4) :: (X.pn ++ pins))) [] u K6 s6 →
            (∀ s7, Inv X pins (u.set i none) K6 s7 → Q' s7) →
            wpAny (model X.prog X.w) X.A (do bindName X.env n .none; unbindBehindTheSuite X.env n p2) (fun _ s7 => Q' s7) X.xe s6 :=
          fun S6 q => gone_ok (S6.unsuite iok) nd ei en q
        match f, sp with
        | .next, ⟨_, _, S6, q⟩ => exact gone S6 fun _ J7 => ⟨_, _, J7, q⟩
        | .brk, ⟨_, _, S6, q⟩ => exact gone S6 fun _ J7 => ⟨_, _, J7, q⟩
        | .cont, ⟨_, _, S6, q⟩ => exact gone S6 fun _ J7 => ⟨_, _, J7, q⟩
        | .ret _, ⟨_, _, _, S6, r, q⟩ => exact gone S6 fun _ J7 => ⟨_, _, _, J7, r, q⟩
end
end L2

set_option Elab.async false
set_option linter.all false
set_option maxRecDepth 100000
set_option maxHeartbeats 2000000
/-! Further rules: isinstance of a caught error, list of a text, == of lists of unlike length, find, dicts shown. -/
namespace L2
open PySem PySem.Spec PyProof.Rows PySem.Builtin PySem.Builtin.Str
/-! ### find -/
theorem occ_stay (s sub : Str) (hi : Nat) : ∀ (l : List Nat) (st : Array Nat × Nat), st.1.size = 1 → (forIn l st (StrLaws.occBody s sub hi 1)).run.fst = st.1
  | [], st, h => rfl
  | a :: l, st, h => by
    rw [List.forIn_cons]
    unfold StrLaws.occBody
    rw [if_neg (fun z => by have := z.1.1.1; omega)]
    exact occ_stay s sub hi l _ h
theorem occ_one (s sub : Str) (hi : Nat) : ∀ (l : List Nat) (free : Nat), (∀ i ∈ l, free ≤ i) →
    (forIn l ((#[] : Array Nat), free) (StrLaws.occBody s sub hi 1)).run.fst.toList = (l.find? fun i => decide (i + sub.length ≤ hi) && subAt s sub i).toList
  | [], free, _ => rfl
  | a :: l, free, hf => by
    have ha : free ≤ a := hf a List.mem_cons_self
    rw [List.forIn_cons]
    by_cases c : a + sub.length ≤ hi ∧ subAt s sub a = true
    · rw [List.find?_cons_of_pos (by simp [c.1, c.2])]
      have e : StrLaws.occBody s sub hi 1 a ((#[] : Array Nat), free) = pure (ForInStep.yield ((#[] : Array Nat).push a, a + sub.length)) := by
        unfold StrLaws.occBody
        rw [if_pos ⟨⟨⟨by simp, ha⟩, c.1⟩, c.2⟩]
      rw [e]
      show (forIn l ((#[] : Array Nat).push a, a + sub.length) (StrLaws.occBody s sub hi 1)).run.fst.toList = _
      rw [occ_stay s sub hi l _ (by simp)]
      rfl
    · rw [List.find?_cons_of_neg (by simpa using c)]
      have e : StrLaws.occBody s sub hi 1 a ((#[] : Array Nat), free) = pure (ForInStep.yield ((#[] : Array Nat), free)) := by
        unfold StrLaws.occBody
        rw [if_neg (fun h => c ⟨h.1.2, h.2⟩)]
      rw [e]
      exact occ_one s sub hi l free fun i h => hf i (List.mem_cons_of_mem _ h)
theorem occ_find (s sub : Str) (lo hi : Nat) : occurrences s sub lo hi 1 = ((List.range' lo (hi + 1 - lo)).find? fun i => decide (i + sub.length ≤ hi) && subAt s sub i).toList := by
  rw [StrLaws.occ_eq]
  exact occ_one s sub hi _ lo fun i h => (List.mem_range'_1.mp h).1
/-- v stands in u at i -/
def AtL (u v : List Nat) (i : Nat) : Prop := i + v.length ≤ u.length ∧ (u.drop i).take v.length = v
theorem atL_iff (u v : List Nat) (i : Nat) : (decide (i + (S v).length ≤ (S u).length) && subAt (S u) (S v) i) = true ↔ AtL u v i := by
  rw [StrLaws.subAt_eq, Bool.and_eq_true, decide_eq_true_iff]
  show (i + (S v).length ≤ (S u).length ∧ (((cs (S u)).drop i).take (S v).length == cs (S v)) = true) ↔ _
  rw [S_tl, S_tl, S_len, S_len, beq_iff_eq]
  exact Iff.rfl
/-- the first place from lo on -/
def FindL (u v : List Nat) (lo : Nat) (r : Int) : Prop := (∃ i : Nat, r = i ∧ lo ≤ i ∧ AtL u v i ∧ ∀ j, lo ≤ j → j < i → ¬ AtL u v j) ∨ (r = -1 ∧ ∀ j, lo ≤ j → ¬ AtL u v j)
theorem find_range' {lo n : Nat} {p : Nat → Bool} {s : Nat} (h : (List.range' lo n).find? p = some s) : lo ≤ s ∧ p s = true ∧ ∀ t, lo ≤ t → t < s → p t = false := by
  obtain ⟨h1, i, hi, h2, h3⟩ := List.find?_eq_some_iff_getElem.mp h
  rw [List.getElem_range'] at h2
  subst h2
  refine ⟨by omega, h1, fun t ht hlt => ?_⟩
  have := h3 (t - lo) (by omega)
  rw [List.getElem_range'] at this
  rw [show lo + 1 * (t - lo) = t by omega] at this
  simpa using this
theorem occ_FindL (u v : List Nat) (lo : Nat) : FindL u v lo (match occurrences (S u) (S v) lo (S u).length 1 with | k :: _ => (k : Int) | [] => -1) := by
  rw [occ_find]
  cases h : (List.range' lo ((S u).length + 1 - lo)).find? fun i => decide (i + (S v).length ≤ (S u).length) && subAt (S u) (S v) i with
  | none =>
    right
    refine ⟨rfl, fun j hj z => ?_⟩
    have l := z.1
    have := List.find?_eq_none.mp h j (List.mem_range'_1.mpr ⟨hj, by rw [S_len]; omega⟩)
    exact this ((atL_iff u v j).mpr z)
  | some i =>
    left
    obtain ⟨h1, h2, h3⟩ := find_range' h
    refine ⟨i, rfl, h1, (atL_iff u v i).mp h2, fun j a b z => ?_⟩
    have := (atL_iff u v j).mpr z
    rw [h3 j a b] at this
    cases this
theorem find_FindL (u v : List Nat) : FindL u v 0 (Txt.find (S u) (S v)) := occ_FindL u v 0
theorem find3_FindL (u v : List Nat) (i : Nat) : FindL u v i (Txt.find3 (S u) (S v) (i : Int)) := by
  unfold Txt.find3
  rw [show fromIndex (S u).length (i : Int) = i by unfold fromIndex; rw [if_neg (by omega)]; omega]
  exact occ_FindL u v i
/-! ### list of a text -/
section
variable {X : Cx}
theorem call_listStr (hc : X.calm = true) : CallR X (.type "list") (fun xs H Q => ∃ z : List Nat, xs = [.str (S z)] ∧ z.length ≤ sizeLine ∧ ∀ l, H l = none → Q (.ref l) (upd H l (.lst (z.map fun c => V.str (S [c]))))) := by
  intro pins s σ H xs us Q I r h
  obtain ⟨z, rfl, hz, q⟩ := h
  obtain ⟨u, rfl, t, rfl⟩ := vals1 r
  refine call_list_str (I.ok.hd hc) (S z) t (fun h' tk acc' c' kp e hacc => ?_) (by show (S z).length ≤ sizeLine; rw [S_len]; exact hz)
  obtain ⟨hsz, hat⟩ := hacc
  have hsz' : acc'.size = z.length := hsz.trans (S_len z)
  refine ⟨.ref s.heap.objs.size, _, I.laid (t' := tk) kp (Nat.le_refl _) (show ObjOk X.prog X.w _ h' _ (.lst (z.map fun c => V.str (S [c]))) from ⟨by rw [List.length_map]; exact hz, acc'.toList, c', ?_, by rw [Array.toArray_toList]; exact e⟩), rfl, q _ (I.hok.fresh (Nat.le_refl _))⟩
  -- the items
  have go : ∀ (ys : List Nat) (vs : List Value), vs.length = ys.length → (∀ (i c : Nat), ys[i]? = some c → ∃ t, vs[i]? = some (Value.str ⟨#[c]⟩ t)) → Vals (ys.map fun c => V.str (S [c])) vs := by
    intro ys
    induction ys with
    | nil => intro vs h _; rw [List.length_eq_zero_iff.mp h]; exact .nil
    | cons c ys ih =>
      intro vs h k
      match vs, h with
      | v :: vs, h =>
        obtain ⟨t, e⟩ := k 0 c rfl
        obtain rfl := Option.some.inj e
        exact .cons ⟨t, rfl⟩ (ih vs (Nat.succ.inj h) fun i c hc => k (i + 1) c hc)
  refine go z acc'.toList (by rw [Array.length_toList]; exact hsz') fun i c hc => ?_
  have hi : i < z.length := (List.getElem?_eq_some_iff.mp hc).1
  have hv : acc'[i]? = some (acc'[i]'(by omega)) := Array.getElem?_eq_getElem _
  obtain ⟨c', t', hc', e'⟩ := hat i _ hv
  rw [e'] at hv
  have : (S z).cps[i]? = some c := by
    show z.toArray[i]? = some c
    rw [List.getElem?_toArray]; exact hc
  rw [this] at hc'
  obtain rfl := Option.some.inj hc'
  exact ⟨t', by rw [Array.getElem?_toList]; exact hv⟩
end
/-! ### isinstance of the error that the suite holds, with an own dict -/
def rIsEd (K : PySem.W.Frag) (C a : Addr) (cls : Value) (d : Option Addr) : List V → Hp → VK → Prop := fun xs H Q => ∃ (c : V) (cv : Value) (b : Bool) (dd : Addr) (fs : List (Str × V)), xs = [.ref a, c] ∧ ClsV c cv ∧ cls = .ref C ∧ d = some dd ∧ H dd = some (.xd fs) ∧ PySem.W.kitOne K (.ref C) cv = some b ∧ Q (.bl b) H
theorem call_isEd {X : Cx} {a C : Addr} {oe : Obj} {cls : Value} {d : Option Addr} {pn : List (Addr × Obj)} (T : ExcC X.K C) (hz : Zc cls d oe) (hf : ∃ vs, oe.data = .fields vs) : CallR (X.suite a ((a, oe) :: pn)) (.builtin "isinstance") (rIsEd X.K C a cls d) := by
  intro pins s σ H xs us Q I r h
  obtain ⟨c, cv, b, dd, fs, rfl, hcv, rfl, rfl, hd, e, q⟩ := h
  obtain ⟨u1, u2, rfl, r1, r2⟩ := vals2 r
  cases (show u1 = Value.ref a from r1)
  have ec := hcv.eq r2
  subst ec
  obtain ⟨hget, _⟩ := I.pin (a, oe) (List.mem_append.mpr (.inl List.mem_cons_self))
  obtain ⟨vs, hv⟩ := hf
  have hx : ObjOk X.prog X.w H s.heap dd (.xd fs) := I.hok dd _ hd
  obtain ⟨mA, hns, hr⟩ := hx
  obtain ⟨od, ho, hl⟩ := lookIn_ns hns
  have J : PySem.W.InstAt s.heap a oe C (some od) := ⟨hget, hz.1, by unfold PySem.W.notCls; rw [hv] <;> rfl, by rw [hz.2]; exact ho⟩
  obtain ⟨cd, hcd, _⟩ := PySem.W.any_some T.hd
  exact PySem.W.kia_one (PySem.W.kitx_exc (by rw [hcd]; rfl) T.hg T.hk T.hs T.ha T.hn T.ht T.hm) I.kIn J e (fun z => nomatch z) fun tk => ⟨.bl b, H, I.kept (t' := tk) fun _ _ z => z, rfl, q⟩
end L2
namespace GQ
open PySem PySem.Spec PyProof.Rows
section
variable {prog : Program} {w : World} {A : Around} {R : Result → Shared → Prop}
theorem list_eq_len (l b : Addr) (items items2 : Array Value) (n n2 : Nat) (hne : items.size ≠ items2.size) {s : Shared} (hl1 : s.heap.get? l = some { cls := .type "list", data := .seq items n }) (hb1 : s.heap.get? b = some { cls := .type "list", data := .seq items2 n2 })
    (fin : R (.ok (.ret (.bool false))) s) :
    wpAny (model prog w) A.in1 (Builtin.«list.__eq__» ⟨[.ref l, .ref b], []⟩) (FinOf prog w A R) (fun e s' => R (.error e) s') s := by
  obtain ⟨hp, g, d, tk, os⟩ := s
  have f3 := AutoSeq1.sub_list_list
  have hne' : (items.size != items2.size) = true := by simp [hne]
  wp_walk using wpAny_loadPart' hl1, wpAny_loadPart' hb1
  exact fin
end
section
variable {prog : Program} {w : World} {A : Around} {E : Value → Shared → Prop} {s : Shared}
theorem rc_list_len {l b : Addr} {items items2 : Array Value} {n n2 : Nat} {Q : Value → Shared → Prop} (hu : A.units < cLine) (hne : items.size ≠ items2.size) (hl1 : s.heap.get? l = some { cls := .type "list", data := .seq items n }) (hb1 : s.heap.get? b = some { cls := .type "list", data := .seq items2 n2 })
    (fin : Q (.bool false) s) : wpAny (model prog w) A (richCompare .Eq (.ref l) (.ref b)) Q E s := by
  refine wpAny_richCompare_same_room (op := .Eq) ⟨_, hl1, rfl⟩ ⟨_, hb1, rfl⟩ F.slot_list_eq (call_here F.slot_list_eq ⟨_, hl1, rfl⟩ F.entry_list_eq (F.args_list_eq_2 _ _) ?_) hu
  exact list_eq_len (R := wants (fun v s' => v ≠ .notImplemented ∧ Q v s') E) l b items items2 n n2 hne hl1 hb1 ⟨(fun x => nomatch x), fin⟩
end
end GQ
namespace L2
open PySem PySem.Spec PyProof.Rows PySem.Builtin PySem.Builtin.Str
section
variable {X : Cx}
/-- xs == ys of two lists of which one is empty -/
def rEqNil : R2 := fun x y H Q => ∃ p q xs ys, x = .ref p ∧ y = .ref q ∧ H p = some (.lst xs) ∧ H q = some (.lst ys) ∧ (xs = [] ∨ ys = []) ∧ Q (.bl (decide (xs.length = ys.length))) H
theorem op_eq_nil (hu : X.A.units < cLine) : OpR X (compareOp .Eq) rEqNil := by
  intro pins s σ H x y v u Q I rx ry h
  obtain ⟨p, q, xs, ys, rfl, rfl, hp, hq, hn, k⟩ := h
  cases (show v = Value.ref p from rx)
  cases (show u = Value.ref q from ry)
  obtain ⟨z1, its, n, r1, hl, e1⟩ := I.lstM hp
  obtain ⟨z2, its2, n2, r2, hl2, e2⟩ := I.lstM hq
  by_cases hl3 : xs.length = ys.length
  · have ex : xs = [] := by
      rcases hn with e | e
      · exact e
      · subst e; exact List.length_eq_zero_iff.mp hl3
    have ey : ys = [] := by
      rcases hn with e | e
      · subst e; exact List.length_eq_zero_iff.mp hl3.symm
      · exact e
    subst ex ey
    cases r1; cases r2
    rw [decide_eq_true hl3] at k
    exact GQ.rc_listG hu (N := 0) (fun i s' => i = 0 ∧ s' = s) (fun i s' hi => by obtain ⟨rfl, rfl⟩ := hi; exact ⟨_, _, _, _, e1, e2, rfl, rfl, fun h1 _ => absurd h1 (by simp)⟩) (fun s' hs => by obtain ⟨_, rfl⟩ := hs; exact ⟨.bl true, H, I, rfl, k⟩) ⟨rfl, rfl⟩
  · rw [decide_eq_false hl3] at k
    refine GQ.rc_list_len hu ?_ e1 e2 ⟨.bl false, H, I, rfl, k⟩
    have := r1.length
    have := r2.length
    simp only [List.size_toArray]
    omega
/-! ### dicts of flat values, shown -/
def FlatD : V → PyData → Prop := fun v d => (v = .non ∧ d = .none) ∨ (∃ b, v = .bl b ∧ d = .bool b) ∨ (∃ i, v = .int i ∧ d = .int i) ∨ ∃ z, v = .str z ∧ d = .str z
def keyD : Key → PyData
  | .inl i => .int i
  | .inr x => .str x
def DictD : List (Key × V) → List (PyData × PyData) → Prop := Paired fun p q => q.1 = keyD p.1 ∧ FlatD p.2 q.2
/-- data, or a dict of flat values -/
def Ds (K : PySem.W.Frag) (H : Hp) (x : V) (d : PyData) : Prop := Dp K H x d ∨ ∃ a kvs ds, x = .ref a ∧ H a = some (.dK kvs) ∧ d = .dict ds ∧ DictD kvs ds
def rReprD (K : PySem.W.Frag) : List V → Hp → VK → Prop := fun xs H Q => ∃ x d, xs = [x] ∧ Ds K H x d ∧ d.showable = true ∧ d.depth ≤ 60 ∧ d.shown.length ≤ sizeLine ∧ Q (.str d.shown) H
theorem FlatD.reads {v : V} {d : PyData} {u : Value} {h : Heap} (f : FlatD v d) (r : RelV v u) : Reads h u d [] := by
  rcases f with ⟨rfl, rfl⟩ | ⟨b, rfl, rfl⟩ | ⟨i, rfl, rfl⟩ | ⟨z, rfl, rfl⟩
  · cases (show u = Value.none from r); exact .none
  · cases (show u = Value.bool b from r); exact .bool _
  · obtain ⟨t, rfl⟩ := r; exact .int _ _
  · obtain ⟨t, rfl⟩ := r; exact .str _ _
theorem keyD_reads {k : Key} {u : Value} {h : Heap} (e : keyIs k u = true) : Reads h u (keyD k) [] := by
  rcases keyIs_shape e with ⟨i, t, rfl, rfl⟩ | ⟨x, t, rfl, rfl⟩
  · exact .int _ _
  · exact .str _ _
theorem dictD_reads {h : Heap} {P : Program} {w : World} {kvs : List (Key × V)} {ds : List (PyData × PyData)} (dd : DictD kvs ds) : ∀ {vs : List (Key × Value)} {es : List DictEntry}, KV kvs vs → Pairs (mixKind P w) es vs →
    ReadsAll h (es.map (·.key)) (ds.map (·.1)) [] ∧ ReadsAll h (es.map (·.val)) (ds.map (·.2)) [] := by
  unfold DictD at dd
  induction dd with
  | nil =>
    intro vs es kv ps
    cases kv
    cases ps
    exact ⟨.nil, .nil⟩
  | @cons p q l1 l2 h1 _ ih =>
    intro vs es kv ps
    unfold KV at kv
    cases kv with
    | cons a t =>
      cases ps with
      | cons hk hv hp =>
        obtain ⟨i1, i2⟩ := ih t hp
        obtain ⟨e1, f⟩ := h1
        obtain ⟨ka, ra⟩ := a
        refine ⟨.cons (as := []) (bs := []) ?_ i1, .cons (as := []) (bs := []) ?_ i2⟩
        · show Reads h _ q.1 []
          rw [e1, ka]
          exact keyD_reads hk
        · have := f.reads (h := h) ra
          rw [← hv] at this
          exact this
theorem call_reprD (hc : X.A.guards = some []) (hu : X.A.units + 64 < cLine) : CallR X (.builtin "repr") (rReprD X.K) := by
  intro pins s σ H xs us Q I r h
  obtain ⟨x, d, rfl, hd, hs, hdp, hz, q⟩ := h
  rcases hd with hd | ⟨a, kvs, ds, rfl, ha, rfl, dd⟩
  · exact call_repr hc hu pins s σ H _ us Q I r ⟨x, d, rfl, .inl hd, hs, hdp, hz, q⟩
  · obtain ⟨u, rfl, r1⟩ := vals1 r
    obtain rfl : u = Value.ref a := r1
    obtain ⟨_, hsys, vs, hkv, od, es, ep, hget, hcl, hdat, hko, hps, _⟩ : ObjOk X.prog X.w H s.heap a (.dK kvs) := I.hok a _ ha
    obtain ⟨i1, i2⟩ := dictD_reads (h := s.heap) dd hkv hps
    have rd : Reads s.heap (.ref a) (.dict ds) (a :: [] ++ []) := .dict hget hcl.1 hdat i1 i2
    refine repr_of_reads' rd hs (fun _ hm => ?_) hc (by omega) (fun _ _ e => e) (fun h' u tk k => ⟨.str _, H, I.kept k, ⟨_, rfl⟩, q⟩) hz
    have e : sysModules = a := by simpa using hm
    rw [← e] at hsys
    exact absurd hsys (by decide)
end
end L2

set_option Elab.async false
set_option linter.all false
set_option maxRecDepth 100000
set_option maxHeartbeats 4000000
/-! What the laws share: the box of draws, what stands, texts of small letters, what is shown. -/
namespace My
open PySem PySem.Spec PyProof.Rows L2
/-! ### the law's box of draws -/
def BoxO (n : Nat) (o : HO) : Prop := ∃ (a m c : Int) (b : Bool), o = .lst [.int a, .bl b, .int m, .int c] ∧ 0 ≤ m ∧ m < 2147483648 ∧ 0 ≤ c ∧ c ≤ n
def BoxAt (H : Hp) (p : Addr) (n : Nat) : Prop := ∃ o, H p = some o ∧ BoxO n o
theorem BoxAt.mono {H : Hp} {p : Addr} {n m : Nat} (h : BoxAt H p n) (l : n ≤ m) : BoxAt H p m := by
  obtain ⟨o, e, a, m', c, b, e2, h1, h2, h3, h4⟩ := h
  exact ⟨o, e, a, m', c, b, e2, h1, h2, h3, by omega⟩
/-- all but the box stands -/
def Kp (p : Addr) (H H' : Hp) : Prop := ∀ b o, b ≠ p → H b = some o → H' b = some o
theorem Kp.refl (p : Addr) (H : Hp) : Kp p H H := fun _ _ _ e => e
theorem Kp.trans {p : Addr} {H H1 H2 : Hp} (a : Kp p H H1) (b : Kp p H1 H2) : Kp p H H2 := fun c o n e => b c o n (a c o n e)
theorem Kp.of {p : Addr} {H H' : Hp} (s : Same H H') : Kp p H H' := fun b o _ e => s b o e
theorem Kp.new {p q : Addr} {H H' : Hp} {o : HO} (k : Kp p H H') (h : H' q = none) : Kp p H (upd H' q o) := fun b ob n e => by
  have := k b ob n e
  rw [upd_ne (ne_of_none this h)]; exact this
theorem BoxAt.new {p q : Addr} {H : Hp} {o : HO} {n : Nat} (h : BoxAt H p n) (hq : H q = none) : BoxAt (upd H q o) p n := by
  obtain ⟨ob, e, r⟩ := h
  exact ⟨ob, by rw [upd_ne (ne_of_none e hq)]; exact e, r⟩
theorem BoxAt.same {p : Addr} {H H' : Hp} {n : Nat} (h : BoxAt H p n) (s : Same H H') : BoxAt H' p n := by
  obtain ⟨ob, e, r⟩ := h
  exact ⟨ob, s _ _ e, r⟩
theorem Same.new {q : Addr} {H H' : Hp} {o : HO} (k : Same H H') (h : H' q = none) : Same H (upd H' q o) := fun b ob e => by
  have := k b ob e
  rw [upd_ne (ne_of_none this h)]; exact this
theorem cutV_to (xs : List V) (n : Nat) : cutV xs none (some (n : Int)) = xs.take n := by
  unfold cutV
  rw [HT.sIx_none, sIx_some, List.drop_zero, Nat.sub_zero]
  rcases Nat.le_total n xs.length with h | h
  · rw [Nat.min_eq_left h]
  · rw [Nat.min_eq_right h, List.take_of_length_le h, List.take_of_length_le (Nat.le_refl _)]
theorem Kp.upd {p : Addr} {H H' : Hp} {o : HO} (k : Kp p H H') : Kp p H (upd H' p o) := fun b ob n e => by
  rw [upd_ne n]; exact k b ob n e
theorem BoxO.at {H : Hp} {p : Addr} {n : Nat} {o : HO} (h : BoxO n o) : BoxAt (upd H p o) p n := ⟨o, upd_same, h⟩
def isT (z : Str) : Bool := (cs z).all low
def Big (u : List Nat) : Prop := u.length ≤ 100000
theorem Big.fits {u : List Nat} (h : Big u) : (S u).length ≤ sizeLine := by rw [S_len]; exact Nat.le_trans h (by decide)
theorem Big.lt {n : Nat} (h : n ≤ 100000) : n < sizeLine := Nat.lt_of_le_of_lt h (by decide)
theorem Big.dbl {u : List Nat} (h : Big u) : (S u).length + (S u).length ≤ sizeLine := by
  rw [S_len]
  have : u.length ≤ 100000 := h
  exact Nat.le_trans (by omega) (by decide : 200000 ≤ sizeLine)
theorem Big.two {a : Nat} {t : List Nat} (h : Big t) : (S (t.drop a)).length + (S (t.take a)).length ≤ sizeLine := by
  rw [S_len, S_len]
  have : t.length ≤ 100000 := h
  exact Nat.le_trans (by rw [List.length_drop, List.length_take]; omega) (by decide : 200000 ≤ sizeLine)
theorem tYesT {σ : L2.St} {H : Hp} {A B : Hp → Prop} (h : A H) : tYes σ H (fun b H3 => if b = true then A H3 else B H3) := by
  show (if true = true then A H else B H)
  rw [if_pos rfl]; exact h
theorem ixN_nat {n j : Nat} (h : j < n) : ixN n (j : Int) = some j := by
  unfold ixN
  rw [if_pos (by omega), if_pos (by omega), Int.toNat_natCast]
theorem ix_listK {X : Cx} {K : PySem.W.Frag} (e : X.K = K) : IxR X (rIxL K) := by rw [← e]; exact ix_list
/-! ### rounds as a product -/
theorem foldl_rep (x : Array Nat) : ∀ (n : Nat) (b : Array Nat), (List.replicate n x).foldl (· ++ ·) b = b ++ (Lev.rounds n x.toList).toArray
  | 0, b => by simp [Lev.rounds]
  | n + 1, b => by
    rw [List.replicate_succ, List.foldl_cons, foldl_rep x n]
    simp [Lev.rounds]
    obtain ⟨x⟩ := x
    simp
theorem rounds_nil : ∀ n, Lev.rounds n ([] : List Nat) = []
  | 0 => rfl
  | n + 1 => by simp [Lev.rounds, rounds_nil n]
theorem mul_S (x : List Nat) (n : Nat) : Txt.mul (S x) (n : Int) = S (Lev.rounds n x) := by
  unfold Txt.mul
  by_cases h : n = 0
  · subst h; rfl
  · rw [if_neg (by omega)]
    by_cases h1 : ((n : Int) == 1 || (S x).length == 0) = true
    · rw [if_pos h1]
      simp only [Bool.or_eq_true, beq_iff_eq] at h1
      rcases h1 with e | e
      · have : n = 1 := by omega
        subst this
        simp [Lev.rounds]
      · rw [S_len] at e
        have : x = [] := List.eq_nil_of_length_eq_zero e
        subst this
        rw [rounds_nil]
    · rw [if_neg h1, Int.toNat_natCast, foldl_rep]
      simp [S]
theorem mulOk_S {x : List Nat} {n : Nat} (hx : x.length ≤ 1000) (hn : n ≤ 1000) : MulOk (S x) (n : Int) := by
  refine ⟨?_, fun _ _ => ?_, fun _ _ => ?_⟩
  · simp only [Bool.or_eq_false_iff, decide_eq_false_iff_not]; omega
  · rw [S_len]
    rcases Nat.eq_zero_or_pos n with e | e
    · subst e; contradiction
    · have : ((2 : Int) ^ 63 - 1) / n ≥ ((2 : Int) ^ 63 - 1) / 1000 := by
        have h1 : (2 ^ 63 - 1 : Int) / 1000 * n ≤ 2 ^ 63 - 1 := by omega
        exact Int.le_ediv_of_mul_le (by omega) h1
      omega
  · rw [S_len, Int.toNat_natCast]
    have : x.length * n ≤ 1000 * 1000 := Nat.mul_le_mul hx hn
    show decide (x.length * n > sizeLine) = false
    rw [decide_eq_false_iff_not]
    exact Nat.not_lt.mpr (Nat.le_trans this (by decide))
/-! ### letters -/
def Low (t : List Nat) : Prop := ∀ c ∈ t, low c = true
theorem Low.isT {t : List Nat} (h : Low t) : isT (S t) = true := by
  unfold My.isT
  rw [S_tl]
  exact List.all_eq_true.mpr h
theorem Low.append {t u : List Nat} (h : Low t) (g : Low u) : Low (t ++ u) := fun c hc => by
  rcases List.mem_append.mp hc with q | q
  · exact h c q
  · exact g c q
theorem Low.take {t : List Nat} (h : Low t) (n : Nat) : Low (t.take n) := fun c hc => h c (List.mem_of_mem_take hc)
theorem Low.drop {t : List Nat} (h : Low t) (n : Nat) : Low (t.drop n) := fun c hc => h c (List.mem_of_mem_drop hc)
theorem Low.nil : Low [] := fun c hc => by cases hc
theorem Low.one {c : Nat} (h : low c = true) : Low [c] := fun d hd => by rw [List.mem_singleton.mp hd]; exact h
theorem Kp.free {p D : Addr} {H H' : Hp} {o : HO} (k : Kp p H H') (h : H D = none) : Kp p H (L2.upd H' D o) := fun b ob n e => by
  rw [upd_ne (ne_of_none e h)]; exact k b ob n e
theorem BoxAt.other {p q : Addr} {H : Hp} {o : HO} {n : Nat} (h : BoxAt H p n) (hq : p ≠ q) : BoxAt (upd H q o) p n := by
  obtain ⟨ob, e, r⟩ := h
  exact ⟨ob, by rw [upd_ne hq]; exact e, r⟩
theorem BoxAt.ne {p q : Addr} {H : Hp} {n : Nat} (h : BoxAt H p n) (hq : H q = none) : p ≠ q := by
  obtain ⟨ob, e, r⟩ := h
  exact ne_of_none e hq
theorem ones_sum (t : List Nat) : (List.map ((fun x : Str => x.length) ∘ fun c => S [c]) t).sum = t.length := by
  induction t with
  | nil => rfl
  | cons c r ih => rw [List.map_cons, List.sum_cons, ih, List.length_cons]; show 1 + _ = _; omega
theorem alpha_at {d : Nat} (h : d < 26) : atI (Str.ofString "abcdefghijklmnopqrstuvwxyz").cps.toList (d : Int) = some (97 + d) := by
  have e : (Str.ofString "abcdefghijklmnopqrstuvwxyz").cps.toList = (List.range 26).map (97 + ·) := by decide +kernel
  rw [e]
  exact atI_nat (by rw [List.getElem?_map, List.getElem?_range h]; rfl)
theorem low_alpha {d : Nat} (h : d < 26) : low (97 + d) = true := by
  unfold low; simp; omega
theorem join_ones (t : List Nat) : Txt.join (Str.ofString "") (t.map fun c => S [c]) = S t := by
  rw [TL.join_eq]
  have e : cs (Str.join (Str.ofString "") (t.map fun c => S [c])) = t := by
    rw [show cs (Str.join (Str.ofString "") (t.map fun c => S [c])) = TL.tl (Str.join (Str.ofString "") (t.map fun c => S [c])) from rfl, TL.tl_join, List.map_map]
    have go : ∀ t : List Nat, TL.joinL [] (t.map fun c => [c]) = t := by
      intro t
      induction t with
      | nil => rfl
      | cons c r ih =>
        cases r with
        | nil => rfl
        | cons d r => show [c] ++ ([] ++ TL.joinL [] ((d :: r).map fun c => [c])) = _; rw [ih]; rfl
    exact go t
  rw [← S_of (Str.join _ _), e]
/-- whether a value is a text, as is_text says -/
def Jd (K : PySem.W.Frag) (H : Hp) (x : V) (b : Bool) : Prop := (∃ z, x = .str z ∧ b = isT z) ∨ ∃ t, TyX K H x (.type t) ∧ kitB t "str" = some false ∧ b = false
/-- an error of class C, made of x -/
def Bad (C : Addr) (H : Hp) (x : V) (E : XK) : Prop := ∀ d H', Same H H' → H d = none → H' d = some (.xd (gvn x)) → E (.ref C) (some d) H'
theorem tyOf_same {K : PySem.W.Frag} {H H' : Hp} {x : V} {t : Value} (h : TyOf K H x t) (s : Same H H') : TyOf K H' x t := by
  cases h
  case non => exact .non
  case bl => exact .bl _
  case int => exact .int _
  case str => exact .str _
  case flt => exact .flt _
  case lst e => exact .lst (s _ _ e)
  case frz e => exact .frz (s _ _ e)
  case tup e => exact .tup (s _ _ e)
  case dK e => exact .dK (s _ _ e)
  case dT e => exact .dT (s _ _ e)
  case ins e cl ha hn htk hm => exact .ins (s _ _ e) cl ha hn htk hm
theorem tyX_same {K : PySem.W.Frag} {H H' : Hp} {x : V} {t : Value} (h : TyX K H x t) (s : Same H H') : TyX K H' x t := by
  cases h
  case base e => exact .base (tyOf_same e s)
  case byt => exact .byt _
  case set e => exact .set (s _ _ e)
  case kList e c => exact .kList e c
  case kTuple e c => exact .kTuple e c
  case kDict e c => exact .kDict e c
  case fTuple e => exact .fTuple (s _ _ e)
  case fDict e => exact .fDict (s _ _ e)
theorem Jd.same {K : PySem.W.Frag} {H H' : Hp} {x : V} {b : Bool} (h : Jd K H x b) (s : Same H H') : Jd K H' x b := by
  rcases h with h | ⟨t, h1, h2, h3⟩
  · exact .inl h
  · exact .inr ⟨t, tyX_same h1 s, h2, h3⟩
/-! ### what can be shown -/
def Sh (d : PyData) : Prop := d.showable = true ∧ d.depth ≤ 60 ∧ d.shown.length ≤ sizeLine
theorem sh_of {d : PyData} (h1 : d.showable = true) (h2 : d.depth ≤ 60) (h3 : d.leavesShort 40 = true) (h4 : d.weight ≤ 100000) : Sh d := by
  refine ⟨h1, h2, ?_⟩
  have e := PyData.shown_le 40 (by omega) d h3
  exact Nat.le_trans e (Nat.le_trans (by omega : (40 + 2) * d.weight + 40 ≤ 4200040) (by decide))
theorem log2_20 {r : Nat} (h : r < 1048576) : r.log2 < 20 := PySem.Flt.log2_lt_of (by decide) h
theorem short_int {r : Nat} (h : r < 1048576) : (PyData.int r).leavesShort 40 = true := by
  have e := int_text_length_le (a := (r : Int)) (k := 20) (by decide) (log2_20 h)
  have e2 : (PyData.int (r : Int)).shown = Str.ofString (toString (r : Int)) := by simp only [PyData.shown]
  unfold PyData.leavesShort
  refine decide_eq_true ?_
  rw [e2, PySem.ofString_length]
  omega
theorem show_int {r : Nat} (h : r < 1048576) : (PyData.int r).showable = true := by
  simp only [PyData.showable, decide_eq_true_eq]
  exact Nat.lt_trans (log2_20 h) (by decide)
theorem weight_int {r : Nat} (h : r < 1048576) : (PyData.int r).weight ≤ 21 := by
  simp only [PyData.weight]
  have := log2_20 h
  split
  · omega
  · show (r : Int).natAbs.log2 + 1 ≤ 21
    rw [Int.natAbs_natCast]; omega
theorem un64 {k : Nat} {A : Around} (hr : Room k A) : A.units + 64 < cLine := by have := hr.un; omega
theorem neSame {z : Str} {A B : Prop} (h : B) : if (!decide (V.str z = V.str z)) = true then A else B := by
  rw [decide_eq_true rfl]; exact iteF h
theorem jd_low {K : PySem.W.Frag} {H : Hp} {t : List Nat} (h : Low t) : Jd K H (.str (S t)) true := .inl ⟨_, rfl, h.isT.symm⟩
theorem eqT {i : Int} {A B : Prop} (h : A) : if decide (V.int i = V.int i) = true then A else B := by
  rw [decide_eq_true rfl]; exact iteT h
theorem eqF {i j : Int} {A B : Prop} (n : i ≠ j) (h : B) : if decide (V.int i = V.int j) = true then A else B := by
  rw [decide_eq_false (fun z => n (V.int.inj z))]; exact iteF h
theorem through2 {t : TE} {σ : L2.St} {H : Hp} {Q : VK} (R : V → Hp → Prop) (h : ∀ Q' : VK, (∀ v H', R v H' → Q' v H') → t σ H Q') (rest : ∀ v H', R v H' → Q v H') : t σ H Q := h Q rest
theorem eqS {z : Str} {A B : Prop} (h : A) : if decide (V.str z = V.str z) = true then A else B := by
  rw [decide_eq_true rfl]; exact iteT h
theorem dp_same {K : PySem.W.Frag} {H H' : Hp} (s : Same H H') {x : V} {d : PyData} (h : Dp K H x d) : Dp K H' x d :=
  Dp.rec (motive_1 := fun x d _ => Dp K H' x d) (motive_2 := fun xs ds _ => DpAll K H' xs ds) .non (fun _ => .bl _) (fun _ => .int _) (fun _ => .str _)
    (fun hs _ ih => .lst (hs.ext s) ih) (fun hs _ ih => .tup (hs.elim (fun h => .inl (h.elim (fun h => .inl (s _ _ h)) fun ⟨o, h⟩ => .inr ⟨o, s _ _ h⟩)) fun h => .inr h) ih) .nil (fun _ _ i1 i2 => .cons i1 i2) h
theorem Ds.same {K : PySem.W.Frag} {H H' : Hp} (s : Same H H') {x : V} {d : PyData} (h : Ds K H x d) : Ds K H' x d := by
  rcases h with h | ⟨a, kvs, ds, e, ea, r⟩
  · exact .inl (dp_same s h)
  · exact .inr ⟨a, kvs, ds, e, s _ _ ea, r⟩
theorem Kp.toSame {p : Addr} {H H1 H2 : Hp} (k : Kp p H1 H2) (s : Same H H1) (h : H p = none) : Same H H2 := fun b o e => k b o (ne_of_none e h) (s b o e)
theorem sh_str {z : List Nat} (h : z.length ≤ 1000) (hc : ∀ c ∈ z, c < 200) : Sh (.str (S z)) := by
  refine sh_of (by simp only [PyData.showable]) (by simp only [PyData.depth]; omega) ?_ ?_
  · unfold PyData.leavesShort
    rw [List.all_eq_true]
    intro c hcm
    have : c ∈ z := by rw [← S_tl z]; exact hcm
    have := hc c this
    exact decide_eq_true (by omega)
  · unfold PyData.weight
    show (S z).length ≤ 100000
    rw [S_len]; omega
/-! ### data that is small enough to be shown -/
structure Fit (x : PyData) (k w : Nat) : Prop where
  s : x.showable = true
  d : x.depth ≤ k
  l : x.leavesShort 40 = true
  w : x.weight ≤ w
structure FitAll (ds : List PyData) (k w : Nat) : Prop where
  s : PyData.showableAll ds = true
  d : PyData.depthAll ds ≤ k
  l : PyData.leavesShortAll 40 ds = true
  w : PyData.weightAll ds ≤ w
structure FitKv (ds : List (PyData × PyData)) (k w : Nat) : Prop where
  s : PyData.showableKv ds = true
  d : PyData.depthKv ds ≤ k
  l : PyData.leavesShortKv 40 ds = true
  w : PyData.weightKv ds ≤ w
theorem Fit.sh {d : PyData} {k w : Nat} (h : Fit d k w) (hk : k ≤ 60) (hw : w ≤ 100000) : Sh d := sh_of h.s (Nat.le_trans h.d hk) h.l (Nat.le_trans h.w hw)
theorem Fit.mono {d : PyData} {k w k' w' : Nat} (h : Fit d k w) (hk : k ≤ k') (hw : w ≤ w') : Fit d k' w' := ⟨h.s, Nat.le_trans h.d hk, h.l, Nat.le_trans h.w hw⟩
theorem FitAll.mono {d : List PyData} {k w k' w' : Nat} (h : FitAll d k w) (hk : k ≤ k') (hw : w ≤ w') : FitAll d k' w' := ⟨h.s, Nat.le_trans h.d hk, h.l, Nat.le_trans h.w hw⟩
theorem FitAll.nil {k : Nat} : FitAll [] k 0 := ⟨rfl, Nat.zero_le _, rfl, Nat.le_refl _⟩
theorem FitAll.cons {d : PyData} {ds : List PyData} {k w1 w2 : Nat} (h : Fit d k w1) (t : FitAll ds k w2) : FitAll (d :: ds) k (w1 + 1 + w2) := by
  refine ⟨?_, ?_, ?_, ?_⟩
  · unfold PyData.showableAll; rw [h.s, t.s]; rfl
  · unfold PyData.depthAll; have := h.d; have := t.d; omega
  · unfold PyData.leavesShortAll; rw [h.l, t.l]; rfl
  · unfold PyData.weightAll; have := h.w; have := t.w; omega
theorem Fit.list {ds : List PyData} {k w : Nat} (t : FitAll ds k w) : Fit (.list ds) (k + 1) w := by
  refine ⟨?_, ?_, ?_, ?_⟩
  · unfold PyData.showable; exact t.s
  · unfold PyData.depth; have := t.d; omega
  · unfold PyData.leavesShort; exact t.l
  · unfold PyData.weight; exact t.w
theorem Fit.tuple {ds : List PyData} {k w : Nat} (t : FitAll ds k w) : Fit (.tuple ds) (k + 1) w := by
  refine ⟨?_, ?_, ?_, ?_⟩
  · unfold PyData.showable; exact t.s
  · unfold PyData.depth; have := t.d; omega
  · unfold PyData.leavesShort; exact t.l
  · unfold PyData.weight; exact t.w
theorem Fit.none {k : Nat} : Fit .none k 0 := ⟨by unfold PyData.showable; rfl, by unfold PyData.depth; omega, by decide +kernel, by unfold PyData.weight; exact Nat.le_refl _⟩
theorem Fit.bool {b : Bool} {k : Nat} : Fit (.bool b) k 0 := ⟨by unfold PyData.showable; rfl, by unfold PyData.depth; omega, by cases b <;> decide +kernel, by unfold PyData.weight; exact Nat.le_refl _⟩
theorem Fit.nat {r k : Nat} (h : r < 1048576) : Fit (.int r) k 21 := ⟨show_int h, by unfold PyData.depth; omega, short_int h, weight_int h⟩
theorem Fit.str {z : List Nat} {k w : Nat} (h : z.length ≤ w) (hc : ∀ c ∈ z, c < 200) : Fit (.str (S z)) k w := by
  refine ⟨by unfold PyData.showable; rfl, by unfold PyData.depth; omega, ?_, ?_⟩
  · unfold PyData.leavesShort
    rw [List.all_eq_true]
    intro c hcm
    have : c ∈ z := by rw [← S_tl z]; exact hcm
    have := hc c this
    exact decide_eq_true (by omega)
  · unfold PyData.weight
    show (S z).length ≤ w
    rw [S_len]; exact h
theorem FitKv.nil {k : Nat} : FitKv [] k 0 := ⟨rfl, Nat.zero_le _, rfl, Nat.le_refl _⟩
theorem FitKv.cons {a b : PyData} {ds : List (PyData × PyData)} {k w1 w2 w3 : Nat} (h : Fit a k w1) (g : Fit b k w2) (t : FitKv ds k w3) : FitKv ((a, b) :: ds) k (w1 + w2 + 2 + w3) := by
  refine ⟨?_, ?_, ?_, ?_⟩
  · unfold PyData.showableKv; rw [h.s, g.s, t.s]; rfl
  · unfold PyData.depthKv; have := h.d; have := g.d; have := t.d; omega
  · unfold PyData.leavesShortKv; rw [h.l, g.l, t.l]; rfl
  · unfold PyData.weightKv; have := h.w; have := g.w; have := t.w; omega
theorem Fit.dict {ds : List (PyData × PyData)} {k w : Nat} (t : FitKv ds k w) : Fit (.dict ds) (k + 1) w := by
  refine ⟨?_, ?_, ?_, ?_⟩
  · unfold PyData.showable; exact t.s
  · unfold PyData.depth; have := t.d; omega
  · unfold PyData.leavesShort; exact t.l
  · unfold PyData.weight; exact t.w
abbrev natsD (ns : List Nat) : List PyData := ns.map fun (n : Nat) => PyData.int n
theorem FitAll.nats {k : Nat} : ∀ {ns : List Nat}, (∀ n ∈ ns, n < 1048576) → FitAll (natsD ns) k (22 * ns.length)
  | [], _ => FitAll.nil
  | n :: ns, h => (FitAll.cons (Fit.nat (h n List.mem_cons_self)) (FitAll.nats fun m hm => h m (List.mem_cons_of_mem _ hm))).mono (Nat.le_refl _) (by rw [List.length_cons]; omega)
theorem Low.lt {t : List Nat} (h : Low t) : ∀ c ∈ t, c < 200 := fun c hc => by
  have := h c hc
  unfold low at this
  simp only [Bool.and_eq_true, decide_eq_true_eq] at this
  omega
theorem dp_nats {K : PySem.W.Frag} {H : Hp} : ∀ ns : List Nat, DpAll K H (ns.map fun n => V.int (n : Nat)) (natsD ns)
  | [] => .nil
  | n :: ns => .cons (.int _) (dp_nats ns)
theorem un0 {k : Nat} {A : Around} (hr : Room k A) : A.units < cLine := Nat.lt_of_le_of_lt (Nat.le_add_right _ 64) (un64 hr)
end My

set_option Elab.async false
set_option linter.all false
set_option maxRecDepth 100000
set_option maxHeartbeats 4000000
/-! Values as data, empty dicts among them: what they are, their classes, == with a text, shown. -/
namespace L2
open PySem PySem.Spec PyProof.Rows
/-! x is the data d; m: dicts are let, and then no list lies where the modules lie -/
mutual
inductive Dg (K : PySem.W.Frag) (H : Hp) (m : Bool) : V → PyData → Prop
  | non : Dg K H m .non .none
  | bl (b : Bool) : Dg K H m (.bl b) (.bool b)
  | int (i : Int) : Dg K H m (.int i) (.int i)
  | str (x : Str) : Dg K H m (.str x) (.str x)
  | lst {a : Addr} {xs : List V} {ds : List PyData} : SqL K H a xs → (m = true → (a == sysModules) = false) → DgAll K H m xs ds → Dg K H m (.ref a) (.list ds)
  | tup {a : Addr} {xs : List V} {ds : List PyData} : SqT K H a xs → DgAll K H m xs ds → Dg K H m (.ref a) (.tuple ds)
  | emp {a : Addr} : m = true → H a = some (.dK []) → Dg K H m (.ref a) (.dict [])
inductive DgAll (K : PySem.W.Frag) (H : Hp) (m : Bool) : List V → List PyData → Prop
  | nil : DgAll K H m [] []
  | cons {v : V} {vs : List V} {d : PyData} {ds : List PyData} : Dg K H m v d → DgAll K H m vs ds → DgAll K H m (v :: vs) (d :: ds)
end
section
variable {X : Cx} {pins : List (Addr × Obj)} {σ : St} {H : Hp} {s : Shared} {m : Bool}
mutual
theorem Dg.reads (I : Inv X pins σ H s) : ∀ (d : PyData) (v : V) (u : Value), Dg X.K H m v d → RelV v u → ∃ as, Reads s.heap u d as ∧ (m = true → sysModules ∉ as)
  | .none, _, _, h, r => by
    cases h
    cases r
    exact ⟨_, Reads.none, fun _ => List.not_mem_nil⟩
  | .bool b, _, _, h, r => by
    cases h
    cases r
    exact ⟨_, Reads.bool b, fun _ => List.not_mem_nil⟩
  | .int i, _, _, h, r => by
    cases h
    obtain ⟨t, rfl⟩ := r
    exact ⟨_, Reads.int i t, fun _ => List.not_mem_nil⟩
  | .str x, _, _, h, r => by
    cases h
    obtain ⟨t, rfl⟩ := r
    exact ⟨_, Reads.str x t, fun _ => List.not_mem_nil⟩
  | .list ds, _, _, h, r => by
    cases h with
    | lst hs hl ha =>
      cases r
      obtain ⟨its, rv, ⟨o, n, ho, hc, _, hd⟩, _⟩ := I.list hs
      obtain ⟨as, hr, hm⟩ := Dg.readsAll I ds _ its ha rv
      refine ⟨_, Reads.list ho hc hd hr, fun e hh => ?_⟩
      rcases List.mem_cons.mp hh with q | q
      · have := hl e
        rw [← q] at this
        exact absurd this (by decide)
      · exact hm e q
  | .tuple ds, _, _, h, r => by
    cases h with
    | tup hs ha =>
      cases r
      obtain ⟨its, rv, ⟨o, ho, hc, n, hd⟩, _⟩ := I.tuple hs
      obtain ⟨as, hr, hm⟩ := Dg.readsAll I ds _ its ha rv
      exact ⟨_, Reads.tuple ho hc hd hr, hm⟩
  | .dict _, _, _, h, r => by
    cases h with
    | @emp a hm ha =>
      cases r
      obtain ⟨_, hsys, vs, hkv, od, es, ep, hget, hcl, hdat, hko, hps, _⟩ : ObjOk X.prog X.w H s.heap a (.dK []) := I.hok a _ ha
      cases hkv
      have he : es.toList = [] := by
        generalize es.toList = l at hps
        cases hps; rfl
      refine ⟨a :: [] ++ [], .dict hget hcl.1 hdat (by rw [he]; exact .nil) (by rw [he]; exact .nil), fun _ hh => ?_⟩
      have e : sysModules = a := by simpa using hh
      rw [← e] at hsys
      exact absurd hsys (by decide)
theorem Dg.readsAll (I : Inv X pins σ H s) : ∀ (ds : List PyData) (vs : List V) (us : List Value), DgAll X.K H m vs ds → Vals vs us → ∃ as, ReadsAll s.heap us ds as ∧ (m = true → sysModules ∉ as)
  | [], _, _, h, r => by
    cases h
    cases r
    exact ⟨_, ReadsAll.nil, fun _ => List.not_mem_nil⟩
  | d :: ds, _, _, h, r => by
    cases h with
    | cons h1 h2 =>
      cases r with
      | cons r1 r2 =>
        obtain ⟨as, q1, n1⟩ := Dg.reads I d _ _ h1 r1
        obtain ⟨bs, q2, n2⟩ := Dg.readsAll I ds _ _ h2 r2
        exact ⟨_, ReadsAll.cons q1 q2, fun e hh => by
          rcases List.mem_append.mp hh with q | q
          · exact n1 e q
          · exact n2 e q⟩
end
end
theorem Dg.noDict {K : PySem.W.Frag} {H : Hp} {x : V} {d : PyData} (h : Dg K H false x d) : d.hasDict = false :=
  Dg.rec (motive_1 := fun _ d _ => d.hasDict = false) (motive_2 := fun _ ds _ => PyData.hasDictAll ds = false) rfl (fun _ => rfl) (fun _ => rfl) (fun _ => rfl)
    (fun _ _ _ ih => by unfold PyData.hasDict; exact ih) (fun _ _ ih => by unfold PyData.hasDict; exact ih) (fun e => by cases e) rfl (fun _ _ i1 i2 => by unfold PyData.hasDictAll; rw [i1, i2]; rfl) h
theorem SqL.same {K : PySem.W.Frag} {H H' : Hp} {a : Addr} {xs : List V} (h : SqL K H a xs) (s : ∀ b o, H b = some o → H' b = some o) : SqL K H' a xs := h.ext s
theorem Dg.ext {K : PySem.W.Frag} {H H' : Hp} {m : Bool} (s : ∀ b o, H b = some o → H' b = some o) {x : V} {d : PyData} (h : Dg K H m x d) : Dg K H' m x d :=
  Dg.rec (motive_1 := fun x d _ => Dg K H' m x d) (motive_2 := fun xs ds _ => DgAll K H' m xs ds) .non (fun _ => .bl _) (fun _ => .int _) (fun _ => .str _)
    (fun hs hl _ ih => .lst (hs.ext s) hl ih) (fun hs _ ih => .tup (hs.elim (fun h => .inl (h.elim (fun h => .inl (s _ _ h)) fun ⟨o, h⟩ => .inr ⟨o, s _ _ h⟩)) fun h => .inr h) ih) (fun e h => .emp e (s _ _ h)) .nil (fun _ _ i1 i2 => .cons i1 i2) h
theorem DgAll.ext {K : PySem.W.Frag} {H H' : Hp} {m : Bool} (s : ∀ b o, H b = some o → H' b = some o) : ∀ {xs : List V} {ds : List PyData}, DgAll K H m xs ds → DgAll K H' m xs ds
  | _, _, .nil => .nil
  | _, _, .cons h t => .cons (h.ext s) (DgAll.ext s t)
theorem DgAll.len {K : PySem.W.Frag} {H : Hp} {m : Bool} : ∀ {xs : List V} {ds : List PyData}, DgAll K H m xs ds → xs.length = ds.length
  | _, _, .nil => rfl
  | _, _, .cons _ t => by rw [List.length_cons, List.length_cons, DgAll.len t]
theorem DgAll.at {K : PySem.W.Frag} {H : Hp} {m : Bool} : ∀ {xs : List V} {ds : List PyData}, DgAll K H m xs ds → ∀ (i : Nat) (x : V), xs[i]? = some x → ∃ d, ds[i]? = some d ∧ Dg K H m x d
  | _, _, .nil, i, x, h => by cases h
  | _, _, .cons h t, 0, x, e => by
    obtain rfl := Option.some.inj e
    exact ⟨_, rfl, h⟩
  | _, _, .cons h t, i + 1, x, e => DgAll.at t i x e
theorem DgAll.append {K : PySem.W.Frag} {H : Hp} {m : Bool} : ∀ {xs ys : List V} {ds es : List PyData}, DgAll K H m xs ds → DgAll K H m ys es → DgAll K H m (xs ++ ys) (ds ++ es)
  | _, _, _, _, .nil, h => h
  | _, _, _, _, .cons h t, g => .cons h (DgAll.append t g)
theorem DgAll.take {K : PySem.W.Frag} {H : Hp} {m : Bool} : ∀ (n : Nat) {xs : List V} {ds : List PyData}, DgAll K H m xs ds → DgAll K H m (xs.take n) (ds.take n)
  | 0, _, _, _ => by simp; exact .nil
  | n + 1, _, _, .nil => by simp; exact .nil
  | n + 1, _, _, .cons h t => by simp only [List.take_succ_cons]; exact .cons h (DgAll.take n t)
theorem DgAll.drop {K : PySem.W.Frag} {H : Hp} {m : Bool} : ∀ (n : Nat) {xs : List V} {ds : List PyData}, DgAll K H m xs ds → DgAll K H m (xs.drop n) (ds.drop n)
  | 0, _, _, h => h
  | n + 1, _, _, .nil => by simp; exact .nil
  | n + 1, _, _, .cons h t => by simp only [List.drop_succ_cons]; exact DgAll.drop n t
theorem Dg.int_of {K : PySem.W.Frag} {H : Hp} {m : Bool} {x : V} {i : Int} (h : Dg K H m x (.int i)) : x = .int i := by cases h; rfl
theorem Dg.str_of {K : PySem.W.Frag} {H : Hp} {m : Bool} {x : V} {i : Str} (h : Dg K H m x (.str i)) : x = .str i := by cases h; rfl
theorem Dg.tup_of {K : PySem.W.Frag} {H : Hp} {m : Bool} {x : V} {ds : List PyData} (h : Dg K H m x (.tuple ds)) : ∃ a xs, x = .ref a ∧ SqT K H a xs ∧ DgAll K H m xs ds := by
  cases h with
  | tup h1 h2 => exact ⟨_, _, rfl, h1, h2⟩
theorem Dg.lst_of {K : PySem.W.Frag} {H : Hp} {m : Bool} {x : V} {ds : List PyData} (h : Dg K H m x (.list ds)) : ∃ a xs, x = .ref a ∧ SqL K H a xs ∧ (m = true → (a == sysModules) = false) ∧ DgAll K H m xs ds := by
  cases h with
  | lst h1 h2 h3 => exact ⟨_, _, rfl, h1, h2, h3⟩
theorem DgAll.cons_of {K : PySem.W.Frag} {H : Hp} {m : Bool} {xs : List V} {d : PyData} {ds : List PyData} (h : DgAll K H m xs (d :: ds)) : ∃ x ys, xs = x :: ys ∧ Dg K H m x d ∧ DgAll K H m ys ds := by
  cases h with
  | cons h1 h2 => exact ⟨_, _, rfl, h1, h2⟩
theorem DgAll.nil_of {K : PySem.W.Frag} {H : Hp} {m : Bool} {xs : List V} (h : DgAll K H m xs []) : xs = [] := by cases h; rfl
/-! ### the classes of data -/
def tyD : PyData → String
  | .none => "NoneType" | .bool _ => "bool" | .int _ => "int" | .str _ => "str" | .list _ => "list" | .tuple _ => "tuple" | .dict _ => "dict"
theorem Dg.ty {K : PySem.W.Frag} {H : Hp} {m : Bool} {x : V} {d : PyData} (h : Dg K H m x d) : TyX K H x (.type (tyD d)) := by
  cases h with
  | non => exact .base .non
  | bl b => exact .base (.bl b)
  | int i => exact .base (.int i)
  | str z => exact .base (.str z)
  | lst hs _ _ =>
    rcases hs with (h | ⟨o, h⟩) | ⟨o, its, n, e, c, _⟩
    · exact .base (.lst h)
    · exact .base (.frz h)
    · exact .kList e c
  | tup hs _ =>
    rcases hs with (h | ⟨o, h⟩) | ⟨o, its, n, e, c, _⟩
    · exact .base (.tup h)
    · exact .fTuple h
    · exact .kTuple e c
  | emp _ h => exact .base (.dK h)
def isTupD : PyData → Bool | .tuple _ => true | _ => false
def isLstD : PyData → Bool | .list _ => true | _ => false
def isStrD : PyData → Bool | .str _ => true | _ => false
def isBlD : PyData → Bool | .bool _ => true | _ => false
def isNumD : PyData → Bool | .bool _ => true | .int _ => true | _ => false
theorem kit_tupD {K : PySem.W.Frag} (d : PyData) : PySem.W.kitOne K (.type (tyD d)) (.type "tuple") = some (isTupD d) := by
  cases d with
  | none => exact kit_ty (by decide +kernel : kitB "NoneType" "tuple" = some false)
  | bool _ => exact kit_ty (by decide +kernel : kitB "bool" "tuple" = some false)
  | int _ => exact kit_ty (by decide +kernel : kitB "int" "tuple" = some false)
  | str _ => exact kit_ty (by decide +kernel : kitB "str" "tuple" = some false)
  | list _ => exact kit_ty (by decide +kernel : kitB "list" "tuple" = some false)
  | tuple _ => exact kit_ty (by decide +kernel : kitB "tuple" "tuple" = some true)
  | dict _ => exact kit_ty (by decide +kernel : kitB "dict" "tuple" = some false)
theorem kit_lstD {K : PySem.W.Frag} (d : PyData) : PySem.W.kitOne K (.type (tyD d)) (.type "list") = some (isLstD d) := by
  cases d with
  | none => exact kit_ty (by decide +kernel : kitB "NoneType" "list" = some false)
  | bool _ => exact kit_ty (by decide +kernel : kitB "bool" "list" = some false)
  | int _ => exact kit_ty (by decide +kernel : kitB "int" "list" = some false)
  | str _ => exact kit_ty (by decide +kernel : kitB "str" "list" = some false)
  | list _ => exact kit_ty (by decide +kernel : kitB "list" "list" = some true)
  | tuple _ => exact kit_ty (by decide +kernel : kitB "tuple" "list" = some false)
  | dict _ => exact kit_ty (by decide +kernel : kitB "dict" "list" = some false)
theorem kit_strD {K : PySem.W.Frag} (d : PyData) : PySem.W.kitOne K (.type (tyD d)) (.type "str") = some (isStrD d) := by
  cases d with
  | none => exact kit_ty (by decide +kernel : kitB "NoneType" "str" = some false)
  | bool _ => exact kit_ty (by decide +kernel : kitB "bool" "str" = some false)
  | int _ => exact kit_ty (by decide +kernel : kitB "int" "str" = some false)
  | str _ => exact kit_ty (by decide +kernel : kitB "str" "str" = some true)
  | list _ => exact kit_ty (by decide +kernel : kitB "list" "str" = some false)
  | tuple _ => exact kit_ty (by decide +kernel : kitB "tuple" "str" = some false)
  | dict _ => exact kit_ty (by decide +kernel : kitB "dict" "str" = some false)
theorem kit_blD {K : PySem.W.Frag} (d : PyData) : PySem.W.kitOne K (.type (tyD d)) (.type "bool") = some (isBlD d) := by
  cases d with
  | none => exact kit_ty (by decide +kernel : kitB "NoneType" "bool" = some false)
  | bool _ => exact kit_ty (by decide +kernel : kitB "bool" "bool" = some true)
  | int _ => exact kit_ty (by decide +kernel : kitB "int" "bool" = some false)
  | str _ => exact kit_ty (by decide +kernel : kitB "str" "bool" = some false)
  | list _ => exact kit_ty (by decide +kernel : kitB "list" "bool" = some false)
  | tuple _ => exact kit_ty (by decide +kernel : kitB "tuple" "bool" = some false)
  | dict _ => exact kit_ty (by decide +kernel : kitB "dict" "bool" = some false)
theorem kit_numD {K : PySem.W.Frag} (d : PyData) : PySem.W.kitOne K (.type (tyD d)) (.type "int") = some (isNumD d) := by
  cases d with
  | none => exact kit_ty (by decide +kernel : kitB "NoneType" "int" = some false)
  | bool _ => exact kit_ty (by decide +kernel : kitB "bool" "int" = some true)
  | int _ => exact kit_ty (by decide +kernel : kitB "int" "int" = some true)
  | str _ => exact kit_ty (by decide +kernel : kitB "str" "int" = some false)
  | list _ => exact kit_ty (by decide +kernel : kitB "list" "int" = some false)
  | tuple _ => exact kit_ty (by decide +kernel : kitB "tuple" "int" = some false)
  | dict _ => exact kit_ty (by decide +kernel : kitB "dict" "int" = some false)
/-! ### shown -/
def rReprG (K : PySem.W.Frag) : List V → Hp → VK → Prop := fun xs H Q => ∃ x d m, xs = [x] ∧ Dg K H m x d ∧ d.showable = true ∧ d.depth ≤ 60 ∧ d.shown.length ≤ sizeLine ∧ Q (.str d.shown) H
theorem call_reprG {X : Cx} (hc : X.A.guards = some []) (hu : X.A.units + 64 < cLine) : CallR X (.builtin "repr") (rReprG X.K) := by
  intro pins s σ H xs us Q I r h
  obtain ⟨x, d, m, rfl, hd, hs, hdp, hz, q⟩ := h
  obtain ⟨u, rfl, r1⟩ := vals1 r
  obtain ⟨as, rd, hn⟩ := Dg.reads I d x u hd r1
  have nd : d.hasDict = true → sysModules ∉ as := fun e => by
    cases m with
    | true => exact hn rfl
    | false => rw [hd.noDict] at e; cases e
  cases hd with
  | non => cases rd; exact P.repr_of_none ⟨.str _, H, I.tok _, ⟨_, rfl⟩, q⟩
  | bl b => cases rd; exact P.repr_of_bool ⟨.str _, H, I.tok _, ⟨_, rfl⟩, q⟩
  | int i =>
    cases rd
    have hi : i.natAbs.log2 < 1920 := of_decide_eq_true hs
    exact P.repr_of_int hi ⟨.str _, H, I.tok _, ⟨_, rfl⟩, q⟩
  | str z => cases rd; exact P.repr_of_str ⟨.str _, H, I.tok _, ⟨_, rfl⟩, q⟩ hz
  | lst h1 h2 h3 =>
    obtain rfl : u = Value.ref _ := r1
    exact repr_of_reads' rd hs nd hc (by omega) (fun _ _ e => e) (fun h' u tk k => ⟨.str _, H, I.kept k, ⟨_, rfl⟩, q⟩) hz
  | tup h1 h2 =>
    obtain rfl : u = Value.ref _ := r1
    exact repr_of_reads' rd hs nd hc (by omega) (fun _ _ e => e) (fun h' u tk k => ⟨.str _, H, I.kept k, ⟨_, rfl⟩, q⟩) hz
  | emp h1 h2 =>
    obtain rfl : u = Value.ref _ := r1
    exact repr_of_reads' rd hs nd hc (by omega) (fun _ _ e => e) (fun h' u tk k => ⟨.str _, H, I.kept k, ⟨_, rfl⟩, q⟩) hz
end L2
namespace DataQ
open PySem PySem.Spec PyProof.Rows
/-! ### a dict is no text -/
section
variable {prog : Program} {w : World} {A : Around} {E : Value → Shared → Prop} {s : Shared}
theorem dict_eq_declines_str (l : Addr) (es : Array DictEntry) (n : Nat) (dd : Option Addr) (sl : Array (Option Value)) (b : Str) (u : Tok) :
    Meets (Builtin.«dict.__eq__» ⟨[.ref l, .str b u], []⟩) (fun _ R s => s.heap.get? l = some { cls := .type "dict", dict := dd, data := .dict es n, slots := sl } ∧ R (.ok (.ret .notImplemented)) s) :=
  .of_wp fun prog w A R s h => by obtain ⟨hp, g, d, tk, os⟩ := s; obtain ⟨hl, h⟩ := h; have f1 := F.sub_str_dict; wp_walk using wpAny_load hl; exact ⟨_, rfl, h⟩
theorem dict_ne_declines_str (l : Addr) (es : Array DictEntry) (n : Nat) (dd : Option Addr) (sl : Array (Option Value)) (b : Str) (u : Tok) :
    Meets (Builtin.«dict.__ne__» ⟨[.ref l, .str b u], []⟩) (fun _ R s => s.heap.get? l = some { cls := .type "dict", dict := dd, data := .dict es n, slots := sl } ∧ R (.ok (.ret .notImplemented)) s) :=
  .of_wp fun prog w A R s h => by obtain ⟨hp, g, d, tk, os⟩ := s; obtain ⟨hl, h⟩ := h; have f1 := F.sub_str_dict; wp_walk using wpAny_load hl; exact ⟨_, rfl, h⟩
theorem str_eq_declines_dict (b : Str) (u : Tok) (l : Addr) (es : Array DictEntry) (n : Nat) (dd : Option Addr) (sl : Array (Option Value)) :
    Meets (Builtin.«str.__eq__» ⟨[.str b u, .ref l], []⟩) (fun _ R s => s.heap.get? l = some { cls := .type "dict", dict := dd, data := .dict es n, slots := sl } ∧ R (.ok (.ret .notImplemented)) s) :=
  .of_wp fun prog w A R s h => by obtain ⟨hp, g, d, tk, os⟩ := s; obtain ⟨hl, h⟩ := h; wp_walk using wpAny_load hl; exact ⟨_, rfl, h⟩
theorem str_ne_declines_dict (b : Str) (u : Tok) (l : Addr) (es : Array DictEntry) (n : Nat) (dd : Option Addr) (sl : Array (Option Value)) :
    Meets (Builtin.«str.__ne__» ⟨[.str b u, .ref l], []⟩) (fun _ R s => s.heap.get? l = some { cls := .type "dict", dict := dd, data := .dict es n, slots := sl } ∧ R (.ok (.ret .notImplemented)) s) :=
  .of_wp fun prog w A R s h => by obtain ⟨hp, g, d, tk, os⟩ := s; obtain ⟨hl, h⟩ := h; wp_walk using wpAny_load hl; exact ⟨_, rfl, h⟩
theorem rc_dict_str {l : Addr} {dd : Option Addr} {es : Array DictEntry} {n : Nat} {sl : Array (Option Value)} (b : Str) (u : Tok) (ho : s.heap.get? l = some { cls := .type "dict", dict := dd, data := .dict es n, slots := sl }) (hu : A.units < cLine)
    {Q : Value → Shared → Prop} (h : Q (.bool false) s) : wpAny (model prog w) A (richCompare .Eq (.ref l) (.str b u)) Q E s :=
  PySem.SeqAt.rc_eq_decline_or (k := false) ⟨_, ho, rfl⟩ (typeIs_str s b u) (by decide) F.sub_str_dict F.slot_dict_eq F.slot_str_eq_refl
    (fun _ hq => call_meets F.slot_dict_eq ⟨_, ho, rfl⟩ F.entry_dict_eq (F.args_dict_eq_2 _ _) (dict_eq_declines_str l es n dd sl b u) ⟨ho, hq⟩)
    (fun _ hq => call_meets F.slot_str_eq_refl (typeIs_str s b u) F.entry_str_eq (F.args_str_eq_2 _ _) (str_eq_declines_dict b u l es n dd sl) ⟨ho, hq⟩)
    (fun _ hq => wpAny_of_eq (rfl : isSame (.ref l) (.str b u) = pure false) hq) (.inr hu) h
theorem rcNe_dict_str {l : Addr} {dd : Option Addr} {es : Array DictEntry} {n : Nat} {sl : Array (Option Value)} (b : Str) (u : Tok) (ho : s.heap.get? l = some { cls := .type "dict", dict := dd, data := .dict es n, slots := sl }) (hu : A.units < cLine)
    {Q : Value → Shared → Prop} (h : Q (.bool true) s) : wpAny (model prog w) A (richCompare .NotEq (.ref l) (.str b u)) Q E s :=
  PySem.SeqAt.rc_ne_decline_or (k := false) ⟨_, ho, rfl⟩ (typeIs_str s b u) (by decide) F.sub_str_dict F.slot_dict_ne F.slot_str_ne_refl
    (fun _ hq => call_meets F.slot_dict_ne ⟨_, ho, rfl⟩ F.entry_dict_ne (F.args_dict_ne_2 _ _) (dict_ne_declines_str l es n dd sl b u) ⟨ho, hq⟩)
    (fun _ hq => call_meets F.slot_str_ne_refl (typeIs_str s b u) F.entry_str_ne (F.args_str_ne_2 _ _) (str_ne_declines_dict b u l es n dd sl) ⟨ho, hq⟩)
    (fun _ hq => wpAny_of_eq (rfl : isSame (.ref l) (.str b u) = pure false) hq) (.inr hu) h
end
end DataQ
namespace L2
open PySem PySem.Spec PyProof.Rows
/-- the data is this text -/
def isS (z : Str) : PyData → Bool
  | .str y => decide (y = z)
  | _ => false
section
variable {X : Cx}
def rEqGS (K : PySem.W.Frag) : R2 := fun x y H Q => ∃ d m z, Dg K H m x d ∧ y = .str z ∧ Q (.bl (isS z d)) H
def rNeGS (K : PySem.W.Frag) : R2 := fun x y H Q => ∃ d m z, Dg K H m x d ∧ y = .str z ∧ Q (.bl (!isS z d)) H
theorem op_eqGS (hu : X.A.units + 64 < cLine) : OpR X (compareOp .Eq) (rEqGS X.K) := by
  intro pins s σ H x y v u Q I rx ry h
  obtain ⟨d, m, z, hd, rfl, q⟩ := h
  have hu' : X.A.units < cLine := by omega
  obtain ⟨as, rd, _⟩ := Dg.reads I d x v hd rx
  obtain ⟨t, rfl⟩ := ry
  cases hd with
  | non => exact op_eq pins s σ H .non (.str z) _ _ Q I rx ⟨t, rfl⟩ ⟨rfl, by rw [decide_eq_false (fun e => V.noConfusion e)]; exact q⟩
  | bl b => exact op_eq pins s σ H (.bl b) (.str z) _ _ Q I rx ⟨t, rfl⟩ ⟨rfl, by rw [decide_eq_false (fun e => V.noConfusion e)]; exact q⟩
  | int i => exact op_eq pins s σ H (.int i) (.str z) _ _ Q I rx ⟨t, rfl⟩ ⟨rfl, by rw [decide_eq_false (fun e => V.noConfusion e)]; exact q⟩
  | str y =>
    refine op_eq pins s σ H (.str y) (.str z) _ _ Q I rx ⟨t, rfl⟩ ⟨rfl, ?_⟩
    have e : decide (V.str y = V.str z) = isS z (.str y) := by
      show _ = decide (y = z)
      rw [Bool.eq_iff_iff]; simp
    rw [e]; exact q
  | lst h1 h2 h3 =>
    obtain rfl : v = Value.ref _ := rx
    obtain ⟨its, rv, ⟨o, n, ho, hc, _, hdd⟩, _⟩ := I.list h1
    exact PySem.SeqAt.RcAt.list_str z t ⟨o, ho, hc, n, hdd⟩ hu' X.prog X.w _ _ ⟨.bl _, H, I, rfl, q⟩
  | tup h1 h2 =>
    obtain rfl : v = Value.ref _ := rx
    obtain ⟨its, rv, ⟨o, ho, hc, n, hdd⟩, _⟩ := I.tuple h1
    exact PySem.SeqAt.RcAt.tuple_str z t ⟨o, ho, hc, n, hdd⟩ hu' X.prog X.w _ _ ⟨.bl _, H, I, rfl, q⟩
  | @emp a h1 ha =>
    obtain rfl : v = Value.ref _ := rx
    obtain ⟨_, hsys, vs, hkv, od, es, ep, hget, hcl, hdat, hko, hps, _⟩ : ObjOk X.prog X.w H s.heap a (.dK []) := I.hok a _ ha
    obtain ⟨oc, odd, odt, osl⟩ := od
    obtain ⟨hc1, hc2⟩ := hcl
    simp only at hc1 hdat
    subst hc1 hdat
    exact DataQ.rc_dict_str z t hget hu' ⟨.bl _, H, I, rfl, q⟩
theorem op_neGS (hu : X.A.units + 64 < cLine) : OpR X (compareOp .NotEq) (rNeGS X.K) := by
  intro pins s σ H x y v u Q I rx ry h
  obtain ⟨d, m, z, hd, rfl, q⟩ := h
  have hu' : X.A.units < cLine := by omega
  obtain ⟨as, rd, _⟩ := Dg.reads I d x v hd rx
  obtain ⟨t, rfl⟩ := ry
  cases hd with
  | non => exact op_ne pins s σ H .non (.str z) _ _ Q I rx ⟨t, rfl⟩ ⟨rfl, by rw [decide_eq_false (fun e => V.noConfusion e)]; exact q⟩
  | bl b => exact op_ne pins s σ H (.bl b) (.str z) _ _ Q I rx ⟨t, rfl⟩ ⟨rfl, by rw [decide_eq_false (fun e => V.noConfusion e)]; exact q⟩
  | int i => exact op_ne pins s σ H (.int i) (.str z) _ _ Q I rx ⟨t, rfl⟩ ⟨rfl, by rw [decide_eq_false (fun e => V.noConfusion e)]; exact q⟩
  | str y =>
    refine op_ne pins s σ H (.str y) (.str z) _ _ Q I rx ⟨t, rfl⟩ ⟨rfl, ?_⟩
    have e : decide (V.str y = V.str z) = isS z (.str y) := by
      show _ = decide (y = z)
      rw [Bool.eq_iff_iff]; simp
    rw [e]; exact q
  | lst h1 h2 h3 =>
    obtain rfl : v = Value.ref _ := rx
    obtain ⟨its, rv, ⟨o, n, ho, hc, _, hdd⟩, _⟩ := I.list h1
    exact PySem.SeqAt.RcNeAt.list_str z t ⟨o, ho, hc, n, hdd⟩ hu' X.prog X.w _ _ ⟨.bl _, H, I, rfl, q⟩
  | tup h1 h2 =>
    obtain rfl : v = Value.ref _ := rx
    obtain ⟨its, rv, ⟨o, ho, hc, n, hdd⟩, _⟩ := I.tuple h1
    exact PySem.SeqAt.RcNeAt.tuple_str z t ⟨o, ho, hc, n, hdd⟩ hu' X.prog X.w _ _ ⟨.bl _, H, I, rfl, q⟩
  | @emp a h1 ha =>
    obtain rfl : v = Value.ref _ := rx
    obtain ⟨_, hsys, vs, hkv, od, es, ep, hget, hcl, hdat, hko, hps, _⟩ : ObjOk X.prog X.w H s.heap a (.dK []) := I.hok a _ ha
    obtain ⟨oc, odd, odt, osl⟩ := od
    obtain ⟨hc1, hc2⟩ := hcl
    simp only at hc1 hdat
    subst hc1 hdat
    exact DataQ.rcNe_dict_str z t hget hu' ⟨.bl _, H, I, rfl, q⟩
/-- a list display, which does not lie where the modules lie -/
def tLstS (t : TA) : TE := fun σ H Q => t σ H fun xs H1 => xs.length ≤ sizeLine ∧ ∀ l, H1 l = none → (l == sysModules) = false → Q (.ref l) (upd H1 l (.lst xs))
theorem pe_lstS {es : List Expr} {pos : Pos} {t : TA} (h : PA X es t) : PE X (.List es pos) (tLstS t) := by
  refine ⟨fun pins s σ H Q I hq => ?_⟩
  refine wpAny_List_spliced (thn (h.run pos pins s σ H _ I hq) fun us s1 ⟨xs, H1, I1, r, z, q⟩ => ⟨by rw [← r.length]; exact z, ?_⟩)
  have hf : H1 s1.heap.objs.size = none := I1.hok.fresh (Nat.le_refl _)
  have hb := I1.big
  refine ⟨.ref s1.heap.objs.size, upd H1 s1.heap.objs.size (.lst xs), I1.laid (t' := s1.toks) (fun b u e => Heap.get?_push_of_some _ e) (Nat.le_refl _) ?_, rfl, q _ hf ?_⟩
  · exact ⟨z, us, 0, r, Heap.get?_push_size _ rfl⟩
  · rw [beq_eq_false_iff_ne]
    exact Ne.symm (Nat.ne_of_lt hb)
/-- xs != [] -/
def rNeNil : R2 := fun x y H Q => ∃ p q xs, x = .ref p ∧ y = .ref q ∧ H p = some (.lst xs) ∧ H q = some (.lst []) ∧ Q (.bl (!decide (xs = []))) H
theorem op_ne_nil (hu : X.A.units < cLine) : OpR X (compareOp .NotEq) rNeNil := by
  intro pins s σ H x y v u Q I rx ry h
  obtain ⟨p, q, xs, rfl, rfl, hp, hq, k⟩ := h
  cases (show v = Value.ref p from rx)
  cases (show u = Value.ref q from ry)
  obtain ⟨z1, its, n, r1, hl, e1⟩ := I.lstM hp
  obtain ⟨z2, its2, n2, r2, hl2, e2⟩ := I.lstM hq
  cases r2
  have L2 : s.heap.IsList q (#[] : Array Value) := ⟨_, e2, rfl, _, rfl⟩
  have L1 : s.heap.IsList p its.toArray := ⟨_, e1, rfl, _, rfl⟩
  by_cases e : xs = []
  · subst e
    cases r1
    have := PySem.SeqAt.RcNeAt.lists (e := fun _ => true) L1 L2 rfl hu (fun j h1 _ => absurd h1 (Nat.not_lt_zero j))
    exact this X.prog X.w _ _ ⟨.bl _, H, I, rfl, k⟩
  · rw [decide_eq_false e] at k
    have l := r1.length
    have := List.length_pos_iff.mpr e
    exact PySem.SeqAt.RcNeAt.lists_lengths L1 L2 (by simp only [List.size_toArray, bne_iff_ne, ne_eq]; show ¬ its.length = 0; omega) hu X.prog X.w _ _ ⟨.bl _, H, I, rfl, k⟩
/-- D is a dict of the module that tells numbers for texts -/
def KTab (K : PySem.W.Frag) (w : World) (D : Addr) (f : Str → Option Int) : Prop := (∃ es n, KDict K w D es n) ∧ ∀ z, match f z with | none => PySem.W.nsIn K D z = some none | some i => ∃ t, PySem.W.nsIn K D z = some (some (.int i t))
def rNotInTab (D : Addr) (f : Str → Option Int) : R2 := fun x y H Q => ∃ z, x = .str z ∧ y = .ref D ∧ Q (.bl (f z).isNone) H
theorem op_notIn_tab {D : Addr} {f : Str → Option Int} (T : KTab X.K X.w D f) : OpR X (compareOp .NotIn) (rNotInTab D f) := by
  obtain ⟨⟨es, n, kd⟩, hv⟩ := T
  intro pins s σ H x y v u Q I rx ry h
  obtain ⟨z, rfl, rfl, q⟩ := h
  have e := hv z
  cases hf : f z with
  | none =>
    rw [hf] at e q
    exact op_notIn_kd kd pins s σ H _ _ v u Q I rx ry ⟨z, none, rfl, rfl, e, q⟩
  | some i =>
    rw [hf] at e q
    obtain ⟨t, e⟩ := e
    exact op_notIn_kd kd pins s σ H _ _ v u Q I rx ry ⟨z, _, rfl, rfl, e, q⟩
def rIxTab (D : Addr) (f : Str → Option Int) : R2 := fun x y H Q => ∃ z i, x = .ref D ∧ y = .str z ∧ f z = some i ∧ Q (.int i) H
theorem ix_tab {D : Addr} {f : Str → Option Int} (T : KTab X.K X.w D f) : IxR X (rIxTab D f) := by
  obtain ⟨⟨es, n, kd⟩, hv⟩ := T
  intro value slice pins s σ H x y v u Q I rx ry h hs
  obtain ⟨z, i, rfl, rfl, hf, q⟩ := h
  have e := hv z
  rw [hf] at e
  obtain ⟨t, e⟩ := e
  exact ix_kdict value slice pins s σ H _ _ v u Q I rx ry ⟨D, z, .int i, rfl, rfl, ⟨es, n, _, kd.at_, kd.lit, e, ⟨t, rfl⟩⟩, q⟩ hs
theorem call_list_ofS : CallR X (.type "list") (fun xs H Q => ∃ p ys, xs = [.ref p] ∧ (SqL X.K H p ys ∨ SqT X.K H p ys) ∧ ∀ l, H l = none → (l == sysModules) = false → Q (.ref l) (upd H l (.lst ys))) := by
  intro pins s σ H xs us Q I r h
  obtain ⟨p, ys, rfl, hq, q⟩ := h
  obtain ⟨u, rfl, rx⟩ := vals1 r
  cases rx
  have hb := I.big
  have fin : ∀ (its : List Value), Vals ys its → ys.length ≤ sizeLine → ∀ (h' : Heap) (c' : Nat), (∀ b o', s.heap.get? b = some o' → h'.get? b = some o') →
      h'.get? s.heap.objs.size = some { cls := .type "list", dict := none, data := .seq its.toArray c', slots := #[] } → EP X pins σ Q (.ref s.heap.objs.size) { s with heap := h' } := fun its r' hz h' c' kp e =>
    ⟨.ref s.heap.objs.size, _, I.laid (t' := s.toks) kp (Nat.le_refl _) (show ObjOk X.prog X.w _ h' _ (.lst ys) from ⟨hz, its, c', r', e⟩), rfl, q _ (I.hok.fresh (Nat.le_refl _)) (beq_eq_false_iff_ne.mpr (Ne.symm (Nat.ne_of_lt hb)))⟩
  rcases hq with hq | hq
  · obtain ⟨its, r', pl, hz⟩ := I.list hq
    have hlen := r'.length
    obtain ⟨o, ho, hc, n, hd⟩ := pl.isList
    exact call_list_seq p (.inl rfl) ho hc hd (fun h' c' kp e => fin its r' hz h' c' kp e) (by simp only [List.size_toArray] <;> omega)
  · obtain ⟨its, r', pl, hz⟩ := I.tuple hq
    have hlen := r'.length
    obtain ⟨o, ho, hc, n, hd⟩ := pl
    exact call_list_seq p (.inr rfl) ho hc hd (fun h' c' kp e => fin its r' hz h' c' kp e) (by simp only [List.size_toArray] <;> omega)
theorem ix_tupK {K : PySem.W.Frag} (e : X.K = K) : IxR X (rIxT K) := by rw [← e]; exact ix_tup
theorem op_eqGSK {K : PySem.W.Frag} (e : X.K = K) (hu : X.A.units + 64 < cLine) : OpR X (compareOp .Eq) (rEqGS K) := by subst e; exact op_eqGS hu
theorem op_neGSK {K : PySem.W.Frag} (e : X.K = K) (hu : X.A.units + 64 < cLine) : OpR X (compareOp .NotEq) (rNeGS K) := by subst e; exact op_neGS hu
theorem sl_tupAK {K : PySem.W.Frag} (e : X.K = K) : SlR X (rSlA K) := by subst e; exact sl_tupA
end
theorem tab_keys {P : Params} {z : Str} : ∀ {l : List DictEntry} {ks : List Str}, l.map He.keyOf = He.keysIn P ks → z ∉ ks → l.find? (·.key.isStr z) = none ∧ l.any (·.refKey) = false
  | [], _, _, _ => ⟨rfl, rfl⟩
  | e :: r, [], h, _ => by cases h
  | e :: r, k :: ks, h, n => by
    have h1 : He.keyOf e :: r.map He.keyOf = some (k, PyData.keyHash P k) :: He.keysIn P ks := h
    injection h1 with h2 h3
    obtain ⟨i1, i2⟩ := tab_keys h3 (fun z => n (List.mem_cons_of_mem _ z))
    unfold He.keyOf at h2
    split at h2
    · rename_i x t q
      have h4 := Option.some.inj h2
      obtain ⟨h5, h6⟩ := Prod.mk.inj h4
      have e1 : e.key.isStr z = false := by
        rw [q, h5]
        show (k == z) = false
        exact beq_eq_false_iff_ne.mpr fun e => n (by rw [← e]; exact List.mem_cons_self)
      have e2 : e.refKey = false := by unfold DictEntry.refKey; rw [q]
      exact ⟨by rw [List.find?_cons_of_neg (by rw [e1]; exact Bool.false_ne_true)]; exact i1, by rw [List.any_cons, e2, i2]; rfl⟩
    · cases h2
theorem tab_none {K : PySem.W.Frag} {P : Params} {D : Addr} {ks : List Str} {z : Str} (h : He.dicW K D = some (He.keysIn P ks)) (hz : z ∉ ks) : PySem.W.nsIn K D z = some none := by
  unfold He.dicW at h
  unfold PySem.W.nsIn
  cases q : K.lookup D with
  | none => rw [q] at h; cases h
  | some o =>
    obtain ⟨oc, od, dt, osl⟩ := o
    rw [q] at h
    cases oc with
    | type c =>
      cases od with
      | none =>
        cases dt with
        | dict es n =>
          have h1 : (match decide (c = "dict") && (osl.isEmpty && !(D == sysModules)) with
            | true => some (es.toList.map He.keyOf)
            | false => none) = some (He.keysIn P ks) := h
          split at h1
          · obtain ⟨a, b⟩ := tab_keys (Option.some.inj h1) hz
            show (match es.toList.find? (·.key.isStr z) with
              | some e => some (some e.val)
              | none => if es.toList.any (·.refKey) then none else some none) = some none
            rw [a, b]; rfl
          · cases h1
        | _ => cases h
      | some _ => cases h
    | _ => cases h
end L2

set_option Elab.async false
set_option linter.all false
set_option maxRecDepth 100000
set_option maxHeartbeats 4000000
/-! Data beside the box of draws; displays of data. -/
namespace My
open PySem PySem.Spec PyProof.Rows L2
/-- the heap without p -/
def wo (H : Hp) (p : Addr) : Hp := fun b => if b = p then none else H b
theorem wo_ne {H : Hp} {p b : Addr} (h : b ≠ p) : wo H p b = H b := by unfold wo; rw [if_neg h]
theorem wo_at {H : Hp} {p : Addr} : wo H p p = none := by unfold wo; rw [if_pos rfl]
theorem wo_le {H : Hp} {p b : Addr} {o : HO} (h : wo H p b = some o) : H b = some o := by
  by_cases e : b = p
  · rw [e, wo_at] at h; cases h
  · rw [wo_ne e] at h; exact h
theorem wo_upd {H : Hp} {p : Addr} {o : HO} : wo (upd H p o) p = wo H p := by
  funext b
  by_cases e : b = p
  · rw [e, wo_at, wo_at]
  · rw [wo_ne e, wo_ne e, upd_ne e]
theorem Kp.wo {p : Addr} {H H' : Hp} (k : Kp p H H') : Same (wo H p) (wo H' p) := fun b o e => by
  have n : b ≠ p := fun z => by rw [z, wo_at] at e; cases e
  rw [wo_ne n] at e ⊢
  exact k b o n e
theorem wo_same (H : Hp) (p : Addr) : Same (wo H p) H := fun _ _ e => wo_le e
/-- data, of which p is no part -/
abbrev Dw (K : PySem.W.Frag) (p : Addr) (H : Hp) (m : Bool) (x : V) (d : PyData) : Prop := Dg K (wo H p) m x d
abbrev DwAll (K : PySem.W.Frag) (p : Addr) (H : Hp) (m : Bool) (xs : List V) (ds : List PyData) : Prop := DgAll K (wo H p) m xs ds
theorem _root_.L2.Dg.kp {K : PySem.W.Frag} {p : Addr} {H H' : Hp} {m : Bool} {x : V} {d : PyData} (h : Dw K p H m x d) (k : Kp p H H') : Dw K p H' m x d := h.ext k.wo
theorem _root_.L2.DgAll.kp {K : PySem.W.Frag} {p : Addr} {H H' : Hp} {m : Bool} {x : List V} {d : List PyData} (h : DwAll K p H m x d) (k : Kp p H H') : DwAll K p H' m x d := h.ext k.wo
theorem _root_.L2.Dg.dg {K : PySem.W.Frag} {p : Addr} {H : Hp} {m : Bool} {x : V} {d : PyData} (h : Dw K p H m x d) : Dg K H m x d := h.ext (wo_same H p)
theorem _root_.L2.DgAll.dg {K : PySem.W.Frag} {p : Addr} {H : Hp} {m : Bool} {x : List V} {d : List PyData} (h : DwAll K p H m x d) : DgAll K H m x d := h.ext (wo_same H p)
theorem wo_new {H : Hp} {p q : Addr} {o : HO} (h : q ≠ p) : wo (upd H q o) p = upd (wo H p) q o := by
  funext b
  by_cases e : b = p
  · rw [e, wo_at, upd_ne (Ne.symm h), wo_at]
  · rw [wo_ne e]
    by_cases e2 : b = q
    · rw [e2, upd_same, upd_same]
    · rw [upd_ne e2, upd_ne e2, wo_ne e]
/-- a part of the heap that keeps what stands beside p, and all new things -/
structure Res (p : Addr) (H : Hp) (w : Hp → Hp) : Prop where
  sub : ∀ G, Same (w G) G
  kp : ∀ {G G' : Hp}, Kp p G G' → Same (w G) (w G')
  new : ∀ {G : Hp} {r : Addr} {o : HO}, Kp p H G → G p ≠ none → G r = none → w (L2.upd G r o) r = some o
theorem Res.mono {p : Addr} {H H' : Hp} {w : Hp → Hp} (R : Res p H w) (k : Kp p H H') : Res p H' w := ⟨R.sub, R.kp, fun k' n hr => R.new (k.trans k') n hr⟩
theorem res_p {p : Addr} {H : Hp} : Res p H (fun G => wo G p) := ⟨fun G => wo_same G p, fun k => k.wo, fun {G r o} _ n hr => by
  have nr : r ≠ p := fun z => n (by rw [← z]; exact hr)
  show wo (L2.upd G r o) p r = some o
  rw [wo_ne nr]; exact upd_same⟩
theorem res_two {p D : Addr} {H : Hp} {ob : HO} (hD : H D = some ob) (n : D ≠ p) : Res p H (fun G => wo (wo G p) D) := ⟨fun G => fun b o e => wo_le (wo_le e), fun {G G'} k => fun b o e => by
  have n : b ≠ D := fun z => by rw [z, wo_at] at e; cases e
  rw [wo_ne n] at e ⊢
  exact k.wo b o e, fun {G r o} k np hr => by
  have nr : r ≠ p := fun z => np (by rw [← z]; exact hr)
  have nD : r ≠ D := fun z => by rw [z, k D ob n hD] at hr; cases hr
  show wo (wo (L2.upd G r o) p) D r = some o
  rw [wo_ne nD, wo_ne nr]; exact upd_same⟩
theorem _root_.L2.Dg.rk {K : PySem.W.Frag} {p : Addr} {H H' H0 : Hp} {w : Hp → Hp} {m : Bool} {x : V} {d : PyData} (h : Dg K (w H) m x d) (R : Res p H0 w) (k : Kp p H H') : Dg K (w H') m x d := h.ext (R.kp k)
theorem _root_.L2.DgAll.rk {K : PySem.W.Frag} {p : Addr} {H H' H0 : Hp} {w : Hp → Hp} {m : Bool} {x : List V} {d : List PyData} (h : DgAll K (w H) m x d) (R : Res p H0 w) (k : Kp p H H') : DgAll K (w H') m x d := h.ext (R.kp k)
/-! ### displays -/
section
variable {K : PySem.W.Frag} {m : Bool} {p : Addr} {σ : L2.St} {H : Hp} {w : Hp → Hp}
/-- an expression gives the data d, and what stood stands -/
def EvD (K : PySem.W.Frag) (m : Bool) (p : Addr) (w : Hp → Hp) (te : TE) (σ : L2.St) (H : Hp) (d : PyData) : Prop :=
  ∀ H1, Kp p H H1 → H1 p ≠ none → ∀ Q : VK, (∀ x H', Same H1 H' → Dg K (w H') m x d → Q x H') → te σ H1 Q
def EvDs (K : PySem.W.Frag) (m : Bool) (p : Addr) (w : Hp → Hp) (ta : TA) (σ : L2.St) (H : Hp) (ds : List PyData) : Prop :=
  ∀ H1, Kp p H H1 → H1 p ≠ none → ∀ Q : List V → Hp → Prop, (∀ xs H', Same H1 H' → DgAll K (w H') m xs ds → Q xs H') → ta σ H1 Q
def EvI (p : Addr) (te : TE) (σ : L2.St) (H : Hp) (i : Int) : Prop :=
  ∀ H1, Kp p H H1 → H1 p ≠ none → ∀ Q : VK, (∀ H', Same H1 H' → Q (.int i) H') → te σ H1 Q
theorem same_at {H H' : Hp} {p : Addr} (s : Same H H') (h : H p ≠ none) : H' p ≠ none := fun z => by
  cases e : H p with
  | none => exact h e
  | some o => rw [s _ _ e] at z; cases z
theorem evD_c {x : V} {d : PyData} (h : ∀ G, Dg K G m x d) : EvD K m p w (tC x) σ H d := fun H1 _ _ Q q => q x H1 (Same.refl _) (h _)
theorem evD_int (i : Int) : EvD K m p w (tC (.int i)) σ H (.int i) := evD_c fun _ => .int i
theorem evD_str (z : Str) : EvD K m p w (tC (.str z)) σ H (.str z) := evD_c fun _ => .str z
theorem evD_bl (b : Bool) : EvD K m p w (tC (.bl b)) σ H (.bool b) := evD_c fun _ => .bl b
theorem evD_non : EvD K m p w (tC .non) σ H .none := evD_c fun _ => .non
theorem evD_var (R : Res p H w) {i : Nat} {x : V} {d : PyData} (e : σ[i]? = some (some x)) (h : Dg K (w H) m x d) : EvD K m p w (tVar i) σ H d :=
  fun H1 k _ Q q => ⟨x, e, q x H1 (Same.refl _) (h.rk R k)⟩
theorem evI_var {i : Nat} {j : Int} (e : σ[i]? = some (some (.int j))) : EvI p (tVar i) σ H j := fun H1 _ _ Q q => ⟨_, e, q H1 (Same.refl _)⟩
theorem evI_c (j : Int) : EvI p (tC (.int j)) σ H j := fun H1 _ _ Q q => q H1 (Same.refl _)
theorem evD_I {te : TE} {j : Int} (h : EvI p te σ H j) : EvD K m p w te σ H (.int j) := fun H1 k n Q q => h H1 k n Q fun H' s => q _ _ s (.int j)
theorem evI_op {ta tb : TE} {i j : Int} {g : Int → Int → Int} (ha : EvI p ta σ H i) (hb : EvI p tb σ H j) : EvI p (tOp (rI0 fun i j => .int (g i j)) ta tb) σ H (g i j) :=
  fun H1 k n Q q => ha H1 k n _ fun H2 s2 => hb H2 (k.trans (Kp.of s2)) (same_at s2 n) _ fun H3 s3 => ⟨_, _, rfl, rfl, q _ (s2.trans s3)⟩
theorem evI_opC {ta tb : TE} {i j : Int} {C : Int → Int → Prop} {g : Int → Int → Int} (ha : EvI p ta σ H i) (hb : EvI p tb σ H j) (c : C i j) : EvI p (tOp (rI C fun i j => .int (g i j)) ta tb) σ H (g i j) :=
  fun H1 k n Q q => ha H1 k n _ fun H2 s2 => hb H2 (k.trans (Kp.of s2)) (same_at s2 n) _ fun H3 s3 => ⟨_, _, rfl, rfl, c, q _ (s2.trans s3)⟩
theorem evDs_nil : EvDs K m p w tNil σ H [] := fun H1 _ _ Q q => q [] H1 (Same.refl _) .nil
theorem evDs_cons (R : Res p H w) {te : TE} {ta : TA} {d : PyData} {ds : List PyData} (h : EvD K m p w te σ H d) (t : EvDs K m p w ta σ H ds) : EvDs K m p w (tCons te ta) σ H (d :: ds) :=
  fun H1 k n Q q => h H1 k n _ fun x H2 s2 dx => t H2 (k.trans (Kp.of s2)) (same_at s2 n) _ fun xs H3 s3 dxs => q _ _ (s2.trans s3) (.cons (dx.rk R (Kp.of s3)) dxs)
theorem evD_tup (R : Res p H w) {ta : TA} {ds : List PyData} (h : EvDs K m p w ta σ H ds) (l : ds.length ≤ 1000) : EvD K m p w (tTup ta) σ H (.tuple ds) :=
  fun H1 k n Q q => h H1 k n _ fun xs H2 s2 dxs => ⟨by rw [dxs.len]; exact Nat.le_trans l (by decide), fun r hr => by
    have nr : r ≠ p := fun z => same_at s2 n (by rw [← z]; exact hr)
    have s3 : Same H2 (upd H2 r (.tup xs)) := Same.new (Same.refl _) hr
    exact q _ _ (s2.trans s3) (.tup (SqT.of (R.new (k.trans (Kp.of s2)) (same_at s2 n) hr)) (dxs.rk R (Kp.of s3)))⟩
theorem evD_lst (R : Res p H w) {ta : TA} {ds : List PyData} (h : EvDs K false p w ta σ H ds) (l : ds.length ≤ 1000) : EvD K false p w (tLst ta) σ H (.list ds) :=
  fun H1 k n Q q => h H1 k n _ fun xs H2 s2 dxs => ⟨by rw [dxs.len]; exact Nat.le_trans l (by decide), fun r hr => by
    have nr : r ≠ p := fun z => same_at s2 n (by rw [← z]; exact hr)
    have s3 : Same H2 (upd H2 r (.lst xs)) := Same.new (Same.refl _) hr
    exact q _ _ (s2.trans s3) (.lst (SqL.of (R.new (k.trans (Kp.of s2)) (same_at s2 n) hr)) (fun z => by cases z) (dxs.rk R (Kp.of s3)))⟩
theorem evD_lstS (R : Res p H w) {ta : TA} {ds : List PyData} (h : EvDs K m p w ta σ H ds) (l : ds.length ≤ 1000) : EvD K m p w (tLstS ta) σ H (.list ds) :=
  fun H1 k n Q q => h H1 k n _ fun xs H2 s2 dxs => ⟨by rw [dxs.len]; exact Nat.le_trans l (by decide), fun r hr hl => by
    have nr : r ≠ p := fun z => same_at s2 n (by rw [← z]; exact hr)
    have s3 : Same H2 (upd H2 r (.lst xs)) := Same.new (Same.refl _) hr
    exact q _ _ (s2.trans s3) (.lst (SqL.of (R.new (k.trans (Kp.of s2)) (same_at s2 n) hr)) (fun _ => hl) (dxs.rk R (Kp.of s3)))⟩
theorem evD_emp (R : Res p H w) : EvD K true p w tDNewK σ H (.dict []) := fun H1 k n Q q r hr => by
  have nr : r ≠ p := fun z => n (by rw [← z]; exact hr)
  exact q _ _ (Same.new (Same.refl _) hr) (.emp rfl (R.new k n hr))
/-- a display that is assigned, or handed back -/
theorem EvD.here {te : TE} {d : PyData} (h : EvD K m p w te σ H d) (n : H p ≠ none) {Q : VK} (q : ∀ x H', Same H H' → Dg K (w H') m x d → Q x H') : te σ H Q := h H (Kp.refl p H) n Q q
end
theorem BoxAt.some {H : Hp} {p : Addr} {n : Nat} (h : BoxAt H p n) : H p ≠ none := by
  obtain ⟨o, e, _⟩ := h
  rw [e]; exact fun z => by cases z
section
variable {K : PySem.W.Frag} {p : Addr} {σ : L2.St} {H : Hp} {w : Hp → Hp}
theorem evD_listOf (R : Res p H w) {te : TE} {ds : List PyData} (h : EvD K true p w te σ H (.tuple ds)) :
    EvD K true p w (tCB (fun xs H Q => ∃ p ys, xs = [.ref p] ∧ (SqL K H p ys ∨ SqT K H p ys) ∧ ∀ l, H l = none → (l == sysModules) = false → Q (.ref l) (L2.upd H l (.lst ys))) (tCons te tNil)) σ H (.list ds) := fun H1 k n Q q => h H1 k n _ fun x H2 s2 dx => by
  obtain ⟨a, xs, rfl, hs, ha⟩ := dx.tup_of
  have hs' : SqT K H2 a xs := hs.ext (R.sub H2)
  refine ⟨a, xs, rfl, .inr hs', fun l hl low => ?_⟩
  have nl : l ≠ p := fun z => same_at s2 n (by rw [← z]; exact hl)
  have s3 : Same H2 (L2.upd H2 l (.lst xs)) := Same.new (Same.refl _) hl
  exact q _ _ (s2.trans s3) (.lst (SqL.of (R.new (k.trans (Kp.of s2)) (same_at s2 n) hl)) (fun _ => low) (ha.rk R (Kp.of s3)))
theorem evD_catA (R : Res p H w) {m : Bool} {ta tb : TE} {ds es : List PyData} (ha : EvD K m p w ta σ H (.tuple ds)) (hb : EvD K m p w tb σ H (.tuple es)) (l : ds.length + es.length ≤ 10000) : EvD K m p w (tOp (rCatA K) ta tb) σ H (.tuple (ds ++ es)) :=
  fun H1 k n Q q => ha H1 k n _ fun x H2 s2 dx => hb H2 (k.trans (Kp.of s2)) (same_at s2 n) _ fun y H3 s3 dy => by
    have dx := dx.rk R (Kp.of s3)
    obtain ⟨a, xs, rfl, hs, hx⟩ := dx.tup_of
    obtain ⟨b, ys, rfl, ht, hy⟩ := dy.tup_of
    have lx := hx.len
    have ly := hy.len
    refine ⟨a, b, xs, ys, rfl, rfl, hs.ext (R.sub H3), ht.ext (R.sub H3), by rw [lx, ly]; exact Nat.le_trans l (by decide), fun e => ?_, fun _ e => ?_, fun _ _ r hr => ?_⟩
    · subst e
      have : ds = [] := List.length_eq_zero_iff.mp (by rw [← lx]; rfl)
      subst this
      exact q _ _ (s2.trans s3) dy
    · subst e
      have : es = [] := List.length_eq_zero_iff.mp (by rw [← ly]; rfl)
      subst this
      exact q _ _ (s2.trans s3) (by rw [List.append_nil]; exact dx)
    · have nr : r ≠ p := fun z => same_at (s2.trans s3) n (by rw [← z]; exact hr)
      have s4 : Same H3 (L2.upd H3 r (.tup (xs ++ ys))) := Same.new (Same.refl _) hr
      exact q _ _ ((s2.trans s3).trans s4) (.tup (SqT.of (R.new ((k.trans (Kp.of s2)).trans (Kp.of s3)) (same_at (s2.trans s3) n) hr)) ((hx.append hy).rk R (Kp.of s4)))
/-- te[:k], k written -/
theorem evD_head (R : Res p H w) {m : Bool} {te : TE} {ds : List PyData} (h : EvD K m p w te σ H (.tuple ds)) (k : Nat) : EvD K m p w (tSl (rSlA K) te tNoPart (tPart (tC (.int (k : Int))))) σ H (.tuple (ds.take k)) :=
  fun H1 kp n Q q => h H1 kp n _ fun x H2 s2 dx => by
    obtain ⟨a, xs, rfl, hs, hx⟩ := dx.tup_of
    have lx := hx.len
    refine ⟨_, rfl, a, xs, rfl, hs.ext (R.sub H2), fun e => ?_, fun _ r hr => ?_⟩
    · have e2 : HT.sIx xs.length xs.length (some (k : Int)) = xs.length := e.2
      rw [sIx_some] at e2
      exact q _ _ s2 (by rw [List.take_of_length_le (by omega)]; exact dx)
    · have nr : r ≠ p := fun z => same_at s2 n (by rw [← z]; exact hr)
      have s4 : Same H2 (L2.upd H2 r (.tup (cutV xs none (some (k : Int))))) := Same.new (Same.refl _) hr
      refine q _ _ (s2.trans s4) (.tup (SqT.of (R.new (kp.trans (Kp.of s2)) (same_at s2 n) hr)) ?_)
      rw [cutV_to]
      rw [cutV_to] at s4
      exact (hx.take k).rk R (Kp.of s4)
theorem evD_strI {m : Bool} {te : TE} {i : Int} (h : EvI p te σ H i) (l : i.natAbs.log2 < 1920) : EvD K m p w (tCB (fun xs H Q => ∃ i, xs = [.int i] ∧ i.natAbs.log2 < 1920 ∧ Q (.str (toString i)) H) (tCons te tNil)) σ H (.str (toString i)) :=
  fun H1 k n Q q => h H1 k n _ fun H2 s2 => ⟨i, rfl, l, q _ _ s2 (.str _)⟩
theorem evI_int1 {te : TE} {i : Int} (h : EvI p te σ H i) : EvI p (tCB (fun xs H Q => (∃ i, xs = [.int i] ∧ Q (.int i) H) ∨ ∃ k, xs = [.bl k] ∧ Q (.int (if k then 1 else 0)) H) (tCons te tNil)) σ H i :=
  fun H1 k n Q q => h H1 k n _ fun H2 s2 => .inl ⟨i, rfl, q _ s2⟩
/-- a list display of data, so that its items can be drawn -/
theorem menu_here (R : Res p H w) {P : PyData → Prop} {ta : TA} {Q : VK} {ds : List PyData} (n : H p ≠ none) (hd : Res p H w → EvDs K true p w ta σ H ds) (hp : ∀ d ∈ ds, P d) (h0 : 0 < ds.length) (h4 : ds.length ≤ 40)
    (q : ∀ M H' xs, Same H H' → H M = none → M ≠ p → H' M = some (.lst xs) → (M == sysModules) = false → DgAll K (w H') true xs ds → (∀ d ∈ ds, P d) → 0 < ds.length → ds.length ≤ 40 → Q (.ref M) H') : tLstS ta σ H Q := by
  refine hd R H (Kp.refl p H) n _ fun xs H2 s2 dxs => ⟨by rw [dxs.len]; exact Nat.le_trans h4 (by decide), fun r hr low => ?_⟩
  have nr : r ≠ p := fun z => same_at s2 n (by rw [← z]; exact hr)
  have s3 : Same H2 (L2.upd H2 r (.lst xs)) := Same.new (Same.refl _) hr
  exact q r _ xs (s2.trans s3) (s2.free hr) nr upd_same low (dxs.rk R (Kp.of s3)) hp h0 h4
end
theorem cutV_fr (xs : List V) (n : Nat) : cutV xs (some (n : Int)) none = xs.drop n := by
  unfold cutV
  rw [HT.sIx_none, sIx_some]
  rcases Nat.le_total n xs.length with h | h
  · rw [Nat.min_eq_left h, List.take_of_length_le (by rw [List.length_drop]; exact Nat.le_refl _)]
  · rw [Nat.min_eq_right h, List.drop_of_length_le h, List.drop_of_length_le (Nat.le_refl _), List.take_nil]
section
variable {K : PySem.W.Frag} {p : Addr} {H : Hp} {m : Bool} {x : V} {ds : List PyData} {Q : VK}
theorem sl_take (n : H p ≠ none) (dx : Dw K p H m x (.tuple ds)) (k : Nat) (q : ∀ y H', Same H H' → Dw K p H' m y (.tuple (ds.take k)) → Q y H') : rSlA K x none (some (k : Int)) H Q := by
  obtain ⟨a, xs, rfl, hs, hx⟩ := dx.tup_of
  have lx := hx.len
  refine ⟨a, xs, rfl, hs.ext (wo_same H p), fun e => ?_, fun _ r hr => ?_⟩
  · have e2 : HT.sIx xs.length xs.length (some (k : Int)) = xs.length := e.2
    rw [sIx_some] at e2
    exact q _ _ (Same.refl _) (by rw [List.take_of_length_le (by omega)]; exact dx)
  · have nr : r ≠ p := fun z => n (by rw [← z]; exact hr)
    rw [cutV_to]
    have s4 : Same H (L2.upd H r (.tup (xs.take k))) := Same.new (Same.refl _) hr
    exact q _ _ s4 (.tup (SqT.of (by rw [wo_ne nr]; exact upd_same)) ((hx.take k).kp (Kp.of s4)))
theorem sl_drop (n : H p ≠ none) (dx : Dw K p H m x (.tuple ds)) (k : Nat) (q : ∀ y H', Same H H' → Dw K p H' m y (.tuple (ds.drop k)) → Q y H') : rSlA K x (some (k : Int)) none H Q := by
  obtain ⟨a, xs, rfl, hs, hx⟩ := dx.tup_of
  have lx := hx.len
  refine ⟨a, xs, rfl, hs.ext (wo_same H p), fun e => ?_, fun _ r hr => ?_⟩
  · have e2 : HT.sIx xs.length 0 (some (k : Int)) = 0 := e.1
    rw [sIx_some] at e2
    have : ds.drop k = ds := by
      rcases Nat.eq_zero_or_pos k with z | z
      · rw [z, List.drop_zero]
      · have : ds = [] := List.length_eq_zero_iff.mp (by omega)
        rw [this]; simp
    exact q _ _ (Same.refl _) (by rw [this]; exact dx)
  · have nr : r ≠ p := fun z => n (by rw [← z]; exact hr)
    rw [cutV_fr]
    have s4 : Same H (L2.upd H r (.tup (xs.drop k))) := Same.new (Same.refl _) hr
    exact q _ _ s4 (.tup (SqT.of (by rw [wo_ne nr]; exact upd_same)) ((hx.drop k).kp (Kp.of s4)))
theorem cat_tup {y : V} {es : List PyData} (n : H p ≠ none) (dx : Dw K p H m x (.tuple ds)) (dy : Dw K p H m y (.tuple es)) (l : ds.length + es.length ≤ 10000) (q : ∀ z H', Same H H' → Dw K p H' m z (.tuple (ds ++ es)) → Q z H') : rCatA K x y H Q := by
  obtain ⟨a, xs, rfl, hs, hx⟩ := dx.tup_of
  obtain ⟨b, ys, rfl, ht, hy⟩ := dy.tup_of
  have lx := hx.len
  have ly := hy.len
  refine ⟨a, b, xs, ys, rfl, rfl, hs.ext (wo_same H p), ht.ext (wo_same H p), by rw [lx, ly]; exact Nat.le_trans l (by decide), fun e => ?_, fun _ e => ?_, fun _ _ r hr => ?_⟩
  · subst e
    have : ds = [] := List.length_eq_zero_iff.mp (by rw [← lx]; rfl)
    subst this
    exact q _ _ (Same.refl _) dy
  · subst e
    have : es = [] := List.length_eq_zero_iff.mp (by rw [← ly]; rfl)
    subst this
    exact q _ _ (Same.refl _) (by rw [List.append_nil]; exact dx)
  · have nr : r ≠ p := fun z => n (by rw [← z]; exact hr)
    have s4 : Same H (L2.upd H r (.tup (xs ++ ys))) := Same.new (Same.refl _) hr
    exact q _ _ s4 (.tup (SqT.of (by rw [wo_ne nr]; exact upd_same)) ((hx.append hy).kp (Kp.of s4)))
/-- a new tuple of one -/
theorem one_tup {d : PyData} (n : H p ≠ none) (dx : Dw K p H m x d) : ∀ r, H r = none → Same H (L2.upd H r (.tup [x])) ∧ Dw K p (L2.upd H r (.tup [x])) m (.ref r) (.tuple [d]) := fun r hr => by
  have nr : r ≠ p := fun z => n (by rw [← z]; exact hr)
  have s4 : Same H (L2.upd H r (.tup [x])) := Same.new (Same.refl _) hr
  exact ⟨s4, .tup (SqT.of (by rw [wo_ne nr]; exact upd_same)) (.cons (dx.kp (Kp.of s4)) .nil)⟩
end
/-- an item of a list of data -/
theorem _root_.L2.DgAll.nth {K : PySem.W.Frag} {H : Hp} {m : Bool} {xs : List V} {ds : List PyData} (h : DgAll K H m xs ds) {i : Nat} (l : i < ds.length) : ∃ x d, xs[i]? = some x ∧ ds[i]? = some d ∧ Dg K H m x d := by
  have l' : i < xs.length := by rw [h.len]; exact l
  obtain ⟨d, e, g⟩ := h.at i xs[i] (List.getElem?_eq_getElem l')
  exact ⟨_, d, List.getElem?_eq_getElem l', e, g⟩
/-! ### small data -/
def wid (k : Nat) : Nat := 100 * 6 ^ k
def Lv (k : Nat) (d : PyData) : Prop := Fit d k (wid k)
theorem lv_up {k : Nat} {d : PyData} (h : Lv k d) : Lv (k + 1) d := Fit.mono h (Nat.le_succ _) (by unfold wid; rw [Nat.pow_succ]; omega)
theorem FitAll.all {k w : Nat} : ∀ {ds : List PyData}, (∀ d ∈ ds, Fit d k w) → FitAll ds k ((w + 1) * ds.length)
  | [], _ => FitAll.nil
  | d :: ds, h => (FitAll.cons (h d List.mem_cons_self) (FitAll.all fun e he => h e (List.mem_cons_of_mem _ he))).mono (Nat.le_refl _) (by rw [List.length_cons, Nat.mul_succ]; omega)
theorem lv_len {k n : Nat} (h : n ≤ 5) : (wid k + 1) * n ≤ wid (k + 1) := by
  have e : wid (k + 1) = 6 * wid k := by unfold wid; rw [Nat.pow_succ]; omega
  have p : 100 ≤ wid k := by unfold wid; exact Nat.le_mul_of_pos_right 100 (Nat.pow_pos (by decide))
  rw [e]
  have := Nat.mul_le_mul_left (wid k + 1) h
  omega
theorem lv_tup {k : Nat} {ds : List PyData} (h : ∀ d ∈ ds, Lv k d) (l : ds.length ≤ 5) : Lv (k + 1) (.tuple ds) := Fit.mono (Fit.tuple (FitAll.all h)) (Nat.le_refl _) (lv_len l)
theorem lv_lst {k : Nat} {ds : List PyData} (h : ∀ d ∈ ds, Lv k d) (l : ds.length ≤ 5) : Lv (k + 1) (.list ds) := Fit.mono (Fit.list (FitAll.all h)) (Nat.le_refl _) (lv_len l)
theorem lv0 {d : PyData} (k : Nat) (h : Lv 0 d) : Lv k d := by
  induction k with
  | zero => exact h
  | succ k ih => exact lv_up ih
theorem lv_non {k : Nat} : Lv k .none := lv0 k (Fit.none.mono (Nat.le_refl _) (Nat.zero_le _))
theorem lv_bl {k : Nat} {b : Bool} : Lv k (.bool b) := lv0 k (Fit.bool.mono (Nat.le_refl _) (Nat.zero_le _))
theorem fit_int {i : Int} {k : Nat} (h : i.natAbs < 10 ^ 30) : Fit (.int i) k 100 := by
  have lg : i.natAbs.log2 < 100 := PySem.Flt.log2_lt_of (by decide) (Nat.lt_of_lt_of_le h (by decide))
  refine ⟨?_, ?_, ?_, ?_⟩
  · simp only [PyData.showable, decide_eq_true_eq]
    exact Nat.lt_trans lg (by decide)
  · unfold PyData.depth; omega
  · have e := int_text_length_le10 (a := i) (k := 30) (by decide) h
    have e2 : (PyData.int i).shown = Str.ofString (toString i) := by simp only [PyData.shown]
    unfold PyData.leavesShort
    refine decide_eq_true ?_
    rw [e2, PySem.ofString_length]
    omega
  · simp only [PyData.weight]
    split <;> omega
theorem lv_int {k : Nat} {i : Int} (h : i.natAbs < 10 ^ 30) : Lv k (.int i) := lv0 k (fit_int h)
theorem lv_str {k : Nat} {z : List Nat} (h : z.length ≤ 100) (hc : ∀ c ∈ z, c < 200) : Lv k (.str (S z)) := lv0 k (Fit.str h hc)
theorem lv_emp {k : Nat} : Lv (k + 1) (.dict []) := Fit.mono (Fit.dict (k := k) FitKv.nil) (Nat.le_refl _) (Nat.zero_le _)
theorem all_nil {P : PyData → Prop} : ∀ d ∈ ([] : List PyData), P d := fun d h => by cases h
theorem all_cons {P : PyData → Prop} {e : PyData} {es : List PyData} (h : P e) (t : ∀ d ∈ es, P d) : ∀ d ∈ e :: es, P d := fun d hd => by
  rcases List.mem_cons.mp hd with q | q
  · rw [q]; exact h
  · exact t d q
theorem all_app {P : PyData → Prop} {a b : List PyData} (h : ∀ d ∈ a, P d) (g : ∀ d ∈ b, P d) : ∀ d ∈ a.append b, P d := fun d hd => (List.mem_append.mp hd).elim (h d) (g d)
theorem Lv.sh {k : Nat} {d : PyData} (h : Lv k d) (hk : k ≤ 3) : Sh d := by
  have : k = 0 ∨ k = 1 ∨ k = 2 ∨ k = 3 := by omega
  rcases this with rfl | rfl | rfl | rfl
  · exact Fit.sh h (by omega) (by decide)
  · exact Fit.sh h (by omega) (by decide)
  · exact Fit.sh h (by omega) (by decide)
  · exact Fit.sh h (by omega) (by decide)
theorem lv_any {k : Nat} {z : Str} (h : (cs z).length ≤ 100) (hc : (cs z).all (fun c => decide (c < 200)) = true) : Lv k (.str z) := by
  rw [← S_of z]
  exact lv_str h fun c hm => of_decide_eq_true (List.all_eq_true.mp hc c hm)
theorem lv_digit {k a : Nat} (h : a < 5) : Lv k (.str (Str.ofString (toString (a : Int)))) := by
  match a, h with
  | 0, _ => exact lv_any (by decide +kernel) (by decide +kernel)
  | 1, _ => exact lv_any (by decide +kernel) (by decide +kernel)
  | 2, _ => exact lv_any (by decide +kernel) (by decide +kernel)
  | 3, _ => exact lv_any (by decide +kernel) (by decide +kernel)
  | 4, _ => exact lv_any (by decide +kernel) (by decide +kernel)
end My

set_option Elab.async false
set_option linter.all false
set_option maxRecDepth 100000
set_option maxHeartbeats 4000000
/-! Comprehensions of two clauses over ranges; lists of new data that grow. -/
namespace L2
open PySem PySem.Spec PyProof.Rows
theorem lc2_range {lo : Int} {n : Nat} {g g1 : TG} {tt tt1 : TT} {te : TE} {wi1 : TI} {vs vs1 : List Nat} {σ : St} {H1 : Hp} {D : Addr} {Qd : Hp → Prop} (Pv : Nat → Hp → Prop) (h0 : Pv 0 (upd H1 D (.lst [])))
    (hs : ∀ i H, i < n → Pv i H → g (.int (lo + i)) (wipe σ vs) H fun σ2 H2 => wipe σ2 vs = wipe σ vs ∧ tt σ2 H2 fun b H3 =>
      if b = true then wi1 σ2 H3 fun J1 H4 => ∃ W1 : Nat → Nat → Hp → Prop, (∃ m, W1 0 m H4) ∧ ∀ j k H, W1 j k H →
        (J1.stop j H ∧ Pv (i + 1) H) ∨ (J1.go j H ∧ ∃ Nx1 : Hp → Prop, (∀ H', Nx1 H' → ∃ k', k' < k ∧ W1 (j + 1) k' H') ∧ ∀ x H', J1.yld j H x H' → g1 x (wipe σ2 vs1) H' fun σ3 H5 => wipe σ3 vs1 = wipe σ2 vs1 ∧ tt1 σ3 H5 fun b H6 =>
          if b = true then te σ3 H6 fun y H7 => ∃ acc, H7 D = some (.lst acc) ∧ acc.length < sizeLine ∧ Nx1 (upd H7 D (.lst (acc ++ [y]))) else Nx1 H6)
      else Pv (i + 1) H3) (hd : ∀ H, Pv n H → Qd H) :
    ∃ W : Nat → Nat → Hp → Prop, (∃ m, W 0 m (upd H1 D (.lst []))) ∧ ∀ i m H, W i m H →
      ((Itr lo n).stop i H ∧ Qd H) ∨ ((Itr lo n).go i H ∧ ∃ Nx : Hp → Prop, (∀ H', Nx H' → ∃ m', m' < m ∧ W (i + 1) m' H') ∧ ∀ x H', (Itr lo n).yld i H x H' → g x (wipe σ vs) H' fun σ2 H2 => wipe σ2 vs = wipe σ vs ∧ tt σ2 H2 fun b H3 =>
        if b = true then wi1 σ2 H3 fun J1 H4 => ∃ W1 : Nat → Nat → Hp → Prop, (∃ m, W1 0 m H4) ∧ ∀ j k H, W1 j k H →
          (J1.stop j H ∧ Nx H) ∨ (J1.go j H ∧ ∃ Nx1 : Hp → Prop, (∀ H', Nx1 H' → ∃ k', k' < k ∧ W1 (j + 1) k' H') ∧ ∀ x H', J1.yld j H x H' → g1 x (wipe σ2 vs1) H' fun σ3 H5 => wipe σ3 vs1 = wipe σ2 vs1 ∧ tt1 σ3 H5 fun b H6 =>
            if b = true then te σ3 H6 fun y H7 => ∃ acc, H7 D = some (.lst acc) ∧ acc.length < sizeLine ∧ Nx1 (upd H7 D (.lst (acc ++ [y]))) else Nx1 H6)
        else Nx H3) := by
  refine ⟨fun i m H => m = n - i ∧ i ≤ n ∧ Pv i H, ⟨n, by simp, Nat.zero_le _, h0⟩, ?_⟩
  rintro i m H ⟨rfl, hi, p⟩
  by_cases hlt : i < n
  · refine .inr ⟨hlt, Pv (i + 1), fun H' p' => ⟨n - (i + 1), by omega, rfl, hlt, p'⟩, fun x H' y => ?_⟩
    obtain ⟨e, y⟩ := y
    subst e y
    exact hs i _ hlt p
  · have e : i = n := by omega
    subst e
    exact .inl ⟨Nat.le_refl _, hd H p⟩
theorem lcr_inner {lo : Int} {n : Nat} {g : TG} {tt : TT} {te : TE} {vs : List Nat} {σ : St} {H4 : Hp} {D : Addr} {Qd : Hp → Prop} (Pv : Nat → Hp → Prop) (h0 : Pv 0 H4)
    (hs : ∀ i H, i < n → Pv i H → g (.int (lo + i)) (wipe σ vs) H fun σ2 H2 => wipe σ2 vs = wipe σ vs ∧ tt σ2 H2 fun b H3 =>
      if b = true then te σ2 H3 fun y H4 => ∃ acc, H4 D = some (.lst acc) ∧ acc.length < sizeLine ∧ Pv (i + 1) (upd H4 D (.lst (acc ++ [y]))) else Pv (i + 1) H3) (hd : ∀ H, Pv n H → Qd H) :
    ∃ W : Nat → Nat → Hp → Prop, (∃ m, W 0 m H4) ∧ ∀ i m H, W i m H →
      ((Itr lo n).stop i H ∧ Qd H) ∨ ((Itr lo n).go i H ∧ ∃ Nx : Hp → Prop, (∀ H', Nx H' → ∃ m', m' < m ∧ W (i + 1) m' H') ∧ ∀ x H', (Itr lo n).yld i H x H' → g x (wipe σ vs) H' fun σ2 H2 => wipe σ2 vs = wipe σ vs ∧ tt σ2 H2 fun b H3 =>
        if b = true then te σ2 H3 fun y H4 => ∃ acc, H4 D = some (.lst acc) ∧ acc.length < sizeLine ∧ Nx (upd H4 D (.lst (acc ++ [y]))) else Nx H3) := by
  refine ⟨fun i m H => m = n - i ∧ i ≤ n ∧ Pv i H, ⟨n, by simp, Nat.zero_le _, h0⟩, ?_⟩
  rintro i m H ⟨rfl, hi, p⟩
  by_cases hlt : i < n
  · refine .inr ⟨hlt, Pv (i + 1), fun H' p' => ⟨n - (i + 1), by omega, rfl, hlt, p'⟩, fun x H' y => ?_⟩
    obtain ⟨e, y⟩ := y
    subst e y
    exact hs i _ hlt p
  · have e : i = n := by omega
    subst e
    exact .inl ⟨Nat.le_refl _, hd H p⟩
end L2
namespace My
open PySem PySem.Spec PyProof.Rows L2
/-- the list at D, new since H1, holds the data ds, of which it is no part -/
def Ac (K : PySem.W.Frag) (H1 : Hp) (D : Addr) (ds : List PyData) (H : Hp) : Prop := Same H1 H ∧ ∃ acc, H D = some (.lst acc) ∧ DwAll K D H true acc ds
theorem Ac.start {K : PySem.W.Frag} {H1 : Hp} {D : Addr} (hD : H1 D = none) : Ac K H1 D [] (L2.upd H1 D (.lst [])) := ⟨Same.new (Same.refl _) hD, [], upd_same, .nil⟩
theorem Ac.snoc {K : PySem.W.Frag} {H1 H H2 : Hp} {D : Addr} {ds : List PyData} {y : V} {d : PyData} (h : Ac K H1 D ds H) (hD : H1 D = none) (l : ds.length ≤ 10000) (s : Same H H2) (dy : Dw K D H2 true y d) :
    ∃ acc, H2 D = some (.lst acc) ∧ acc.length < sizeLine ∧ Ac K H1 D (ds ++ [d]) (L2.upd H2 D (.lst (acc ++ [y]))) := by
  obtain ⟨s1, acc, e, ha⟩ := h
  refine ⟨acc, s _ _ e, by rw [ha.len]; exact Nat.lt_of_le_of_lt l (by decide), fun b o q => ?_, acc ++ [y], upd_same, ?_⟩
  · rw [upd_ne (ne_of_none q hD)]; exact s _ _ (s1 _ _ q)
  · show DgAll K (wo (L2.upd H2 D _) D) true _ _
    rw [wo_upd]
    exact (ha.kp (Kp.of s)).append (.cons dy .nil)
/-- a new tuple for it -/
theorem dw_tup {K : PySem.W.Frag} {H : Hp} {D q : Addr} {xs : List V} {es : List PyData} (e : H D ≠ none) (hq : H q = none) (h : DwAll K D H true xs es) : Dw K D (L2.upd H q (.tup xs)) true (.ref q) (.tuple es) := by
  have n : q ≠ D := fun z => e (by rw [← z]; exact hq)
  exact .tup (SqT.of (by rw [wo_ne n]; exact upd_same)) (h.kp ((Kp.refl D H).new hq))
theorem Ac.ne {K : PySem.W.Frag} {H1 H : Hp} {D : Addr} {ds : List PyData} (h : Ac K H1 D ds H) : H D ≠ none := by
  obtain ⟨_, acc, e, _⟩ := h
  rw [e]; exact fun z => by cases z
/-- one more tuple of known items -/
theorem Ac.tup {K : PySem.W.Frag} {H1 H : Hp} {D q : Addr} {ds es : List PyData} {xs : List V} (h : Ac K H1 D ds H) (hD : H1 D = none) (l : ds.length ≤ 10000) (hq : H q = none) (hx : ∀ G, DgAll K G true xs es) :
    ∃ acc, L2.upd H q (.tup xs) D = some (.lst acc) ∧ acc.length < sizeLine ∧ Ac K H1 D (ds ++ [.tuple es]) (L2.upd (L2.upd H q (.tup xs)) D (.lst (acc ++ [.ref q]))) :=
  h.snoc hD l (Same.new (Same.refl _) hq) (dw_tup h.ne hq (hx _))
theorem same_wo {H : Hp} {p : Addr} {o : HO} (h : H p = none) : Same H (wo (L2.upd H p o) p) := fun b ob e => by
  have n : b ≠ p := fun z => by rw [z, h] at e; cases e
  rw [wo_ne n, upd_ne n]; exact e
end My

set_option Elab.async false
set_option linter.all false
set_option maxRecDepth 100000
set_option maxHeartbeats 2000000
namespace PySem
open PyProof.Rows
theorem Walks.tupleOn {prog : Program} {w : World} {A : Around} (hh : A.handled = none) (I ax : Addr) (hne : ax ≠ I) (items : Array Value) (k : Nat) (hk : k ≤ items.size) :
    Walks prog w A I [I, ax] [I] (items.size - k) (fun i v => items[k + i]? = some v) (fun i h => h.IsTupleIter I ax (k + i) ∧ h.IsTuple ax items) where
  sub := fun b hb => by simp at hb; simp [hb]
  frame := fun _ _ _ st hk => ⟨st.1.at fun o e => hk I (by simp) o e, st.2.at fun o e => hk ax (by simp) o e⟩
  item := fun i s Q E hi st hQ => by
    have hi' : k + i < items.size := by omega
    refine wpAny_pyNext_tuple_item st.1 st.2 (x := items[k + i]) (by simp [hi']) fun h' hit' hs' => ?_
    exact hQ _ h' s.toks (by simp [hi']) ⟨hit', st.2.extBut hs'.extBut hne⟩ fun b o hb e => hs'.extBut b o (fun h => hb (by simp [h])) e
  done := fun s Q E st hQ => wpAny_pyNext_tuple_end hh st.1 st.2 (by simp; omega) fun h' he' => hQ h' s.toks fun b o hb e => he' b o (fun h => hb (by simp [h])) e
  self := fun _ _ _ _ st hQ => wpAny_pyIter_tupleiter st.1 hQ
section
variable {prog : Program} {w : World} {A : Around} {E : Value → Shared → Prop} {s : Shared}
theorem unpackStar {t : Addr} {items : Array Value} {Q : List Value → Shared → Prop} (hh : A.handled = none) (ht : s.heap.IsTuple t items) (h1 : 1 ≤ items.size) (hz : items.size ≤ sizeLine)
    (hQ : ∀ s', Moved [s.heap.objs.size] (fun a b => b = a) s s' → Q [items[0], .ref s'.heap.objs.size] { s' with heap := s'.heap.push { cls := .type "list", data := .seq (items.toList.drop 1).toArray } }) :
    wpAny (model prog w) A (unpackItems (.ref t) 2 (some 1)) Q E s := by
  have hlt : t ≠ s.heap.objs.size := by obtain ⟨o, ho, _⟩ := ht; exact Nat.ne_of_lt (Heap.lt_size ho)
  unfold unpackItems
  refine wpAny_bind ?_
  unfold notIterableAtAll
  refine wpAny_bind (wpAny_specialOf ht.typeIs F.slot_tuple_iter.lookup ?_)
  refine wpAny_pure ?_
  simp only [Bool.false_eq_true, if_false]
  refine wpAny_bind (wpAny_holding (wpAny_pyIter_tuple ht ?_))
  refine wpAny_bind (wpAny_holding (wpAny_draw_tuple hlt 1 0 _ _ ⟨_, Heap.get?_push_size _ rfl, rfl, rfl⟩ (ht.push _) (by omega) fun h₁ hit₁ hs₁ => ?_))
  have hone : List.take 1 (List.drop 0 items.toList) = [items[0]] := by
    rw [List.drop_zero]
    have : items.toList = items[0] :: items.toList.drop 1 := by
      have := List.drop_eq_getElem_cons (l := items.toList) (i := 0) (by rw [Array.length_toList]; omega)
      simpa using this
    rw [this]; rfl
  rw [hone, if_neg (by simp)]
  have W := (Walks.tupleOn (prog := prog) (w := w) (A := A.in1) hh s.heap.objs.size t hlt items 1 h1).toS
  have k0 : ∀ b o, b ∉ [s.heap.objs.size] → s.heap.get? b = some o → h₁.get? b = some o := fun b o hb e => hs₁.extBut b o (fun z => hb (by simp [z])) (Heap.get?_push_of_some _ e)
  have sz1 : s.heap.objs.size < h₁.objs.size := by
    obtain ⟨o, ho, _⟩ := hit₁
    exact Heap.lt_size ho
  refine wpAny_bind (wpAny_holding (wpAny_collect_iter (T := "tuple_iterator") (.inr (.inr (.inr rfl))) W (fun i s' st => st.1.typeIs) ⟨hit₁, (ht.push _).extBut hs₁.extBut hlt⟩ ?_ (by simp) (fun s' acc hm hacc => ?_) (by omega)))
  · intro b hb
    rcases List.mem_cons.mp hb with rfl | hb
    · exact sz1
    · rw [List.mem_singleton.mp hb]
      obtain ⟨o, ho, _⟩ := ht
      exact Nat.lt_trans (Heap.lt_size ho) sz1
  · have el : acc.toList = items.toList.drop 1 := by
      obtain ⟨e1, e2⟩ := hacc
      apply List.ext_getElem?
      intro i
      rw [List.getElem?_drop, Array.getElem?_toList, Array.getElem?_toList]
      by_cases hi : i < acc.size
      · have g : acc[i]? = some acc[i] := by simp [hi]
        rw [g]; exact (e2 i _ g).symm
      · have a1 : acc[i]? = none := by simp; omega
        have a2 : items[1 + i]? = none := by simp; omega
        rw [a1, a2]
    rw [el, if_neg (by simp)]
    have et : List.take ((items.toList.drop 1).length - (2 - 1 - 1)) (items.toList.drop 1) = items.toList.drop 1 := by rw [show 2 - 1 - 1 = 0 from rfl, Nat.sub_zero, List.take_length]
    have ed : List.drop ((items.toList.drop 1).length - (2 - 1 - 1)) (items.toList.drop 1) = [] := by rw [show 2 - 1 - 1 = 0 from rfl, Nat.sub_zero, List.drop_length]
    rw [et, ed]
    refine wpAny_bind (wpAny_newList (wpAny_pure ?_) ?_)
    · exact hQ s' ⟨fun b o hb e => hm.heap b o hb (k0 b o hb e), hm.gens, hm.drawn, hm.os, hm.toks⟩
    · simp; omega
end
end PySem
namespace L2
open PySem PySem.Spec PyProof.Rows
section
variable {X : Cx} {pos : Pos}
/-- x, *rest = v (v a tuple of one item or more): rest becomes a new list -/
def gStar (K : PySem.W.Frag) (t : TGs) : TG := fun v σ H Q => ∃ a x xs, v = .ref a ∧ SqT K H a (x :: xs) ∧ ∀ p, H p = none → t [x, .ref p] σ (upd H p (.lst xs)) Q
theorem pg_star {e1 e2 : Expr} {k : Nat} {p2 : Pos} {t : TGs} (hc : X.calm = true) (h : PGs X [e1, e2] t)
    (hn : (assignEach [e1, .Starred e2 p2] X.env).length = 2 := by rfl) (hst : (assignEach [e1, .Starred e2 p2] X.env).findIdx? (·.1) = some 1 := by rfl)
    (hm : (assignEach [e1, .Starred e2 p2] X.env).map (·.2) = (assignEach [e1, e2] X.env).map (·.2) := by rfl) : PG X (.Tuple [e1, .Starred e2 p2] k pos) (gStar X.K t) := by
  refine ⟨fun pins s σ H v u Q I r hw => ?_⟩
  obtain ⟨a, x, xs, e1', hq, hw⟩ := hw
  subst e1'
  cases r
  obtain ⟨its, rv, ht, hz⟩ := I.tuple hq
  rw [assign_Tuple]
  refine wpAny_bind (wpAny_standAt ?_)
  unfold unpack
  rw [hn, hst, hm]
  cases rv with
  | cons r0 rv =>
    rename_i u0 us
    refine wpAny_bind (wpAny_holding (unpackStar (items := (u0 :: us).toArray) (I.ok.hd hc) ht (by simp) (by simp; have := rv.length; simp at hz; omega) fun s' mv => ?_))
    have I1 : Inv X pins σ H s' := by
      rw [Moved.eq_with mv]
      exact I.kept (t' := s'.toks) fun b o e => mv.heap b o (fun z => by have h1 := Heap.lt_size e; rw [List.mem_singleton.mp z] at h1; exact Nat.lt_irrefl _ h1) e
    have hf : H s'.heap.objs.size = none := I1.hok.fresh (Nat.le_refl _)
    have I2 : Inv X pins σ (upd H s'.heap.objs.size (.lst xs)) { s' with heap := s'.heap.push { cls := .type "list", data := .seq ((u0 :: us).drop 1).toArray }, toks := s'.toks } := by
      refine I1.laid (t' := s'.toks) (fun b u e => Heap.get?_push_of_some _ e) (Nat.le_refl _) ?_
      exact ⟨by simp at hz; omega, us, 0, rv, Heap.get?_push_size _ rfl⟩
    exact h.run pins _ σ _ [x, .ref s'.heap.objs.size] [u0, .ref s'.heap.objs.size] Q I2 (.cons r0 (.cons rfl .nil)) (hw _ hf)
end
end L2

set_option Elab.async false
set_option linter.all false
set_option maxRecDepth 100000
set_option maxHeartbeats 2000000
namespace My
open PySem PySem.Spec PyProof.Rows L2
def topS (i : Nat) : Stmt := PySem.Challenge.pw_spoiltline_k04_kinds_and_passings.main.body.getD i (.Pass ⟨0, 0, 0, 0⟩)
abbrev s_is_integer : Stmt := topS 2
abbrev N_is_integer : List Str := ["value"]
theorem sc_is_integer : FnScope N_is_integer ["value"] (defScope s_is_integer) := ⟨rfl, rfl, rfl, by decide +kernel, rfl, by decide +kernel, by decide +kernel⟩
abbrev s_is_count : Stmt := topS 3
abbrev N_is_count : List Str := ["value"]
theorem sc_is_count : FnScope N_is_count ["value"] (defScope s_is_count) := ⟨rfl, rfl, rfl, by decide +kernel, rfl, by decide +kernel, by decide +kernel⟩
abbrev s_is_number_of_signs : Stmt := topS 4
abbrev N_is_number_of_signs : List Str := ["value"]
theorem sc_is_number_of_signs : FnScope N_is_number_of_signs ["value"] (defScope s_is_number_of_signs) := ⟨rfl, rfl, rfl, by decide +kernel, rfl, by decide +kernel, by decide +kernel⟩
abbrev s_is_below : Stmt := topS 5
abbrev N_is_below : List Str := ["value", "limit"]
theorem sc_is_below : FnScope N_is_below ["value", "limit"] (defScope s_is_below) := ⟨rfl, rfl, rfl, by decide +kernel, rfl, by decide +kernel, by decide +kernel⟩
abbrev s_is_kind : Stmt := topS 12
abbrev N_is_kind : List Str := ["value", "signs"]
theorem sc_is_kind : FnScope N_is_kind ["value", "signs"] (defScope s_is_kind) := ⟨rfl, rfl, rfl, by decide +kernel, rfl, by decide +kernel, by decide +kernel⟩
abbrev s_is_passing : Stmt := topS 13
abbrev N_is_passing : List Str := ["value", "signs", "step"]
theorem sc_is_passing : FnScope N_is_passing ["value", "signs"] (defScope s_is_passing) := ⟨rfl, rfl, rfl, by decide +kernel, rfl, by decide +kernel, by decide +kernel⟩
abbrev s_all_kinds : Stmt := topS 14
abbrev N_all_kinds : List Str := ["signs", "lost", "sign", "put", "turned", "other"]
theorem sc_all_kinds : FnScope N_all_kinds ["signs"] (defScope s_all_kinds) := ⟨rfl, rfl, rfl, by decide +kernel, rfl, by decide +kernel, by decide +kernel⟩
abbrev s_sent : Stmt := topS 15
abbrev N_sent : List Str := ["passing"]
theorem sc_sent : FnScope N_sent ["passing"] (defScope s_sent) := ⟨rfl, rfl, rfl, by decide +kernel, rfl, by decide +kernel, by decide +kernel⟩
abbrev s_came : Stmt := topS 16
abbrev N_came : List Str := ["passing"]
theorem sc_came : FnScope N_came ["passing"] (defScope s_came) := ⟨rfl, rfl, rfl, by decide +kernel, rfl, by decide +kernel, by decide +kernel⟩
abbrev s_errors_in : Stmt := topS 17
abbrev N_errors_in : List Str := ["passing", "step"]
theorem sc_errors_in : FnScope N_errors_in ["passing"] (defScope s_errors_in) := ⟨rfl, rfl, rfl, by decide +kernel, rfl, by decide +kernel, by decide +kernel⟩
abbrev s_is_step : Stmt := topS 18
abbrev N_is_step : List Str := ["value", "signs", "name", "told", "sign"]
theorem sc_is_step : FnScope N_is_step ["value", "signs"] (defScope s_is_step) := ⟨rfl, rfl, rfl, by decide +kernel, rfl, by decide +kernel, by decide +kernel⟩
abbrev s_is_free : Stmt := topS 19
abbrev N_is_free : List Str := ["step"]
theorem sc_is_free : FnScope N_is_free ["step"] (defScope s_is_free) := ⟨rfl, rfl, rfl, by decide +kernel, rfl, by decide +kernel, by decide +kernel⟩
abbrev s_check_signs : Stmt := topS 20
abbrev N_check_signs : List Str := ["value"]
theorem sc_check_signs : FnScope N_check_signs ["value"] (defScope s_check_signs) := ⟨rfl, rfl, rfl, by decide +kernel, rfl, by decide +kernel, by decide +kernel⟩
abbrev s_check_passing : Stmt := topS 21
abbrev N_check_passing : List Str := ["value", "signs"]
theorem sc_check_passing : FnScope N_check_passing ["value", "signs"] (defScope s_check_passing) := ⟨rfl, rfl, rfl, by decide +kernel, rfl, by decide +kernel, by decide +kernel⟩
abbrev s_line_sent : Stmt := topS 22
abbrev N_line_sent : List Str := ["passing", "step"]
theorem sc_line_sent : FnScope N_line_sent ["passing"] (defScope s_line_sent) := ⟨rfl, rfl, rfl, by decide +kernel, rfl, by decide +kernel, by decide +kernel⟩
abbrev s_line_that_came : Stmt := topS 23
abbrev N_line_that_came : List Str := ["passing", "step"]
theorem sc_line_that_came : FnScope N_line_that_came ["passing"] (defScope s_line_that_came) := ⟨rfl, rfl, rfl, by decide +kernel, rfl, by decide +kernel, by decide +kernel⟩
abbrev s_law_cell : Stmt := topS 25
abbrev N_law_cell : List Str := ["script", "k"]
theorem sc_law_cell : FnScope N_law_cell ["script", "k"] (defScope s_law_cell) := ⟨rfl, rfl, rfl, by decide +kernel, rfl, by decide +kernel, by decide +kernel⟩
abbrev s_law_box : Stmt := topS 26
abbrev N_law_box : List Str := ["great"]
theorem sc_law_box : FnScope N_law_box ["great"] (defScope s_law_box) := ⟨rfl, rfl, rfl, by decide +kernel, rfl, by decide +kernel, by decide +kernel⟩
abbrev s_law_take : Stmt := topS 27
abbrev N_law_take : List Str := ["box", "many", "digit", "mixed"]
theorem sc_law_take : FnScope N_law_take ["box", "many"] (defScope s_law_take) := ⟨rfl, rfl, rfl, by decide +kernel, rfl, by decide +kernel, by decide +kernel⟩
abbrev s_law_is_signs : Stmt := topS 29
abbrev N_law_is_signs : List Str := ["value"]
theorem sc_law_is_signs : FnScope N_law_is_signs ["value"] (defScope s_law_is_signs) := ⟨rfl, rfl, rfl, by decide +kernel, rfl, by decide +kernel, by decide +kernel⟩
abbrev s_law_is_sign : Stmt := topS 30
abbrev N_law_is_sign : List Str := ["value", "signs"]
theorem sc_law_is_sign : FnScope N_law_is_sign ["value", "signs"] (defScope s_law_is_sign) := ⟨rfl, rfl, rfl, by decide +kernel, rfl, by decide +kernel, by decide +kernel⟩
abbrev s_law_is_kind : Stmt := topS 31
abbrev N_law_is_kind : List Str := ["value", "signs"]
theorem sc_law_is_kind : FnScope N_law_is_kind ["value", "signs"] (defScope s_law_is_kind) := ⟨rfl, rfl, rfl, by decide +kernel, rfl, by decide +kernel, by decide +kernel⟩
abbrev s_law_is_passing : Stmt := topS 32
abbrev N_law_is_passing : List Str := ["value", "signs", "step", "same"]
theorem sc_law_is_passing : FnScope N_law_is_passing ["value", "signs"] (defScope s_law_is_passing) := ⟨rfl, rfl, rfl, by decide +kernel, rfl, by decide +kernel, by decide +kernel⟩
abbrev s_law_step : Stmt := topS 33
abbrev N_law_step : List Str := ["box", "signs", "way", "a", "b"]
theorem sc_law_step : FnScope N_law_step ["box", "signs"] (defScope s_law_step) := ⟨rfl, rfl, rfl, by decide +kernel, rfl, by decide +kernel, by decide +kernel⟩
abbrev s_law_passing : Stmt := topS 34
abbrev N_law_passing : List Str := ["box", "signs", "many", "k"]
theorem sc_law_passing : FnScope N_law_passing ["box", "signs"] (defScope s_law_passing) := ⟨rfl, rfl, rfl, by decide +kernel, rfl, by decide +kernel, by decide +kernel⟩
abbrev s_law_odd : Stmt := topS 35
abbrev N_law_odd : List Str := ["box", "step", "signs", "word", "a", "way", "menu"]
theorem sc_law_odd : FnScope N_law_odd ["box", "step", "signs"] (defScope s_law_odd) := ⟨rfl, rfl, rfl, by decide +kernel, rfl, by decide +kernel, by decide +kernel⟩
abbrev s_law_near : Stmt := topS 36
abbrev N_law_near : List Str := ["box", "passing", "signs", "way", "at", "menu", "step"]
theorem sc_law_near : FnScope N_law_near ["box", "passing", "signs"] (defScope s_law_near) := ⟨rfl, rfl, rfl, by decide +kernel, rfl, by decide +kernel, by decide +kernel⟩
abbrev s_law_ask : Stmt := topS 37
abbrev N_law_ask : List Str := ["door", "value", "e"]
theorem sc_law_ask : FnScope N_law_ask ["door", "value"] (defScope s_law_ask) := ⟨rfl, rfl, rfl, by decide +kernel, rfl, by decide +kernel, by decide +kernel⟩
abbrev s_law_doors_right : Stmt := topS 38
abbrev N_law_doors_right : List Str := ["value", "due", "step", "door", "given", "told"]
theorem sc_law_doors_right : FnScope N_law_doors_right ["value"] (defScope s_law_doors_right) := ⟨rfl, rfl, rfl, by decide +kernel, rfl, by decide +kernel, by decide +kernel⟩
abbrev s_law_all_right : Stmt := topS 39
abbrev N_law_all_right : List Str := ["signs", "wrong", "due", "a", "b", "told", "kind", "e"]
theorem sc_law_all_right : FnScope N_law_all_right ["signs", "wrong"] (defScope s_law_all_right) := ⟨rfl, rfl, rfl, by decide +kernel, rfl, by decide +kernel, by decide +kernel⟩
abbrev s_law_right : Stmt := topS 40
abbrev N_law_right : List Str := ["box", "signs", "passing", "near", "text", "wrong", "value", "k", "steps", "step"]
theorem sc_law_right : FnScope N_law_right ["box"] (defScope s_law_right) := ⟨rfl, rfl, rfl, by decide +kernel, rfl, by decide +kernel, by decide +kernel⟩
abbrev s_law : Stmt := topS 41
abbrev N_law : List Str := ["script", "k"]
theorem sc_law : FnScope N_law ["script"] (defScope s_law) := ⟨rfl, rfl, rfl, by decide +kernel, rfl, by decide +kernel, by decide +kernel⟩
def tab_SIGNS_TOLD (z : Str) : Option Int := if z = "lost" then some 1 else if z = "put" then some 1 else if z = "same" then some 1 else if z = "turned" then some 2 else none
structure Txt (K : PySem.W.Frag) (mg : Str → Option Value) (w : World) where
  f_is_integer : Addr
  fd_is_integer : FuncData
  F_is_integer : Fun K "is_integer" "is_integer" s_is_integer f_is_integer fd_is_integer
  b_is_integer : Binds K fd_is_integer ["value"] []
  g_is_integer : mg "is_integer" = some (.ref f_is_integer)
  f_is_count : Addr
  fd_is_count : FuncData
  F_is_count : Fun K "is_count" "is_count" s_is_count f_is_count fd_is_count
  b_is_count : Binds K fd_is_count ["value"] []
  g_is_count : mg "is_count" = some (.ref f_is_count)
  f_is_number_of_signs : Addr
  fd_is_number_of_signs : FuncData
  F_is_number_of_signs : Fun K "is_number_of_signs" "is_number_of_signs" s_is_number_of_signs f_is_number_of_signs fd_is_number_of_signs
  b_is_number_of_signs : Binds K fd_is_number_of_signs ["value"] []
  g_is_number_of_signs : mg "is_number_of_signs" = some (.ref f_is_number_of_signs)
  f_is_below : Addr
  fd_is_below : FuncData
  F_is_below : Fun K "is_below" "is_below" s_is_below f_is_below fd_is_below
  b_is_below : Binds K fd_is_below ["value", "limit"] []
  g_is_below : mg "is_below" = some (.ref f_is_below)
  f_is_kind : Addr
  fd_is_kind : FuncData
  F_is_kind : Fun K "is_kind" "is_kind" s_is_kind f_is_kind fd_is_kind
  b_is_kind : Binds K fd_is_kind ["value", "signs"] []
  g_is_kind : mg "is_kind" = some (.ref f_is_kind)
  f_is_passing : Addr
  fd_is_passing : FuncData
  F_is_passing : Fun K "is_passing" "is_passing" s_is_passing f_is_passing fd_is_passing
  b_is_passing : Binds K fd_is_passing ["value", "signs"] []
  g_is_passing : mg "is_passing" = some (.ref f_is_passing)
  f_all_kinds : Addr
  fd_all_kinds : FuncData
  F_all_kinds : Fun K "all_kinds" "all_kinds" s_all_kinds f_all_kinds fd_all_kinds
  b_all_kinds : Binds K fd_all_kinds ["signs"] []
  g_all_kinds : mg "all_kinds" = some (.ref f_all_kinds)
  f_sent : Addr
  fd_sent : FuncData
  F_sent : Fun K "sent" "sent" s_sent f_sent fd_sent
  b_sent : Binds K fd_sent ["passing"] []
  g_sent : mg "sent" = some (.ref f_sent)
  f_came : Addr
  fd_came : FuncData
  F_came : Fun K "came" "came" s_came f_came fd_came
  b_came : Binds K fd_came ["passing"] []
  g_came : mg "came" = some (.ref f_came)
  f_errors_in : Addr
  fd_errors_in : FuncData
  F_errors_in : Fun K "errors_in" "errors_in" s_errors_in f_errors_in fd_errors_in
  b_errors_in : Binds K fd_errors_in ["passing"] []
  g_errors_in : mg "errors_in" = some (.ref f_errors_in)
  f_is_step : Addr
  fd_is_step : FuncData
  F_is_step : Fun K "is_step" "is_step" s_is_step f_is_step fd_is_step
  b_is_step : Binds K fd_is_step ["value", "signs"] []
  g_is_step : mg "is_step" = some (.ref f_is_step)
  f_is_free : Addr
  fd_is_free : FuncData
  F_is_free : Fun K "is_free" "is_free" s_is_free f_is_free fd_is_free
  b_is_free : Binds K fd_is_free ["step"] []
  g_is_free : mg "is_free" = some (.ref f_is_free)
  f_check_signs : Addr
  fd_check_signs : FuncData
  F_check_signs : Fun K "check_signs" "check_signs" s_check_signs f_check_signs fd_check_signs
  b_check_signs : Binds K fd_check_signs ["value"] []
  g_check_signs : mg "check_signs" = some (.ref f_check_signs)
  f_check_passing : Addr
  fd_check_passing : FuncData
  F_check_passing : Fun K "check_passing" "check_passing" s_check_passing f_check_passing fd_check_passing
  b_check_passing : Binds K fd_check_passing ["value", "signs"] []
  g_check_passing : mg "check_passing" = some (.ref f_check_passing)
  f_line_sent : Addr
  fd_line_sent : FuncData
  F_line_sent : Fun K "line_sent" "line_sent" s_line_sent f_line_sent fd_line_sent
  b_line_sent : Binds K fd_line_sent ["passing"] []
  g_line_sent : mg "line_sent" = some (.ref f_line_sent)
  f_line_that_came : Addr
  fd_line_that_came : FuncData
  F_line_that_came : Fun K "line_that_came" "line_that_came" s_line_that_came f_line_that_came fd_line_that_came
  b_line_that_came : Binds K fd_line_that_came ["passing"] []
  g_line_that_came : mg "line_that_came" = some (.ref f_line_that_came)
  f_law_cell : Addr
  fd_law_cell : FuncData
  F_law_cell : Fun K "_law_cell" "_law_cell" s_law_cell f_law_cell fd_law_cell
  b_law_cell : Binds K fd_law_cell ["script", "k"] []
  g_law_cell : mg "_law_cell" = some (.ref f_law_cell)
  f_law_box : Addr
  fd_law_box : FuncData
  F_law_box : Fun K "_law_box" "_law_box" s_law_box f_law_box fd_law_box
  b_law_box : Binds K fd_law_box ["great"] []
  g_law_box : mg "_law_box" = some (.ref f_law_box)
  f_law_take : Addr
  fd_law_take : FuncData
  F_law_take : Fun K "_law_take" "_law_take" s_law_take f_law_take fd_law_take
  b_law_take : Binds K fd_law_take ["box", "many"] []
  g_law_take : mg "_law_take" = some (.ref f_law_take)
  f_law_is_signs : Addr
  fd_law_is_signs : FuncData
  F_law_is_signs : Fun K "_law_is_signs" "_law_is_signs" s_law_is_signs f_law_is_signs fd_law_is_signs
  b_law_is_signs : Binds K fd_law_is_signs ["value"] []
  g_law_is_signs : mg "_law_is_signs" = some (.ref f_law_is_signs)
  f_law_is_sign : Addr
  fd_law_is_sign : FuncData
  F_law_is_sign : Fun K "_law_is_sign" "_law_is_sign" s_law_is_sign f_law_is_sign fd_law_is_sign
  b_law_is_sign : Binds K fd_law_is_sign ["value", "signs"] []
  g_law_is_sign : mg "_law_is_sign" = some (.ref f_law_is_sign)
  f_law_is_kind : Addr
  fd_law_is_kind : FuncData
  F_law_is_kind : Fun K "_law_is_kind" "_law_is_kind" s_law_is_kind f_law_is_kind fd_law_is_kind
  b_law_is_kind : Binds K fd_law_is_kind ["value", "signs"] []
  g_law_is_kind : mg "_law_is_kind" = some (.ref f_law_is_kind)
  f_law_is_passing : Addr
  fd_law_is_passing : FuncData
  F_law_is_passing : Fun K "_law_is_passing" "_law_is_passing" s_law_is_passing f_law_is_passing fd_law_is_passing
  b_law_is_passing : Binds K fd_law_is_passing ["value", "signs"] []
  g_law_is_passing : mg "_law_is_passing" = some (.ref f_law_is_passing)
  f_law_step : Addr
  fd_law_step : FuncData
  F_law_step : Fun K "_law_step" "_law_step" s_law_step f_law_step fd_law_step
  b_law_step : Binds K fd_law_step ["box", "signs"] []
  g_law_step : mg "_law_step" = some (.ref f_law_step)
  f_law_passing : Addr
  fd_law_passing : FuncData
  F_law_passing : Fun K "_law_passing" "_law_passing" s_law_passing f_law_passing fd_law_passing
  b_law_passing : Binds K fd_law_passing ["box", "signs"] []
  g_law_passing : mg "_law_passing" = some (.ref f_law_passing)
  f_law_odd : Addr
  fd_law_odd : FuncData
  F_law_odd : Fun K "_law_odd" "_law_odd" s_law_odd f_law_odd fd_law_odd
  b_law_odd : Binds K fd_law_odd ["box", "step", "signs"] []
  g_law_odd : mg "_law_odd" = some (.ref f_law_odd)
  f_law_near : Addr
  fd_law_near : FuncData
  F_law_near : Fun K "_law_near" "_law_near" s_law_near f_law_near fd_law_near
  b_law_near : Binds K fd_law_near ["box", "passing", "signs"] []
  g_law_near : mg "_law_near" = some (.ref f_law_near)
  f_law_ask : Addr
  fd_law_ask : FuncData
  F_law_ask : Fun K "_law_ask" "_law_ask" s_law_ask f_law_ask fd_law_ask
  b_law_ask : Binds K fd_law_ask ["door", "value"] []
  g_law_ask : mg "_law_ask" = some (.ref f_law_ask)
  f_law_doors_right : Addr
  fd_law_doors_right : FuncData
  F_law_doors_right : Fun K "_law_doors_right" "_law_doors_right" s_law_doors_right f_law_doors_right fd_law_doors_right
  b_law_doors_right : Binds K fd_law_doors_right ["value"] []
  g_law_doors_right : mg "_law_doors_right" = some (.ref f_law_doors_right)
  f_law_all_right : Addr
  fd_law_all_right : FuncData
  F_law_all_right : Fun K "_law_all_right" "_law_all_right" s_law_all_right f_law_all_right fd_law_all_right
  b_law_all_right : Binds K fd_law_all_right ["signs", "wrong"] []
  g_law_all_right : mg "_law_all_right" = some (.ref f_law_all_right)
  f_law_right : Addr
  fd_law_right : FuncData
  F_law_right : Fun K "_law_right" "_law_right" s_law_right f_law_right fd_law_right
  b_law_right : Binds K fd_law_right ["box"] []
  g_law_right : mg "_law_right" = some (.ref f_law_right)
  f_law : Addr
  fd_law : FuncData
  F_law : Fun K "law" "law" s_law f_law fd_law
  b_law : Binds K fd_law ["script"] []
  g_law : mg "law" = some (.ref f_law)
  z_abs : mg "abs" = none
  z_all : mg "all" = none
  z_bool : mg "bool" = none
  z_int : mg "int" = none
  z_isinstance : mg "isinstance" = none
  z_len : mg "len" = none
  z_list : mg "list" = none
  z_max : mg "max" = none
  z_min : mg "min" = none
  z_range : mg "range" = none
  z_repr : mg "repr" = none
  z_str : mg "str" = none
  z_sum : mg "sum" = none
  z_tuple : mg "tuple" = none
  t_MOST_SIGNS : Tok
  c_MOST_SIGNS : mg "MOST_SIGNS" = some (.int (5) t_MOST_SIGNS)
  D_SIGNS_TOLD : Addr
  g_SIGNS_TOLD : mg "SIGNS_TOLD" = some (.ref D_SIGNS_TOLD)
  kd_SIGNS_TOLD : KTab K w D_SIGNS_TOLD tab_SIGNS_TOLD
  C_InvalidPassing : Addr
  i_InvalidPassing : Addr
  e_InvalidPassing : ErrX.ETxt K mg "InvalidPassing" "InvalidPassing.__init__" C_InvalidPassing i_InvalidPassing
  x_InvalidPassing : PySem.W.exmOne K (.ref C_InvalidPassing) (.ref C_InvalidPassing) = some true
  C_InvalidSigns : Addr
  i_InvalidSigns : Addr
  e_InvalidSigns : ErrX.ETxt K mg "InvalidSigns" "InvalidSigns.__init__" C_InvalidSigns i_InvalidSigns
  x_InvalidSigns : PySem.W.exmOne K (.ref C_InvalidSigns) (.ref C_InvalidSigns) = some true
  C_CodecError : Addr
  g_CodecError : mg "CodecError" = some (.ref C_CodecError)
  xc_InvalidPassing : ExcC K C_InvalidPassing
  ki_InvalidPassing_CodecError : PySem.W.kitOne K (.ref C_InvalidPassing) (.ref C_CodecError) = some true
  no_InvalidPassing_InvalidSigns : PySem.W.exmOne K (.ref C_InvalidPassing) (.ref C_InvalidSigns) = some false
  no_InvalidSigns_InvalidPassing : PySem.W.exmOne K (.ref C_InvalidSigns) (.ref C_InvalidPassing) = some false
end My

set_option Elab.async false
set_option linter.all false
set_option maxRecDepth 100000
set_option maxHeartbeats 8000000
namespace My
open PySem PySem.Spec PyProof.Rows L2
/-! ### what the program asks of data -/
def isI : PyData → Bool | .int _ => true | _ => false
def isCn : PyData → Bool | .int i => decide (0 ≤ i) | _ => false
def isSg : PyData → Bool | .int i => decide (1 ≤ i) && decide (i ≤ 5) | _ => false
def isBe (n : Int) : PyData → Bool | .int i => decide (0 ≤ i) && decide (i < n) | _ => false
def eqI : PyData → PyData → Bool | .int i, .int j => decide (i = j) | _, _ => false
def numD : PyData → Int | .int i => i | _ => 0
def isKd (n : Int) : PyData → Bool
  | .tuple [.str z, a] => (decide (z = Str.ofString "lost") || decide (z = Str.ofString "put")) && isBe n a
  | .tuple [.str z, a, b] => decide (z = Str.ofString "turned") && (isBe n a && (isBe n b && !eqI a b))
  | _ => false
def isSm (n : Int) : PyData → Bool
  | .tuple [.str z, a] => decide (z = Str.ofString "same") && isBe n a
  | _ => false
def isSt (n : Int) (d : PyData) : Bool := isKd n d || isSm n d
def isKind (d e : PyData) : Bool := isSg e && isKd (numD e) d
def isPass (d e : PyData) : Bool := isSg e && match d with | .tuple ds => ds.all (isSt (numD e)) | _ => false
def hd1 : List PyData → PyData | a :: _ => a | _ => .none
theorem isSt_eq (n : Int) (z : Str) (a : PyData) (r : List PyData) : isSt n (.tuple (.str z :: a :: r)) =
    (match tab_SIGNS_TOLD z with | none => false | some i => decide (((a :: r).length : Int) = i) && ((a :: r).all (isBe n) && (decide (z ≠ Str.ofString "turned") || !eqI a (hd1 r)))) := by
  have d1 : (Str.ofString "lost") ≠ Str.ofString "same" := by decide
  have d2 : (Str.ofString "put") ≠ Str.ofString "same" := by decide
  have d3 : (Str.ofString "turned") ≠ Str.ofString "same" := by decide
  have d4 : (Str.ofString "lost") ≠ Str.ofString "turned" := by decide
  have d5 : (Str.ofString "put") ≠ Str.ofString "turned" := by decide
  have d6 : (Str.ofString "put") ≠ Str.ofString "lost" := by decide
  have d7 : (Str.ofString "turned") ≠ Str.ofString "lost" := by decide
  have d8 : (Str.ofString "turned") ≠ Str.ofString "put" := by decide
  have d9 : (Str.ofString "same") ≠ Str.ofString "lost" := by decide
  have d10 : (Str.ofString "same") ≠ Str.ofString "put" := by decide
  have e1 : ("lost" : Str) = Str.ofString "lost" := rfl
  have e2 : ("put" : Str) = Str.ofString "put" := rfl
  have e3 : ("same" : Str) = Str.ofString "same" := rfl
  have e4 : ("turned" : Str) = Str.ofString "turned" := rfl
  unfold tab_SIGNS_TOLD isSt
  rw [e1, e2, e3, e4]
  match r with
  | [] =>
    unfold isKd isSm hd1
    by_cases h1 : z = Str.ofString "lost"
    · subst h1; simp [d1, d4]
    · by_cases h2 : z = Str.ofString "put"
      · subst h2; simp [d2, d5, d6]
      · by_cases h3 : z = Str.ofString "same"
        · subst h3; simp [d9, d10, Ne.symm d3]
        · by_cases h4 : z = Str.ofString "turned"
          · subst h4; simp [d3, d7, d8]
          · simp [h1, h2, h3, h4]
  | [b] =>
    unfold isKd isSm hd1
    by_cases h1 : z = Str.ofString "lost"
    · subst h1; simp [d4]
    · by_cases h2 : z = Str.ofString "put"
      · subst h2; simp [d5, d6]
      · by_cases h3 : z = Str.ofString "same"
        · subst h3; simp [d9, d10, Ne.symm d3]
        · by_cases h4 : z = Str.ofString "turned"
          · subst h4; simp [d3, d7, d8, Bool.and_assoc]
          · simp [h1, h2, h3, h4]
  | b :: c :: s =>
    have l : ¬ (((a :: b :: c :: s).length : Int) = 1) := by simp only [List.length_cons]; omega
    have l2 : ¬ (((a :: b :: c :: s).length : Int) = 2) := by simp only [List.length_cons]; omega
    unfold isKd isSm
    by_cases h1 : z = Str.ofString "lost"
    · rw [if_pos h1]; simp only [l, decide_false, Bool.false_and, Bool.or_false]
    · rw [if_neg h1]
      by_cases h2 : z = Str.ofString "put"
      · rw [if_pos h2]; simp only [l, decide_false, Bool.false_and, Bool.or_false]
      · rw [if_neg h2]
        by_cases h3 : z = Str.ofString "same"
        · rw [if_pos h3]; simp only [l, decide_false, Bool.false_and, Bool.or_false]
        · rw [if_neg h3]
          by_cases h4 : z = Str.ofString "turned"
          · rw [if_pos h4]; simp only [l2, decide_false, Bool.false_and, Bool.or_false]
          · rw [if_neg h4]; rfl
theorem isBe_int {n : Int} {d : PyData} (h : isBe n d = true) : ∃ i : Int, d = .int i ∧ 0 ≤ i ∧ i < n := by
  cases d with
  | int i =>
    have h' : (decide (0 ≤ i) && decide (i < n)) = true := h
    simp only [Bool.and_eq_true, decide_eq_true_eq] at h'
    exact ⟨i, rfl, h'.1, h'.2⟩
  | _ => cases h
section
variable {P : Program} {w : World} {K : PySem.W.Frag} {mg : Str → Option Value} {base : Heap}
def spD (K : PySem.W.Frag) (f : PyData → Bool) : Sp := fun vs H Q _ => ∃ x d m, vs = [x] ∧ Dg K H m x d ∧ Q (.bl (f d)) H
def spDn (K : PySem.W.Frag) (f : Int → PyData → Bool) : Sp := fun vs H Q _ => ∃ x d m n, vs = [x, .int n] ∧ Dg K H m x d ∧ Q (.bl (f n d)) H
theorem ok_is_integer (T : Txt K mg w) : FnOk P w K mg base CX0 1 T.f_is_integer T.fd_is_integer ["value"] (spD K isI) := by
  refine T.F_is_integer.ok sc_is_integer (fun vs H Q E h => ?_) (fun cdv A outer s H vs Q E hr h => ?_)
  · obtain ⟨x, d, m, rfl, _⟩ := h; rfl
  · obtain ⟨x, d, m, rfl, hd, q⟩ := h
    refine ⟨_, (pss_one (ps_ret (pe_and (pe_callB call_isi (by rfl) T.z_isinstance (by decide +kernel) (pa_cons (pv 0) (pa_cons (pe_bltn (v := .ty "int") (u := .type "int") (by rfl) T.z_int (by decide +kernel) rfl) pa_nil))) (pe_one (pe_not (pe_callB call_isi (by rfl) T.z_isinstance (by decide +kernel) (pa_cons (pv 0) (pa_cons (pe_bltn (v := .ty "bool") (u := .type "bool") (by rfl) T.z_bool (by decide +kernel) rfl) pa_nil)))))))), ?_⟩
    have e : (isNumD d && !isBlD d) = isI d := by cases d <;> rfl
    rw [← e] at q
    refine ⟨_, rfl, _, _, _, _, isNumD d, rfl, .ty _, hd.ty, kit_numD d, _, rfl, ?_⟩
    cases h1 : isNumD d with
    | false => rw [h1] at q; exact iteF q
    | true =>
      rw [h1, Bool.true_and] at q
      exact iteT ⟨_, rfl, _, _, _, _, isBlD d, rfl, .ty _, hd.ty, kit_blD d, _, rfl, q⟩
theorem ok_is_count (T : Txt K mg w) : FnOk P w K mg base CX0 2 T.f_is_count T.fd_is_count ["value"] (spD K isCn) := by
  refine T.F_is_count.ok sc_is_count (fun vs H Q E h => ?_) (fun cdv A outer s H vs Q E hr h => ?_)
  · obtain ⟨x, d, m, rfl, _⟩ := h; rfl
  · obtain ⟨x, d, m, rfl, hd, q⟩ := h
    refine ⟨_, (pss_one (ps_ret (pe_and (pe_call (ok_is_integer T) (hr.mono (by decide)) rfl T.g_is_integer T.F_is_integer.kp T.b_is_integer .nil pass0 (pa_cons (pv 0) pa_nil)) (pe_one (pe_cmpR op_ge (pv 0) pe_int (nomark _)))))), ?_⟩
    refine ⟨_, rfl, x, d, m, rfl, hd, _, rfl, ?_⟩
    cases d with
    | int i =>
      obtain rfl := hd.int_of
      exact iteT ⟨_, rfl, _, _, rfl, rfl, q⟩
    | _ => exact iteF q
theorem ok_is_number_of_signs (T : Txt K mg w) : FnOk P w K mg base CX0 2 T.f_is_number_of_signs T.fd_is_number_of_signs ["value"] (spD K isSg) := by
  refine T.F_is_number_of_signs.ok sc_is_number_of_signs (fun vs H Q E h => ?_) (fun cdv A outer s H vs Q E hr h => ?_)
  · obtain ⟨x, d, m, rfl, _⟩ := h; rfl
  · obtain ⟨x, d, m, rfl, hd, q⟩ := h
    refine ⟨_, (pss_one (ps_ret (pe_and (pe_call (ok_is_integer T) (hr.mono (by decide)) rfl T.g_is_integer T.F_is_integer.kp T.b_is_integer .nil pass0 (pa_cons (pv 0) pa_nil)) (pe_one (pe_chain op_le op_le pe_int (pv 0) (pe_glob (v := .int (5)) rfl T.c_MOST_SIGNS ⟨_, rfl⟩)))))), ?_⟩
    refine ⟨_, rfl, x, d, m, rfl, hd, _, rfl, ?_⟩
    cases d with
    | int i =>
      obtain rfl := hd.int_of
      refine iteT ⟨_, rfl, _, _, rfl, rfl, _, rfl, ?_⟩
      have q' : Q (.bl (decide (1 ≤ i) && decide (i ≤ 5))) H := q
      refine ite2 (fun c => ?_) (fun c => ?_)
      · rw [c, Bool.true_and] at q'
        exact ⟨_, _, rfl, rfl, q'⟩
      · rw [Bool.not_eq_true] at c
        rw [c, Bool.false_and] at q'
        exact q'
    | _ => exact iteF q
theorem ok_is_below (T : Txt K mg w) : FnOk P w K mg base CX0 3 T.f_is_below T.fd_is_below ["value", "limit"] (spDn K isBe) := by
  refine T.F_is_below.ok sc_is_below (fun vs H Q E h => ?_) (fun cdv A outer s H vs Q E hr h => ?_)
  · obtain ⟨x, d, m, n, rfl, _⟩ := h; rfl
  · obtain ⟨x, d, m, n, rfl, hd, q⟩ := h
    refine ⟨_, (pss_one (ps_ret (pe_and (pe_call (ok_is_count T) (hr.mono (by decide)) rfl T.g_is_count T.F_is_count.kp T.b_is_count .nil pass0 (pa_cons (pv 0) pa_nil)) (pe_one (pe_cmpR op_lt (pv 0) (pv 1) (nomark _)))))), ?_⟩
    refine ⟨_, rfl, x, d, m, rfl, hd, _, rfl, ?_⟩
    cases d with
    | int i =>
      obtain rfl := hd.int_of
      have q' : Q (.bl (decide (0 ≤ i) && decide (i < n))) H := q
      show if decide (0 ≤ i) = true then _ else _
      refine ite2 (fun c => ?_) (fun c => ?_)
      · rw [c, Bool.true_and] at q'
        exact ⟨_, rfl, _, rfl, _, _, rfl, rfl, q'⟩
      · rw [Bool.not_eq_true] at c
        rw [c, Bool.false_and] at q'
        exact q'
    | _ => exact iteF q
end
end My

set_option Elab.async false
set_option linter.all false
set_option maxRecDepth 100000
set_option maxHeartbeats 8000000
namespace My
open PySem PySem.Spec PyProof.Rows L2
section
variable {P : Program} {w : World} {K : PySem.W.Frag} {mg : Str → Option Value} {base : Heap}
def Bd : PyData → Prop | .tuple ds => ds.length ≤ 1000 | _ => True
theorem all_id {f : PyData → Bool} (l : List PyData) : (l.map f).all id = l.all f := by rw [List.all_map]; rfl
def spSt (K : PySem.W.Frag) : Sp := fun vs H Q _ => ∃ x d m n, vs = [x, .int n] ∧ Dg K H m x d ∧ Bd d ∧ ∀ H', Same H H' → Q (.bl (isSt n d)) H'
theorem ok_is_step (T : Txt K mg w) : FnOk P w K mg base CX0 4 T.f_is_step T.fd_is_step ["value", "signs"] (spSt K) := by
  refine T.F_is_step.ok sc_is_step (fun vs H Q E h => ?_) (fun cdv A outer s H vs Q E hr h => ?_)
  · obtain ⟨x, d, m, n, rfl, _⟩ := h; rfl
  · obtain ⟨x, d, m, n, rfl, hd, bd, q⟩ := h
    refine ⟨_, (pss_cons (ps_if (PW.pt (pw_or (pt_not (pt_val (pe_callB call_isi (by rfl) T.z_isinstance (by decide +kernel) (pa_cons (pv 0) (pa_cons (pe_bltn (v := .ty "tuple") (u := .type "tuple") (by rfl) T.z_tuple (by decide +kernel) rfl) pa_nil))))) (pw_or (pt_cmpR op_lt (pe_callB call_len_seq (by rfl) T.z_len (by decide +kernel) (pa_cons (pv 0) pa_nil)) pe_int (nomark _)) (pw_or1 (pt_not (pt_val (pe_callB call_isi (by rfl) T.z_isinstance (by decide +kernel) (pa_cons (pe_ix ix_tup (pv 0) pe_int (fun _ _ => rfl)) (pa_cons (pe_bltn (v := .ty "str") (u := .type "str") (by rfl) T.z_str (by decide +kernel) rfl) pa_nil))))))))) (pss_one (ps_ret pe_bl)) pss_nil)
      (pss_cons (ps_asg (pv 0) (pg_star rfl (pgs_cons (pg_name (i := 2) sc_is_step.nd rfl (Or.inl rfl)) (pgs_cons (pg_name (i := 3) sc_is_step.nd rfl (Or.inl rfl)) pgs_nil))))
      (pss_cons (ps_if (PW.pt (pw_or (pt_cmpR (op_notIn_tab T.kd_SIGNS_TOLD) (pv 2) (pe_glob (v := .ref T.D_SIGNS_TOLD) rfl T.g_SIGNS_TOLD rfl) (by rfl)) (pw_or1 (pt_cmpR op_ne (pe_callB call_len_seq (by rfl) T.z_len (by decide +kernel) (pa_cons (pv 3) pa_nil)) (pe_ix (ix_tab T.kd_SIGNS_TOLD) (pe_glob (v := .ref T.D_SIGNS_TOLD) rfl T.g_SIGNS_TOLD rfl) (pv 2) (fun _ _ => rfl)) (nomark _))))) (pss_one (ps_ret pe_bl)) pss_nil)
      (pss_cons (ps_if (pt_not (pt_val (pe_callB (cr_all rfl) (by rfl) T.z_all (by decide +kernel) (pa_cons (pe_lc (own := [("sign", 4)]) (g := gName 4) (by rfl) sc_is_step.nd (pi_list (pv 3)) (blkOk_by (own := [("sign", 4)]) (N := N_is_step) (sc := defScope s_is_step) (by decide +kernel)) (fun _ _ _ _ _ => pg_name (i := 4) sc_is_step.nd rfl (Or.inl rfl)) (fun _ _ _ _ _ => pts_nil) (fun _ _ _ _ _ => (pe_call (ok_is_below T) (hr.mono (by decide)) rfl T.g_is_below T.F_is_below.kp T.b_is_below .nil pass0 (pa_cons (pv 4) (pa_cons (pv 1) pa_nil))))) pa_nil)))) (pss_one (ps_ret pe_bl)) pss_nil)
      (pss_one (ps_ret (pe_or (pe_cmpR op_ne (pv 2) pe_str (nomark _)) (pe_one (pe_cmpR op_ne (pe_ix ix_list (pv 3) pe_int (fun _ _ => rfl)) (pe_ix ix_list (pv 3) pe_int (fun _ _ => rfl)) (nomark _)))))))))), ?_⟩
    refine ⟨_, rfl, _, _, _, _, isTupD d, rfl, .ty _, hd.ty, kit_tupD d, _, rfl, ?_⟩
    cases d with
    | tuple ds =>
      obtain ⟨a, xs, rfl, hs, ha⟩ := hd.tup_of
      refine iteF ⟨_, rfl, a, xs, rfl, .inr hs, _, _, rfl, rfl, _, rfl, ?_⟩
      have hl := ha.len
      match ds, ha, q, hl, bd with
      | [], ha, q, hl, _ =>
        rw [decide_eq_true (by rw [hl]; show (0 : Int) < 2; decide)]
        exact iteT (iteT (q _ (Same.refl _)))
      | [e], ha, q, hl, _ =>
        rw [decide_eq_true (by rw [hl]; show (1 : Int) < 2; decide)]
        have e0 : isSt n (.tuple [e]) = false := by cases e <;> rfl
        rw [e0] at q
        exact iteT (iteT (q _ (Same.refl _)))
      | e :: f :: r, ha, q, hl, bd =>
        rw [decide_eq_false (by rw [hl]; simp only [List.length_cons]; omega)]
        obtain ⟨x0, ys, rfl, h0, ht⟩ := ha.cons_of
        refine iteF ⟨_, rfl, a, _, _, _, rfl, rfl, hs, atI_nat (j := 0) rfl, _, _, _, _, isStrD e, rfl, .ty _, h0.ty, kit_strD e, _, rfl, ?_⟩
        cases e with
        | str z =>
          obtain rfl := h0.str_of
          refine iteF ?_
          refine ⟨_, rfl, a, _, ys, rfl, hs, fun p hp => ?_⟩
          have ly : ys.length = (f :: r).length := ht.len
          rw [isSt_eq] at q
          have s1 : Same H (upd H p (.lst ys)) := Same.new (Same.refl H) hp
          have ht1 := ht.ext s1
          have ep : (upd H p (.lst ys)) p = some (.lst ys) := upd_same
          generalize upd H p (.lst ys) = H1 at s1 ht1 ep
          refine ⟨_, _, rfl, _, _, rfl, rfl, _, rfl, z, rfl, rfl, _, rfl, ?_⟩
          cases hf : tab_SIGNS_TOLD z with
          | none =>
            rw [hf] at q
            exact iteT (iteT (q _ s1))
          | some i =>
            rw [hf] at q
            refine iteF ⟨_, rfl, p, ys, rfl, .inl (SqL.of ep), _, rfl, z, i, rfl, rfl, hf, rfl, _, rfl, ?_⟩
            have q' : ∀ H', Same H H' → Q (.bl (decide (((f :: r).length : Int) = i) && ((f :: r).all (isBe n) && (decide (z ≠ Str.ofString "turned") || !eqI f (hd1 r))))) H' := q
            by_cases c : ((f :: r).length : Int) = i
            · rw [decide_eq_true (show V.int (ys.length : Int) = V.int i by rw [ly, c])]
              rw [decide_eq_true c, Bool.true_and] at q'
              refine iteF ?_
              refine ⟨_, rfl, p, rfl, ⟨_, SqL.of ep⟩, fun D hD => ?_⟩
              refine lc_list (K := K) (a := p) (xs := ys) (fun i H' => Same H1 H' ∧ H' D = some (.lst ((((f :: r).take i).map (isBe n)).map V.bl))) ⟨Same.new (Same.refl H1) hD, upd_same⟩ (fun i H' _ h => SqL.of (h.1 _ _ ep)) ?_ ?_
              · rintro i x H' hx ⟨s', e'⟩
                obtain ⟨d, hd', dx⟩ := ht1.at i x hx
                refine ⟨rfl, tYesT ?_⟩
                refine ⟨_, rfl, _, rfl, x, d, m, n, rfl, dx.ext s', _, e', ?_, fun b o e => ?_, ?_⟩
                · rw [List.length_map, List.length_map]
                  exact Nat.lt_of_le_of_lt (List.length_take_le' _ _) (by have : (PyData.str z :: f :: r).length ≤ 1000 := bd; rw [List.length_cons] at this; exact Nat.lt_of_le_of_lt (by omega : (f :: r).length ≤ 1000) (by decide))
                · rw [upd_ne (ne_of_none e hD)]; exact s' b o e
                · rw [upd_same, List.take_add_one, hd', List.map_append, List.map_append]; rfl
              · rintro H' ⟨s', e'⟩
                have ef : ((f :: r).take ys.length) = f :: r := by rw [ly]; exact List.take_length
                rw [ef] at e'
                refine ⟨D, _, rfl, SqL.of e', _, rfl, ?_⟩
                show if (!((f :: r).map (isBe n)).all id) = true then _ else _
                rw [all_id]
                have t' : Same H H' := s1.trans s'
                cases hall : (f :: r).all (isBe n) with
                | false =>
                  rw [hall, Bool.false_and] at q'
                  exact iteT (q' _ t')
                | true =>
                  rw [hall, Bool.true_and] at q'
                  refine iteF ⟨_, rfl, rfl, _, rfl, ?_⟩
                  by_cases hz : z = Str.ofString "turned"
                  · rw [decide_eq_false (by simpa using hz), Bool.false_or] at q'
                    rw [decide_eq_true (congrArg V.str hz)]
                    have i2 : i = 2 := by rw [hz] at hf; exact (Option.some.inj hf).symm
                    rw [List.all_cons, Bool.and_eq_true] at hall
                    obtain ⟨u, rfl, _⟩ := isBe_int hall.1
                    match r, ly, c, hall, ht, q', e' with
                    | [], _, c, _, _, _, _ => rw [i2] at c; simp at c
                    | g :: s, ly, c, hall, ht, q', e' =>
                      have hg := hall.2
                      rw [List.all_cons, Bool.and_eq_true] at hg
                      obtain ⟨v, rfl, _⟩ := isBe_int hg.1
                      obtain ⟨y0, ys1, rfl, h0', ht'⟩ := ht.cons_of
                      obtain ⟨y1, ys2, rfl, h1', _⟩ := ht'.cons_of
                      obtain rfl := h0'.int_of
                      obtain rfl := h1'.int_of
                      have ep' := s' _ _ ep
                      refine iteF ⟨_, rfl, p, _, _, _, rfl, rfl, SqL.of ep', atI_nat (j := 0) rfl, _, rfl, p, _, _, _, rfl, rfl, SqL.of ep', atI_nat (j := 1) rfl, rfl, ?_⟩
                      have e1 : (!decide (V.int u = V.int v)) = !eqI (.int u) (hd1 (.int v :: s)) := by
                        show _ = !decide (u = v)
                        rw [Bool.eq_iff_iff]; simp
                      rw [e1]
                      exact q' _ t'
                  · rw [decide_eq_true (by simpa using hz), Bool.true_or] at q'
                    rw [decide_eq_false (fun e => hz (V.str.inj e))]
                    exact iteT (q' _ t')
            · rw [decide_eq_false (show ¬ V.int (ys.length : Int) = V.int i from fun z => c (by rw [← ly]; exact V.int.inj z))]
              rw [decide_eq_false c, Bool.false_and] at q'
              exact iteT (q' _ s1)
        | _ => exact iteT (q _ (Same.refl _))
    | _ => exact iteT (iteT (q _ (Same.refl _)))
end
end My

set_option Elab.async false
set_option linter.all false
set_option maxRecDepth 100000
set_option maxHeartbeats 8000000
namespace My
open PySem PySem.Spec PyProof.Rows L2
/-! ### what is read of steps -/
def fstD : PyData → Str | .tuple (.str z :: _) => z | _ => Str.ofString ""
def secD : PyData → PyData | .tuple (_ :: a :: _) => a | _ => .none
def lasD : PyData → PyData | .tuple [_, a] => a | .tuple [_, _, b] => b | _ => .none
def sentL (ds : List PyData) : List PyData := (ds.filter fun d => !decide (fstD d = Str.ofString "put")).map secD
def cameL (ds : List PyData) : List PyData := (ds.filter fun d => !decide (fstD d = Str.ofString "lost")).map lasD
def errL (ds : List PyData) : List PyData := ds.filter fun d => !decide (fstD d = Str.ofString "same")
/-- a step: a text and one number, or two -/
def Stp (d : PyData) : Prop := (∃ z a, d = .tuple [.str z, .int a]) ∨ ∃ z a b, d = .tuple [.str z, .int a, .int b]
theorem isSt_shape {n : Int} {d : PyData} (h : isSt n d = true) : (∃ z a, d = .tuple [.str z, .int a] ∧ (z = Str.ofString "lost" ∨ z = Str.ofString "put" ∨ z = Str.ofString "same") ∧ 0 ≤ a ∧ a < n) ∨
    ∃ a b, d = .tuple [.str (Str.ofString "turned"), .int a, .int b] ∧ 0 ≤ a ∧ a < n ∧ 0 ≤ b ∧ b < n := by
  unfold isSt at h
  rw [Bool.or_eq_true] at h
  rcases h with h | h
  · unfold isKd at h
    split at h
    · rename_i z a
      simp only [Bool.and_eq_true, Bool.or_eq_true, decide_eq_true_eq] at h
      obtain ⟨i, rfl, h1, h2⟩ := isBe_int h.2
      exact .inl ⟨z, i, rfl, h.1.elim .inl (fun h => .inr (.inl h)), h1, h2⟩
    · rename_i z a b
      simp only [Bool.and_eq_true, decide_eq_true_eq] at h
      obtain ⟨i, rfl, h1, h2⟩ := isBe_int h.2.1
      obtain ⟨j, rfl, h3, h4⟩ := isBe_int h.2.2.1
      exact .inr ⟨i, j, by rw [h.1], h1, h2, h3, h4⟩
    · cases h
  · unfold isSm at h
    split at h
    · rename_i z a
      simp only [Bool.and_eq_true, decide_eq_true_eq] at h
      obtain ⟨i, rfl, h1, h2⟩ := isBe_int h.2
      exact .inl ⟨z, i, rfl, .inr (.inr h.1), h1, h2⟩
    · cases h
theorem isSt_Stp {n : Int} {d : PyData} (h : isSt n d = true) : Stp d := by
  rcases isSt_shape h with ⟨z, a, e, _⟩ | ⟨a, b, e, _⟩
  · exact .inl ⟨z, a, e⟩
  · exact .inr ⟨_, a, b, e⟩
theorem isKd_of {n : Int} {d : PyData} (h : isSt n d = true) : isKd n d = !decide (fstD d = Str.ofString "same") := by
  have d1 : (Str.ofString "lost") ≠ Str.ofString "same" := by decide
  have d2 : (Str.ofString "put") ≠ Str.ofString "same" := by decide
  have d3 : (Str.ofString "turned") ≠ Str.ofString "same" := by decide
  have d9 : (Str.ofString "same") ≠ Str.ofString "lost" := by decide
  have d10 : (Str.ofString "same") ≠ Str.ofString "put" := by decide
  rcases isSt_shape h with ⟨z, a, rfl, hz, h1, h2⟩ | ⟨a, b, rfl, h1, h2, h3, h4⟩
  · unfold isKd fstD isBe
    rcases hz with rfl | rfl | rfl <;> simp [*]
  · have hk : isSm n (.tuple [.str (Str.ofString "turned"), .int a, .int b]) = false := rfl
    unfold isSt at h
    rw [hk, Bool.or_false] at h
    rw [h]
    unfold fstD
    simp [d3]
def BdP : PyData → Prop | .tuple ds => ds.length ≤ 1000 ∧ ∀ e ∈ ds, Bd e | _ => True
theorem isSg_int {e : PyData} (h : isSg e = true) : ∃ n, e = .int n ∧ 1 ≤ n ∧ n ≤ 5 := by
  cases e with
  | int i =>
    have h' : (decide (1 ≤ i) && decide (i ≤ 5)) = true := h
    simp only [Bool.and_eq_true, decide_eq_true_eq] at h'
    exact ⟨i, rfl, h'.1, h'.2⟩
  | _ => cases h
section
variable {P : Program} {w : World} {K : PySem.W.Frag} {mg : Str → Option Value} {base : Heap}
theorem Stp.at0 {H : Hp} {m : Bool} {x : V} {d : PyData} (hd : Dg K H m x d) (h : Stp d) : ∃ b v vs, x = .ref b ∧ SqT K H b (.str (fstD d) :: v :: vs) ∧ Dg K H m v (secD d) ∧ ∃ u, atI (V.str (fstD d) :: v :: vs) (-1) = some u ∧ Dg K H m u (lasD d) := by
  obtain ⟨b, xs, rfl, hs, ha⟩ : ∃ b xs, x = .ref b ∧ SqT K H b xs ∧ ∃ ds, d = .tuple ds ∧ DgAll K H m xs ds := by
    rcases h with ⟨z, a, rfl⟩ | ⟨z, a, b, rfl⟩
    · obtain ⟨b, xs, e, hs, ha⟩ := hd.tup_of; exact ⟨b, xs, e, hs, _, rfl, ha⟩
    · obtain ⟨b, xs, e, hs, ha⟩ := hd.tup_of; exact ⟨b, xs, e, hs, _, rfl, ha⟩
  obtain ⟨ds, e, ha⟩ := ha
  rcases h with ⟨z, a, rfl⟩ | ⟨z, a, c, rfl⟩
  · cases e
    obtain ⟨x0, ys, rfl, h0, ha⟩ := ha.cons_of
    obtain ⟨x1, ys, rfl, h1, ha⟩ := ha.cons_of
    obtain rfl := ha.nil_of
    obtain rfl := h0.str_of
    exact ⟨b, x1, [], rfl, hs, h1, x1, atI_last [V.str z] x1, h1⟩
  · cases e
    obtain ⟨x0, ys, rfl, h0, ha⟩ := ha.cons_of
    obtain ⟨x1, ys, rfl, h1, ha⟩ := ha.cons_of
    obtain ⟨x2, ys, rfl, h2, ha⟩ := ha.cons_of
    obtain rfl := ha.nil_of
    obtain rfl := h0.str_of
    exact ⟨b, x1, [x2], rfl, hs, h1, x2, atI_last [V.str z, x1] x2, h2⟩
theorem ok_is_free (T : Txt K mg w) : FnOk P w K mg base CX0 1 T.f_is_free T.fd_is_free ["step"] (fun vs H Q _ => ∃ x d m, vs = [x] ∧ Dg K H m x d ∧ Stp d ∧ Q (.bl (decide (fstD d = Str.ofString "same"))) H) := by
  refine T.F_is_free.ok sc_is_free (fun vs H Q E h => ?_) (fun cdv A outer s H vs Q E hr h => ?_)
  · obtain ⟨x, d, m, rfl, _⟩ := h; rfl
  · obtain ⟨x, d, m, rfl, hd, st, q⟩ := h
    refine ⟨_, (pss_one (ps_ret (pe_cmpR op_eq (pe_ix ix_tup (pv 0) pe_int (fun _ _ => rfl)) pe_str (nomark _)))), ?_⟩
    obtain ⟨b, v, vs, rfl, hs, _⟩ := st.at0 hd
    refine ⟨_, rfl, b, _, _, _, rfl, rfl, hs, atI_nat (j := 0) rfl, rfl, ?_⟩
    have e : decide (V.str (fstD d) = V.str (Str.ofString "same")) = decide (fstD d = Str.ofString "same") := by rw [Bool.eq_iff_iff]; simp
    rw [e]; exact q
def spKi (K : PySem.W.Frag) (f : PyData → PyData → Bool) (B : PyData → Prop) : Sp := fun vs H Q _ => ∃ x y d e m m2, vs = [x, y] ∧ Dg K H m x d ∧ Dg K H m2 y e ∧ B d ∧ ∀ H', Same H H' → Q (.bl (f d e)) H'
theorem ok_is_kind (T : Txt K mg w) : FnOk P w K mg base CX0 5 T.f_is_kind T.fd_is_kind ["value", "signs"] (spKi K isKind Bd) := by
  refine T.F_is_kind.ok sc_is_kind (fun vs H Q E h => ?_) (fun cdv A outer s H vs Q E hr h => ?_)
  · obtain ⟨x, y, d, e, m, m2, rfl, _⟩ := h; rfl
  · obtain ⟨x, y, d, e, m, m2, rfl, hd, he, bd, q⟩ := h
    refine ⟨_, (pss_one (ps_ret (pe_and (pe_call (ok_is_number_of_signs T) (hr.mono (by decide)) rfl T.g_is_number_of_signs T.F_is_number_of_signs.kp T.b_is_number_of_signs .nil pass0 (pa_cons (pv 1) pa_nil)) (pe_and (pe_call (ok_is_step T) (hr.mono (by decide)) rfl T.g_is_step T.F_is_step.kp T.b_is_step .nil pass0 (pa_cons (pv 0) (pa_cons (pv 1) pa_nil))) (pe_one (pe_not (pe_call (ok_is_free T) (hr.mono (by decide)) rfl T.g_is_free T.F_is_free.kp T.b_is_free .nil pass0 (pa_cons (pv 0) pa_nil)))))))), ?_⟩
    unfold isKind at q
    refine ⟨_, rfl, y, e, m2, rfl, he, _, rfl, ?_⟩
    cases hs : isSg e with
    | false => rw [hs, Bool.false_and] at q; exact iteF (q _ (Same.refl _))
    | true =>
      rw [hs, Bool.true_and] at q
      obtain ⟨n, rfl, _⟩ := isSg_int hs
      obtain rfl := he.int_of
      have q : ∀ H', Same H H' → Q (.bl (isKd n d)) H' := q
      refine iteT ⟨_, rfl, _, rfl, x, d, m, n, rfl, hd, bd, fun H1 s1 => ⟨_, rfl, ?_⟩⟩
      cases ht : isSt n d with
      | false =>
        have : isKd n d = false := by unfold isSt at ht; rw [Bool.or_eq_false_iff] at ht; exact ht.1
        rw [this] at q
        exact iteF (q _ s1)
      | true =>
        rw [isKd_of ht] at q
        exact iteT ⟨_, rfl, x, d, m, rfl, hd.ext s1, isSt_Stp ht, _, rfl, q _ s1⟩
theorem ok_is_passing (T : Txt K mg w) : FnOk P w K mg base CX0 5 T.f_is_passing T.fd_is_passing ["value", "signs"] (spKi K isPass BdP) := by
  refine T.F_is_passing.ok sc_is_passing (fun vs H Q E h => ?_) (fun cdv A outer s H vs Q E hr h => ?_)
  · obtain ⟨x, y, d, e, m, m2, rfl, _⟩ := h; rfl
  · obtain ⟨x, y, d, e, m, m2, rfl, hd, he, bd, q⟩ := h
    refine ⟨_, (pss_cons (ps_if (PW.pt (pw_or (pt_not (pt_val (pe_call (ok_is_number_of_signs T) (hr.mono (by decide)) rfl T.g_is_number_of_signs T.F_is_number_of_signs.kp T.b_is_number_of_signs .nil pass0 (pa_cons (pv 1) pa_nil)))) (pw_or1 (pt_not (pt_val (pe_callB call_isi (by rfl) T.z_isinstance (by decide +kernel) (pa_cons (pv 0) (pa_cons (pe_bltn (v := .ty "tuple") (u := .type "tuple") (by rfl) T.z_tuple (by decide +kernel) rfl) pa_nil)))))))) (pss_one (ps_ret pe_bl)) pss_nil)
      (pss_one (ps_ret (pe_callB (cr_all rfl) (by rfl) T.z_all (by decide +kernel) (pa_cons (pe_lc (own := [("step", 2)]) (g := gName 2) (by rfl) sc_is_passing.nd (pi_tup (pv 0)) (blkOk_by (own := [("step", 2)]) (N := N_is_passing) (sc := defScope s_is_passing) (by decide +kernel)) (fun _ _ _ _ _ => pg_name (i := 2) sc_is_passing.nd rfl (Or.inl rfl)) (fun _ _ _ _ _ => pts_nil) (fun _ _ _ _ _ => (pe_call (ok_is_step T) (hr.mono (by decide)) rfl T.g_is_step T.F_is_step.kp T.b_is_step .nil pass0 (pa_cons (pv 2) (pa_cons (pv 1) pa_nil))))) pa_nil))))), ?_⟩
    unfold isPass at q
    refine ⟨_, rfl, y, e, m2, rfl, he, _, rfl, ?_⟩
    cases hs : isSg e with
    | false => rw [hs, Bool.false_and] at q; exact iteT (iteT (q _ (Same.refl _)))
    | true =>
      rw [hs, Bool.true_and] at q
      obtain ⟨n, rfl, _⟩ := isSg_int hs
      obtain rfl := he.int_of
      refine iteF ⟨_, rfl, _, _, _, _, isTupD d, rfl, .ty _, hd.ty, kit_tupD d, _, rfl, ?_⟩
      cases d with
      | tuple ds =>
        have q : ∀ H', Same H H' → Q (.bl (ds.all (isSt n))) H' := q
        obtain ⟨a, xs, rfl, hsq, ha⟩ := hd.tup_of
        have bd : ds.length ≤ 1000 ∧ ∀ e ∈ ds, Bd e := bd
        have lx := ha.len
        refine iteF ?_
        refine ⟨_, rfl, a, rfl, ⟨_, hsq⟩, fun D hD => ?_⟩
        refine lc_tup (K := K) (a := a) (xs := xs) (fun i H' => Same H H' ∧ H' D = some (.lst (((ds.take i).map (isSt n)).map V.bl))) ⟨Same.new (Same.refl H) hD, upd_same⟩ (fun i H' _ h => hsq.ext h.1) ?_ ?_
        · rintro i x H' hx ⟨s', e'⟩
          obtain ⟨d, hd', dx⟩ := ha.at i x hx
          refine ⟨rfl, tYesT ?_⟩
          refine ⟨_, rfl, _, rfl, x, d, m, n, rfl, dx.ext s', bd.2 d (List.mem_of_getElem? hd'), fun H2 s2 => ⟨_, s2 _ _ e', ?_, fun b o e => ?_, ?_⟩⟩
          · rw [List.length_map, List.length_map]
            exact Nat.lt_of_le_of_lt (List.length_take_le' _ _) (Nat.lt_of_le_of_lt bd.1 (by decide))
          · rw [upd_ne (ne_of_none e hD)]; exact s2 _ _ (s' b o e)
          · rw [upd_same, List.take_add_one, hd', List.map_append, List.map_append]; rfl
        · rintro H' ⟨s', e'⟩
          rw [lx, List.take_length] at e'
          refine ⟨D, _, rfl, SqL.of e', ?_⟩
          rw [all_id]
          exact q _ s'
      | _ => exact iteT (q _ (Same.refl _))
end
end My

set_option Elab.async false
set_option linter.all false
set_option maxRecDepth 100000
set_option maxHeartbeats 8000000
namespace My
open PySem PySem.Spec PyProof.Rows L2
section
variable {P : Program} {w : World} {K : PySem.W.Frag} {mg : Str → Option Value} {base : Heap}
theorem Bad.of {C : Addr} {H H1 : Hp} {x : V} {E : XK} (h : Bad C H x E) (s : Same H H1) : ∀ d, H1 d = none → E (.ref C) (some d) (upd H1 d (.xd (gvn x))) := fun d hd =>
  h d _ (fun b o q => by rw [upd_ne (ne_of_none (s b o q) hd)]; exact s b o q) (s.free hd) upd_same
def spCk (K : PySem.W.Frag) (C : Addr) : Sp := fun vs H Q E => ∃ x e m, vs = [x] ∧ Dg K H m x e ∧ (isSg e = true → Q .non H) ∧ (isSg e = false → Bad C H x E)
theorem ok_check_signs (T : Txt K mg w) : FnOk P w K mg base (L2.CX P w) 3 T.f_check_signs T.fd_check_signs ["value"] (spCk K T.C_InvalidSigns) := by
  refine T.F_check_signs.okX sc_check_signs (fun vs H Q E h => ?_) (fun cdv A outer s H vs Q E hr h => ?_)
  · obtain ⟨x, e, m, rfl, _⟩ := h; rfl
  · obtain ⟨x, e, m, rfl, he, kT, kF⟩ := h
    refine ⟨_, (pss_one (ps_if (pt_not (pt_val (pe_call (ok_is_number_of_signs T) (hr.mono (by decide)) rfl T.g_is_number_of_signs T.F_is_number_of_signs.kp T.b_is_number_of_signs .nil pass0 (pa_cons (pv 0) pa_nil)))) (pss_one (ps_raiseE rfl T.e_InvalidSigns hr (takes_of rfl rfl rfl rfl) (pa_cons (pv 0) pa_nil))) pss_nil)), ?_⟩
    refine ⟨_, rfl, x, e, m, rfl, he, _, rfl, ?_⟩
    cases hs : isSg e with
    | true => exact iteF (kT hs)
    | false => exact iteT ⟨_, rfl, x, rfl, (kF hs).of (Same.refl H)⟩
def spCp (K : PySem.W.Frag) (C : Addr) : Sp := fun vs H Q E => ∃ x d m, vs = [x, .int 5] ∧ Dg K H m x d ∧ BdP d ∧ (isPass d (.int 5) = true → ∀ H', Same H H' → Q .non H') ∧ (isPass d (.int 5) = false → Bad C H x E)
theorem ok_check_passing (T : Txt K mg w) : FnOk P w K mg base (L2.CX P w) 6 T.f_check_passing T.fd_check_passing ["value", "signs"] (spCp K T.C_InvalidPassing) := by
  refine T.F_check_passing.okX sc_check_passing (fun vs H Q E h => ?_) (fun cdv A outer s H vs Q E hr h => ?_)
  · obtain ⟨x, e, m, rfl, _⟩ := h; rfl
  · obtain ⟨x, d, m, rfl, hd, bd, kT, kF⟩ := h
    refine ⟨_, (pss_one (ps_if (pt_not (pt_val (pe_call (ok_is_passing T) (hr.mono (by decide)) rfl T.g_is_passing T.F_is_passing.kp T.b_is_passing .nil pass0 (pa_cons (pv 0) (pa_cons (pv 1) pa_nil))))) (pss_one (ps_raiseE rfl T.e_InvalidPassing hr (takes_of rfl rfl rfl rfl) (pa_cons (pv 0) pa_nil))) pss_nil)), ?_⟩
    refine ⟨_, rfl, _, rfl, x, _, d, .int 5, m, m, rfl, hd, .int 5, bd, fun H1 s1 => ⟨_, rfl, ?_⟩⟩
    cases hs : isPass d (.int 5) with
    | true => exact iteF (kT hs _ s1)
    | false => exact iteT ⟨_, rfl, x, rfl, (kF hs).of s1⟩
theorem dec_str' {a b : Str} : decide (V.str a = V.str b) = decide (a = b) := by rw [Bool.eq_iff_iff]; simp
def spLine (K : PySem.W.Frag) (f : List PyData → List PyData) : Sp := fun vs H Q _ => ∃ x ds m, vs = [x] ∧ Dg K H m x (.tuple ds) ∧ (∀ d ∈ ds, Stp d) ∧ ds.length ≤ 1000 ∧ ∀ q H', Same H H' → Dg K H' m (.ref q) (.tuple (f ds)) → Q (.ref q) H'
theorem ok_line_sent (T : Txt K mg w) : FnOk P w K mg base CX0 1 T.f_line_sent T.fd_line_sent ["passing"] (spLine K sentL) := by
  refine T.F_line_sent.ok sc_line_sent (fun vs H Q E h => ?_) (fun cdv A outer s H vs Q E hr h => ?_)
  · obtain ⟨x, e, m, rfl, _⟩ := h; rfl
  · obtain ⟨x, ds, m, rfl, hd, st, ln, q⟩ := h
    refine ⟨_, (pss_one (ps_ret (pe_callTy call_tuple_of (by rfl) T.z_tuple (by decide +kernel) (pa_cons (pe_lc (own := [("step", 1)]) (g := gName 1) (by rfl) sc_line_sent.nd (pi_tup (pv 0)) (blkOk_by (own := [("step", 1)]) (N := N_line_sent) (sc := defScope s_line_sent) (by decide +kernel)) (fun _ _ _ _ _ => pg_name (i := 1) sc_line_sent.nd rfl (Or.inl rfl)) (fun _ _ _ _ _ => (pts_one (pt_cmpR op_ne (pe_ix (ix_tupK (K := K) rfl) (pv 1) pe_int (fun _ _ => rfl)) pe_str (nomark _)))) (fun _ _ _ _ _ => (pe_ix (ix_tupK (K := K) rfl) (pv 1) pe_int (fun _ _ => rfl)))) pa_nil)))), ?_⟩
    obtain ⟨a, xs, rfl, hsq, ha⟩ := hd.tup_of
    have lx := ha.len
    refine ⟨_, rfl, a, rfl, ⟨_, hsq⟩, fun D hD => ?_⟩
    refine lc_tup (K := K) (a := a) (xs := xs) (fun i H' => Same H H' ∧ ∃ acc, H' D = some (.lst acc) ∧ DgAll K H m acc (sentL (ds.take i))) ⟨Same.new (Same.refl H) hD, [], upd_same, .nil⟩ (fun i H' _ h => hsq.ext h.1) ?_ ?_
    · rintro i x H' hx ⟨s', acc, e', ha'⟩
      obtain ⟨d, hd', dx⟩ := ha.at i x hx
      obtain ⟨b, v, vs, rfl, hs, hv, _⟩ := (st d (List.mem_of_getElem? hd')).at0 dx
      have et : sentL (ds.take (i + 1)) = sentL (ds.take i) ++ (if fstD d = Str.ofString "put" then [] else [secD d]) := by
        unfold sentL
        rw [List.take_add_one, hd', List.filter_append, List.map_append]
        by_cases c : fstD d = Str.ofString "put"
        · rw [if_pos c]; simp [c]
        · rw [if_neg c]; simp [c]
      have hs' := hs.ext s'
      refine ⟨rfl, _, rfl, b, _, _, _, rfl, rfl, hs', atI_nat (j := 0) rfl, rfl, _, rfl, ?_⟩
      rw [dec_str']
      by_cases c : fstD d = Str.ofString "put"
      · rw [if_pos c, List.append_nil] at et
        rw [decide_eq_true c]
        exact iteF ⟨s', acc, e', by rw [et]; exact ha'⟩
      · rw [if_neg c] at et
        rw [decide_eq_false c]
        refine iteT ⟨_, rfl, b, _, _, _, rfl, rfl, hs', atI_nat (j := 1) rfl, acc, e', ?_, fun b o e => ?_, acc ++ [v], upd_same, by rw [et]; exact ha'.append (.cons hv .nil)⟩
        · have l := ha'.len
          have l2 : (sentL (ds.take i)).length ≤ ds.length := by
            unfold sentL
            rw [List.length_map]
            exact Nat.le_trans (List.length_filter_le _ _) (List.length_take_le' _ _)
          exact Nat.lt_of_le_of_lt (by omega : acc.length ≤ 1000) (by decide)
        · rw [upd_ne (ne_of_none e hD)]; exact s' b o e
    · rintro H' ⟨s', acc, e', ha'⟩
      rw [lx, List.take_length] at ha'
      refine ⟨D, acc, rfl, .inl ⟨SqL.of e', fun l hl => ?_⟩⟩
      have s2 : Same H (upd H' l (.tup acc)) := Same.new s' hl
      exact q l _ s2 (.tup (SqT.of upd_same) (ha'.ext s2))
theorem ok_line_that_came (T : Txt K mg w) : FnOk P w K mg base CX0 1 T.f_line_that_came T.fd_line_that_came ["passing"] (spLine K cameL) := by
  refine T.F_line_that_came.ok sc_line_that_came (fun vs H Q E h => ?_) (fun cdv A outer s H vs Q E hr h => ?_)
  · obtain ⟨x, e, m, rfl, _⟩ := h; rfl
  · obtain ⟨x, ds, m, rfl, hd, st, ln, q⟩ := h
    refine ⟨_, (pss_one (ps_ret (pe_callTy call_tuple_of (by rfl) T.z_tuple (by decide +kernel) (pa_cons (pe_lc (own := [("step", 1)]) (g := gName 1) (by rfl) sc_line_that_came.nd (pi_tup (pv 0)) (blkOk_by (own := [("step", 1)]) (N := N_line_that_came) (sc := defScope s_line_that_came) (by decide +kernel)) (fun _ _ _ _ _ => pg_name (i := 1) sc_line_that_came.nd rfl (Or.inl rfl)) (fun _ _ _ _ _ => (pts_one (pt_cmpR op_ne (pe_ix (ix_tupK (K := K) rfl) (pv 1) pe_int (fun _ _ => rfl)) pe_str (nomark _)))) (fun _ _ _ _ _ => (pe_ix (ix_tupK (K := K) rfl) (pv 1) (pe_un un_neg pe_int) (fun _ _ => rfl)))) pa_nil)))), ?_⟩
    obtain ⟨a, xs, rfl, hsq, ha⟩ := hd.tup_of
    have lx := ha.len
    refine ⟨_, rfl, a, rfl, ⟨_, hsq⟩, fun D hD => ?_⟩
    refine lc_tup (K := K) (a := a) (xs := xs) (fun i H' => Same H H' ∧ ∃ acc, H' D = some (.lst acc) ∧ DgAll K H m acc (cameL (ds.take i))) ⟨Same.new (Same.refl H) hD, [], upd_same, .nil⟩ (fun i H' _ h => hsq.ext h.1) ?_ ?_
    · rintro i x H' hx ⟨s', acc, e', ha'⟩
      obtain ⟨d, hd', dx⟩ := ha.at i x hx
      obtain ⟨b, v, vs, rfl, hs, _, u, eu, hu⟩ := (st d (List.mem_of_getElem? hd')).at0 dx
      have et : cameL (ds.take (i + 1)) = cameL (ds.take i) ++ (if fstD d = Str.ofString "lost" then [] else [lasD d]) := by
        unfold cameL
        rw [List.take_add_one, hd', List.filter_append, List.map_append]
        by_cases c : fstD d = Str.ofString "lost"
        · rw [if_pos c]; simp [c]
        · rw [if_neg c]; simp [c]
      have hs' := hs.ext s'
      refine ⟨rfl, _, rfl, b, _, _, _, rfl, rfl, hs', atI_nat (j := 0) rfl, rfl, _, rfl, ?_⟩
      rw [dec_str']
      by_cases c : fstD d = Str.ofString "lost"
      · rw [if_pos c, List.append_nil] at et
        rw [decide_eq_true c]
        exact iteF ⟨s', acc, e', by rw [et]; exact ha'⟩
      · rw [if_neg c] at et
        rw [decide_eq_false c]
        refine iteT ⟨_, rfl, _, rfl, b, _, _, _, rfl, rfl, hs', eu, acc, e', ?_, fun b o e => ?_, acc ++ [u], upd_same, by rw [et]; exact ha'.append (.cons hu .nil)⟩
        · have l := ha'.len
          have l2 : (cameL (ds.take i)).length ≤ ds.length := by
            unfold cameL
            rw [List.length_map]
            exact Nat.le_trans (List.length_filter_le _ _) (List.length_take_le' _ _)
          exact Nat.lt_of_le_of_lt (by omega : acc.length ≤ 1000) (by decide)
        · rw [upd_ne (ne_of_none e hD)]; exact s' b o e
    · rintro H' ⟨s', acc, e', ha'⟩
      rw [lx, List.take_length] at ha'
      refine ⟨D, acc, rfl, .inl ⟨SqL.of e', fun l hl => ?_⟩⟩
      have s2 : Same H (upd H' l (.tup acc)) := Same.new s' hl
      exact q l _ s2 (.tup (SqT.of upd_same) (ha'.ext s2))
theorem isPass_tup {d : PyData} (h : isPass d (.int 5) = true) : ∃ ds, d = .tuple ds ∧ ∀ e ∈ ds, isSt 5 e = true := by
  unfold isPass at h
  rw [Bool.and_eq_true] at h
  cases d with
  | tuple ds => exact ⟨ds, rfl, fun e he => List.all_eq_true.mp h.2 e he⟩
  | _ => cases h.2
/-- what a door tells of a passing -/
def spDoor (K : PySem.W.Frag) (C : Addr) (f : List PyData → PyData) : Sp := fun vs H Q E => ∃ x d m, vs = [x] ∧ Dg K H m x d ∧ BdP d ∧ (∀ ds, d = .tuple ds → isPass d (.int 5) = true → ∀ y H', Same H H' → Dg K H' m y (f ds) → Q y H') ∧ (isPass d (.int 5) = false → Bad C H x E)
theorem ok_sent (T : Txt K mg w) : FnOk P w K mg base (L2.CX P w) 7 T.f_sent T.fd_sent ["passing"] (spDoor K T.C_InvalidPassing fun ds => .tuple (sentL ds)) := by
  refine T.F_sent.okX sc_sent (fun vs H Q E h => ?_) (fun cdv A outer s H vs Q E hr h => ?_)
  · obtain ⟨x, d, m, rfl, _⟩ := h; rfl
  · obtain ⟨x, d, m, rfl, hd, bd, kT, kF⟩ := h
    refine ⟨_, (pss_cons (ps_expr (pe_call (ok_check_passing T) (hr.mono (by decide)) rfl T.g_check_passing T.F_check_passing.kp T.b_check_passing .nil (passes_call (takes_of rfl rfl rfl rfl) (fun _ _ _ _ z => z)) (pa_cons (pv 0) (pa_cons (pe_glob (v := .int (5)) rfl T.c_MOST_SIGNS ⟨_, rfl⟩) pa_nil))))
      (pss_one (ps_ret (pe_call (ok_line_sent T) (hr.mono (by decide)) rfl T.g_line_sent T.F_line_sent.kp T.b_line_sent .nil pass0 (pa_cons (pv 0) pa_nil))))), ?_⟩
    refine ⟨_, rfl, x, d, m, rfl, hd, bd, fun hp H1 s1 => ?_, kF⟩
    obtain ⟨ds, rfl, hs⟩ := isPass_tup hp
    exact ⟨_, rfl, x, ds, m, rfl, hd.ext s1, fun e he => isSt_Stp (hs e he), bd.1, fun q H' s' h' => kT ds rfl hp _ _ (s1.trans s') h'⟩
theorem ok_came (T : Txt K mg w) : FnOk P w K mg base (L2.CX P w) 7 T.f_came T.fd_came ["passing"] (spDoor K T.C_InvalidPassing fun ds => .tuple (cameL ds)) := by
  refine T.F_came.okX sc_came (fun vs H Q E h => ?_) (fun cdv A outer s H vs Q E hr h => ?_)
  · obtain ⟨x, d, m, rfl, _⟩ := h; rfl
  · obtain ⟨x, d, m, rfl, hd, bd, kT, kF⟩ := h
    refine ⟨_, (pss_cons (ps_expr (pe_call (ok_check_passing T) (hr.mono (by decide)) rfl T.g_check_passing T.F_check_passing.kp T.b_check_passing .nil (passes_call (takes_of rfl rfl rfl rfl) (fun _ _ _ _ z => z)) (pa_cons (pv 0) (pa_cons (pe_glob (v := .int (5)) rfl T.c_MOST_SIGNS ⟨_, rfl⟩) pa_nil))))
      (pss_one (ps_ret (pe_call (ok_line_that_came T) (hr.mono (by decide)) rfl T.g_line_that_came T.F_line_that_came.kp T.b_line_that_came .nil pass0 (pa_cons (pv 0) pa_nil))))), ?_⟩
    refine ⟨_, rfl, x, d, m, rfl, hd, bd, fun hp H1 s1 => ?_, kF⟩
    obtain ⟨ds, rfl, hs⟩ := isPass_tup hp
    exact ⟨_, rfl, x, ds, m, rfl, hd.ext s1, fun e he => isSt_Stp (hs e he), bd.1, fun q H' s' h' => kT ds rfl hp _ _ (s1.trans s') h'⟩
theorem ok_errors_in (T : Txt K mg w) : FnOk P w K mg base (L2.CX P w) 7 T.f_errors_in T.fd_errors_in ["passing"] (spDoor K T.C_InvalidPassing fun ds => .int (errL ds).length) := by
  refine T.F_errors_in.okX sc_errors_in (fun vs H Q E h => ?_) (fun cdv A outer s H vs Q E hr h => ?_)
  · obtain ⟨x, d, m, rfl, _⟩ := h; rfl
  · obtain ⟨x, d, m, rfl, hd, bd, kT, kF⟩ := h
    refine ⟨_, (pss_cons (ps_expr (pe_call (ok_check_passing T) (hr.mono (by decide)) rfl T.g_check_passing T.F_check_passing.kp T.b_check_passing .nil (passes_call (takes_of rfl rfl rfl rfl) (fun _ _ _ _ z => z)) (pa_cons (pv 0) (pa_cons (pe_glob (v := .int (5)) rfl T.c_MOST_SIGNS ⟨_, rfl⟩) pa_nil))))
      (pss_one (ps_ret (pe_callB call_len_seq (by rfl) T.z_len (by decide +kernel) (pa_cons (pe_lc (own := [("step", 1)]) (g := gName 1) (by rfl) sc_errors_in.nd (pi_tup (pv 0)) (blkOk_by (own := [("step", 1)]) (N := N_errors_in) (sc := defScope s_errors_in) (by decide +kernel)) (fun _ _ _ _ _ => pg_name (i := 1) sc_errors_in.nd rfl (Or.inl rfl)) (fun _ _ _ _ _ => (pts_one (pt_not (pt_val (pe_call (ok_is_free T) (hr.mono (by decide)) rfl T.g_is_free T.F_is_free.kp T.b_is_free .nil pass0 (pa_cons (pv 1) pa_nil)))))) (fun _ _ _ _ _ => (pv 1))) pa_nil))))), ?_⟩
    refine ⟨_, rfl, x, d, m, rfl, hd, bd, fun hp H1 s1 => ?_, kF⟩
    obtain ⟨ds, rfl, hs⟩ := isPass_tup hp
    obtain ⟨a, xs, rfl, hsq, ha⟩ := (hd.ext s1).tup_of
    have lx := ha.len
    have bd : ds.length ≤ 1000 ∧ ∀ e ∈ ds, Bd e := bd
    refine ⟨_, rfl, a, rfl, ⟨_, hsq⟩, fun D hD => ?_⟩
    refine lc_tup (K := K) (a := a) (xs := xs) (fun i H' => Same H1 H' ∧ ∃ acc, H' D = some (.lst acc) ∧ acc.length = (errL (ds.take i)).length) ⟨Same.new (Same.refl H1) hD, [], upd_same, rfl⟩ (fun i H' _ h => hsq.ext h.1) ?_ ?_
    · rintro i x H' hx ⟨s', acc, e', ha'⟩
      obtain ⟨d, hd', dx⟩ := ha.at i x hx
      have et : errL (ds.take (i + 1)) = errL (ds.take i) ++ (if fstD d = Str.ofString "same" then [] else [d]) := by
        unfold errL
        rw [List.take_add_one, hd', List.filter_append]
        by_cases c : fstD d = Str.ofString "same"
        · rw [if_pos c]; simp [c]
        · rw [if_neg c]; simp [c]
      refine ⟨rfl, _, rfl, x, d, m, rfl, dx.ext s', isSt_Stp (hs d (List.mem_of_getElem? hd')), _, rfl, ?_⟩
      by_cases c : fstD d = Str.ofString "same"
      · rw [if_pos c, List.append_nil] at et
        rw [decide_eq_true c]
        exact iteF ⟨s', acc, e', by rw [et]; exact ha'⟩
      · rw [if_neg c] at et
        rw [decide_eq_false c]
        refine iteT ⟨_, rfl, acc, e', ?_, fun b o e => ?_, acc ++ [x], upd_same, by rw [et, List.length_append, List.length_append, ha']; rfl⟩
        · have l2 : (errL (ds.take i)).length ≤ ds.length := by
            unfold errL
            exact Nat.le_trans (List.length_filter_le _ _) (List.length_take_le' _ _)
          exact Nat.lt_of_le_of_lt (by omega : acc.length ≤ 1000) (by decide)
        · rw [upd_ne (ne_of_none e hD)]; exact s' b o e
    · rintro H' ⟨s', acc, e', ha'⟩
      rw [lx, List.take_length] at ha'
      refine ⟨D, acc, rfl, .inl (SqL.of e'), ?_⟩
      rw [ha']
      exact kT ds rfl hp _ _ (s1.trans s') (.int _)
end
end My

set_option Elab.async false
set_option linter.all false
set_option maxRecDepth 100000
set_option maxHeartbeats 8000000
namespace My
open PySem PySem.Spec PyProof.Rows L2
def kL (n : Nat) : List PyData := (List.range n).map fun (a : Nat) => .tuple [.str (Str.ofString "lost"), .int a]
def kP (n : Nat) : List PyData := (List.range n).map fun (a : Nat) => .tuple [.str (Str.ofString "put"), .int a]
def kR (n a m : Nat) : List PyData := ((List.range m).filter fun b => decide (a ≠ b)).map fun (b : Nat) => .tuple [.str (Str.ofString "turned"), .int a, .int b]
def kT (n : Nat) : Nat → List PyData
  | 0 => []
  | a + 1 => kT n a ++ kR n a n
def kAll (n : Nat) : List PyData := kL n ++ kP n ++ kT n n
theorem kL_len (n : Nat) : (kL n).length = n := by unfold kL; rw [List.length_map, List.length_range]
theorem kP_len (n : Nat) : (kP n).length = n := by unfold kP; rw [List.length_map, List.length_range]
theorem kR_len (n a m : Nat) : (kR n a m).length ≤ m := by
  unfold kR
  rw [List.length_map]
  exact Nat.le_trans (List.length_filter_le _ _) (by rw [List.length_range]; exact Nat.le_refl _)
theorem kT_len (n : Nat) : ∀ a, (kT n a).length ≤ a * n
  | 0 => by show 0 ≤ _; exact Nat.zero_le _
  | a + 1 => by
    have := kT_len n a
    have h2 := kR_len n a n
    show (kT n a ++ kR n a n).length ≤ _
    rw [List.length_append, Nat.succ_mul]; omega
theorem kL_succ (n : Nat) : kL (n + 1) = kL n ++ [.tuple [.str (Str.ofString "lost"), .int n]] := by unfold kL; rw [List.range_succ, List.map_append]; rfl
theorem kP_succ (n : Nat) : kP (n + 1) = kP n ++ [.tuple [.str (Str.ofString "put"), .int n]] := by unfold kP; rw [List.range_succ, List.map_append]; rfl
theorem kR_succ (n a m : Nat) : kR n a (m + 1) = kR n a m ++ (if a ≠ m then [.tuple [.str (Str.ofString "turned"), .int a, .int m]] else []) := by
  unfold kR
  rw [List.range_succ, List.filter_append, List.map_append]
  by_cases c : a = m
  · simp [c]
  · simp [c]
theorem mul5 {a b : Nat} (h : a ≤ 5) (g : b ≤ 5) : a * b ≤ 25 := Nat.mul_le_mul h g
section
variable {P : Program} {w : World} {K : PySem.W.Frag} {mg : Str → Option Value} {base : Heap}
def spKinds (K : PySem.W.Frag) (C : Addr) : Sp := fun vs H Q E => ∃ x e m, vs = [x] ∧ Dg K H m x e ∧ (∀ n : Nat, e = .int n → 1 ≤ n → n ≤ 5 → ∀ D H', H D = none → Ac K H D (kAll n) H' → Q (.ref D) H') ∧ (isSg e = false → Bad C H x E)
theorem ok_all_kinds (T : Txt K mg w) : FnOk P w K mg base (L2.CX P w) 4 T.f_all_kinds T.fd_all_kinds ["signs"] (spKinds K T.C_InvalidSigns) := by
  refine T.F_all_kinds.okX sc_all_kinds (fun vs H Q E h => ?_) (fun cdv A outer s H vs Q E hr h => ?_)
  · obtain ⟨x, e, m, rfl, _⟩ := h; rfl
  · obtain ⟨x, e, m, rfl, he, kT', kF⟩ := h
    refine ⟨_, (pss_cons (ps_expr (pe_call (ok_check_signs T) (hr.mono (by decide)) rfl T.g_check_signs T.F_check_signs.kp T.b_check_signs .nil (passes_call (takes_of rfl rfl rfl rfl) (fun _ _ _ _ z => z)) (pa_cons (pv 0) pa_nil)))
      (pss_cons (ps_setLc (i := 1) (own := [("sign", 2)]) (g := gName 2) (by rfl) sc_all_kinds.nd rfl rfl (sw_true rfl rfl rfl (by decide +kernel)) (pi_range1 rfl T.z_range (pa_cons (pv 0) pa_nil)) (blkOk_by (own := [("sign", 2)]) (N := N_all_kinds) (sc := defScope s_all_kinds) (by decide +kernel)) (fun _ _ _ _ _ => pg_name (i := 2) sc_all_kinds.nd rfl (Or.inl rfl)) (fun _ _ _ _ _ => pts_nil) (fun _ _ _ _ _ => (pe_tup (pa_cons pe_str (pa_cons (pv 2) pa_nil)))))
      (pss_cons (ps_setLc (i := 3) (own := [("sign", 2)]) (g := gName 2) (by rfl) sc_all_kinds.nd rfl rfl (sw_true rfl rfl rfl (by decide +kernel)) (pi_range1 rfl T.z_range (pa_cons (pv 0) pa_nil)) (blkOk_by (own := [("sign", 2)]) (N := N_all_kinds) (sc := defScope s_all_kinds) (by decide +kernel)) (fun _ _ _ _ _ => pg_name (i := 2) sc_all_kinds.nd rfl (Or.inl rfl)) (fun _ _ _ _ _ => pts_nil) (fun _ _ _ _ _ => (pe_tup (pa_cons pe_str (pa_cons (pv 2) pa_nil)))))
      (pss_cons (ps_setLc2 (i := 4) (own := [("sign", 2), ("other", 5)]) (vs1 := [5]) (g := gName 2) (g1 := gName 5) (by rfl) sc_all_kinds.nd rfl rfl (sw_true rfl rfl rfl (by decide +kernel)) (pi_range1 rfl T.z_range (pa_cons (pv 0) pa_nil)) (blkOk_by (own := [("sign", 2), ("other", 5)]) (N := N_all_kinds) (sc := defScope s_all_kinds) (by decide +kernel)) (by decide) (fun _ _ _ _ _ => pg_name (i := 2) sc_all_kinds.nd rfl (Or.inl rfl)) (fun _ _ _ _ _ => pts_nil) (fun _ _ _ _ _ => (pi_range1 rfl T.z_range (pa_cons (pv 0) pa_nil))) (fun _ _ _ _ _ => pg_name (i := 5) sc_all_kinds.nd rfl (Or.inl rfl)) (fun _ _ _ _ _ => (pts_one (pt_cmpR op_ne (pv 2) (pv 5) (nomark _)))) (fun _ _ _ _ _ => (pe_tup (pa_cons pe_str (pa_cons (pv 2) (pa_cons (pv 5) pa_nil))))))
      (pss_one (ps_ret (pe_op op_cat (pe_op op_cat (pv 1) (pv 3)) (pv 4)))))))), ?_⟩
    refine ⟨_, rfl, x, e, m, rfl, he, fun hs => ?_, kF⟩
    obtain ⟨i, rfl, i1, i5⟩ := isSg_int hs
    obtain ⟨n, rfl⟩ : ∃ n : Nat, i = n := ⟨i.toNat, by omega⟩
    obtain rfl := he.int_of
    have q := kT' n rfl (by omega) (by omega)
    have n5 : n ≤ 5 := by omega
    refine ⟨_, rfl, _, rfl, by omega, by omega, fun D1 hD1 => ?_⟩
    rw [Int.toNat_natCast]
    refine lc_range (lo := 0) (n := n) (fun i H' => Ac K H D1 (kL i) H') (Ac.start hD1) ?_ ?_
    · rintro i H' hi h'
      refine ⟨rfl, tYesT ⟨_, rfl, (by show 2 ≤ sizeLine; decide), fun q1 hq1 => ?_⟩⟩
      rw [Int.zero_add, kL_succ]
      exact h'.tup hD1 (by rw [kL_len]; omega) hq1 (fun G => .cons (.str _) (.cons (.int _) .nil))
    rintro H1 h1
    refine ⟨_, rfl, _, rfl, by omega, by omega, fun D2 hD2 => ?_⟩
    rw [Int.toNat_natCast]
    refine lc_range (lo := 0) (n := n) (fun i H' => Ac K H1 D2 (kP i) H') (Ac.start hD2) ?_ ?_
    · rintro i H' hi h'
      refine ⟨rfl, tYesT ⟨_, rfl, (by show 2 ≤ sizeLine; decide), fun q1 hq1 => ?_⟩⟩
      rw [Int.zero_add, kP_succ]
      exact h'.tup hD2 (by rw [kP_len]; omega) hq1 (fun G => .cons (.str _) (.cons (.int _) .nil))
    rintro H2 h2
    refine ⟨_, rfl, _, rfl, by omega, by omega, fun D3 hD3 => ?_⟩
    rw [Int.toNat_natCast]
    refine lc2_range (lo := 0) (n := n) (fun i H' => Ac K H2 D3 (kT n i) H') (Ac.start hD3) ?_ ?_
    · rintro i H' hi h'
      refine ⟨rfl, tYesT ⟨_, rfl, _, rfl, by omega, by omega, ?_⟩⟩
      rw [Int.toNat_natCast]
      refine lcr_inner (lo := 0) (n := n) (fun j H' => Ac K H2 D3 (kT n i ++ kR n i j) H') (by show Ac K H2 D3 (kT n i ++ []) H'; rw [List.append_nil]; exact h') ?_ (fun H' h' => h')
      rintro j H' hj h'
      refine ⟨rfl, _, rfl, _, rfl, rfl, _, rfl, ?_⟩
      rw [kR_succ, ← List.append_assoc]
      have ll : (kT n i ++ kR n i j).length ≤ 10000 := by
        have a := kT_len n i
        have b := kR_len n i j
        have c := mul5 (a := i) (b := n) (by omega) (by omega)
        rw [List.length_append]; omega
      rw [Int.zero_add, Int.zero_add]
      by_cases c : i = j
      · rw [decide_eq_true (show V.int (i : Int) = V.int (j : Int) by rw [c])]
        refine iteF ?_
        rw [if_neg (fun z => z c), List.append_nil]
        exact h'
      · rw [decide_eq_false (fun z => c (by have := V.int.inj z; omega)), if_pos c]
        exact iteT ⟨_, rfl, _, rfl, (by show 3 ≤ sizeLine; decide), fun q1 hq1 => h'.tup hD3 ll hq1 (fun G => .cons (.str _) (.cons (.int _) (.cons (.int _) .nil)))⟩
    rintro H3 h3
    obtain ⟨s1, a1, e1, g1⟩ := h1
    obtain ⟨s2, a2, e2, g2⟩ := h2
    obtain ⟨s3, a3, e3, g3⟩ := h3
    have s23 := s2.trans s3
    have g1' := (g1.dg).ext s23
    have g2' := (g2.dg).ext s3
    have g3' := g3.dg
    have l1 := g1.len
    have l2 := g2.len
    have l3 := g3.len
    rw [kL_len] at l1
    rw [kP_len] at l2
    have l3' := kT_len n n
    have c5 := mul5 n5 n5
    refine ⟨_, rfl, _, rfl, D1, D2, a1, a2, rfl, rfl, s23 _ _ e1, s3 _ _ e2, Nat.le_trans (by omega : _ ≤ 100) (by decide), fun p1 hp1 => ?_⟩
    have n13 : D3 ≠ p1 := ne_of_none e3 hp1
    refine ⟨_, rfl, p1, D3, a1 ++ a2, a3, rfl, rfl, upd_same, by rw [upd_ne n13]; exact e3, Nat.le_trans (by rw [List.length_append]; omega : _ ≤ 100) (by decide), fun p2 hp2 => ?_⟩
    have s4 : Same H3 (upd H3 p1 (.lst (a1 ++ a2))) := Same.new (Same.refl _) hp1
    have s0 := s1.trans s23
    have hp2' : H p2 = none := (s0.trans s4).free hp2
    refine q p2 _ hp2' ⟨Same.new (s0.trans s4) hp2, _, upd_same, ?_⟩
    exact DgAll.ext ((Same.trans s4 (same_wo hp2))) ((g1'.append g2').append g3')
end
end My

set_option Elab.async false
set_option linter.all false
set_option maxRecDepth 100000
set_option maxHeartbeats 8000000
namespace My
open PySem PySem.Spec PyProof.Rows L2
section
variable {P : Program} {w : World} {K : PySem.W.Frag} {mg : Str → Option Value} {base : Heap}
def spCell (K : PySem.W.Frag) : Sp := fun vs H Q _ => ∃ (a : Addr) (ns : List Int) (k : Nat), vs = [.ref a, .int k] ∧ SqL K H a (ns.map V.int) ∧ ∀ c H', Same H H' → Q (.int c) H'
theorem ok_law_cell (T : Txt K mg w) : FnOk P w K mg base CX0 1 T.f_law_cell T.fd_law_cell ["script", "k"] (spCell K) := by
  refine T.F_law_cell.ok sc_law_cell (fun vs H Q E h => ?_) (fun cdv A outer s H vs Q E hr h => ?_)
  · obtain ⟨a, ns, k, rfl, _⟩ := h; rfl
  · obtain ⟨a, ns, k, rfl, hS, q⟩ := h
    refine ⟨_, (pss_one (ps_ret (pe_ifExp (pt_cmpR op_lt (pv 1) (pe_callB call_len_seq (by rfl) T.z_len (by decide +kernel) (pa_cons (pv 0) pa_nil)) (nomark _)) (pe_ix ix_list (pv 0) (pv 1) (fun _ _ => rfl)) (pe_op op_add (pe_op op_mul pe_int (pv 1)) (pe_op op_mod (pe_callB (cr_sum rfl) (by rfl) T.z_sum (by decide +kernel) (pa_cons (pe_slice sl_list (pv 0) po_none (po_some pe_int)) pa_nil)) pe_int))))), ?_⟩
    refine ⟨_, rfl, _, rfl, a, _, rfl, .inl hS, _, _, rfl, rfl, _, rfl, ite2 (fun c => ?_) (fun c => ?_)⟩
    · have c' := of_decide_eq_true c
      have hk : k < ns.length := by rw [List.length_map] at c'; omega
      exact ⟨_, rfl, _, rfl, a, _, _, _, rfl, rfl, hS, atI_nat (j := k) (v := V.int ns[k]) (by rw [List.getElem?_map, List.getElem?_eq_getElem hk]; rfl), q _ H (Same.refl H)⟩
    · refine ⟨_, rfl, _, _, rfl, rfl, .inl (by decide), _, rfl, 1, rfl, a, _, rfl, hS, fun p hp => ?_⟩
      rw [show cutV (ns.map V.int) none (some 1) = (ns.take 1).map V.int by rw [show (some (1 : Int)) = some ((1 : Nat) : Int) from rfl, cutV_to, List.map_take]]
      exact ⟨p, ns.take 1, rfl, SqL.of upd_same, _, _, rfl, rfl, (by show (0 : Int) < 1000081; decide), _, _, rfl, rfl, q _ _ (Same.new (Same.refl H) hp)⟩
def spBox : Sp := fun vs H Q _ => ∃ c : Int, vs = [.int c] ∧ ∀ p o, H p = none → BoxO 0 o → Q (.ref p) (upd H p o)
theorem ok_law_box (T : Txt K mg w) : FnOk P w K mg base CX0 1 T.f_law_box T.fd_law_box ["great"] spBox := by
  refine T.F_law_box.ok sc_law_box (fun vs H Q E h => ?_) (fun cdv A outer s H vs Q E hr h => ?_)
  · obtain ⟨c, rfl, _⟩ := h; rfl
  · obtain ⟨c, rfl, q⟩ := h
    refine ⟨_, (pss_one (ps_ret (pe_lst (pa_cons (pe_callB call_abs (by rfl) T.z_abs (by decide +kernel) (pa_cons (pv 0) pa_nil)) (pa_cons (pe_cmpR op_ge (pe_callB call_abs (by rfl) T.z_abs (by decide +kernel) (pa_cons (pv 0) pa_nil)) (pe_op op_pow pe_int pe_int) (nomark _)) (pa_cons (pe_op op_mod (pe_callTy call_int1 (by rfl) T.z_int (by decide +kernel) (pa_cons (pe_callB call_abs (by rfl) T.z_abs (by decide +kernel) (pa_cons (pv 0) pa_nil)) pa_nil)) pe_int) (pa_cons pe_int pa_nil))))))), ?_⟩
    refine ⟨_, rfl, _, rfl, _, rfl, _, rfl, _, _, rfl, rfl, ⟨by decide, by decide, by decide⟩, _, _, rfl, rfl, _, rfl, _, rfl, .inl ⟨_, rfl, _, _, rfl, rfl, (by show (0 : Int) < 2147483629; decide), (by show 4 ≤ sizeLine; decide), fun p hp => q p _ hp ⟨_, _, _, _, rfl, ?_, ?_, Int.le_refl 0, Int.le_refl 0⟩⟩⟩
    · exact Int.emod_nonneg _ (by decide)
    · have := Int.emod_lt_of_pos (if c < 0 then -c else c) (by decide : (0 : Int) < 2147483629)
      omega
/-- a draw below many; the box goes on -/
def spTake : Sp := fun vs H Q _ => ∃ (p : Addr) (n : Nat) (many : Int), vs = [.ref p, .int many] ∧ BoxAt H p n ∧ n < 1000000000 ∧ 0 < many ∧ many < 1000000 ∧
  ∀ (d : Nat) o, (d : Int) < many → BoxO (n + 1) o → Q (.int d) (upd H p o)
theorem ok_law_take (T : Txt K mg w) : FnOk P w K mg base CX0 1 T.f_law_take T.fd_law_take ["box", "many"] spTake := by
  refine T.F_law_take.ok sc_law_take (fun vs H Q E h => ?_) (fun cdv A outer s H vs Q E hr h => ?_)
  · obtain ⟨p, n, m, rfl, _⟩ := h; rfl
  · obtain ⟨p, n, many, rfl, ⟨o, ho, a, m, c, b, rfl, m0, m1, c0, c1⟩, hn, p0, p1, q⟩ := h
    refine ⟨_, (pss_cons (ps_if (PW.pt (pw_and (pt_val (pe_ix ix_list (pv 0) pe_int (fun _ _ => rfl))) (pw_and1 (pt_cmpR op_gt (pe_ix ix_list (pv 0) pe_int (fun _ _ => rfl)) pe_int (nomark _))))) (pss_cons (ps_set (i := 2) sc_law_take.nd rfl (Or.inl rfl) (pe_op op_mod (pe_callTy call_int1 (by rfl) T.z_int (by decide +kernel) (pa_cons (pe_ix ix_list (pv 0) pe_int (fun _ _ => rfl)) pa_nil)) (pv 1)))
      (pss_cons (ps_asg (pe_op op_fdivW (pe_ix ix_list (pv 0) pe_int (fun _ _ => rfl)) (pv 1)) (pg_sub (pv 0) pe_int set_list))
      (pss_one (ps_ret (pv 2))))) pss_nil)
      (pss_cons (ps_asg (pe_op op_add (pe_ix ix_list (pv 0) pe_int (fun _ _ => rfl)) pe_int) (pg_sub (pv 0) pe_int set_list))
      (pss_cons (ps_set (i := 3) sc_law_take.nd rfl (Or.inl rfl) (pe_op op_mod (pe_callTy call_int1 (by rfl) T.z_int (by decide +kernel) (pa_cons (pe_op op_pow (pe_op op_add (pe_op op_add (pe_ix ix_list (pv 0) pe_int (fun _ _ => rfl)) (pe_op op_mul pe_int (pe_ix ix_list (pv 0) pe_int (fun _ _ => rfl)))) pe_int) pe_int) pa_nil)) pe_int))
      (pss_one (ps_ret (pe_op op_mod (pe_op op_fdivW (pe_op op_mod (pe_callTy call_int1 (by rfl) T.z_int (by decide +kernel) (pa_cons (pe_op op_pow (pe_op op_add (pe_op op_mul (pv 3) pe_int) (pe_op op_mul pe_int (pe_ix ix_list (pv 0) pe_int (fun _ _ => rfl)))) pe_int) pa_nil)) pe_int) pe_int) (pv 1))))))), ?_⟩
    have at0 : atI [V.int a, .bl b, .int m, .int c] 0 = some (.int a) := atI_nat (j := 0) rfl
    have at1 : atI [V.int a, .bl b, .int m, .int c] 1 = some (.bl b) := atI_nat (j := 1) rfl
    have at3 : atI [V.int a, .bl b, .int m, .int c] 3 = some (.int c) := atI_nat (j := 3) rfl
    have lm : CDivW a many := ⟨p0, by
      have : many.natAbs < 2 ^ 20 := by omega
      exact Nat.lt_of_lt_of_le (PySem.Flt.log2_lt_of (by decide) this) (by decide)⟩
    have second : tSeq (tAsg (tOp (rI0 fun i j => .int (i + j)) (tOp (rIxL K) (tVar 0) (tC (.int 3))) (tC (.int 1))) (gSub (tVar 0) (tC (.int 3)) rSetL))
        (tSeq (tAsg (tOp (rI (fun _ j => 0 < j) fun i j => .int (i % j)) (tCB (fun xs H Q => (∃ i, xs = [.int i] ∧ Q (.int i) H) ∨ ∃ k, xs = [.bl k] ∧ Q (.int (if k then 1 else 0)) H) (tCons (tOp (rI CPow fun i j => .int (i ^ j.toNat)) (tOp (rI0 fun i j => .int (i + j)) (tOp (rI0 fun i j => .int (i + j)) (tOp (rIxL K) (tVar 0) (tC (.int 2))) (tOp (rI CMul fun i j => .int (i * j)) (tC (.int 15485863)) (tOp (rIxL K) (tVar 0) (tC (.int 3))))) (tC (.int 179424697))) (tC (.int 5))) tNil)) (tC (.int 2147483647))) (gName 3))
        (tRet (tOp (rI (fun _ j => 0 < j) fun i j => .int (i % j)) (tOp (rI CDivW fun i j => .int (i / j)) (tOp (rI (fun _ j => 0 < j) fun i j => .int (i % j)) (tCB (fun xs H Q => (∃ i, xs = [.int i] ∧ Q (.int i) H) ∨ ∃ k, xs = [.bl k] ∧ Q (.int (if k then 1 else 0)) H) (tCons (tOp (rI CPow fun i j => .int (i ^ j.toNat)) (tOp (rI0 fun i j => .int (i + j)) (tOp (rI CMul fun i j => .int (i * j)) (tVar 3) (tC (.int 48271))) (tOp (rI CMul fun i j => .int (i * j)) (tC (.int 104723)) (tOp (rIxL K) (tVar 0) (tC (.int 3))))) (tC (.int 3))) tNil)) (tC (.int 2147483587))) (tC (.int 64))) (tVar 1))))
        { nx := fun _ H' => Q .non H', rt := Q } [some (.ref p), some (.int many), none, none] H := by
      refine ⟨_, rfl, p, _, _, _, rfl, rfl, SqL.of ho, at3, _, _, rfl, rfl, _, rfl, p, _, 3, 3, rfl, rfl, ho, rfl, ?_⟩
      have hu : upd H p (.lst [.int a, .bl b, .int m, .int (c + 1)]) p = some (.lst [.int a, .bl b, .int m, .int (c + 1)]) := upd_same
      refine ⟨_, rfl, p, _, _, _, rfl, rfl, SqL.of hu, atI_nat (j := 2) rfl, _, rfl, p, _, _, _, rfl, rfl, SqL.of hu, atI_nat (j := 3) rfl, _, _, rfl, rfl, .inl (by decide), _, _, rfl, rfl, _, _, rfl, rfl, _, _, rfl, rfl, ⟨by decide, by decide, by omega⟩, .inl ⟨_, rfl, _, _, rfl, rfl, (by show (0 : Int) < 2147483647; decide), ?_⟩⟩
      refine ⟨_, rfl, _, _, rfl, rfl, .inr (by decide), _, rfl, p, _, _, _, rfl, rfl, SqL.of hu, atI_nat (j := 3) rfl, _, _, rfl, rfl, .inl (by decide), _, _, rfl, rfl, _, _, rfl, rfl, ⟨by decide, by decide, by omega⟩, .inl ⟨_, rfl, _, _, rfl, rfl, (by show (0 : Int) < 2147483587; decide), _, _, rfl, rfl, ⟨by decide, by decide⟩, _, rfl, _, _, rfl, rfl, p0, ?_⟩⟩
      have y0 := Int.emod_nonneg ((((m + 15485863 * (c + 1) + 179424697) ^ (5 : Int).toNat % 2147483647) * 48271 + 104723 * (c + 1)) ^ (3 : Int).toNat % 2147483587 / 64) (by omega : many ≠ 0)
      have y1 := Int.emod_lt_of_pos ((((m + 15485863 * (c + 1) + 179424697) ^ (5 : Int).toNat % 2147483647) * 48271 + 104723 * (c + 1)) ^ (3 : Int).toNat % 2147483587 / 64) p0
      show Q (.int ((((m + 15485863 * (c + 1) + 179424697) ^ (5 : Int).toNat % 2147483647) * 48271 + 104723 * (c + 1)) ^ (3 : Int).toNat % 2147483587 / 64 % many)) _
      generalize (((m + 15485863 * (c + 1) + 179424697) ^ (5 : Int).toNat % 2147483647) * 48271 + 104723 * (c + 1)) ^ (3 : Int).toNat % 2147483587 / 64 % many = y at *
      obtain ⟨d, rfl⟩ : ∃ d : Nat, y = d := ⟨y.toNat, by omega⟩
      exact q d _ y1 ⟨a, m, c + 1, b, rfl, m0, m1, by omega, by omega⟩
    refine ⟨_, rfl, p, _, _, _, rfl, rfl, SqL.of ho, at1, b, rfl, ?_⟩
    cases b with
    | false => exact iteF (iteF second)
    | true =>
      refine iteT ⟨_, rfl, p, _, _, _, rfl, rfl, SqL.of ho, at0, _, _, rfl, rfl, _, rfl, ite2 (fun z => ?_) (fun z => second)⟩
      refine ⟨_, rfl, p, _, _, _, rfl, rfl, SqL.of ho, at0, .inl ⟨_, rfl, _, rfl, _, _, rfl, rfl, p0, ?_⟩⟩
      refine ⟨_, rfl, p, _, _, _, rfl, rfl, SqL.of ho, at0, _, rfl, _, _, rfl, rfl, lm, _, rfl, p, _, 0, 0, rfl, rfl, ho, rfl, _, rfl, ?_⟩
      have y0 := Int.emod_nonneg a (by omega : many ≠ 0)
      have y1 := Int.emod_lt_of_pos a p0
      show Q (.int (a % many)) _
      generalize a % many = y at *
      obtain ⟨d, rfl⟩ : ∃ d : Nat, y = d := ⟨y.toNat, by omega⟩
      exact q d _ y1 ⟨a / many, m, c, true, rfl, m0, m1, c0, by omega⟩
theorem ok_law_is_signs (T : Txt K mg w) : FnOk P w K mg base CX0 1 T.f_law_is_signs T.fd_law_is_signs ["value"] (spD K isSg) := by
  refine T.F_law_is_signs.ok sc_law_is_signs (fun vs H Q E h => ?_) (fun cdv A outer s H vs Q E hr h => ?_)
  · obtain ⟨x, d, m, rfl, _⟩ := h; rfl
  · obtain ⟨x, d, m, rfl, hd, q⟩ := h
    refine ⟨_, (pss_one (ps_ret (pe_and (pe_callB call_isi (by rfl) T.z_isinstance (by decide +kernel) (pa_cons (pv 0) (pa_cons (pe_bltn (v := .ty "int") (u := .type "int") (by rfl) T.z_int (by decide +kernel) rfl) pa_nil))) (pe_and (pe_not (pe_callB call_isi (by rfl) T.z_isinstance (by decide +kernel) (pa_cons (pv 0) (pa_cons (pe_bltn (v := .ty "bool") (u := .type "bool") (by rfl) T.z_bool (by decide +kernel) rfl) pa_nil)))) (pe_one (pe_chain op_le op_le pe_int (pv 0) pe_int)))))), ?_⟩
    refine ⟨_, rfl, _, _, _, _, isNumD d, rfl, .ty _, hd.ty, kit_numD d, _, rfl, ?_⟩
    cases d with
    | int i =>
      obtain rfl := hd.int_of
      refine iteT ⟨_, rfl, _, _, _, _, false, rfl, .ty _, hd.ty, kit_blD _, _, rfl, _, rfl, iteT ⟨_, rfl, _, _, rfl, rfl, _, rfl, ?_⟩⟩
      have q' : Q (.bl (decide (1 ≤ i) && decide (i ≤ 5))) H := q
      refine ite2 (fun c => ?_) (fun c => ?_)
      · rw [c, Bool.true_and] at q'
        exact ⟨_, _, rfl, rfl, q'⟩
      · rw [Bool.not_eq_true] at c
        rw [c, Bool.false_and] at q'
        exact q'
    | bool b => exact iteT ⟨_, rfl, _, _, _, _, true, rfl, .ty _, hd.ty, kit_blD _, _, rfl, _, rfl, iteF q⟩
    | _ => exact iteF q
theorem ok_law_is_sign (T : Txt K mg w) : FnOk P w K mg base CX0 1 T.f_law_is_sign T.fd_law_is_sign ["value", "signs"] (spDn K isBe) := by
  refine T.F_law_is_sign.ok sc_law_is_sign (fun vs H Q E h => ?_) (fun cdv A outer s H vs Q E hr h => ?_)
  · obtain ⟨x, d, m, n, rfl, _⟩ := h; rfl
  · obtain ⟨x, d, m, n, rfl, hd, q⟩ := h
    refine ⟨_, (pss_one (ps_ret (pe_and (pe_callB call_isi (by rfl) T.z_isinstance (by decide +kernel) (pa_cons (pv 0) (pa_cons (pe_bltn (v := .ty "int") (u := .type "int") (by rfl) T.z_int (by decide +kernel) rfl) pa_nil))) (pe_and (pe_not (pe_callB call_isi (by rfl) T.z_isinstance (by decide +kernel) (pa_cons (pv 0) (pa_cons (pe_bltn (v := .ty "bool") (u := .type "bool") (by rfl) T.z_bool (by decide +kernel) rfl) pa_nil)))) (pe_one (pe_chain op_le op_lt pe_int (pv 0) (pv 1))))))), ?_⟩
    refine ⟨_, rfl, _, _, _, _, isNumD d, rfl, .ty _, hd.ty, kit_numD d, _, rfl, ?_⟩
    cases d with
    | int i =>
      obtain rfl := hd.int_of
      refine iteT ⟨_, rfl, _, _, _, _, false, rfl, .ty _, hd.ty, kit_blD _, _, rfl, _, rfl, iteT ⟨_, rfl, _, _, rfl, rfl, _, rfl, ?_⟩⟩
      have q' : Q (.bl (decide (0 ≤ i) && decide (i < n))) H := q
      refine ite2 (fun c => ?_) (fun c => ?_)
      · rw [c, Bool.true_and] at q'
        exact ⟨_, rfl, _, _, rfl, rfl, q'⟩
      · rw [Bool.not_eq_true] at c
        rw [c, Bool.false_and] at q'
        exact q'
    | bool b => exact iteT ⟨_, rfl, _, _, _, _, true, rfl, .ty _, hd.ty, kit_blD _, _, rfl, _, rfl, iteF q⟩
    | _ => exact iteF q
theorem isKd2 (n : Int) (a b : PyData) : isKd n (.tuple [a, b]) = ((isS (Str.ofString "lost") a || isS (Str.ofString "put") a) && isBe n b) := by cases a <;> rfl
theorem isSm2 (n : Int) (a b : PyData) : isSm n (.tuple [a, b]) = (isS (Str.ofString "same") a && isBe n b) := by cases a <;> rfl
theorem isKd3 (n : Int) (a b c : PyData) : isKd n (.tuple [a, b, c]) = (isS (Str.ofString "turned") a && (isBe n b && (isBe n c && !eqI b c))) := by cases a <;> rfl
def spLk (K : PySem.W.Frag) (f : Int → PyData → Bool) : Sp := fun vs H Q _ => ∃ x d m n, vs = [x, .int n] ∧ 1 ≤ n ∧ n ≤ 5 ∧ Dg K H m x d ∧ Q (.bl (f n d)) H
theorem ok_law_is_kind (T : Txt K mg w) : FnOk P w K mg base CX0 2 T.f_law_is_kind T.fd_law_is_kind ["value", "signs"] (spLk K isKd) := by
  refine T.F_law_is_kind.ok sc_law_is_kind (fun vs H Q E h => ?_) (fun cdv A outer s H vs Q E hr h => ?_)
  · obtain ⟨x, d, m, n, rfl, _⟩ := h; rfl
  · obtain ⟨x, d, m, n, rfl, n1, n5, hd, q⟩ := h
    refine ⟨_, (pss_cons (ps_if (PW.pt (pw_or (pt_not (pt_val (pe_call (ok_law_is_signs T) (hr.mono (by decide)) rfl T.g_law_is_signs T.F_law_is_signs.kp T.b_law_is_signs .nil pass0 (pa_cons (pv 1) pa_nil)))) (pw_or1 (pt_not (pt_val (pe_callB call_isi (by rfl) T.z_isinstance (by decide +kernel) (pa_cons (pv 0) (pa_cons (pe_bltn (v := .ty "tuple") (u := .type "tuple") (by rfl) T.z_tuple (by decide +kernel) rfl) pa_nil)))))))) (pss_one (ps_ret pe_bl)) pss_nil)
      (pss_cons (ps_if (pt_cmpR op_eq (pe_callB call_len_seq (by rfl) T.z_len (by decide +kernel) (pa_cons (pv 0) pa_nil)) pe_int (nomark _)) (pss_one (ps_ret (pe_and (pe_or (pe_cmpR (op_eqGS (un64 hr)) (pe_ix ix_tup (pv 0) pe_int (fun _ _ => rfl)) pe_str (nomark _)) (pe_one (pe_cmpR (op_eqGS (un64 hr)) (pe_ix ix_tup (pv 0) pe_int (fun _ _ => rfl)) pe_str (nomark _)))) (pe_one (pe_call (ok_law_is_sign T) (hr.mono (by decide)) rfl T.g_law_is_sign T.F_law_is_sign.kp T.b_law_is_sign .nil pass0 (pa_cons (pe_ix ix_tup (pv 0) pe_int (fun _ _ => rfl)) (pa_cons (pv 1) pa_nil))))))) pss_nil)
      (pss_cons (ps_if (PW.pt (pw_or (pt_cmpR op_ne (pe_callB call_len_seq (by rfl) T.z_len (by decide +kernel) (pa_cons (pv 0) pa_nil)) pe_int (nomark _)) (pw_or1 (pt_cmpR (op_neGS (un64 hr)) (pe_ix ix_tup (pv 0) pe_int (fun _ _ => rfl)) pe_str (nomark _))))) (pss_one (ps_ret pe_bl)) pss_nil)
      (pss_one (ps_ret (pe_and (pe_call (ok_law_is_sign T) (hr.mono (by decide)) rfl T.g_law_is_sign T.F_law_is_sign.kp T.b_law_is_sign .nil pass0 (pa_cons (pe_ix ix_tup (pv 0) pe_int (fun _ _ => rfl)) (pa_cons (pv 1) pa_nil))) (pe_and (pe_call (ok_law_is_sign T) (hr.mono (by decide)) rfl T.g_law_is_sign T.F_law_is_sign.kp T.b_law_is_sign .nil pass0 (pa_cons (pe_ix ix_tup (pv 0) pe_int (fun _ _ => rfl)) (pa_cons (pv 1) pa_nil))) (pe_one (pe_cmpR op_ne (pe_ix ix_tup (pv 0) pe_int (fun _ _ => rfl)) (pe_ix ix_tup (pv 0) pe_int (fun _ _ => rfl)) (nomark _)))))))))), ?_⟩
    have sg : isSg (.int n) = true := by show (decide (1 ≤ n) && decide (n ≤ 5)) = true; rw [decide_eq_true n1, decide_eq_true n5]; rfl
    refine ⟨_, rfl, _, .int n, true, rfl, .int n, _, rfl, ?_⟩
    rw [sg]
    refine iteF ⟨_, rfl, _, _, _, _, isTupD d, rfl, .ty _, hd.ty, kit_tupD d, _, rfl, ?_⟩
    cases d with
    | tuple ds =>
      obtain ⟨a, xs, rfl, hs, ha⟩ := hd.tup_of
      have hl := ha.len
      refine iteF ⟨_, rfl, a, xs, rfl, .inr hs, rfl, _, rfl, ?_⟩
      by_cases c2 : ds.length = 2
      · rw [decide_eq_true (show V.int (xs.length : Int) = V.int 2 by rw [hl, c2]; rfl)]
        match ds, c2, ha, q with
        | [e0, e1], _, ha, q =>
          obtain ⟨x0, ys, rfl, h0, ha⟩ := ha.cons_of
          obtain ⟨x1, ys, rfl, h1, ha⟩ := ha.cons_of
          obtain rfl := ha.nil_of
          rw [isKd2] at q
          have snd : tCall (spDn K isBe) [] E0 (tCons (tOp (rIxT K) (tVar 0) (tC (.int 1))) (tCons (tVar 1) tNil)) [some (.ref a), some (.int n)] H (fun v H' => v = .bl (isBe n e1) ∧ H' = H) :=
            ⟨_, rfl, a, _, _, _, rfl, rfl, hs, atI_nat (j := 1) rfl, _, rfl, x1, e1, m, n, rfl, h1, rfl, rfl⟩
          refine iteT ⟨_, rfl, a, _, _, _, rfl, rfl, hs, atI_nat (j := 0) rfl, e0, m, _, h0, rfl, _, rfl, ?_⟩
          have fin : isS (Str.ofString "lost") e0 = true ∨ isS (Str.ofString "put") e0 = true → tCall (spDn K isBe) [] E0 (tCons (tOp (rIxT K) (tVar 0) (tC (.int 1))) (tCons (tVar 1) tNil)) [some (.ref a), some (.int n)] H Q := fun z => by
            have e : (isS (Str.ofString "lost") e0 || isS (Str.ofString "put") e0) = true := by rcases z with z | z <;> simp [z]
            rw [e, Bool.true_and] at q
            exact ⟨_, rfl, a, _, _, _, rfl, rfl, hs, atI_nat (j := 1) rfl, _, rfl, x1, e1, m, n, rfl, h1, q⟩
          cases z : isS (Str.ofString "lost") e0 with
          | true => exact iteT ⟨_, rfl, iteT (fin (.inl z))⟩
          | false =>
            refine iteF ⟨_, rfl, a, _, _, _, rfl, rfl, hs, atI_nat (j := 0) rfl, e0, m, _, h0, rfl, _, rfl, ?_⟩
            cases z2 : isS (Str.ofString "put") e0 with
            | true => exact iteT (fin (.inr z2))
            | false =>
              rw [z, z2] at q
              exact iteF q
      · rw [decide_eq_false (show ¬ V.int (xs.length : Int) = V.int 2 from fun z => c2 (by have := V.int.inj z; omega))]
        refine iteF ⟨_, rfl, a, xs, rfl, .inr hs, rfl, _, rfl, ?_⟩
        by_cases c3 : ds.length = 3
        · rw [decide_eq_true (show V.int (xs.length : Int) = V.int 3 by rw [hl, c3]; rfl)]
          match ds, c3, ha, q with
          | [e0, e1, e2], _, ha, q =>
            obtain ⟨x0, ys, rfl, h0, ha⟩ := ha.cons_of
            obtain ⟨x1, ys, rfl, h1, ha⟩ := ha.cons_of
            obtain ⟨x2, ys, rfl, h2, ha⟩ := ha.cons_of
            obtain rfl := ha.nil_of
            rw [isKd3] at q
            refine iteF ⟨_, rfl, a, _, _, _, rfl, rfl, hs, atI_nat (j := 0) rfl, e0, m, _, h0, rfl, _, rfl, ?_⟩
            cases z : isS (Str.ofString "turned") e0 with
            | false => rw [z] at q; exact iteT q
            | true =>
              rw [z, Bool.true_and] at q
              refine iteF ⟨_, rfl, a, _, _, _, rfl, rfl, hs, atI_nat (j := 1) rfl, _, rfl, x1, e1, m, n, rfl, h1, _, rfl, ?_⟩
              cases z1 : isBe n e1 with
              | false => rw [z1] at q; exact iteF q
              | true =>
                rw [z1, Bool.true_and] at q
                refine iteT ⟨_, rfl, a, _, _, _, rfl, rfl, hs, atI_nat (j := 2) rfl, _, rfl, x2, e2, m, n, rfl, h2, _, rfl, ?_⟩
                cases z2 : isBe n e2 with
                | false => rw [z2] at q; exact iteF q
                | true =>
                  rw [z2, Bool.true_and] at q
                  obtain ⟨i, rfl, _⟩ := isBe_int z1
                  obtain ⟨j, rfl, _⟩ := isBe_int z2
                  obtain rfl := h1.int_of
                  obtain rfl := h2.int_of
                  refine iteT ⟨_, rfl, a, _, _, _, rfl, rfl, hs, atI_nat (j := 1) rfl, _, rfl, a, _, _, _, rfl, rfl, hs, atI_nat (j := 2) rfl, rfl, ?_⟩
                  have e : (!decide (V.int i = V.int j)) = !eqI (.int i) (.int j) := by
                    show _ = !decide (i = j)
                    rw [Bool.eq_iff_iff]; simp
                  rw [e]; exact q
        · rw [decide_eq_false (show ¬ V.int (xs.length : Int) = V.int 3 from fun z => c3 (by have := V.int.inj z; omega))]
          have e : isKd n (.tuple ds) = false := by
            match ds, c2, c3 with
            | [], _, _ => rfl
            | [e], _, _ => cases e <;> rfl
            | [_, _], c, _ => exact absurd rfl c
            | [_, _, _], _, c => exact absurd rfl c
            | e :: _ :: _ :: _ :: _, _, _ => cases e <;> rfl
          rw [e] at q
          exact iteT (iteT q)
    | _ => exact iteT q
theorem ok_law_is_passing (T : Txt K mg w) : FnOk P w K mg base CX0 3 T.f_law_is_passing T.fd_law_is_passing ["value", "signs"] (spLk K fun n d => isPass d (.int n)) := by
  refine T.F_law_is_passing.ok sc_law_is_passing (fun vs H Q E h => ?_) (fun cdv A outer s H vs Q E hr h => ?_)
  · obtain ⟨x, d, m, n, rfl, _⟩ := h; rfl
  · obtain ⟨x, d, m, n, rfl, n1, n5, hd, q⟩ := h
    refine ⟨_, (pss_cons (ps_if (PW.pt (pw_or (pt_not (pt_val (pe_call (ok_law_is_signs T) (hr.mono (by decide)) rfl T.g_law_is_signs T.F_law_is_signs.kp T.b_law_is_signs .nil pass0 (pa_cons (pv 1) pa_nil)))) (pw_or1 (pt_not (pt_val (pe_callB call_isi (by rfl) T.z_isinstance (by decide +kernel) (pa_cons (pv 0) (pa_cons (pe_bltn (v := .ty "tuple") (u := .type "tuple") (by rfl) T.z_tuple (by decide +kernel) rfl) pa_nil)))))))) (pss_one (ps_ret pe_bl)) pss_nil)
      (pss_cons (ps_for PassesOwn.never rfl (pi_tup (pv 0)) (pg_name (i := 2) sc_law_is_passing.nd rfl (Or.inl rfl)) (pss_cons (ps_set (i := 3) sc_law_is_passing.nd rfl (Or.inl rfl) (pe_and (pe_callB call_isi (by rfl) T.z_isinstance (by decide +kernel) (pa_cons (pv 2) (pa_cons (pe_bltn (v := .ty "tuple") (u := .type "tuple") (by rfl) T.z_tuple (by decide +kernel) rfl) pa_nil))) (pe_and (pe_cmpR op_eq (pe_callB call_len_seq (by rfl) T.z_len (by decide +kernel) (pa_cons (pv 2) pa_nil)) pe_int (nomark _)) (pe_and (pe_cmpR (op_eqGS (un64 hr)) (pe_ix ix_tup (pv 2) pe_int (fun _ _ => rfl)) pe_str (nomark _)) (pe_one (pe_call (ok_law_is_sign T) (hr.mono (by decide)) rfl T.g_law_is_sign T.F_law_is_sign.kp T.b_law_is_sign .nil pass0 (pa_cons (pe_ix ix_tup (pv 2) pe_int (fun _ _ => rfl)) (pa_cons (pv 1) pa_nil))))))))
      (pss_one (ps_if (PW.pt (pw_and (pt_not (pt_val (pv 3))) (pw_and1 (pt_not (pt_val (pe_call (ok_law_is_kind T) (hr.mono (by decide)) rfl T.g_law_is_kind T.F_law_is_kind.kp T.b_law_is_kind .nil pass0 (pa_cons (pv 2) (pa_cons (pv 1) pa_nil)))))))) (pss_one (ps_ret pe_bl)) pss_nil))))
      (pss_one (ps_ret pe_bl)))), ?_⟩
    have sg : isSg (.int n) = true := by show (decide (1 ≤ n) && decide (n ≤ 5)) = true; rw [decide_eq_true n1, decide_eq_true n5]; rfl
    have q : Q (.bl (isPass d (.int n))) H := q
    unfold isPass at q
    rw [sg, Bool.true_and] at q
    refine ⟨_, rfl, _, .int n, true, rfl, .int n, _, rfl, ?_⟩
    rw [sg]
    refine iteF ⟨_, rfl, _, _, _, _, isTupD d, rfl, .ty _, hd.ty, kit_tupD d, _, rfl, ?_⟩
    cases d with
    | tuple ds =>
      obtain ⟨a, xs, rfl, hs, ha⟩ := hd.tup_of
      have hl := ha.len
      have q : Q (.bl (ds.all (isSt n))) H := q
      refine iteF ⟨_, rfl, a, rfl, ⟨_, hs⟩, ?_⟩
      refine for_tup (K := K) (a := a) (xs := xs) (fun i σ H' => ∃ x2 x3, σ = [some (.ref a), some (.int n), x2, x3] ∧ H' = H ∧ ∀ j e, j < i → ds[j]? = some e → isSt n e = true) ⟨none, none, rfl, rfl, fun j e h => absurd h (Nat.not_lt_zero j)⟩ (fun i σ H' _ ⟨_, _, _, e, _⟩ => by rw [e]; exact hs) ?_ ?_
      · rintro i x σ H' hx ⟨x2, x3, rfl, rfl, hall⟩
        obtain ⟨e, he, dx⟩ := ha.at i x hx
        have bad : isSt n e = false → Q (.bl false) H' := fun z => by
          have : ds.all (isSt n) = false := by
            rw [List.all_eq_false]
            exact ⟨e, List.mem_of_getElem? he, by rw [z]; exact Bool.false_ne_true⟩
          rw [this] at q; exact q
        have good : isSt n e = true → ∀ j e, j < i + 1 → ds[j]? = some e → isSt n e = true := fun z j e' hj he' => by
          rcases Nat.lt_or_ge j i with c | c
          · exact hall j e' c he'
          · have : j = i := by omega
            subst this
            rw [he] at he'
            rw [← Option.some.inj he']; exact z
        have fin : ∀ (b : Bool) (D : Ends), isSm n e = b → D.rt = Q → (isSt n e = true → D.nx [some (.ref a), some (.int n), some x, some (.bl b)] H') →
            tIfS (tAnd (tNot (tB (tVar 3))) (tNot (tB (tCall (spLk K isKd) [] E0 (tCons (tVar 2) (tCons (tVar 1) tNil)))))) (tRet (tC (.bl false))) tNext D [some (.ref a), some (.int n), some x, some (.bl b)] H' := by
          intro b D hb hQ hN
          subst hQ
          refine ⟨_, rfl, _, rfl, ?_⟩
          cases b with
          | true =>
            refine iteF (iteF (hN ?_))
            unfold isSt; rw [hb, Bool.or_true]
          | false =>
            refine iteT ⟨_, rfl, _, rfl, x, e, m, n, rfl, n1, n5, dx, _, rfl, ?_⟩
            have est : isSt n e = isKd n e := by unfold isSt; rw [hb, Bool.or_false]
            cases z : isKd n e with
            | true => exact iteF (hN (by rw [est, z]))
            | false => exact iteT (bad (by rw [est, z]))
        refine ⟨_, rfl, _, _, _, _, isTupD e, rfl, .ty _, dx.ty, kit_tupD e, _, rfl, ?_⟩
        cases e with
        | tuple es =>
          obtain ⟨b, ys, rfl, hs2, ha2⟩ := dx.tup_of
          have hl2 := ha2.len
          refine iteT ⟨_, rfl, b, ys, rfl, .inr hs2, rfl, _, rfl, ?_⟩
          by_cases c2 : es.length = 2
          · rw [decide_eq_true (show V.int (ys.length : Int) = V.int 2 by rw [hl2, c2]; rfl)]
            match es, c2, ha2, fin, good with
            | [e0, e1], _, ha2, fin, good =>
              obtain ⟨x0, ys, rfl, h0, ha2⟩ := ha2.cons_of
              obtain ⟨x1, ys, rfl, h1, ha2⟩ := ha2.cons_of
              obtain rfl := ha2.nil_of
              refine iteT ⟨_, rfl, b, _, _, _, rfl, rfl, hs2, atI_nat (j := 0) rfl, e0, m, _, h0, rfl, _, rfl, ?_⟩
              rw [isSm2] at fin
              cases z : isS (Str.ofString "same") e0 with
              | false =>
                rw [z, Bool.false_and] at fin
                exact iteF (fin false _ rfl rfl fun z => ⟨_, _, rfl, rfl, good z⟩)
              | true =>
                rw [z, Bool.true_and] at fin
                exact iteT ⟨_, rfl, b, _, _, _, rfl, rfl, hs2, atI_nat (j := 1) rfl, _, rfl, x1, e1, m, n, rfl, h1, fin _ _ rfl rfl fun z => ⟨_, _, rfl, rfl, good z⟩⟩
          · rw [decide_eq_false (show ¬ V.int (ys.length : Int) = V.int 2 from fun z => c2 (by have := V.int.inj z; omega))]
            have esm : isSm n (.tuple es) = false := by
              match es, c2 with
              | [], _ => rfl
              | [e], _ => cases e <;> rfl
              | [_, _], c => exact absurd rfl c
              | e :: _ :: _ :: _, _ => cases e <;> rfl
            exact iteF (fin false _ esm rfl fun z => ⟨_, _, rfl, rfl, good z⟩)
        | _ => exact iteF (fin false _ rfl rfl fun z => ⟨_, _, rfl, rfl, good z⟩)
      · rintro σ H' ⟨x2, x3, rfl, rfl, hall⟩
        have : ds.all (isSt n) = true := List.all_eq_true.mpr fun e he => by
          obtain ⟨j, hj⟩ := List.getElem?_of_mem he
          exact hall j e (by rw [hl]; exact (List.getElem?_eq_some_iff.mp hj).1) hj
        rw [this] at q
        exact q
    | _ => exact iteT q
end
end My

set_option Elab.async false
set_option linter.all false
set_option maxRecDepth 100000
set_option maxHeartbeats 8000000
namespace My
open PySem PySem.Spec PyProof.Rows L2
/-- a step as the law draws it -/
def StV (d : PyData) : Prop := (∃ (z : List Nat) (a : Nat), d = .tuple [.str (S z), .int a] ∧ z.length ≤ 6 ∧ (∀ c ∈ z, c < 200) ∧ a < 5) ∨
  ∃ (z : List Nat) (a b : Nat), d = .tuple [.str (S z), .int a, .int b] ∧ z.length ≤ 6 ∧ (∀ c ∈ z, c < 200) ∧ a < 5 ∧ b < 5
theorem StV.fit {d : PyData} (h : StV d) : Fit d 1 60 := by
  rcases h with ⟨z, a, rfl, h1, h2, h3⟩ | ⟨z, a, b, rfl, h1, h2, h3, h4⟩
  · exact (Fit.tuple (FitAll.cons (Fit.str (k := 0) h1 h2) (FitAll.cons (Fit.nat (by omega)) FitAll.nil))).mono (Nat.le_refl _) (by omega)
  · exact (Fit.tuple (FitAll.cons (Fit.str (k := 0) h1 h2) (FitAll.cons (Fit.nat (by omega)) (FitAll.cons (Fit.nat (by omega)) FitAll.nil)))).mono (Nat.le_refl _) (by omega)
theorem StV.bd {d : PyData} (h : StV d) : Bd d := by
  rcases h with ⟨z, a, rfl, _⟩ | ⟨z, a, b, rfl, _⟩
  · show (2 : Nat) ≤ 1000; omega
  · show (3 : Nat) ≤ 1000; omega
theorem kp_wo2 {p D : Addr} {H H' : Hp} (k : Kp p H H') : Same (wo (wo H p) D) (wo (wo H' p) D) := fun b o e => by
  have n : b ≠ D := fun z => by rw [z, wo_at] at e; cases e
  rw [wo_ne n] at e ⊢
  exact k.wo b o e
theorem str_same : Str.ofString "same" = S [115, 97, 109, 101] := rfl
theorem str_lost : Str.ofString "lost" = S [108, 111, 115, 116] := rfl
theorem str_put : Str.ofString "put" = S [112, 117, 116] := rfl
theorem str_turned : Str.ofString "turned" = S [116, 117, 114, 110, 101, 100] := rfl
section
variable {P : Program} {w : World} {K : PySem.W.Frag} {mg : Str → Option Value} {base : Heap}
def spStep (K : PySem.W.Frag) : Sp := fun vs H Q _ => ∃ (p : Addr) (n s : Nat), vs = [.ref p, .int s] ∧ BoxAt H p n ∧ n < 100000000 ∧ 1 ≤ s ∧ s ≤ 5 ∧
  ∀ q xs es H', StV (.tuple es) → (∀ G, DgAll K G true xs es) → Kp p H H' → H q = none → H' q = some (.tup xs) → BoxAt H' p (n + 3) → Q (.ref q) H'
theorem ok_law_step (T : Txt K mg w) : FnOk P w K mg base CX0 2 T.f_law_step T.fd_law_step ["box", "signs"] (spStep K) := by
  refine T.F_law_step.ok sc_law_step (fun vs H Q E h => ?_) (fun cdv A outer s0 H vs Q E hr h => ?_)
  · obtain ⟨p, n, s, rfl, _⟩ := h; rfl
  · obtain ⟨p, n, s, rfl, hb, hn, h1, h5, q⟩ := h
    refine ⟨_, (pss_cons (ps_par3 (i := 2) (j := 3) (l := 4) (by rfl) sc_law_step.nd rfl rfl rfl (by decide) (by decide) (by decide) rfl rfl rfl (pa_cons (pe_call (ok_law_take T) (hr.mono (by decide)) rfl T.g_law_take T.F_law_take.kp T.b_law_take .nil pass0 (pa_cons (pv 0) (pa_cons pe_int pa_nil))) (pa_cons (pe_call (ok_law_take T) (hr.mono (by decide)) rfl T.g_law_take T.F_law_take.kp T.b_law_take .nil pass0 (pa_cons (pv 0) (pa_cons (pv 1) pa_nil))) (pa_cons (pe_call (ok_law_take T) (hr.mono (by decide)) rfl T.g_law_take T.F_law_take.kp T.b_law_take .nil pass0 (pa_cons (pv 0) (pa_cons (pv 1) pa_nil))) pa_nil))) (by rfl))
      (pss_cons (ps_if (PW.pt (pw_or (pt_cmpR op_lt (pv 2) pe_int (nomark _)) (pw_or1 (PW.pt (pw_and (pt_cmpR op_gt (pv 2) pe_int (nomark _)) (pw_and1 (pt_cmpR op_eq (pv 3) (pv 4) (nomark _)))))))) (pss_one (ps_ret (pe_tup (pa_cons pe_str (pa_cons (pv 3) pa_nil))))) pss_nil)
      (pss_cons (ps_if (pt_cmpR op_lt (pv 2) pe_int (nomark _)) (pss_one (ps_ret (pe_tup (pa_cons pe_str (pa_cons (pv 3) pa_nil))))) pss_nil)
      (pss_one (ps_ret (pe_ifExp (pt_cmpR op_lt (pv 2) pe_int (nomark _)) (pe_tup (pa_cons pe_str (pa_cons (pv 4) pa_nil))) (pe_tup (pa_cons pe_str (pa_cons (pv 3) (pa_cons (pv 4) pa_nil)))))))))), ?_⟩
    refine ⟨_, rfl, p, n, 8, rfl, hb, by omega, by omega, by omega, fun way o1 hway ho1 => ?_⟩
    refine ⟨_, rfl, _, rfl, p, _, s, rfl, ho1.at, by omega, by omega, by omega, fun a o2 ha ho2 => ?_⟩
    refine ⟨_, rfl, _, rfl, p, _, s, rfl, ho2.at, by omega, by omega, by omega, fun b o3 hbb ho3 => ⟨_, _, _, rfl, ?_⟩⟩
    obtain ⟨H3, e3⟩ : ∃ H3, H3 = upd (upd (upd H p o1) p o2) p o3 := ⟨_, rfl⟩
    have k3 : Kp p H H3 := by rw [e3]; exact (((Kp.refl p H).upd).upd).upd
    have b3 : BoxAt H3 p (n + 3) := by rw [e3]; exact ho3.at
    have nn := b3.some
    have free : ∀ {q : Addr}, H3 q = none → H q = none := fun {q} hq => by
      cases e : H q with
      | none => rfl
      | some o =>
        have nq : q ≠ p := fun z => nn (by rw [← z]; exact hq)
        rw [k3 q o nq e] at hq; cases hq
    have two : 2 ≤ sizeLine := by decide
    have three : 3 ≤ sizeLine := by decide
    have mk2 : ∀ (z : List Nat) (c : Nat), z.length ≤ 6 → (∀ c ∈ z, c < 200) → c < 5 → ∀ q, H3 q = none → Q (.ref q) (upd H3 q (.tup [.str (S z), .int c])) := fun z c h1 h2 h3 q0 hq =>
      q q0 _ [.str (S z), .int c] _ (.inl ⟨z, c, rfl, h1, h2, h3⟩) (fun G => .cons (.str _) (.cons (.int _) .nil)) (k3.new hq) (free hq) upd_same (b3.new hq)
    have mk3 : ∀ (z : List Nat) (c d : Nat), z.length ≤ 6 → (∀ c ∈ z, c < 200) → c < 5 → d < 5 → ∀ q, H3 q = none → Q (.ref q) (upd H3 q (.tup [.str (S z), .int c, .int d])) := fun z c d h1 h2 h3 h4 q0 hq =>
      q q0 _ [.str (S z), .int c, .int d] _ (.inr ⟨z, c, d, rfl, h1, h2, h3, h4⟩) (fun G => .cons (.str _) (.cons (.int _) (.cons (.int _) .nil))) (k3.new hq) (free hq) upd_same (b3.new hq)
    have a5 : a < 5 := by omega
    have b5 : b < 5 := by omega
    have csame : ∀ c ∈ [115, 97, 109, 101], c < 200 := by decide
    have clost : ∀ c ∈ [108, 111, 115, 116], c < 200 := by decide
    have cput : ∀ c ∈ [112, 117, 116], c < 200 := by decide
    have cturned : ∀ c ∈ [116, 117, 114, 110, 101, 100], c < 200 := by decide
    have same_ : ∀ q, H3 q = none → Q (.ref q) (upd H3 q (.tup [.str (S [115, 97, 109, 101]), .int a])) := mk2 _ a (by decide) csame a5
    rw [← e3]
    refine (fun rest => ⟨_, rfl, _, _, rfl, rfl, _, rfl, ite2 (fun _ => iteT ⟨_, rfl, two, same_⟩) (fun _ => ⟨_, rfl, _, _, rfl, rfl, _, rfl, ite2 (fun _ => ⟨_, rfl, _, rfl, rfl, _, rfl, ite2 (fun _ => ⟨_, rfl, two, same_⟩) (fun _ => rest)⟩) (fun _ => iteF rest)⟩)⟩) ?_
    refine ⟨_, rfl, _, _, rfl, rfl, _, rfl, ite2 (fun _ => ⟨_, rfl, two, mk2 [108, 111, 115, 116] a (by decide) clost a5⟩) (fun _ => ⟨_, rfl, _, _, rfl, rfl, _, rfl, ite2 (fun _ => ⟨_, rfl, two, mk2 [112, 117, 116] b (by decide) cput b5⟩) (fun _ => ⟨_, rfl, _, rfl, three, mk3 [116, 117, 114, 110, 101, 100] a b (by decide) cturned a5 b5⟩)⟩)⟩
def spPsg (K : PySem.W.Frag) : Sp := fun vs H Q _ => ∃ (p : Addr) (n s : Nat), vs = [.ref p, .int s] ∧ BoxAt H p n ∧ n < 10000000 ∧ 1 ≤ s ∧ s ≤ 5 ∧
  ∀ x ds H', Kp p H H' → BoxAt H' p (n + 2000) → Dw K p H' true x (.tuple ds) → ds.length ≤ 400 → (∀ d ∈ ds, StV d) → Q x H'
theorem ok_law_passing (T : Txt K mg w) : FnOk P w K mg base CX0 3 T.f_law_passing T.fd_law_passing ["box", "signs"] (spPsg K) := by
  refine T.F_law_passing.ok sc_law_passing (fun vs H Q E h => ?_) (fun cdv A outer s0 H vs Q E hr h => ?_)
  · obtain ⟨p, n, s, rfl, _⟩ := h; rfl
  · obtain ⟨p, n, s, rfl, hb, hn, h1, h5, q⟩ := h
    refine ⟨_, (pss_cons (ps_set (i := 2) sc_law_passing.nd rfl (Or.inl rfl) (pe_ix ix_list (pe_lst (pa_cons pe_int (pa_cons pe_int (pa_cons pe_int (pa_cons pe_int (pa_cons pe_int (pa_cons pe_int (pa_cons pe_int (pa_cons pe_int (pa_cons pe_int (pa_cons pe_int pa_nil))))))))))) (pe_call (ok_law_take T) (hr.mono (by decide)) rfl T.g_law_take T.F_law_take.kp T.b_law_take .nil pass0 (pa_cons (pv 0) (pa_cons pe_int pa_nil))) (fun _ _ => rfl)))
      (pss_one (ps_ret (pe_callTy call_tuple_of (by rfl) T.z_tuple (by decide +kernel) (pa_cons (pe_lc (own := [("k", 3)]) (g := gName 3) (by rfl) sc_law_passing.nd (pi_range1 rfl T.z_range (pa_cons (pv 2) pa_nil)) (blkOk_by (own := [("k", 3)]) (N := N_law_passing) (sc := defScope s_law_passing) (by decide +kernel)) (fun _ _ _ _ _ => pg_name (i := 3) sc_law_passing.nd rfl (Or.inl rfl)) (fun _ _ _ _ _ => pts_nil) (fun _ _ _ _ _ => (pe_call (ok_law_step T) (hr.mono (by decide)) rfl T.g_law_step T.F_law_step.kp T.b_law_step .nil pass0 (pa_cons (pv 0) (pa_cons (pv 1) pa_nil))))) pa_nil))))), ?_⟩
    refine ⟨(by show 10 ≤ sizeLine; decide), fun L hL => ?_⟩
    have nL : L ≠ p := (hb.ne hL).symm
    refine ⟨_, rfl, p, n, 10, rfl, hb.new hL, by omega, by omega, by omega, fun d o hd ho => ?_⟩
    obtain ⟨H1, e1⟩ : ∃ H1, H1 = upd (upd H L (.lst [.int 0, .int 1, .int 2, .int 3, .int 5, .int 8, .int 12, .int 3, .int 5, .int 399])) p o := ⟨_, rfl⟩
    have k1 : Kp p H H1 := by rw [e1]; exact ((Kp.refl p H).new hL).upd
    have b1 : BoxAt H1 p (n + 1) := by rw [e1]; exact ho.at
    have eL : H1 L = some (.lst [.int 0, .int 1, .int 2, .int 3, .int 5, .int 8, .int 12, .int 3, .int 5, .int 399]) := by rw [e1, upd_ne nL]; exact upd_same
    obtain ⟨m, hm, em⟩ : ∃ m : Nat, m ≤ 399 ∧ [V.int 0, .int 1, .int 2, .int 3, .int 5, .int 8, .int 12, .int 3, .int 5, .int 399][d]? = some (.int (m : Nat)) := by
      match d, hd with
      | 0, _ => exact ⟨0, by omega, rfl⟩
      | 1, _ => exact ⟨1, by omega, rfl⟩
      | 2, _ => exact ⟨2, by omega, rfl⟩
      | 3, _ => exact ⟨3, by omega, rfl⟩
      | 4, _ => exact ⟨5, by omega, rfl⟩
      | 5, _ => exact ⟨8, by omega, rfl⟩
      | 6, _ => exact ⟨12, by omega, rfl⟩
      | 7, _ => exact ⟨3, by omega, rfl⟩
      | 8, _ => exact ⟨5, by omega, rfl⟩
      | 9, _ => exact ⟨399, by omega, rfl⟩
      | d + 10, h => exact absurd h (by omega)
    rw [← e1]
    refine ⟨L, _, _, _, rfl, rfl, SqL.of eL, atI_nat (j := d) em, ?_⟩
    refine ⟨_, rfl, _, rfl, by omega, by omega, fun D hD => ?_⟩
    rw [Int.toNat_natCast]
    have nD : D ≠ p := (b1.ne hD).symm
    refine lc_range (lo := 0) (n := m) (fun i H' => Kp p H1 H' ∧ BoxAt H' p (n + 1 + 3 * i) ∧ ∃ acc ds, H' D = some (.lst acc) ∧ DgAll K (wo (wo H' p) D) true acc ds ∧ ds.length = i ∧ ∀ d ∈ ds, StV d)
      ⟨(Kp.refl p H1).new hD, b1.new hD, [], [], upd_same, .nil, rfl, fun d h => by cases h⟩ ?_ ?_
    · rintro i H' hi ⟨k', b', acc, ds, e', g', l', v'⟩
      refine ⟨rfl, tYesT ⟨_, rfl, _, rfl, p, _, s, rfl, b', by omega, h1, h5, fun q1 xs es H2 st dg k2 hq e2 b2 => ?_⟩⟩
      have nq : q1 ≠ p := (b'.ne hq).symm
      have nqD : q1 ≠ D := fun z => by rw [z, e'] at hq; cases hq
      have eD : H2 D = some (.lst acc) := k2 _ _ nD e'
      refine ⟨acc, eD, by rw [g'.len, l']; exact Nat.lt_of_lt_of_le (by omega : i < 1000) (by decide), fun b o nb e => ?_, (b2.other nD.symm).mono (by omega), acc ++ [.ref q1], ds ++ [.tuple es], upd_same, ?_, by rw [List.length_append, l']; rfl, fun d hd => ?_⟩
      · rw [upd_ne (ne_of_none e hD)]; exact k2 b o nb (k' b o nb e)
      · have hw : wo (wo (upd H2 D (.lst (acc ++ [.ref q1]))) p) D = wo (wo H2 p) D := by rw [wo_new nD, wo_upd]
        rw [hw]
        exact (g'.ext (kp_wo2 k2)).append (.cons (.tup (SqT.of (by rw [wo_ne nqD, wo_ne nq]; exact e2)) (dg _)) .nil)
      · rcases List.mem_append.mp hd with z | z
        · exact v' d z
        · rw [List.mem_singleton.mp z]; exact st
    · rintro H' ⟨k', b', acc, ds, e', g', l', v'⟩
      refine ⟨D, acc, rfl, .inl ⟨SqL.of e', fun l hl => ?_⟩⟩
      have nl : l ≠ p := (b'.ne hl).symm
      refine q _ ds _ ((k1.trans k').new hl) ((b'.new hl).mono (by omega)) (.tup (SqT.of (by rw [wo_ne nl]; exact upd_same)) ?_) (by omega) v'
      exact (g'.ext (wo_same _ D)).ext ((Kp.refl p H').new hl).wo
end
end My

set_option Elab.async false
set_option linter.all false
set_option maxRecDepth 100000
set_option maxHeartbeats 8000000
namespace My
open PySem PySem.Spec PyProof.Rows L2
section
variable {P : Program} {w : World} {K : PySem.W.Frag} {mg : Str → Option Value} {base : Heap}
def spOdd (K : PySem.W.Frag) : Sp := fun vs H Q _ => ∃ (p : Addr) (n s : Nat) (x : V) (d : PyData) (w : Hp → Hp), vs = [.ref p, x, .int s] ∧ BoxAt H p n ∧ n < 100000000 ∧ 1 ≤ s ∧ s ≤ 5 ∧ Res p H w ∧ Dg K (w H) true x d ∧ StV d ∧
  ∀ y e H', Kp p H H' → BoxAt H' p (n + 2) → Dg K (w H') true y e → Lv 3 e → Bd e → Q y H'
theorem ok_law_odd (T : Txt K mg w) : FnOk P w K mg base CX0 2 T.f_law_odd T.fd_law_odd ["box", "step", "signs"] (spOdd K) := by
  refine T.F_law_odd.ok sc_law_odd (fun vs H Q E h => ?_) (fun cdv A outer s0 H vs Q E hr h => ?_)
  · obtain ⟨p, n, s, x, d, _, rfl, _⟩ := h; rfl
  · obtain ⟨p, n, s, x, d, wr, rfl, hb, hn, h1, h5, R, hd, st, q⟩ := h
    refine ⟨_, (pss_cons (ps_par3 (i := 3) (j := 4) (l := 5) (by rfl) sc_law_odd.nd rfl rfl rfl (by decide) (by decide) (by decide) rfl rfl rfl (pa_cons (pe_ix ix_tup (pv 1) pe_int (fun _ _ => rfl)) (pa_cons (pe_ix ix_tup (pv 1) pe_int (fun _ _ => rfl)) (pa_cons (pe_call (ok_law_take T) (hr.mono (by decide)) rfl T.g_law_take T.F_law_take.kp T.b_law_take .nil pass0 (pa_cons (pv 0) (pa_cons pe_int pa_nil))) pa_nil))) (by rfl))
      (pss_cons (ps_if (pt_cmpR op_eq (pv 5) pe_int (nomark _)) (pss_one (ps_set (i := 6) sc_law_odd.nd rfl (Or.inl rfl) (pe_lstS (pa_cons (pe_callTy call_list_ofS (by rfl) T.z_list (by decide +kernel) (pa_cons (pv 1) pa_nil)) (pa_cons (pe_op op_catA (pv 1) (pe_tup (pa_cons pe_int pa_nil))) (pa_cons (pe_slice sl_tupA (pv 1) po_none (po_some pe_int)) (pa_cons (pe_tup (pa_cons (pv 1) pa_nil)) (pa_cons (pe_tup (pa_cons (pv 4) (pa_cons (pv 3) pa_nil))) (pa_cons (pv 3) (pa_cons pe_non (pa_cons (pv 4) (pa_cons pe_dnewK (pa_cons (pe_tup pa_nil) (pa_cons (pe_lstS (pa_cons pe_str (pa_cons (pv 4) pa_nil))) (pa_cons (pe_tup (pa_cons (pv 3) (pa_cons (pe_lstS (pa_cons (pv 4) pa_nil)) pa_nil))) pa_nil))))))))))))))) (pss_one (ps_if (pt_cmpR op_eq (pv 5) pe_int (nomark _)) (pss_cons (ps_set (i := 6) sc_law_odd.nd rfl (Or.inl rfl) (pe_lstS (pa_cons (pe_tup (pa_cons (pv 3) (pa_cons (pv 2) pa_nil))) (pa_cons (pe_tup (pa_cons (pv 3) (pa_cons (pe_op op_sub (pv 2) pe_int) pa_nil))) (pa_cons (pe_tup (pa_cons (pv 3) (pa_cons pe_int pa_nil))) (pa_cons (pe_tup (pa_cons (pv 3) (pa_cons pe_int pa_nil))) (pa_cons (pe_tup (pa_cons (pv 3) (pa_cons (pe_op op_sub pe_int pe_int) pa_nil))) (pa_cons (pe_tup (pa_cons (pv 3) (pa_cons pe_bl pa_nil))) (pa_cons (pe_tup (pa_cons (pv 3) (pa_cons pe_bl pa_nil))) pa_nil)))))))))
      (pss_one (ps_set (i := 6) sc_law_odd.nd rfl (Or.inl rfl) (pe_op op_cat (pv 6) (pe_lstS (pa_cons (pe_tup (pa_cons (pv 3) (pa_cons pe_non pa_nil))) (pa_cons (pe_tup (pa_cons (pv 3) (pa_cons (pe_callTy call_str_int (by rfl) T.z_str (by decide +kernel) (pa_cons (pv 4) pa_nil)) pa_nil))) (pa_cons (pe_tup (pa_cons (pv 3) (pa_cons (pe_tup (pa_cons (pv 4) pa_nil)) pa_nil))) (pa_cons (pe_tup (pa_cons (pv 3) (pa_cons (pe_op op_pow pe_int pe_int) pa_nil))) pa_nil))))))))) (pss_one (ps_if (pt_cmpR op_eq (pv 5) pe_int (nomark _)) (pss_cons (ps_set (i := 6) sc_law_odd.nd rfl (Or.inl rfl) (pe_lstS (pa_cons (pe_tup (pa_cons pe_str (pa_cons (pv 4) (pa_cons (pv 4) pa_nil)))) (pa_cons (pe_tup (pa_cons pe_str (pa_cons (pv 4) pa_nil))) (pa_cons (pe_tup (pa_cons pe_str (pa_cons (pv 4) (pa_cons pe_int pa_nil)))) (pa_cons (pe_tup (pa_cons pe_str (pa_cons pe_int (pa_cons (pv 4) pa_nil)))) (pa_cons (pe_tup (pa_cons pe_str (pa_cons pe_int (pa_cons (pv 4) pa_nil)))) (pa_cons (pe_tup (pa_cons pe_str (pa_cons (pv 4) (pa_cons pe_int pa_nil)))) pa_nil))))))))
      (pss_cons (ps_set (i := 6) sc_law_odd.nd rfl (Or.inl rfl) (pe_op op_cat (pv 6) (pe_lstS (pa_cons (pe_tup (pa_cons pe_str (pa_cons (pv 4) (pa_cons (pe_op op_sub pe_int pe_int) pa_nil)))) (pa_cons (pe_tup (pa_cons pe_str (pa_cons pe_bl (pa_cons pe_int pa_nil)))) (pa_cons (pe_tup (pa_cons pe_str (pa_cons pe_int (pa_cons pe_bl pa_nil)))) (pa_cons (pe_tup (pa_cons pe_str (pa_cons (pv 4) (pa_cons pe_non pa_nil)))) pa_nil)))))))
      (pss_one (ps_set (i := 6) sc_law_odd.nd rfl (Or.inl rfl) (pe_op op_cat (pv 6) (pe_lstS (pa_cons (pe_tup (pa_cons pe_str (pa_cons (pv 4) (pa_cons (pe_op op_add (pv 4) pe_int) pa_nil)))) (pa_cons (pe_tup (pa_cons pe_str (pa_cons (pv 4) (pa_cons pe_str pa_nil)))) (pa_cons (pe_tup (pa_cons pe_str (pa_cons (pv 4) (pa_cons (pe_op op_mod (pe_callTy call_int1 (by rfl) T.z_int (by decide +kernel) (pa_cons (pe_op op_add (pv 4) pe_int) pa_nil)) pe_int) (pa_cons (pv 4) pa_nil))))) (pa_cons (pe_tup (pa_cons pe_str pa_nil)) pa_nil)))))))))) (pss_cons (ps_set (i := 6) sc_law_odd.nd rfl (Or.inl rfl) (pe_lstS (pa_cons (pe_tup (pa_cons pe_str (pa_cons (pv 4) pa_nil))) (pa_cons (pe_tup (pa_cons pe_str (pa_cons (pv 4) (pa_cons (pv 4) pa_nil)))) (pa_cons (pe_tup (pa_cons pe_str (pa_cons (pv 4) (pa_cons (pv 4) pa_nil)))) (pa_cons (pe_tup (pa_cons pe_str pa_nil)) (pa_cons (pe_tup (pa_cons pe_str (pa_cons (pv 4) pa_nil))) (pa_cons (pe_tup (pa_cons pe_non (pa_cons (pv 4) pa_nil))) (pa_cons (pe_tup (pa_cons (pe_tup (pa_cons pe_str pa_nil)) (pa_cons (pv 4) pa_nil))) (pa_cons (pe_tup (pa_cons pe_str (pa_cons (pv 4) pa_nil))) pa_nil))))))))))
      (pss_one (ps_set (i := 6) sc_law_odd.nd rfl (Or.inl rfl) (pe_op op_cat (pv 6) (pe_lstS (pa_cons (pe_tup (pa_cons pe_str pa_nil)) (pa_cons (pe_tup (pa_cons pe_str (pa_cons (pv 4) pa_nil))) (pa_cons (pe_tup (pa_cons pe_str (pa_cons (pe_op op_sub pe_int pe_int) pa_nil))) (pa_cons (pe_tup (pa_cons pe_str (pa_cons pe_int pa_nil))) (pa_cons (pe_tup (pa_cons pe_str (pa_cons pe_int pa_nil))) (pa_cons (pe_tup (pa_cons pe_str (pa_cons pe_int pa_nil))) (pa_cons (pe_tup (pa_cons pe_str (pa_cons pe_int pa_nil))) pa_nil)))))))))))))))))
      (pss_one (ps_ret (pe_ix ix_list (pv 6) (pe_call (ok_law_take T) (hr.mono (by decide)) rfl T.g_law_take T.F_law_take.kp T.b_law_take .nil pass0 (pa_cons (pv 0) (pa_cons (pe_callB call_len_seq (by rfl) T.z_len (by decide +kernel) (pa_cons (pv 6) pa_nil)) pa_nil))) (fun _ _ => rfl)))))), ?_⟩
    have two : 2 ≤ sizeLine := by decide
    -- the step, the draw
    obtain ⟨sx, xs, wz, a, es, rfl, rfl, hs, lz, cz, a5, hx0, hx1, les0, lel⟩ : ∃ (sx : Addr) (xs : List V) (z : List Nat) (a : Nat) (es : List PyData), x = .ref sx ∧ d = .tuple (.str (S z) :: .int (a : Nat) :: es) ∧ SqT K (wr H) sx xs ∧ z.length ≤ 6 ∧ (∀ c ∈ z, c < 200) ∧ a < 5 ∧
        xs[0]? = some (.str (S z)) ∧ xs[1]? = some (.int (a : Nat)) ∧ (∀ d ∈ es, Lv 0 d) ∧ es.length ≤ 1 := by
      rcases st with ⟨z, a, rfl, h1, h2, h3⟩ | ⟨z, a, b, rfl, h1, h2, h3, h4⟩
      · obtain ⟨sx, xs, e, hs, ha⟩ := hd.tup_of
        obtain ⟨x0, ys, rfl, g0, ha⟩ := ha.cons_of
        obtain ⟨x1, ys, rfl, g1, ha⟩ := ha.cons_of
        obtain rfl := g0.str_of
        obtain rfl := g1.int_of
        exact ⟨sx, _, z, a, _, e, rfl, hs, h1, h2, h3, rfl, rfl, all_nil, by simp⟩
      · obtain ⟨sx, xs, e, hs, ha⟩ := hd.tup_of
        obtain ⟨x0, ys, rfl, g0, ha⟩ := ha.cons_of
        obtain ⟨x1, ys, rfl, g1, ha⟩ := ha.cons_of
        obtain rfl := g0.str_of
        obtain rfl := g1.int_of
        exact ⟨sx, _, z, a, _, e, rfl, hs, h1, h2, h3, rfl, rfl, all_cons (lv_int (by omega)) all_nil, by simp⟩
    have hsH : SqT K H sx xs := hs.ext (R.sub H)
    refine ⟨_, rfl, sx, _, _, _, rfl, rfl, hsH, atI_nat (j := 0) hx0, _, rfl, sx, _, _, _, rfl, rfl, hsH, atI_nat (j := 1) hx1, _, rfl, p, n, 4, rfl, hb, by omega, by omega, by omega, fun way o hway ho => ⟨_, _, _, rfl, ?_⟩⟩
    obtain ⟨H1, e1⟩ : ∃ H1, H1 = upd H p o := ⟨_, rfl⟩
    have k1 : Kp p H H1 := by rw [e1]; exact (Kp.refl p H).upd
    have b1 : BoxAt H1 p (n + 1) := by rw [e1]; exact ho.at
    have nn := b1.some
    have hd1 := hd.rk R k1
    have R1 := R.mono k1
    have lw : ∀ k, Lv k (.str (S wz)) := fun k => lv_str (by omega) cz
    have les : ∀ k, ∀ d ∈ es, Lv k d := fun k d hd => lv0 k (les0 d hd)
    have hlg : (a : Int).natAbs.log2 < 1920 := PySem.Flt.log2_lt_of (by decide) (by rw [Int.natAbs_natCast]; exact Nat.lt_of_lt_of_le (by omega : a < 5) (by decide))
    rw [← e1]
    have fin : ∀ (D : Ends) (H3 : Hp) (M : Addr) (xs : List V) (ds : List PyData), D.rt = Q → Kp p H1 H3 → BoxAt H3 p (n + 1) → H3 M = some (.lst xs) → M ≠ p → DgAll K (wr H3) true xs ds → (∀ e ∈ ds, Lv 3 e ∧ Bd e) → 0 < ds.length → ds.length ≤ 40 →
        tRet (tOp (rIxL K) (tVar 6) (tCall spTake [] E0 (tCons (tVar 0) (tCons (tCB (fun xs H_1 Q => ∃ p ys, xs = [V.ref p] ∧ (SqL K H_1 p ys ∨ SqT K H_1 p ys) ∧ Q (V.int ys.length) H_1) (tCons (tVar 6) tNil)) tNil)))) D
          [some (.ref p), some (.ref sx), some (.int s), some (.str (S wz)), some (.int a), some (.int way), some (.ref M)] H3 := by
      intro D H3 M xs ds hQ k3 b3 eM nM dxs lvs l0 l40
      subst hQ
      have lx := dxs.len
      refine ⟨_, rfl, _, rfl, _, rfl, M, xs, rfl, .inl (SqL.of eM), p, _, (xs.length : Int), rfl, b3, by omega, by omega, by omega, fun d o hd ho => ?_⟩
      obtain ⟨y, e, ey, ee, dy⟩ := dxs.nth (i := d) (by omega)
      have eM2 : (upd H3 p o) M = some (.lst xs) := by rw [upd_ne nM]; exact eM
      obtain ⟨h3, h4⟩ := lvs e (List.mem_of_getElem? ee)
      refine ⟨M, _, _, _, rfl, rfl, SqL.of eM2, atI_nat (j := d) ey, q y e _ ((k1.trans k3).upd) (ho.at) (dy.rk R ((Kp.refl p H3).upd)) h3 h4⟩
    -- one list more
    have more : ∀ (M M2 : Addr) (H3 H4 : Hp) (xs ys : List V) (ds es : List PyData) (RK : VK), Kp p H1 H3 → BoxAt H3 p (n + 1) → H3 M = some (.lst xs) → DgAll K (wr H3) true xs ds → (∀ e ∈ ds, Lv 3 e ∧ Bd e) → 0 < ds.length → ds.length ≤ 20 → Same H3 H4 → H4 M2 = some (.lst ys) → DgAll K (wr H4) true ys es → (∀ e ∈ es, Lv 3 e ∧ Bd e) → es.length ≤ 20 →
        (∀ r H5, Kp p H1 H5 → BoxAt H5 p (n + 1) → H5 r = some (.lst (xs ++ ys)) → r ≠ p → DgAll K (wr H5) true (xs ++ ys) (ds ++ es) → (∀ e ∈ ds ++ es, Lv 3 e ∧ Bd e) → 0 < (ds ++ es).length → RK (.ref r) H5) → rCat (.ref M) (.ref M2) H4 RK := by
      intro M M2 H3 H4 xs ys ds es RK k3 b3 eM dxs lvs l0 l20 s4 eM2 dys lvs2 l2 k
      have lx := dxs.len
      have ly := dys.len
      refine ⟨M, M2, xs, ys, rfl, rfl, s4 _ _ eM, eM2, Nat.le_trans (by omega : _ ≤ 100) (by decide), fun r hr => ?_⟩
      have b4 := b3.same s4
      have nr : r ≠ p := (b4.ne hr).symm
      have s5 : Same H4 (upd H4 r (.lst (xs ++ ys))) := Same.new (Same.refl _) hr
      refine k r _ ((k3.trans (Kp.of s4)).trans (Kp.of s5)) (b4.new hr) upd_same nr (((dxs.rk R (Kp.of s4)).append dys).rk R (Kp.of s5)) (fun e he => ?_) (by rw [List.length_append]; omega)
      rcases List.mem_append.mp he with z | z
      · exact lvs e z
      · exact lvs2 e z
    refine ⟨_, rfl, rfl, _, rfl, ite2 (fun _ => ?_) (fun _ => ⟨_, rfl, rfl, _, rfl, ite2 (fun _ => ?_) (fun _ => ⟨_, rfl, rfl, _, rfl, ite2 (fun _ => ?_) (fun _ => ?_)⟩)⟩)⟩
    · show tAsg _ _ _ _ _
      unfold L2.tAsg
      refine menu_here (K := K) R1 (P := fun e => Lv 3 e ∧ Bd e) nn (fun R => (evDs_cons R (evD_listOf R (evD_var R rfl (by assumption))) (evDs_cons R (evD_catA R (evD_var R rfl (by assumption)) (evD_tup R (evDs_cons R (evD_int _) evDs_nil) (by simp)) (by simp; omega)) (evDs_cons R (evD_head R (evD_var R rfl (by assumption)) 1) (evDs_cons R (evD_tup R (evDs_cons R (evD_var R rfl (by assumption)) evDs_nil) (by simp)) (evDs_cons R (evD_tup R (evDs_cons R (evD_var R rfl (.int _)) (evDs_cons R (evD_var R rfl (.str _)) evDs_nil)) (by simp)) (evDs_cons R (evD_var R rfl (.str _)) (evDs_cons R evD_non (evDs_cons R (evD_var R rfl (.int _)) (evDs_cons R (evD_emp R) (evDs_cons R (evD_tup R evDs_nil (by simp)) (evDs_cons R (evD_lstS R (evDs_cons R (evD_str _) (evDs_cons R (evD_var R rfl (.int _)) evDs_nil)) (by simp)) (evDs_cons R (evD_tup R (evDs_cons R (evD_var R rfl (.str _)) (evDs_cons R (evD_lstS R (evDs_cons R (evD_var R rfl (.int _)) evDs_nil) (by simp)) evDs_nil)) (by simp)) evDs_nil))))))))))))) ?lv1 (by simp) (by simp) (fun M H3 ys s3 _ nM eM _ dys lvs l0 l4 => fin _ H3 M ys _ rfl (Kp.of s3) (b1.same s3) eM nM dys lvs l0 l4)
      case lv1 => (repeat' first
        | exact all_nil | refine all_cons ?_ ?_ | exact lw _ | exact les _ | refine all_app ?_ ?_ | refine ⟨?_, ?_⟩ | trivial | rfl | exact lv_non | exact lv_bl | exact lv_emp | exact lv_int (by omega) | exact lv_int (by decide +kernel) | exact lv_digit (by omega) | assumption
        | exact lv_any (by decide +kernel) (by decide +kernel) | refine lv_tup ?_ ?_ | refine lv_lst ?_ ?_ | (simp; done) | (simp; omega) | (simp [Bd]; done) | (simp [BdP, Bd]; done) | (simp [Bd]; omega))
    · show tAsg _ _ _ _ _
      unfold L2.tAsg
      refine menu_here (K := K) R1 (P := fun e => Lv 3 e ∧ Bd e) nn (fun R => (evDs_cons R (evD_tup R (evDs_cons R (evD_var R rfl (.str _)) (evDs_cons R (evD_var R rfl (.int _)) evDs_nil)) (by simp)) (evDs_cons R (evD_tup R (evDs_cons R (evD_var R rfl (.str _)) (evDs_cons R (evD_I (evI_op (evI_var rfl) (evI_c _))) evDs_nil)) (by simp)) (evDs_cons R (evD_tup R (evDs_cons R (evD_var R rfl (.str _)) (evDs_cons R (evD_int _) evDs_nil)) (by simp)) (evDs_cons R (evD_tup R (evDs_cons R (evD_var R rfl (.str _)) (evDs_cons R (evD_int _) evDs_nil)) (by simp)) (evDs_cons R (evD_tup R (evDs_cons R (evD_var R rfl (.str _)) (evDs_cons R (evD_I (evI_op (evI_c _) (evI_c _))) evDs_nil)) (by simp)) (evDs_cons R (evD_tup R (evDs_cons R (evD_var R rfl (.str _)) (evDs_cons R (evD_bl _) evDs_nil)) (by simp)) (evDs_cons R (evD_tup R (evDs_cons R (evD_var R rfl (.str _)) (evDs_cons R (evD_bl _) evDs_nil)) (by simp)) evDs_nil)))))))) ?lv2 (by simp) (by simp) ?rest2
      case lv2 => (repeat' first
        | exact all_nil | refine all_cons ?_ ?_ | exact lw _ | exact les _ | refine all_app ?_ ?_ | refine ⟨?_, ?_⟩ | trivial | rfl | exact lv_non | exact lv_bl | exact lv_emp | exact lv_int (by omega) | exact lv_int (by decide +kernel) | exact lv_digit (by omega) | assumption
        | exact lv_any (by decide +kernel) (by decide +kernel) | refine lv_tup ?_ ?_ | refine lv_lst ?_ ?_ | (simp; done) | (simp; omega) | (simp [Bd]; done) | (simp [BdP, Bd]; done) | (simp [Bd]; omega))
      case rest2 =>
        intro M H3 ys s3 _ nM eM _ dys lvs l0 l4
        have n3 : H3 p ≠ none := same_at s3 nn
        refine ⟨_, rfl, ?_⟩
        refine menu_here (K := K) (R1.mono (Kp.of s3)) (P := fun e => Lv 3 e ∧ Bd e) n3 (fun R => (evDs_cons R (evD_tup R (evDs_cons R (evD_var R rfl (.str _)) (evDs_cons R evD_non evDs_nil)) (by simp)) (evDs_cons R (evD_tup R (evDs_cons R (evD_var R rfl (.str _)) (evDs_cons R (evD_strI (evI_var rfl) (by assumption)) evDs_nil)) (by simp)) (evDs_cons R (evD_tup R (evDs_cons R (evD_var R rfl (.str _)) (evDs_cons R (evD_tup R (evDs_cons R (evD_var R rfl (.int _)) evDs_nil) (by simp)) evDs_nil)) (by simp)) (evDs_cons R (evD_tup R (evDs_cons R (evD_var R rfl (.str _)) (evDs_cons R (evD_I (evI_opC (evI_c _) (evI_c _) (by exact ⟨by decide, by decide, by decide⟩))) evDs_nil)) (by simp)) evDs_nil))))) ?lv3 (by simp) (by simp) ?rest3
        case lv3 => (repeat' first
        | exact all_nil | refine all_cons ?_ ?_ | exact lw _ | exact les _ | refine all_app ?_ ?_ | refine ⟨?_, ?_⟩ | trivial | rfl | exact lv_non | exact lv_bl | exact lv_emp | exact lv_int (by omega) | exact lv_int (by decide +kernel) | exact lv_digit (by omega) | assumption
        | exact lv_any (by decide +kernel) (by decide +kernel) | refine lv_tup ?_ ?_ | refine lv_lst ?_ ?_ | (simp; done) | (simp; omega) | (simp [Bd]; done) | (simp [BdP, Bd]; done) | (simp [Bd]; omega))
        case rest3 =>
          intro M2 H4 zs s4 _ nM2 eM2 _ dzs lvs2 l02 l42
          refine more M M2 H3 H4 ys zs _ _ _ (Kp.of s3) (b1.same s3) eM dys lvs l0 (by simp) s4 eM2 dzs lvs2 (by simp) (fun r H5 k5 b5 e5 nr d5 lv5 l5 => ?_)
          exact fin _ H5 r _ _ rfl k5 b5 e5 nr d5 lv5 l5 (by simp)
    · show tAsg _ _ _ _ _
      unfold L2.tAsg
      refine menu_here (K := K) R1 (P := fun e => Lv 3 e ∧ Bd e) nn (fun R => (evDs_cons R (evD_tup R (evDs_cons R (evD_str _) (evDs_cons R (evD_var R rfl (.int _)) (evDs_cons R (evD_var R rfl (.int _)) evDs_nil))) (by simp)) (evDs_cons R (evD_tup R (evDs_cons R (evD_str _) (evDs_cons R (evD_var R rfl (.int _)) evDs_nil)) (by simp)) (evDs_cons R (evD_tup R (evDs_cons R (evD_str _) (evDs_cons R (evD_var R rfl (.int _)) (evDs_cons R (evD_int _) evDs_nil))) (by simp)) (evDs_cons R (evD_tup R (evDs_cons R (evD_str _) (evDs_cons R (evD_int _) (evDs_cons R (evD_var R rfl (.int _)) evDs_nil))) (by simp)) (evDs_cons R (evD_tup R (evDs_cons R (evD_str _) (evDs_cons R (evD_int _) (evDs_cons R (evD_var R rfl (.int _)) evDs_nil))) (by simp)) (evDs_cons R (evD_tup R (evDs_cons R (evD_str _) (evDs_cons R (evD_var R rfl (.int _)) (evDs_cons R (evD_int _) evDs_nil))) (by simp)) evDs_nil))))))) ?lv4 (by simp) (by simp) ?rest4
      case lv4 => (repeat' first
        | exact all_nil | refine all_cons ?_ ?_ | exact lw _ | exact les _ | refine all_app ?_ ?_ | refine ⟨?_, ?_⟩ | trivial | rfl | exact lv_non | exact lv_bl | exact lv_emp | exact lv_int (by omega) | exact lv_int (by decide +kernel) | exact lv_digit (by omega) | assumption
        | exact lv_any (by decide +kernel) (by decide +kernel) | refine lv_tup ?_ ?_ | refine lv_lst ?_ ?_ | (simp; done) | (simp; omega) | (simp [Bd]; done) | (simp [BdP, Bd]; done) | (simp [Bd]; omega))
      case rest4 =>
        intro M H3 ys s3 _ nM eM _ dys lvs l0 l4
        have n3 : H3 p ≠ none := same_at s3 nn
        refine ⟨_, rfl, ?_⟩
        refine menu_here (K := K) (R1.mono (Kp.of s3)) (P := fun e => Lv 3 e ∧ Bd e) n3 (fun R => (evDs_cons R (evD_tup R (evDs_cons R (evD_str _) (evDs_cons R (evD_var R rfl (.int _)) (evDs_cons R (evD_I (evI_op (evI_c _) (evI_c _))) evDs_nil))) (by simp)) (evDs_cons R (evD_tup R (evDs_cons R (evD_str _) (evDs_cons R (evD_bl _) (evDs_cons R (evD_int _) evDs_nil))) (by simp)) (evDs_cons R (evD_tup R (evDs_cons R (evD_str _) (evDs_cons R (evD_int _) (evDs_cons R (evD_bl _) evDs_nil))) (by simp)) (evDs_cons R (evD_tup R (evDs_cons R (evD_str _) (evDs_cons R (evD_var R rfl (.int _)) (evDs_cons R evD_non evDs_nil))) (by simp)) evDs_nil))))) ?lv5 (by simp) (by simp) ?rest5
        case lv5 => (repeat' first
        | exact all_nil | refine all_cons ?_ ?_ | exact lw _ | exact les _ | refine all_app ?_ ?_ | refine ⟨?_, ?_⟩ | trivial | rfl | exact lv_non | exact lv_bl | exact lv_emp | exact lv_int (by omega) | exact lv_int (by decide +kernel) | exact lv_digit (by omega) | assumption
        | exact lv_any (by decide +kernel) (by decide +kernel) | refine lv_tup ?_ ?_ | refine lv_lst ?_ ?_ | (simp; done) | (simp; omega) | (simp [Bd]; done) | (simp [BdP, Bd]; done) | (simp [Bd]; omega))
        case rest5 =>
          intro M2 H4 zs s4 _ nM2 eM2 _ dzs lvs2 l02 l42
          refine more M M2 H3 H4 ys zs _ _ _ (Kp.of s3) (b1.same s3) eM dys lvs l0 (by simp) s4 eM2 dzs lvs2 (by simp) (fun r H5 k5 b5 e5 nr d5 lv5 l5 => ?_)
          have n5 : H5 p ≠ none := b5.some
          refine ⟨_, rfl, ?_⟩
          refine menu_here (K := K) (R1.mono k5) (P := fun e => Lv 3 e ∧ Bd e) n5 (fun R => (evDs_cons R (evD_tup R (evDs_cons R (evD_str _) (evDs_cons R (evD_var R rfl (.int _)) (evDs_cons R (evD_I (evI_op (evI_var rfl) (evI_c _))) evDs_nil))) (by simp)) (evDs_cons R (evD_tup R (evDs_cons R (evD_str _) (evDs_cons R (evD_var R rfl (.int _)) (evDs_cons R (evD_str _) evDs_nil))) (by simp)) (evDs_cons R (evD_tup R (evDs_cons R (evD_str _) (evDs_cons R (evD_var R rfl (.int _)) (evDs_cons R (evD_I (evI_opC (evI_int1 (evI_op (evI_var rfl) (evI_c _))) (evI_c _) (by show (0 : Int) < _; decide))) (evDs_cons R (evD_var R rfl (.int _)) evDs_nil)))) (by simp)) (evDs_cons R (evD_tup R (evDs_cons R (evD_str _) evDs_nil) (by simp)) evDs_nil))))) ?lv6 (by simp) (by simp) ?rest6
          case lv6 => (repeat' first
        | exact all_nil | refine all_cons ?_ ?_ | exact lw _ | exact les _ | refine all_app ?_ ?_ | refine ⟨?_, ?_⟩ | trivial | rfl | exact lv_non | exact lv_bl | exact lv_emp | exact lv_int (by omega) | exact lv_int (by decide +kernel) | exact lv_digit (by omega) | assumption
        | exact lv_any (by decide +kernel) (by decide +kernel) | refine lv_tup ?_ ?_ | refine lv_lst ?_ ?_ | (simp; done) | (simp; omega) | (simp [Bd]; done) | (simp [BdP, Bd]; done) | (simp [Bd]; omega))
          case rest6 =>
            intro M3 H6 us s6 _ nM3 eM3 _ dus lvs3 l03 l43
            refine more r M3 H5 H6 _ us _ _ _ k5 b5 e5 d5 lv5 l5 (by simp) s6 eM3 dus lvs3 (by simp) (fun r2 H7 k7 b7 e7 nr7 d7 lv7 l7 => ?_)
            exact fin _ H7 r2 _ _ rfl k7 b7 e7 nr7 d7 lv7 l7 (by simp)
    · show tAsg _ _ _ _ _
      unfold L2.tAsg
      refine menu_here (K := K) R1 (P := fun e => Lv 3 e ∧ Bd e) nn (fun R => (evDs_cons R (evD_tup R (evDs_cons R (evD_str _) (evDs_cons R (evD_var R rfl (.int _)) evDs_nil)) (by simp)) (evDs_cons R (evD_tup R (evDs_cons R (evD_str _) (evDs_cons R (evD_var R rfl (.int _)) (evDs_cons R (evD_var R rfl (.int _)) evDs_nil))) (by simp)) (evDs_cons R (evD_tup R (evDs_cons R (evD_str _) (evDs_cons R (evD_var R rfl (.int _)) (evDs_cons R (evD_var R rfl (.int _)) evDs_nil))) (by simp)) (evDs_cons R (evD_tup R (evDs_cons R (evD_str _) evDs_nil) (by simp)) (evDs_cons R (evD_tup R (evDs_cons R (evD_str _) (evDs_cons R (evD_var R rfl (.int _)) evDs_nil)) (by simp)) (evDs_cons R (evD_tup R (evDs_cons R evD_non (evDs_cons R (evD_var R rfl (.int _)) evDs_nil)) (by simp)) (evDs_cons R (evD_tup R (evDs_cons R (evD_tup R (evDs_cons R (evD_str _) evDs_nil) (by simp)) (evDs_cons R (evD_var R rfl (.int _)) evDs_nil)) (by simp)) (evDs_cons R (evD_tup R (evDs_cons R (evD_str _) (evDs_cons R (evD_var R rfl (.int _)) evDs_nil)) (by simp)) evDs_nil))))))))) ?lv7 (by simp) (by simp) ?rest7
      case lv7 => (repeat' first
        | exact all_nil | refine all_cons ?_ ?_ | exact lw _ | exact les _ | refine all_app ?_ ?_ | refine ⟨?_, ?_⟩ | trivial | rfl | exact lv_non | exact lv_bl | exact lv_emp | exact lv_int (by omega) | exact lv_int (by decide +kernel) | exact lv_digit (by omega) | assumption
        | exact lv_any (by decide +kernel) (by decide +kernel) | refine lv_tup ?_ ?_ | refine lv_lst ?_ ?_ | (simp; done) | (simp; omega) | (simp [Bd]; done) | (simp [BdP, Bd]; done) | (simp [Bd]; omega))
      case rest7 =>
        intro M H3 ys s3 _ nM eM _ dys lvs l0 l4
        have n3 : H3 p ≠ none := same_at s3 nn
        refine ⟨_, rfl, ?_⟩
        refine menu_here (K := K) (R1.mono (Kp.of s3)) (P := fun e => Lv 3 e ∧ Bd e) n3 (fun R => (evDs_cons R (evD_tup R (evDs_cons R (evD_str _) evDs_nil) (by simp)) (evDs_cons R (evD_tup R (evDs_cons R (evD_str _) (evDs_cons R (evD_var R rfl (.int _)) evDs_nil)) (by simp)) (evDs_cons R (evD_tup R (evDs_cons R (evD_str _) (evDs_cons R (evD_I (evI_op (evI_c _) (evI_c _))) evDs_nil)) (by simp)) (evDs_cons R (evD_tup R (evDs_cons R (evD_str _) (evDs_cons R (evD_int _) evDs_nil)) (by simp)) (evDs_cons R (evD_tup R (evDs_cons R (evD_str _) (evDs_cons R (evD_int _) evDs_nil)) (by simp)) (evDs_cons R (evD_tup R (evDs_cons R (evD_str _) (evDs_cons R (evD_int _) evDs_nil)) (by simp)) (evDs_cons R (evD_tup R (evDs_cons R (evD_str _) (evDs_cons R (evD_int _) evDs_nil)) (by simp)) evDs_nil)))))))) ?lv8 (by simp) (by simp) ?rest8
        case lv8 => (repeat' first
        | exact all_nil | refine all_cons ?_ ?_ | exact lw _ | exact les _ | refine all_app ?_ ?_ | refine ⟨?_, ?_⟩ | trivial | rfl | exact lv_non | exact lv_bl | exact lv_emp | exact lv_int (by omega) | exact lv_int (by decide +kernel) | exact lv_digit (by omega) | assumption
        | exact lv_any (by decide +kernel) (by decide +kernel) | refine lv_tup ?_ ?_ | refine lv_lst ?_ ?_ | (simp; done) | (simp; omega) | (simp [Bd]; done) | (simp [BdP, Bd]; done) | (simp [Bd]; omega))
        case rest8 =>
          intro M2 H4 zs s4 _ nM2 eM2 _ dzs lvs2 l02 l42
          refine more M M2 H3 H4 ys zs _ _ _ (Kp.of s3) (b1.same s3) eM dys lvs l0 (by simp) s4 eM2 dzs lvs2 (by simp) (fun r H5 k5 b5 e5 nr d5 lv5 l5 => ?_)
          exact fin _ H5 r _ _ rfl k5 b5 e5 nr d5 lv5 l5 (by simp)
end
end My

set_option Elab.async false
set_option linter.all false
set_option maxRecDepth 100000
set_option maxHeartbeats 8000000
namespace My
open PySem PySem.Spec PyProof.Rows L2
theorem lv_fit {k : Nat} {d : PyData} (h : Lv k d) (hk : k ≤ 3) : Fit d 3 21600 := by
  refine Fit.mono h hk ?_
  unfold wid
  have : 6 ^ k ≤ 6 ^ 3 := Nat.pow_le_pow_right (by omega) hk
  have e : (6 : Nat) ^ 3 = 216 := by decide
  omega
theorem BdP.bd {d : PyData} (h : BdP d) : Bd d := by
  cases d with
  | tuple ds => exact (show ds.length ≤ 1000 ∧ _ from h).1
  | _ => trivial
theorem fit_all {k w : Nat} {ds : List PyData} (h : ∀ d ∈ ds, Fit d k w) (l : ds.length ≤ 400) : FitAll ds k ((w + 1) * 400) := (FitAll.all h).mono (Nat.le_refl _) (Nat.mul_le_mul_left _ l)
theorem FitAll.app {k : Nat} : ∀ {as bs : List PyData} {w v : Nat}, FitAll as k w → FitAll bs k v → FitAll (as ++ bs) k (w + v)
  | [], bs, w, v, _, h => h.mono (Nat.le_refl _) (Nat.le_add_left _ _)
  | a :: as, bs, w, v, h, g => by
    have hs := h.s; have hd := h.d; have hl := h.l; have hw := h.w
    unfold PyData.showableAll at hs
    unfold PyData.depthAll at hd
    unfold PyData.leavesShortAll at hl
    unfold PyData.weightAll at hw
    rw [Bool.and_eq_true] at hs hl
    have ht : FitAll as k (w - a.weight - 1) := ⟨hs.2, by omega, hl.2, by omega⟩
    have hr := FitAll.app ht g
    have ha : Fit a k a.weight := ⟨hs.1, by omega, hl.1, Nat.le_refl _⟩
    exact (FitAll.cons ha hr).mono (Nat.le_refl _) (by omega)
section
variable {P : Program} {w : World} {K : PySem.W.Frag} {mg : Str → Option Value} {base : Heap}
def spNear (K : PySem.W.Frag) : Sp := fun vs H Q _ => ∃ (p : Addr) (n s : Nat) (x : V) (ds : List PyData), vs = [.ref p, x, .int s] ∧ BoxAt H p n ∧ n < 10000000 ∧ 1 ≤ s ∧ s ≤ 5 ∧ Dw K p H true x (.tuple ds) ∧ ds.length ≤ 400 ∧ (∀ d ∈ ds, StV d) ∧
  ∀ y e H', Kp p H H' → BoxAt H' p (n + 10) → Dw K p H' true y e → Fit e 4 80000 → BdP e → Q y H'
theorem ok_law_near (T : Txt K mg w) : FnOk P w K mg base CX0 3 T.f_law_near T.fd_law_near ["box", "passing", "signs"] (spNear K) := by
  refine T.F_law_near.ok sc_law_near (fun vs H Q E h => ?_) (fun cdv A outer s0 H vs Q E hr h => ?_)
  · obtain ⟨p, n, s, x, d, rfl, _⟩ := h; rfl
  · obtain ⟨p, n, s, x, ds, rfl, hb, hn, h1, h5, hd, l4, hst, q⟩ := h
    refine ⟨_, (pss_cons (ps_par (i := 3) (j := 4) (by rfl) sc_law_near.nd rfl rfl (by decide) rfl rfl (pa_cons (pe_call (ok_law_take T) (hr.mono (by decide)) rfl T.g_law_take T.F_law_take.kp T.b_law_take .nil pass0 (pa_cons (pv 0) (pa_cons pe_int pa_nil))) (pa_cons (pe_call (ok_law_take T) (hr.mono (by decide)) rfl T.g_law_take T.F_law_take.kp T.b_law_take .nil pass0 (pa_cons (pv 0) (pa_cons (pe_op op_add (pe_callB call_len_seq (by rfl) T.z_len (by decide +kernel) (pa_cons (pv 1) pa_nil)) pe_int) pa_nil))) pa_nil)) (by rfl))
      (pss_cons (ps_if (pt_cmpR op_eq (pv 3) pe_int (nomark _)) (pss_one (ps_ret (pe_callTy call_list_ofS (by rfl) T.z_list (by decide +kernel) (pa_cons (pv 1) pa_nil)))) pss_nil)
      (pss_cons (ps_if (pt_cmpR op_eq (pv 3) pe_int (nomark _)) (pss_cons (ps_set (i := 5) sc_law_near.nd rfl (Or.inl rfl) (pe_lstS (pa_cons pe_non (pa_cons pe_int (pa_cons pe_str (pa_cons pe_str (pa_cons pe_dnewK (pa_cons (pe_lstS pa_nil) (pa_cons (pe_tup (pa_cons pe_str (pa_cons pe_int pa_nil))) (pa_cons (pe_tup (pa_cons pe_str (pa_cons pe_int pa_nil))) (pa_cons (pe_tup (pa_cons pe_int pa_nil)) (pa_cons (pe_tup (pa_cons (pe_tup pa_nil) pa_nil)) (pa_cons (pe_lstS (pa_cons (pe_tup (pa_cons pe_str (pa_cons pe_int pa_nil))) pa_nil)) (pa_cons pe_bl (pa_cons (pe_tup (pa_cons pe_str (pa_cons pe_int (pa_cons pe_int pa_nil)))) pa_nil)))))))))))))))
      (pss_one (ps_ret (pe_ix ix_list (pv 5) (pe_call (ok_law_take T) (hr.mono (by decide)) rfl T.g_law_take T.F_law_take.kp T.b_law_take .nil pass0 (pa_cons (pv 0) (pa_cons (pe_callB call_len_seq (by rfl) T.z_len (by decide +kernel) (pa_cons (pv 5) pa_nil)) pa_nil))) (fun _ _ => rfl))))) pss_nil)
      (pss_cons (ps_set (i := 6) sc_law_near.nd rfl (Or.inl rfl) (pe_ifExp (pt_cmpR op_lt (pv 4) (pe_callB call_len_seq (by rfl) T.z_len (by decide +kernel) (pa_cons (pv 1) pa_nil)) (nomark _)) (pe_ix ix_tup (pv 1) (pv 4) (fun _ _ => rfl)) (pe_tup (pa_cons pe_str (pa_cons pe_int pa_nil)))))
      (pss_one (ps_ret (pe_op op_catA (pe_op op_catA (pe_slice sl_tupA (pv 1) po_none (po_some (pv 4))) (pe_tup (pa_cons (pe_call (ok_law_odd T) (hr.mono (by decide)) rfl T.g_law_odd T.F_law_odd.kp T.b_law_odd .nil pass0 (pa_cons (pv 0) (pa_cons (pv 6) (pa_cons (pv 2) pa_nil)))) pa_nil))) (pe_slice sl_tupA (pv 1) (po_some (pe_op op_add (pv 4) (pe_callTy call_int1 (by rfl) T.z_int (by decide +kernel) (pa_cons (pe_cmpR op_gt (pv 3) pe_int (nomark _)) pa_nil)))) po_none)))))))), ?_⟩
    obtain ⟨sx, xs, rfl, hs, hx⟩ := hd.tup_of
    have lx := hx.len
    have hsH : SqT K H sx xs := hs.ext (wo_same H p)
    refine ⟨_, rfl, p, n, 7, rfl, hb, by omega, by omega, by omega, fun way o1 hway ho1 => ?_⟩
    have hsH1 : SqT K (upd H p o1) sx xs := (hs.ext ((Kp.refl p H).upd (o := o1)).wo).ext (wo_same _ p)
    refine ⟨_, rfl, _, rfl, sx, xs, rfl, .inr hsH1, _, _, rfl, rfl, p, _, (xs.length : Int) + 1, rfl, ho1.at, by omega, by omega, by omega, fun at_ o2 hat ho2 => ⟨_, _, rfl, ?_⟩⟩
    obtain ⟨H1, e1⟩ : ∃ H1, H1 = upd (upd H p o1) p o2 := ⟨_, rfl⟩
    have k1 : Kp p H H1 := by rw [e1]; exact ((Kp.refl p H).upd).upd
    have b1 : BoxAt H1 p (n + 2) := by rw [e1]; exact ho2.at
    have nn := b1.some
    have hd1 := hd.kp k1
    rw [← e1]
    have fitp : FitAll ds 1 24400 := fit_all (fun d h => (hst d h).fit) l4
    have hsX : ∀ {H3 : Hp}, Kp p H1 H3 → SqT K H3 sx xs := fun {H3} k => (hs.ext (k1.trans k).wo).ext (wo_same H3 p)
    refine ⟨_, rfl, rfl, _, rfl, ite2 (fun _ => ?_) (fun _ => ⟨_, rfl, rfl, _, rfl, ite2 (fun _ => ?_) (fun _ => ?_)⟩)⟩
    · refine ⟨_, rfl, sx, xs, rfl, .inr (hsX (Kp.refl p H1)), fun l hl low => ?_⟩
      have nl : l ≠ p := (b1.ne hl).symm
      refine q _ (.list ds) _ (k1.new hl) ((b1.new hl).mono (by omega)) (.lst (SqL.of (by rw [wo_ne nl]; exact upd_same)) (fun _ => low) ((hx.kp k1).kp ((Kp.refl p H1).new hl))) ((Fit.list fitp).mono (by omega) (by omega)) trivial
    · have pick : ∀ (D : Ends) (H3 : Hp) (M : Addr) (ys : List V) (es : List PyData), D.rt = Q → Kp p H1 H3 → BoxAt H3 p (n + 2) → H3 M = some (.lst ys) → M ≠ p → DwAll K p H3 true ys es → (∀ e ∈ es, Lv 3 e ∧ BdP e) → 0 < es.length → es.length ≤ 40 →
          tRet (tOp (rIxL K) (tVar 5) (tCall spTake [] E0 (tCons (tVar 0) (tCons (tCB (fun xs H_1 Q => ∃ p ys, xs = [V.ref p] ∧ (SqL K H_1 p ys ∨ SqT K H_1 p ys) ∧ Q (V.int ys.length) H_1) (tCons (tVar 5) tNil)) tNil)))) D
            [some (.ref p), some (.ref sx), some (.int s), some (.int way), some (.int at_), some (.ref M), none] H3 := by
        intro D H3 M ys es hQ k3 b3 eM nM dys lvs l0 l4
        subst hQ
        have ly := dys.len
        refine ⟨_, rfl, _, rfl, _, rfl, M, ys, rfl, .inl (SqL.of eM), p, _, (ys.length : Int), rfl, b3, by omega, by omega, by omega, fun d o hd ho => ?_⟩
        obtain ⟨y, e, ey, ee, dy⟩ := dys.nth (i := d) (by omega)
        have eM2 : (upd H3 p o) M = some (.lst ys) := by rw [upd_ne nM]; exact eM
        obtain ⟨h3, h4⟩ := lvs e (List.mem_of_getElem? ee)
        exact ⟨M, _, _, _, rfl, rfl, SqL.of eM2, atI_nat (j := d) ey, q y e _ ((k1.trans k3).upd) ((ho.at).mono (by omega)) (dy.kp ((Kp.refl p H3).upd)) ((lv_fit h3 (Nat.le_refl _)).mono (by omega) (by omega)) h4⟩
      show tAsg _ _ _ _ _
      unfold L2.tAsg
      refine menu_here (K := K) (w := fun G => wo G p) res_p (P := fun e => Lv 3 e ∧ BdP e) nn (fun R => (evDs_cons R evD_non (evDs_cons R (evD_int _) (evDs_cons R (evD_str _) (evDs_cons R (evD_str _) (evDs_cons R (evD_emp R) (evDs_cons R (evD_lstS R evDs_nil (by simp)) (evDs_cons R (evD_tup R (evDs_cons R (evD_str _) (evDs_cons R (evD_int _) evDs_nil)) (by simp)) (evDs_cons R (evD_tup R (evDs_cons R (evD_str _) (evDs_cons R (evD_int _) evDs_nil)) (by simp)) (evDs_cons R (evD_tup R (evDs_cons R (evD_int _) evDs_nil) (by simp)) (evDs_cons R (evD_tup R (evDs_cons R (evD_tup R evDs_nil (by simp)) evDs_nil) (by simp)) (evDs_cons R (evD_lstS R (evDs_cons R (evD_tup R (evDs_cons R (evD_str _) (evDs_cons R (evD_int _) evDs_nil)) (by simp)) evDs_nil) (by simp)) (evDs_cons R (evD_bl _) (evDs_cons R (evD_tup R (evDs_cons R (evD_str _) (evDs_cons R (evD_int _) (evDs_cons R (evD_int _) evDs_nil))) (by simp)) evDs_nil)))))))))))))) ?lv (by simp) (by simp) ?rest
      case lv => (repeat' first
        | exact all_nil | refine all_cons ?_ ?_ | exact lw _ | exact les _ | refine all_app ?_ ?_ | refine ⟨?_, ?_⟩ | trivial | rfl | exact lv_non | exact lv_bl | exact lv_emp | exact lv_int (by omega) | exact lv_int (by decide +kernel) | exact lv_digit (by omega) | assumption
        | exact lv_any (by decide +kernel) (by decide +kernel) | refine lv_tup ?_ ?_ | refine lv_lst ?_ ?_ | (simp; done) | (simp; omega) | (simp [Bd]; done) | (simp [BdP, Bd]; done) | (simp [Bd]; omega))
      case rest =>
        intro M H3 ys s3 _ nM eM _ dys lvs l0 l4
        exact pick _ H3 M ys _ rfl (Kp.of s3) (b1.same s3) eM nM dys lvs l0 l4
    · have fin : ∀ (D : Ends) (y5 : Option V) (H3 : Hp) (sv : V) (sd : PyData), D.rt = Q → Kp p H1 H3 → BoxAt H3 p (n + 2) → Dw K p H3 true sv sd → StV sd →
          tRet (tOp (rCatA K) (tOp (rCatA K) (tSl (rSlA K) (tVar 1) tNoPart (tPart (tVar 4))) (tTup (tCons (tCall (spOdd K) [] E0 (tCons (tVar 0) (tCons (tVar 6) (tCons (tVar 2) tNil)))) tNil)))
            (tSl (rSlA K) (tVar 1) (tPart (tOp (rI0 fun i j => V.int (i + j)) (tVar 4) (tCB (fun xs H Q => (∃ i, xs = [V.int i] ∧ Q (V.int i) H) ∨ ∃ k, xs = [V.bl k] ∧ Q (V.int (if k = true then 1 else 0)) H) (tCons (tOp (rI0 fun i j => V.bl (decide (j < i))) (tVar 3) (tC (V.int 3))) tNil)))) tNoPart)) D
            [some (.ref p), some (.ref sx), some (.int s), some (.int way), some (.int at_), y5, some sv] H3 := by
        intro D y5 H3 sv sd hQ k3 b3 dsv hsd
        subst hQ
        have hd3 := hd1.kp k3
        refine ⟨_, rfl, _, rfl, _, rfl, ?_⟩
        refine sl_take b3.some hd3 at_ (fun y1 H4 s4 d1 => ?_)
        have b4 := b3.same s4
        refine ⟨_, rfl, _, rfl, _, rfl, p, _, s, sv, sd, (fun G => wo G p), rfl, b4, by omega, h1, h5, res_p, dsv.kp (Kp.of s4), hsd, fun oy oe H5 k5 b5 doe lo bo => ⟨(by show 1 ≤ sizeLine; decide), fun r hr => ?_⟩⟩
        obtain ⟨s6, d6⟩ := one_tup b5.some doe r hr
        generalize upd H5 r (.tup [oy]) = H6 at s6 d6
        have b6 := b5.same s6
        have lt : (ds.take at_).length ≤ 400 := Nat.le_trans (List.length_take_le' _ _) l4
        refine cat_tup b6.some ((d1.kp k5).kp (Kp.of s6)) d6 (by simp only [List.length_singleton]; omega) (fun y2 H7 s7 d7 => ?_)
        have b7 := b6.same s7
        have k7 : Kp p H3 H7 := (((Kp.of s4).trans k5).trans (Kp.of s6)).trans (Kp.of s7)
        obtain ⟨j, ej⟩ : ∃ j : Nat, (at_ : Int) + (if decide ((3 : Int) < (way : Int)) = true then 1 else 0) = (j : Int) := by
          split
          · exact ⟨at_ + 1, by omega⟩
          · exact ⟨at_, by omega⟩
        refine ⟨_, rfl, _, rfl, _, rfl, _, _, rfl, rfl, .inr ⟨_, rfl, _, _, rfl, rfl, (j : Int), congrArg V.int ej, ?_⟩⟩
        suffices use_ : rSlA K (.ref sx) (some (j : Int)) none H7 (fun y H2 => rCatA K y2 y H2 D.rt) from use_
        refine sl_drop b7.some (hd3.kp k7) j (fun y3 H8 s8 d8 => ?_)
        have b8 := b7.same s8
        have ld : (ds.drop j).length ≤ 400 := by rw [List.length_drop]; omega
        refine cat_tup b8.some (d7.kp (Kp.of s8)) d8 (by rw [List.length_append, List.length_singleton]; omega) (fun z H9 s9 d9 => ?_)
        have kz : Kp p H H9 := (((k1.trans k3).trans k7).trans (Kp.of s8)).trans (Kp.of s9)
        have f3 : ∀ d ∈ ds, Fit d 3 60 := fun d h => (hst d h).fit.mono (by omega) (Nat.le_refl _)
        have ft : FitAll (ds.take at_ ++ [oe] ++ ds.drop j) 3 (24400 + (21600 + 1 + 0) + 24400) :=
          ((fit_all (fun d h => f3 d (List.mem_of_mem_take h)) lt).app (FitAll.cons (lv_fit lo (Nat.le_refl _)) FitAll.nil)).app (fit_all (fun d h => f3 d (List.mem_of_mem_drop h)) ld)
        refine q z _ _ kz ((b8.same s9).mono (by omega)) d9 ((Fit.tuple ft).mono (Nat.le_refl _) (by omega)) ⟨?_, fun e he => ?_⟩
        · rw [List.length_append, List.length_append, List.length_singleton]; omega
        · rcases List.mem_append.mp he with he | he
          · rcases List.mem_append.mp he with he | he
            · exact (hst e (List.mem_of_mem_take he)).bd
            · rw [List.mem_singleton.mp he]; exact bo
          · exact (hst e (List.mem_of_mem_drop he)).bd
      refine ⟨_, rfl, _, rfl, sx, xs, rfl, .inr (hsX (Kp.refl p H1)), _, _, rfl, rfl, _, rfl, ite2 (fun c => ?_) (fun _ => ?_)⟩
      · have c' : (at_ : Int) < xs.length := of_decide_eq_true c
        obtain ⟨y, e, ey, ee, dy⟩ := (hx.kp k1).nth (i := at_) (by omega)
        exact ⟨_, rfl, _, rfl, sx, _, _, _, rfl, rfl, hsX (Kp.refl p H1), atI_nat (j := at_) ey, fin _ _ H1 y e rfl (Kp.refl p H1) b1 dy (hst e (List.mem_of_getElem? ee))⟩
      · refine ⟨(by show 2 ≤ sizeLine; decide), fun r hr => ?_⟩
        have nr : r ≠ p := (b1.ne hr).symm
        have s2 : Same H1 (upd H1 r (.tup [.str (Str.ofString "same"), .int 0])) := Same.new (Same.refl _) hr
        exact fin _ _ _ _ (.tuple [.str (Str.ofString "same"), .int (0 : Nat)]) rfl (Kp.of s2) (b1.same s2) (.tup (SqT.of (by rw [wo_ne nr]; exact upd_same)) (.cons (.str _) (.cons (.int _) .nil))) (.inl ⟨[115, 97, 109, 101], 0, rfl, by decide, by decide, by omega⟩)
end
end My

set_option Elab.async false
set_option linter.all false
set_option maxRecDepth 100000
set_option maxHeartbeats 8000000
namespace My
open PySem PySem.Spec PyProof.Rows L2
/-- what the doors tell of a passing -/
def doorD (k : Nat) (ds : List PyData) : PyData := if k % 3 = 0 then .tuple (sentL ds) else if k % 3 = 1 then .tuple (cameL ds) else .int (errL ds).length
section
variable {P : Program} {w : World} {K : PySem.W.Frag} {mg : Str → Option Value} {base : Heap}
theorem kb_sent_passing (T : Txt K mg w) : KBinds K T.fd_sent ["passing"] ["passing"] (fun us ws => match us, ws with | [], [x0] => [x0] | _, _ => []) (fun us ws => match us, ws with | [], [x0] => [x0] | _, _ => []) := by
  obtain ⟨oc, od, kV, doc, pm, an, cdv, ct, osl, e, _, _⟩ := T.F_sent.ex
  refine ⟨fun s us ws _ hl => ?_, fun r rz => ?_⟩
  · match us, ws, hl with
    | [], [x0], _ =>
      rw [e]
      exact .of_eq rfl
  · match r, rz with
    | .nil, .cons r0 (.nil) => exact .cons r0 (.nil)
    | .nil, .nil => exact .nil
    | .nil, .cons _ (.cons _ _) => exact .nil
    | .cons _ _, _ => exact .nil

theorem kb_came_passing (T : Txt K mg w) : KBinds K T.fd_came ["passing"] ["passing"] (fun us ws => match us, ws with | [], [x0] => [x0] | _, _ => []) (fun us ws => match us, ws with | [], [x0] => [x0] | _, _ => []) := by
  obtain ⟨oc, od, kV, doc, pm, an, cdv, ct, osl, e, _, _⟩ := T.F_came.ex
  refine ⟨fun s us ws _ hl => ?_, fun r rz => ?_⟩
  · match us, ws, hl with
    | [], [x0], _ =>
      rw [e]
      exact .of_eq rfl
  · match r, rz with
    | .nil, .cons r0 (.nil) => exact .cons r0 (.nil)
    | .nil, .nil => exact .nil
    | .nil, .cons _ (.cons _ _) => exact .nil
    | .cons _ _, _ => exact .nil

theorem kb_errors_in_passing (T : Txt K mg w) : KBinds K T.fd_errors_in ["passing"] ["passing"] (fun us ws => match us, ws with | [], [x0] => [x0] | _, _ => []) (fun us ws => match us, ws with | [], [x0] => [x0] | _, _ => []) := by
  obtain ⟨oc, od, kV, doc, pm, an, cdv, ct, osl, e, _, _⟩ := T.F_errors_in.ex
  refine ⟨fun s us ws _ hl => ?_, fun r rz => ?_⟩
  · match us, ws, hl with
    | [], [x0], _ =>
      rw [e]
      exact .of_eq rfl
  · match r, rz with
    | .nil, .cons r0 (.nil) => exact .cons r0 (.nil)
    | .nil, .nil => exact .nil
    | .nil, .cons _ (.cons _ _) => exact .nil
    | .cons _ _, _ => exact .nil

def spAsk (K : PySem.W.Frag) : Sp := fun vs H Q _ => ∃ (k : Nat) (x : V) (d : PyData), vs = [.int k, x] ∧ k < 6 ∧ Dg K H true x d ∧ BdP d ∧
  (∀ ds, d = .tuple ds → isPass d (.int 5) = true → ∀ r y H', Same H H' → H' r = some (.lst [.str (Str.ofString "told"), y]) → (r == sysModules) = false → Dg K H' true y (doorD k ds) → Q (.ref r) H') ∧
  (isPass d (.int 5) = false → ∀ r H', Same H H' → H' r = some (.lst [.str (Str.ofString "none"), x, .bl true]) → H r = none → (r == sysModules) = false → Q (.ref r) H')
theorem ok_law_ask (T : Txt K mg w) : FnOk P w K mg base CX0 8 T.f_law_ask T.fd_law_ask ["door", "value"] (spAsk K) := by
  refine T.F_law_ask.ok sc_law_ask (fun vs H Q E h => ?_) (fun cdv A outer s0 H vs Q E hr h => ?_)
  · obtain ⟨k, x, d, rfl, _⟩ := h; rfl
  · obtain ⟨k, x, d, rfl, hk, hd, bd, kT, kF⟩ := h
    refine ⟨_, (pss_one (ps_try_as (i := 2) rfl rfl sc_law_ask.nd rfl rfl ⟨rfl, by decide, Or.inl T.e_InvalidPassing.gC⟩ takes0 (fun W pn xe tk _ => (pss_cons (ps_if (pt_cmpR op_lt (pv 0) pe_int (nomark _)) (pss_one (ps_ret (pe_lstS (pa_cons pe_str (pa_cons (pe_ifExp (pt_cmpR op_eq (pv 0) pe_int (nomark _)) (pe_callS (ok_sent T) (hr.mono (by decide)) rfl T.g_sent T.F_sent.kp T.b_sent (fun σ => passAt tk σ) (pa_cons (pv 1) pa_nil)) (pe_ifExp (pt_cmpR op_eq (pv 0) pe_int (nomark _)) (pe_callS (ok_came T) (hr.mono (by decide)) rfl T.g_came T.F_came.kp T.b_came (fun σ => passAt tk σ) (pa_cons (pv 1) pa_nil)) (pe_callS (ok_errors_in T) (hr.mono (by decide)) rfl T.g_errors_in T.F_errors_in.kp T.b_errors_in (fun σ => passAt tk σ) (pa_cons (pv 1) pa_nil)))) pa_nil))))) pss_nil)
      (pss_cons (ps_if (pt_cmpR op_eq (pv 0) pe_int (nomark _)) (pss_one (ps_ret (pe_lstS (pa_cons pe_str (pa_cons (pe_callKS (ok_sent T) (hr.mono (by decide)) rfl T.g_sent T.F_sent.kp (kb_sent_passing T) (fun σ => passAt tk σ) (pk_cons (pv 1) pk_nil)) pa_nil))))) pss_nil)
      (pss_one (ps_ret (pe_lstS (pa_cons pe_str (pa_cons (pe_ifExp (pt_cmpR op_eq (pv 0) pe_int (nomark _)) (pe_callKS (ok_came T) (hr.mono (by decide)) rfl T.g_came T.F_came.kp (kb_came_passing T) (fun σ => passAt tk σ) (pk_cons (pv 1) pk_nil)) (pe_callKS (ok_errors_in T) (hr.mono (by decide)) rfl T.g_errors_in T.F_errors_in.kp (kb_errors_in_passing T) (fun σ => passAt tk σ) (pk_cons (pv 1) pk_nil))) pa_nil)))))))) (fun a oe cls d pn hz hf => (pss_one (ps_ret (pe_lstS (pa_cons pe_str (pa_cons (pe_gvn T.e_InvalidPassing hz hf (pv 2)) (pa_cons (pe_callB (call_isEd T.xc_InvalidPassing hz hf) (by rfl) T.z_isinstance (by decide +kernel) (pa_cons (pv 2) (pa_cons (pe_glob (v := .ref T.C_CodecError) rfl T.g_CodecError rfl) pa_nil))) pa_nil))))))))), ?_⟩
    have two : 2 ≤ sizeLine := by decide
    have three : 3 ≤ sizeLine := by decide
    -- behind the making of the list
    have told : ∀ ds, d = .tuple ds → isPass d (.int 5) = true → ∀ y H1, Same H H1 → Dg K H1 true y (doorD k ds) → ∀ r, H1 r = none → (r == sysModules) = false → Q (.ref r) (upd H1 r (.lst [.str (Str.ofString "told"), y])) := fun ds e hp y H1 s1 dy r hr low => by
      have s2 : Same H1 (upd H1 r (.lst [.str (Str.ofString "told"), y])) := Same.new (Same.refl _) hr
      exact kT ds e hp r y _ (s1.trans s2) upd_same low (dy.ext s2)
    have fin : isPass d (.int 5) = false → ∀ (r : Addr) (H1 : Hp), Same H H1 → H1 r = none → (r == sysModules) = false → Q (.ref r) (upd H1 r (.lst [.str (Str.ofString "none"), x, .bl true])) := fun hf r H1 s1 hr low =>
      kF hf r _ (s1.trans (Same.new (Same.refl _) hr)) upd_same (s1.free hr) low
    refine ⟨_, rfl, _, _, rfl, rfl, _, rfl, ite2 (fun c => ?_) (fun c => ?_)⟩
    · have c' : (k : Int) < 3 := of_decide_eq_true c
      refine ⟨_, rfl, rfl, _, rfl, ite2 (fun c0 => ?_) (fun c0 => ⟨_, rfl, rfl, _, rfl, ite2 (fun c1 => ?_) (fun c1 => ?_)⟩)⟩
      · have k0 : k = 0 := by have := V.int.inj (of_decide_eq_true c0); omega
        exact ⟨_, rfl, x, d, true, rfl, hd, bd, fun ds e hp y H1 s1 dy => ⟨two, fun r hr low => told ds e hp y H1 s1 (by rw [k0]; exact dy) r hr low⟩, fun hf dd H1 s1 hdn ed => ⟨true, T.x_InvalidPassing, fun _ a ha => ⟨_, rfl, rfl, rfl, dd, _, rfl, ed, _, rfl, _, _, true, dd, _, rfl, .own _, rfl, rfl, ed, T.ki_InvalidPassing_CodecError, three, fun r hr low => fin hf r H1 s1 hr low⟩, fun z => by cases z⟩⟩
      · have k0 : k = 1 := by have := V.int.inj (of_decide_eq_true c1); omega
        exact ⟨_, rfl, x, d, true, rfl, hd, bd, fun ds e hp y H1 s1 dy => ⟨two, fun r hr low => told ds e hp y H1 s1 (by rw [k0]; exact dy) r hr low⟩, fun hf dd H1 s1 hdn ed => ⟨true, T.x_InvalidPassing, fun _ a ha => ⟨_, rfl, rfl, rfl, dd, _, rfl, ed, _, rfl, _, _, true, dd, _, rfl, .own _, rfl, rfl, ed, T.ki_InvalidPassing_CodecError, three, fun r hr low => fin hf r H1 s1 hr low⟩, fun z => by cases z⟩⟩
      · have k0 : k = 2 := by
          have h0 : ¬ k = 0 := fun z => c0 (decide_eq_true (by rw [z]; rfl))
          have h1 : ¬ k = 1 := fun z => c1 (decide_eq_true (by rw [z]; rfl))
          omega
        exact ⟨_, rfl, x, d, true, rfl, hd, bd, fun ds e hp y H1 s1 dy => ⟨two, fun r hr low => told ds e hp y H1 s1 (by rw [k0]; exact dy) r hr low⟩, fun hf dd H1 s1 hdn ed => ⟨true, T.x_InvalidPassing, fun _ a ha => ⟨_, rfl, rfl, rfl, dd, _, rfl, ed, _, rfl, _, _, true, dd, _, rfl, .own _, rfl, rfl, ed, T.ki_InvalidPassing_CodecError, three, fun r hr low => fin hf r H1 s1 hr low⟩, fun z => by cases z⟩⟩
    · have c' : ¬ (k : Int) < 3 := fun z => c (decide_eq_true z)
      refine ⟨_, rfl, rfl, _, rfl, ite2 (fun c0 => ?_) (fun c0 => ⟨_, rfl, rfl, _, rfl, ite2 (fun c1 => ?_) (fun c1 => ?_)⟩)⟩
      · have k0 : k = 3 := by have := V.int.inj (of_decide_eq_true c0); omega
        exact ⟨_, rfl, x, d, true, rfl, hd, bd, fun ds e hp y H1 s1 dy => ⟨two, fun r hr low => told ds e hp y H1 s1 (by rw [k0]; exact dy) r hr low⟩, fun hf dd H1 s1 hdn ed => ⟨true, T.x_InvalidPassing, fun _ a ha => ⟨_, rfl, rfl, rfl, dd, _, rfl, ed, _, rfl, _, _, true, dd, _, rfl, .own _, rfl, rfl, ed, T.ki_InvalidPassing_CodecError, three, fun r hr low => fin hf r H1 s1 hr low⟩, fun z => by cases z⟩⟩
      · have k0 : k = 4 := by have := V.int.inj (of_decide_eq_true c1); omega
        exact ⟨_, rfl, x, d, true, rfl, hd, bd, fun ds e hp y H1 s1 dy => ⟨two, fun r hr low => told ds e hp y H1 s1 (by rw [k0]; exact dy) r hr low⟩, fun hf dd H1 s1 hdn ed => ⟨true, T.x_InvalidPassing, fun _ a ha => ⟨_, rfl, rfl, rfl, dd, _, rfl, ed, _, rfl, _, _, true, dd, _, rfl, .own _, rfl, rfl, ed, T.ki_InvalidPassing_CodecError, three, fun r hr low => fin hf r H1 s1 hr low⟩, fun z => by cases z⟩⟩
      · have k0 : k = 5 := by
          have h0 : ¬ k = 3 := fun z => c0 (decide_eq_true (by rw [z]; rfl))
          have h1 : ¬ k = 4 := fun z => c1 (decide_eq_true (by rw [z]; rfl))
          omega
        exact ⟨_, rfl, x, d, true, rfl, hd, bd, fun ds e hp y H1 s1 dy => ⟨two, fun r hr low => told ds e hp y H1 s1 (by rw [k0]; exact dy) r hr low⟩, fun hf dd H1 s1 hdn ed => ⟨true, T.x_InvalidPassing, fun _ a ha => ⟨_, rfl, rfl, rfl, dd, _, rfl, ed, _, rfl, _, _, true, dd, _, rfl, .own _, rfl, rfl, ed, T.ki_InvalidPassing_CodecError, three, fun r hr low => fin hf r H1 s1 hr low⟩, fun z => by cases z⟩⟩
end
end My

set_option Elab.async false
set_option linter.all false
set_option maxRecDepth 100000
set_option maxHeartbeats 8000000
namespace My
open PySem PySem.Spec PyProof.Rows L2
theorem Fit.list_of {ds : List PyData} {k w : Nat} (h : Fit (.list ds) (k + 1) w) : FitAll ds k w := by
  have hs := h.s; have hd := h.d; have hl := h.l; have hw := h.w
  unfold PyData.showable at hs
  unfold PyData.depth at hd
  unfold PyData.leavesShort at hl
  unfold PyData.weight at hw
  exact ⟨hs, by omega, hl, hw⟩
theorem small_int {i : Int} (h0 : 0 ≤ i) (h : i < 1048576) {k : Nat} : Fit (.int i) k 21 := by
  obtain ⟨n, rfl⟩ : ∃ n : Nat, i = n := ⟨i.toNat, by omega⟩
  exact Fit.nat (by omega)
theorem sec_int {d : PyData} (h : isSt 5 d = true) : Fit (secD d) 0 21 ∧ Fit (lasD d) 0 21 := by
  rcases isSt_shape h with ⟨z, a, rfl, _, h1, h2⟩ | ⟨a, b, rfl, h1, h2, h3, h4⟩
  · exact ⟨small_int h1 (by omega), small_int h1 (by omega)⟩
  · exact ⟨small_int h1 (by omega), small_int h3 (by omega)⟩
theorem sec_is {d : PyData} (h : isSt 5 d = true) : (∃ i, secD d = .int i) ∧ ∃ i, lasD d = .int i := by
  rcases isSt_shape h with ⟨z, a, rfl, _, h1, h2⟩ | ⟨a, b, rfl, h1, h2, h3, h4⟩
  · exact ⟨⟨_, rfl⟩, ⟨_, rfl⟩⟩
  · exact ⟨⟨_, rfl⟩, ⟨_, rfl⟩⟩
theorem ints_any {K : PySem.W.Frag} {H : Hp} {m : Bool} : ∀ {xs : List V} {ds : List PyData}, DgAll K H m xs ds → (∀ d ∈ ds, ∃ i, d = .int i) → ∀ G m2, DgAll K G m2 xs ds
  | _, _, .nil, _, _, _ => .nil
  | _, _, .cons (d := d) h t, hi, G, m2 => by
    obtain ⟨i, rfl⟩ := hi d List.mem_cons_self
    obtain rfl := h.int_of
    exact .cons (.int _) (ints_any t (fun e he => hi e (List.mem_cons_of_mem _ he)) G m2)
theorem sent_ints {ds : List PyData} (h : ∀ e ∈ ds, isSt 5 e = true) : ∀ d ∈ sentL ds, ∃ i, d = .int i := fun d hd => by
  unfold sentL at hd
  obtain ⟨e, he, rfl⟩ := List.mem_map.mp hd
  exact (sec_is (h e (List.mem_filter.mp he).1)).1
theorem came_ints {ds : List PyData} (h : ∀ e ∈ ds, isSt 5 e = true) : ∀ d ∈ cameL ds, ∃ i, d = .int i := fun d hd => by
  unfold cameL at hd
  obtain ⟨e, he, rfl⟩ := List.mem_map.mp hd
  exact (sec_is (h e (List.mem_filter.mp he).1)).2
theorem door_fit {ds : List PyData} (h : ∀ e ∈ ds, isSt 5 e = true) (l : ds.length ≤ 1000) (k : Nat) : Fit (doorD k ds) 1 22000 := by
  unfold doorD
  have f : ∀ l : List PyData, (∀ d ∈ l, Fit d 0 21) → l.length ≤ 1000 → Fit (.tuple l) 1 22000 := fun l hl n => (Fit.tuple (FitAll.all hl)).mono (Nat.le_refl _) (by omega)
  split
  · refine f _ (fun d hd => ?_) ?_
    · unfold sentL at hd
      obtain ⟨e, he, rfl⟩ := List.mem_map.mp hd
      exact (sec_int (h e (List.mem_filter.mp he).1)).1
    · unfold sentL
      rw [List.length_map]
      exact Nat.le_trans (List.length_filter_le _ _) l
  · split
    · refine f _ (fun d hd => ?_) ?_
      · unfold cameL at hd
        obtain ⟨e, he, rfl⟩ := List.mem_map.mp hd
        exact (sec_int (h e (List.mem_filter.mp he).1)).2
      · unfold cameL
        rw [List.length_map]
        exact Nat.le_trans (List.length_filter_le _ _) l
    · have : (errL ds).length ≤ ds.length := List.length_filter_le _ _
      exact (Fit.nat (by omega)).mono (Nat.le_refl _) (by omega)
theorem codes_lt (z : Str) (h : (cs z).all (fun c => decide (c < 200)) = true) (l : (cs z).length ≤ 10) {k : Nat} : Fit (.str z) k 10 := by
  rw [← S_of z]
  exact Fit.str l fun c hm => of_decide_eq_true (List.all_eq_true.mp h c hm)
theorem told_sh {e : PyData} (h : Fit e 1 22000) : Sh (.list [.str (Str.ofString "told"), e]) :=
  (Fit.list (FitAll.cons (codes_lt _ (by decide +kernel) (by decide +kernel)) (FitAll.cons h FitAll.nil))).sh (by omega) (by omega)
theorem none_sh {e : PyData} (h : Fit e 4 80100) : Sh (.list [.str (Str.ofString "none"), e, .bool true]) :=
  (Fit.list (FitAll.cons (codes_lt _ (by decide +kernel) (by decide +kernel)) (FitAll.cons h (FitAll.cons Fit.bool FitAll.nil)))).sh (by omega) (by omega)
section
variable {P : Program} {w : World} {K : PySem.W.Frag} {mg : Str → Option Value} {base : Heap}
def spDr (K : PySem.W.Frag) : Sp := fun vs H Q _ => ∃ (x : V) (d : PyData), vs = [x] ∧ Dg K H true x d ∧ BdP d ∧ Fit d 4 80000 ∧ ∀ H', Same H H' → Q (.bl true) H'
theorem ok_law_doors_right (T : Txt K mg w) : FnG P w K mg base CX0 9 T.f_law_doors_right T.fd_law_doors_right ["value"] (spDr K) := by
  refine T.F_law_doors_right.okG sc_law_doors_right (fun vs H Q E h => ?_) (fun cdv A outer s0 H vs Q E hgd hr h => ?_)
  · obtain ⟨x, d, rfl, _⟩ := h; rfl
  · obtain ⟨x, d, rfl, hd, bd, ft, kQ⟩ := h
    have hun := un64 hr
    refine ⟨_, (pss_cons (ps_set (i := 1) sc_law_doors_right.nd rfl (Or.inl rfl) (pe_lstS pa_nil))
      (pss_cons (ps_if (pt_val (pe_call (ok_law_is_passing T) (hr.mono (by decide)) rfl T.g_law_is_passing T.F_law_is_passing.kp T.b_law_is_passing .nil pass0 (pa_cons (pv 0) (pa_cons pe_int pa_nil)))) (pss_cons (ps_set (i := 1) sc_law_doors_right.nd rfl (Or.inl rfl) (pe_lstS (pa_cons (pe_callTy call_tuple_of (by rfl) T.z_tuple (by decide +kernel) (pa_cons (pe_lc (own := [("step", 2)]) (g := gName 2) (by rfl) sc_law_doors_right.nd (pi_tup (pv 0)) (blkOk_by (own := [("step", 2)]) (N := N_law_doors_right) (sc := defScope s_law_doors_right) (by decide +kernel)) (fun _ _ _ _ _ => pg_name (i := 2) sc_law_doors_right.nd rfl (Or.inl rfl)) (fun _ _ _ _ _ => (pts_one (pt_cmpR op_ne (pe_ix (ix_tupK (K := K) rfl) (pv 2) pe_int (fun _ _ => rfl)) pe_str (nomark _)))) (fun _ _ _ _ _ => (pe_ix (ix_tupK (K := K) rfl) (pv 2) pe_int (fun _ _ => rfl)))) pa_nil)) pa_nil)))
      (pss_cons (ps_expr (pe_bm PySem.F.plainAttrs_list PySem.F.slot_list_append PySem.F.type_list_append mt_append (pv 1) (pa_cons (pe_callTy call_tuple_of (by rfl) T.z_tuple (by decide +kernel) (pa_cons (pe_lc (own := [("step", 2)]) (g := gName 2) (by rfl) sc_law_doors_right.nd (pi_tup (pv 0)) (blkOk_by (own := [("step", 2)]) (N := N_law_doors_right) (sc := defScope s_law_doors_right) (by decide +kernel)) (fun _ _ _ _ _ => pg_name (i := 2) sc_law_doors_right.nd rfl (Or.inl rfl)) (fun _ _ _ _ _ => (pts_one (pt_cmpR op_ne (pe_ix (ix_tupK (K := K) rfl) (pv 2) pe_int (fun _ _ => rfl)) pe_str (nomark _)))) (fun _ _ _ _ _ => (pe_ix (ix_tupK (K := K) rfl) (pv 2) (pe_un un_neg pe_int) (fun _ _ => rfl)))) pa_nil)) pa_nil)))
      (pss_one (ps_expr (pe_bm PySem.F.plainAttrs_list PySem.F.slot_list_append PySem.F.type_list_append mt_append (pv 1) (pa_cons (pe_callB call_len_seq (by rfl) T.z_len (by decide +kernel) (pa_cons (pe_lc (own := [("step", 2)]) (g := gName 2) (by rfl) sc_law_doors_right.nd (pi_tup (pv 0)) (blkOk_by (own := [("step", 2)]) (N := N_law_doors_right) (sc := defScope s_law_doors_right) (by decide +kernel)) (fun _ _ _ _ _ => pg_name (i := 2) sc_law_doors_right.nd rfl (Or.inl rfl)) (fun _ _ _ _ _ => (pts_one (pt_cmpR op_ne (pe_ix (ix_tupK (K := K) rfl) (pv 2) pe_int (fun _ _ => rfl)) pe_str (nomark _)))) (fun _ _ _ _ _ => (pv 2))) pa_nil)) pa_nil)))))) pss_nil)
      (pss_cons (ps_for PassesOwn.never rfl (pi_range1 rfl T.z_range (pa_cons pe_int pa_nil)) (pg_name (i := 3) sc_law_doors_right.nd rfl (Or.inl rfl)) (pss_cons (ps_set (i := 4) sc_law_doors_right.nd rfl (Or.inl rfl) (pe_ifExp (pt_val (pe_callB call_isi (by rfl) T.z_isinstance (by decide +kernel) (pa_cons (pv 0) (pa_cons (pe_bltn (v := .ty "list") (u := .type "list") (by rfl) T.z_list (by decide +kernel) rfl) pa_nil)))) (pe_callTy call_list_ofS (by rfl) T.z_list (by decide +kernel) (pa_cons (pv 0) pa_nil)) (pv 0)))
      (pss_cons (ps_set (i := 5) sc_law_doors_right.nd rfl (Or.inl rfl) (pe_call (ok_law_ask T) (hr.mono (by decide)) rfl T.g_law_ask T.F_law_ask.kp T.b_law_ask .nil pass0 (pa_cons (pv 3) (pa_cons (pv 4) pa_nil))))
      (pss_cons (ps_if (PW.pt (pw_and (pt_cmpR (op_ne_nil (un0 hr)) (pv 1) (pe_lstS pa_nil) (nomark _)) (pw_and1 (pt_cmpR op_ne (pe_callB (call_reprG hgd hun) (by rfl) T.z_repr (by decide +kernel) (pa_cons (pv 5) pa_nil)) (pe_callB (call_reprG hgd hun) (by rfl) T.z_repr (by decide +kernel) (pa_cons (pe_lstS (pa_cons pe_str (pa_cons (pe_ix ix_list (pv 1) (pe_op op_mod (pe_callTy call_int1 (by rfl) T.z_int (by decide +kernel) (pa_cons (pv 3) pa_nil)) pe_int) (fun _ _ => rfl)) pa_nil))) pa_nil)) (nomark _))))) (pss_one (ps_ret pe_bl)) pss_nil)
      (pss_cons (ps_if (pt_val (pe_callB call_isi (by rfl) T.z_isinstance (by decide +kernel) (pa_cons (pv 4) (pa_cons (pe_bltn (v := .ty "list") (u := .type "list") (by rfl) T.z_list (by decide +kernel) rfl) pa_nil)))) (pss_one (ps_expr (pe_bm PySem.F.plainAttrs_list PySem.F.slot_list_append PySem.F.type_list_append mt_append (pv 4) (pa_cons pe_int pa_nil)))) pss_nil)
      (pss_one (ps_if (PW.pt (pw_and (pt_cmpR (op_eq_nil (un0 hr)) (pv 1) (pe_lstS pa_nil) (nomark _)) (pw_and1 (pt_cmpR op_ne (pe_callB (call_reprG hgd hun) (by rfl) T.z_repr (by decide +kernel) (pa_cons (pv 5) pa_nil)) (pe_callB (call_reprG hgd hun) (by rfl) T.z_repr (by decide +kernel) (pa_cons (pe_lstS (pa_cons pe_str (pa_cons (pv 4) (pa_cons pe_bl pa_nil)))) pa_nil)) (nomark _))))) (pss_one (ps_ret pe_bl)) pss_nil)))))))
      (pss_one (ps_ret pe_bl))))), ?_⟩
    have two : 2 ≤ sizeLine := by decide
    have three : 3 ≤ sizeLine := by decide
    refine ⟨(by show 0 ≤ sizeLine; decide), fun DU0 hDU0 _ => ?_⟩
    have s0' : Same H (upd H DU0 (.lst [])) := Same.new (Same.refl _) hDU0
    have e0 : (upd H DU0 (.lst [])) DU0 = some (.lst []) := upd_same
    generalize upd H DU0 (.lst []) = H0 at s0' e0
    refine ⟨_, rfl, x, d, true, 5, rfl, by omega, by omega, hd.ext s0', _, rfl, ?_⟩
    show if isPass d (.int 5) = true then _ else _
    cases hp : isPass d (.int 5) with
    | false =>
      refine iteF ?_
      have last : ∀ (D : Ends) (x3 : Option V) (gv : V) (dg : PyData) (r : Addr) (H5 : Hp), Dg K H5 true gv dg → Fit dg 4 80100 → H5 DU0 = some (.lst []) → H5 r = some (.lst [.str (Str.ofString "none"), gv, .bl true]) → (r == sysModules) = false →
          (∀ H6, Same H5 H6 → D.nx [some x, some (.ref DU0), none, x3, some gv, some (.ref r)] H6) →
          tIfS (tAnd (tTest (tOp rEqNil (tVar 1) (tLstS tNil))) (tTest (tOp rNe (tCB (rReprG K) (tCons (tVar 5) tNil)) (tCB (rReprG K) (tCons (tLstS (tCons (tC (.str (Str.ofString "none"))) (tCons (tVar 4) (tCons (tC (.bl true)) tNil)))) tNil))))) (tRet (tC (.bl false))) tNext D
            [some x, some (.ref DU0), none, x3, some gv, some (.ref r)] H5 := by
        intro D x3 gv dg r H5 dgv fg eD er low hN
        refine ⟨_, rfl, (by show 0 ≤ sizeLine; decide), fun N2 hN2 _ => ⟨DU0, N2, [], [], rfl, rfl, by rw [upd_ne (ne_of_none eD hN2)]; exact eD, upd_same, .inl rfl, _, rfl, ?_⟩⟩
        rw [decide_eq_true rfl]
        have s1 : Same H5 (upd H5 N2 (.lst [])) := Same.new (Same.refl _) hN2
        generalize upd H5 N2 (.lst []) = H6 at s1
        have sh := none_sh fg
        refine iteT ⟨_, rfl, .ref r, .list [.str (Str.ofString "none"), dg, .bool true], true, rfl, .lst (SqL.of (s1 _ _ er)) (fun _ => low) (.cons (.str _) (.cons (dgv.ext s1) (.cons (.bl _) .nil))), sh.1, sh.2.1, sh.2.2, _, rfl, three, fun N3 hN3 low3 => ?_⟩
        have s2 : Same H6 (upd H6 N3 (.lst [.str (Str.ofString "none"), gv, .bl true])) := Same.new (Same.refl _) hN3
        exact ⟨.ref N3, .list [.str (Str.ofString "none"), dg, .bool true], true, rfl, .lst (SqL.of upd_same) (fun _ => low3) (.cons (.str _) (.cons ((dgv.ext s1).ext s2) (.cons (.bl _) .nil))), sh.1, sh.2.1, sh.2.2, rfl, _, rfl, neSame (hN _ (s1.trans s2))⟩
      refine ⟨6, rfl, by decide, by decide, ?_⟩
      refine for_range (lo := 0) (n := 6) (fun i σ H' => ∃ x3 x4 x5, σ = [some x, some (.ref DU0), none, x3, x4, x5] ∧ Same H0 H') ⟨none, none, none, rfl, Same.refl _⟩ ?_ ?_
      · rintro i σ H1 hi ⟨x3, x4, x5, rfl, s1⟩
        rw [Int.zero_add]
        have sH := s0'.trans s1
        have hd1 := hd.ext sH
        refine ⟨_, rfl, _, _, _, _, isLstD d, rfl, .ty _, hd1.ty, kit_lstD d, _, rfl, ?_⟩
        by_cases hl : isLstD d = true
        · rw [hl]
          obtain ⟨ds, rfl⟩ : ∃ ds, d = .list ds := by
            cases d with
            | list ds => exact ⟨ds, rfl⟩
            | _ => cases hl
          obtain ⟨a, xs, rfl, hsq, low0, ha⟩ := hd1.lst_of
          refine iteT ⟨_, rfl, a, xs, rfl, .inl hsq, fun G hG low => ?_⟩
          have s2 : Same H1 (upd H1 G (.lst xs)) := Same.new (Same.refl _) hG
          have eG : (upd H1 G (.lst xs)) G = some (.lst xs) := upd_same
          have hGH : H G = none := sH.free hG
          have hG0 : H0 G = none := s1.free hG
          have ha2 := ha.ext s2
          generalize upd H1 G (.lst xs) = H2 at s2 eG ha2
          refine ⟨_, rfl, _, rfl, i, .ref G, .list ds, rfl, hi, .lst (SqL.of eG) (fun _ => low) ha2, trivial, (fun _ e => by cases e), fun _ r H3 s3 er hr2 lowr => ?_⟩
          have e02 := s3 _ _ (s2 _ _ (s1 _ _ e0))
          -- due != []
          refine ⟨_, rfl, (by show 0 ≤ sizeLine; decide), fun N1 hN1 _ => ⟨DU0, N1, [], rfl, rfl, by rw [upd_ne (ne_of_none e02 hN1)]; exact e02, upd_same, _, rfl, ?_⟩⟩
          refine iteF (iteF ?_)
          have s4 : Same H3 (upd H3 N1 (.lst [])) := Same.new (Same.refl _) hN1
          generalize upd H3 N1 (.lst []) = H4 at s4
          have eG4 := s4 _ _ (s3 _ _ eG)
          have er4 := s4 _ _ er
          have ha4 := (ha2.ext s3).ext s4
          -- given.append(0)
          refine ⟨_, rfl, _, _, _, _, true, rfl, .ty _, .base (.lst eG4), kit_ty (by decide +kernel), _, rfl, iteT ?_⟩
          refine ⟨_, rfl, .inl ⟨rfl, _, SqL.of eG4⟩, G, xs, _, rfl, rfl, eG4, ?_, ?_⟩
          · have fl := ft.list_of.w
            have lw : ∀ l : List PyData, l.length ≤ PyData.weightAll l := by
              intro l
              induction l with
              | nil => exact Nat.zero_le _
              | cons a r ih => unfold PyData.weightAll; rw [List.length_cons]; omega
            have := lw ds
            rw [ha.len]
            exact Nat.lt_of_le_of_lt (by omega : _ ≤ 80000) (by decide)
          have nrG : r ≠ G := fun z => by rw [z] at hr2; rw [hr2] at eG; cases eG
          have eG5 : (upd H4 G (.lst (xs ++ [.int 0]))) G = some (.lst (xs ++ [.int 0])) := upd_same
          have s5 : Same H1 (upd H4 G (.lst (xs ++ [.int 0]))) := fun b o e => by rw [upd_ne (ne_of_none e hG)]; exact ((s2.trans s3).trans s4) _ _ e
          have er5 : (upd H4 G (.lst (xs ++ [.int 0]))) r = some (.lst [.str (Str.ofString "none"), .ref G, .bl true]) := by rw [upd_ne nrG]; exact er4
          refine last _ _ (.ref G) (.list (ds ++ [.int 0])) r _ (.lst (SqL.of eG5) (fun _ => low) ((ha.ext s5).append (.cons (.int _) .nil))) ?_ (s5 _ _ (s1 _ _ e0)) er5 lowr (fun H6 s6 => ⟨_, _, _, rfl, (s1.trans s5).trans s6⟩)
          exact (Fit.list ((ft.list_of).app (FitAll.cons (small_int (k := 3) (Int.le_refl 0) (by omega)) FitAll.nil))).mono (Nat.le_refl _) (by omega)
        · rw [Bool.not_eq_true] at hl
          rw [hl]
          refine iteF ⟨_, rfl, ?_⟩
          refine ⟨_, rfl, _, rfl, i, x, d, rfl, hi, hd1, bd, (fun ds e hp' => by rw [hp] at hp'; cases hp'), fun _ r H3 s3 er hr2 lowr => ?_⟩
          have e02 := s3 _ _ (s1 _ _ e0)
          refine ⟨_, rfl, (by show 0 ≤ sizeLine; decide), fun N1 hN1 _ => ⟨DU0, N1, [], rfl, rfl, by rw [upd_ne (ne_of_none e02 hN1)]; exact e02, upd_same, _, rfl, ?_⟩⟩
          refine iteF (iteF ?_)
          have s4 : Same H3 (upd H3 N1 (.lst [])) := Same.new (Same.refl _) hN1
          generalize upd H3 N1 (.lst []) = H4 at s4
          have hd4 := (hd1.ext s3).ext s4
          refine ⟨_, rfl, _, _, _, _, isLstD d, rfl, .ty _, hd4.ty, kit_lstD d, _, rfl, ?_⟩
          rw [hl]
          refine iteF ?_
          exact last _ _ x d r _ hd4 (ft.mono (Nat.le_refl _) (by omega)) (s4 _ _ e02) (s4 _ _ er) lowr (fun H6 s6 => ⟨_, _, _, rfl, ((s1.trans s3).trans s4).trans s6⟩)
      · rintro σ H1 ⟨x3, x4, x5, rfl, s1⟩
        exact kQ _ (s0'.trans s1)
    | true =>
      refine iteT ?_
      obtain ⟨ds, rfl, hs⟩ := isPass_tup hp
      have st : ∀ d ∈ ds, Stp d := fun d h => isSt_Stp (hs d h)
      have ln : ds.length ≤ 1000 := bd.1
      have hd0 := hd.ext s0'
      obtain ⟨a, xs, rfl, hsq, ha⟩ := hd0.tup_of
      have lx := ha.len
      refine ⟨_, rfl, a, rfl, ⟨_, hsq⟩, fun D hD => ?_⟩
      refine lc_tup (K := K) (a := a) (xs := xs) (fun i H' => Same H0 H' ∧ ∃ acc, H' D = some (.lst acc) ∧ DgAll K H0 true acc (sentL (ds.take i))) ⟨Same.new (Same.refl H0) hD, [], upd_same, .nil⟩ (fun i H' _ h => hsq.ext h.1) ?_ ?_
      · rintro i x H' hx ⟨s', acc, e', ha'⟩
        obtain ⟨d, hd', dx⟩ := ha.at i x hx
        obtain ⟨b, v, vs, rfl, hs, hv, _⟩ := (st d (List.mem_of_getElem? hd')).at0 dx
        have et : sentL (ds.take (i + 1)) = sentL (ds.take i) ++ (if fstD d = Str.ofString "put" then [] else [secD d]) := by
          unfold sentL
          rw [List.take_add_one, hd', List.filter_append, List.map_append]
          by_cases c : fstD d = Str.ofString "put"
          · rw [if_pos c]; simp [c]
          · rw [if_neg c]; simp [c]
        have hs' := hs.ext s'
        refine ⟨rfl, _, rfl, b, _, _, _, rfl, rfl, hs', atI_nat (j := 0) rfl, rfl, _, rfl, ?_⟩
        rw [dec_str']
        by_cases c : fstD d = Str.ofString "put"
        · rw [if_pos c, List.append_nil] at et
          rw [decide_eq_true c]
          exact iteF ⟨s', acc, e', by rw [et]; exact ha'⟩
        · rw [if_neg c] at et
          rw [decide_eq_false c]
          refine iteT ⟨_, rfl, b, _, _, _, rfl, rfl, hs', atI_nat (j := 1) rfl, acc, e', ?_, fun b o e => ?_, acc ++ [v], upd_same, by rw [et]; exact ha'.append (.cons hv .nil)⟩
          · have l := ha'.len
            have l2 : (sentL (ds.take i)).length ≤ ds.length := by
              unfold sentL
              rw [List.length_map]
              exact Nat.le_trans (List.length_filter_le _ _) (List.length_take_le' _ _)
            exact Nat.lt_of_le_of_lt (by omega : acc.length ≤ 1000) (by decide)
          · rw [upd_ne (ne_of_none e hD)]; exact s' b o e
      rintro H1 ⟨s1, acc, e1, ha1⟩
      rw [lx, List.take_length] at ha1
      refine ⟨D, acc, rfl, .inl ⟨SqL.of e1, fun l hl => ⟨(by show 1 ≤ sizeLine; decide), fun DU hDU lowD => ?_⟩⟩⟩
      have s2 : Same H1 (upd H1 l (.tup acc)) := Same.new (Same.refl _) hl
      have el : (upd H1 l (.tup acc)) l = some (.tup acc) := upd_same
      have hia := ints_any ha1 (sent_ints hs)
      generalize upd H1 l (.tup acc) = H2 at s2 el hDU
      have s3 : Same H2 (upd H2 DU (.lst [.ref l])) := Same.new (Same.refl _) hDU
      have eDU : (upd H2 DU (.lst [.ref l])) DU = some (.lst [.ref l]) := upd_same
      have sH3 : Same H0 (upd H2 DU (.lst [.ref l])) := (s1.trans s2).trans s3
      have nDU : H0 DU = none := (s1.trans s2).free hDU
      generalize upd H2 DU (.lst [.ref l]) = H3 at s3 eDU sH3
      have hsq3 := hsq.ext sH3
      have ha3 := ha.ext sH3
      refine ⟨_, rfl, .inl ⟨rfl, _, SqL.of eDU⟩, _, rfl, a, rfl, ⟨_, hsq3⟩, fun D2 hD2 => ?_⟩
      refine lc_tup (K := K) (a := a) (xs := xs) (fun i H' => Same H3 H' ∧ ∃ acc, H' D2 = some (.lst acc) ∧ DgAll K H3 true acc (cameL (ds.take i))) ⟨Same.new (Same.refl H3) hD2, [], upd_same, .nil⟩ (fun i H' _ h => hsq3.ext h.1) ?_ ?_
      · rintro i x H' hx ⟨s', acc, e', ha'⟩
        obtain ⟨d, hd', dx⟩ := ha3.at i x hx
        obtain ⟨b, v, vs, rfl, hs, _, u, eu, hu⟩ := (st d (List.mem_of_getElem? hd')).at0 dx
        have et : cameL (ds.take (i + 1)) = cameL (ds.take i) ++ (if fstD d = Str.ofString "lost" then [] else [lasD d]) := by
          unfold cameL
          rw [List.take_add_one, hd', List.filter_append, List.map_append]
          by_cases c : fstD d = Str.ofString "lost"
          · rw [if_pos c]; simp [c]
          · rw [if_neg c]; simp [c]
        have hs' := hs.ext s'
        refine ⟨rfl, _, rfl, b, _, _, _, rfl, rfl, hs', atI_nat (j := 0) rfl, rfl, _, rfl, ?_⟩
        rw [dec_str']
        by_cases c : fstD d = Str.ofString "lost"
        · rw [if_pos c, List.append_nil] at et
          rw [decide_eq_true c]
          exact iteF ⟨s', acc, e', by rw [et]; exact ha'⟩
        · rw [if_neg c] at et
          rw [decide_eq_false c]
          refine iteT ⟨_, rfl, _, rfl, b, _, _, _, rfl, rfl, hs', eu, acc, e', ?_, fun b o e => ?_, acc ++ [u], upd_same, by rw [et]; exact ha'.append (.cons hu .nil)⟩
          · have l := ha'.len
            have l2 : (cameL (ds.take i)).length ≤ ds.length := by
              unfold cameL
              rw [List.length_map]
              exact Nat.le_trans (List.length_filter_le _ _) (List.length_take_le' _ _)
            exact Nat.lt_of_le_of_lt (by omega : acc.length ≤ 1000) (by decide)
          · rw [upd_ne (ne_of_none e hD2)]; exact s' b o e
      rintro H4 ⟨s4, acc2, e4, ha2⟩
      rw [lx, List.take_length] at ha2
      refine ⟨D2, acc2, rfl, .inl ⟨SqL.of e4, fun l2 hl2 => ?_⟩⟩
      have s5 : Same H4 (upd H4 l2 (.tup acc2)) := Same.new (Same.refl _) hl2
      have el2 : (upd H4 l2 (.tup acc2)) l2 = some (.tup acc2) := upd_same
      have hia2 := ints_any ha2 (came_ints hs)
      have eDU5 : (upd H4 l2 (.tup acc2)) DU = some (.lst [.ref l]) := s5 _ _ (s4 _ _ eDU)
      generalize upd H4 l2 (.tup acc2) = H5 at s5 el2 eDU5
      refine ⟨DU, [.ref l], .ref l2, rfl, rfl, eDU5, (by show 1 < sizeLine; decide), ?_⟩
      have nl : l ≠ DU := ne_of_none el hDU
      have nl2 : l2 ≠ DU := ne_of el2 eDU5 (fun z => by cases z)
      have sH5 : Same H0 H5 := (sH3.trans s4).trans s5
      have el5 : H5 l = some (.tup acc) := s5 _ _ (s4 _ _ (s3 _ _ el))
      have sH6 : Same H0 (upd H5 DU (.lst ([.ref l] ++ [.ref l2]))) := fun b o e => by rw [upd_ne (ne_of_none e nDU)]; exact sH5 b o e
      have el6 : (upd H5 DU (.lst ([.ref l] ++ [.ref l2]))) l = some (.tup acc) := by rw [upd_ne nl]; exact el5
      have el26 : (upd H5 DU (.lst ([.ref l] ++ [.ref l2]))) l2 = some (.tup acc2) := by rw [upd_ne nl2]; exact el2
      have eD6 : (upd H5 DU (.lst ([.ref l] ++ [.ref l2]))) DU = some (.lst ([.ref l] ++ [.ref l2])) := upd_same
      generalize upd H5 DU (.lst ([.ref l] ++ [.ref l2])) = H6 at sH6 el6 el26 eD6
      have hsq6 := hsq.ext sH6
      have ha6 := ha.ext sH6
      -- due.append(len(..))
      refine ⟨_, rfl, .inl ⟨rfl, _, SqL.of eD6⟩, _, rfl, a, rfl, ⟨_, hsq6⟩, fun D3 hD3 => ?_⟩
      refine lc_tup (K := K) (a := a) (xs := xs) (fun i H' => Same H6 H' ∧ ∃ acc, H' D3 = some (.lst acc) ∧ acc.length = (errL (ds.take i)).length) ⟨Same.new (Same.refl H6) hD3, [], upd_same, rfl⟩ (fun i H' _ h => hsq6.ext h.1) ?_ ?_
      · rintro i x H' hx ⟨s', acc, e', ha'⟩
        obtain ⟨d, hd', dx⟩ := ha6.at i x hx
        obtain ⟨b, v, vs, rfl, hs, _⟩ := (st d (List.mem_of_getElem? hd')).at0 dx
        have et : errL (ds.take (i + 1)) = errL (ds.take i) ++ (if fstD d = Str.ofString "same" then [] else [d]) := by
          unfold errL
          rw [List.take_add_one, hd', List.filter_append]
          by_cases c : fstD d = Str.ofString "same"
          · rw [if_pos c]; simp [c]
          · rw [if_neg c]; simp [c]
        have hs' := hs.ext s'
        refine ⟨rfl, _, rfl, b, _, _, _, rfl, rfl, hs', atI_nat (j := 0) rfl, rfl, _, rfl, ?_⟩
        rw [dec_str']
        by_cases c : fstD d = Str.ofString "same"
        · rw [if_pos c, List.append_nil] at et
          rw [decide_eq_true c]
          exact iteF ⟨s', acc, e', by rw [et]; exact ha'⟩
        · rw [if_neg c] at et
          rw [decide_eq_false c]
          refine iteT ⟨_, rfl, acc, e', ?_, fun b o e => ?_, acc ++ [.ref b], upd_same, by rw [et, List.length_append, List.length_append, ha']; rfl⟩
          · have l2 : (errL (ds.take i)).length ≤ ds.length := by
              unfold errL
              exact Nat.le_trans (List.length_filter_le _ _) (List.length_take_le' _ _)
            exact Nat.lt_of_le_of_lt (by omega : acc.length ≤ 1000) (by decide)
          · rw [upd_ne (ne_of_none e hD3)]; exact s' b o e
      rintro H7 ⟨s7, acc3, e7, ha7⟩
      rw [lx, List.take_length] at ha7
      refine ⟨D3, acc3, rfl, .inl (SqL.of e7), DU, [.ref l] ++ [.ref l2], _, rfl, rfl, s7 _ _ eD6, (by show 2 < sizeLine; decide), ?_⟩
      rw [ha7]
      have sH8 : Same H0 (upd H7 DU (.lst ([.ref l] ++ [.ref l2] ++ [.int ((errL ds).length : Nat)]))) := fun b o e => by rw [upd_ne (ne_of_none e nDU)]; exact s7 _ _ (sH6 b o e)
      have el8 : (upd H7 DU (.lst ([.ref l] ++ [.ref l2] ++ [.int ((errL ds).length : Nat)]))) l = some (.tup acc) := by rw [upd_ne nl]; exact s7 _ _ el6
      have el28 : (upd H7 DU (.lst ([.ref l] ++ [.ref l2] ++ [.int ((errL ds).length : Nat)]))) l2 = some (.tup acc2) := by rw [upd_ne nl2]; exact s7 _ _ el26
      have eD8 : (upd H7 DU (.lst ([.ref l] ++ [.ref l2] ++ [.int ((errL ds).length : Nat)]))) DU = some (.lst [.ref l, .ref l2, .int ((errL ds).length : Nat)]) := upd_same
      generalize upd H7 DU (.lst ([.ref l] ++ [.ref l2] ++ [.int ((errL ds).length : Nat)])) = H8 at sH8 el8 el28 eD8
      refine ⟨6, rfl, by decide, by decide, ?_⟩
      refine for_range (lo := 0) (n := 6) (fun i σ H' => ∃ x3 x4 x5, σ = [some (.ref a), some (.ref DU), none, x3, x4, x5] ∧ Same H8 H') ⟨none, none, none, rfl, Same.refl _⟩ ?_ ?_
      · rintro i σ H9 hi ⟨x3, x4, x5, rfl, s9⟩
        rw [Int.zero_add]
        have sH9 := sH8.trans s9
        have hd9 := (hd.ext s0').ext sH9
        refine ⟨_, rfl, _, _, _, _, false, rfl, .ty _, hd9.ty, kit_lstD _, _, rfl, iteF ⟨_, rfl, ?_⟩⟩
        refine ⟨_, rfl, _, rfl, i, .ref a, .tuple ds, rfl, hi, hd9, bd, fun es ees _ r y Ha sa er lowr dy => ?_, fun hp' => by rw [hp] at hp'; cases hp'⟩
        cases ees
        have s8a := s9.trans sa
        have eDa := s8a _ _ eD8
        -- due != [], and what is told
        refine ⟨_, rfl, (by show 0 ≤ sizeLine; decide), fun N1 hN1 _ => ⟨DU, N1, _, rfl, rfl, by rw [upd_ne (ne_of_none eDa hN1)]; exact eDa, upd_same, _, rfl, ?_⟩⟩
        have sb : Same Ha (upd Ha N1 (.lst [])) := Same.new (Same.refl _) hN1
        generalize upd Ha N1 (.lst []) = Hb at sb
        rw [decide_eq_false (fun z => by cases z)]
        have sh := told_sh (door_fit hs ln i)
        have eDb := sb _ _ eDa
        refine iteT ⟨_, rfl, .ref r, .list [.str (Str.ofString "told"), doorD i ds], true, rfl, .lst (SqL.of (sb _ _ er)) (fun _ => lowr) (.cons (.str _) (.cons (dy.ext sb) .nil)), sh.1, sh.2.1, sh.2.2, ?_⟩
        obtain ⟨j, hj, ej, dj⟩ : ∃ (j : Nat) (v : V), ((i : Int) % 3 = (j : Int) ∧ [V.ref l, .ref l2, .int ((errL ds).length : Nat)][j]? = some v) ∧ ∀ G : Hp, Same H8 G → Dg K G true v (doorD i ds) := by
          have c : i % 3 = 0 ∨ i % 3 = 1 ∨ i % 3 = 2 := by omega
          rcases c with c | c | c
          · exact ⟨0, _, ⟨by omega, rfl⟩, fun G sG => by unfold doorD; rw [if_pos c]; exact .tup (SqT.of (sG _ _ el8)) (hia _ _)⟩
          · exact ⟨1, _, ⟨by omega, rfl⟩, fun G sG => by unfold doorD; rw [if_neg (by omega), if_pos c]; exact .tup (SqT.of (sG _ _ el28)) (hia2 _ _)⟩
          · exact ⟨2, _, ⟨by omega, rfl⟩, fun G sG => by unfold doorD; rw [if_neg (by omega), if_neg (by omega)]; exact .int _⟩
        refine ⟨_, rfl, _, rfl, .inl ⟨_, rfl, _, _, rfl, rfl, (by show (0 : Int) < 3; decide), ?_⟩⟩
        refine ⟨DU, _, (j : Int), _, rfl, congrArg V.int ej.1, SqL.of eDb, atI_nat (j := j) ej.2, two, fun N3 hN3 low3 => ?_⟩
        have sc : Same Hb (upd Hb N3 (.lst [.str (Str.ofString "told"), hj])) := Same.new (Same.refl _) hN3
        refine ⟨.ref N3, .list [.str (Str.ofString "told"), doorD i ds], true, rfl, .lst (SqL.of upd_same) (fun _ => low3) (.cons (.str _) (.cons (dj _ ((s8a.trans sb).trans sc)) .nil)), sh.1, sh.2.1, sh.2.2, rfl, _, rfl, neSame ?_⟩
        have s8c := (s8a.trans sb).trans sc
        generalize upd Hb N3 (.lst [.str (Str.ofString "told"), hj]) = Hc at s8c
        refine ⟨_, rfl, _, _, _, _, false, rfl, .ty _, ((hd.ext s0').ext (sH8.trans s8c)).ty, kit_lstD _, _, rfl, iteF ?_⟩
        have eDc := s8c _ _ eD8
        refine ⟨_, rfl, (by show 0 ≤ sizeLine; decide), fun N4 hN4 _ => ⟨DU, N4, _, [], rfl, rfl, by rw [upd_ne (ne_of_none eDc hN4)]; exact eDc, upd_same, .inr rfl, _, rfl, ?_⟩⟩
        rw [decide_eq_false (by show ¬ (3 : Nat) = 0; decide)]
        refine iteF (iteF ?_)
        exact ⟨_, _, _, rfl, s8c.trans (Same.new (Same.refl _) hN4)⟩
      · rintro σ H9 ⟨x3, x4, x5, rfl, s9⟩
        exact kQ _ (s0'.trans (sH8.trans s9))
end
end My

set_option Elab.async false
set_option linter.all false
set_option maxRecDepth 100000
set_option maxHeartbeats 8000000
namespace L2
open PySem PySem.Spec PyProof.Rows
theorem call_reprGK {X : Cx} {K : PySem.W.Frag} (e : X.K = K) (hc : X.A.guards = some []) (hu : X.A.units + 64 < cLine) : CallR X (.builtin "repr") (rReprG K) := by subst e; exact call_reprG hc hu
end L2
namespace My
open PySem PySem.Spec PyProof.Rows L2
theorem dg_down {K : PySem.W.Frag} {H : Hp} {m : Bool} : (∀ {x : V} {d : PyData}, Dg K H m x d → d.hasDict = false → Dg K H false x d) ∧ ∀ {xs : List V} {ds : List PyData}, DgAll K H m xs ds → PyData.hasDictAll ds = false → DgAll K H false xs ds := by
  constructor
  · intro x d h
    exact Dg.rec (motive_1 := fun x d _ => d.hasDict = false → Dg K H false x d) (motive_2 := fun xs ds _ => PyData.hasDictAll ds = false → DgAll K H false xs ds) (fun _ => .non) (fun _ _ => .bl _) (fun _ _ => .int _) (fun _ _ => .str _)
      (fun hs _ _ ih e => .lst hs (fun z => by cases z) (ih (by unfold PyData.hasDict at e; exact e))) (fun hs _ ih e => .tup hs (ih (by unfold PyData.hasDict at e; exact e))) (fun _ _ e => by unfold PyData.hasDict at e; cases e) (fun _ => .nil)
      (fun _ _ i1 i2 e => by unfold PyData.hasDictAll at e; rw [Bool.or_eq_false_iff] at e; exact .cons (i1 e.1) (i2 e.2)) h
  · intro x d h
    exact DgAll.rec (motive_1 := fun x d _ => d.hasDict = false → Dg K H false x d) (motive_2 := fun xs ds _ => PyData.hasDictAll ds = false → DgAll K H false xs ds) (fun _ => .non) (fun _ _ => .bl _) (fun _ _ => .int _) (fun _ _ => .str _)
      (fun hs _ _ ih e => .lst hs (fun z => by cases z) (ih (by unfold PyData.hasDict at e; exact e))) (fun hs _ ih e => .tup hs (ih (by unfold PyData.hasDict at e; exact e))) (fun _ _ e => by unfold PyData.hasDict at e; cases e) (fun _ => .nil)
      (fun _ _ i1 i2 e => by unfold PyData.hasDictAll at e; rw [Bool.or_eq_false_iff] at e; exact .cons (i1 e.1) (i2 e.2)) h
theorem noDict_all : ∀ {ds : List PyData}, (∀ d ∈ ds, d.hasDict = false) → PyData.hasDictAll ds = false
  | [], _ => rfl
  | d :: ds, h => by
    unfold PyData.hasDictAll
    rw [h d List.mem_cons_self, noDict_all fun e he => h e (List.mem_cons_of_mem _ he)]; rfl
/-- a kind, small -/
def Kn (n : Nat) (d : PyData) : Prop := isKd n d = true ∧ Fit d 1 60 ∧ d.hasDict = false
theorem kn_all {n : Nat} (h : n ≤ 5) : ∀ d ∈ kAll n, Kn n d := by
  have one : ∀ (z : Str) (a : Nat), (cs z).length ≤ 6 → (cs z).all (fun c => decide (c < 200)) = true → (z = Str.ofString "lost" ∨ z = Str.ofString "put") → a < n → Kn n (.tuple [.str z, .int a]) := fun z a l c hz ha => by
    refine ⟨?_, (Fit.tuple (FitAll.cons (codes_lt z c (by omega)) (FitAll.cons (Fit.nat (by omega)) FitAll.nil))).mono (Nat.le_refl _) (by omega), rfl⟩
    have b : isBe n (.int a) = true := by show (decide (0 ≤ (a : Int)) && decide ((a : Int) < n)) = true; rw [decide_eq_true (by omega), decide_eq_true (by omega)]; rfl
    rw [isKd2, b]
    show ((decide (z = Str.ofString "lost") || decide (z = Str.ofString "put")) && true) = true
    rcases hz with rfl | rfl <;> simp
  have two : ∀ (a b : Nat), a < n → b < n → a ≠ b → Kn n (.tuple [.str (Str.ofString "turned"), .int a, .int b]) := fun a b ha hb hab => by
    refine ⟨?_, (Fit.tuple (FitAll.cons (codes_lt _ (by decide +kernel) (by decide +kernel)) (FitAll.cons (Fit.nat (by omega)) (FitAll.cons (Fit.nat (by omega)) FitAll.nil)))).mono (Nat.le_refl _) (by omega), rfl⟩
    have b1 : isBe n (.int a) = true := by show (decide (0 ≤ (a : Int)) && decide ((a : Int) < n)) = true; rw [decide_eq_true (by omega), decide_eq_true (by omega)]; rfl
    have b2 : isBe n (.int b) = true := by show (decide (0 ≤ (b : Int)) && decide ((b : Int) < n)) = true; rw [decide_eq_true (by omega), decide_eq_true (by omega)]; rfl
    have b3 : eqI (.int a) (.int b) = false := decide_eq_false (by omega)
    rw [isKd3, b1, b2, b3]
    show (decide (Str.ofString "turned" = Str.ofString "turned") && (true && (true && !false))) = true
    simp
  have tT : ∀ m, m ≤ n → ∀ d ∈ kT n m, Kn n d := by
    intro m
    induction m with
    | zero => intro _ d hd; cases hd
    | succ m ih =>
      intro hm d hd
      have hd : d ∈ kT n m ++ kR n m n := hd
      rcases List.mem_append.mp hd with z | z
      · exact ih (by omega) d z
      · unfold kR at z
        obtain ⟨b, hb, rfl⟩ := List.mem_map.mp z
        obtain ⟨hb1, hb2⟩ := List.mem_filter.mp hb
        exact two m b (by omega) (List.mem_range.mp hb1) (of_decide_eq_true hb2)
  intro d hd
  unfold kAll at hd
  rcases List.mem_append.mp hd with hd | hd
  · rcases List.mem_append.mp hd with hd | hd
    · unfold kL at hd
      obtain ⟨a, ha, rfl⟩ := List.mem_map.mp hd
      exact one _ a (by decide +kernel) (by decide +kernel) (.inl rfl) (List.mem_range.mp ha)
    · unfold kP at hd
      obtain ⟨a, ha, rfl⟩ := List.mem_map.mp hd
      exact one _ a (by decide +kernel) (by decide +kernel) (.inr rfl) (List.mem_range.mp ha)
  · exact tT n (Nat.le_refl _) d hd
theorem kAll_len {n : Nat} (h : n ≤ 5) : (kAll n).length ≤ 35 := by
  unfold kAll
  rw [List.length_append, List.length_append, kL_len, kP_len]
  have := kT_len n n
  have := mul5 h h
  omega
theorem kAll_sh {n : Nat} (h : n ≤ 5) : Sh (.list (kAll n)) := by
  have l := kAll_len h
  refine (Fit.list ((FitAll.all fun d hd => (kn_all h d hd).2.1).mono (Nat.le_refl _) ?_)).sh (k := 2) (w := 61 * 35) (by omega) (by omega)
  exact Nat.mul_le_mul_left _ l
/-- a list of kinds, shown -/
theorem Ac.dg {K : PySem.W.Frag} {H H' : Hp} {D : Addr} {ds : List PyData} (h : Ac K H D ds H') (hn : ∀ d ∈ ds, d.hasDict = false) : Dg K H' false (.ref D) (.list ds) := by
  obtain ⟨_, acc, e, g⟩ := h
  exact .lst (SqL.of e) (fun z => by cases z) (dg_down.2 g.dg (noDict_all hn))
theorem cat_ac {K : PySem.W.Frag} {H H1 H2 H9 : Hp} {D1 D2 : Addr} {as bs : List PyData} {R : VK} (h1 : Ac K H D1 as H1) (s : Same H1 H2) (h2 : Ac K H9 D2 bs H2) (l : as.length + bs.length ≤ 10000)
    (k : ∀ p H3, H p = none → Same H2 H3 → Ac K H p (as ++ bs) H3 → R (.ref p) H3) : rCat (.ref D1) (.ref D2) H2 R := by
  obtain ⟨s1, a1, e1, g1⟩ := h1
  obtain ⟨s2, a2, e2, g2⟩ := h2
  have l1 := g1.len
  have l2 := g2.len
  refine ⟨D1, D2, a1, a2, rfl, rfl, s _ _ e1, e2, Nat.le_trans (by omega : _ ≤ 10000) (by decide), fun p hp => ?_⟩
  have sH := s1.trans s
  refine k p _ (sH.free hp) (Same.new (Same.refl _) hp) ⟨Same.new sH hp, _, upd_same, ?_⟩
  exact DgAll.ext (same_wo hp) ((g1.dg.ext s).append g2.dg)
theorem Ac.same {K : PySem.W.Frag} {H H1 H2 : Hp} {D : Addr} {ds : List PyData} (h : Ac K H D ds H1) (s : Same H1 H2) : Ac K H D ds H2 := by
  obtain ⟨s1, acc, e, g⟩ := h
  exact ⟨s1.trans s, acc, s _ _ e, g.kp (Kp.of s)⟩
section
variable {P : Program} {w : World} {K : PySem.W.Frag} {mg : Str → Option Value} {base : Heap}
theorem kb_all_kinds_signs (T : Txt K mg w) : KBinds K T.fd_all_kinds ["signs"] ["signs"] (fun us ws => match us, ws with | [], [x0] => [x0] | _, _ => []) (fun us ws => match us, ws with | [], [x0] => [x0] | _, _ => []) := by
  obtain ⟨oc, od, kV, doc, pm, an, cdv, ct, osl, e, _, _⟩ := T.F_all_kinds.ex
  refine ⟨fun s us ws _ hl => ?_, fun r rz => ?_⟩
  · match us, ws, hl with
    | [], [x0], _ =>
      rw [e]
      exact .of_eq rfl
  · match r, rz with
    | .nil, .cons r0 (.nil) => exact .cons r0 (.nil)
    | .nil, .nil => exact .nil
    | .nil, .cons _ (.cons _ _) => exact .nil
    | .cons _ _, _ => exact .nil

def spAr (K : PySem.W.Frag) : Sp := fun vs H Q _ => ∃ (s : Nat) (x : V) (d : PyData), vs = [.int s, x] ∧ 1 ≤ s ∧ s ≤ 5 ∧ Dg K H true x d ∧ isSg d = false ∧ Sh d ∧ ∀ H', Same H H' → Q (.bl true) H'
theorem ok_law_all_right (T : Txt K mg w) : FnG P w K mg base CX0 5 T.f_law_all_right T.fd_law_all_right ["signs", "wrong"] (spAr K) := by
  refine T.F_law_all_right.okG sc_law_all_right (fun vs H Q E h => ?_) (fun cdv A outer s0 H vs Q E hgd hr h => ?_)
  · obtain ⟨s, x, d, rfl, _⟩ := h; rfl
  · obtain ⟨s, x, d, rfl, h1, h5, hd, nsg, shd, kQ⟩ := h
    have hun := un64 hr
    refine ⟨_, (pss_cons (ps_set (i := 2) sc_law_all_right.nd rfl (Or.inl rfl) (pe_op op_cat (pe_lc (own := [("a", 3)]) (g := gName 3) (by rfl) sc_law_all_right.nd (pi_range1 rfl T.z_range (pa_cons (pv 0) pa_nil)) (blkOk_by (own := [("a", 3)]) (N := N_law_all_right) (sc := defScope s_law_all_right) (by decide +kernel)) (fun _ _ _ _ _ => pg_name (i := 3) sc_law_all_right.nd rfl (Or.inl rfl)) (fun _ _ _ _ _ => pts_nil) (fun _ _ _ _ _ => (pe_tup (pa_cons pe_str (pa_cons (pv 3) pa_nil))))) (pe_lc (own := [("a", 3)]) (g := gName 3) (by rfl) sc_law_all_right.nd (pi_range1 rfl T.z_range (pa_cons (pv 0) pa_nil)) (blkOk_by (own := [("a", 3)]) (N := N_law_all_right) (sc := defScope s_law_all_right) (by decide +kernel)) (fun _ _ _ _ _ => pg_name (i := 3) sc_law_all_right.nd rfl (Or.inl rfl)) (fun _ _ _ _ _ => pts_nil) (fun _ _ _ _ _ => (pe_tup (pa_cons pe_str (pa_cons (pv 3) pa_nil)))))))
      (pss_cons (ps_for PassesOwn.never rfl (pi_range1 rfl T.z_range (pa_cons (pv 0) pa_nil)) (pg_name (i := 3) sc_law_all_right.nd rfl (Or.inr rfl)) (pss_one (ps_set (i := 2) sc_law_all_right.nd rfl (Or.inl rfl) (pe_op op_cat (pv 2) (pe_lc (own := [("b", 4)]) (g := gName 4) (by rfl) sc_law_all_right.nd (pi_range1 rfl T.z_range (pa_cons (pv 0) pa_nil)) (blkOk_by (own := [("b", 4)]) (N := N_law_all_right) (sc := defScope s_law_all_right) (by decide +kernel)) (fun _ _ _ _ _ => pg_name (i := 4) sc_law_all_right.nd rfl (Or.inl rfl)) (fun _ _ _ _ _ => (pts_one (pt_cmpR op_ne (pv 4) (pv 3) (nomark _)))) (fun _ _ _ _ _ => (pe_tup (pa_cons pe_str (pa_cons (pv 3) (pa_cons (pv 4) pa_nil))))))))))
      (pss_cons (ps_set (i := 5) sc_law_all_right.nd rfl (Or.inl rfl) (pe_call (ok_all_kinds T) (hr.mono (by decide)) rfl T.g_all_kinds T.F_all_kinds.kp T.b_all_kinds .nil passL (pa_cons (pv 0) pa_nil)))
      (pss_cons (ps_if (PW.pt (pw_or (pt_cmpR op_ne (pe_callB (call_reprG hgd hun) (by rfl) T.z_repr (by decide +kernel) (pa_cons (pv 5) pa_nil)) (pe_callB (call_reprG hgd hun) (by rfl) T.z_repr (by decide +kernel) (pa_cons (pv 2) pa_nil)) (nomark _)) (pw_or1 (pt_cmpR (op_ne_nil (un0 hr)) (pe_lc (own := [("kind", 6)]) (g := gName 6) (by rfl) sc_law_all_right.nd (pi_list (pv 5)) (blkOk_by (own := [("kind", 6)]) (N := N_law_all_right) (sc := defScope s_law_all_right) (by decide +kernel)) (fun _ _ _ _ _ => pg_name (i := 6) sc_law_all_right.nd rfl (Or.inl rfl)) (fun _ _ _ _ _ => (pts_one (pt_not (pt_val (pe_call (ok_law_is_kind T) (hr.mono (by decide)) rfl T.g_law_is_kind T.F_law_is_kind.kp T.b_law_is_kind .nil pass0 (pa_cons (pv 6) (pa_cons (pv 0) pa_nil))))))) (fun _ _ _ _ _ => (pv 6))) (pe_lst pa_nil) (nomark _))))) (pss_one (ps_ret pe_bl)) pss_nil)
      (pss_cons (ps_expr (pe_bm PySem.F.plainAttrs_list PySem.F.slot_list_append PySem.F.type_list_append mt_append (pv 5) (pa_cons pe_non pa_nil)))
      (pss_cons (ps_if (pt_cmpR op_ne (pe_callB (call_reprG hgd hun) (by rfl) T.z_repr (by decide +kernel) (pa_cons (pe_callKS (E := fun _ => E0) (ok_all_kinds T) (hr.mono (by decide)) rfl T.g_all_kinds T.F_all_kinds.kp (kb_all_kinds_signs T) (fun σ pins H s e s2 I c => passL pins σ H s e s2 I c) (pk_cons (pv 0) pk_nil)) pa_nil)) (pe_callB (call_reprG hgd hun) (by rfl) T.z_repr (by decide +kernel) (pa_cons (pv 2) pa_nil)) (nomark _)) (pss_one (ps_ret pe_bl)) pss_nil)
      (pss_cons (ps_try_as (i := 7) rfl rfl sc_law_all_right.nd rfl rfl ⟨rfl, by decide, Or.inl T.e_InvalidSigns.gC⟩ takes0 (fun W pn xe tk _ => (pss_one (ps_expr (pe_callS (ok_all_kinds T) (hr.mono (by decide)) rfl T.g_all_kinds T.F_all_kinds.kp T.b_all_kinds (fun σ => passAt tk σ) (pa_cons (pv 1) pa_nil))))) (fun a oe cls d pn hz hf => (pss_one (ps_ret (pe_cmpR op_eq (pe_callB (call_reprGK (K := K) rfl hgd hun) (by rfl) T.z_repr (by decide +kernel) (pa_cons (pe_gvn T.e_InvalidSigns hz hf (pv 7)) pa_nil)) (pe_callB (call_reprGK (K := K) rfl hgd hun) (by rfl) T.z_repr (by decide +kernel) (pa_cons (pv 1) pa_nil)) (nomark _))))))
      (pss_one (ps_ret pe_bl))))))))), ?_⟩
    have two : 2 ≤ sizeLine := by decide
    have three : 3 ≤ sizeLine := by decide
    refine ⟨_, rfl, _, rfl, by omega, by omega, fun D1 hD1 => ?_⟩
    rw [Int.toNat_natCast]
    refine lc_range (lo := 0) (n := s) (fun i H' => Ac K H D1 (kL i) H') (Ac.start hD1) ?_ ?_
    · rintro i H' hi h'
      refine ⟨rfl, tYesT ⟨_, rfl, two, fun q1 hq1 => ?_⟩⟩
      rw [Int.zero_add, kL_succ]
      exact h'.tup hD1 (by rw [kL_len]; omega) hq1 (fun G => .cons (.str _) (.cons (.int _) .nil))
    rintro H1 a1
    refine ⟨_, rfl, _, rfl, by omega, by omega, fun D2 hD2 => ?_⟩
    rw [Int.toNat_natCast]
    refine lc_range (lo := 0) (n := s) (fun i H' => Ac K H1 D2 (kP i) H') (Ac.start hD2) ?_ ?_
    · rintro i H' hi h'
      refine ⟨rfl, tYesT ⟨_, rfl, two, fun q1 hq1 => ?_⟩⟩
      rw [Int.zero_add, kP_succ]
      exact h'.tup hD2 (by rw [kP_len]; omega) hq1 (fun G => .cons (.str _) (.cons (.int _) .nil))
    rintro H2 a2
    refine cat_ac a1 a2.1 a2 (by rw [kL_len, kP_len]; omega) (fun DU H3 hDU s3 a3 => ?_)
    have sgs : isSg (.int (s : Int)) = true := by show (decide (1 ≤ (s : Int)) && decide ((s : Int) ≤ 5)) = true; rw [decide_eq_true (by omega), decide_eq_true (by omega)]; rfl
    have hnd : ∀ e ∈ kAll s, e.hasDict = false := fun e he => (kn_all h5 e he).2.2
    have sh := kAll_sh h5
    refine ⟨_, rfl, _, rfl, by omega, by omega, ?_⟩
    rw [Int.toNat_natCast]
    refine for_range (lo := 0) (n := s) (fun i σ H' => ∃ DU x3, σ = [some (.int s), some x, some (.ref DU), x3, none, none, none, none] ∧ Ac K H DU (kL s ++ kP s ++ kT s i) H' ∧ H DU = none) ⟨DU, none, rfl, by show Ac K H DU (kL s ++ kP s ++ []) H3; rw [List.append_nil]; exact a3, hDU⟩ ?_ ?_
    · rintro i σ H4 hi ⟨DU, x3, rfl, a4, hDU⟩
      refine ⟨_, rfl, _, rfl, _, rfl, by omega, by omega, fun D hD => ?_⟩
      rw [Int.toNat_natCast]
      refine lc_range (lo := 0) (n := s) (fun j H' => Ac K H4 D (kR s i j) H') (Ac.start hD) ?_ ?_
      · rintro j H' hj h'
        refine ⟨rfl, _, rfl, _, rfl, rfl, _, rfl, ?_⟩
        rw [kR_succ, Int.zero_add, Int.zero_add]
        have ll := kR_len s i j
        by_cases c : i = j
        · rw [decide_eq_true (show V.int (j : Int) = V.int (i : Int) by rw [c])]
          refine iteF ?_
          rw [if_neg (fun z => z c), List.append_nil]
          exact h'
        · rw [decide_eq_false (fun z => c (by have := V.int.inj z; omega)), if_pos c]
          exact iteT ⟨_, rfl, _, rfl, three, fun q1 hq1 => h'.tup hD (by omega) hq1 (fun G => .cons (.str _) (.cons (.int _) (.cons (.int _) .nil)))⟩
      rintro H5 a5
      have lT := kT_len s i
      have lR := kR_len s i s
      have m5 := mul5 (a := i) (b := s) (by omega) h5
      refine cat_ac a4 a5.1 a5 (by rw [List.length_append, List.length_append, kL_len, kP_len]; omega) (fun p H6 hp s6 a6 => ⟨p, _, rfl, ?_, hp⟩)
      rw [List.append_assoc] at a6
      exact a6
    rintro σ H4 ⟨DU, x3, rfl, a4, hDU⟩
    have a4 : Ac K H DU (kAll s) H4 := a4
    refine ⟨_, rfl, _, .int s, true, rfl, .int _, fun n en n1 n5 TD H5 hTD a5 => ?_, fun z => by rw [sgs] at z; cases z⟩
    obtain rfl : s = n := by have := PyData.int.inj en; omega
    have a45 := a4.same a5.1
    refine ⟨_, rfl, .ref TD, .list (kAll s), false, rfl, a5.dg hnd, sh.1, sh.2.1, sh.2.2, _, rfl, .ref DU, .list (kAll s), false, rfl, a45.dg hnd, sh.1, sh.2.1, sh.2.2, rfl, _, rfl, neSame ?_⟩
    obtain ⟨s5, acc, e5, g5⟩ := a5
    refine ⟨_, rfl, TD, rfl, ⟨_, SqL.of e5⟩, fun D hD => ?_⟩
    refine lc_list (K := K) (a := TD) (xs := acc) (fun i H' => Same H5 H' ∧ H' D = some (.lst [])) ⟨Same.new (Same.refl _) hD, upd_same⟩ (fun i H' _ h => SqL.of (h.1 _ _ e5)) ?_ ?_
    · rintro i y H' hy ⟨s', e'⟩
      obtain ⟨dd, hdd, dy⟩ := g5.at i y hy
      obtain ⟨kd, _⟩ := kn_all h5 dd (List.mem_of_getElem? hdd)
      refine ⟨rfl, _, rfl, _, rfl, y, dd, true, (s : Int), rfl, by omega, by omega, dy.dg.ext s', _, rfl, ?_⟩
      rw [kd]
      exact iteF ⟨s', e'⟩
    rintro H6 ⟨s6, e6⟩
    refine ⟨(by show 0 ≤ sizeLine; decide), fun N hN => ⟨D, N, [], rfl, rfl, by rw [upd_ne (ne_of_none e6 hN)]; exact e6, upd_same, _, rfl, ?_⟩⟩
    rw [decide_eq_true rfl]
    refine iteF ?_
    have s7 : Same H5 (upd H6 N (.lst [])) := Same.new s6 hN
    generalize upd H6 N (.lst []) = H7 at s7
    have e7 := s7 _ _ e5
    have lac := g5.len
    have lk := kAll_len h5
    refine ⟨_, rfl, .inl ⟨rfl, _, SqL.of e7⟩, TD, acc, _, rfl, rfl, e7, Nat.lt_of_le_of_lt (by omega : acc.length ≤ 35) (by decide), ?_⟩
    have s8 : Same H4 (upd H7 TD (.lst (acc ++ [.non]))) := fun b o e => by rw [upd_ne (ne_of_none e hTD)]; exact s7 _ _ (s5 _ _ e)
    generalize upd H7 TD (.lst (acc ++ [.non])) = H8 at s8
    refine ⟨_, rfl, _, .int s, true, rfl, .int _, fun n en n1 n5 TD2 H9 hTD2 a9 => ?_, fun z => by rw [sgs] at z; cases z⟩
    obtain rfl : s = n := by have := PyData.int.inj en; omega
    have a49 := (a4.same s8).same a9.1
    refine ⟨.ref TD2, .list (kAll s), false, rfl, a9.dg hnd, sh.1, sh.2.1, sh.2.2, _, rfl, .ref DU, .list (kAll s), false, rfl, a49.dg hnd, sh.1, sh.2.1, sh.2.2, rfl, _, rfl, neSame ?_⟩
    have sH : Same H H9 := a49.1
    refine ⟨_, rfl, x, d, true, rfl, hd.ext sH, fun n en n1 n5 => ?_, fun _ dd H' s' hdn ed => ?_⟩
    · exfalso
      rw [en] at nsg
      have : isSg (.int (n : Int)) = true := by show (decide (1 ≤ (n : Int)) && decide ((n : Int) ≤ 5)) = true; rw [decide_eq_true (by omega), decide_eq_true (by omega)]; rfl
      rw [this] at nsg; cases nsg
    · have hd' := hd.ext (sH.trans s')
      refine ⟨true, T.x_InvalidSigns, fun _ a ha => ⟨_, rfl, rfl, rfl, dd, _, rfl, ed, x, d, true, rfl, hd', shd.1, shd.2.1, shd.2.2, _, rfl, x, d, true, rfl, hd', shd.1, shd.2.1, shd.2.2, rfl, ?_⟩, fun z => by cases z⟩
      rw [decide_eq_true rfl]
      exact kQ _ (sH.trans s')
end
end My

set_option Elab.async false
set_option linter.all false
set_option maxRecDepth 100000
set_option maxHeartbeats 8000000
namespace My
open PySem PySem.Spec PyProof.Rows L2
theorem op_here {r : R2} {ta tb : TE} {σ : L2.St} {H : Hp} {Q : VK} (h : ta σ H fun x H1 => tb σ H1 fun y H2 => r x y H2 Q) : tOp r ta tb σ H Q := h
theorem asg_here {te : TE} {g : TG} {D : Ends} {σ : L2.St} {H : Hp} (h : te σ H fun x H1 => g x σ H1 D.nx) : tAsg te g D σ H := h
theorem seq_here {t u : TS} {D : Ends} {σ : L2.St} {H : Hp} (h : t { D with nx := u D } σ H) : tSeq t u D σ H := h
theorem bool_sh {b : Bool} : Sh (.bool b) := (Fit.bool (k := 0)).sh (by omega) (by omega)
section
variable {P : Program} {w : World} {K : PySem.W.Frag} {mg : Str → Option Value} {base : Heap}
theorem kb_is_passing_signs_value (T : Txt K mg w) : KBinds K T.fd_is_passing ["value", "signs"] ["signs", "value"] (fun us ws => match us, ws with | [], [x1, x0] => [x0, x1] | _, _ => []) (fun us ws => match us, ws with | [], [x1, x0] => [x0, x1] | _, _ => []) := by
  obtain ⟨oc, od, kV, doc, pm, an, cdv, ct, osl, e, _, _⟩ := T.F_is_passing.ex
  refine ⟨fun s us ws _ hl => ?_, fun r rz => ?_⟩
  · match us, ws, hl with
    | [], [x1, x0], _ =>
      rw [e]
      exact .of_eq rfl
  · match r, rz with
    | .nil, .cons r1 (.cons r0 (.nil)) => exact .cons r0 (.cons r1 (.nil))
    | .nil, .nil => exact .nil
    | .nil, .cons _ (.nil) => exact .nil
    | .nil, .cons _ (.cons _ (.cons _ _)) => exact .nil
    | .cons _ _, _ => exact .nil

theorem kb_is_kind_signs_value (T : Txt K mg w) : KBinds K T.fd_is_kind ["value", "signs"] ["signs", "value"] (fun us ws => match us, ws with | [], [x1, x0] => [x0, x1] | _, _ => []) (fun us ws => match us, ws with | [], [x1, x0] => [x0, x1] | _, _ => []) := by
  obtain ⟨oc, od, kV, doc, pm, an, cdv, ct, osl, e, _, _⟩ := T.F_is_kind.ex
  refine ⟨fun s us ws _ hl => ?_, fun r rz => ?_⟩
  · match us, ws, hl with
    | [], [x1, x0], _ =>
      rw [e]
      exact .of_eq rfl
  · match r, rz with
    | .nil, .cons r1 (.cons r0 (.nil)) => exact .cons r0 (.cons r1 (.nil))
    | .nil, .nil => exact .nil
    | .nil, .cons _ (.nil) => exact .nil
    | .nil, .cons _ (.cons _ (.cons _ _)) => exact .nil
    | .cons _ _, _ => exact .nil

def spRight (K : PySem.W.Frag) : Sp := fun vs H Q _ => ∃ (p : Addr), vs = [.ref p] ∧ BoxAt H p 0 ∧ ∀ H', Kp p H H' → Q (.bl true) H'
theorem ok_law_right (T : Txt K mg w) : FnG P w K mg base CX0 10 T.f_law_right T.fd_law_right ["box"] (spRight K) := by
  refine T.F_law_right.okG sc_law_right (fun vs H Q E h => ?_) (fun cdv A outer s0 H vs Q E hgd hr h => ?_)
  · obtain ⟨p, rfl, _⟩ := h; rfl
  · obtain ⟨p, rfl, hb, kQ⟩ := h
    have hun := un64 hr
    refine ⟨_, (pss_cons (ps_set (i := 1) sc_law_right.nd rfl (Or.inr rfl) (pe_op op_add pe_int (pe_call (ok_law_take T) (hr.mono (by decide)) rfl T.g_law_take T.F_law_take.kp T.b_law_take .nil pass0 (pa_cons (pv 0) (pa_cons pe_int pa_nil)))))
      (pss_cons (ps_set (i := 2) sc_law_right.nd rfl (Or.inl rfl) (pe_call (ok_law_passing T) (hr.mono (by decide)) rfl T.g_law_passing T.F_law_passing.kp T.b_law_passing .nil pass0 (pa_cons (pv 0) (pa_cons (pv 1) pa_nil))))
      (pss_cons (ps_par (i := 3) (j := 4) (by rfl) sc_law_right.nd rfl rfl (by decide) rfl rfl (pa_cons (pe_call (ok_law_near T) (hr.mono (by decide)) rfl T.g_law_near T.F_law_near.kp T.b_law_near .nil pass0 (pa_cons (pv 0) (pa_cons (pv 2) (pa_cons (pv 1) pa_nil)))) (pa_cons pe_str pa_nil)) (by rfl))
      (pss_cons (ps_set (i := 5) sc_law_right.nd rfl (Or.inl rfl) (pe_ix ix_list (pe_lstS (pa_cons pe_int (pa_cons pe_int (pa_cons (pe_op op_sub pe_int pe_int) (pa_cons pe_non (pa_cons pe_bl (pa_cons pe_str (pa_cons (pe_tup (pa_cons pe_int pa_nil)) (pa_cons (pe_lstS (pa_cons pe_int pa_nil)) (pa_cons (pe_op op_pow pe_int pe_int) (pa_cons pe_dnewK pa_nil))))))))))) (pe_call (ok_law_take T) (hr.mono (by decide)) rfl T.g_law_take T.F_law_take.kp T.b_law_take .nil pass0 (pa_cons (pv 0) (pa_cons pe_int pa_nil))) (fun _ _ => rfl)))
      (pss_cons (ps_for PassesOwn.never rfl (pi_list (pe_lstS (pa_cons (pv 2) (pa_cons (pv 3) pa_nil)))) (pg_name (i := 6) sc_law_right.nd rfl (Or.inl rfl)) (pss_cons (ps_set (i := 4) sc_law_right.nd rfl (Or.inl rfl) (pe_callB (call_reprG hgd hun) (by rfl) T.z_repr (by decide +kernel) (pa_cons (pv 6) pa_nil)))
      (pss_cons (ps_for PassesOwn.never rfl (pi_list (pe_lstS (pa_cons pe_int (pa_cons pe_int (pa_cons pe_int (pa_cons pe_int (pa_cons pe_int (pa_cons (pv 1) pa_nil)))))))) (pg_name (i := 7) sc_law_right.nd rfl (Or.inl rfl)) (pss_one (ps_if (pt_cmpR op_ne (pe_callB (call_reprG hgd hun) (by rfl) T.z_repr (by decide +kernel) (pa_cons (pe_call (ok_is_passing T) (hr.mono (by decide)) rfl T.g_is_passing T.F_is_passing.kp T.b_is_passing .nil pass0 (pa_cons (pv 6) (pa_cons (pv 7) pa_nil))) pa_nil)) (pe_callB (call_reprG hgd hun) (by rfl) T.z_repr (by decide +kernel) (pa_cons (pe_call (ok_law_is_passing T) (hr.mono (by decide)) rfl T.g_law_is_passing T.F_law_is_passing.kp T.b_law_is_passing .nil pass0 (pa_cons (pv 6) (pa_cons (pv 7) pa_nil))) pa_nil)) (nomark _)) (pss_one (ps_ret pe_bl)) pss_nil)))
      (pss_one (ps_if (PW.pt (pw_or (pt_cmpR op_notBl (pe_callKS (E := fun _ => E0) (ok_is_passing T) (hr.mono (by decide)) rfl T.g_is_passing T.F_is_passing.kp (kb_is_passing_signs_value T) (fun σ pins H s e s2 I c => pass0 pins σ H s e s2 I c) (pk_cons (pv 5) (pk_cons (pv 6) pk_nil))) pe_bl (nomark _)) (pw_or (pt_not (pt_val (pe_callG (ok_law_doors_right T) hgd (hr.mono (by decide)) rfl T.g_law_doors_right T.F_law_doors_right.kp T.b_law_doors_right .nil pass0 (pa_cons (pv 6) pa_nil)))) (pw_or1 (pt_cmpR op_ne (pe_callB (call_reprG hgd hun) (by rfl) T.z_repr (by decide +kernel) (pa_cons (pv 6) pa_nil)) (pv 4) (nomark _)))))) (pss_one (ps_ret pe_bl)) pss_nil)))))
      (pss_cons (ps_set (i := 8) sc_law_right.nd rfl (Or.inl rfl) (pe_op op_cat (pe_op op_cat (pe_lc (own := [("k", 7)]) (g := gName 7) (by rfl) sc_law_right.nd (pi_range1 rfl T.z_range (pa_cons pe_int pa_nil)) (blkOk_by (own := [("k", 7)]) (N := N_law_right) (sc := defScope s_law_right) (by decide +kernel)) (fun _ _ _ _ _ => pg_name (i := 7) sc_law_right.nd rfl (Or.inl rfl)) (fun _ _ _ _ _ => pts_nil) (fun _ _ _ _ _ => (pe_call (ok_law_odd T) (hr.mono (by decide)) rfl T.g_law_odd T.F_law_odd.kp T.b_law_odd .nil pass0 (pa_cons (pv 0) (pa_cons (pe_call (ok_law_step T) (hr.mono (by decide)) rfl T.g_law_step T.F_law_step.kp T.b_law_step .nil pass0 (pa_cons (pv 0) (pa_cons (pv 1) pa_nil))) (pa_cons (pv 1) pa_nil)))))) (pe_callTy call_list_ofS (by rfl) T.z_list (by decide +kernel) (pa_cons (pe_slice sl_tupA (pv 2) po_none (po_some pe_int)) pa_nil))) (pe_lstS (pa_cons (pv 3) (pa_cons (pe_tup (pa_cons pe_str (pa_cons pe_int pa_nil))) pa_nil)))))
      (pss_cons (ps_for PassesOwn.never rfl (pi_list (pv 8)) (pg_name (i := 9) sc_law_right.nd rfl (Or.inl rfl)) (pss_cons (ps_for PassesOwn.never rfl (pi_range2 rfl T.z_range (pa_cons pe_int (pa_cons pe_int pa_nil))) (pg_name (i := 7) sc_law_right.nd rfl (Or.inl rfl)) (pss_one (ps_if (pt_cmpR op_ne (pe_callB (call_reprG hgd hun) (by rfl) T.z_repr (by decide +kernel) (pa_cons (pe_call (ok_is_kind T) (hr.mono (by decide)) rfl T.g_is_kind T.F_is_kind.kp T.b_is_kind .nil pass0 (pa_cons (pv 9) (pa_cons (pv 7) pa_nil))) pa_nil)) (pe_callB (call_reprG hgd hun) (by rfl) T.z_repr (by decide +kernel) (pa_cons (pe_call (ok_law_is_kind T) (hr.mono (by decide)) rfl T.g_law_is_kind T.F_law_is_kind.kp T.b_law_is_kind .nil pass0 (pa_cons (pv 9) (pa_cons (pv 7) pa_nil))) pa_nil)) (nomark _)) (pss_one (ps_ret pe_bl)) pss_nil)))
      (pss_one (ps_if (pt_cmpR op_notBl (pe_callKS (E := fun _ => E0) (ok_is_kind T) (hr.mono (by decide)) rfl T.g_is_kind T.F_is_kind.kp (kb_is_kind_signs_value T) (fun σ pins H s e s2 I c => pass0 pins σ H s e s2 I c) (pk_cons (pv 5) (pk_cons (pv 9) pk_nil))) pe_bl (nomark _)) (pss_one (ps_ret pe_bl)) pss_nil))))
      (pss_one (ps_ret (pe_callG (ok_law_all_right T) hgd (hr.mono (by decide)) rfl T.g_law_all_right T.F_law_all_right.kp T.b_law_all_right .nil pass0 (pa_cons (pv 1) (pa_cons (pv 5) pa_nil)))))))))))), ?_⟩
    have two : 2 ≤ sizeLine := by decide
    refine ⟨_, rfl, p, 0, 5, rfl, hb, by omega, by omega, by omega, fun s' o1 hs' ho1 => ⟨_, _, rfl, rfl, ?_⟩⟩
    obtain ⟨s, es⟩ : ∃ s : Nat, (1 : Int) + (s' : Int) = (s : Int) := ⟨1 + s', by omega⟩
    show gName 1 (.int ((1 : Int) + (s' : Int))) _ _ _
    rw [es]
    have h1 : 1 ≤ s := by omega
    have h5 : s ≤ 5 := by omega
    have k1 : Kp p H (upd H p o1) := (Kp.refl p H).upd
    have b1 : BoxAt (upd H p o1) p 1 := ho1.at
    generalize upd H p o1 = H1 at k1 b1
    refine ⟨_, rfl, _, rfl, p, 1, s, rfl, b1, by omega, h1, h5, fun x ds H2 k2 b2 dx lx vx => ?_⟩
    refine ⟨_, rfl, _, rfl, _, rfl, p, _, s, x, ds, rfl, b2, by omega, h1, h5, dx, lx, vx, fun y e H3 k3 b3 dy fy by_ => ⟨_, _, rfl, ?_⟩⟩
    have kH3 : Kp p H H3 := (k1.trans k2).trans k3
    dsimp only [L2.tSeq, L2.tAsg]
    refine op_here ?_
    refine menu_here (K := K) (w := fun G => wo G p) res_p (P := fun d => Lv 3 d ∧ isSg d = false) b3.some (fun R => (evDs_cons R (evD_int _) (evDs_cons R (evD_int _) (evDs_cons R (evD_I (evI_op (evI_c _) (evI_c _))) (evDs_cons R evD_non (evDs_cons R (evD_bl _) (evDs_cons R (evD_str _) (evDs_cons R (evD_tup R (evDs_cons R (evD_int _) evDs_nil) (by simp)) (evDs_cons R (evD_lstS R (evDs_cons R (evD_int _) evDs_nil) (by simp)) (evDs_cons R (evD_I (evI_opC (evI_c _) (evI_c _) (by exact ⟨by decide, by decide, by decide⟩))) (evDs_cons R (evD_emp R) evDs_nil))))))))))) ?lv (by simp) (by simp) ?rest
    case lv => (repeat' first
        | exact all_nil | refine all_cons ?_ ?_ | exact lw _ | exact les _ | refine all_app ?_ ?_ | refine ⟨?_, ?_⟩ | trivial | rfl | exact lv_non | exact lv_bl | exact lv_emp | exact lv_int (by omega) | exact lv_int (by decide +kernel) | exact lv_digit (by omega) | assumption
        | exact lv_any (by decide +kernel) (by decide +kernel) | refine lv_tup ?_ ?_ | refine lv_lst ?_ ?_ | (simp; done) | (simp; omega) | (simp [Bd]; done) | (simp [BdP, Bd]; done) | (simp [Bd]; omega))
    case rest =>
      intro M H4 ms s4 _ nM eM _ dms lvs l0 _
      have l10 : ms.length = 10 := dms.len
      have b4 := b3.same s4
      refine ⟨_, rfl, p, _, 10, rfl, b4, by omega, by omega, by omega, fun dd od hdd hod => ?_⟩
      obtain ⟨wv, wd, ew, ewd, dw⟩ := dms.nth (i := dd) (by have := dms.len; omega)
      obtain ⟨lw, nsg⟩ := lvs wd (List.mem_of_getElem? ewd)
      have eM2 : (upd H4 p od) M = some (.lst ms) := by rw [upd_ne nM]; exact eM
      refine ⟨M, _, _, _, rfl, rfl, SqL.of eM2, atI_nat (j := dd) ew, ?_⟩
      have k5 : Kp p H3 (upd H4 p od) := (Kp.of s4).upd
      have b5 : BoxAt (upd H4 p od) p (1 + 2000 + 10 + 1) := hod.at
      have dw5 : Dw K p (upd H4 p od) true wv wd := dw.kp ((Kp.refl p H4).upd)
      generalize upd H4 p od = H5 at k5 b5 dw5
      have dx5 := (dx.kp k3).kp k5
      have dy5 := dy.kp k5
      have shw : Sh wd := lw.sh (by omega)
      have fx : Fit (.tuple ds) 4 80000 := (Fit.tuple (fit_all (fun d h => (vx d h).fit) lx)).mono (by omega) (by omega)
      have bx : BdP (.tuple ds) := ⟨by omega, fun d h => (vx d h).bd⟩
      -- both values
      refine ⟨_, rfl, _, rfl, two, fun L hL _ => ⟨L, rfl, ⟨_, SqL.of upd_same⟩, ?_⟩⟩
      have s6 : Same H5 (upd H5 L (.lst [x, y])) := Same.new (Same.refl _) hL
      have eL : (upd H5 L (.lst [x, y])) L = some (.lst [x, y]) := upd_same
      have b6 := b5.same s6
      have dx6 := dx5.kp (Kp.of s6)
      have dy6 := dy5.kp (Kp.of s6)
      have dw6 := dw5.kp (Kp.of s6)
      have k6 : Kp p H (upd H5 L (.lst [x, y])) := (kH3.trans k5).trans (Kp.of s6)
      generalize upd H5 L (.lst [x, y]) = H6 at s6 eL b6 dx6 dy6 dw6 k6
      refine for_list (K := K) (a := L) (xs := [x, y]) (fun i σ H' => ∃ x4 x6 x7, σ = [some (.ref p), some (.int s), some x, some y, x4, some wv, x6, x7, none, none] ∧ Same H6 H') ⟨_, _, _, rfl, Same.refl _⟩ (fun i σ H' _ ⟨_, _, _, _, s⟩ => SqL.of (s _ _ eL)) ?_ ?_
      · rintro i v σ H7 hv ⟨x4, x6, x7, rfl, s7⟩
        obtain ⟨dv, hdv, bv, fv⟩ : ∃ dv, Dg K H6 true v dv ∧ BdP dv ∧ Fit dv 4 80000 := by
          match i, hv with
          | 0, hv => rw [← Option.some.inj hv]; exact ⟨_, dx6.dg, bx, fx⟩
          | 1, hv => rw [← Option.some.inj hv]; exact ⟨_, dy6.dg, by_, fy⟩
          | i + 2, hv => simp at hv
        have shv : Sh dv := fv.sh (by omega) (by omega)
        have dv7 := hdv.ext s7
        refine ⟨_, rfl, v, dv, true, rfl, dv7, shv.1, shv.2.1, shv.2.2, ?_⟩
        refine ⟨_, rfl, (by show 6 ≤ sizeLine; decide), fun L2 hL2 _ => ⟨L2, rfl, ⟨_, SqL.of upd_same⟩, ?_⟩⟩
        have s8 : Same H7 (upd H7 L2 (.lst [.int 1, .int 2, .int 3, .int 4, .int 5, .int s])) := Same.new (Same.refl _) hL2
        have e8 : (upd H7 L2 (.lst [.int 1, .int 2, .int 3, .int 4, .int 5, .int s])) L2 = some (.lst [.int 1, .int 2, .int 3, .int 4, .int 5, .int s]) := upd_same
        generalize upd H7 L2 (.lst [.int 1, .int 2, .int 3, .int 4, .int 5, .int s]) = H8 at s8 e8
        refine for_list (K := K) (a := L2) (xs := [.int 1, .int 2, .int 3, .int 4, .int 5, .int s]) (fun j σ H' => ∃ x7, σ = [some (.ref p), some (.int s), some x, some y, some (.str dv.shown), some wv, some v, x7, none, none] ∧ Same H8 H') ⟨_, rfl, Same.refl _⟩ (fun j σ H' _ ⟨_, _, s⟩ => SqL.of (s _ _ e8)) ?_ ?_
        · rintro j u σ H9 hu ⟨x7, rfl, s9⟩
          obtain ⟨k, rfl, hk1, hk5⟩ : ∃ k : Int, u = .int k ∧ 1 ≤ k ∧ k ≤ 5 := by
            match j, hu with
            | 0, hu => exact ⟨1, (Option.some.inj hu).symm, by omega, by omega⟩
            | 1, hu => exact ⟨2, (Option.some.inj hu).symm, by omega, by omega⟩
            | 2, hu => exact ⟨3, (Option.some.inj hu).symm, by omega, by omega⟩
            | 3, hu => exact ⟨4, (Option.some.inj hu).symm, by omega, by omega⟩
            | 4, hu => exact ⟨5, (Option.some.inj hu).symm, by omega, by omega⟩
            | 5, hu => exact ⟨s, (Option.some.inj hu).symm, by omega, by omega⟩
            | j + 6, hu => simp at hu
          have dv9 := (dv7.ext s8).ext s9
          refine ⟨_, rfl, _, rfl, v, .int k, dv, .int k, true, true, rfl, dv9, .int k, bv, fun Ha sa => ?_⟩
          exact ⟨_, .bool (isPass dv (.int k)), true, rfl, .bl _, bool_sh.1, bool_sh.2.1, bool_sh.2.2, _, rfl, _, rfl, v, dv, true, k, rfl, hk1, hk5, dv9.ext sa, _, .bool (isPass dv (.int k)), true, rfl, .bl _, bool_sh.1, bool_sh.2.1, bool_sh.2.2, rfl, _, rfl, neSame ⟨_, rfl, s9.trans sa⟩⟩
        · rintro σ H9 ⟨x7, rfl, s9⟩
          have s79 := s8.trans s9
          have dv9 := dv7.ext s79
          have dw9 : Dg K H9 true wv wd := (dw6.dg.ext s7).ext s79
          refine ⟨_, rfl, _, rfl, v, wv, dv, wd, true, true, rfl, dv9, dw9, bv, fun Ha sa => ⟨_, false, rfl, rfl, _, rfl, ?_⟩⟩
          have ip : isPass dv wd = false := by unfold isPass; rw [nsg]; rfl
          rw [ip, decide_eq_true rfl]
          refine iteF ⟨_, rfl, v, dv, rfl, dv9.ext sa, bv, fv, fun Hb sb => ⟨true, rfl, ?_⟩⟩
          refine iteF ⟨_, rfl, v, dv, true, rfl, (dv9.ext sa).ext sb, shv.1, shv.2.1, shv.2.2, _, rfl, rfl, _, rfl, neSame ?_⟩
          exact ⟨_, _, _, rfl, ((s7.trans s79).trans sa).trans sb⟩
      · rintro σ H7 ⟨x4, x6, x7, rfl, s7⟩
        have b7 := b6.same s7
        have k7 := k6.trans (Kp.of s7)
        have dx7 := dx6.kp (Kp.of s7)
        have dy7 := dy6.kp (Kp.of s7)
        have dw7 := dw6.kp (Kp.of s7)
        -- the steps
        refine ⟨4, rfl, by decide, by decide, fun D hD => ?_⟩
        have nD : D ≠ p := (b7.ne hD).symm
        refine lc_range (lo := 0) (n := 4) (fun i H' => Kp p H7 H' ∧ BoxAt H' p (3000 + 10 * i) ∧ ∃ acc es, H' D = some (.lst acc) ∧ DgAll K (wo (wo H' p) D) true acc es ∧ es.length = i ∧ ∀ e ∈ es, Lv 3 e ∧ Bd e)
          ⟨(Kp.refl p H7).new hD, (b7.new hD).mono (by omega), [], [], upd_same, .nil, rfl, fun d h => by cases h⟩ ?_ ?_
        · rintro i H' hi ⟨k', b', acc, es', e', g', l', v'⟩
          refine ⟨rfl, tYesT ⟨_, rfl, _, rfl, _, rfl, p, _, s, rfl, b', by omega, h1, h5, fun q1 xs ts H8 st dg k8 hq e8 b8 => ?_⟩⟩
          have eD8 : H8 D = some (.lst acc) := k8 _ _ nD e'
          have nq : q1 ≠ p := (b'.ne hq).symm
          have nqD : q1 ≠ D := fun z => by rw [z, e'] at hq; cases hq
          refine ⟨_, rfl, p, _, s, .ref q1, .tuple ts, (fun G => wo (wo G p) D), rfl, b8, by omega, h1, h5, res_two eD8 nD, .tup (SqT.of (by show wo (wo H8 p) D q1 = _; rw [wo_ne nqD, wo_ne nq]; exact e8)) (dg _), st, fun oy oe H9 k9 b9 doe lo bo => ?_⟩
          have eD9 : H9 D = some (.lst acc) := k9 _ _ nD eD8
          have k79 := (k'.trans k8).trans k9
          refine ⟨acc, eD9, by rw [g'.len, l']; exact Nat.lt_of_lt_of_le (by omega : i < 1000) (by decide), fun b o nb e => ?_, (b9.other nD.symm).mono (by omega), acc ++ [oy], es' ++ [oe], upd_same, ?_, by rw [List.length_append, l']; rfl, fun d hd => ?_⟩
          · rw [upd_ne (ne_of_none e hD)]; exact k79 b o nb e
          · have hw : wo (wo (upd H9 D (.lst (acc ++ [oy]))) p) D = wo (wo H9 p) D := by rw [wo_new nD, wo_upd]
            rw [hw]
            exact (g'.ext (kp_wo2 (k8.trans k9))).append (.cons doe .nil)
          · rcases List.mem_append.mp hd with z | z
            · exact v' d z
            · rw [List.mem_singleton.mp z]; exact ⟨lo, bo⟩
        · rintro H8 ⟨k8, b8, acc, es', e8, g8, l8, v8⟩
          have g8' : DgAll K H8 true acc es' := (g8.ext (wo_same _ D)).dg
          have dx8 := dx7.kp k8
          refine ⟨_, rfl, 6, rfl, ?_⟩
          refine sl_take b8.some dx8 6 (fun x1 H9 s9 d9 => ?_)
          obtain ⟨a1, xs1, rfl, hs1, ha1⟩ := d9.dg.tup_of
          refine ⟨a1, xs1, rfl, .inr hs1, fun G hG _ => ?_⟩
          have l1 := ha1.len
          have l6 : (ds.take 6).length ≤ 6 := List.length_take_le _ _
          have s10 : Same H9 (upd H9 G (.lst xs1)) := Same.new (Same.refl _) hG
          have eG : (upd H9 G (.lst xs1)) G = some (.lst xs1) := upd_same
          have la := g8'.len
          have e10 : (upd H9 G (.lst xs1)) D = some (.lst acc) := s10 _ _ (s9 _ _ e8)
          have s8_10 := s9.trans s10
          have ha10 := ha1.ext s10
          generalize upd H9 G (.lst xs1) = H10 at s10 eG e10 s8_10 ha10
          refine ⟨D, G, acc, xs1, rfl, rfl, e10, eG, Nat.le_trans (by omega : _ ≤ 100) (by decide), fun p1 hp1 => ?_⟩
          have s11 : Same H10 (upd H10 p1 (.lst (acc ++ xs1))) := Same.new (Same.refl _) hp1
          have e11 : (upd H10 p1 (.lst (acc ++ xs1))) p1 = some (.lst (acc ++ xs1)) := upd_same
          generalize upd H10 p1 (.lst (acc ++ xs1)) = H11 at s11 e11
          refine ⟨_, rfl, two, fun q hq => ⟨two, fun N hN _ => ?_⟩⟩
          have s12 : Same H11 (upd H11 q (.tup [.str (Str.ofString "same"), .int 0])) := Same.new (Same.refl _) hq
          have e12 : (upd H11 q (.tup [.str (Str.ofString "same"), .int 0])) q = some (.tup [.str (Str.ofString "same"), .int 0]) := upd_same
          generalize upd H11 q (.tup [.str (Str.ofString "same"), .int 0]) = H12 at s12 e12 hN
          have s13 : Same H12 (upd H12 N (.lst [y, .ref q])) := Same.new (Same.refl _) hN
          have e13 : (upd H12 N (.lst [y, .ref q])) N = some (.lst [y, .ref q]) := upd_same
          generalize upd H12 N (.lst [y, .ref q]) = H13 at s13 e13
          refine ⟨p1, N, acc ++ xs1, [y, .ref q], rfl, rfl, s13 _ _ (s12 _ _ e11), e13, Nat.le_trans (by simp only [List.length_append, List.length_cons, List.length_nil]; omega : _ ≤ 100) (by decide), fun p2 hp2 => ?_⟩
          have s14 : Same H13 (upd H13 p2 (.lst (acc ++ xs1 ++ [y, .ref q]))) := Same.new (Same.refl _) hp2
          have e14 : (upd H13 p2 (.lst (acc ++ xs1 ++ [y, .ref q]))) p2 = some (.lst (acc ++ xs1 ++ [y, .ref q])) := upd_same
          generalize upd H13 p2 (.lst (acc ++ xs1 ++ [y, .ref q])) = H14 at s14 e14
          have s10_14 := ((s11.trans s12).trans s13).trans s14
          have s8_14 := s8_10.trans s10_14
          have all : DgAll K H14 true (acc ++ xs1 ++ [y, .ref q]) (es' ++ ds.take 6 ++ [e, .tuple [.str (Str.ofString "same"), .int 0]]) :=
            ((g8'.ext s8_14).append (ha10.ext s10_14)).append (.cons ((dy7.kp k8).dg.ext s8_14) (.cons (.tup (SqT.of ((s13.trans s14) _ _ e12)) (.cons (.str _) (.cons (.int _) .nil))) .nil))
          have bds : ∀ d ∈ es' ++ ds.take 6 ++ [e, .tuple [.str (Str.ofString "same"), .int 0]], Bd d := fun d hd => by
            rcases List.mem_append.mp hd with z | z
            · rcases List.mem_append.mp z with z | z
              · exact (v8 d z).2
              · exact (vx d (List.mem_of_mem_take z)).bd
            · rcases List.mem_cons.mp z with z | z
              · rw [z]; exact by_.bd
              · rw [List.mem_singleton.mp z]; show (2 : Nat) ≤ 1000; omega
          have dw14 : Dg K H14 true wv wd := (dw7.kp k8).dg.ext s8_14
          have kEnd : Kp p H H14 := (k7.trans k8).trans (Kp.of s8_14)
          refine ⟨_, rfl, p2, rfl, ⟨_, SqL.of e14⟩, ?_⟩
          generalize acc ++ xs1 ++ [y, .ref q] = zs at e14 all
          generalize es' ++ ds.take 6 ++ [e, .tuple [.str (Str.ofString "same"), .int 0]] = zd at all bds
          refine for_list (K := K) (a := p2) (xs := zs) (fun i σ H' => ∃ x4 x6 x7 x9, σ = [some (.ref p), some (.int s), some x, some y, x4, some wv, x6, x7, some (.ref p2), x9] ∧ Same H14 H') ⟨_, _, _, _, rfl, Same.refl _⟩ (fun i σ H' _ ⟨_, _, _, _, _, s⟩ => SqL.of (s _ _ e14)) ?_ ?_
          · rintro i v σ H15 hv ⟨x4, x6, x7, x9, rfl, s15⟩
            obtain ⟨dv, hdv, dgv⟩ := all.at i v hv
            have bv := bds dv (List.mem_of_getElem? hdv)
            refine ⟨1, 6, rfl, ⟨by decide, by decide, by decide, by decide⟩, ?_⟩
            refine for_range (lo := 1) (n := 5) (fun j σ H' => ∃ x7, σ = [some (.ref p), some (.int s), some x, some y, x4, some wv, x6, x7, some (.ref p2), some v] ∧ Same H14 H') ⟨_, rfl, s15⟩ ?_ ?_
            · rintro j σ H16 hj ⟨x7, rfl, s16⟩
              have dv16 := dgv.ext s16
              refine ⟨_, rfl, _, rfl, v, _, dv, .int (1 + (j : Int)), true, true, rfl, dv16, .int _, bv, fun Ha sa => ?_⟩
              have ek : isKind dv (.int (1 + (j : Int))) = isKd (1 + (j : Int)) dv := by
                unfold isKind
                have : isSg (.int (1 + (j : Int))) = true := by show (decide (1 ≤ 1 + (j : Int)) && decide (1 + (j : Int) ≤ 5)) = true; rw [decide_eq_true (by omega), decide_eq_true (by omega)]; rfl
                rw [this]; rfl
              refine ⟨_, .bool (isKind dv (.int (1 + (j : Int)))), true, rfl, .bl _, bool_sh.1, bool_sh.2.1, bool_sh.2.2, _, rfl, _, rfl, v, dv, true, _, rfl, by omega, by omega, dv16.ext sa, _, .bool (isKd (1 + (j : Int)) dv), true, rfl, .bl _, bool_sh.1, bool_sh.2.1, bool_sh.2.2, rfl, _, rfl, ?_⟩
              rw [ek]
              exact neSame ⟨_, rfl, s16.trans sa⟩
            · rintro σ H16 ⟨x7, rfl, s16⟩
              refine ⟨_, rfl, _, rfl, v, wv, dv, wd, true, true, rfl, dgv.ext s16, dw14.ext s16, bv, fun Ha sa => ⟨_, false, rfl, rfl, _, rfl, ?_⟩⟩
              have ip : isKind dv wd = false := by unfold isKind; rw [nsg]; rfl
              rw [ip, decide_eq_true rfl]
              exact iteF ⟨_, _, _, _, rfl, s16.trans sa⟩
          · rintro σ H15 ⟨x4, x6, x7, x9, rfl, s15⟩
            exact ⟨_, rfl, _, rfl, s, wv, wd, rfl, h1, h5, dw14.ext s15, nsg, shw, fun Hz sz => kQ Hz ((kEnd.trans (Kp.of s15)).trans (Kp.of sz))⟩
def spLaw (K : PySem.W.Frag) : Sp := fun vs H Q _ => ∃ (a : Addr) (ns : List Int), vs = [.ref a] ∧ SqL K H a (ns.map V.int) ∧ ns.length ≤ 63 ∧ ∀ H', Q (.bl true) H'
theorem ok_law (T : Txt K mg w) : FnG P w K mg base CX0 11 T.f_law T.fd_law ["script"] (spLaw K) := by
  refine T.F_law.okG sc_law (fun vs H Q E h => ?_) (fun cdv A outer s H vs Q E hgd hr h => ?_)
  · obtain ⟨a, ns, rfl, _⟩ := h; rfl
  · obtain ⟨a, ns, rfl, hS, hlen, q⟩ := h
    refine ⟨_, (pss_cons (ps_for PassesOwn.never rfl (pi_range1 rfl T.z_range (pa_cons (pe_callB (call_max2 rfl) (by rfl) T.z_max (by decide +kernel) (pa_cons pe_int (pa_cons (pe_callB (call_min2 rfl) (by rfl) T.z_min (by decide +kernel) (pa_cons pe_int (pa_cons (pe_callB call_len_seq (by rfl) T.z_len (by decide +kernel) (pa_cons (pv 0) pa_nil)) pa_nil))) pa_nil))) pa_nil)) (pg_name (i := 1) sc_law.nd rfl (Or.inl rfl)) (pss_one (ps_if (pt_not (pt_val (pe_callG (ok_law_right T) hgd (hr.mono (by decide)) rfl T.g_law_right T.F_law_right.kp T.b_law_right .nil pass0 (pa_cons (pe_call (ok_law_box T) (hr.mono (by decide)) rfl T.g_law_box T.F_law_box.kp T.b_law_box .nil pass0 (pa_cons (pe_call (ok_law_cell T) (hr.mono (by decide)) rfl T.g_law_cell T.F_law_cell.kp T.b_law_cell .nil pass0 (pa_cons (pv 0) (pa_cons (pv 1) pa_nil))) pa_nil)) pa_nil)))) (pss_one (ps_ret pe_bl)) pss_nil)))
      (pss_one (ps_ret pe_bl))), ?_⟩
    refine ⟨_, rfl, a, _, rfl, .inl hS, _, _, rfl, _, _, rfl, _, rfl, ?_, ?_, ?_⟩
    · split <;> split <;> omega
    · split <;> split <;> omega
    refine for_range (lo := 0) (fun i σ H' => ∃ x1, σ = [some (.ref a), x1] ∧ Same H H') ⟨_, rfl, Same.refl _⟩ ?_ ?_
    · rintro i σ H' hi ⟨x1, rfl, sH⟩
      rw [Int.zero_add]
      refine ⟨_, rfl, _, rfl, a, ns, i, rfl, hS.ext sH, fun c H1 s1 => ?_⟩
      refine ⟨c, rfl, fun p o hp ho => ?_⟩
      have sH1 := sH.trans s1
      have hpH : H p = none := sH1.free hp
      have s2 : Same H (upd H1 p o) := Same.new sH1 hp
      refine ⟨p, rfl, ho.at, fun H2 k2 => ⟨true, rfl, iteF ?_⟩⟩
      exact ⟨_, rfl, k2.toSame s2 hpH⟩
    · rintro σ H' ⟨x1, rfl, sH⟩
      exact q H'
end
end My

set_option Elab.async false
set_option linter.all false
set_option maxRecDepth 100000
set_option maxHeartbeats 8000000
namespace My
open PySem PySem.Spec PyProof.Rows L2
def keyS (e : DictEntry) : Option Str := match e.key with
  | .str x _ => some x
  | _ => none
theorem tab_keys2 {z : Str} : ∀ {l : List DictEntry} {ks : List Str}, l.map keyS = ks.map some → z ∉ ks → l.find? (·.key.isStr z) = none ∧ l.any (·.refKey) = false
  | [], _, _, _ => ⟨rfl, rfl⟩
  | e :: r, [], h, _ => by cases h
  | e :: r, k :: ks, h, n => by
    have h1 : keyS e :: r.map keyS = some k :: ks.map some := h
    injection h1 with h2 h3
    obtain ⟨i1, i2⟩ := tab_keys2 h3 (fun z => n (List.mem_cons_of_mem _ z))
    unfold keyS at h2
    split at h2
    · rename_i x t q
      have h5 := Option.some.inj h2
      have e1 : e.key.isStr z = false := by
        rw [q, h5]
        show (k == z) = false
        exact beq_eq_false_iff_ne.mpr fun e => n (by rw [← e]; exact List.mem_cons_self)
      have e2 : e.refKey = false := by unfold DictEntry.refKey; rw [q]
      exact ⟨by rw [List.find?_cons_of_neg (by rw [e1]; exact Bool.false_ne_true)]; exact i1, by rw [List.any_cons, e2, i2]; rfl⟩
    · cases h2
theorem tab_none2 {K : PySem.W.Frag} {D : Addr} {es : Array DictEntry} {m : Nat} {ks : List Str} {z : Str} (hl : K.lookup D = some ⟨.type "dict", none, .dict es m, #[]⟩) (hq : es.toList.map keyS = ks.map some) (hz : z ∉ ks) : PySem.W.nsIn K D z = some none := by
  unfold PySem.W.nsIn
  rw [hl]
  obtain ⟨a, b⟩ := tab_keys2 hq hz
  show (match es.toList.find? (·.key.isStr z) with
    | some e => some (some e.val)
    | none => if es.toList.any (·.refKey) then none else some none) = some none
  rw [a, b]; rfl
theorem exm_of {K : PySem.W.Frag} {S T : Addr} {b : Bool} (h1 : PySem.W.subIn K (.ref T) (.type "BaseException") = some true) (h2 : PySem.W.isClsIn K T = true) (h3 : PySem.W.typeIn K (.ref T) = some (.type "type")) (h4 : PySem.W.subIn K (.ref S) (.ref T) = some b) :
    PySem.W.exmOne K (.ref S) (.ref T) = some b := by
  have e1 : (PySem.W.subIn K (.ref T) (.type "BaseException") == some true) = true := by rw [h1] <;> rfl
  have e2 : ((PySem.W.clsIn K T).isSome && PySem.W.typeIn K (.ref T) == some (.type "type")) = true := by
    have h2' : (PySem.W.clsIn K T).isSome = true := h2
    rw [h2', h3] <;> rfl
  show (if (PySem.W.subIn K (.ref T) (.type "BaseException") == some true) = true then (if ((PySem.W.clsIn K T).isSome && PySem.W.typeIn K (.ref T) == some (.type "type")) = true then PySem.W.subIn K (.ref S) (.ref T) else none) else none) = some b
  rw [if_pos e1, if_pos e2]
  exact h4
theorem kit_of_sub {K : PySem.W.Frag} {C D : Addr} {b : Bool} (h2 : PySem.W.isClsIn K D = true) (h3 : PySem.W.typeIn K (.ref D) = some (.type "type")) (hs : PySem.W.subIn K (.ref C) (.ref C) = some true) (h4 : PySem.W.subIn K (.ref C) (.ref D) = some b) : PySem.W.kitOne K (.ref C) (.ref D) = some b := by
  unfold PySem.W.kitOne
  by_cases e : C = D
  · subst e
    rw [hs] at h4
    rw [if_pos (by simp)]; exact h4
  · rw [if_neg (by simp [e])]
    have h2' : (PySem.W.clsIn K D).isSome = true := h2
    show (if ((PySem.W.clsIn K D).isSome && PySem.W.typeIn K (.ref D) == some (.type "type")) = true then PySem.W.subIn K (.ref C) (.ref D) else none) = some b
    rw [if_pos (by rw [h2', h3] <;> rfl)]
    exact h4
theorem all_mk {P : Program} {w : World} {K : PySem.W.Frag} {h : Heap} {mg : Str → Option Value} {fa : Addr} (X : K.In h) (G : h.Ns mainGlobals mg) (hfa : mg "law" = some (.ref fa))
    {C0 I0 B0 : Addr} {nm0 q0 : Str} {N0 : Addr} {bs0 : List Value} {sn0 : List Str} {sub0 : List Value} {ab0 : Bool} {col0 : Option Bool} {dd0 : Option Addr} {m00 m10 m20 m30 m50 : Option Value}
    {ei0 en0 : Option Addr} {es0 : Array (Option Value)} {eo0 ed0 ep0 ec0 et0 : Value} {p10 p20 q10 q20 q30 q40 : Pos}
    {C1 I1 B1 : Addr} {nm1 q1 : Str} {N1 : Addr} {bs1 : List Value} {sn1 : List Str} {sub1 : List Value} {ab1 : Bool} {col1 : Option Bool} {dd1 : Option Addr} {m01 m11 m21 m31 m51 : Option Value}
    {ei1 en1 : Option Addr} {es1 : Array (Option Value)} {eo1 ed1 ep1 ec1 et1 : Value} {p11 p21 q11 q21 q31 q41 : Pos}
    {f0 : Addr} {od0 an0 : Option Addr} {sl0 : Array (Option Value)} {oc0 kV0 dc0 pm0 cd0 ct0 : Value}
    {f1 : Addr} {od1 an1 : Option Addr} {sl1 : Array (Option Value)} {oc1 kV1 dc1 pm1 cd1 ct1 : Value}
    {f2 : Addr} {od2 an2 : Option Addr} {sl2 : Array (Option Value)} {oc2 kV2 dc2 pm2 cd2 ct2 : Value}
    {f3 : Addr} {od3 an3 : Option Addr} {sl3 : Array (Option Value)} {oc3 kV3 dc3 pm3 cd3 ct3 : Value}
    {f4 : Addr} {od4 an4 : Option Addr} {sl4 : Array (Option Value)} {oc4 kV4 dc4 pm4 cd4 ct4 : Value}
    {f5 : Addr} {od5 an5 : Option Addr} {sl5 : Array (Option Value)} {oc5 kV5 dc5 pm5 cd5 ct5 : Value}
    {f6 : Addr} {od6 an6 : Option Addr} {sl6 : Array (Option Value)} {oc6 kV6 dc6 pm6 cd6 ct6 : Value}
    {f7 : Addr} {od7 an7 : Option Addr} {sl7 : Array (Option Value)} {oc7 kV7 dc7 pm7 cd7 ct7 : Value}
    {f8 : Addr} {od8 an8 : Option Addr} {sl8 : Array (Option Value)} {oc8 kV8 dc8 pm8 cd8 ct8 : Value}
    {f9 : Addr} {od9 an9 : Option Addr} {sl9 : Array (Option Value)} {oc9 kV9 dc9 pm9 cd9 ct9 : Value}
    {f10 : Addr} {od10 an10 : Option Addr} {sl10 : Array (Option Value)} {oc10 kV10 dc10 pm10 cd10 ct10 : Value}
    {f11 : Addr} {od11 an11 : Option Addr} {sl11 : Array (Option Value)} {oc11 kV11 dc11 pm11 cd11 ct11 : Value}
    {f12 : Addr} {od12 an12 : Option Addr} {sl12 : Array (Option Value)} {oc12 kV12 dc12 pm12 cd12 ct12 : Value}
    {f13 : Addr} {od13 an13 : Option Addr} {sl13 : Array (Option Value)} {oc13 kV13 dc13 pm13 cd13 ct13 : Value}
    {f14 : Addr} {od14 an14 : Option Addr} {sl14 : Array (Option Value)} {oc14 kV14 dc14 pm14 cd14 ct14 : Value}
    {f15 : Addr} {od15 an15 : Option Addr} {sl15 : Array (Option Value)} {oc15 kV15 dc15 pm15 cd15 ct15 : Value}
    {f16 : Addr} {od16 an16 : Option Addr} {sl16 : Array (Option Value)} {oc16 kV16 dc16 pm16 cd16 ct16 : Value}
    {f17 : Addr} {od17 an17 : Option Addr} {sl17 : Array (Option Value)} {oc17 kV17 dc17 pm17 cd17 ct17 : Value}
    {f18 : Addr} {od18 an18 : Option Addr} {sl18 : Array (Option Value)} {oc18 kV18 dc18 pm18 cd18 ct18 : Value}
    {f19 : Addr} {od19 an19 : Option Addr} {sl19 : Array (Option Value)} {oc19 kV19 dc19 pm19 cd19 ct19 : Value}
    {f20 : Addr} {od20 an20 : Option Addr} {sl20 : Array (Option Value)} {oc20 kV20 dc20 pm20 cd20 ct20 : Value}
    {f21 : Addr} {od21 an21 : Option Addr} {sl21 : Array (Option Value)} {oc21 kV21 dc21 pm21 cd21 ct21 : Value}
    {f22 : Addr} {od22 an22 : Option Addr} {sl22 : Array (Option Value)} {oc22 kV22 dc22 pm22 cd22 ct22 : Value}
    {f23 : Addr} {od23 an23 : Option Addr} {sl23 : Array (Option Value)} {oc23 kV23 dc23 pm23 cd23 ct23 : Value}
    {f24 : Addr} {od24 an24 : Option Addr} {sl24 : Array (Option Value)} {oc24 kV24 dc24 pm24 cd24 ct24 : Value}
    {f25 : Addr} {od25 an25 : Option Addr} {sl25 : Array (Option Value)} {oc25 kV25 dc25 pm25 cd25 ct25 : Value}
    {f26 : Addr} {od26 an26 : Option Addr} {sl26 : Array (Option Value)} {oc26 kV26 dc26 pm26 cd26 ct26 : Value}
    {f27 : Addr} {od27 an27 : Option Addr} {sl27 : Array (Option Value)} {oc27 kV27 dc27 pm27 cd27 ct27 : Value}
    {f28 : Addr} {od28 an28 : Option Addr} {sl28 : Array (Option Value)} {oc28 kV28 dc28 pm28 cd28 ct28 : Value}
    {f29 : Addr} {od29 an29 : Option Addr} {sl29 : Array (Option Value)} {oc29 kV29 dc29 pm29 cd29 ct29 : Value}
    {f30 : Addr} {od30 an30 : Option Addr} {sl30 : Array (Option Value)} {oc30 kV30 dc30 pm30 cd30 ct30 : Value}
    {f31 : Addr} {od31 an31 : Option Addr} {sl31 : Array (Option Value)} {oc31 kV31 dc31 pm31 cd31 ct31 : Value}
    {t_MOST_SIGNS : Tok}
    {TD_SIGNS_TOLD : Addr} {tt_SIGNS_TOLD_lost : Tok} {tt_SIGNS_TOLD_put : Tok} {tt_SIGNS_TOLD_same : Tok} {tt_SIGNS_TOLD_turned : Tok}
    {es_SIGNS_TOLD : Array DictEntry} {nn_SIGNS_TOLD : Nat}
    {D_CodecError : Addr}
    (eC0 : PySem.W.nsIn K mainGlobals "InvalidPassing" = some (some (.ref C0)))
    (eL0 : K.lookup C0 = some (excClassObj nm0 q0 C0 N0 bs0 [.ref B0, .type "Exception", .type "BaseException", .type "object"] true sn0 sub0 ab0 col0 dd0 m00 m10 m20 m30 m50 "Exception.__new__"))
    (etk0 : PySem.W.takerIn K C0 "given" = some none)
    (esa0 : PySem.W.findIn K (.ref C0) "__setattr__" = some (some (.builtin "object.__setattr__")))
    (ega0 : PySem.W.findIn K (.ref C0) "__getattribute__" = some (some (.builtin "BaseException.__getattribute__")))
    (egg0 : PySem.W.findIn K (.ref C0) "__getattr__" = some none)
    (eno0 : PySem.W.findIn K (.ref C0) "given" = some none)
    (ein0 : PySem.W.findIn K (.ref C0) "__init__" = some (some (.ref I0)))
    (eti0 : PySem.W.typeIn K (.ref I0) = some (.type "function"))
    (ekC0 : PySem.W.keepIn K (.ref C0) = true)
    (eeC0 : PySem.W.subIn K (.ref C0) (.type "BaseException") = some true)
    (etC0 : PySem.W.typeIn K (.ref C0) = some (.type "type"))
    (ehC0 : PySem.W.hasDictIn K C0 = true)
    (eiC0 : PySem.W.isClsIn K C0 = true)
    (esC0 : PySem.W.subIn K (.ref C0) (.ref C0) = some true)
    (efn0 : K.lookup I0 = some ⟨eo0, ei0, .func (PySem.W.fnOf "__init__" "InvalidPassing.__init__" (ErrX.iA p10 p20) (ErrX.iB q10 q20 q30 q40) ErrX.iS .none .none ed0 ep0 en0 ec0 et0), es0⟩)
    (eco0 : PySem.W.codeIn K ec0 "InvalidPassing.__init__" = true)
    (eC1 : PySem.W.nsIn K mainGlobals "InvalidSigns" = some (some (.ref C1)))
    (eL1 : K.lookup C1 = some (excClassObj nm1 q1 C1 N1 bs1 [.ref B1, .type "Exception", .type "BaseException", .type "object"] true sn1 sub1 ab1 col1 dd1 m01 m11 m21 m31 m51 "Exception.__new__"))
    (etk1 : PySem.W.takerIn K C1 "given" = some none)
    (esa1 : PySem.W.findIn K (.ref C1) "__setattr__" = some (some (.builtin "object.__setattr__")))
    (ega1 : PySem.W.findIn K (.ref C1) "__getattribute__" = some (some (.builtin "BaseException.__getattribute__")))
    (egg1 : PySem.W.findIn K (.ref C1) "__getattr__" = some none)
    (eno1 : PySem.W.findIn K (.ref C1) "given" = some none)
    (ein1 : PySem.W.findIn K (.ref C1) "__init__" = some (some (.ref I1)))
    (eti1 : PySem.W.typeIn K (.ref I1) = some (.type "function"))
    (ekC1 : PySem.W.keepIn K (.ref C1) = true)
    (eeC1 : PySem.W.subIn K (.ref C1) (.type "BaseException") = some true)
    (etC1 : PySem.W.typeIn K (.ref C1) = some (.type "type"))
    (ehC1 : PySem.W.hasDictIn K C1 = true)
    (eiC1 : PySem.W.isClsIn K C1 = true)
    (esC1 : PySem.W.subIn K (.ref C1) (.ref C1) = some true)
    (efn1 : K.lookup I1 = some ⟨eo1, ei1, .func (PySem.W.fnOf "__init__" "InvalidSigns.__init__" (ErrX.iA p11 p21) (ErrX.iB q11 q21 q31 q41) ErrX.iS .none .none ed1 ep1 en1 ec1 et1), es1⟩)
    (eco1 : PySem.W.codeIn K ec1 "InvalidSigns.__init__" = true)
    (en_0_1 : PySem.W.subIn K (.ref C0) (.ref C1) = some false)
    (en_1_0 : PySem.W.subIn K (.ref C1) (.ref C0) = some false)
    (a0 : PySem.W.nsIn K mainGlobals "is_integer" = some (some (.ref f0)))
    (l0 : K.lookup f0 = some ⟨oc0, od0, .func (PySem.W.fnOf "is_integer" "is_integer" (defArgs s_is_integer) (defBody s_is_integer) (defScope s_is_integer) .none kV0 dc0 pm0 an0 cd0 ct0), sl0⟩)
    (c0 : PySem.W.codeIn K cd0 "is_integer" = true)
    (k0 : PySem.W.keepIn K (.ref f0) = true)
    (a1 : PySem.W.nsIn K mainGlobals "is_count" = some (some (.ref f1)))
    (l1 : K.lookup f1 = some ⟨oc1, od1, .func (PySem.W.fnOf "is_count" "is_count" (defArgs s_is_count) (defBody s_is_count) (defScope s_is_count) .none kV1 dc1 pm1 an1 cd1 ct1), sl1⟩)
    (c1 : PySem.W.codeIn K cd1 "is_count" = true)
    (k1 : PySem.W.keepIn K (.ref f1) = true)
    (a2 : PySem.W.nsIn K mainGlobals "is_number_of_signs" = some (some (.ref f2)))
    (l2 : K.lookup f2 = some ⟨oc2, od2, .func (PySem.W.fnOf "is_number_of_signs" "is_number_of_signs" (defArgs s_is_number_of_signs) (defBody s_is_number_of_signs) (defScope s_is_number_of_signs) .none kV2 dc2 pm2 an2 cd2 ct2), sl2⟩)
    (c2 : PySem.W.codeIn K cd2 "is_number_of_signs" = true)
    (k2 : PySem.W.keepIn K (.ref f2) = true)
    (a3 : PySem.W.nsIn K mainGlobals "is_below" = some (some (.ref f3)))
    (l3 : K.lookup f3 = some ⟨oc3, od3, .func (PySem.W.fnOf "is_below" "is_below" (defArgs s_is_below) (defBody s_is_below) (defScope s_is_below) .none kV3 dc3 pm3 an3 cd3 ct3), sl3⟩)
    (c3 : PySem.W.codeIn K cd3 "is_below" = true)
    (k3 : PySem.W.keepIn K (.ref f3) = true)
    (a4 : PySem.W.nsIn K mainGlobals "is_kind" = some (some (.ref f4)))
    (l4 : K.lookup f4 = some ⟨oc4, od4, .func (PySem.W.fnOf "is_kind" "is_kind" (defArgs s_is_kind) (defBody s_is_kind) (defScope s_is_kind) .none kV4 dc4 pm4 an4 cd4 ct4), sl4⟩)
    (c4 : PySem.W.codeIn K cd4 "is_kind" = true)
    (k4 : PySem.W.keepIn K (.ref f4) = true)
    (a5 : PySem.W.nsIn K mainGlobals "is_passing" = some (some (.ref f5)))
    (l5 : K.lookup f5 = some ⟨oc5, od5, .func (PySem.W.fnOf "is_passing" "is_passing" (defArgs s_is_passing) (defBody s_is_passing) (defScope s_is_passing) .none kV5 dc5 pm5 an5 cd5 ct5), sl5⟩)
    (c5 : PySem.W.codeIn K cd5 "is_passing" = true)
    (k5 : PySem.W.keepIn K (.ref f5) = true)
    (a6 : PySem.W.nsIn K mainGlobals "all_kinds" = some (some (.ref f6)))
    (l6 : K.lookup f6 = some ⟨oc6, od6, .func (PySem.W.fnOf "all_kinds" "all_kinds" (defArgs s_all_kinds) (defBody s_all_kinds) (defScope s_all_kinds) .none kV6 dc6 pm6 an6 cd6 ct6), sl6⟩)
    (c6 : PySem.W.codeIn K cd6 "all_kinds" = true)
    (k6 : PySem.W.keepIn K (.ref f6) = true)
    (a7 : PySem.W.nsIn K mainGlobals "sent" = some (some (.ref f7)))
    (l7 : K.lookup f7 = some ⟨oc7, od7, .func (PySem.W.fnOf "sent" "sent" (defArgs s_sent) (defBody s_sent) (defScope s_sent) .none kV7 dc7 pm7 an7 cd7 ct7), sl7⟩)
    (c7 : PySem.W.codeIn K cd7 "sent" = true)
    (k7 : PySem.W.keepIn K (.ref f7) = true)
    (a8 : PySem.W.nsIn K mainGlobals "came" = some (some (.ref f8)))
    (l8 : K.lookup f8 = some ⟨oc8, od8, .func (PySem.W.fnOf "came" "came" (defArgs s_came) (defBody s_came) (defScope s_came) .none kV8 dc8 pm8 an8 cd8 ct8), sl8⟩)
    (c8 : PySem.W.codeIn K cd8 "came" = true)
    (k8 : PySem.W.keepIn K (.ref f8) = true)
    (a9 : PySem.W.nsIn K mainGlobals "errors_in" = some (some (.ref f9)))
    (l9 : K.lookup f9 = some ⟨oc9, od9, .func (PySem.W.fnOf "errors_in" "errors_in" (defArgs s_errors_in) (defBody s_errors_in) (defScope s_errors_in) .none kV9 dc9 pm9 an9 cd9 ct9), sl9⟩)
    (c9 : PySem.W.codeIn K cd9 "errors_in" = true)
    (k9 : PySem.W.keepIn K (.ref f9) = true)
    (a10 : PySem.W.nsIn K mainGlobals "is_step" = some (some (.ref f10)))
    (l10 : K.lookup f10 = some ⟨oc10, od10, .func (PySem.W.fnOf "is_step" "is_step" (defArgs s_is_step) (defBody s_is_step) (defScope s_is_step) .none kV10 dc10 pm10 an10 cd10 ct10), sl10⟩)
    (c10 : PySem.W.codeIn K cd10 "is_step" = true)
    (k10 : PySem.W.keepIn K (.ref f10) = true)
    (a11 : PySem.W.nsIn K mainGlobals "is_free" = some (some (.ref f11)))
    (l11 : K.lookup f11 = some ⟨oc11, od11, .func (PySem.W.fnOf "is_free" "is_free" (defArgs s_is_free) (defBody s_is_free) (defScope s_is_free) .none kV11 dc11 pm11 an11 cd11 ct11), sl11⟩)
    (c11 : PySem.W.codeIn K cd11 "is_free" = true)
    (k11 : PySem.W.keepIn K (.ref f11) = true)
    (a12 : PySem.W.nsIn K mainGlobals "check_signs" = some (some (.ref f12)))
    (l12 : K.lookup f12 = some ⟨oc12, od12, .func (PySem.W.fnOf "check_signs" "check_signs" (defArgs s_check_signs) (defBody s_check_signs) (defScope s_check_signs) .none kV12 dc12 pm12 an12 cd12 ct12), sl12⟩)
    (c12 : PySem.W.codeIn K cd12 "check_signs" = true)
    (k12 : PySem.W.keepIn K (.ref f12) = true)
    (a13 : PySem.W.nsIn K mainGlobals "check_passing" = some (some (.ref f13)))
    (l13 : K.lookup f13 = some ⟨oc13, od13, .func (PySem.W.fnOf "check_passing" "check_passing" (defArgs s_check_passing) (defBody s_check_passing) (defScope s_check_passing) .none kV13 dc13 pm13 an13 cd13 ct13), sl13⟩)
    (c13 : PySem.W.codeIn K cd13 "check_passing" = true)
    (k13 : PySem.W.keepIn K (.ref f13) = true)
    (a14 : PySem.W.nsIn K mainGlobals "line_sent" = some (some (.ref f14)))
    (l14 : K.lookup f14 = some ⟨oc14, od14, .func (PySem.W.fnOf "line_sent" "line_sent" (defArgs s_line_sent) (defBody s_line_sent) (defScope s_line_sent) .none kV14 dc14 pm14 an14 cd14 ct14), sl14⟩)
    (c14 : PySem.W.codeIn K cd14 "line_sent" = true)
    (k14 : PySem.W.keepIn K (.ref f14) = true)
    (a15 : PySem.W.nsIn K mainGlobals "line_that_came" = some (some (.ref f15)))
    (l15 : K.lookup f15 = some ⟨oc15, od15, .func (PySem.W.fnOf "line_that_came" "line_that_came" (defArgs s_line_that_came) (defBody s_line_that_came) (defScope s_line_that_came) .none kV15 dc15 pm15 an15 cd15 ct15), sl15⟩)
    (c15 : PySem.W.codeIn K cd15 "line_that_came" = true)
    (k15 : PySem.W.keepIn K (.ref f15) = true)
    (a16 : PySem.W.nsIn K mainGlobals "_law_cell" = some (some (.ref f16)))
    (l16 : K.lookup f16 = some ⟨oc16, od16, .func (PySem.W.fnOf "_law_cell" "_law_cell" (defArgs s_law_cell) (defBody s_law_cell) (defScope s_law_cell) .none kV16 dc16 pm16 an16 cd16 ct16), sl16⟩)
    (c16 : PySem.W.codeIn K cd16 "_law_cell" = true)
    (k16 : PySem.W.keepIn K (.ref f16) = true)
    (a17 : PySem.W.nsIn K mainGlobals "_law_box" = some (some (.ref f17)))
    (l17 : K.lookup f17 = some ⟨oc17, od17, .func (PySem.W.fnOf "_law_box" "_law_box" (defArgs s_law_box) (defBody s_law_box) (defScope s_law_box) .none kV17 dc17 pm17 an17 cd17 ct17), sl17⟩)
    (c17 : PySem.W.codeIn K cd17 "_law_box" = true)
    (k17 : PySem.W.keepIn K (.ref f17) = true)
    (a18 : PySem.W.nsIn K mainGlobals "_law_take" = some (some (.ref f18)))
    (l18 : K.lookup f18 = some ⟨oc18, od18, .func (PySem.W.fnOf "_law_take" "_law_take" (defArgs s_law_take) (defBody s_law_take) (defScope s_law_take) .none kV18 dc18 pm18 an18 cd18 ct18), sl18⟩)
    (c18 : PySem.W.codeIn K cd18 "_law_take" = true)
    (k18 : PySem.W.keepIn K (.ref f18) = true)
    (a19 : PySem.W.nsIn K mainGlobals "_law_is_signs" = some (some (.ref f19)))
    (l19 : K.lookup f19 = some ⟨oc19, od19, .func (PySem.W.fnOf "_law_is_signs" "_law_is_signs" (defArgs s_law_is_signs) (defBody s_law_is_signs) (defScope s_law_is_signs) .none kV19 dc19 pm19 an19 cd19 ct19), sl19⟩)
    (c19 : PySem.W.codeIn K cd19 "_law_is_signs" = true)
    (k19 : PySem.W.keepIn K (.ref f19) = true)
    (a20 : PySem.W.nsIn K mainGlobals "_law_is_sign" = some (some (.ref f20)))
    (l20 : K.lookup f20 = some ⟨oc20, od20, .func (PySem.W.fnOf "_law_is_sign" "_law_is_sign" (defArgs s_law_is_sign) (defBody s_law_is_sign) (defScope s_law_is_sign) .none kV20 dc20 pm20 an20 cd20 ct20), sl20⟩)
    (c20 : PySem.W.codeIn K cd20 "_law_is_sign" = true)
    (k20 : PySem.W.keepIn K (.ref f20) = true)
    (a21 : PySem.W.nsIn K mainGlobals "_law_is_kind" = some (some (.ref f21)))
    (l21 : K.lookup f21 = some ⟨oc21, od21, .func (PySem.W.fnOf "_law_is_kind" "_law_is_kind" (defArgs s_law_is_kind) (defBody s_law_is_kind) (defScope s_law_is_kind) .none kV21 dc21 pm21 an21 cd21 ct21), sl21⟩)
    (c21 : PySem.W.codeIn K cd21 "_law_is_kind" = true)
    (k21 : PySem.W.keepIn K (.ref f21) = true)
    (a22 : PySem.W.nsIn K mainGlobals "_law_is_passing" = some (some (.ref f22)))
    (l22 : K.lookup f22 = some ⟨oc22, od22, .func (PySem.W.fnOf "_law_is_passing" "_law_is_passing" (defArgs s_law_is_passing) (defBody s_law_is_passing) (defScope s_law_is_passing) .none kV22 dc22 pm22 an22 cd22 ct22), sl22⟩)
    (c22 : PySem.W.codeIn K cd22 "_law_is_passing" = true)
    (k22 : PySem.W.keepIn K (.ref f22) = true)
    (a23 : PySem.W.nsIn K mainGlobals "_law_step" = some (some (.ref f23)))
    (l23 : K.lookup f23 = some ⟨oc23, od23, .func (PySem.W.fnOf "_law_step" "_law_step" (defArgs s_law_step) (defBody s_law_step) (defScope s_law_step) .none kV23 dc23 pm23 an23 cd23 ct23), sl23⟩)
    (c23 : PySem.W.codeIn K cd23 "_law_step" = true)
    (k23 : PySem.W.keepIn K (.ref f23) = true)
    (a24 : PySem.W.nsIn K mainGlobals "_law_passing" = some (some (.ref f24)))
    (l24 : K.lookup f24 = some ⟨oc24, od24, .func (PySem.W.fnOf "_law_passing" "_law_passing" (defArgs s_law_passing) (defBody s_law_passing) (defScope s_law_passing) .none kV24 dc24 pm24 an24 cd24 ct24), sl24⟩)
    (c24 : PySem.W.codeIn K cd24 "_law_passing" = true)
    (k24 : PySem.W.keepIn K (.ref f24) = true)
    (a25 : PySem.W.nsIn K mainGlobals "_law_odd" = some (some (.ref f25)))
    (l25 : K.lookup f25 = some ⟨oc25, od25, .func (PySem.W.fnOf "_law_odd" "_law_odd" (defArgs s_law_odd) (defBody s_law_odd) (defScope s_law_odd) .none kV25 dc25 pm25 an25 cd25 ct25), sl25⟩)
    (c25 : PySem.W.codeIn K cd25 "_law_odd" = true)
    (k25 : PySem.W.keepIn K (.ref f25) = true)
    (a26 : PySem.W.nsIn K mainGlobals "_law_near" = some (some (.ref f26)))
    (l26 : K.lookup f26 = some ⟨oc26, od26, .func (PySem.W.fnOf "_law_near" "_law_near" (defArgs s_law_near) (defBody s_law_near) (defScope s_law_near) .none kV26 dc26 pm26 an26 cd26 ct26), sl26⟩)
    (c26 : PySem.W.codeIn K cd26 "_law_near" = true)
    (k26 : PySem.W.keepIn K (.ref f26) = true)
    (a27 : PySem.W.nsIn K mainGlobals "_law_ask" = some (some (.ref f27)))
    (l27 : K.lookup f27 = some ⟨oc27, od27, .func (PySem.W.fnOf "_law_ask" "_law_ask" (defArgs s_law_ask) (defBody s_law_ask) (defScope s_law_ask) .none kV27 dc27 pm27 an27 cd27 ct27), sl27⟩)
    (c27 : PySem.W.codeIn K cd27 "_law_ask" = true)
    (k27 : PySem.W.keepIn K (.ref f27) = true)
    (a28 : PySem.W.nsIn K mainGlobals "_law_doors_right" = some (some (.ref f28)))
    (l28 : K.lookup f28 = some ⟨oc28, od28, .func (PySem.W.fnOf "_law_doors_right" "_law_doors_right" (defArgs s_law_doors_right) (defBody s_law_doors_right) (defScope s_law_doors_right) .none kV28 dc28 pm28 an28 cd28 ct28), sl28⟩)
    (c28 : PySem.W.codeIn K cd28 "_law_doors_right" = true)
    (k28 : PySem.W.keepIn K (.ref f28) = true)
    (a29 : PySem.W.nsIn K mainGlobals "_law_all_right" = some (some (.ref f29)))
    (l29 : K.lookup f29 = some ⟨oc29, od29, .func (PySem.W.fnOf "_law_all_right" "_law_all_right" (defArgs s_law_all_right) (defBody s_law_all_right) (defScope s_law_all_right) .none kV29 dc29 pm29 an29 cd29 ct29), sl29⟩)
    (c29 : PySem.W.codeIn K cd29 "_law_all_right" = true)
    (k29 : PySem.W.keepIn K (.ref f29) = true)
    (a30 : PySem.W.nsIn K mainGlobals "_law_right" = some (some (.ref f30)))
    (l30 : K.lookup f30 = some ⟨oc30, od30, .func (PySem.W.fnOf "_law_right" "_law_right" (defArgs s_law_right) (defBody s_law_right) (defScope s_law_right) .none kV30 dc30 pm30 an30 cd30 ct30), sl30⟩)
    (c30 : PySem.W.codeIn K cd30 "_law_right" = true)
    (k30 : PySem.W.keepIn K (.ref f30) = true)
    (a31 : PySem.W.nsIn K mainGlobals "law" = some (some (.ref f31)))
    (l31 : K.lookup f31 = some ⟨oc31, od31, .func (PySem.W.fnOf "law" "law" (defArgs s_law) (defBody s_law) (defScope s_law) .none kV31 dc31 pm31 an31 cd31 ct31), sl31⟩)
    (c31 : PySem.W.codeIn K cd31 "law" = true)
    (k31 : PySem.W.keepIn K (.ref f31) = true)
    (z_abs : PySem.W.nsIn K mainGlobals "abs" = some none)
    (z_all : PySem.W.nsIn K mainGlobals "all" = some none)
    (z_bool : PySem.W.nsIn K mainGlobals "bool" = some none)
    (z_int : PySem.W.nsIn K mainGlobals "int" = some none)
    (z_isinstance : PySem.W.nsIn K mainGlobals "isinstance" = some none)
    (z_len : PySem.W.nsIn K mainGlobals "len" = some none)
    (z_list : PySem.W.nsIn K mainGlobals "list" = some none)
    (z_max : PySem.W.nsIn K mainGlobals "max" = some none)
    (z_min : PySem.W.nsIn K mainGlobals "min" = some none)
    (z_range : PySem.W.nsIn K mainGlobals "range" = some none)
    (z_repr : PySem.W.nsIn K mainGlobals "repr" = some none)
    (z_str : PySem.W.nsIn K mainGlobals "str" = some none)
    (z_sum : PySem.W.nsIn K mainGlobals "sum" = some none)
    (z_tuple : PySem.W.nsIn K mainGlobals "tuple" = some none)
    (n_MOST_SIGNS : PySem.W.nsIn K mainGlobals "MOST_SIGNS" = some (some (.int (5) t_MOST_SIGNS)))
    (tg_SIGNS_TOLD : PySem.W.nsIn K mainGlobals "SIGNS_TOLD" = some (some (.ref TD_SIGNS_TOLD)))
    (tl_SIGNS_TOLD : K.lookup TD_SIGNS_TOLD = some ⟨.type "dict", none, .dict es_SIGNS_TOLD nn_SIGNS_TOLD, #[]⟩)
    (tk_SIGNS_TOLD : PySem.W.KeysLit w.params es_SIGNS_TOLD.toList)
    (tq_SIGNS_TOLD : es_SIGNS_TOLD.toList.map keyS = [("lost" : Str), ("put" : Str), ("same" : Str), ("turned" : Str)].map some)
    (to_SIGNS_TOLD : (TD_SIGNS_TOLD == sysModules) = false)
    (tv_SIGNS_TOLD_lost : PySem.W.nsIn K TD_SIGNS_TOLD "lost" = some (some (.int 1 tt_SIGNS_TOLD_lost)))
    (tv_SIGNS_TOLD_put : PySem.W.nsIn K TD_SIGNS_TOLD "put" = some (some (.int 1 tt_SIGNS_TOLD_put)))
    (tv_SIGNS_TOLD_same : PySem.W.nsIn K TD_SIGNS_TOLD "same" = some (some (.int 1 tt_SIGNS_TOLD_same)))
    (tv_SIGNS_TOLD_turned : PySem.W.nsIn K TD_SIGNS_TOLD "turned" = some (some (.int 2 tt_SIGNS_TOLD_turned)))
    (gc_CodecError : PySem.W.nsIn K mainGlobals "CodecError" = some (some (.ref D_CodecError)))
    (xt_CodecError : PySem.W.typeIn K (.ref D_CodecError) = some (.type "type"))
    (xi_CodecError : PySem.W.isClsIn K D_CodecError = true)
    (xa_InvalidPassing : PySem.W.findIn K (.ref C0) "__class__" = some (some (.builtin "object.__class__")))
    (xm_InvalidPassing : PySem.W.mroIn K C0 (.type "object") = some true)
    (xk_InvalidPassing_CodecError : PySem.W.subIn K (.ref C0) (.ref D_CodecError) = some true)
    (x_get : PySem.W.specialIn K (.builtin "object.__class__") "__get__" = some (some (.builtin "getset_descriptor.__get__")))
    (x_tk : PySem.W.takesIn K (.builtin "object.__class__") = some true) :
    ∃ fd : FuncData, (∀ (s : Shared) (v : Value), BindsTo s fd ⟨[v], []⟩ [("script", v)]) ∧ ∀ base : Heap, K.In base → base.Ns mainGlobals mg → FnG P w K mg base CX0 11 fa fd ["script"] (spLaw K) := by
  have e := hfa.symm.trans (PySem.W.mg_of X G a31)
  cases e
  have F0 := fun_mk (st := s_is_integer) l0 c0 k0
  have b0 := F0.binds (ps := ["value"]) fun _ _ _ _ _ _ us hl => match us, hl with | [_], _ => rfl
  have F1 := fun_mk (st := s_is_count) l1 c1 k1
  have b1 := F1.binds (ps := ["value"]) fun _ _ _ _ _ _ us hl => match us, hl with | [_], _ => rfl
  have F2 := fun_mk (st := s_is_number_of_signs) l2 c2 k2
  have b2 := F2.binds (ps := ["value"]) fun _ _ _ _ _ _ us hl => match us, hl with | [_], _ => rfl
  have F3 := fun_mk (st := s_is_below) l3 c3 k3
  have b3 := F3.binds (ps := ["value", "limit"]) fun _ _ _ _ _ _ us hl => match us, hl with | [_, _], _ => rfl
  have F4 := fun_mk (st := s_is_kind) l4 c4 k4
  have b4 := F4.binds (ps := ["value", "signs"]) fun _ _ _ _ _ _ us hl => match us, hl with | [_, _], _ => rfl
  have F5 := fun_mk (st := s_is_passing) l5 c5 k5
  have b5 := F5.binds (ps := ["value", "signs"]) fun _ _ _ _ _ _ us hl => match us, hl with | [_, _], _ => rfl
  have F6 := fun_mk (st := s_all_kinds) l6 c6 k6
  have b6 := F6.binds (ps := ["signs"]) fun _ _ _ _ _ _ us hl => match us, hl with | [_], _ => rfl
  have F7 := fun_mk (st := s_sent) l7 c7 k7
  have b7 := F7.binds (ps := ["passing"]) fun _ _ _ _ _ _ us hl => match us, hl with | [_], _ => rfl
  have F8 := fun_mk (st := s_came) l8 c8 k8
  have b8 := F8.binds (ps := ["passing"]) fun _ _ _ _ _ _ us hl => match us, hl with | [_], _ => rfl
  have F9 := fun_mk (st := s_errors_in) l9 c9 k9
  have b9 := F9.binds (ps := ["passing"]) fun _ _ _ _ _ _ us hl => match us, hl with | [_], _ => rfl
  have F10 := fun_mk (st := s_is_step) l10 c10 k10
  have b10 := F10.binds (ps := ["value", "signs"]) fun _ _ _ _ _ _ us hl => match us, hl with | [_, _], _ => rfl
  have F11 := fun_mk (st := s_is_free) l11 c11 k11
  have b11 := F11.binds (ps := ["step"]) fun _ _ _ _ _ _ us hl => match us, hl with | [_], _ => rfl
  have F12 := fun_mk (st := s_check_signs) l12 c12 k12
  have b12 := F12.binds (ps := ["value"]) fun _ _ _ _ _ _ us hl => match us, hl with | [_], _ => rfl
  have F13 := fun_mk (st := s_check_passing) l13 c13 k13
  have b13 := F13.binds (ps := ["value", "signs"]) fun _ _ _ _ _ _ us hl => match us, hl with | [_, _], _ => rfl
  have F14 := fun_mk (st := s_line_sent) l14 c14 k14
  have b14 := F14.binds (ps := ["passing"]) fun _ _ _ _ _ _ us hl => match us, hl with | [_], _ => rfl
  have F15 := fun_mk (st := s_line_that_came) l15 c15 k15
  have b15 := F15.binds (ps := ["passing"]) fun _ _ _ _ _ _ us hl => match us, hl with | [_], _ => rfl
  have F16 := fun_mk (st := s_law_cell) l16 c16 k16
  have b16 := F16.binds (ps := ["script", "k"]) fun _ _ _ _ _ _ us hl => match us, hl with | [_, _], _ => rfl
  have F17 := fun_mk (st := s_law_box) l17 c17 k17
  have b17 := F17.binds (ps := ["great"]) fun _ _ _ _ _ _ us hl => match us, hl with | [_], _ => rfl
  have F18 := fun_mk (st := s_law_take) l18 c18 k18
  have b18 := F18.binds (ps := ["box", "many"]) fun _ _ _ _ _ _ us hl => match us, hl with | [_, _], _ => rfl
  have F19 := fun_mk (st := s_law_is_signs) l19 c19 k19
  have b19 := F19.binds (ps := ["value"]) fun _ _ _ _ _ _ us hl => match us, hl with | [_], _ => rfl
  have F20 := fun_mk (st := s_law_is_sign) l20 c20 k20
  have b20 := F20.binds (ps := ["value", "signs"]) fun _ _ _ _ _ _ us hl => match us, hl with | [_, _], _ => rfl
  have F21 := fun_mk (st := s_law_is_kind) l21 c21 k21
  have b21 := F21.binds (ps := ["value", "signs"]) fun _ _ _ _ _ _ us hl => match us, hl with | [_, _], _ => rfl
  have F22 := fun_mk (st := s_law_is_passing) l22 c22 k22
  have b22 := F22.binds (ps := ["value", "signs"]) fun _ _ _ _ _ _ us hl => match us, hl with | [_, _], _ => rfl
  have F23 := fun_mk (st := s_law_step) l23 c23 k23
  have b23 := F23.binds (ps := ["box", "signs"]) fun _ _ _ _ _ _ us hl => match us, hl with | [_, _], _ => rfl
  have F24 := fun_mk (st := s_law_passing) l24 c24 k24
  have b24 := F24.binds (ps := ["box", "signs"]) fun _ _ _ _ _ _ us hl => match us, hl with | [_, _], _ => rfl
  have F25 := fun_mk (st := s_law_odd) l25 c25 k25
  have b25 := F25.binds (ps := ["box", "step", "signs"]) fun _ _ _ _ _ _ us hl => match us, hl with | [_, _, _], _ => rfl
  have F26 := fun_mk (st := s_law_near) l26 c26 k26
  have b26 := F26.binds (ps := ["box", "passing", "signs"]) fun _ _ _ _ _ _ us hl => match us, hl with | [_, _, _], _ => rfl
  have F27 := fun_mk (st := s_law_ask) l27 c27 k27
  have b27 := F27.binds (ps := ["door", "value"]) fun _ _ _ _ _ _ us hl => match us, hl with | [_, _], _ => rfl
  have F28 := fun_mk (st := s_law_doors_right) l28 c28 k28
  have b28 := F28.binds (ps := ["value"]) fun _ _ _ _ _ _ us hl => match us, hl with | [_], _ => rfl
  have F29 := fun_mk (st := s_law_all_right) l29 c29 k29
  have b29 := F29.binds (ps := ["signs", "wrong"]) fun _ _ _ _ _ _ us hl => match us, hl with | [_, _], _ => rfl
  have F30 := fun_mk (st := s_law_right) l30 c30 k30
  have b30 := F30.binds (ps := ["box"]) fun _ _ _ _ _ _ us hl => match us, hl with | [_], _ => rfl
  have F31 := fun_mk (st := s_law) l31 c31 k31
  have b31 := F31.binds (ps := ["script"]) fun _ _ _ _ _ _ us hl => match us, hl with | [_], _ => rfl
  have kd_SIGNS_TOLD : KTab K w TD_SIGNS_TOLD tab_SIGNS_TOLD := by
    refine ⟨⟨es_SIGNS_TOLD, nn_SIGNS_TOLD, tl_SIGNS_TOLD, tk_SIGNS_TOLD, to_SIGNS_TOLD⟩, fun z => ?_⟩
    unfold tab_SIGNS_TOLD
    by_cases h0 : z = "lost"
    · rw [if_pos h0, h0]; exact ⟨_, tv_SIGNS_TOLD_lost⟩
    rw [if_neg h0]
    by_cases h1 : z = "put"
    · rw [if_pos h1, h1]; exact ⟨_, tv_SIGNS_TOLD_put⟩
    rw [if_neg h1]
    by_cases h2 : z = "same"
    · rw [if_pos h2, h2]; exact ⟨_, tv_SIGNS_TOLD_same⟩
    rw [if_neg h2]
    by_cases h3 : z = "turned"
    · rw [if_pos h3, h3]; exact ⟨_, tv_SIGNS_TOLD_turned⟩
    rw [if_neg h3]
    exact tab_none2 tl_SIGNS_TOLD tq_SIGNS_TOLD (by simp [h0, h1, h2, h3])
  have ov0 : PySem.W.excOver K C0 ErrX.tailE = true := by
    unfold PySem.W.excOver PySem.W.clsIn
    rw [eL0]
    show (C0 == C0 && true) = true
    rw [beq_self_eq_true]; rfl
  have E0 : ErrX.ETxt K mg "InvalidPassing" "InvalidPassing.__init__" C0 I0 := { gC := PySem.W.mg_of X G eC0, cls := ⟨nm0, q0, N0, bs0, _, sn0, sub0, ab0, col0, dd0, m00, m10, m20, m30, m50, eL0, rfl⟩, ov := ov0, tk := etk0, sa := esa0, ga := ega0, gg := egg0, noN := eno0, iC := ein0, tC := eti0, kC := ekC0, exC := eeC0, tyC := etC0, hdC := ehC0, fn := ⟨_, _, _, _, _, _, _, _, _, _, _, _, _, _, efn0, eco0⟩ }
  have ov1 : PySem.W.excOver K C1 ErrX.tailE = true := by
    unfold PySem.W.excOver PySem.W.clsIn
    rw [eL1]
    show (C1 == C1 && true) = true
    rw [beq_self_eq_true]; rfl
  have E1 : ErrX.ETxt K mg "InvalidSigns" "InvalidSigns.__init__" C1 I1 := { gC := PySem.W.mg_of X G eC1, cls := ⟨nm1, q1, N1, bs1, _, sn1, sub1, ab1, col1, dd1, m01, m11, m21, m31, m51, eL1, rfl⟩, ov := ov1, tk := etk1, sa := esa1, ga := ega1, gg := egg1, noN := eno1, iC := ein1, tC := eti1, kC := ekC1, exC := eeC1, tyC := etC1, hdC := ehC1, fn := ⟨_, _, _, _, _, _, _, _, _, _, _, _, _, _, efn1, eco1⟩ }
  exact ⟨PySem.W.fnOf "law" "law" (defArgs s_law) (defBody s_law) (defScope s_law) .none kV31 dc31 pm31 an31 cd31 ct31, fun s v => .of_eq rfl, fun base _ _ => ok_law ({ f_is_integer := f0, fd_is_integer := _, F_is_integer := F0, b_is_integer := b0, g_is_integer := PySem.W.mg_of X G a0, f_is_count := f1, fd_is_count := _, F_is_count := F1, b_is_count := b1, g_is_count := PySem.W.mg_of X G a1, f_is_number_of_signs := f2, fd_is_number_of_signs := _, F_is_number_of_signs := F2, b_is_number_of_signs := b2, g_is_number_of_signs := PySem.W.mg_of X G a2, f_is_below := f3, fd_is_below := _, F_is_below := F3, b_is_below := b3, g_is_below := PySem.W.mg_of X G a3, f_is_kind := f4, fd_is_kind := _, F_is_kind := F4, b_is_kind := b4, g_is_kind := PySem.W.mg_of X G a4, f_is_passing := f5, fd_is_passing := _, F_is_passing := F5, b_is_passing := b5, g_is_passing := PySem.W.mg_of X G a5, f_all_kinds := f6, fd_all_kinds := _, F_all_kinds := F6, b_all_kinds := b6, g_all_kinds := PySem.W.mg_of X G a6, f_sent := f7, fd_sent := _, F_sent := F7, b_sent := b7, g_sent := PySem.W.mg_of X G a7, f_came := f8, fd_came := _, F_came := F8, b_came := b8, g_came := PySem.W.mg_of X G a8, f_errors_in := f9, fd_errors_in := _, F_errors_in := F9, b_errors_in := b9, g_errors_in := PySem.W.mg_of X G a9, f_is_step := f10, fd_is_step := _, F_is_step := F10, b_is_step := b10, g_is_step := PySem.W.mg_of X G a10, f_is_free := f11, fd_is_free := _, F_is_free := F11, b_is_free := b11, g_is_free := PySem.W.mg_of X G a11, f_check_signs := f12, fd_check_signs := _, F_check_signs := F12, b_check_signs := b12, g_check_signs := PySem.W.mg_of X G a12, f_check_passing := f13, fd_check_passing := _, F_check_passing := F13, b_check_passing := b13, g_check_passing := PySem.W.mg_of X G a13, f_line_sent := f14, fd_line_sent := _, F_line_sent := F14, b_line_sent := b14, g_line_sent := PySem.W.mg_of X G a14, f_line_that_came := f15, fd_line_that_came := _, F_line_that_came := F15, b_line_that_came := b15, g_line_that_came := PySem.W.mg_of X G a15, f_law_cell := f16, fd_law_cell := _, F_law_cell := F16, b_law_cell := b16, g_law_cell := PySem.W.mg_of X G a16, f_law_box := f17, fd_law_box := _, F_law_box := F17, b_law_box := b17, g_law_box := PySem.W.mg_of X G a17, f_law_take := f18, fd_law_take := _, F_law_take := F18, b_law_take := b18, g_law_take := PySem.W.mg_of X G a18, f_law_is_signs := f19, fd_law_is_signs := _, F_law_is_signs := F19, b_law_is_signs := b19, g_law_is_signs := PySem.W.mg_of X G a19, f_law_is_sign := f20, fd_law_is_sign := _, F_law_is_sign := F20, b_law_is_sign := b20, g_law_is_sign := PySem.W.mg_of X G a20, f_law_is_kind := f21, fd_law_is_kind := _, F_law_is_kind := F21, b_law_is_kind := b21, g_law_is_kind := PySem.W.mg_of X G a21, f_law_is_passing := f22, fd_law_is_passing := _, F_law_is_passing := F22, b_law_is_passing := b22, g_law_is_passing := PySem.W.mg_of X G a22, f_law_step := f23, fd_law_step := _, F_law_step := F23, b_law_step := b23, g_law_step := PySem.W.mg_of X G a23, f_law_passing := f24, fd_law_passing := _, F_law_passing := F24, b_law_passing := b24, g_law_passing := PySem.W.mg_of X G a24, f_law_odd := f25, fd_law_odd := _, F_law_odd := F25, b_law_odd := b25, g_law_odd := PySem.W.mg_of X G a25, f_law_near := f26, fd_law_near := _, F_law_near := F26, b_law_near := b26, g_law_near := PySem.W.mg_of X G a26, f_law_ask := f27, fd_law_ask := _, F_law_ask := F27, b_law_ask := b27, g_law_ask := PySem.W.mg_of X G a27, f_law_doors_right := f28, fd_law_doors_right := _, F_law_doors_right := F28, b_law_doors_right := b28, g_law_doors_right := PySem.W.mg_of X G a28, f_law_all_right := f29, fd_law_all_right := _, F_law_all_right := F29, b_law_all_right := b29, g_law_all_right := PySem.W.mg_of X G a29, f_law_right := f30, fd_law_right := _, F_law_right := F30, b_law_right := b30, g_law_right := PySem.W.mg_of X G a30, f_law := fa, fd_law := _, F_law := F31, b_law := b31, g_law := PySem.W.mg_of X G a31, z_abs := PySem.W.mg_none_of X G z_abs, z_all := PySem.W.mg_none_of X G z_all, z_bool := PySem.W.mg_none_of X G z_bool, z_int := PySem.W.mg_none_of X G z_int, z_isinstance := PySem.W.mg_none_of X G z_isinstance, z_len := PySem.W.mg_none_of X G z_len, z_list := PySem.W.mg_none_of X G z_list, z_max := PySem.W.mg_none_of X G z_max, z_min := PySem.W.mg_none_of X G z_min, z_range := PySem.W.mg_none_of X G z_range, z_repr := PySem.W.mg_none_of X G z_repr, z_str := PySem.W.mg_none_of X G z_str, z_sum := PySem.W.mg_none_of X G z_sum, z_tuple := PySem.W.mg_none_of X G z_tuple, t_MOST_SIGNS := t_MOST_SIGNS, c_MOST_SIGNS := PySem.W.mg_of X G n_MOST_SIGNS, D_SIGNS_TOLD := TD_SIGNS_TOLD, g_SIGNS_TOLD := PySem.W.mg_of X G tg_SIGNS_TOLD, kd_SIGNS_TOLD := kd_SIGNS_TOLD, C_InvalidPassing := C0, i_InvalidPassing := I0, e_InvalidPassing := E0, x_InvalidPassing := exm_of eeC0 eiC0 etC0 esC0, C_InvalidSigns := C1, i_InvalidSigns := I1, e_InvalidSigns := E1, x_InvalidSigns := exm_of eeC1 eiC1 etC1 esC1, no_InvalidPassing_InvalidSigns := exm_of eeC1 eiC1 etC1 en_0_1, no_InvalidSigns_InvalidPassing := exm_of eeC0 eiC0 etC0 en_1_0, C_CodecError := D_CodecError, g_CodecError := PySem.W.mg_of X G gc_CodecError, xc_InvalidPassing := { hg := ega0, hk := egg0, hs := eeC0, hd := ehC0, ha := xa_InvalidPassing, hn := x_get, ht := x_tk, hm := xm_InvalidPassing }, ki_InvalidPassing_CodecError := kit_of_sub xi_CodecError xt_CodecError esC0 xk_InvalidPassing_CodecError } : Txt K mg w)⟩
end My
open PySem PySem.W PyProof.Rows
set_option maxRecDepth 100000 in
set_option maxHeartbeats 0 in
theorem PySem.Challenge.cw_spoiltline_k04_kinds_and_passings_holds : PySem.Challenge.rw_spoiltline_k04_kinds_and_passings.Holds := by
  w_on; o_law; k_head; (case hw => w_witness2)
  k_fill
  refine L2.walk_G (l := PySem.Challenge.rw_spoiltline_k04_kinds_and_passings) (n := 63) (k := 11) (x := "script") (sp := My.spLaw) rfl (by decide) rfl ⟨rfl, by decide, by decide⟩ (fun w h Y => PySem.W.kIn_of Y) ?F (fun _ _ a ns hl _ hS => ⟨a, ns, rfl, hS, hl, fun _ => rfl⟩)
  case F =>
    intro w mg fa h KX G hmg
    refine' My.all_mk KX G hmg ?eC0 ?eL0 ?etk0 ?esa0 ?ega0 ?egg0 ?eno0 ?ein0 ?eti0 ?ekC0 ?eeC0 ?etC0 ?ehC0 ?eiC0 ?esC0 ?efn0 ?eco0 ?eC1 ?eL1 ?etk1 ?esa1 ?ega1 ?egg1 ?eno1 ?ein1 ?eti1 ?ekC1 ?eeC1 ?etC1 ?ehC1 ?eiC1 ?esC1 ?efn1 ?eco1 ?en_0_1 ?en_1_0 ?a0 ?l0 ?c0 ?k0 ?a1 ?l1 ?c1 ?k1 ?a2 ?l2 ?c2 ?k2 ?a3 ?l3 ?c3 ?k3 ?a4 ?l4 ?c4 ?k4 ?a5 ?l5 ?c5 ?k5 ?a6 ?l6 ?c6 ?k6 ?a7 ?l7 ?c7 ?k7 ?a8 ?l8 ?c8 ?k8 ?a9 ?l9 ?c9 ?k9 ?a10 ?l10 ?c10 ?k10 ?a11 ?l11 ?c11 ?k11 ?a12 ?l12 ?c12 ?k12 ?a13 ?l13 ?c13 ?k13 ?a14 ?l14 ?c14 ?k14 ?a15 ?l15 ?c15 ?k15 ?a16 ?l16 ?c16 ?k16 ?a17 ?l17 ?c17 ?k17 ?a18 ?l18 ?c18 ?k18 ?a19 ?l19 ?c19 ?k19 ?a20 ?l20 ?c20 ?k20 ?a21 ?l21 ?c21 ?k21 ?a22 ?l22 ?c22 ?k22 ?a23 ?l23 ?c23 ?k23 ?a24 ?l24 ?c24 ?k24 ?a25 ?l25 ?c25 ?k25 ?a26 ?l26 ?c26 ?k26 ?a27 ?l27 ?c27 ?k27 ?a28 ?l28 ?c28 ?k28 ?a29 ?l29 ?c29 ?k29 ?a30 ?l30 ?c30 ?k30 ?a31 ?l31 ?c31 ?k31 ?z_abs ?z_all ?z_bool ?z_int ?z_isinstance ?z_len ?z_list ?z_max ?z_min ?z_range ?z_repr ?z_str ?z_sum ?z_tuple ?n_MOST_SIGNS ?tg_SIGNS_TOLD ?tl_SIGNS_TOLD ?tk_SIGNS_TOLD ?tq_SIGNS_TOLD ?to_SIGNS_TOLD ?tv_SIGNS_TOLD_lost ?tv_SIGNS_TOLD_put ?tv_SIGNS_TOLD_same ?tv_SIGNS_TOLD_turned ?gc_CodecError ?xt_CodecError ?xi_CodecError ?xa_InvalidPassing ?xm_InvalidPassing ?xk_InvalidPassing_CodecError ?x_get ?x_tk
    (case eC0 => k_is)
    (case eL0 => k_is)
    (case etk0 => k_is)
    (case esa0 => k_is)
    (case ega0 => k_is)
    (case egg0 => k_is)
    (case eno0 => k_is)
    (case ein0 => k_is)
    (case eti0 => k_is)
    (case ekC0 => k_is)
    (case eeC0 => k_is)
    (case etC0 => k_is)
    (case ehC0 => k_is)
    (case eiC0 => k_is)
    (case esC0 => k_is)
    (case efn0 => k_is)
    (case eco0 => k_is)
    (case eC1 => k_is)
    (case eL1 => k_is)
    (case etk1 => k_is)
    (case esa1 => k_is)
    (case ega1 => k_is)
    (case egg1 => k_is)
    (case eno1 => k_is)
    (case ein1 => k_is)
    (case eti1 => k_is)
    (case ekC1 => k_is)
    (case eeC1 => k_is)
    (case etC1 => k_is)
    (case ehC1 => k_is)
    (case eiC1 => k_is)
    (case esC1 => k_is)
    (case efn1 => k_is)
    (case eco1 => k_is)
    (case en_0_1 => k_is)
    (case en_1_0 => k_is)
    (case a0 => k_is)
    (case l0 => k_is)
    (case c0 => k_is)
    (case k0 => k_is)
    (case a1 => k_is)
    (case l1 => k_is)
    (case c1 => k_is)
    (case k1 => k_is)
    (case a2 => k_is)
    (case l2 => k_is)
    (case c2 => k_is)
    (case k2 => k_is)
    (case a3 => k_is)
    (case l3 => k_is)
    (case c3 => k_is)
    (case k3 => k_is)
    (case a4 => k_is)
    (case l4 => k_is)
    (case c4 => k_is)
    (case k4 => k_is)
    (case a5 => k_is)
    (case l5 => k_is)
    (case c5 => k_is)
    (case k5 => k_is)
    (case a6 => k_is)
    (case l6 => k_is)
    (case c6 => k_is)
    (case k6 => k_is)
    (case a7 => k_is)
    (case l7 => k_is)
    (case c7 => k_is)
    (case k7 => k_is)
    (case a8 => k_is)
    (case l8 => k_is)
    (case c8 => k_is)
    (case k8 => k_is)
    (case a9 => k_is)
    (case l9 => k_is)
    (case c9 => k_is)
    (case k9 => k_is)
    (case a10 => k_is)
    (case l10 => k_is)
    (case c10 => k_is)
    (case k10 => k_is)
    (case a11 => k_is)
    (case l11 => k_is)
    (case c11 => k_is)
    (case k11 => k_is)
    (case a12 => k_is)
    (case l12 => k_is)
    (case c12 => k_is)
    (case k12 => k_is)
    (case a13 => k_is)
    (case l13 => k_is)
    (case c13 => k_is)
    (case k13 => k_is)
    (case a14 => k_is)
    (case l14 => k_is)
    (case c14 => k_is)
    (case k14 => k_is)
    (case a15 => k_is)
    (case l15 => k_is)
    (case c15 => k_is)
    (case k15 => k_is)
    (case a16 => k_is)
    (case l16 => k_is)
    (case c16 => k_is)
    (case k16 => k_is)
    (case a17 => k_is)
    (case l17 => k_is)
    (case c17 => k_is)
    (case k17 => k_is)
    (case a18 => k_is)
    (case l18 => k_is)
    (case c18 => k_is)
    (case k18 => k_is)
    (case a19 => k_is)
    (case l19 => k_is)
    (case c19 => k_is)
    (case k19 => k_is)
    (case a20 => k_is)
    (case l20 => k_is)
    (case c20 => k_is)
    (case k20 => k_is)
    (case a21 => k_is)
    (case l21 => k_is)
    (case c21 => k_is)
    (case k21 => k_is)
    (case a22 => k_is)
    (case l22 => k_is)
    (case c22 => k_is)
    (case k22 => k_is)
    (case a23 => k_is)
    (case l23 => k_is)
    (case c23 => k_is)
    (case k23 => k_is)
    (case a24 => k_is)
    (case l24 => k_is)
    (case c24 => k_is)
    (case k24 => k_is)
    (case a25 => k_is)
    (case l25 => k_is)
    (case c25 => k_is)
    (case k25 => k_is)
    (case a26 => k_is)
    (case l26 => k_is)
    (case c26 => k_is)
    (case k26 => k_is)
    (case a27 => k_is)
    (case l27 => k_is)
    (case c27 => k_is)
    (case k27 => k_is)
    (case a28 => k_is)
    (case l28 => k_is)
    (case c28 => k_is)
    (case k28 => k_is)
    (case a29 => k_is)
    (case l29 => k_is)
    (case c29 => k_is)
    (case k29 => k_is)
    (case a30 => k_is)
    (case l30 => k_is)
    (case c30 => k_is)
    (case k30 => k_is)
    (case a31 => k_is)
    (case l31 => k_is)
    (case c31 => k_is)
    (case k31 => k_is)
    (case z_abs => k_is)
    (case z_all => k_is)
    (case z_bool => k_is)
    (case z_int => k_is)
    (case z_isinstance => k_is)
    (case z_len => k_is)
    (case z_list => k_is)
    (case z_max => k_is)
    (case z_min => k_is)
    (case z_range => k_is)
    (case z_repr => k_is)
    (case z_str => k_is)
    (case z_sum => k_is)
    (case z_tuple => k_is)
    (case n_MOST_SIGNS => k_is)
    (case tg_SIGNS_TOLD => k_is)
    (case tl_SIGNS_TOLD => k_is)
    (case tk_SIGNS_TOLD => k_keys)
    (case tq_SIGNS_TOLD => first | rfl | kernel_rfl)
    (case to_SIGNS_TOLD => decide)
    (case tv_SIGNS_TOLD_lost => k_is)
    (case tv_SIGNS_TOLD_put => k_is)
    (case tv_SIGNS_TOLD_same => k_is)
    (case tv_SIGNS_TOLD_turned => k_is)
    (case gc_CodecError => k_is)
    (case xt_CodecError => k_is)
    (case xi_CodecError => k_is)
    (case xa_InvalidPassing => k_is)
    (case xm_InvalidPassing => k_is)
    (case xk_InvalidPassing_CodecError => k_is)
    (case x_get => k_is)
    (case x_tk => k_is)

