import PyProof.Rows.All
import Wide.All
import OpenK.AllK
import Wide.FinOn
import HandS.ForMost
import HandS.Exc
import HandS.ExcOwn
import HandS.WordsExc
import HandS.TryMany
import HandS.ExcSuper
import HandS.ExcInit
import KE.KExcInit
import HandS.Flt
import HandS.StrMore
import HandS.IsInst
import HandS.Conv
import HandS.Wide
import KE.KxIndex
import KE.BitLaws
import PyProof.FString3
import PyProof.Rows.StrIntSpec
import HandS.Base
import HandS.Call
import HandS.TryOnly
import HandS.OwnEq
import HandS.Evl
import HandS.Walk
import HandS.FStr
import HandS.WideBits
import PySem.Challenge.RW_spoiltline_k07_distances
import HandS.Style
set_option Elab.async false
set_option linter.all false
set_option maxHeartbeats 8000000
namespace Lev
section
variable {α : Type}
/-- an alignment of two lists with c changes -/
inductive A : List α → List α → Nat → Prop where
  | nil : A [] [] 0
  | keep {a u v c} : A u v c → A (a :: u) (a :: v) c
  | swap {a b u v c} : A u v c → A (a :: u) (b :: v) (c + 1)
  | drop {a u v c} : A u v c → A (a :: u) v (c + 1)
  | add {b u v c} : A u v c → A u (b :: v) (c + 1)
theorem A.cast {u v u' v' : List α} {c c' : Nat} (h : A u v c) (e1 : u = u') (e2 : v = v') (e3 : c = c') : A u' v' c' := by
  subst e1 e2 e3; exact h
theorem A.refl : ∀ u : List α, A u u 0
  | [] => .nil
  | _ :: u => .keep (A.refl u)
theorem A.symm {u v : List α} {c : Nat} (h : A u v c) : A v u c := by
  induction h with
  | nil => exact .nil
  | keep _ ih => exact .keep ih
  | swap _ ih => exact .swap ih
  | drop _ ih => exact .add ih
  | add _ ih => exact .drop ih
theorem A.append {u v u' v' : List α} {c c' : Nat} (h : A u v c) (h' : A u' v' c') : A (u ++ u') (v ++ v') (c + c') := by
  induction h with
  | nil => exact h'.cast rfl rfl (Nat.zero_add _).symm
  | keep _ ih => exact .keep ih
  | swap _ ih => exact (A.swap ih).cast rfl rfl (by omega)
  | drop _ ih => exact (A.drop ih).cast rfl rfl (by omega)
  | add _ ih => exact (A.add ih).cast rfl rfl (by omega)
theorem A.drops : ∀ u : List α, A u [] u.length
  | [] => .nil
  | _ :: u => .drop (A.drops u)
theorem A.adds (u : List α) : A [] u u.length := (A.drops u).symm
theorem A.nilLeft {v : List α} {c : Nat} (h : A [] v c) : v.length ≤ c := by
  generalize e : ([] : List α) = u at h
  induction h with
  | nil => exact Nat.le_refl _
  | keep _ _ => cases e
  | swap _ _ => cases e
  | drop _ _ => cases e
  | add _ ih => have := ih e; simp; omega
/-- an alignment is cut where the left list is -/
theorem A.split {w v : List α} {c : Nat} (h : A w v c) : ∀ u u' : List α, w = u ++ u' → ∃ v1 v2 c1 c2, v = v1 ++ v2 ∧ A u v1 c1 ∧ A u' v2 c2 ∧ c = c1 + c2 := by
  induction h with
  | nil =>
    intro u u' e
    have e1 : u = [] := (List.append_eq_nil_iff.mp e.symm).1
    have e2 : u' = [] := (List.append_eq_nil_iff.mp e.symm).2
    subst e1 e2
    exact ⟨[], [], 0, 0, rfl, .nil, .nil, rfl⟩
  | @keep a w v c h ih =>
    intro u u' e
    cases u with
    | nil => exact ⟨[], a :: v, 0, c, rfl, .nil, (A.keep h).cast e rfl rfl, (Nat.zero_add _).symm⟩
    | cons x u =>
      injection e with e1 e2
      subst e1
      obtain ⟨v1, v2, c1, c2, rfl, h1, h2, rfl⟩ := ih u u' e2
      exact ⟨_ :: v1, v2, c1, c2, rfl, .keep h1, h2, rfl⟩
  | @swap a b w v c h ih =>
    intro u u' e
    cases u with
    | nil => exact ⟨[], b :: v, 0, c + 1, rfl, .nil, (A.swap h).cast e rfl rfl, (Nat.zero_add _).symm⟩
    | cons x u =>
      injection e with e1 e2
      subst e1
      obtain ⟨v1, v2, c1, c2, rfl, h1, h2, rfl⟩ := ih u u' e2
      exact ⟨_ :: v1, v2, c1 + 1, c2, rfl, .swap h1, h2, by omega⟩
  | @drop a w v c h ih =>
    intro u u' e
    cases u with
    | nil => exact ⟨[], v, 0, c + 1, rfl, .nil, (A.drop h).cast e rfl rfl, (Nat.zero_add _).symm⟩
    | cons x u =>
      injection e with e1 e2
      subst e1
      obtain ⟨v1, v2, c1, c2, rfl, h1, h2, rfl⟩ := ih u u' e2
      exact ⟨v1, v2, c1 + 1, c2, rfl, .drop h1, h2, by omega⟩
  | @add b w v c h ih =>
    intro u u' e
    obtain ⟨v1, v2, c1, c2, rfl, h1, h2, rfl⟩ := ih u u' e
    exact ⟨b :: v1, v2, c1 + 1, c2, rfl, .add h1, h2, by omega⟩

/-! ### ways over places of two lists -/
inductive P (u v : List α) : Nat → Nat → Nat → Prop where
  | zero : P u v 0 0 0
  | keep {i j c a} : P u v i j c → u[i]? = some a → v[j]? = some a → P u v (i + 1) (j + 1) c
  | swap {i j c} : P u v i j c → i < u.length → j < v.length → P u v (i + 1) (j + 1) (c + 1)
  | drop {i j c} : P u v i j c → i < u.length → P u v (i + 1) j (c + 1)
  | add {i j c} : P u v i j c → j < v.length → P u v i (j + 1) (c + 1)
variable {u v : List α}
theorem P.bounds {i j c : Nat} (h : P u v i j c) : i ≤ u.length ∧ j ≤ v.length := by
  induction h with
  | zero => exact ⟨Nat.zero_le _, Nat.zero_le _⟩
  | keep _ e1 e2 _ =>
    have h1 := (List.getElem?_eq_some_iff.mp e1).1
    have h2 := (List.getElem?_eq_some_iff.mp e2).1
    exact ⟨h1, h2⟩
  | swap _ h1 h2 _ => exact ⟨h1, h2⟩
  | drop _ h1 ih => exact ⟨h1, ih.2⟩
  | add _ h1 ih => exact ⟨ih.1, h1⟩
theorem P.toA {i j c : Nat} (h : P u v i j c) : A (u.take i) (v.take j) c := by
  induction h with
  | zero => exact (A.nil).cast (by simp) (by simp) rfl
  | keep _ e1 e2 ih =>
    exact (ih.append (A.keep A.nil)).cast (by rw [List.take_add_one, e1]; rfl) (by rw [List.take_add_one, e2]; rfl) rfl
  | @swap i j c _ h1 h2 ih =>
    exact (ih.append (A.swap (a := u[i]) (b := v[j]) A.nil)).cast (by rw [List.take_add_one, List.getElem?_eq_getElem h1]; rfl) (by rw [List.take_add_one, List.getElem?_eq_getElem h2]; rfl) rfl
  | @drop i j c _ h1 ih =>
    exact (ih.append (A.drop (a := u[i]) A.nil)).cast (by rw [List.take_add_one, List.getElem?_eq_getElem h1]; rfl) (by simp) rfl
  | @add i j c _ h1 ih =>
    exact (ih.append (A.add (b := v[j]) A.nil)).cast (by simp) (by rw [List.take_add_one, List.getElem?_eq_getElem h1]; rfl) rfl
theorem P.onA {u' v' : List α} {c' : Nat} (h : A u' v' c') : ∀ {i j c : Nat}, P u v i j c → u.drop i = u' → v.drop j = v' → i ≤ u.length → j ≤ v.length → P u v u.length v.length (c + c') := by
  induction h with
  | nil =>
    intro i j c p e1 e2 b1 b2
    have h1 : u.length ≤ i := List.drop_eq_nil_iff.mp e1
    have h2 : v.length ≤ j := List.drop_eq_nil_iff.mp e2
    have e3 : i = u.length := Nat.le_antisymm b1 h1
    have e4 : j = v.length := Nat.le_antisymm b2 h2
    subst e3 e4
    exact p
  | @keep a u' v' c' _ ih =>
    intro i j c p e1 e2 b1 b2
    have g1 : u[i]? = some a := by have := congrArg (·[0]?) e1; simpa using this
    have g2 : v[j]? = some a := by have := congrArg (·[0]?) e2; simpa using this
    have h1 := (List.getElem?_eq_some_iff.mp g1).1
    have h2 := (List.getElem?_eq_some_iff.mp g2).1
    exact ih (.keep p g1 g2) (by rw [← List.drop_drop, e1]; rfl) (by rw [← List.drop_drop, e2]; rfl) h1 h2
  | @swap a b u' v' c' _ ih =>
    intro i j c p e1 e2 b1 b2
    have g1 : u[i]? = some a := by have := congrArg (·[0]?) e1; simpa using this
    have g2 : v[j]? = some b := by have := congrArg (·[0]?) e2; simpa using this
    have h1 := (List.getElem?_eq_some_iff.mp g1).1
    have h2 := (List.getElem?_eq_some_iff.mp g2).1
    have := ih (.swap p h1 h2) (by rw [← List.drop_drop, e1]; rfl) (by rw [← List.drop_drop, e2]; rfl) h1 h2
    rw [show c + (c' + 1) = c + 1 + c' by omega]; exact this
  | @drop a u' v' c' _ ih =>
    intro i j c p e1 e2 b1 b2
    have g1 : u[i]? = some a := by have := congrArg (·[0]?) e1; simpa using this
    have h1 := (List.getElem?_eq_some_iff.mp g1).1
    have := ih (.drop p h1) (by rw [← List.drop_drop, e1]; rfl) e2 h1 b2
    rw [show c + (c' + 1) = c + 1 + c' by omega]; exact this
  | @add b u' v' c' _ ih =>
    intro i j c p e1 e2 b1 b2
    have g2 : v[j]? = some b := by have := congrArg (·[0]?) e2; simpa using this
    have h2 := (List.getElem?_eq_some_iff.mp g2).1
    have := ih (.add p h2) e1 (by rw [← List.drop_drop, e2]; rfl) b1 h2
    rw [show c + (c' + 1) = c + 1 + c' by omega]; exact this
theorem A.toP {c : Nat} (h : A u v c) : P u v u.length v.length c := by
  have := P.onA (u := u) (v := v) h .zero rfl rfl (Nat.zero_le _) (Nat.zero_le _)
  simpa using this
theorem P.toA' {c : Nat} (h : P u v u.length v.length c) : A u v c := h.toA.cast (List.take_length) (List.take_length) rfl

/-! ### the table -/
variable [DecidableEq α]
def neq (x y : Option α) : Nat := if x = y then 0 else 1
def T (u v : List α) : Nat → Nat → Nat
  | 0, j => j
  | i + 1, 0 => i + 1
  | i + 1, j + 1 => min (T u v i j + neq u[i]? v[j]?) (min (T u v (i + 1) j + 1) (T u v i (j + 1) + 1))
theorem T_zero (j : Nat) : T u v 0 j = j := by unfold T; rfl
theorem T_left (i : Nat) : T u v i 0 = i := by cases i <;> (unfold T; rfl)
theorem T_step (i j : Nat) : T u v (i + 1) (j + 1) = min (T u v i j + neq u[i]? v[j]?) (min (T u v (i + 1) j + 1) (T u v i (j + 1) + 1)) := by
  rw [T]
theorem T_le {i j c : Nat} (h : P u v i j c) : T u v i j ≤ c := by
  induction h with
  | zero => rw [T_zero]; omega
  | keep _ e1 e2 ih => rw [T_step, e1, e2]; simp only [neq, if_true]; omega
  | @swap i j c _ _ _ ih =>
    rw [T_step]
    have : neq u[i]? v[j]? ≤ 1 := by unfold neq; split <;> omega
    omega
  | @drop i j c _ _ ih => cases j with
    | zero => rw [T_left] at *; omega
    | succ j => rw [T_step]; omega
  | @add i j c _ _ ih => cases i with
    | zero => rw [T_zero] at *; omega
    | succ i => rw [T_step]; omega
theorem T_P : ∀ (i j : Nat), i ≤ u.length → j ≤ v.length → P u v i j (T u v i j) := by
  intro i
  induction i with
  | zero =>
    intro j
    induction j with
    | zero => intro _ _; rw [T_zero]; exact .zero
    | succ j ih => intro h1 h2; rw [T_zero]; have := ih h1 (by omega); rw [T_zero] at this; exact .add this (by omega)
  | succ i ihi =>
    intro j
    induction j with
    | zero => intro h1 h2; rw [T_left]; have := ihi 0 (by omega) h2; rw [T_left] at this; exact .drop this (by omega)
    | succ j ih =>
      intro h1 h2
      have p1 := ihi j (by omega) (by omega)
      have p2 := ih h1 (by omega)
      have p3 := ihi (j + 1) (by omega) h2
      rw [T_step]
      by_cases q1 : T u v i j + neq u[i]? v[j]? ≤ min (T u v (i + 1) j + 1) (T u v i (j + 1) + 1)
      · rw [Nat.min_eq_left q1]
        by_cases e : u[i]? = v[j]?
        · rw [show neq u[i]? v[j]? = 0 by unfold neq; rw [if_pos e]]
          exact .keep p1 (List.getElem?_eq_getElem (by omega)) (by rw [← e]; exact List.getElem?_eq_getElem (by omega))
        · rw [show neq u[i]? v[j]? = 1 by unfold neq; rw [if_neg e]]
          exact .swap p1 (by omega) (by omega)
      · rw [Nat.min_eq_right (by omega)]
        by_cases q2 : T u v (i + 1) j + 1 ≤ T u v i (j + 1) + 1
        · rw [Nat.min_eq_left q2]; exact .add p2 (by omega)
        · rw [Nat.min_eq_right (by omega)]; exact .drop p3 (by omega)
/-- the distance -/
def D (u v : List α) : Nat := T u v u.length v.length
theorem D_A (u v : List α) : A u v (D u v) := (T_P _ _ (Nat.le_refl _) (Nat.le_refl _)).toA'
theorem D_le {u v : List α} {c : Nat} (h : A u v c) : D u v ≤ c := T_le h.toP
theorem D_symm (u v : List α) : D u v = D v u := Nat.le_antisymm (D_le (D_A v u).symm) (D_le (D_A u v).symm)
theorem D_self (u : List α) : D u u = 0 := Nat.le_zero.mp (D_le (A.refl u))
theorem D_le_max (u v : List α) : D u v ≤ max u.length v.length := by
  have key : ∀ u v : List α, ∃ c, A u v c ∧ c ≤ max u.length v.length := by
    intro u
    induction u with
    | nil => intro v; exact ⟨_, A.adds v, by simp⟩
    | cons a u ih =>
      intro v
      cases v with
      | nil => exact ⟨_, A.drops (a :: u), by simp⟩
      | cons b v =>
        obtain ⟨c, h, hc⟩ := ih v
        exact ⟨c + 1, .swap h, by simp; omega⟩
  obtain ⟨c, h, hc⟩ := key u v
  exact Nat.le_trans (D_le h) hc
theorem A.lens {u v : List α} {c : Nat} (h : A u v c) : u.length ≤ v.length + c ∧ v.length ≤ u.length + c := by
  induction h with
  | nil => exact ⟨Nat.le_refl _, Nat.le_refl _⟩
  | keep _ ih => simp only [List.length_cons]; omega
  | swap _ ih => simp only [List.length_cons]; omega
  | drop _ ih => simp only [List.length_cons]; omega
  | add _ ih => simp only [List.length_cons]; omega
end
end Lev

set_option Elab.async false
set_option linter.all false
set_option maxHeartbeats 400000
namespace Lev
section
variable {α : Type} [DecidableEq α]
/-- no equal letters at these places -/
def Stop (u v : List α) (i j : Nat) : Prop := ¬ ∃ a, u[i]? = some a ∧ v[j]? = some a
/-- so many equal letters from the places on, and no more -/
structure Ext (u v : List α) (i j k : Nat) : Prop where
  le1 : i + k ≤ u.length
  le2 : j + k ≤ v.length
  eq : ∀ x, x < k → u[i + x]? = v[j + x]?
  stop : Stop u v (i + k) (j + k)
/-- diagonals from which the ends can be reached in time -/
structure InB (n m : Nat) (most : Int) (c : Nat) (d : Int) : Prop where
  a1 : -(c : Int) ≤ d
  a2 : d ≤ c
  a3 : -(n : Int) ≤ d
  a4 : d ≤ m
  a5 : (m : Int) - n - (most - c) ≤ d
  a6 : d ≤ (m : Int) - n + (most - c)
theorem inB_of {n m c : Nat} {most lo hi d : Int} (h1 : lo = max (max (-(c : Int)) (-(n : Int))) ((m : Int) - n - (most - c))) (h2 : hi = min (min (c : Int) (m : Int)) ((m : Int) - n + (most - c))) : InB n m most c d ↔ (lo ≤ d ∧ d ≤ hi) := by
  subst h1 h2
  constructor
  · intro ⟨a1, a2, a3, a4, a5, a6⟩
    exact ⟨Int.max_le.mpr ⟨Int.max_le.mpr ⟨a1, a3⟩, a5⟩, Int.le_min.mpr ⟨Int.le_min.mpr ⟨a2, a4⟩, a6⟩⟩
  · intro ⟨p, q⟩
    have p' := Int.max_le.mp p
    have p'' := Int.max_le.mp p'.1
    have q' := Int.le_min.mp q
    have q'' := Int.le_min.mp q'.1
    exact ⟨p''.1, q''.1, p''.2, q''.2, p'.2, q'.2⟩
/-- a diagonal of the next front has a neighbour in this one -/
theorem inB_near {n m c : Nat} {most d : Int} (h : InB n m most (c + 1) d) : InB n m most c d ∨ InB n m most c (d + 1) ∨ InB n m most c (d - 1) := by
  obtain ⟨a1, a2, a3, a4, a5, a6⟩ := h
  by_cases e1 : d ≤ c
  · by_cases e2 : -(c : Int) ≤ d
    · exact .inl ⟨e2, e1, a3, a4, by omega, by omega⟩
    · exact .inr (.inl ⟨by omega, by omega, by omega, by omega, by omega, by omega⟩)
  · exact .inr (.inr ⟨by omega, by omega, by omega, by omega, by omega, by omega⟩)
structure Good (u v : List α) (most : Int) (c : Nat) (lo hi : Int) (f : Int → Int) : Prop where
  f0 : ∀ d, lo ≤ d → d ≤ hi → 0 ≤ f d
  fn : ∀ d, lo ≤ d → d ≤ hi → f d ≤ u.length
  g0 : ∀ d, lo ≤ d → d ≤ hi → 0 ≤ f d + d
  gm : ∀ d, lo ≤ d → d ≤ hi → f d + d ≤ v.length
  sound : ∀ d, lo ≤ d → d ≤ hi → T u v (f d).toNat (f d + d).toNat ≤ c
  stop : ∀ d, lo ≤ d → d ≤ hi → Stop u v (f d).toNat (f d + d).toNat
  full : ∀ i j e, P u v i j c → A (u.drop i) (v.drop j) e → (c : Int) + e ≤ most → (i : Int) ≤ f ((j : Int) - i)
  band : ∀ d, InB u.length v.length most c d ↔ (lo ≤ d ∧ d ≤ hi)
theorem P.diag {u v : List α} {i j c : Nat} (h : P u v i j c) : i ≤ j + c ∧ j ≤ i + c := by
  have := h.toA.lens
  have hb := h.bounds
  rw [List.length_take, List.length_take, Nat.min_eq_left hb.1, Nat.min_eq_left hb.2] at this
  exact this
theorem ext_T {u v : List α} {i j k : Nat} (h : ∀ x, x < k → u[i + x]? = v[j + x]?) (h1 : i + k ≤ u.length) (h2 : j + k ≤ v.length) : T u v (i + k) (j + k) ≤ T u v i j := by
  induction k with
  | zero => exact Nat.le_refl _
  | succ k ih =>
    have a := ih (fun x hx => h x (by omega)) (by omega) (by omega)
    have b := h k (by omega)
    rw [show i + (k + 1) = (i + k) + 1 by omega, show j + (k + 1) = (j + k) + 1 by omega, T_step, b]
    simp only [neq, if_true]
    omega
theorem full_in {u v : List α} {most : Int} {c i j e : Nat} (p : P u v i j c) (a : A (u.drop i) (v.drop j) e) (h : (c : Int) + e ≤ most) :
    InB u.length v.length most c ((j : Int) - i) := by
  have b := p.bounds
  have d := p.diag
  have l := a.lens
  rw [List.length_drop, List.length_drop] at l
  exact ⟨by omega, by omega, by omega, by omega, by omega, by omega⟩
theorem drop_cons_of {u : List α} {i : Nat} {a : α} (h : u[i]? = some a) : u.drop i = a :: u.drop (i + 1) := by
  obtain ⟨h1, h2⟩ := List.getElem?_eq_some_iff.mp h
  rw [List.drop_eq_getElem_cons h1, h2]
/-- the first front -/
theorem good_zero {u v : List α} {most : Int} {k : Nat} (h : Ext u v 0 0 k) (h1 : (v.length : Int) - u.length ≤ most) (h2 : (u.length : Int) - v.length ≤ most) : Good u v most 0 0 0 (fun _ => (k : Int)) := by
  have l1 := h.le1
  have l2 := h.le2
  have e0 : ∀ d : Int, 0 ≤ d → d ≤ 0 → d = 0 := fun d a b => by omega
  refine ⟨fun d _ _ => by omega, fun d _ _ => by omega, fun d a _ => by omega, fun d _ _ => by omega, fun d a b => ?_, fun d a b => ?_, fun i j e p _ _ => ?_, fun d => ⟨fun q => ⟨q.a1, q.a2⟩, fun q => ⟨by omega, by omega, by omega, by omega, by omega, by omega⟩⟩⟩
  · obtain rfl := e0 d a b
    have := ext_T h.eq h.le1 h.le2
    rw [T_zero] at this
    simp only [Int.toNat_natCast, Int.add_zero, Nat.zero_add] at *
    omega
  · obtain rfl := e0 d a b
    have := h.stop
    simp only [Int.toNat_natCast, Int.add_zero, Nat.zero_add] at *
    exact this
  · -- a way without changes goes along the letters that are alike
    have key : ∀ i j c, P u v i j c → c = 0 → i = j ∧ i ≤ k := by
      intro i j c p
      induction p with
      | zero => intro _; exact ⟨rfl, Nat.zero_le _⟩
      | @keep i j c a _ e1 e2 ih =>
        intro hc
        obtain ⟨rfl, hk⟩ := ih hc
        refine ⟨rfl, ?_⟩
        rcases Nat.lt_or_ge i k with q | q
        · exact q
        · have : i = k := by omega
          subst this
          have hs := h.stop
          rw [Nat.zero_add] at hs
          exact absurd ⟨a, e1, e2⟩ hs
      | swap _ _ _ _ => intro hc; omega
      | drop _ _ _ => intro hc; omega
      | add _ _ _ => intro hc; omega
    have := (key i j 0 p rfl).2
    show (i : Int) ≤ k
    omega
/-- a row that is told ahead, or one far ahead of all rows -/
def rowAt (lo hi : Int) (f : Int → Int) (d : Int) : Int := if lo ≤ d ∧ d ≤ hi then f d else -2
def rowB (n m lo hi : Int) (f : Int → Int) (d : Int) : Int :=
  min (min (max (max (rowAt lo hi f d + 1) (rowAt lo hi f (d + 1) + 1)) (rowAt lo hi f (d - 1))) n) (m - d)
theorem T_up {u v : List α} {i j c : Nat} (h : T u v i j ≤ c) (hi : i ≤ u.length) (hj : j ≤ v.length) :
    (i < u.length → j < v.length → T u v (i + 1) (j + 1) ≤ c + 1) ∧ (i < u.length → T u v (i + 1) j ≤ c + 1) ∧ (j < v.length → T u v i (j + 1) ≤ c + 1) := by
  have p := T_P (u := u) (v := v) i j hi hj
  refine ⟨fun a b => Nat.le_trans (T_le (.swap p a b)) (by omega), fun a => Nat.le_trans (T_le (.drop p a)) (by omega), fun b => Nat.le_trans (T_le (.add p b)) (by omega)⟩
theorem P.lift {u v : List α} {i j c n m : Nat} (h : P (u.take n) (v.take m) i j c) : P u v i j c := by
  induction h with
  | zero => exact .zero
  | keep _ e1 e2 ih =>
    rw [List.getElem?_take] at e1 e2
    split at e1
    · split at e2
      · exact .keep ih e1 e2
      · cases e2
    · cases e1
  | swap _ h1 h2 ih => rw [List.length_take] at h1 h2; exact .swap ih (by omega) (by omega)
  | drop _ h1 ih => rw [List.length_take] at h1; exact .drop ih (by omega)
  | add _ h1 ih => rw [List.length_take] at h1; exact .add ih (by omega)
theorem A.toPre {u v : List α} {i j c : Nat} (h : A (u.take i) (v.take j) c) (hi : i ≤ u.length) (hj : j ≤ v.length) : P u v i j c := by
  have := h.toP.lift
  rw [List.length_take, List.length_take, Nat.min_eq_left hi, Nat.min_eq_left hj] at this
  exact this
/-- one letter less on a side: at most one change more -/
theorem T_back2 {u v : List α} {i j c : Nat} (h : P u v i (j + 1) c) (hj : j < v.length) : T u v i j ≤ c + 1 := by
  obtain ⟨v1, v2, c1, c2, e, h1, h2, rfl⟩ := (h.toA.symm).split (v.take j) [v[j]] (by rw [List.take_add_one, List.getElem?_eq_getElem hj]; rfl)
  have b := h.bounds
  have l := h2.lens
  simp only [List.length_singleton] at l
  have h3 := (h1.append (A.adds v2)).symm
  have e4 : u.take i = v1 ++ v2 := e
  have h4 : A (u.take i) (v.take j) (c1 + v2.length) := h3.cast e4.symm (List.append_nil _) rfl
  have := A.toPre h4 b.1 (by omega)
  exact Nat.le_trans (T_le this) (by omega)
theorem T_back1 {u v : List α} {i j c : Nat} (h : P u v (i + 1) j c) (hi : i < u.length) : T u v i j ≤ c + 1 := by
  obtain ⟨v1, v2, c1, c2, e, h1, h2, rfl⟩ := (h.toA).split (u.take i) [u[i]] (by rw [List.take_add_one, List.getElem?_eq_getElem hi]; rfl)
  have b := h.bounds
  have l := h2.lens
  simp only [List.length_singleton] at l
  have h3 := h1.append (A.adds v2)
  have h4 : A (u.take i) (v.take j) (c1 + v2.length) := h3.cast (List.append_nil _) e.symm rfl
  have := A.toPre h4 (by omega) b.2
  exact Nat.le_trans (T_le this) (by omega)
theorem rowAt_in {lo hi : Int} {f : Int → Int} {d : Int} (h : lo ≤ d ∧ d ≤ hi) : rowAt lo hi f d = f d := by unfold rowAt; rw [if_pos h]
theorem rowAt_out {lo hi : Int} {f : Int → Int} {d : Int} (h : ¬ (lo ≤ d ∧ d ≤ hi)) : rowAt lo hi f d = -2 := by unfold rowAt; rw [if_neg h]
/-- a neighbour of which the row comes -/
theorem max_of {x y z : Int} : ∃ w, max (max x y) z = w ∧ x ≤ w ∧ y ≤ w ∧ z ≤ w ∧ (w = x ∨ w = y ∨ w = z) := ⟨_, rfl, by omega, by omega, by omega, by omega⟩
theorem min_of {x y z : Int} : ∃ w, min (min x y) z = w ∧ w ≤ x ∧ w ≤ y ∧ w ≤ z ∧ (w = x ∨ w = y ∨ w = z) := ⟨_, rfl, by omega, by omega, by omega, by omega⟩
/-- the row is well placed and has no more changes -/
theorem rowB_ok {u v : List α} {most : Int} {c : Nat} {lo hi : Int} {f : Int → Int} (G : Good u v most c lo hi f) {d : Int} (hd : InB u.length v.length most (c + 1) d) :
    ∃ r, rowB u.length v.length lo hi f d = r ∧ 0 ≤ r ∧ r ≤ u.length ∧ 0 ≤ r + d ∧ r + d ≤ v.length ∧ T u v r.toNat (r + d).toNat ≤ c + 1 := by
  have some_ : (lo ≤ d ∧ d ≤ hi) ∨ (lo ≤ d + 1 ∧ d + 1 ≤ hi) ∨ (lo ≤ d - 1 ∧ d - 1 ≤ hi) := by
    rcases inB_near hd with q | q | q
    · exact .inl ((G.band _).mp q)
    · exact .inr (.inl ((G.band _).mp q))
    · exact .inr (.inr ((G.band _).mp q))
  have b3 := hd.a3
  have b4 := hd.a4
  obtain ⟨mx, em, m1, m2, m3, mo⟩ := max_of (x := rowAt lo hi f d + 1) (y := rowAt lo hi f (d + 1) + 1) (z := rowAt lo hi f (d - 1))
  obtain ⟨r, er, r1, r2, r3, ro⟩ := min_of (x := mx) (y := (u.length : Int)) (z := v.length - d)
  have S := fun (e : Int) (p : lo ≤ e ∧ e ≤ hi) (pf : 0 ≤ f e ∧ f e ≤ u.length ∧ 0 ≤ f e + e ∧ f e + e ≤ v.length) => T_up (u := u) (v := v) (G.sound e p.1 p.2) (i := (f e).toNat) (j := (f e + e).toNat) (by omega) (by omega)
  have B := fun (e : Int) (q : lo ≤ e ∧ e ≤ hi) => (⟨G.f0 e q.1 q.2, G.fn e q.1 q.2, G.g0 e q.1 q.2, G.gm e q.1 q.2⟩ : 0 ≤ f e ∧ f e ≤ u.length ∧ 0 ≤ f e + e ∧ f e + e ≤ v.length)
  refine ⟨r, by unfold rowB; rw [em]; exact er, ?_⟩
  -- mx is at least 0
  have m0 : 0 ≤ mx := by
    rcases some_ with q | q | q
    · have := rowAt_in (f := f) q; have := B _ q; omega
    · have := rowAt_in (f := f) q; have := B _ q; omega
    · have := rowAt_in (f := f) q; have := B _ q; omega
  have src : ((lo ≤ d ∧ d ≤ hi) ∧ mx = f d + 1) ∨ ((lo ≤ d + 1 ∧ d + 1 ≤ hi) ∧ mx = f (d + 1) + 1) ∨ ((lo ≤ d - 1 ∧ d - 1 ≤ hi) ∧ mx = f (d - 1)) := by
    rcases mo with z | z | z
    · left
      by_cases q : lo ≤ d ∧ d ≤ hi
      · exact ⟨q, by rw [rowAt_in q] at z; exact z⟩
      · rw [rowAt_out q] at z; omega
    · right; left
      by_cases q : lo ≤ d + 1 ∧ d + 1 ≤ hi
      · exact ⟨q, by rw [rowAt_in q] at z; exact z⟩
      · rw [rowAt_out q] at z; omega
    · right; right
      by_cases q : lo ≤ d - 1 ∧ d - 1 ≤ hi
      · exact ⟨q, by rw [rowAt_in q] at z; exact z⟩
      · rw [rowAt_out q] at z; omega
  clear some_ mo m1 m2 m3 em er
  rcases src with ⟨q, z⟩ | ⟨q, z⟩ | ⟨q, z⟩
  · have bb := B d q
    have s := S d q bb
    have g := G.sound d q.1 q.2
    have w : r = f d + 1 ∨ r = f d := by omega
    refine ⟨by omega, by omega, by omega, by omega, ?_⟩
    rcases w with w | w
    · have e1 : r.toNat = (f d).toNat + 1 := by omega
      have e2 : (r + d).toNat = (f d + d).toNat + 1 := by omega
      rw [e1, e2]
      exact s.1 (by omega) (by omega)
    · rw [w]; omega
  · have bb := B (d + 1) q
    have s := S (d + 1) q bb
    have g := G.sound (d + 1) q.1 q.2
    have w : r = f (d + 1) + 1 ∨ r = f (d + 1) := by omega
    refine ⟨by omega, by omega, by omega, by omega, ?_⟩
    rcases w with w | w
    · have e1 : r.toNat = (f (d + 1)).toNat + 1 := by omega
      have e2 : (r + d).toNat = (f (d + 1) + (d + 1)).toNat := by omega
      rw [e1, e2]
      exact s.2.1 (by omega)
    · have e2 : (f (d + 1) + (d + 1)).toNat = (r + d).toNat + 1 := by omega
      rw [← w] at g e2
      rw [e2] at g
      have p := T_P (u := u) (v := v) r.toNat ((r + d).toNat + 1) (by omega) (by omega)
      exact Nat.le_trans (T_back2 p (by omega)) (by omega)
  · have bb := B (d - 1) q
    have s := S (d - 1) q bb
    have g := G.sound (d - 1) q.1 q.2
    have w : r = f (d - 1) ∨ r = f (d - 1) - 1 := by omega
    refine ⟨by omega, by omega, by omega, by omega, ?_⟩
    rcases w with w | w
    · have e2 : (r + d).toNat = (f (d - 1) + (d - 1)).toNat + 1 := by omega
      rw [← w] at s e2
      rw [e2]
      exact s.2.2 (by omega)
    · have e1 : (f (d - 1)).toNat = r.toNat + 1 := by omega
      have e2 : (f (d - 1) + (d - 1)).toNat = (r + d).toNat := by omega
      rw [e1, e2] at g
      have p := T_P (u := u) (v := v) (r.toNat + 1) (r + d).toNat (by omega) (by omega)
      exact Nat.le_trans (T_back1 p (by omega)) (by omega)
/-- the row is no less than a neighbour leads to, within the texts -/
theorem rowB_cut {n m lo hi d x : Int} {f : Int → Int} (h : (lo ≤ d ∧ d ≤ hi ∧ x ≤ f d + 1) ∨ (lo ≤ d + 1 ∧ d + 1 ≤ hi ∧ x ≤ f (d + 1) + 1) ∨ (lo ≤ d - 1 ∧ d - 1 ≤ hi ∧ x ≤ f (d - 1))) (h1 : x ≤ n) (h2 : x + d ≤ m) :
    x ≤ rowB n m lo hi f d := by
  obtain ⟨mx, em, m1, m2, m3, _⟩ := max_of (x := rowAt lo hi f d + 1) (y := rowAt lo hi f (d + 1) + 1) (z := rowAt lo hi f (d - 1))
  obtain ⟨r, er, _, _, _, ro⟩ := min_of (x := mx) (y := n) (z := m - d)
  have e : rowB n m lo hi f d = r := by unfold rowB; rw [em]; exact er
  rw [e]
  rcases h with ⟨a, b, c⟩ | ⟨a, b, c⟩ | ⟨a, b, c⟩
  · rw [rowAt_in ⟨a, b⟩] at m1; omega
  · rw [rowAt_in ⟨a, b⟩] at m2; omega
  · rw [rowAt_in ⟨a, b⟩] at m3; omega
/-- the next front -/
theorem good_succ {u v : List α} {most : Int} {c : Nat} {lo hi lo' hi' : Int} {f f' : Int → Int} (G : Good u v most c lo hi f)
    (band : ∀ d, InB u.length v.length most (c + 1) d ↔ (lo' ≤ d ∧ d ≤ hi'))
    (hf : ∀ d, lo' ≤ d → d ≤ hi' → ∃ k, Ext u v (rowB u.length v.length lo hi f d).toNat (rowB u.length v.length lo hi f d + d).toNat k ∧ f' d = rowB u.length v.length lo hi f d + k) : Good u v most (c + 1) lo' hi' f' := by
  have key : ∀ d, InB u.length v.length most (c + 1) d → 0 ≤ f' d ∧ f' d ≤ u.length ∧ 0 ≤ f' d + d ∧ f' d + d ≤ v.length ∧ T u v (f' d).toNat (f' d + d).toNat ≤ c + 1 ∧ Stop u v (f' d).toNat (f' d + d).toNat ∧ rowB u.length v.length lo hi f d ≤ f' d := by
    intro d hd
    have ab := (band d).mp hd
    obtain ⟨k, e, ef⟩ := hf d ab.1 ab.2
    obtain ⟨r, er, r0, rn, s0, sm, t⟩ := rowB_ok G hd
    rw [er] at e ef ⊢
    have l1 := e.le1
    have l2 := e.le2
    have et := ext_T e.eq l1 l2
    have es := e.stop
    have e1 : (f' d).toNat = r.toNat + k := by omega
    have e2 : (f' d + d).toNat = (r + d).toNat + k := by omega
    rw [e1, e2]
    exact ⟨by omega, by omega, by omega, by omega, Nat.le_trans et t, es, by omega⟩
  have key' := fun d a b => key d ((band d).mpr ⟨a, b⟩)
  refine ⟨fun d a b => (key' d a b).1, fun d a b => (key' d a b).2.1, fun d a b => (key' d a b).2.2.1, fun d a b => (key' d a b).2.2.2.1, fun d a b => (key' d a b).2.2.2.2.1, fun d a b => (key' d a b).2.2.2.2.2.1, ?_, band⟩
  intro i j e p
  generalize ec : c + 1 = c' at p
  induction p generalizing e with
  | zero => intro _ _; omega
  | @keep i j c'' a p e1 e2 ih =>
    intro al hle
    subst ec
    have al' : A (u.drop i) (v.drop j) e := by
      rw [drop_cons_of e1, drop_cons_of e2]; exact .keep al
    have h3 := ih e rfl al' hle
    have k := key ((j : Int) - i) (full_in p al' hle)
    have e3 : ((j + 1 : Nat) : Int) - ((i + 1 : Nat) : Int) = (j : Int) - i := by omega
    rw [e3]
    rcases Int.lt_or_le (i : Int) (f' ((j : Int) - i)) with q | q
    · omega
    · exfalso
      have z : f' ((j : Int) - i) = i := by omega
      have st := k.2.2.2.2.2.1
      rw [z] at st
      have y : ((i : Int) + ((j : Int) - i)).toNat = j := by omega
      rw [y, Int.toNat_natCast] at st
      exact st ⟨a, e1, e2⟩
  | @swap i j c'' p hi_ hj _ =>
    intro al hle
    have ec' : c'' = c := by omega
    subst ec'
    have al' : A (u.drop i) (v.drop j) (e + 1) := by
      rw [List.drop_eq_getElem_cons hi_, List.drop_eq_getElem_cons hj]; exact .swap al
    have h3 := G.full i j (e + 1) p al' (by omega)
    have B := (G.band _).mp (full_in p al' (by omega))
    have B' := full_in (P.swap p hi_ hj) al hle
    have e3 : ((j + 1 : Nat) : Int) - ((i + 1 : Nat) : Int) = (j : Int) - i := by omega
    rw [e3] at B' ⊢
    have k := (key ((j : Int) - i) B').2.2.2.2.2.2
    have := rowB_cut (n := u.length) (m := v.length) (lo := lo) (hi := hi) (f := f) (d := (j : Int) - i) (x := i + 1) (.inl ⟨B.1, B.2, by omega⟩) (by omega) (by omega)
    omega
  | @drop i j c'' p hi_ _ =>
    intro al hle
    have ec' : c'' = c := by omega
    subst ec'
    have al' : A (u.drop i) (v.drop j) (e + 1) := by
      rw [List.drop_eq_getElem_cons hi_]; exact .drop al
    have b := p.bounds
    have h3 := G.full i j (e + 1) p al' (by omega)
    have B := (G.band _).mp (full_in p al' (by omega))
    have B' := full_in (P.drop p hi_) al hle
    have e3 : (j : Int) - ((i + 1 : Nat) : Int) = (j : Int) - i - 1 := by omega
    rw [e3] at B' ⊢
    have k := (key ((j : Int) - i - 1) B').2.2.2.2.2.2
    have y : (j : Int) - i - 1 + 1 = (j : Int) - i := by omega
    have := rowB_cut (n := u.length) (m := v.length) (lo := lo) (hi := hi) (f := f) (d := (j : Int) - i - 1) (x := i + 1) (.inr (.inl (by rw [y]; exact ⟨B.1, B.2, by omega⟩))) (by omega) (by omega)
    omega
  | @add i j c'' p hj _ =>
    intro al hle
    have ec' : c'' = c := by omega
    subst ec'
    have al' : A (u.drop i) (v.drop j) (e + 1) := by
      rw [List.drop_eq_getElem_cons hj]; exact .add al
    have b := p.bounds
    have h3 := G.full i j (e + 1) p al' (by omega)
    have B := (G.band _).mp (full_in p al' (by omega))
    have B' := full_in (P.add p hj) al hle
    have e3 : ((j + 1 : Nat) : Int) - (i : Int) = (j : Int) - i + 1 := by omega
    rw [e3] at B' ⊢
    have k := (key ((j : Int) - i + 1) B').2.2.2.2.2.2
    have y : (j : Int) - i + 1 - 1 = (j : Int) - i := by omega
    have := rowB_cut (n := u.length) (m := v.length) (lo := lo) (hi := hi) (f := f) (d := (j : Int) - i + 1) (x := i) (.inr (.inr (by rw [y]; exact ⟨B.1, B.2, by omega⟩))) (by omega) (by omega)
    omega
/-- what the front at the goal tells -/
theorem good_goal {u v : List α} {most : Int} {c : Nat} {lo hi : Int} {f : Int → Int} (G : Good u v most c lo hi f) (hm : (c : Int) ≤ most) (hD : c ≤ D u v) :
    (rowAt lo hi f ((v.length : Int) - u.length) = u.length → D u v = c) ∧ (rowAt lo hi f ((v.length : Int) - u.length) ≠ u.length → c + 1 ≤ D u v) := by
  refine ⟨fun h => ?_, fun h => ?_⟩
  · have q : lo ≤ (v.length : Int) - u.length ∧ (v.length : Int) - u.length ≤ hi := by
      by_cases q : lo ≤ (v.length : Int) - u.length ∧ (v.length : Int) - u.length ≤ hi
      · exact q
      · rw [rowAt_out q] at h; omega
    rw [rowAt_in q] at h
    have s := G.sound _ q.1 q.2
    rw [h] at s
    have e1 : ((u.length : Int)).toNat = u.length := by omega
    have e2 : ((u.length : Int) + ((v.length : Int) - u.length)).toNat = v.length := by omega
    rw [e1, e2] at s
    exact Nat.le_antisymm s hD
  · have key : ¬ (D u v = c) := by
      intro e
      have p := (D_A u v).toP
      rw [e] at p
      have al : A (u.drop u.length) (v.drop v.length) 0 := by simp; exact .nil
      have := G.full _ _ 0 p al (by omega)
      have q := (G.band _).mp (full_in p al (by omega))
      have n := G.fn _ q.1 q.2
      rw [rowAt_in q] at h
      omega
    omega
theorem D_far {u v : List α} {most : Int} (h : ¬ ((v.length : Int) - u.length ≤ most ∧ (u.length : Int) - v.length ≤ most)) : (D u v : Int) > most := by
  have := (D_A u v).lens
  omega
end
end Lev

set_option Elab.async false
set_option linter.all false
set_option maxHeartbeats 400000
namespace Lev
section
variable {α : Type}
/-- w is a turn of v -/
def Turn (v w : List α) : Prop := ∃ x y, v = x ++ y ∧ w = y ++ x
theorem Turn.refl (v : List α) : Turn v v := ⟨[], v, rfl, (List.append_nil v).symm⟩
theorem Turn.symm {v w : List α} (h : Turn v w) : Turn w v := by
  obtain ⟨x, y, rfl, rfl⟩ := h
  exact ⟨y, x, rfl, rfl⟩
theorem Turn.trans {u v w : List α} (h : Turn u v) (h' : Turn v w) : Turn u w := by
  obtain ⟨x, y, rfl, rfl⟩ := h
  obtain ⟨x', y', e, rfl⟩ := h'
  rcases List.append_eq_append_iff.mp e with ⟨e1, rfl, rfl⟩ | ⟨e1, rfl, rfl⟩
  · exact ⟨e1, y' ++ y, by rw [List.append_assoc], by rw [List.append_assoc]⟩
  · exact ⟨x ++ x', e1, by rw [List.append_assoc], by rw [List.append_assoc]⟩
theorem Turn.length {v w : List α} (h : Turn v w) : w.length = v.length := by
  obtain ⟨x, y, rfl, rfl⟩ := h
  simp only [List.length_append]; omega
theorem Turn.at (v : List α) (k : Nat) : Turn v (v.drop k ++ v.take k) := ⟨v.take k, v.drop k, (List.take_append_drop k v).symm, rfl⟩
/-- an alignment of turns of both is one of u and a turn -/
theorem cut {u u' v v' : List α} {c : Nat} (hu : Turn u u') (hv : Turn v v') (h : A u' v' c) : ∃ w, Turn v w ∧ A u w c := by
  obtain ⟨x, y, rfl, rfl⟩ := hu
  obtain ⟨w1, w2, c1, c2, rfl, h1, h2, rfl⟩ := h.split y x rfl
  exact ⟨w2 ++ w1, hv.trans ⟨w1, w2, rfl, rfl⟩, (h2.append h1).cast rfl rfl (Nat.add_comm _ _)⟩
/-! ### the window that is just as long -/
theorem window (N : Nat) : ∀ {u w w' : List α} {c c' k b : Nat}, u.length + w.length + w'.length ≤ N → A u w c → A u w' c' → w.length + k ≤ b → b ≤ w'.length + k →
    ∃ p q s t s' t' c1 c2 c3 c4, u = p ++ q ∧ w = s ++ t ∧ w' = s' ++ t' ∧ A p s c1 ∧ A q t c2 ∧ A p s' c3 ∧ A q t' c4 ∧ c = c1 + c2 ∧ c' = c3 + c4 ∧ t.length + (k + s'.length) = b := by
  induction N with
  | zero =>
    intro u w w' c c' k b hN h h' l1 l2
    have e1 : u = [] := List.eq_nil_of_length_eq_zero (by omega)
    have e2 : w = [] := List.eq_nil_of_length_eq_zero (by omega)
    have e3 : w' = [] := List.eq_nil_of_length_eq_zero (by omega)
    subst e1 e2 e3
    exact ⟨[], [], [], [], [], [], 0, c, 0, c', rfl, rfl, rfl, .nil, h, .nil, h', (Nat.zero_add _).symm, (Nat.zero_add _).symm, by simp at *; omega⟩
  | succ N ih =>
    intro u w w' c c' k b hN h h' l1 l2
    by_cases e : w.length + k = b
    · exact ⟨[], u, [], w, [], w', 0, c, 0, c', rfl, rfl, rfl, .nil, h, .nil, h', (Nat.zero_add _).symm, (Nat.zero_add _).symm, by simp; omega⟩
    · -- a letter more of the second
      have main : ∀ {a : α} {u w1 w1' pw pw' : List α} {c1 c1' pc pc' : Nat}, A u w1 c1 → A u w1' c1' → (∀ {p s d}, A p s d → A (a :: p) (pw ++ s) (pc + d)) → (∀ {p s d}, A p s d → A (a :: p) (pw' ++ s) (pc' + d)) → pw.length ≤ 1 → pw'.length ≤ 1 →
          (u.length + 1) + (pw ++ w1).length + (pw' ++ w1').length ≤ N + 1 → (pw ++ w1).length + k ≤ b → b ≤ (pw' ++ w1').length + k → ¬ (pw ++ w1).length + k = b →
          ∃ p q s t s' t' d1 d2 d3 d4, a :: u = p ++ q ∧ pw ++ w1 = s ++ t ∧ pw' ++ w1' = s' ++ t' ∧ A p s d1 ∧ A q t d2 ∧ A p s' d3 ∧ A q t' d4 ∧ pc + c1 = d1 + d2 ∧ pc' + c1' = d3 + d4 ∧ t.length + (k + s'.length) = b := by
        intro a u w1 w1' pw pw' c1 c1' pc pc' g g' f f' n1 n2 hN l1 l2 e
        rw [List.length_append] at hN l1 l2 e
        rw [List.length_append] at hN
        obtain ⟨p, q, s, t, s', t', d1, d2, d3, d4, rfl, rfl, rfl, a1, a2, a3, a4, e1, e2, e3⟩ := ih (k := k + pw'.length) (b := b) (by omega) g g' (by omega) (by omega)
        exact ⟨a :: p, q, pw ++ s, t, pw' ++ s', t', pc + d1, d2, pc' + d3, d4, rfl, by simp, by simp, f a1, a2, f' a3, a4, by omega, by omega, by rw [List.length_append]; omega⟩
      cases h' with
      | nil =>
        have := h.nilLeft
        simp at l2
        omega
      | @add b' _ w'' c'' g' =>
        simp only [List.length_cons] at hN l2
        obtain ⟨p, q, s, t, s', t', d1, d2, d3, d4, rfl, rfl, rfl, a1, a2, a3, a4, e1, e2, e3⟩ := ih (k := k + 1) (b := b) (by omega) h g' (by omega) (by omega)
        exact ⟨p, q, s, t, b' :: s', t', d1, d2, d3 + 1, d4, rfl, rfl, rfl, a1, a2, .add a3, a4, e1, by omega, by simp only [List.length_cons]; omega⟩
      | @keep a u w1' c1' g' =>
        cases h with
        | @add b' _ w1 c1 g =>
          simp only [List.length_cons] at hN l1 l2 e
          obtain ⟨p, q, s, t, s', t', d1, d2, d3, d4, e0, rfl, e00, a1, a2, a3, a4, e1, e2, e3⟩ := ih (k := k) (b := b) (by simp only [List.length_cons]; omega) g (A.keep g') (by omega) (by simp only [List.length_cons]; omega)
          exact ⟨p, q, b' :: s, t, s', t', d1 + 1, d2, d3, d4, e0, rfl, e00, .add a1, a2, a3, a4, by omega, e2, e3⟩
        | @keep _ _ w1 c1 g => simpa using main (pw := [a]) (pw' := [a]) (pc := 0) (pc' := 0) g g' (fun z => (A.keep z).cast rfl rfl (by omega)) (fun z => (A.keep z).cast rfl rfl (by omega)) (by simp) (by simp) (by simpa using hN) (by simpa using l1) (by simpa using l2) (by simpa using e)
        | @swap _ x _ w1 c1 g => simpa [Nat.add_comm] using main (pw := [x]) (pw' := [a]) (pc := 1) (pc' := 0) g g' (fun z => (A.swap z).cast rfl rfl (by omega)) (fun z => (A.keep z).cast rfl rfl (by omega)) (by simp) (by simp) (by simpa using hN) (by simpa using l1) (by simpa using l2) (by simpa using e)
        | @drop _ _ _ c1 g => simpa [Nat.add_comm] using main (pw := []) (pw' := [a]) (pc := 1) (pc' := 0) g g' (fun z => (A.drop z).cast rfl rfl (by omega)) (fun z => (A.keep z).cast rfl rfl (by omega)) (by simp) (by simp) (by simpa using hN) (by simpa using l1) (by simpa using l2) (by simpa using e)
      | @swap a y u w1' c1' g' =>
        cases h with
        | @add b' _ w1 c1 g =>
          simp only [List.length_cons] at hN l1 l2 e
          obtain ⟨p, q, s, t, s', t', d1, d2, d3, d4, e0, rfl, e00, a1, a2, a3, a4, e1, e2, e3⟩ := ih (k := k) (b := b) (by simp only [List.length_cons]; omega) g (A.swap (b := y) g') (by omega) (by simp only [List.length_cons]; omega)
          exact ⟨p, q, b' :: s, t, s', t', d1 + 1, d2, d3, d4, e0, rfl, e00, .add a1, a2, a3, a4, by omega, e2, e3⟩
        | @keep _ _ w1 c1 g => simpa [Nat.add_comm] using main (pw := [a]) (pw' := [y]) (pc := 0) (pc' := 1) g g' (fun z => (A.keep z).cast rfl rfl (by omega)) (fun z => (A.swap z).cast rfl rfl (by omega)) (by simp) (by simp) (by simpa using hN) (by simpa using l1) (by simpa using l2) (by simpa using e)
        | @swap _ x _ w1 c1 g => simpa [Nat.add_comm] using main (pw := [x]) (pw' := [y]) (pc := 1) (pc' := 1) g g' (fun z => (A.swap z).cast rfl rfl (by omega)) (fun z => (A.swap z).cast rfl rfl (by omega)) (by simp) (by simp) (by simpa using hN) (by simpa using l1) (by simpa using l2) (by simpa using e)
        | @drop _ _ _ c1 g => simpa [Nat.add_comm] using main (pw := []) (pw' := [y]) (pc := 1) (pc' := 1) g g' (fun z => (A.drop z).cast rfl rfl (by omega)) (fun z => (A.swap z).cast rfl rfl (by omega)) (by simp) (by simp) (by simpa using hN) (by simpa using l1) (by simpa using l2) (by simpa using e)
      | @drop a u _ c1' g' =>
        cases h with
        | @add b' _ w1 c1 g =>
          simp only [List.length_cons] at hN l1 l2 e
          obtain ⟨p, q, s, t, s', t', d1, d2, d3, d4, e0, rfl, e00, a1, a2, a3, a4, e1, e2, e3⟩ := ih (k := k) (b := b) (by simp only [List.length_cons]; omega) g (A.drop g') (by omega) (by omega)
          exact ⟨p, q, b' :: s, t, s', t', d1 + 1, d2, d3, d4, e0, rfl, e00, .add a1, a2, a3, a4, by omega, e2, e3⟩
        | @keep _ _ w1 c1 g => simpa [Nat.add_comm] using main (pw := [a]) (pw' := []) (pc := 0) (pc' := 1) g g' (fun z => (A.keep z).cast rfl rfl (by omega)) (fun z => (A.drop z).cast rfl rfl (by omega)) (by simp) (by simp) (by simpa using hN) (by simpa using l1) (by simpa using l2) (by simpa using e)
        | @swap _ x _ w1 c1 g => simpa [Nat.add_comm] using main (pw := [x]) (pw' := []) (pc := 1) (pc' := 1) g g' (fun z => (A.swap z).cast rfl rfl (by omega)) (fun z => (A.drop z).cast rfl rfl (by omega)) (by simp) (by simp) (by simpa using hN) (by simpa using l1) (by simpa using l2) (by simpa using e)
        | @drop _ _ _ c1 g => simpa [Nat.add_comm] using main (pw := []) (pw' := []) (pc := 1) (pc' := 1) g g' (fun z => (A.drop z).cast rfl rfl (by omega)) (fun z => (A.drop z).cast rfl rfl (by omega)) (by simp) (by simp) (by simpa using hN) (by simpa using l1) (by simpa using l2) (by simpa using e)
/-! ### rounds -/
def rounds : Nat → List α → List α
  | 0, _ => []
  | n + 1, v => v ++ rounds n v
theorem rounds_len (n : Nat) (v : List α) : (rounds n v).length = n * v.length := by
  induction n with
  | zero => simp [rounds]
  | succ n ih => simp [rounds, ih, Nat.succ_mul]; omega
theorem rounds_get (n : Nat) (v : List α) {i : Nat} (h : i < n * v.length) : (rounds n v)[i]? = v[i % v.length]? := by
  induction n generalizing i with
  | zero => omega
  | succ n ih =>
    show (v ++ rounds n v)[i]? = _
    rw [Nat.succ_mul] at h
    rcases Nat.lt_or_ge i v.length with q | q
    · rw [List.getElem?_append_left q, Nat.mod_eq_of_lt q]
    · rw [List.getElem?_append_right q, ih (by omega)]
      congr 1
      conv => rhs; rw [← Nat.sub_add_cancel q, Nat.add_mod_right]
/-- a piece of rounds that is as long as the text is a turn of it; the rest are rounds -/
theorem piece {n : Nat} {v x y z : List α} (h : rounds (n + 1) v = x ++ y ++ z) (hy : y.length = v.length) : Turn v y ∧ x ++ z = rounds n v := by
  by_cases hv : v.length = 0
  · have e1 : v = [] := List.eq_nil_of_length_eq_zero hv
    subst e1
    have hz : ∀ n, rounds n ([] : List α) = [] := fun n => List.eq_nil_of_length_eq_zero (by rw [rounds_len]; simp)
    rw [hz] at h
    have h' := congrArg List.length h
    simp only [List.length_nil, List.length_append] at h'
    have e2 : x = [] := List.eq_nil_of_length_eq_zero (by omega)
    have e3 : y = [] := List.eq_nil_of_length_eq_zero (by omega)
    have e4 : z = [] := List.eq_nil_of_length_eq_zero (by omega)
    subst e2 e3 e4
    exact ⟨Turn.refl _, (hz n).symm⟩
  have pos : 0 < v.length := Nat.pos_of_ne_zero hv
  have hl := congrArg List.length h
  rw [rounds_len, List.length_append, List.length_append, Nat.succ_mul] at hl
  have G : ∀ i, i < (n + 1) * v.length → (x ++ y ++ z)[i]? = v[i % v.length]? := fun i hi => by rw [← h]; exact rounds_get (n + 1) v hi
  rw [Nat.succ_mul] at G
  constructor
  · have e : y = v.drop (x.length % v.length) ++ v.take (x.length % v.length) := by
      have lt := Nat.mod_lt x.length pos
      apply List.ext_getElem?
      intro i
      rcases Nat.lt_or_ge i y.length with q | q
      · have g := G (x.length + i) (by omega)
        rw [List.append_assoc, List.getElem?_append_right (by omega), Nat.add_sub_cancel_left, List.getElem?_append_left q] at g
        rw [g]
        rcases Nat.lt_or_ge i (v.length - x.length % v.length) with q2 | q2
        · rw [List.getElem?_append_left (by rw [List.length_drop]; exact q2), List.getElem?_drop]
          congr 1
          rw [Nat.add_mod, Nat.mod_eq_of_lt (show i < v.length by omega), Nat.mod_eq_of_lt (by omega)]
        · rw [List.getElem?_append_right (by rw [List.length_drop]; exact q2), List.length_drop, List.getElem?_take, if_pos (by omega)]
          congr 1
          rw [Nat.add_mod, Nat.mod_eq_of_lt (show i < v.length by omega), Nat.mod_eq_sub_mod (by omega), Nat.mod_eq_of_lt (by omega)]
          omega
      · rw [List.getElem?_eq_none q, List.getElem?_eq_none (by simp only [List.length_append, List.length_drop, List.length_take]; omega)]
    rw [e]
    exact Turn.at v _
  · apply List.ext_getElem?
    intro i
    rcases Nat.lt_or_ge i (n * v.length) with q | q
    · rw [rounds_get n v q]
      rcases Nat.lt_or_ge i x.length with q2 | q2
      · rw [List.getElem?_append_left q2]
        have g := G i (by omega)
        rw [List.append_assoc, List.getElem?_append_left q2] at g
        exact g
      · rw [List.getElem?_append_right q2]
        have g := G (i + v.length) (by omega)
        rw [List.getElem?_append_right (by rw [List.length_append]; omega), List.length_append, Nat.add_mod_right] at g
        rw [← g]
        congr 1
        omega
    · rw [List.getElem?_eq_none (by rw [List.length_append]; omega), List.getElem?_eq_none (by rw [rounds_len]; omega)]
/-- the parts of a text that go with each round of u -/
inductive Blocks (u : List α) : Nat → List α → Nat → Prop where
  | nil : Blocks u 0 [] 0
  | cons {n w v c d} : A u w c → Blocks u n v d → Blocks u (n + 1) (w ++ v) (c + d)
theorem blocks_of {u : List α} : ∀ {n : Nat} {v : List α} {c : Nat}, A (rounds (n + 1) u) v c → Blocks u (n + 1) v c
  | 0, v, c, h => by
    have h' : A u v c := h.cast (List.append_nil u) rfl rfl
    have := Blocks.cons h' .nil
    rw [List.append_nil] at this
    exact this
  | n + 1, v, c, h => by
    obtain ⟨v1, v2, c1, c2, rfl, h1, h2, rfl⟩ := h.split u (rounds (n + 1) u) rfl
    exact .cons h1 (blocks_of h2)
def Gone (u : List α) (b n : Nat) (V : List α) (c : Nat) : Prop :=
  ∃ x y z c1 c2 u', V = x ++ y ++ z ∧ y.length = b ∧ Blocks u n (x ++ z) c1 ∧ Turn u u' ∧ A u' y c2 ∧ c = c1 + c2
theorem tri {u : List α} {b : Nat} : ∀ {n : Nat} {V : List α} {c : Nat}, Blocks u (n + 1) V c →
    (∃ w V' c1 d, V = w ++ V' ∧ A u w c1 ∧ Blocks u n V' d ∧ c = c1 + d ∧ w.length < b ∧ V.length < (n + 1) * b) ∨
    (∃ w V' c1 d, V = w ++ V' ∧ A u w c1 ∧ Blocks u n V' d ∧ c = c1 + d ∧ b < w.length ∧ (n + 1) * b < V.length) ∨ Gone u b n V c := by
  intro n
  induction n with
  | zero =>
    intro V c h
    cases h with
    | @cons _ w V' c d h1 h2 =>
      cases h2
      rcases Nat.lt_trichotomy w.length b with q | q | q
      · exact .inl ⟨w, [], c, 0, rfl, h1, .nil, rfl, q, by simp; exact q⟩
      · exact .inr (.inr ⟨[], w, [], 0, c, u, by simp, q, .nil, Turn.refl u, h1, by omega⟩)
      · exact .inr (.inl ⟨w, [], c, 0, rfl, h1, .nil, rfl, q, by simp; exact q⟩)
  | succ n ih =>
    intro V c h
    cases h with
    | @cons _ w V' c d h1 h2 =>
      have em : (n + 1 + 1) * b = (n + 1) * b + b := Nat.succ_mul _ _
      rcases ih h2 with ⟨w', V'', c', d', rfl, g1, g2, rfl, l1, l2⟩ | ⟨w', V'', c', d', rfl, g1, g2, rfl, l1, l2⟩ | ⟨x, y, z, d1, d2, u', rfl, hy, g1, g2, g3, rfl⟩
      · rcases Nat.lt_trichotomy w.length b with q | q | q
        · exact .inl ⟨w, _, c, _, rfl, h1, h2, rfl, q, by rw [List.length_append]; omega⟩
        · exact .inr (.inr ⟨[], w, _, _, c, u, by simp, q, h2, Turn.refl u, h1, by omega⟩)
        · -- longer, then shorter
          obtain ⟨p, q', s, t, s', t', k1, k2, k3, k4, rfl, rfl, rfl, a1, a2, a3, a4, rfl, rfl, e⟩ := window _ (k := 0) (b := w.length + w'.length - b) (Nat.le_refl _) g1 h1 (by omega) (by omega)
          simp only [List.length_append] at e q l1
          refine .inr (.inr ⟨s', t' ++ s, t ++ V'', (k3 + k2) + d', k4 + k1, q' ++ p, by simp, by rw [List.length_append]; omega, ?_, ⟨p, q', rfl, rfl⟩, a4.append a1, by omega⟩)
          have := Blocks.cons (a3.append a2) g2
          rw [List.append_assoc] at this
          exact this
      · rcases Nat.lt_trichotomy w.length b with q | q | q
        · obtain ⟨p, q', s, t, s', t', k1, k2, k3, k4, rfl, rfl, rfl, a1, a2, a3, a4, rfl, rfl, e⟩ := window _ (k := 0) (b := b) (Nat.le_refl _) h1 g1 (by omega) (by omega)
          refine .inr (.inr ⟨s, t ++ s', t' ++ V'', (k1 + k4) + d', k2 + k3, q' ++ p, by simp, by rw [List.length_append]; omega, ?_, ⟨p, q', rfl, rfl⟩, a2.append a3, by omega⟩)
          have := Blocks.cons (a1.append a4) g2
          rw [List.append_assoc] at this
          exact this
        · exact .inr (.inr ⟨[], w, _, _, c, u, by simp, q, h2, Turn.refl u, h1, by omega⟩)
        · exact .inr (.inl ⟨w, _, c, _, rfl, h1, h2, rfl, q, by rw [List.length_append]; omega⟩)
      · refine .inr (.inr ⟨w ++ x, y, z, c + d1, d2, u', by simp, hy, ?_, g2, g3, by omega⟩)
        rw [List.append_assoc]
        exact .cons h1 g1
/-- rounds are at least as far apart as so many turns -/
theorem rounds_ge {u v : List α} {r : Nat} (hr : ∀ w c, Turn v w → A u w c → r ≤ c) : ∀ {n : Nat} {c : Nat}, Blocks u (n + 1) (rounds (n + 1) v) c → (n + 1) * r ≤ c := by
  intro n
  induction n with
  | zero =>
    intro c h
    rw [show rounds 1 v = v from List.append_nil v] at h
    generalize e : v = V at h
    cases h with
    | @cons _ w V' c d h1 h2 =>
      cases h2
      rw [List.append_nil] at e
      subst e
      have := hr v c (Turn.refl v) h1
      omega
  | succ n ih =>
    intro c h
    have hl := rounds_len (n + 1 + 1) v
    rcases tri (b := v.length) h with ⟨w, V', c', d', e, g1, g2, _, l1, l2⟩ | ⟨w, V', c', d', e, g1, g2, _, l1, l2⟩ | ⟨x, y, z, d1, d2, u', e, hy, g1, g2, g3, rfl⟩
    · rw [hl] at l2; exact absurd l2 (Nat.lt_irrefl _)
    · rw [hl] at l2; exact absurd l2 (Nat.lt_irrefl _)
    · obtain ⟨ht, hz⟩ := piece e hy
      rw [hz] at g1
      have k1 := ih g1
      obtain ⟨w, tw, aw⟩ := cut g2 ht g3
      have k2 := hr w d2 tw aw
      rw [Nat.succ_mul]
      omega
theorem rounds_A {u w : List α} {c : Nat} (h : A u w c) : ∀ n, A (rounds n u) (rounds n w) (n * c)
  | 0 => (A.nil).cast rfl rfl (by omega)
  | n + 1 => (h.append (rounds_A h n)).cast rfl rfl (by rw [Nat.succ_mul]; omega)
theorem rounds_turn (x y : List α) : ∀ n, rounds (n + 1) (x ++ y) = x ++ rounds n (y ++ x) ++ y
  | 0 => by simp [rounds]
  | n + 1 => by
    show (x ++ y) ++ rounds (n + 1) (x ++ y) = x ++ ((y ++ x) ++ rounds n (y ++ x)) ++ y
    rw [rounds_turn x y n]
    simp
theorem rounds_last (u : List α) : ∀ n, rounds (n + 1) u = rounds n u ++ u
  | 0 => by simp [rounds]
  | n + 1 => by
    show u ++ rounds (n + 1) u = (u ++ rounds n u) ++ u
    rw [rounds_last u n]; simp
theorem rounds_le {u v w : List α} {c : Nat} (ht : Turn v w) (h : A u w c) (n : Nat) : ∃ d, A (rounds (n + 1) u) (rounds (n + 1) v) d ∧ d ≤ n * c + u.length + v.length := by
  obtain ⟨x, y, rfl, rfl⟩ := ht
  refine ⟨_, (((A.adds x).append (rounds_A h n)).append ((A.drops u).append (A.adds y))).cast (by simp [rounds_last]) (by rw [rounds_turn]; simp) rfl, ?_⟩
  simp only [List.length_append]; omega
/-! ### the price of rounds -/
variable [DecidableEq α]
/-- the least of the distances of u and the turns of v -/
def Rp (u v : List α) (r : Nat) : Prop := (∃ w, Turn v w ∧ D u w = r) ∧ ∀ w, Turn v w → r ≤ D u w
theorem Rp.uniq {u v : List α} {r r' : Nat} (h : Rp u v r) (h' : Rp u v r') : r = r' := by
  obtain ⟨⟨w, t, e⟩, k⟩ := h
  obtain ⟨⟨w', t', e'⟩, k'⟩ := h'
  have := k w' t'
  have := k' w t
  omega
theorem Rp.turns {u u' v v' : List α} {r : Nat} (h : Rp u v r) (hu : Turn u u') (hv : Turn v v') : Rp u' v' r := by
  obtain ⟨⟨w, t, e⟩, k⟩ := h
  have low : ∀ w', Turn v' w' → r ≤ D u' w' := fun w' t' => by
    obtain ⟨w2, t2, a2⟩ := cut hu (hv.trans t') (D_A u' w')
    exact Nat.le_trans (k w2 t2) (D_le a2)
  obtain ⟨w2, t2, a2⟩ := cut (v := v') hu.symm (hv.symm.trans t) (D_A u w)
  have := D_le a2
  have := low w2 t2
  exact ⟨⟨w2, t2, by omega⟩, low⟩
theorem Rp.symm {u v : List α} {r : Nat} (h : Rp u v r) : Rp v u r := by
  obtain ⟨⟨w, t, e⟩, k⟩ := h
  have low : ∀ w', Turn u w' → r ≤ D v w' := fun w' t' => by
    obtain ⟨w2, t2, a2⟩ := cut t' (Turn.refl v) (D_A v w').symm
    exact Nat.le_trans (k w2 t2) (D_le a2)
  obtain ⟨w2, t2, a2⟩ := cut (v := u) t (Turn.refl u) (D_A u w).symm
  have := D_le a2
  have := low w2 t2
  exact ⟨⟨w2, t2, by omega⟩, low⟩
theorem Rp.self {u w : List α} (h : Turn u w) : Rp u w 0 := ⟨⟨u, h.symm, D_self u⟩, fun _ _ => Nat.zero_le _⟩
theorem Rp.ge {u v : List α} {r : Nat} (h : Rp u v r) (n : Nat) : (n + 1) * r ≤ D (rounds (n + 1) u) (rounds (n + 1) v) :=
  rounds_ge (fun w c t a => Nat.le_trans (h.2 w t) (D_le a)) (blocks_of (D_A _ _))
theorem Rp.le {u v : List α} {r : Nat} (h : Rp u v r) (n : Nat) : D (rounds (n + 1) u) (rounds (n + 1) v) ≤ n * r + u.length + v.length := by
  obtain ⟨⟨w, t, rfl⟩, _⟩ := h
  obtain ⟨d, a, hd⟩ := rounds_le t (D_A u w) n
  exact Nat.le_trans (D_le a) hd
/-- the turns by their places -/
theorem turn_at {v w : List α} (h : Turn v w) : ∃ k, k < max 1 v.length ∧ w = v.drop k ++ v.take k := by
  obtain ⟨x, y, rfl, rfl⟩ := h
  by_cases e : y = []
  · subst e
    exact ⟨0, by omega, by simp⟩
  · have : 0 < y.length := List.length_pos_iff.mpr e
    exact ⟨x.length, by rw [List.length_append]; omega, by simp⟩
end
end Lev

set_option Elab.async false
set_option linter.all false
set_option maxRecDepth 100000
set_option maxHeartbeats 2000000
/-! An own error class over another own class over Exception, whose __init__ keeps its one argument: raised, caught, its attribute read. -/
namespace ErrX
open PySem PySem.W PySem.Calls PyProof.Rows PySem.HandSPX Builtin Builtin.ObjectAttr
abbrev tailE : List Value := [.type "Exception", .type "BaseException", .type "object"]
/-! ### the text of such an __init__ -/
def iA (p1 p2 : Pos) : Arguments := { posonlyargs := [], args := [{ arg := "self", annotation := none, pos := p1 }, { arg := "given", annotation := none, pos := p2 }], vararg := none, kwonlyargs := [], kw_defaults := [], kwarg := none, defaults := [] }
def iB (q1 q2 q3 q4 : Pos) : List Stmt := [.Assign [.Attribute (.Name "self" q1) "given" q2] (.Name "given" q3) q4]
def iS : Scope := { kind := .function, names := [(PySem.Str.ofString "self", .local), (PySem.Str.ofString "given", .local)], isGenerator := false, isCoroutine := false, more := [] }
/-- what the written part says of the class cn, at C, and of its __init__, at fI -/
structure ETxt (K : Frag) (mg : Str → Option Value) (cn qi : Str) (C fI : Addr) : Prop where
  gC : mg cn = some (.ref C)
  cls : ∃ nm q N bs bm sn sub ab col dd k0 k1 k2 k3 k5, K.lookup C = some (excClassObj nm q C N bs bm true sn sub ab col dd k0 k1 k2 k3 k5 "Exception.__new__") ∧ excTail tailE bm = true
  ov : excOver K C tailE = true
  tk : takerIn K C "given" = some none
  sa : findIn K (.ref C) "__setattr__" = some (some (.builtin "object.__setattr__"))
  ga : findIn K (.ref C) "__getattribute__" = some (some (.builtin "BaseException.__getattribute__"))
  gg : findIn K (.ref C) "__getattr__" = some none
  noN : findIn K (.ref C) "given" = some none
  iC : findIn K (.ref C) "__init__" = some (some (.ref fI))
  tC : typeIn K (.ref fI) = some (.type "function")
  kC : keepIn K (.ref C) = true
  exC : subIn K (.ref C) (.type "BaseException") = some true
  tyC : typeIn K (.ref C) = some (.type "type")
  hdC : hasDictIn K C = true
  fn : ∃ (oc : Value) (od : Option Addr) (doc pm : Value) (an : Option Addr) (cdv ct : Value) (osl : Array (Option Value)) (p1 p2 q1 q2 q3 q4 : Pos),
    K.lookup fI = some ⟨oc, od, .func (fnOf "__init__" qi (iA p1 p2) (iB q1 q2 q3 q4) iS .none .none doc pm an cdv ct), osl⟩ ∧ codeIn K cdv qi = true
theorem one_fits (v : Value) : [v].length ≤ sizeLine := by
  rw [sizeLine_eq]
  exact (by decide : 1 ≤ 16777216)
/-- what __init__ leaves of a fresh error at x -/
structure EndE (h h' : Heap) (x C dx t1 : Addr) (fl : Str) (v : Value) : Prop where
  keep : ∀ b o, b ≠ x → h.get? b = some o → h'.get? b = some o
  obj : h'.get? x = some (excObj C t1 (some dx) .none)
  dbig : h.objs.size ≤ dx
  dne : dx ≠ x
  ns : h'.Ns1 dx (fun y => if y = fl then some v else none)
structure MadeE (h h' : Heap) (e C d : Addr) (fl : Str) (v : Value) : Prop where
  keep : ∀ b o, h.get? b = some o → h'.get? b = some o
  new : h.objs.size ≤ e
  obj : ∃ t, h'.get? e = some (excObj C t (some d) .none)
  dbig : h.objs.size ≤ d
  dne : d ≠ e
  ns : h'.Ns1 d (fun y => if y = fl then some v else none)
section
variable {prog : Program} {w : World} {A : Around} {E : Value → Shared → Prop} {R : Result → Shared → Prop} {s : Shared} {K : Frag} {mg : Str → Option Value} {C fI : Addr} {cn qi : Str}
/-- the first store into a fresh error -/
theorem store_new {name : Str} {tk : Tok} {v : Value} {x t0 : Addr} (X : K.In s.heap) (hx : s.heap.get? x = some (excObj C t0 none .none)) (ho : excOver K C tailE = true) (ht : takerIn K C name = some none) (hh : hasDictIn K C = true)
    (hq : ∀ h' tk' dx, EndE s.heap h' x C dx t0 name v → R (.ok (.ret .none)) { s with heap := h', toks := tk' }) :
    codeAny (model prog w) A (.call (.builtin "object.__setattr__") ⟨[.ref x, .str name tk, v], []⟩) R s := by
  refine osa_openX (od := none) F.store_Exception X ⟨hx, rfl, rfl, trivial⟩ ho ht fun b => ?_
  obtain ⟨cd, hc, hd'⟩ := any_some hh
  have hxs : x ≠ s.heap.objs.size := Nat.ne_of_lt (Heap.lt_size hx)
  have hx1 : (s.heap.push { cls := .type "dict", data := .dict #[] }).get? x = some (excObj C t0 none .none) := Heap.get?_push_of_some _ hx
  refine wpAny_bind (wpAny_pure (wpAny_bind (instanceDict_exc hx (looks_clsIn X hc) hd' ?_)))
  show wpAny _ _ (storeInDict s.heap.objs.size (.str name tk) name v) _ _ _
  obtain ⟨hp, g, dr, t, os⟩ := s
  refine store_in_new ?_ ?_
  · exact ⟨_, #[], _, (Heap.get?_update_ne _ _ _ _ hxs.symm).trans (Heap.get?_push_at rfl rfl), rfl, fun e he => absurd he (by simp), fun _ => rfl⟩
  · intro h' tk' hn' hs
    refine hq h' tk' hp.objs.size ⟨fun b o hb ho => ?_, ?_, Nat.le_refl _, hxs.symm, hn'⟩
    · exact (hs.2 b (Nat.ne_of_lt (Heap.lt_size ho))).trans ((Heap.get?_update_ne _ _ _ _ hb).trans (Heap.get?_push_of_some _ ho))
    · exact (hs.2 x hxs).trans (Heap.get?_update_self _ hx1 rfl)
theorem ldC {M : Model} {s : Shared} {name : Str} {scope : Scope} {L a : Addr} {cd : Value} {m : Str → Option Value} {x : Str} {pos : Pos} {v : Value} {Q : Value → Shared → Prop} {A : Around} {E : Value → Shared → Prop} (hn : s.heap.Ns L m) (hv : m x = some v) (h : Q v s)
    (hk : scope.kind = .function := by rfl) (hl : (envOfC name scope L a cd).kindOf x = some .local := by rfl) (hd : (x == ("__debug__" : Str)) = false := by decide) :
    wpAny M A (eval (.Name x pos) (envOfC name scope L a cd)) Q E s := wpAny_Name (wpAny_loadName_local hk hl hn hv h) hd
theorem init_ok (T : ETxt K mg cn qi C fI) {x t0 : Addr} {v : Value} (X : K.In s.heap) (hlim : s.heap.NoLimit) (hx : s.heap.get? x = some (excObj C t0 none .none)) (hroom : A.depth < recursionLimit)
    (hq : ∀ h' tk dx, EndE s.heap h' x C dx t0 "given" v → R (.ok (.ret .none)) { s with heap := h', toks := tk }) :
    codeAny (model prog w) A (.call (.ref fI) ⟨[.ref x, v], []⟩) R s := by
  obtain ⟨oc, od, doc, pm, an, cdv, ct, osl, p1, p2, q1, q2, q3, q4, ho, hcd⟩ := T.fn
  refine Att.call_fn (binds := [("self", .ref x), ("given", v)]) X hlim ho hcd hroom (BindsTo.of_eq (by first | rfl | with_unfolding_all rfl)) (by first | rfl | decide | with_unfolding_all rfl) (fun s1 IC => ?_) rfl rfl rfl
  obtain ⟨h1, tk1, rfl⟩ := IC.toInCall.same
  have k : ∀ b o, s.heap.get? b = some o → h1.get? b = some o := IC.toInCall.keep
  have hn := IC.toInCall.ns
  have X1 : K.In h1 := X.keeps k
  have hx1 := k _ _ hx
  show wpAny _ _ (execs _ _) _ _ _
  refine wpAny_execs_cons (plainObj_wpAny_Assign_Attribute ?_)
  refine ldC (v := v) hn (by first | rfl | with_unfolding_all rfl | kernel_rfl) (ldC (v := .ref x) hn (by first | rfl | with_unfolding_all rfl | kernel_rfl) ?_)
  refine set_plain X1 (ox := excObj C t0 none .none) (od := none) ⟨hx1, rfl, rfl, trivial⟩ T.sa ?_
  refine store_new X1 hx1 T.ov T.tk T.hdC fun h3 tk3 dx M => ?_
  show wpAny _ _ (execs _ _) _ _ _
  have z : s.heap.objs.size < h1.objs.size := hn.lt
  exact wpAny_execs_nil (hq h3 tk3 dx ⟨fun b o hb e => M.keep b o hb (k b o e), M.obj, Nat.le_of_lt (Nat.lt_of_lt_of_le z M.dbig), M.dne, M.ns⟩)
theorem made_ok (T : ETxt K mg cn qi C fI) {v : Value} (X : K.In s.heap) (hlim : s.heap.NoLimit) (hroom : A.depth + 1 < recursionLimit)
    (hq : ∀ h' tk e d, MadeE s.heap h' e C d "given" v → R (.ok (.ret (.ref e))) { s with heap := h', toks := tk }) :
    codeAny (model prog w) A (.call (.ref C) ⟨[v], []⟩) R s := by
  obtain ⟨nm, q, N, bs, bm, sn, sub, ab, col, dd, k0, k1, k2, k3, k5, hC, hbm⟩ := T.cls
  obtain ⟨hp, g, dr, tk, os⟩ := s
  have k : ∀ b o, hp.get? b = some o → ((hp.push (kdv_tup [v])).push (excO C hp.objs.size)).get? b = some o := fun b o e => Heap.get?_push_of_some _ (Heap.get?_push_of_some _ e)
  have hget : ((hp.push (kdv_tup [v])).push (excO C hp.objs.size)).get? (hp.objs.size + 1) = some (excO C hp.objs.size) := by heap_get
  refine call_own F.excBase_Exception (fun X => excTail_contains X bm hbm) (X _ _ hC) (looks_findIn X T.iC) (fun self => bind_fn X self T.tC) (one_fits v) ?_
  refine init_ok (s := ⟨(hp.push (kdv_tup [v])).push (excO C hp.objs.size), g, dr, tk, os⟩) T (X.keeps k) (hlim.keeps k) hget ?_ fun h' tk' dx M => ?_
  · show A.depth + 1 < recursionLimit
    exact hroom
  · have old : ∀ b o, hp.get? b = some o → h'.get? b = some o := fun b o e => M.keep b o (Nat.ne_of_lt (Nat.lt_succ_of_lt (Heap.lt_size e))) (k b o e)
    have z : hp.objs.size + 1 + 1 ≤ dx := by
      have q := M.dbig
      first
        | exact q
        | (rw [Heap.size_push, Heap.size_push] at q; exact q)
        | (simpa only [Heap.size_push] using q)
    exact ⟨rfl, hq h' tk' (hp.objs.size + 1) dx ⟨old, Nat.le_succ _, ⟨_, M.obj⟩, Nat.le_trans (Nat.le_trans (Nat.le_succ _) (Nat.le_succ _)) z, M.dne, M.ns⟩⟩
end
end ErrX
namespace L2
open PySem PySem.Spec PyProof.Rows
/-- the own dict of an error that keeps v -/
abbrev gvn (v : V) : List (Str × V) := [(("given" : Str), v)]
theorem relO_gvn {v : V} {v' : Value} (r : RelV v v') (f : Str) : RelO (List.lookup f (gvn v)) (if f = "given" then some v' else none) := by
  have e := lookup_put "given" f v []
  show RelO (List.lookup f [(("given" : Str), v)]) _
  rw [e]
  by_cases h : f = "given"
  · rw [if_pos h, if_pos h]; exact r
  · rw [if_neg h, if_neg h]; trivial
section
variable {X : Cx} {C fI : Addr} {cn qi : Str}
/-- C(e) -/
def tMkE (C : Addr) (ta : TA) : St → Hp → XK → Prop := fun σ H Q => ta σ H fun vs H1 => ∃ v, vs = [v] ∧ ∀ d, H1 d = none → Q (.ref C) (some d) (upd H1 d (.xd (gvn v)))
theorem pmk_err {a : Expr} {ta : TA} {p pos : Pos} {k : Nat} (T : ErrX.ETxt X.K X.mg cn qi C fI) (hr : Room k X.A) (ha : PA X [a] ta) (hg : Gl X cn) (hdb : (cn == ("__debug__" : Str)) = false)
    (he : starEach (a :: []) X.env = (false, eval a X.env) :: starEach [] X.env := by rfl) (hpl : (backTo pos (starEach [] X.env)).any (·.1) = false := by rfl) :
    PMk X (.Call (.Name cn p) [a] [] pos) (tMkE C ta) := by
  intro pins s σ H Q I h
  refine wpAny_Call_Name_kw (ld_glob I hg T.gC ?_ hdb)
  refine PySem.W.callWith_K (h₀ := X.base) I.ok.mod.kin T.kC (thn (ha.run pos pins s σ H _ I h) fun us s1 hh => ?_) he hpl
  obtain ⟨vs, H1, I1, r1, v, ev, q1⟩ := hh
  subst ev
  refine ⟨I1.kIn, ?_⟩
  cases r1 with
  | cons rv rn =>
    rename_i v' us'
    cases rn
    show wpAny _ _ (call (.ref C) [v']) _ _ _
    have hlim := I1.nolimit
    obtain ⟨hp, g, dr, tk, os⟩ := s1
    refine wpAny_call (ErrX.made_ok T I1.kIn hlim (by have := hr.dp; omega) fun h' tk' e d M => ?_)
    show MkP X pins σ Q (.ref e) ⟨h', g, dr, tk', os⟩
    obtain ⟨t, hoe⟩ := M.obj
    have hns := M.ns
    obtain ⟨G', g1, g2⟩ := restrict h' fun b => decide (b ≠ e)
    have gk : ∀ b, b ≠ e → G'.get? b = h'.get? b := fun b hb => g1 b (decide_eq_true hb)
    have ge : G'.get? e = none := g2 e (by simp)
    have old : ∀ b o, hp.get? b = some o → G'.get? b = some o := fun b o q => (gk b (Nat.ne_of_lt (Nat.lt_of_lt_of_le (Heap.lt_size q) M.new))).trans (M.keep b o q)
    have ob : ObjOk X.prog X.w (upd H1 d (.xd (gvn v))) G' d (.xd (gvn v)) :=
      ⟨_, hns.at (fun o q => (gk d M.dne).trans q), fun f => relO_gvn rv f⟩
    have J : Inv X pins σ (upd H1 d (.xd (gvn v))) ⟨G', g, dr, tk', os⟩ := I1.laid (t' := tk') old M.dbig ob
    refine ⟨e, _, _, ⟨G', g, dr, tk', os⟩, _, .ref C, some d, rfl, J, fun b o q => ?_, ge, hoe, ⟨rfl, rfl⟩, rfl, rfl, ?_, rfl, I1.bare, raises_own T.exC T.tyC, q1 d (I1.hok.fresh M.dbig)⟩
    · by_cases hb : b = e
      · have q' : G'.get? b = some o := q
        rw [hb, ge] at q'; cases q'
      · exact (gk b hb).symm.trans q
    · rw [upd_ne (Ne.symm M.dne)]
      exact I1.hok.fresh M.new
/-- raise C(e) -/
def tRaiseE (C : Addr) (W : WX) (ta : TA) : TS := fun _ σ H => tMkE C ta σ H fun cls d H' => W cls d σ H'
theorem ps_raiseE {a : Expr} {ta : TA} {W : WX} {p pos pos2 : Pos} {k : Nat} (hc : X.calm = true) (T : ErrX.ETxt X.K X.mg cn qi C fI) (hr : Room k X.A) (tk : Takes X W) (ha : PA X [a] ta) (hg : Gl X cn := by rfl) (hdb : (cn == ("__debug__" : Str)) = false := by decide)
    (he : starEach (a :: []) X.env = (false, eval a X.env) :: starEach [] X.env := by rfl) (hpl : (backTo pos (starEach [] X.env)).any (·.1) = false := by rfl) :
    PS X (.Raise (some (.Call (.Name cn p) [a] [] pos)) none pos2) (tRaiseE C W ta) := ps_raise hc tk (pmk_err T hr ha hg hdb he hpl)
/-- e.given, e the error that the suite holds (at a; its class cls, its dict d) -/
def tGvn (C : Addr) (a : Addr) (cls : Value) (d : Option Addr) (te : TE) : TE := fun σ H Q => te σ H fun x H1 => x = .ref a ∧ cls = .ref C ∧ ∃ (dd : Addr) (v : V), d = some dd ∧ H1 dd = some (.xd (gvn v)) ∧ Q v H1
theorem pe_gvn {a : Addr} {oe : Obj} {cls : Value} {d : Option Addr} {pn : List (Addr × Obj)} {e : Expr} {te : TE} {pos : Pos} (T : ErrX.ETxt X.K X.mg cn qi C fI) (hz : Zc cls d oe) (hf : ∃ vs, oe.data = .fields vs) (he : PE (X.suite a ((a, oe) :: pn)) e te)
    (hb : attributeBase e "given" X.env (eval e X.env) = eval e X.env := by rfl) :
    PE (X.suite a ((a, oe) :: pn)) (.Attribute e "given" pos) (tGvn C a cls d te) := by
  refine ⟨fun pins s σ H Q I h => ?_⟩
  refine attr_of hb (thn (he.run pins s σ H _ I h) fun u s1 hh => ?_)
  obtain ⟨x, H1, I1, rx, ex, ec, dd, v, ed, ea, q⟩ := hh
  subst ex
  obtain rfl : u = Value.ref a := rx
  subst ec
  subst ed
  obtain ⟨ha, _⟩ := I1.pin (a, oe) (List.mem_append_left _ List.mem_cons_self)
  obtain ⟨vs, hd⟩ := hf
  have hx : ObjOk X.prog X.w H1 s1.heap dd (.xd (gvn v)) := I1.hok dd _ ea
  obtain ⟨mA, hns, hr⟩ := hx
  obtain ⟨od, ho, hl⟩ := lookIn_ns hns
  have l : List.lookup ("given" : Str) (gvn v) = some v := by
    show List.lookup ("given" : Str) [(("given" : Str), v)] = some v
    rw [lookup_put, if_pos rfl]
  obtain ⟨u, hu, ru⟩ := RelO.some_of (v := v) (o := mA "given") (by rw [← l]; exact hr "given")
  have J : PySem.W.InstAt s1.heap a oe C (some od) := ⟨ha, hz.1, by unfold PySem.W.notCls; rw [hd] <;> rfl, by rw [hz.2]; exact ho⟩
  exact HandSPX.exc_get I1.kIn J T.ga T.gg T.exC (PySem.W.findObj_own T.hdC T.noN rfl (by rw [hl, hu])) (handed_of ru) ⟨v, H1, I1.tok _, ru, q⟩
end
end L2

set_option Elab.async false
set_option linter.all false
set_option maxRecDepth 100000
set_option maxHeartbeats 2000000
/-! Further rules over the hand layer: texts by their codes, three numbers' max and min, repr of data. -/
namespace L2
open PySem PySem.Spec PyProof.Rows
/-! ### texts by their codes -/
abbrev cs (x : Str) : List Nat := x.cps.toList
def S (l : List Nat) : Str := ⟨l.toArray⟩
theorem S_tl (l : List Nat) : cs (S l) = l := by simp [S, cs]
theorem S_of (z : Str) : S (cs z) = z := by obtain ⟨⟨l⟩⟩ := z; rfl
theorem S_len (l : List Nat) : (S l).length = l.length := by simp [S, Str.length]
theorem S_inj {l m : List Nat} (h : S l = S m) : l = m := by have := congrArg cs h; rwa [S_tl, S_tl] at this
theorem S_app (l m : List Nat) : S l ++ S m = S (l ++ m) := by
  show (⟨l.toArray ++ m.toArray⟩ : Str) = ⟨(l ++ m).toArray⟩
  simp
theorem S_eqV (l m : List Nat) : decide (V.str (S l) = V.str (S m)) = decide (l = m) := by
  by_cases h : l = m
  · subst h; simp
  · rw [decide_eq_false h, decide_eq_false]
    intro e; exact h (S_inj (V.str.inj e))
theorem sIx_some (n d i : Nat) : HT.sIx n d (some ((i : Nat) : Int)) = min i n := HT.sIx_nat n d i
theorem cut_from (l : List Nat) (i : Nat) : cutS (S l) (some (i : Int)) none = S (l.drop i) := by
  show S (((cs (S l)).drop (HT.sIx (S l).length 0 (some (i : Int)))).take (HT.sIx (S l).length (S l).length none - HT.sIx (S l).length 0 (some (i : Int)))) = _
  rw [S_tl, S_len, sIx_some, HT.sIx_none]
  congr 1
  rcases Nat.le_total i l.length with h | h
  · rw [Nat.min_eq_left h, List.take_of_length_le (by rw [List.length_drop]; omega)]
  · rw [Nat.min_eq_right h, Nat.sub_self, List.take_zero, List.drop_of_length_le h]
theorem cut_to (l : List Nat) (i : Nat) : cutS (S l) none (some (i : Int)) = S (l.take i) := by
  show S (((cs (S l)).drop (HT.sIx (S l).length 0 none)).take (HT.sIx (S l).length (S l).length (some (i : Int)) - HT.sIx (S l).length 0 none)) = _
  rw [S_tl, S_len, sIx_some, HT.sIx_none, List.drop_zero, Nat.sub_zero]
  congr 1
  rcases Nat.le_total i l.length with h | h
  · rw [Nat.min_eq_left h]
  · rw [Nat.min_eq_right h, List.take_of_length_le h, List.take_of_length_le (Nat.le_refl _)]
theorem cut_mid (l : List Nat) (i j : Nat) : cutS (S l) (some (i : Int)) (some (j : Int)) = S ((l.drop i).take (j - i)) := by
  show S (((cs (S l)).drop (HT.sIx (S l).length 0 (some (i : Int)))).take (HT.sIx (S l).length (S l).length (some (j : Int)) - HT.sIx (S l).length 0 (some (i : Int)))) = _
  rw [S_tl, S_len, sIx_some, sIx_some]
  congr 1
  rcases Nat.le_total i l.length with h | h
  · rw [Nat.min_eq_left h]
    rcases Nat.le_total j l.length with h2 | h2
    · rw [Nat.min_eq_left h2]
    · rw [Nat.min_eq_right h2, List.take_of_length_le (by rw [List.length_drop]; omega), List.take_of_length_le (by rw [List.length_drop]; omega)]
  · rw [Nat.min_eq_right h, List.drop_of_length_le h, List.drop_of_length_le (Nat.le_refl _)]
    simp
theorem atI_S {l : List Nat} {i : Nat} {c : Nat} (h : l[i]? = some c) : atI (S l).cps.toList (i : Int) = some c := by
  show atI (cs (S l)) (i : Int) = some c
  rw [S_tl]
  exact atI_nat h
/-! ### what a text is -/
def low (c : Nat) : Bool := decide (97 ≤ c) && decide (c ≤ 122)
theorem ascii_facts : ∀ c : Fin 128, Unicode.isAlpha c.val = (low c.val || (decide (65 ≤ c.val) && decide (c.val ≤ 90))) ∧ Unicode.isLower c.val = low c.val ∧ (Unicode.isUpper c.val || Unicode.isTitle c.val) = (decide (65 ≤ c.val) && decide (c.val ≤ 90)) := by
  decide +kernel
theorem istext_eq (z : Str) : (decide (V.str z = V.str (Str.ofString "")) || (Txt.isascii z && Txt.isalpha z && Txt.islower z)) = (cs z).all low := by
  obtain ⟨⟨l⟩⟩ := z
  have e0 : (V.str (⟨⟨l⟩⟩ : Str) = V.str (Str.ofString "")) ↔ l = [] := by
    constructor
    · intro h
      have h2 := congrArg cs (V.str.inj h)
      exact h2
    · intro h; subst h; rfl
  show (decide _ || ((l.toArray.all (· < 128)) && (decide (l.toArray.size > 0) && l.toArray.all Unicode.isAlpha) && (l.toArray.any Unicode.isLower && !l.toArray.any fun c => Unicode.isUpper c || Unicode.isTitle c))) = l.all low
  have ea : ∀ p : Nat → Bool, (l.toArray).all p = l.all p := fun p => by rw [← Array.all_toList]
  have eb : ∀ p : Nat → Bool, (l.toArray).any p = l.any p := fun p => by rw [← Array.any_toList]
  have ec : (⟨l⟩ : Array Nat) = l.toArray := rfl
  simp only [ea, eb]
  simp only [List.size_toArray]
  clear ea eb ec
  cases l with
  | nil => rw [decide_eq_true (e0.mpr rfl)]; rfl
  | cons a r =>
    rw [decide_eq_false (fun h => by cases e0.mp h), Bool.false_or]
    generalize hl : a :: r = l
    have hne : l ≠ [] := by rw [← hl]; simp
    have F : ∀ c ∈ l, c < 128 → Unicode.isAlpha c = (low c || (decide (65 ≤ c) && decide (c ≤ 90))) ∧ Unicode.isLower c = low c ∧ (Unicode.isUpper c || Unicode.isTitle c) = (decide (65 ≤ c) && decide (c ≤ 90)) := fun c _ hc => ascii_facts ⟨c, hc⟩
    rw [Bool.eq_iff_iff]
    simp only [Bool.and_eq_true, List.all_eq_true, List.any_eq_true, Bool.not_eq_true', List.any_eq_false, decide_eq_true_eq]
    constructor
    · rintro ⟨⟨h1, _, h2⟩, _, h3⟩ c hc
      obtain ⟨f1, f2, f3⟩ := F c hc (h1 c hc)
      have q2 := h2 c hc
      have q3 := h3 c hc
      rw [f1] at q2
      rw [f3] at q3
      simp only [Bool.or_eq_true] at q2
      rcases q2 with q2 | q2
      · exact q2
      · exact absurd q2 q3
    · intro h
      have hb : ∀ c ∈ l, c < 128 := fun c hc => by
        have := h c hc
        unfold low at this
        simp only [Bool.and_eq_true, decide_eq_true_eq] at this
        omega
      refine ⟨⟨hb, by rw [← hl]; simp, fun c hc => ?_⟩, ?_, fun c hc => ?_⟩
      · rw [(F c hc (hb c hc)).1, h c hc, Bool.true_or]
      · obtain ⟨c, hc⟩ := List.exists_mem_of_ne_nil l hne
        exact ⟨c, hc, by rw [(F c hc (hb c hc)).2.1]; exact h c hc⟩
      · rw [(F c hc (hb c hc)).2.2]
        have := h c hc
        unfold low at this
        simp only [Bool.and_eq_true, decide_eq_true_eq] at this
        simp; omega
/-! ### calls -/
theorem nuMax3_int (i j k : Int) : nuMax3 (.int i) (.int j) (.int k) = some (.int (max (max i j) k)) := by
  have h2 : ∀ a b : Int, nuMax2 (.int a) (.int b) = some (.int (max a b)) := fun a b => by
    show Option.map (fun c => if c = true then V.int b else V.int a) (some (decide (a < b))) = some (V.int (max a b))
    by_cases h : a < b
    · rw [decide_eq_true h]; simp; omega
    · rw [decide_eq_false h]; simp; omega
  unfold nuMax3
  rw [h2]
  exact h2 _ _
theorem nuMin3_int (i j k : Int) : nuMin3 (.int i) (.int j) (.int k) = some (.int (min (min i j) k)) := by
  have h2 : ∀ a b : Int, nuMin2 (.int a) (.int b) = some (.int (min a b)) := fun a b => by
    show Option.map (fun c => if c = true then V.int b else V.int a) (some (decide (b < a))) = some (V.int (min a b))
    by_cases h : b < a
    · rw [decide_eq_true h]; simp; omega
    · rw [decide_eq_false h]; simp; omega
  unfold nuMin3
  rw [h2]
  exact h2 _ _
def rMax3 : List V → Hp → VK → Prop := fun xs H Q => ∃ i j k, xs = [.int i, .int j, .int k] ∧ Q (.int (max (max i j) k)) H
def rMin3 : List V → Hp → VK → Prop := fun xs H Q => ∃ i j k, xs = [.int i, .int j, .int k] ∧ Q (.int (min (min i j) k)) H
theorem call_max3 {X : Cx} (hc : X.calm = true) : CallR X (.builtin "max") rMax3 := fun pins s σ H xs us Q I r h => by
  obtain ⟨i, j, k, rfl, q⟩ := h
  exact call_max3Nu hc pins s σ H _ us Q I r ⟨_, _, _, _, rfl, nuMax3_int i j k, q⟩
theorem call_min3 {X : Cx} (hc : X.calm = true) : CallR X (.builtin "min") rMin3 := fun pins s σ H xs us Q I r h => by
  obtain ⟨i, j, k, rfl, q⟩ := h
  exact call_min3Nu hc pins s σ H _ us Q I r ⟨_, _, _, _, rfl, nuMin3_int i j k, q⟩
/-! ### repr of data: Dp, and an empty dict -/
def Dr (K : PySem.W.Frag) (H : Hp) (x : V) (d : PyData) : Prop := Dp K H x d ∨ ∃ a, x = .ref a ∧ H a = some (.dK []) ∧ d = .dict []
def rRepr (K : PySem.W.Frag) : List V → Hp → VK → Prop := fun xs H Q => ∃ x d, xs = [x] ∧ Dr K H x d ∧ d.showable = true ∧ d.depth ≤ 60 ∧ d.shown.length ≤ sizeLine ∧ Q (.str d.shown) H
theorem hasDict_dp {K : PySem.W.Frag} {H : Hp} : (∀ {x d}, Dp K H x d → d.hasDict = false) ∧ (∀ {xs ds}, DpAll K H xs ds → PyData.hasDictAll ds = false) := by
  constructor
  · intro x d h
    exact Dp.rec (motive_1 := fun _ d _ => d.hasDict = false) (motive_2 := fun _ ds _ => PyData.hasDictAll ds = false) rfl (fun _ => rfl) (fun _ => rfl) (fun _ => rfl)
      (fun _ _ ih => by unfold PyData.hasDict; exact ih) (fun _ _ ih => by unfold PyData.hasDict; exact ih) rfl (fun _ _ i1 i2 => by unfold PyData.hasDictAll; rw [i1, i2]; rfl) h
  · intro x d h
    exact DpAll.rec (motive_1 := fun _ d _ => d.hasDict = false) (motive_2 := fun _ ds _ => PyData.hasDictAll ds = false) rfl (fun _ => rfl) (fun _ => rfl) (fun _ => rfl)
      (fun _ _ ih => by unfold PyData.hasDict; exact ih) (fun _ _ ih => by unfold PyData.hasDict; exact ih) rfl (fun _ _ i1 i2 => by unfold PyData.hasDictAll; rw [i1, i2]; rfl) h
end L2
namespace L2
open PySem PySem.Spec PyProof.Rows
section
variable {X : Cx}
theorem call_repr (hc : X.A.guards = some []) (hu : X.A.units + 64 < cLine) : CallR X (.builtin "repr") (rRepr X.K) := by
  intro pins s σ H xs us Q I r h
  obtain ⟨x, d, rfl, hd, hs, hdp, hz, q⟩ := h
  cases r with
  | cons r1 rn =>
    rename_i u us'
    cases rn
    rcases hd with hd | ⟨a, rfl, ha, rfl⟩
    · obtain ⟨as, rd⟩ := Dp.reads I d x u hd r1
      cases hd with
      | non => cases rd; exact P.repr_of_none ⟨.str _, H, I.tok _, ⟨_, rfl⟩, q⟩
      | bl b => cases rd; exact P.repr_of_bool ⟨.str _, H, I.tok _, ⟨_, rfl⟩, q⟩
      | int i =>
        cases rd
        have hi : i.natAbs.log2 < 1920 := of_decide_eq_true hs
        exact P.repr_of_int hi ⟨.str _, H, I.tok _, ⟨_, rfl⟩, q⟩
      | str z => cases rd; exact P.repr_of_str ⟨.str _, H, I.tok _, ⟨_, rfl⟩, q⟩ hz
      | lst h1 h2 =>
        obtain rfl : u = Value.ref _ := r1
        have hh : PyData.hasDict _ = false := hasDict_dp.1 (Dp.lst h1 h2)
        exact repr_of_reads' rd hs (fun e => by rw [hh] at e; cases e) hc (by omega) (fun _ _ e => e) (fun h' u tk k => ⟨.str _, H, I.kept k, ⟨_, rfl⟩, q⟩) hz
      | tup h1 h2 =>
        obtain rfl : u = Value.ref _ := r1
        have hh : PyData.hasDict _ = false := hasDict_dp.1 (Dp.tup h1 h2)
        exact repr_of_reads' rd hs (fun e => by rw [hh] at e; cases e) hc (by omega) (fun _ _ e => e) (fun h' u tk k => ⟨.str _, H, I.kept k, ⟨_, rfl⟩, q⟩) hz
    · obtain rfl : u = Value.ref a := r1
      obtain ⟨_, hsys, vs, hkv, od, es, ep, hget, hcl, hdat, hko, hps, _⟩ : ObjOk X.prog X.w H s.heap a (.dK []) := I.hok a _ ha
      cases hkv
      have he : es.toList = [] := by
        generalize es.toList = l at hps
        cases hps; rfl
      have rd : Reads s.heap (.ref a) (.dict []) (a :: [] ++ []) := .dict hget hcl.1 hdat (by rw [he]; exact .nil) (by rw [he]; exact .nil)
      refine repr_of_reads' rd hs (fun _ hm => ?_) hc (by omega) (fun _ _ e => e) (fun h' u tk k => ⟨.str _, H, I.kept k, ⟨_, rfl⟩, q⟩) hz
      have e : sysModules = a := by simpa using hm
      rw [← e] at hsys
      exact absurd hsys (by decide)
end
end L2
namespace L2
open PySem PySem.Spec PyProof.Rows
section
variable {X : Cx}
theorem op_mul_str : OpR X (binaryOp .Mult) (fun x y H Q => ∃ z k, x = .str z ∧ y = .int k ∧ MulOk z k ∧ Q (.str (Txt.mul z k)) H) := by
  intro pins s σ H x y v u Q I rx ry h
  obtain ⟨z, k, rfl, rfl, hz, q⟩ := h
  obtain ⟨t, rfl⟩ := rx
  obtain ⟨t', rfl⟩ := ry
  exact SB.mul hz fun t2 k2 => ⟨.str _, H, I.tok _, ⟨_, rfl⟩, q⟩
/-- f(k = v, ..) by keywords alone, what is raised wished for at the slots -/
def tCallKS (sp : Sp) (gV : List V → List V → List V) (E : St → XK) (tk : TA) : TE := fun σ H Q => tk σ H fun zs H1 => sp (gV [] zs) H1 Q (E σ)
theorem pe_callKS {CX : CXT} {k : Nat} {f : Addr} {fd : FuncData} {ps ks : List Str} {sp : Sp} {E : St → XK} {x : Str} {p pos : Pos} {kws : List Keyword} {tk : TA} {g : List Value → List Value → List Value} {gV : List V → List V → List V}
    (F : FnOk X.prog X.w X.K X.mg X.base CX k f fd ps sp) (hr : Room k X.A) (hg : Gl X x) (hm : X.mg x = some (.ref f)) (hk : PySem.W.keepIn X.K (.ref f) = true) (hb : KBinds X.K fd ps ks g gV) (hx : ∀ σ, PassesAt CX X σ (E σ))
    (hkw : PK X kws tk) (hall : (backToKw pos (keywordEach kws X.env)).all (·.1.isSome) = true := by rfl) (hks : (backToKw pos (keywordEach kws X.env)).filterMap (·.1) = ks := by rfl)
    (hdb : (x == ("__debug__" : Str)) = false := by decide) (hpl : ((backTo pos (starEach [] X.env)).any (·.1) || (backToKw pos (keywordEach kws X.env)).any (·.1.isNone)) = false := by rfl) :
    PE X (.Call (.Name x p) [] kws pos) (tCallKS sp gV E tk) := by
  constructor
  intro pins s σ H Q I h
  apply wpAny_Call_Name_kw (ld_glob I hg hm ?_ hdb)
  apply PySem.W.callWith_KW0 (h₀ := X.base) I.ok.mod.kin hk hall (thn (hkw.run pos pins s σ H _ I h) ?_) hpl
  rintro ws s1 ⟨zs, H1, I1, rz, q⟩
  refine ⟨I1.kIn, ?_⟩
  rw [hks]
  have r2 := hb.rel (vs := []) (us := []) .nil rz
  have hl : (g [] ws).length = ps.length := (r2.length).symm.trans (F.len _ _ _ _ q)
  apply wpAny_call
  apply codeAny_mono (F.run X.A X.stack s1 H1 ⟨[], ks.zip ws⟩ (g [] ws) (gV [] zs) Q (E σ) hr I1.env0 (hb.to s1 [] ws I1.kIn hl) r2 q)
  intro r s' hq
  match r, hq with
  | .error er, hq => exact hx σ pins H1 s1 er s' I1 hq
  | .ok (.ret u), hq => exact I1.after hq
  | .ok .next, hq => exact hq.elim
  | .ok .brk, hq => exact hq.elim
  | .ok .cont, hq => exact hq.elim
end
end L2

set_option Elab.async false
set_option linter.all false
set_option maxRecDepth 100000
set_option maxHeartbeats 2000000
/-! Defs that call repr: the promise is shown only where no repr is running around the call. -/
namespace L2
open PySem PySem.Spec PyProof.Rows
/-- as FnOk, where no guard stands around -/
structure FnG (P : Program) (w : World) (K : PySem.W.Frag) (mg : Str → Option Value) (base : Heap) (CX : CXT) (k : Nat) (f : Addr) (fd : FuncData) (ps : List Str) (sp : Sp) : Prop where
  len : ∀ vs H Q E, sp vs H Q E → vs.length = ps.length
  run : ∀ (A : Around) (outer : List Env) (s : Shared) (H : Hp) (args : Args) (us : List Value) (vs : List V) (Q : VK) (E : XK), A.guards = some [] → Room k A → Env0 P w K mg base A outer s H →
    BindsTo s fd args (ps.zip us) → Vals vs us → sp vs H Q E → codeAny (model P w) A (.call (.ref f) args) (CR CX outer P w H s Q E) s
theorem FnOk.toG {P : Program} {w : World} {K : PySem.W.Frag} {mg : Str → Option Value} {base : Heap} {CX : CXT} {k : Nat} {f : Addr} {fd : FuncData} {ps : List Str} {sp : Sp} (F : FnOk P w K mg base CX k f fd ps sp) : FnG P w K mg base CX k f fd ps sp :=
  ⟨F.len, fun A outer s H args us vs Q E _ hr => F.run A outer s H args us vs Q E hr⟩
section
variable {X : Cx} {CX : CXT} {k : Nat} {f : Addr} {fd : FuncData} {ps : List Str} {sp : Sp} {dvs : List V} {ds : List Value} {E : XK} {x : Str} {p pos : Pos} {e : Expr} {es : List Expr} {t : TA}
theorem pe_callG (F : FnG X.prog X.w X.K X.mg X.base CX k f fd ps sp) (hgd : X.A.guards = some []) (hr : Room k X.A) (hg : Gl X x) (hm : X.mg x = some (.ref f)) (hk : PySem.W.keepIn X.K (.ref f) = true) (hb : Binds X.K fd ps ds) (hd : Vals dvs ds) (hx : Passes CX X E)
    (ha : PA X (e :: es) t) (hdb : (x == ("__debug__" : Str)) = false := by decide) (he : starEach (e :: es) X.env = (false, eval e X.env) :: starEach es X.env := by rfl) (hpl : (backTo pos (starEach es X.env)).any (·.1) = false := by rfl) :
    PE X (.Call (.Name x p) (e :: es) [] pos) (tCall sp dvs E t) := by
  constructor
  intro pins s σ H Q I h
  apply wpAny_Call_Name_kw (ld_glob I hg hm ?_ hdb)
  apply PySem.W.callWith_K (h₀ := X.base) I.ok.mod.kin hk (thn (ha.run pos pins s σ H _ I h) ?_) he hpl
  rintro us s1 ⟨vs, H1, I1, rv, q⟩
  refine ⟨I1.kIn, ?_⟩
  have r2 : Vals (vs ++ dvs) (us ++ ds) := rv.append hd
  have hl : (us ++ ds).length = ps.length := (r2.length).symm.trans (F.len _ _ _ _ q)
  apply wpAny_call
  apply codeAny_mono (F.run X.A X.stack s1 H1 ⟨us, []⟩ (us ++ ds) (vs ++ dvs) Q E hgd hr I1.env0 (hb s1 us I1.kIn hl) r2 q)
  intro r s' hq
  match r, hq with
  | .error er, hq => exact hx pins σ H1 s1 er s' I1 hq
  | .ok (.ret u), hq => exact I1.after hq
  | .ok .next, hq => exact hq.elim
  | .ok .brk, hq => exact hq.elim
  | .ok .cont, hq => exact hq.elim
end
theorem deeper_guards {A : Around} {env : Env} : (A.deeper env).guards = A.guards := rfl
section
variable {P : Program} {w : World} {K : PySem.W.Frag} {mg : Str → Option Value} {base : Heap}
/-- the rule for a def, where no guard stands around -/
theorem Fun.okG {x qual : Str} {st : Stmt} {f : Addr} {fd : FuncData} {N ps : List Str} {k : Nat} {sp : Sp} (F : Fun K x qual st f fd) (S : FnScope N ps (defScope st)) (len : ∀ vs H Q E, sp vs H Q E → vs.length = ps.length)
    (hbody : ∀ (cdv : Value) (A : Around) (outer : List Env) (s : Shared) (H : Hp) (vs : List V) (Q : VK) (E : XK), (A.deeper (envOfC qual (defScope st) s.heap.objs.size f cdv)).guards = some [] → Room k (A.deeper (envOfC qual (defScope st) s.heap.objs.size f cdv)) → sp vs H Q E →
      ∃ t, PSs (cxOf CX0 P w K mg base N qual (defScope st) f cdv A outer s H E).nox (defBody st) t ∧ t { nx := fun _ H' => Q .non H', rt := Q } (start N vs) H) : FnG P w K mg base CX0 (k + 1) f fd ps sp := by
  obtain ⟨oc, od, kV, doc, pm, an, cdv, ct, osl, rfl, lk, hcd⟩ := F.ex
  refine ⟨len, fun A outer s H args us vs Q E hgd hr e0 hb r hsp => ?_⟩
  have KX : K.In s.heap := e0.mod.kin.keeps fun b o e => (e0.bs b o e).1
  have lim : s.heap.NoLimit := e0.mod.nolimit.keeps fun b o e => (e0.bs b o e).1
  apply codeAny_call_function hr.depth (KX _ _ lk) rfl S.co S.gen rfl (PySem.W.codeRec_of KX hcd) (hb _ _ _ _ ?_)
  apply wpAny_newFunctionEnv_cells S.kind ?_ ?_
  · rintro ⟨n, v⟩ hy
    rcases S.par n (List.of_mem_zip hy).1 with q | q
    · exact Or.inl q
    · exact Or.inr ⟨q, PySem.W.cellsFrom_some _ _ _ (Or.inl q)⟩
  · intro env he s1 x
    subst he
    refine ⟨lim.keeps x.toInCall.keep, codeAny_func ?_⟩
    obtain ⟨t, ht, hq⟩ := hbody cdv A outer s H vs Q E (deeper_guards.trans hgd) (hr.deeper _) hsp
    have I := inv_start (CX := CX0) (E := E) S hr.hd e0 (len _ _ _ _ hsp) r x
    apply wpAny_mono (ht.nox.run [] s1 (start N vs) H _ I hq) ?_ fun e s' hs => hs
    intro fl s' hs
    match fl, hs with
    | .ret u, ⟨v, σ', H', J, rv, q⟩ => exact ⟨v, H', J.os, J.bare, J.base, J.hok, rv, q⟩
    | .next, ⟨σ', H', J, q⟩ => exact ⟨V.non, H', J.os, J.bare, J.base, J.hok, rfl, q⟩
    | .brk, ⟨_, _, _, q⟩ => exact q.elim
    | .cont, ⟨_, _, _, q⟩ => exact q.elim
end
end L2
namespace L2
open PySem PySem.Spec PyProof.Rows
section
variable {P : Program} {w : World} {K : PySem.W.Frag} {mg mb : Str → Option Value} {k : Nat} {fa a : Addr} {fd : FuncData} {x : Str} {sp : Sp} {s1 : Shared} {vs : List Value} {ns : List Int}
/-- the law's call, H telling nothing but, maybe, the script at a -/
theorem enterG {H : Hp} (KX : K.In s1.heap) (hns : s1.heap.Ns mainGlobals mg) (hb : s1.heap.Ns builtinsNs mb) (hbb : ∀ x : Str, x ≠ "__name__" → mb x = bootBuiltins x) (hlim : s1.heap.NoLimit) (hg : s1.gens = #[])
    (ha : s1.heap.get? a = some { cls := .type "list", data := .seq vs.toArray }) (hr : Room k callerA)
    (F : ∀ base : Heap, K.In base → base.Ns mainGlobals mg → FnG P w K mg base CX0 k fa fd [x] sp) (hbind : ∀ (s : Shared) (u : Value), BindsTo s fd ⟨[u], []⟩ [(x, u)])
    (hO : Only H) (hok : HOk P w H s1.heap) (hA : ∀ b, H b ≠ none → b = a) (hK : ∀ b o, K.lookup b = some o → H b = none) (hsp : sp [.ref a] H (fun v _ => v = .bl true) fun _ _ _ => False) :
    codeAny (model P w) callerA (.call (.ref fa) ⟨[.ref a], []⟩) (fun r s' => r = .ok (.ret (.bool true)) ∧ OldK s1.heap s'.heap ∧ s'.os = s1.os ∧ AllBare s'.gens) s1 := by
  have nsK : ∀ {b : Addr} {m : Str → Option Value}, s1.heap.Ns b m → (hidT s1.heap H).Ns b m := by
    rintro b m ⟨o, es, ep, e, d, r⟩
    have n : H b = none := by
      cases q : H b with
      | none => rfl
      | some u =>
        have z := hA b (by rw [q]; exact fun z => nomatch z)
        rw [z, ha] at e
        rw [← Option.some.inj e] at d
        exact nomatch d
    exact ⟨o, es, ep, hidT_get e n, d, r⟩
  have hKb : K.In (hidT s1.heap H) := fun b o e => hidT_get (KX b o e) (hK b o e)
  have e0 : Env0 P w K mg (hidT s1.heap H) callerA [] s1 H :=
    { frames := rfl, mod := ⟨hKb, nsK hns, ⟨mb, nsK hb, hbb⟩, hlim.elim fun mc h => ⟨mc, nsK h.1, h.2⟩⟩, bs := fun b o e => of_hidT e, bsz := Nat.le_of_eq (hidT_size _ _), funs := trivial, frf := fun b hb => (List.not_mem_nil hb).elim, hok := hok, bare := .of_eq hg }
  apply codeAny_mono ((F _ hKb (nsK hns)).run callerA [] s1 H ⟨[.ref a], []⟩ [.ref a] [.ref a] _ _ rfl hr e0 (hbind s1 (.ref a)) (.cons rfl .nil) hsp)
  intro r s' h
  match r, h with
  | .error e, h =>
    obtain ⟨_, _, _, h⟩ := h
  | .ok .next, h => exact h.elim
  | .ok .brk, h => exact h.elim
  | .ok .cont, h => exact h.elim
  | .ok (.ret u), ⟨v, H', os, bare, un, hok', r', q⟩ =>
    obtain rfl : v = .bl true := q
    obtain rfl : u = Value.bool true := r'
    refine ⟨rfl, OldK.of_keep fun b o e => ?_, os, bare⟩
    rcases hO b with z | ⟨ob, xs, z⟩
    · exact un.keep b o e z (List.not_mem_nil) (List.not_mem_nil)
    · have e1 := (hok b _ z).1
      have e2 := (hok' b _ (un.frzs b ob _ z)).1
      rw [e] at e1
      rw [Option.some.inj e1]
      exact e2
end
/-- the goal that the head leaves, from the law's promise, where the law's def calls repr -/
theorem walk_G {l : PySem.W.OpenLaw} {n k : Nat} {q : Program} {loose : List Str} {XP : (Str → Option Value) → Heap → Prop} {YP : World → Heap → Prop} {d : DefRec} {K : Params → PySem.W.Frag} {sp : PySem.W.Frag → Sp} {x : Str}
    (hn : l.most = some n) (hn2 : n ≤ sizeLine) (hdf : d.params.defaults = []) (hr : Room k callerA)
    (hY : ∀ (w : World) (h : Heap), YP w h → (K w.params).In h)
    (F : ∀ (w : World) (mg : Str → Option Value) (fa : Addr) (h : Heap), (K w.params).In h → h.Ns mainGlobals mg → mg d.name = some (.ref fa) →
      ∃ fd : FuncData, (∀ (s : Shared) (u : Value), BindsTo s fd ⟨[u], []⟩ [(x, u)]) ∧
        ∀ base : Heap, (K w.params).In base → base.Ns mainGlobals mg → FnG l.prog w (K w.params) mg base CX0 k fa fd [x] (sp (K w.params)))
    (hsp : ∀ (K : PySem.W.Frag) (H : Hp) (a : Addr) (ns : List Int), ns.length ≤ n → Only H → SqL K H a (ns.map V.int) → sp K [.ref a] H (fun v _ => v = .bl true) fun _ _ _ => False) :
    PySem.W.WalkO q loose XP YP l.row.toRowW d [] (fun f vs => PySem.call f vs) := by
  refine Att.attach_call hn hdf fun w s0 s1 mg mb fa o pm cd doc a vs ns G Y ho hd hcd hmg hobj hints hlen hg => ?_
  have KX := hY w _ Y
  obtain ⟨fd, hb, hF⟩ := F w mg fa _ KX G.T.g hmg
  have rv := vals_ints hints
  have lenV := hints.length
  have hl := Nat.le_trans hlen hn2
  cases hk : (K w.params).lookup a with
  | some ob =>
    have e := KX a ob hk
    rw [hobj] at e
    have e' := (Option.some.inj e).symm
    subst e'
    refine enterG (H := fun _ => none) KX G.T.g G.T.b G.T.builtins G.T.nolimit hg hobj hr hF hb (fun _ => .inl rfl) (fun b u z => nomatch (show (none : Option HO) = some u from z)) (fun b z => (z rfl).elim) (fun _ _ _ => rfl) ?_
    exact hsp (K w.params) _ a ns hlen (fun _ => .inl rfl) (.inr ⟨_, vs.toArray, _, hk, rfl, rfl, rfl, by rw [List.size_toArray, lenV]; exact hl, by simpa using rv⟩)
  | none =>
    have at_a : (fun b => if b = a then some (HO.frz { cls := .type "list", data := .seq vs.toArray } (.lst (ns.map V.int))) else none) a = some (HO.frz { cls := .type "list", data := .seq vs.toArray } (.lst (ns.map V.int))) := if_pos rfl
    have only : Only (fun b => if b = a then some (HO.frz { cls := .type "list", data := .seq vs.toArray } (.lst (ns.map V.int))) else none) := fun b => by
      by_cases z : b = a
      · exact .inr ⟨_, _, if_pos z⟩
      · exact .inl (if_neg z)
    refine enterG (H := fun b => if b = a then some (HO.frz { cls := .type "list", data := .seq vs.toArray } (.lst (ns.map V.int))) else none) KX G.T.g G.T.b G.T.builtins G.T.nolimit hg hobj hr hF hb only (fun b u z => ?_) (fun b z => ?_) (fun b ob z => ?_) ?_
    · by_cases y : b = a
      · subst y
        have z' := at_a.symm.trans z
        rw [← Option.some.inj z']
        exact ⟨hobj, by rw [List.length_map]; exact hl, vs, _, rv, hobj⟩
      · exact nomatch (if_neg y).symm.trans z
    · by_cases y : b = a
      · exact y
      · exact (z (if_neg y)).elim
    · refine if_neg fun y => ?_
      rw [y, hk] at z
      cases z
    · exact hsp (K w.params) _ a ns hlen only (.inl (.inr ⟨_, at_a⟩))
end L2

set_option Elab.async false
set_option linter.all false
set_option maxRecDepth 100000
set_option maxHeartbeats 2000000
/-! Several clauses 'except .. as e', one behind the other, all of them with one name. -/
namespace L2
open PySem PySem.Spec PyProof.Rows
/-- what stands behind the suite: the name is gone -/
def goneEnds (i : Nat) (D : Ends) : Ends :=
  { nx := fun u G => D.nx (u.set i none) G,
    rt := D.rt,
    bk := fun u G => D.bk (u.set i none) G,
    ct := fun u G => D.ct (u.set i none) G }
abbrev SuiteT := Addr → Value → Option Addr → TS
def wAll (K : PySem.W.Frag) (i : Nat) (Wo : WX) (D : Ends) : List (Value × SuiteT) → WX
  | [] => Wo
  | q :: l => fun cls d σ H =>
    ∃ b, PySem.W.exmOne K cls q.1 = some b ∧
      (b = true → ∀ a, H a = none → q.2 a cls d (goneEnds i D) (σ.set i (some (.ref a))) H) ∧
      (b = false → wAll K i Wo D l cls d σ H)
/-- the clauses and what their suites tell -/
inductive Clauses (X : Cx) (n : Str) : List ExceptHandler → List (Value × SuiteT) → Prop
  | last : Clauses X n [] []
  | more {x : Str} {c : Value} {ts : SuiteT} {b₀ : Stmt} {su : List Stmt} {p1 p2 : Pos} {hl : List ExceptHandler} {l : List (Value × SuiteT)} :
      Names X x c →
      (∀ (a : Addr) (oe : Obj) (cls : Value) (d : Option Addr) (pn : List (Addr × Obj)), Zc cls d oe → (∃ vs, oe.data = .fields vs) →
        PSs (X.suite a ((a, oe) :: pn)) (b₀ :: su) (ts a cls d)) →
      Clauses X n hl l → Clauses X n (.ExceptHandler (some (.Name x p1)) (some n) (b₀ :: su) p2 :: hl) ((c, ts) :: l)
section
variable {X : Cx} {n : Str} {i : Nat} {body : List Stmt} {h₀ : ExceptHandler} {hl : List ExceptHandler} {l : List (Value × SuiteT)} {pos : Pos} {tb : WX → TS} {Wo : WX}
theorem ps_tryAll (eS : X.stack = X.env :: X.outer) (eF : X.env.frame = some X.env.locals) (nd : X.N.Nodup) (ei : X.N[i]? = some n) (en : X.env.kindOf n = some .local) (tk : Takes X Wo)
    (hb : ∀ (W : WX) (pn : List (Addr × Obj)) (xe : Value → Shared → Prop), Takes (X.tr pn xe) W →
      PassesOwn (model X.prog X.w) X.A X.env xe → PSs (X.tr pn xe) body (tb W))
    (hc : Clauses X n (h₀ :: hl) l) :
    PS X (.Try body (h₀ :: hl) [] [] pos) (fun D σ H => tb (wAll X.K i Wo D l) D σ H) := by
  constructor
  intro pins s σ H D I hyp
  have iok := I.ok
  have fr : X.A.frames = some (X.env :: X.outer) := iok.frames.trans (congrArg some eS)
  apply wpAny_Try_except
  let XE : Value → Shared → Prop := fun e s₁ =>
    wpAny (model X.prog X.w) X.A (noteFrame e X.env) (fun _ s₂ =>
      wpAny (model X.prog X.w) X.A (setFlight e none) (fun _ s₃ =>
        wpAny (model X.prog X.w) X.A (handleBy e X.env (h₀ :: hl)) (SP X pins D) X.xe s₃) X.xe s₂) X.xe s₁
  have run := (hb (wAll X.K i Wo D l) (X.pn ++ pins) XE ?_ PassesOwn.looking).run [] s σ H D (I.toTry _) hyp
  · refine wpAny_mono run (fun f s1 sp => ?_) (fun e s1 q => q)
    match f, sp with
    | .next, ⟨u, G, J, q⟩ => exact wpAny_execs_nil ⟨u, G, J.ofTry iok, q⟩
    | .brk, ⟨u, G, J, q⟩ => exact ⟨u, G, J.ofTry iok, q⟩
    | .cont, ⟨u, G, J, q⟩ => exact ⟨u, G, J.ofTry iok, q⟩
    | .ret _, ⟨v, u, G, J, r, q⟩ => exact ⟨v, u, G, J.ofTry iok, r, q⟩
  · -- what flies out of the body
    rintro u s' ⟨a, B, sI, pins', τ, G, cls, d, rfl, J', nb, up, sky, na, os, ag, wish⟩
    have J : Inv X pins τ G sI := J'.ofTry iok
    have sky2 : Sky B (X.env :: X.outer) a (Zc cls d) X.env.locals s'.heap := eS ▸ sky
    show wpAny _ X.A (noteFrame (.ref a) X.env) _ _ _
    apply Sky.land Zc.steady fr eF sky2
    intro g3 fly3 up3
    have J3 : Inv X pins τ G { s' with heap := g3 } := J.landed nb fly3.1 (up.trans up3) os ag
    obtain ⟨o3, v3, at3, z3, d3⟩ := fly3.there
    have off : a ∉ frs (X.env :: X.outer) := by
      intro hm
      obtain ⟨_, o', e', hn⟩ := fly3.2.2.1.mem hm
      rw [at3] at e'
      cases e'
      exact hn _ d3
    have offL : a ≠ X.env.locals := by
      intro z
      exact off (List.mem_filterMap.mpr ⟨X.env, List.mem_cons_self, by rw [eF, z]⟩)
    have offF : a ∉ X.fs := by
      intro hm
      obtain ⟨e, he, q⟩ := List.mem_filterMap.mp hm
      exact off (List.mem_filterMap.mpr ⟨e, List.mem_cons_of_mem _ he, q⟩)
    have S3 := J3.suite at3 d3 na offL offF
    -- clause by clause
    suffices go : ∀ {hs : List ExceptHandler} {k : List (Value × SuiteT)}, Clauses X n hs k → wAll X.K i Wo D k cls d τ G →
        wpAny (model X.prog X.w) X.A (handleBy (.ref a) X.env hs) (SP X pins D) X.xe { s' with heap := g3 } from go hc wish
    intro hs k hk
    induction hk with
    | last =>
      intro out
      apply wpAny_handleBy_nil
      obtain ⟨k1, k2, k3, oe, vs, T, oT, ts', he, hz, hd, h1, hr⟩ := id fly3
      unfold PySem.passOn
      apply wpAny_bind
      apply wpAny_field he hd h1
      rw [if_neg (by simp : ¬ ((Value.ref T == Value.none) = true))]
      have thrown : wpAny (model X.prog X.w) X.A (setFlight (.ref a) X.env.frame) (fun _ s4 =>
          wpAny (model X.prog X.w) X.A (throw (.ref a) : Sem Flow) (SP X pins D) X.xe s4) X.xe { s' with heap := g3 } := by
        rw [eF]
        apply HandSPX.setFlight_upZ fly3
        intro g4 fly4 up4
        apply wpAny_throw
        apply tk
        exact ⟨a, B, sI, pins, τ, G, cls, d, rfl, J, nb, (up.trans up3).trans up4, .inr (.inr (eS ▸ fly4)), na, os, ag, out⟩
      first
        | exact wpAny_bind (wpAny_pure (wpAny_bind thrown))
        | exact wpAny_bind thrown
    | @more x c ts b₀ su p1 p2 hl2 l2 nm suite _ ih =>
      rintro ⟨b, eb, yes, no⟩
      have looks : PySem.W.Looks (model X.prog X.w) g3 (typeOf (.ref a)) cls := by
        intro A' Q' E' t k q
        exact wpAny_typeOf_ref (k _ _ at3) (by rw [z3.1]; exact q)
      have LM := PySem.W.exm_one (M := model X.prog X.w) (J3.kIn) looks eb
      apply wpAny_handleBy_cons (codeAny_handlers_test ?_) (by intro q; cases q)
      have named : ∀ {Q' : Value → Shared → Prop} {E' : Value → Shared → Prop}, Q' c { s' with heap := g3 } →
          wpAny (model X.prog X.w) (X.A.mark (some (.ref a))) (eval (.Name x p1) X.env) Q' E' { s' with heap := g3 } := by
        intro Q' E' q
        rcases nm with ⟨g, dbg, m | ⟨m, v, w⟩⟩
        · exact ld_glob (X := X.suite a ((a, o3) :: (X.pn ++ pins))) S3 g m q dbg
        · exact ld_blt (X := X.suite a ((a, o3) :: (X.pn ++ pins))) S3 g m v q w dbg
      apply named
      apply LM.here
      match b, yes, no with
      | false, _, no => exact ih (no rfl)
      | true, yes, _ =>
        apply codeAny_handlers_suite_as
        apply HandSPX.lands_againZ fly3
        intro g4 fly4 up4
        have J4 : Inv X pins τ G { s' with heap := g4 } := J.landed nb fly4.1 ((up.trans up3).trans up4) os ag
        obtain ⟨o4, v4, at4, z4, d4⟩ := fly4.there
        have S4 := J4.suite at4 d4 na offL offF
        apply store_ok (X := X.suite a ((a, o4) :: (X.pn ++ pins))) (v := .ref a) S4 nd ei (.inl en) rfl ?_ (.inr en)
        intro s5 S5
        have ran := (suite a o4 cls d (X.pn ++ pins) z4 ⟨_, d4⟩).run [] s5 _ G _ S5 (yes rfl a na)
        refine wpAny_mono ran (fun f s6 sp => ?_) (fun _ _ z => z.elim)
        have gone : ∀ {u : St} {K6 : Hp} {Q' : Shared → Prop}, Inv (X.suite a ((a, o4) :: (X.pn ++ pins))) [] u K6 s6 →
            (∀ s7, Inv X pins (u.set i none) K6 s7 → Q' s7) →
            wpAny (model X.prog X.w) X.A (do bindName X.env n .none; unbindBehindTheSuite X.env n p2) (fun _ s7 => Q' s7) X.xe s6 :=
          fun S6 q => gone_ok (S6.unsuite iok) nd ei en q
        match f, sp with
        | .next, ⟨_, _, S6, q⟩ => exact gone S6 fun _ J7 => ⟨_, _, J7, q⟩
        | .brk, ⟨_, _, S6, q⟩ => exact gone S6 fun _ J7 => ⟨_, _, J7, q⟩
        | .cont, ⟨_, _, S6, q⟩ => exact gone S6 fun _ J7 => ⟨_, _, J7, q⟩
        | .ret _, ⟨_, _, _, S6, r, q⟩ => exact gone S6 fun _ J7 => ⟨_, _, _, J7, r, q⟩
end
end L2

set_option Elab.async false
set_option linter.all false
set_option maxRecDepth 100000
set_option maxHeartbeats 2000000
namespace Cols
/-! ### columns of the table of distances by bits -/
def Col (c : Nat → Int) (m : Nat) (V N : Nat → Bool) : Prop := ∀ i, i < m → (V i = true ∧ N i = false ∧ c (i + 1) = c i + 1) ∨ (V i = false ∧ N i = true ∧ c (i + 1) = c i - 1) ∨ (V i = false ∧ N i = false ∧ c (i + 1) = c i)
structure Step (m : Nat) (V N E L R W V' N' : Nat → Bool) : Prop where
  l0 : 0 < m → L 0 = (E 0 || N 0)
  ls : ∀ i, i + 1 < m → L (i + 1) = (E (i + 1) || N (i + 1) || (L i && V i))
  r0 : R 0 = true
  rs : ∀ i, i < m → R (i + 1) = (N i || !(L i || V i))
  w0 : W 0 = false
  ws : ∀ i, i < m → W (i + 1) = (L i && V i)
  v' : ∀ i, i < m → V' i = (W i || !(L i || R i))
  n' : ∀ i, i < m → N' i = (L i && R i)
theorem step {m : Nat} {V N E L R W V' N' : Nat → Bool} (s : Step m V N E L R W V' N') {c c' : Nat → Int} (h : Col c m V N) (h0 : c' 0 = c 0 + 1)
    (hc : ∀ i, i < m → c' (i + 1) = min (c i + if E i = true then 0 else 1) (min (c (i + 1) + 1) (c' i + 1))) : Col c' m V' N' := by
  have key : ∀ i, i ≤ m → ((R i = true ∧ W i = false ∧ c' i = c i + 1) ∨ (R i = false ∧ W i = true ∧ c' i = c i - 1) ∨ (R i = false ∧ W i = false ∧ c' i = c i)) ∧
      (i < m → L i = (E i || N i || W i)) := by
    intro i
    induction i with
    | zero => exact fun _ => ⟨.inl ⟨s.r0, s.w0, h0⟩, fun hm => by rw [s.l0 hm, s.w0, Bool.or_false]⟩
    | succ i ih =>
      intro hi
      obtain ⟨ih1, ih2⟩ := ih (by omega)
      have hL := ih2 (by omega)
      have hv := h i (by omega)
      have e := hc i (by omega)
      have er := s.rs i (by omega)
      have ew := s.ws i (by omega)
      refine ⟨?_, fun hm => by rw [s.ls i hm, ← ew]⟩
      rw [er, ew]
      cases hE : E i <;> rcases hv with ⟨a, b, d⟩ | ⟨a, b, d⟩ | ⟨a, b, d⟩ <;> rcases ih1 with ⟨r, w, k⟩ | ⟨r, w, k⟩ | ⟨r, w, k⟩ <;> rw [hE, b, w] at hL <;> rw [hE] at e <;> simp only [a, b, hL, Bool.or_false, Bool.false_or, Bool.or_true, Bool.true_or, Bool.and_true, Bool.and_false, Bool.not_true, Bool.not_false, Bool.false_eq_true, reduceIte, if_true, if_false] at e ⊢ <;> simp <;> omega
  intro i hi
  obtain ⟨k1, k2⟩ := key i (by omega)
  have hL := k2 hi
  have hv := h i hi
  have e := hc i hi
  rw [s.v' i hi, s.n' i hi]
  cases hE : E i <;> rcases hv with ⟨a, b, d⟩ | ⟨a, b, d⟩ | ⟨a, b, d⟩ <;> rcases k1 with ⟨r, w, k⟩ | ⟨r, w, k⟩ | ⟨r, w, k⟩ <;> rw [hE, b, w] at hL <;> rw [hE] at e <;> simp only [r, w, hL, Bool.or_false, Bool.false_or, Bool.or_true, Bool.true_or, Bool.and_true, Bool.and_false, Bool.not_true, Bool.not_false, Bool.false_eq_true, reduceIte, if_true, if_false] at e ⊢ <;> simp <;> omega
/-! ### bits of natural numbers -/
theorem sub_and : ∀ (i x k : Nat), (x - (x &&& k)).testBit i = (x.testBit i && !k.testBit i) := by
  intro i
  induction i with
  | zero =>
    intro x k
    have h1 : (x &&& k) % 2 = (x % 2) &&& (k % 2) := by simp [Nat.and_mod_two_pow (n := 1)]
    have h2 : x &&& k ≤ x := Nat.and_le_left
    simp only [Nat.testBit_zero]
    generalize x &&& k = y at h1 h2 ⊢
    rcases Nat.mod_two_eq_zero_or_one x with a | a <;> rcases Nat.mod_two_eq_zero_or_one k with b | b <;> rw [a, b] at h1 <;> (have h1 : y % 2 = _ := h1) <;> (rw [a, b]) <;> simp at h1 ⊢ <;> omega
  | succ i ih =>
    intro x k
    have h1 : (x &&& k) % 2 = (x % 2) &&& (k % 2) := by simp [Nat.and_mod_two_pow (n := 1)]
    have h2 : x &&& k ≤ x := Nat.and_le_left
    have h3 : (x &&& k) / 2 = x / 2 &&& k / 2 := Nat.and_div_two
    have h4 : (x - (x &&& k)) / 2 = x / 2 - (x / 2 &&& k / 2) := by
      rw [← h3]
      generalize x &&& k = y at h1 h2 h3 ⊢
      rcases Nat.mod_two_eq_zero_or_one x with a | a <;> rcases Nat.mod_two_eq_zero_or_one k with b | b <;> rw [a, b] at h1 <;> simp at h1 <;> omega
    simp only [Nat.testBit_succ]
    rw [h4, ih]
def maj (a b c : Bool) : Bool := (a && b) || (c && (a || b))
def car (a b : Nat → Bool) (c : Bool) : Nat → Bool
  | 0 => c
  | i + 1 => maj (a i) (b i) (car a b c i)
theorem car_succ (a b : Nat → Bool) (c : Bool) : ∀ i, car a b c (i + 1) = car (fun j => a (j + 1)) (fun j => b (j + 1)) (maj (a 0) (b 0) c) i
  | 0 => rfl
  | i + 1 => by
    show maj (a (i + 1)) (b (i + 1)) (car a b c (i + 1)) = maj (a (i + 1)) (b (i + 1)) (car _ _ _ i)
    rw [car_succ a b c i]
theorem add_bit : ∀ (i a b : Nat) (c : Bool), (a + b + c.toNat).testBit i = ((a.testBit i ^^ b.testBit i) ^^ car a.testBit b.testBit c i) := by
  intro i
  induction i with
  | zero =>
    intro a b c
    simp only [Nat.testBit_zero, car]
    rcases Nat.mod_two_eq_zero_or_one a with x | x <;> rcases Nat.mod_two_eq_zero_or_one b with y | y <;> cases c <;> simp [x, y] <;> omega
  | succ i ih =>
    intro a b c
    have e : (a + b + c.toNat) / 2 = a / 2 + b / 2 + (maj (a.testBit 0) (b.testBit 0) c).toNat := by
      simp only [Nat.testBit_zero, maj]
      rcases Nat.mod_two_eq_zero_or_one a with x | x <;> rcases Nat.mod_two_eq_zero_or_one b with y | y <;> cases c <;> simp [x, y] <;> omega
    rw [car_succ]
    simp only [Nat.testBit_succ]
    rw [e, ih]
/-! ### bits of integers -/
def B (x : Int) (i : Nat) : Bool := if 0 ≤ x then x.toNat.testBit i else !(-x - 1).toNat.testBit i
theorem B_nat (n i : Nat) : B (n : Int) i = n.testBit i := by
  unfold B; rw [if_pos (by omega), Int.toNat_natCast]
theorem B_neg (k i : Nat) : B (-(k : Int) - 1) i = !k.testBit i := by
  unfold B; rw [if_neg (by omega), show (-(-(k : Int) - 1) - 1).toNat = k by omega]
theorem two_sorts (x : Int) : (∃ n : Nat, x = n) ∨ ∃ k : Nat, x = -(k : Int) - 1 := by
  rcases Int.lt_or_le x 0 with h | h
  · exact .inr ⟨(-x - 1).toNat, by omega⟩
  · exact .inl ⟨x.toNat, by omega⟩
open PySem.Builtin in
theorem B_not (x : Int) (i : Nat) : B (bitNot x) i = !B x i := by
  unfold bitNot
  rcases two_sorts x with ⟨n, rfl⟩ | ⟨k, rfl⟩
  · rw [B_neg, B_nat]
  · rw [show -(-(k : Int) - 1) - 1 = (k : Int) by omega, B_nat, B_neg, Bool.not_not]
open PySem.Builtin in
theorem B_and (x y : Int) (i : Nat) : B (bitAnd x y) i = (B x i && B y i) := by
  unfold bitAnd
  rcases two_sorts x with ⟨n, rfl⟩ | ⟨k, rfl⟩ <;> rcases two_sorts y with ⟨n2, rfl⟩ | ⟨k2, rfl⟩
  · rw [decide_eq_true (by omega), decide_eq_true (by omega)]
    show B (((n : Int).toNat &&& (n2 : Int).toNat : Nat) : Int) i = _
    rw [Int.toNat_natCast, Int.toNat_natCast, B_nat, B_nat, B_nat, Nat.testBit_and]
  · rw [decide_eq_true (by omega), decide_eq_false (by omega)]
    show B ((n : Int) - (((n : Int).toNat &&& (bitNot (-(k2 : Int) - 1)).toNat : Nat) : Int)) i = _
    unfold bitNot
    rw [Int.toNat_natCast, show (-(-(k2 : Int) - 1) - 1).toNat = k2 by omega]
    have := Nat.and_le_left (n := n) (m := k2)
    rw [show (n : Int) - ((n &&& k2 : Nat) : Int) = ((n - (n &&& k2) : Nat) : Int) by omega, B_nat, B_nat, B_neg, sub_and]
  · rw [decide_eq_false (by omega), decide_eq_true (by omega)]
    show B ((n2 : Int) - (((n2 : Int).toNat &&& (bitNot (-(k : Int) - 1)).toNat : Nat) : Int)) i = _
    unfold bitNot
    rw [Int.toNat_natCast, show (-(-(k : Int) - 1) - 1).toNat = k by omega]
    have := Nat.and_le_left (n := n2) (m := k)
    rw [show (n2 : Int) - ((n2 &&& k : Nat) : Int) = ((n2 - (n2 &&& k) : Nat) : Int) by omega, B_nat, B_nat, B_neg, sub_and, Bool.and_comm]
  · rw [decide_eq_false (by omega), decide_eq_false (by omega)]
    show B (bitNot (((bitNot (-(k : Int) - 1)).toNat ||| (bitNot (-(k2 : Int) - 1)).toNat : Nat) : Int)) i = _
    rw [B_not]
    unfold bitNot
    rw [show (-(-(k : Int) - 1) - 1).toNat = k by omega, show (-(-(k2 : Int) - 1) - 1).toNat = k2 by omega, B_nat, B_neg, B_neg, Nat.testBit_or, Bool.not_or]
open PySem.Builtin in
theorem B_or (x y : Int) (i : Nat) : B (bitOr x y) i = (B x i || B y i) := by
  unfold bitOr
  rw [B_not, B_and, B_not, B_not, Bool.not_and, Bool.not_not, Bool.not_not]
open PySem.Builtin in
theorem B_xor (n k i : Nat) : B (bitXor n k) i = (B n i ^^ B k i) := by
  have h1 : bitOr (n : Int) k = ((n ||| k : Nat) : Int) := by
    unfold bitOr bitAnd
    rw [decide_eq_false (by unfold bitNot; omega), decide_eq_false (by unfold bitNot; omega)]
    unfold bitNot
    rw [show (-(-(n : Int) - 1) - 1).toNat = n by omega, show (-(-(k : Int) - 1) - 1).toNat = k by omega]
    show -(-((n ||| k : Nat) : Int) - 1) - 1 = _
    omega
  have h2 : bitAnd (n : Int) k = ((n &&& k : Nat) : Int) := by
    unfold bitAnd
    rw [decide_eq_true (by omega), decide_eq_true (by omega)]
    rfl
  unfold bitXor
  rw [h1, h2]
  have h3 : n &&& k = (n ||| k) &&& (n &&& k) := by
    apply Nat.eq_of_testBit_eq
    intro j
    simp only [Nat.testBit_and, Nat.testBit_or]
    cases n.testBit j <;> cases k.testBit j <;> rfl
  have h4 : n &&& k ≤ n ||| k := by rw [h3]; exact Nat.and_le_left
  rw [show ((n ||| k : Nat) : Int) - ((n &&& k : Nat) : Int) = (((n ||| k) - (n &&& k) : Nat) : Int) by omega]
  rw [B_nat, B_nat, B_nat]
  rw [h3, sub_and]
  simp only [Nat.testBit_and, Nat.testBit_or]
  cases n.testBit i <;> cases k.testBit i <;> rfl
theorem B_dbl0 (x : Int) : B (x * 2) 0 = false := by
  rcases two_sorts x with ⟨n, rfl⟩ | ⟨k, rfl⟩
  · rw [show (n : Int) * 2 = ((n * 2 : Nat) : Int) by omega, B_nat]; simp
  · rw [show (-(k : Int) - 1) * 2 = -((2 * k + 1 : Nat) : Int) - 1 by omega, B_neg]; simp
theorem B_dbl (x : Int) (i : Nat) : B (x * 2) (i + 1) = B x i := by
  rcases two_sorts x with ⟨n, rfl⟩ | ⟨k, rfl⟩
  · rw [show (n : Int) * 2 = ((n * 2 : Nat) : Int) by omega, B_nat, B_nat, Nat.testBit_succ, Nat.mul_div_cancel _ (by omega)]
  · rw [show (-(k : Int) - 1) * 2 = -((2 * k + 1 : Nat) : Int) - 1 by omega, B_neg, B_neg, Nat.testBit_succ, show (2 * k + 1) / 2 = k by omega]
theorem B_one (i : Nat) : B 1 i = decide (i = 0) := by
  rw [show (1 : Int) = ((1 : Nat) : Int) from rfl, B_nat]
  cases i with
  | zero => rfl
  | succ i => rw [Nat.testBit_succ]; simp
theorem B_whole (m i : Nat) : B (2 ^ m - 1) i = decide (i < m) := by
  have : ((2 : Int) ^ m - 1) = ((2 ^ m - 1 : Nat) : Int) := by
    have := Nat.two_pow_pos m
    rw [Int.natCast_sub (by omega)]
    simp
  rw [this, B_nat, Nat.testBit_two_pow_sub_one]
open PySem.Builtin in
theorem and_nat {x y : Int} (h : 0 ≤ x ∨ 0 ≤ y) : 0 ≤ bitAnd x y := by
  unfold bitAnd
  rcases two_sorts x with ⟨n, rfl⟩ | ⟨k, rfl⟩ <;> rcases two_sorts y with ⟨n2, rfl⟩ | ⟨k2, rfl⟩
  · rw [decide_eq_true (by omega), decide_eq_true (by omega)]
    exact Int.natCast_nonneg _
  · rw [decide_eq_true (by omega), decide_eq_false (by omega)]
    show 0 ≤ (n : Int) - (((n : Int).toNat &&& (bitNot (-(k2 : Int) - 1)).toNat : Nat) : Int)
    have := Nat.and_le_left (n := n) (m := (bitNot (-(k2 : Int) - 1)).toNat)
    rw [Int.toNat_natCast]; omega
  · rw [decide_eq_false (by omega), decide_eq_true (by omega)]
    show 0 ≤ (n2 : Int) - (((n2 : Int).toNat &&& (bitNot (-(k : Int) - 1)).toNat : Nat) : Int)
    have := Nat.and_le_left (n := n2) (m := (bitNot (-(k : Int) - 1)).toNat)
    rw [Int.toNat_natCast]; omega
  · omega
open PySem.Builtin in
/-- one letter more, as the program reckons -/
theorem reckon {m : Nat} {up down same : Nat} (dis : ∀ i, i < m → ¬ (B up i = true ∧ B down i = true)) {level raised lowered up' down' : Int}
    (e1 : level = bitOr (bitOr (bitXor (bitAnd same up + up) up) same) down) (e2 : raised = bitOr (bitOr down (bitNot (bitOr level up)) * 2) 1)
    (e3 : lowered = bitAnd level up * 2) (e4 : up' = bitAnd (bitOr lowered (bitNot (bitOr level raised))) (2 ^ m - 1)) (e5 : down' = bitAnd (bitAnd level raised) (2 ^ m - 1)) :
    Step m (B up) (B down) (B same) (B level) (B raised) (B lowered) (B up') (B down') ∧ 0 ≤ up' ∧ 0 ≤ down' := by
  have w0 : (0 : Int) ≤ 2 ^ m - 1 := by
    have : ((2 : Int) ^ m - 1) = ((2 ^ m - 1 : Nat) : Int) := by
      have := Nat.two_pow_pos m
      rw [Int.natCast_sub (by omega)]
      simp
    rw [this]; exact Int.natCast_nonneg _
  have a0 : 0 ≤ bitAnd (same : Int) up := and_nat (.inl (by omega))
  obtain ⟨a, ha⟩ : ∃ a : Nat, bitAnd (same : Int) up = a := ⟨(bitAnd (same : Int) up).toNat, by omega⟩
  have hl : ∀ i, B level i = (B same i || B down i || car a.testBit up.testBit false i) := fun i => by
    rw [e1, B_or, B_or, ha, show (a : Int) + (up : Int) = ((a + up : Nat) : Int) by omega, B_xor, B_nat, B_nat, show a + up = a + up + false.toNat from rfl, add_bit]
    have : a.testBit i = (B same i && up.testBit i) := by rw [← B_nat a, ← ha, B_and, B_nat up]
    rw [this]
    cases B same i <;> cases B down i <;> cases up.testBit i <;> cases car a.testBit up.testBit false i <;> rfl
  have hr : ∀ i, B raised (i + 1) = (B down i || !(B level i || B up i)) := fun i => by
    rw [e2, B_or, B_dbl, B_or, B_not, B_or, B_one]
    simp
  have hw : ∀ i, B lowered (i + 1) = (B level i && B up i) := fun i => by rw [e3, B_dbl, B_and]
  refine ⟨⟨fun _ => ?_, fun i hi => ?_, ?_, fun i _ => hr i, ?_, fun i _ => hw i, fun i hi => ?_, fun i hi => ?_⟩, by rw [e4]; exact and_nat (.inr w0), by rw [e5]; exact and_nat (.inr w0)⟩
  · rw [hl]
    show (B same 0 || B down 0 || false) = _
    rw [Bool.or_false]
  · rw [hl]
    congr 1
    show maj (a.testBit i) (up.testBit i) (car a.testBit up.testBit false i) = _
    have ea : a.testBit i = (B same i && up.testBit i) := by rw [← B_nat a, ← ha, B_and, B_nat up]
    rw [ea, hl i]
    have d := dis i (by omega)
    rw [B_nat up] at d ⊢
    unfold maj
    cases hs : B same i <;> cases hd : B down i <;> cases hu : up.testBit i <;> cases hc : car a.testBit up.testBit false i <;> first | rfl | exact absurd ⟨hu, hd⟩ d
  · rw [e2, B_or, B_dbl0, B_one]; rfl
  · rw [e3, B_dbl0]
  · rw [e4, B_and, B_or, B_not, B_or, B_whole, decide_eq_true hi, Bool.and_true]
  · rw [e5, B_and, B_and, B_whole, decide_eq_true hi, Bool.and_true]
open PySem.Builtin in
theorem or_nat (n k : Nat) : bitOr (n : Int) k = ((n ||| k : Nat) : Int) := by
  unfold bitOr bitAnd
  rw [decide_eq_false (by unfold bitNot; omega), decide_eq_false (by unfold bitNot; omega)]
  unfold bitNot
  rw [show (-(-(n : Int) - 1) - 1).toNat = n by omega, show (-(-(k : Int) - 1) - 1).toNat = k by omega]
  show -(-((n ||| k : Nat) : Int) - 1) - 1 = _
  omega
open PySem.Builtin in
theorem and_natn (n k : Nat) : bitAnd (n : Int) k = ((n &&& k : Nat) : Int) := by
  unfold bitAnd
  rw [decide_eq_true (by omega), decide_eq_true (by omega)]
  rfl
open PySem.Builtin in
theorem xor_nat (n k : Nat) : bitXor (n : Int) k = ((n ^^^ k : Nat) : Int) := by
  have h0 : 0 ≤ bitXor (n : Int) k := by
    unfold bitXor
    rw [or_nat, and_natn]
    have : n &&& k ≤ n ||| k := by
      have : n &&& k = (n ||| k) &&& (n &&& k) := by
        apply Nat.eq_of_testBit_eq
        intro j
        simp only [Nat.testBit_and, Nat.testBit_or]
        cases n.testBit j <;> cases k.testBit j <;> rfl
      rw [this]; exact Nat.and_le_left
    omega
  obtain ⟨x, hx⟩ : ∃ x : Nat, bitXor (n : Int) k = x := ⟨(bitXor (n : Int) k).toNat, by omega⟩
  rw [hx]
  congr 1
  apply Nat.eq_of_testBit_eq
  intro i
  rw [← B_nat, ← hx, B_xor, B_nat, B_nat, Nat.testBit_xor]
/-! ### how many bits -/
def P (V : Nat → Bool) : Nat → Nat
  | 0 => 0
  | i + 1 => P V i + (V i).toNat
theorem P_succ (V : Nat → Bool) : ∀ i, P V (i + 1) = (V 0).toNat + P (fun j => V (j + 1)) i
  | 0 => by show 0 + (V 0).toNat = (V 0).toNat + 0; omega
  | i + 1 => by
    show P V (i + 1) + (V (i + 1)).toNat = (V 0).toNat + (P (fun j => V (j + 1)) i + (V (i + 1)).toNat)
    rw [P_succ V i]; omega
theorem P_ext {V V' : Nat → Bool} : ∀ {m : Nat}, (∀ i, i < m → V i = V' i) → P V m = P V' m
  | 0, _ => rfl
  | m + 1, h => by
    show P V m + (V m).toNat = P V' m + (V' m).toNat
    rw [P_ext fun i hi => h i (by omega), h m (by omega)]
theorem col_sum {c : Nat → Int} {m : Nat} {V N : Nat → Bool} (h : Col c m V N) : ∀ i, i ≤ m → c i = c 0 + (P V i : Int) - (P N i : Int)
  | 0, _ => by show c 0 = c 0 + ((0 : Nat) : Int) - ((0 : Nat) : Int); omega
  | i + 1, hi => by
    have := col_sum h i (by omega)
    show c (i + 1) = c 0 + ((P V i + (V i).toNat : Nat) : Int) - ((P N i + (N i).toNat : Nat) : Int)
    rcases h i (by omega) with ⟨a, b, d⟩ | ⟨a, b, d⟩ | ⟨a, b, d⟩ <;> rw [a, b] <;> simp <;> omega
/-- the ones among the figures in base two -/
def ones (l : List Char) : Nat := (l.filter fun c => c == '1').length
theorem ones_cons (c : Char) (l : List Char) : ones (c :: l) = (if c == '1' then 1 else 0) + ones l := by
  unfold ones
  rw [List.filter_cons]
  split
  · rw [List.length_cons]; omega
  · omega
theorem ones_core : ∀ (fuel n m : Nat) (ds : List Char), n < fuel → n < 2 ^ m → ones (Nat.toDigitsCore 2 fuel n ds) = P n.testBit m + ones ds
  | 0, n, m, ds, h, _ => absurd h (Nat.not_lt_zero n)
  | fuel + 1, n, m, ds, h, hm => by
    unfold Nat.toDigitsCore
    have hd : ones (Nat.digitChar (n % 2) :: ds) = (n.testBit 0).toNat + ones ds := by
      rw [ones_cons]
      simp only [Nat.testBit_zero]
      rcases Nat.mod_two_eq_zero_or_one n with a | a <;> rw [a] <;> rfl
    cases m with
    | zero =>
      have : n = 0 := by simp at hm; exact hm
      subst this
      show ones (if 0 / 2 = 0 then _ else _) = _
      rw [if_pos rfl]
      exact hd
    | succ m =>
      have e2 : P n.testBit (m + 1) = (n.testBit 0).toNat + P (n / 2).testBit m := by
        rw [P_succ]
        congr 1
        exact P_ext fun i _ => Nat.testBit_succ n i
      have hm2 : n / 2 < 2 ^ m := by rw [Nat.pow_succ] at hm; omega
      show ones (if n / 2 = 0 then Nat.digitChar (n % 2) :: ds else Nat.toDigitsCore 2 fuel (n / 2) (Nat.digitChar (n % 2) :: ds)) = _
      by_cases h0 : n / 2 = 0
      · rw [if_pos h0, hd, e2, h0]
        have : P (0 : Nat).testBit m = 0 := by
          have : ∀ m, P (0 : Nat).testBit m = 0 := fun m => by
            induction m with
            | zero => rfl
            | succ m ih => show P _ m + _ = 0; rw [ih, Nat.zero_testBit]; rfl
          exact this m
        rw [this]; omega
      · rw [if_neg h0, ones_core fuel (n / 2) m _ (by omega) hm2, hd, e2]; omega
theorem ones_bin {n m : Nat} (h : n < 2 ^ m) : ones (Nat.toDigits 2 n) = P n.testBit m := by
  unfold Nat.toDigits
  rw [ones_core _ _ m _ (by omega) h]
  rfl
/-! ### the columns of two texts -/
def At (p t : List Nat) (j up down : Nat) : Prop := Col (fun i => (Lev.T p t i j : Int)) p.length (B up) (B down) ∧ up < 2 ^ p.length ∧ down < 2 ^ p.length
theorem At.start (p t : List Nat) : At p t 0 (2 ^ p.length - 1) 0 := by
  have hp := Nat.two_pow_pos p.length
  refine ⟨fun i hi => .inl ⟨?_, ?_, ?_⟩, by omega, hp⟩
  · rw [B_nat, Nat.testBit_two_pow_sub_one]; exact decide_eq_true hi
  · rw [B_nat, Nat.zero_testBit]
  · show (Lev.T p t (i + 1) 0 : Int) = Lev.T p t i 0 + 1
    rw [Lev.T_left, Lev.T_left]; omega
open PySem.Builtin in
theorem At.step {p t : List Nat} {j up down same : Nat} (h : At p t j up down) (hs : ∀ i, i < p.length → B same i = decide (p[i]? = t[j]?)) {level raised lowered up' down' : Int}
    (e1 : level = bitOr (bitOr (bitXor (bitAnd same up + up) up) same) down) (e2 : raised = bitOr (bitOr down (bitNot (bitOr level up)) * 2) 1)
    (e3 : lowered = bitAnd level up * 2) (e4 : up' = bitAnd (bitOr lowered (bitNot (bitOr level raised))) (2 ^ p.length - 1)) (e5 : down' = bitAnd (bitAnd level raised) (2 ^ p.length - 1)) :
    ∃ u d : Nat, up' = u ∧ down' = d ∧ At p t (j + 1) u d := by
  obtain ⟨hc, hu, hd⟩ := h
  have dis : ∀ i, i < p.length → ¬ (B up i = true ∧ B down i = true) := fun i hi z => by
    rcases hc i hi with ⟨a, b, _⟩ | ⟨a, b, _⟩ | ⟨a, b, _⟩
    · rw [z.2] at b; cases b
    · rw [z.1] at a; cases a
    · rw [z.1] at a; cases a
  obtain ⟨s, u0, d0⟩ := reckon dis e1 e2 e3 e4 e5
  have w0 : (2 : Int) ^ p.length - 1 = ((2 ^ p.length - 1 : Nat) : Int) := by
    have := Nat.two_pow_pos p.length
    rw [Int.natCast_sub (by omega)]
    simp
  have hp := Nat.two_pow_pos p.length
  have r1 := (PyProof.Rows.bitAnd_range (bitOr lowered (bitNot (bitOr level raised))) (y := 2 ^ p.length - 1) (by rw [w0]; omega)).2
  have r2 := (PyProof.Rows.bitAnd_range (bitAnd level raised) (y := 2 ^ p.length - 1) (by rw [w0]; omega)).2
  rw [← e4, w0] at r1
  rw [← e5, w0] at r2
  refine ⟨up'.toNat, down'.toNat, by omega, by omega, ?_, by omega, by omega⟩
  have eu : ((up'.toNat : Nat) : Int) = up' := by omega
  have ed : ((down'.toNat : Nat) : Int) = down' := by omega
  rw [eu, ed]
  refine Cols.step s hc ?_ ?_
  · show (Lev.T p t 0 (j + 1) : Int) = Lev.T p t 0 j + 1
    rw [Lev.T_zero, Lev.T_zero]; omega
  · intro i hi
    show (Lev.T p t (i + 1) (j + 1) : Int) = min ((Lev.T p t i j : Int) + if B same i = true then 0 else 1) (min ((Lev.T p t (i + 1) j : Int) + 1) ((Lev.T p t i (j + 1) : Int) + 1))
    rw [Lev.T_step, hs i hi]
    unfold Lev.neq
    by_cases q : p[i]? = t[j]?
    · rw [if_pos q, decide_eq_true q, if_pos rfl]; omega
    · rw [if_neg q, decide_eq_false q, if_neg (by simp)]; omega
theorem At.done {p t : List Nat} {up down : Nat} (h : At p t t.length up down) : (t.length : Int) + (ones (Nat.toDigits 2 up) : Int) - (ones (Nat.toDigits 2 down) : Int) = (Lev.D p t : Int) := by
  obtain ⟨hc, hu, hd⟩ := h
  have := col_sum hc p.length (Nat.le_refl _)
  rw [ones_bin hu, ones_bin hd]
  have b : ∀ n : Nat, B n = n.testBit := fun n => funext fun i => B_nat n i
  rw [b, b] at this
  simp only [Lev.T_zero] at this
  unfold Lev.D
  omega
end Cols

set_option Elab.async false
set_option linter.all false
set_option maxRecDepth 100000
set_option maxHeartbeats 2000000
namespace PySem
open PySem.Spec PyProof.Rows Builtin
/-- a number's figures in base two -/
def binS (n : Nat) : Str := ⟨((Nat.toDigits 2 n).map Char.toNat).toArray⟩
theorem gives_int_b (n : Nat) (t u : Tok) : Gives («int.__format__» ⟨[.int (n : Int) t, .str (Str.ofString "b") u], []⟩) (.str (binS n)) := fun prog w A R s hq => by
  unfold Builtin.«int.__format__»
  simp only [selfAndOne, noKeywords, Builtin.Int.intOfSelf, asInt?, asStr?, List.isEmpty_nil, if_true, pure_bind, bind_pure, bind_assoc, show ((Str.ofString "b").length == 0) = false from rfl, Bool.false_eq_true, if_false,
    show (Value.str (Str.ofString "b") u == Value.none) = false from rfl]
  refine wpAny_bind (wpAny_typeNameOf (T := "str") (typeIs_str _ _ _) (by decide) fun _ => ?_)
  rw [if_neg (by decide)]
  refine wpAny_bind (wpAny_typeNameOfCut_int ?_)
  obtain ⟨f, ef⟩ : ∃ f : Float.FormatSpec, f = { fill := 32, align := 62, type := some 98 } := ⟨_, rfl⟩
  have hp : Float.parseFormatSpec (Str.ofString "b").cps.toList "int" 62 = .ok f := by rw [ef]; rfl
  have hty : f.type.getD (if ((Str.ofString "b").cps.back? == some 0) = true then 0 else 100) = 98 := by rw [ef]; rfl
  simp only [hp, hty]
  rw [if_pos (by decide)]
  show wpAny _ _ (if _ then _ else _) _ _ _
  rw [if_neg (by rw [ef]; decide)]
  show wpAny _ _ (if _ then _ else _) _ _ _
  rw [if_neg (by rw [ef]; decide)]
  show wpAny _ _ (if _ then _ else _) _ _ _
  rw [if_neg (by decide)]
  show wpAny _ _ (if f.width.getD 0 > 100000 then _ else retStr _) _ _ _
  rw [if_neg (by rw [ef]; decide)]
  have key : ∀ y, y = binS n → wpAny (model prog w) A.in1 (retStr y) (fun fin s' => match fin with | Fin.done f => R (Except.ok f) s' | Fin.again c' => c'.quiet = true ∧ codeAny (model prog w) A c' R s') (fun e s' => R (Except.error e) s') s := fun y e => by
    rw [e]
    unfold retStr
    exact wpAny_bind (wpAny_mkStr (wpAny_pure hq.2) hq.1)
  refine key _ ?_
  rw [ef]
  obtain ⟨L, eL⟩ : ∃ L, L = (Nat.toDigits 2 n).map Char.toNat := ⟨_, rfl⟩
  have e1 : (List.map (fun c => (if (98 == 88) = true then Char.toUpper c else c).toNat) (Nat.toDigits 2 ((n : Int)).natAbs)) = L := by
    rw [eL, Int.natAbs_natCast]; rfl
  have en : decide ((n : Int) < 0) = false := decide_eq_false (by omega)
  show _ = (⟨((Nat.toDigits 2 n).map Char.toNat).toArray⟩ : Str)
  rw [← eL, en]
  conv => lhs; arg 4; rw [show (List.map (fun c => (if (98 == 88) = true then Char.toUpper c else c).toNat) (Nat.toDigits 2 ((n : Int)).natAbs)) = L from e1]
  show (⟨(List.replicate (((-1 : Int) - ((0 : Int) + (0 : Int) + (0 : Int)) - ((if L.isEmpty = true then [] else List.replicate (Int.toNat 0 - L.length) 48 ++ L).length : Int)).toNat) 32 ++ [] ++ [] ++ List.replicate 0 32 ++ (if L.isEmpty = true then [] else List.replicate (Int.toNat 0 - L.length) 48 ++ L) ++ [] ++ List.replicate 0 32).toArray⟩ : Str) = _
  have e0 : (if L.isEmpty = true then [] else List.replicate (Int.toNat 0 - L.length) 48 ++ L) = L := by
    cases L with
    | nil => rfl
    | cons a l => rw [if_neg (by simp)]; simp
  rw [e0, show ((-1 : Int) - ((0 : Int) + (0 : Int) + (0 : Int)) - (L.length : Int)).toNat = 0 by omega]
  simp
section
variable {prog : Program} {w : World} {A : Around} {E : Value → Shared → Prop} {s : Shared} {env : Env}
theorem wpAny_formatField_b {n : Nat} {t : Tok} {Q : Value → Shared → Prop} (h : Q (.str (binS n) (s.toks + 1)) { s with toks := s.toks + 1 + 1 }) (hz : (binS n).length ≤ sizeLine) :
    wpAny (model prog w) A (formatField (.int (n : Int) t) (Str.ofString "b")) Q E s :=
  wpAny_formatField_spec rfl (fun s' => typeIs_int s' _ t) F.slot_int_format F.entry_int_format F.args_int_format_2 (fun u => gives_int_b n t u) h (by decide) hz
end
end PySem
namespace L2
open PySem PySem.Spec PyProof.Rows
section
variable {X : Cx}
/-- f"{e:b}" of a natural number -/
def tFmtB (te : TE) : TE := fun σ H Q => te σ H fun x H1 => ∃ n : Nat, x = .int n ∧ (binS n).length ≤ sizeLine ∧ Q (.str (binS n)) H1
theorem pe_fmtB {e : Expr} {te : TE} {pos : Pos} {sp : Expr} (he : PE X e te) (hs : PE X sp (fun σ H Q => Q (.str (Str.ofString "b")) H)) : PE X (.FormattedValue e (-1) (some sp) pos) (tFmtB te) := by
  refine ⟨fun pins s σ H Q I h => ?_⟩
  refine wpAny_FormattedValue_spec (thn (he.run pins s σ H _ I h) fun v s1 hv => ?_)
  obtain ⟨x, H1, I1, r1, n, rfl, hz, q⟩ := hv
  obtain ⟨t, rfl⟩ := r1
  refine thn (hs.run pins s1 σ H1 (fun y H' => y = .str (Str.ofString "b") ∧ H' = H1) I1 ⟨rfl, rfl⟩) fun r s2 h2 => ?_
  obtain ⟨y, H2, I2, r2, e1, e2⟩ := h2
  subst e1 e2
  obtain ⟨t2, rfl⟩ := r2
  exact ⟨_, _, rfl, wpAny_formatField_b ⟨.str (binS n), _, I2.tok _, ⟨_, rfl⟩, q⟩ hz⟩
end
end L2

set_option Elab.async false
set_option linter.all false
set_option maxRecDepth 100000
set_option maxHeartbeats 2000000
namespace My
open PySem PySem.Spec PyProof.Rows L2
def topS (i : Nat) : Stmt := PySem.Challenge.pw_spoiltline_k07_distances.main.body.getD i (.Pass ⟨0, 0, 0, 0⟩)
abbrev s_is_integer : Stmt := topS 1
abbrev N_is_integer : List Str := ["value"]
theorem sc_is_integer : FnScope N_is_integer ["value"] (defScope s_is_integer) := ⟨rfl, rfl, rfl, by decide +kernel, rfl, by decide +kernel, by decide +kernel⟩
abbrev s_is_count : Stmt := topS 2
abbrev N_is_count : List Str := ["value"]
theorem sc_is_count : FnScope N_is_count ["value"] (defScope s_is_count) := ⟨rfl, rfl, rfl, by decide +kernel, rfl, by decide +kernel, by decide +kernel⟩
abbrev s_is_text : Stmt := topS 3
abbrev N_is_text : List Str := ["value"]
theorem sc_is_text : FnScope N_is_text ["value"] (defScope s_is_text) := ⟨rfl, rfl, rfl, by decide +kernel, rfl, by decide +kernel, by decide +kernel⟩
abbrev s_changes_between : Stmt := topS 5
abbrev N_changes_between : List Str := ["one", "other", "letters", "pattern", "whole", "up", "down"]
theorem sc_changes_between : FnScope N_changes_between ["one", "other"] (defScope s_changes_between) := ⟨rfl, rfl, rfl, by decide +kernel, rfl, by decide +kernel, by decide +kernel⟩
abbrev s_places_of : Stmt := topS 6
abbrev N_places_of : List Str := ["pattern", "places", "bit", "letter"]
theorem sc_places_of : FnScope N_places_of ["pattern"] (defScope s_places_of) := ⟨rfl, rfl, rfl, by decide +kernel, rfl, by decide +kernel, by decide +kernel⟩
abbrev s_column_behind : Stmt := topS 7
abbrev N_column_behind : List Str := ["up", "down", "letters", "places", "whole", "letter", "same", "level", "raised", "lowered"]
theorem sc_column_behind : FnScope N_column_behind ["up", "down", "letters", "places", "whole"] (defScope s_column_behind) := ⟨rfl, rfl, rfl, by decide +kernel, rfl, by decide +kernel, by decide +kernel⟩
abbrev s_ones : Stmt := topS 8
abbrev N_ones : List Str := ["bits"]
theorem sc_ones : FnScope N_ones ["bits"] (defScope s_ones) := ⟨rfl, rfl, rfl, by decide +kernel, rfl, by decide +kernel, by decide +kernel⟩
abbrev s_check_texts : Stmt := topS 14
abbrev N_check_texts : List Str := ["one", "other", "text"]
theorem sc_check_texts : FnScope N_check_texts ["one", "other"] (defScope s_check_texts) := ⟨rfl, rfl, rfl, by decide +kernel, rfl, by decide +kernel, by decide +kernel⟩
abbrev s_distance : Stmt := topS 20
abbrev N_distance : List Str := ["one", "other", "few"]
theorem sc_distance : FnScope N_distance ["one", "other"] (defScope s_distance) := ⟨rfl, rfl, rfl, by decide +kernel, rfl, by decide +kernel, by decide +kernel⟩
abbrev s_near : Stmt := topS 21
abbrev N_near : List Str := ["one", "other", "most"]
theorem sc_near : FnScope N_near ["one", "other", "most"] (defScope s_near) := ⟨rfl, rfl, rfl, by decide +kernel, rfl, by decide +kernel, by decide +kernel⟩
abbrev s_longer : Stmt := topS 22
abbrev N_longer : List Str := ["one", "other"]
theorem sc_longer : FnScope N_longer ["one", "other"] (defScope s_longer) := ⟨rfl, rfl, rfl, by decide +kernel, rfl, by decide +kernel, by decide +kernel⟩
abbrev s_fewest_changes : Stmt := topS 23
abbrev N_fewest_changes : List Str := ["one", "other", "most", "fronts"]
theorem sc_fewest_changes : FnScope N_fewest_changes ["one", "other", "most"] (defScope s_fewest_changes) := ⟨rfl, rfl, rfl, by decide +kernel, rfl, by decide +kernel, by decide +kernel⟩
abbrev s_fronts_of : Stmt := topS 24
abbrev N_fronts_of : List Str := ["one", "other", "most", "goal", "front", "fronts", "changes", "spare", "lowest", "highest"]
theorem sc_fronts_of : FnScope N_fronts_of ["one", "other", "most"] (defScope s_fronts_of) := ⟨rfl, rfl, rfl, by decide +kernel, rfl, by decide +kernel, by decide +kernel⟩
abbrev s_front_behind : Stmt := topS 25
abbrev N_front_behind : List Str := ["front", "one", "other", "lowest", "highest", "behind", "diagonal", "row"]
theorem sc_front_behind : FnScope N_front_behind ["front", "one", "other", "lowest", "highest"] (defScope s_front_behind) := ⟨rfl, rfl, rfl, by decide +kernel, rfl, by decide +kernel, by decide +kernel⟩
abbrev s_row_behind : Stmt := topS 26
abbrev N_row_behind : List Str := ["front", "diagonal", "one", "other", "swapped", "dropped", "added"]
theorem sc_row_behind : FnScope N_row_behind ["front", "diagonal", "one", "other"] (defScope s_row_behind) := ⟨rfl, rfl, rfl, by decide +kernel, rfl, by decide +kernel, by decide +kernel⟩
abbrev s_alike : Stmt := topS 27
abbrev N_alike : List Str := ["one", "at", "other", "there", "many", "most"]
theorem sc_alike : FnScope N_alike ["one", "at", "other", "there"] (defScope s_alike) := ⟨rfl, rfl, rfl, by decide +kernel, rfl, by decide +kernel, by decide +kernel⟩
abbrev s_law_cell : Stmt := topS 29
abbrev N_law_cell : List Str := ["script", "k"]
theorem sc_law_cell : FnScope N_law_cell ["script", "k"] (defScope s_law_cell) := ⟨rfl, rfl, rfl, by decide +kernel, rfl, by decide +kernel, by decide +kernel⟩
abbrev s_law_box : Stmt := topS 30
abbrev N_law_box : List Str := ["great"]
theorem sc_law_box : FnScope N_law_box ["great"] (defScope s_law_box) := ⟨rfl, rfl, rfl, by decide +kernel, rfl, by decide +kernel, by decide +kernel⟩
abbrev s_law_take : Stmt := topS 31
abbrev N_law_take : List Str := ["box", "many", "digit", "mixed"]
theorem sc_law_take : FnScope N_law_take ["box", "many"] (defScope s_law_take) := ⟨rfl, rfl, rfl, by decide +kernel, rfl, by decide +kernel, by decide +kernel⟩
abbrev s_law_letters : Stmt := topS 32
abbrev N_law_letters : List Str := ["box", "k"]
theorem sc_law_letters : FnScope N_law_letters ["box"] (defScope s_law_letters) := ⟨rfl, rfl, rfl, by decide +kernel, rfl, by decide +kernel, by decide +kernel⟩
abbrev s_law_text : Stmt := topS 33
abbrev N_law_text : List Str := ["box", "letters", "many", "k"]
theorem sc_law_text : FnScope N_law_text ["box", "letters", "many"] (defScope s_law_text) := ⟨rfl, rfl, rfl, by decide +kernel, rfl, by decide +kernel, by decide +kernel⟩
abbrev s_law_changed : Stmt := topS 34
abbrev N_law_changed : List Str := ["box", "letters", "text", "found", "turn", "at", "way", "letter"]
theorem sc_law_changed : FnScope N_law_changed ["box", "letters", "text"] (defScope s_law_changed) := ⟨rfl, rfl, rfl, by decide +kernel, rfl, by decide +kernel, by decide +kernel⟩
abbrev s_law_texts : Stmt := topS 35
abbrev N_law_texts : List Str := ["box", "way", "letters", "size", "text", "at"]
theorem sc_law_texts : FnScope N_law_texts ["box"] (defScope s_law_texts) := ⟨rfl, rfl, rfl, by decide +kernel, rfl, by decide +kernel, by decide +kernel⟩
abbrev s_law_table : Stmt := topS 36
abbrev N_law_table : List Str := ["first", "second", "row", "i", "ahead", "j", "here"]
theorem sc_law_table : FnScope N_law_table ["first", "second"] (defScope s_law_table) := ⟨rfl, rfl, rfl, by decide +kernel, rfl, by decide +kernel, by decide +kernel⟩
abbrev s_law_met : Stmt := topS 37
abbrev N_law_met : List Str := ["which", "first", "second", "number", "e"]
theorem sc_law_met : FnScope N_law_met ["which", "first", "second", "number"] (defScope s_law_met) := ⟨rfl, rfl, rfl, by decide +kernel, rfl, by decide +kernel, by decide +kernel⟩
abbrev s_law_right : Stmt := topS 38
abbrev N_law_right : List Str := ["box", "first", "second", "due", "turn", "number", "right", "swapped", "told"]
theorem sc_law_right : FnScope N_law_right ["box", "first", "second"] (defScope s_law_right) := ⟨rfl, rfl, rfl, by decide +kernel, rfl, by decide +kernel, by decide +kernel⟩
abbrev s_law_long_right : Stmt := topS 39
abbrev N_law_long_right : List Str := ["box", "n", "m", "x", "y", "first", "second", "due", "number"]
theorem sc_law_long_right : FnScope N_law_long_right ["box"] (defScope s_law_long_right) := ⟨rfl, rfl, rfl, by decide +kernel, rfl, by decide +kernel, by decide +kernel⟩
abbrev s_law_odd : Stmt := topS 40
abbrev N_law_odd : List Str := ["box", "text", "way", "at"]
theorem sc_law_odd : FnScope N_law_odd ["box", "text"] (defScope s_law_odd) := ⟨rfl, rfl, rfl, by decide +kernel, rfl, by decide +kernel, by decide +kernel⟩
abbrev s_law_refuses : Stmt := topS 41
abbrev N_law_refuses : List Str := ["which", "first", "second", "number", "word", "odd", "told"]
theorem sc_law_refuses : FnScope N_law_refuses ["which", "first", "second", "number", "word", "odd"] (defScope s_law_refuses) := ⟨rfl, rfl, rfl, by decide +kernel, rfl, by decide +kernel, by decide +kernel⟩
abbrev s_law_copy : Stmt := topS 42
abbrev N_law_copy : List Str := ["value"]
theorem sc_law_copy : FnScope N_law_copy ["value"] (defScope s_law_copy) := ⟨rfl, rfl, rfl, by decide +kernel, rfl, by decide +kernel, by decide +kernel⟩
abbrev s_law_refused_right : Stmt := topS 43
abbrev N_law_refused_right : List Str := ["box", "first", "second", "wrong", "one_odd", "other_odd", "which", "given", "more", "count"]
theorem sc_law_refused_right : FnScope N_law_refused_right ["box", "first", "second"] (defScope s_law_refused_right) := ⟨rfl, rfl, rfl, by decide +kernel, rfl, by decide +kernel, by decide +kernel⟩
abbrev s_law : Stmt := topS 44
abbrev N_law : List Str := ["script", "k", "box", "first", "second"]
theorem sc_law : FnScope N_law ["script"] (defScope s_law) := ⟨rfl, rfl, rfl, by decide +kernel, rfl, by decide +kernel, by decide +kernel⟩
structure Txt (K : PySem.W.Frag) (mg : Str → Option Value) where
  f_is_integer : Addr
  fd_is_integer : FuncData
  F_is_integer : Fun K "is_integer" "is_integer" s_is_integer f_is_integer fd_is_integer
  b_is_integer : Binds K fd_is_integer ["value"] []
  g_is_integer : mg "is_integer" = some (.ref f_is_integer)
  f_is_count : Addr
  fd_is_count : FuncData
  F_is_count : Fun K "is_count" "is_count" s_is_count f_is_count fd_is_count
  b_is_count : Binds K fd_is_count ["value"] []
  g_is_count : mg "is_count" = some (.ref f_is_count)
  f_is_text : Addr
  fd_is_text : FuncData
  F_is_text : Fun K "is_text" "is_text" s_is_text f_is_text fd_is_text
  b_is_text : Binds K fd_is_text ["value"] []
  g_is_text : mg "is_text" = some (.ref f_is_text)
  f_changes_between : Addr
  fd_changes_between : FuncData
  F_changes_between : Fun K "changes_between" "changes_between" s_changes_between f_changes_between fd_changes_between
  b_changes_between : Binds K fd_changes_between ["one", "other"] []
  g_changes_between : mg "changes_between" = some (.ref f_changes_between)
  f_places_of : Addr
  fd_places_of : FuncData
  F_places_of : Fun K "places_of" "places_of" s_places_of f_places_of fd_places_of
  b_places_of : Binds K fd_places_of ["pattern"] []
  g_places_of : mg "places_of" = some (.ref f_places_of)
  f_column_behind : Addr
  fd_column_behind : FuncData
  F_column_behind : Fun K "column_behind" "column_behind" s_column_behind f_column_behind fd_column_behind
  b_column_behind : Binds K fd_column_behind ["up", "down", "letters", "places", "whole"] []
  g_column_behind : mg "column_behind" = some (.ref f_column_behind)
  f_ones : Addr
  fd_ones : FuncData
  F_ones : Fun K "ones" "ones" s_ones f_ones fd_ones
  b_ones : Binds K fd_ones ["bits"] []
  g_ones : mg "ones" = some (.ref f_ones)
  f_check_texts : Addr
  fd_check_texts : FuncData
  F_check_texts : Fun K "check_texts" "check_texts" s_check_texts f_check_texts fd_check_texts
  b_check_texts : Binds K fd_check_texts ["one", "other"] []
  g_check_texts : mg "check_texts" = some (.ref f_check_texts)
  f_distance : Addr
  fd_distance : FuncData
  F_distance : Fun K "distance" "distance" s_distance f_distance fd_distance
  b_distance : Binds K fd_distance ["one", "other"] []
  g_distance : mg "distance" = some (.ref f_distance)
  f_near : Addr
  fd_near : FuncData
  F_near : Fun K "near" "near" s_near f_near fd_near
  b_near : Binds K fd_near ["one", "other", "most"] []
  g_near : mg "near" = some (.ref f_near)
  f_longer : Addr
  fd_longer : FuncData
  F_longer : Fun K "longer" "longer" s_longer f_longer fd_longer
  b_longer : Binds K fd_longer ["one", "other"] []
  g_longer : mg "longer" = some (.ref f_longer)
  f_fewest_changes : Addr
  fd_fewest_changes : FuncData
  F_fewest_changes : Fun K "fewest_changes" "fewest_changes" s_fewest_changes f_fewest_changes fd_fewest_changes
  b_fewest_changes : Binds K fd_fewest_changes ["one", "other", "most"] []
  g_fewest_changes : mg "fewest_changes" = some (.ref f_fewest_changes)
  f_fronts_of : Addr
  fd_fronts_of : FuncData
  F_fronts_of : Fun K "fronts_of" "fronts_of" s_fronts_of f_fronts_of fd_fronts_of
  b_fronts_of : Binds K fd_fronts_of ["one", "other", "most"] []
  g_fronts_of : mg "fronts_of" = some (.ref f_fronts_of)
  f_front_behind : Addr
  fd_front_behind : FuncData
  F_front_behind : Fun K "front_behind" "front_behind" s_front_behind f_front_behind fd_front_behind
  b_front_behind : Binds K fd_front_behind ["front", "one", "other", "lowest", "highest"] []
  g_front_behind : mg "front_behind" = some (.ref f_front_behind)
  f_row_behind : Addr
  fd_row_behind : FuncData
  F_row_behind : Fun K "row_behind" "row_behind" s_row_behind f_row_behind fd_row_behind
  b_row_behind : Binds K fd_row_behind ["front", "diagonal", "one", "other"] []
  g_row_behind : mg "row_behind" = some (.ref f_row_behind)
  f_alike : Addr
  fd_alike : FuncData
  F_alike : Fun K "alike" "alike" s_alike f_alike fd_alike
  b_alike : Binds K fd_alike ["one", "at", "other", "there"] []
  g_alike : mg "alike" = some (.ref f_alike)
  f_law_cell : Addr
  fd_law_cell : FuncData
  F_law_cell : Fun K "_law_cell" "_law_cell" s_law_cell f_law_cell fd_law_cell
  b_law_cell : Binds K fd_law_cell ["script", "k"] []
  g_law_cell : mg "_law_cell" = some (.ref f_law_cell)
  f_law_box : Addr
  fd_law_box : FuncData
  F_law_box : Fun K "_law_box" "_law_box" s_law_box f_law_box fd_law_box
  b_law_box : Binds K fd_law_box ["great"] []
  g_law_box : mg "_law_box" = some (.ref f_law_box)
  f_law_take : Addr
  fd_law_take : FuncData
  F_law_take : Fun K "_law_take" "_law_take" s_law_take f_law_take fd_law_take
  b_law_take : Binds K fd_law_take ["box", "many"] []
  g_law_take : mg "_law_take" = some (.ref f_law_take)
  f_law_letters : Addr
  fd_law_letters : FuncData
  F_law_letters : Fun K "_law_letters" "_law_letters" s_law_letters f_law_letters fd_law_letters
  b_law_letters : Binds K fd_law_letters ["box"] []
  g_law_letters : mg "_law_letters" = some (.ref f_law_letters)
  f_law_text : Addr
  fd_law_text : FuncData
  F_law_text : Fun K "_law_text" "_law_text" s_law_text f_law_text fd_law_text
  b_law_text : Binds K fd_law_text ["box", "letters", "many"] []
  g_law_text : mg "_law_text" = some (.ref f_law_text)
  f_law_changed : Addr
  fd_law_changed : FuncData
  F_law_changed : Fun K "_law_changed" "_law_changed" s_law_changed f_law_changed fd_law_changed
  b_law_changed : Binds K fd_law_changed ["box", "letters", "text"] []
  g_law_changed : mg "_law_changed" = some (.ref f_law_changed)
  f_law_texts : Addr
  fd_law_texts : FuncData
  F_law_texts : Fun K "_law_texts" "_law_texts" s_law_texts f_law_texts fd_law_texts
  b_law_texts : Binds K fd_law_texts ["box"] []
  g_law_texts : mg "_law_texts" = some (.ref f_law_texts)
  f_law_table : Addr
  fd_law_table : FuncData
  F_law_table : Fun K "_law_table" "_law_table" s_law_table f_law_table fd_law_table
  b_law_table : Binds K fd_law_table ["first", "second"] []
  g_law_table : mg "_law_table" = some (.ref f_law_table)
  f_law_met : Addr
  fd_law_met : FuncData
  F_law_met : Fun K "_law_met" "_law_met" s_law_met f_law_met fd_law_met
  b_law_met : Binds K fd_law_met ["which", "first", "second", "number"] []
  g_law_met : mg "_law_met" = some (.ref f_law_met)
  f_law_right : Addr
  fd_law_right : FuncData
  F_law_right : Fun K "_law_right" "_law_right" s_law_right f_law_right fd_law_right
  b_law_right : Binds K fd_law_right ["box", "first", "second"] []
  g_law_right : mg "_law_right" = some (.ref f_law_right)
  f_law_long_right : Addr
  fd_law_long_right : FuncData
  F_law_long_right : Fun K "_law_long_right" "_law_long_right" s_law_long_right f_law_long_right fd_law_long_right
  b_law_long_right : Binds K fd_law_long_right ["box"] []
  g_law_long_right : mg "_law_long_right" = some (.ref f_law_long_right)
  f_law_odd : Addr
  fd_law_odd : FuncData
  F_law_odd : Fun K "_law_odd" "_law_odd" s_law_odd f_law_odd fd_law_odd
  b_law_odd : Binds K fd_law_odd ["box", "text"] []
  g_law_odd : mg "_law_odd" = some (.ref f_law_odd)
  f_law_refuses : Addr
  fd_law_refuses : FuncData
  F_law_refuses : Fun K "_law_refuses" "_law_refuses" s_law_refuses f_law_refuses fd_law_refuses
  b_law_refuses : Binds K fd_law_refuses ["which", "first", "second", "number", "word", "odd"] []
  g_law_refuses : mg "_law_refuses" = some (.ref f_law_refuses)
  f_law_copy : Addr
  fd_law_copy : FuncData
  F_law_copy : Fun K "_law_copy" "_law_copy" s_law_copy f_law_copy fd_law_copy
  b_law_copy : Binds K fd_law_copy ["value"] []
  g_law_copy : mg "_law_copy" = some (.ref f_law_copy)
  f_law_refused_right : Addr
  fd_law_refused_right : FuncData
  F_law_refused_right : Fun K "_law_refused_right" "_law_refused_right" s_law_refused_right f_law_refused_right fd_law_refused_right
  b_law_refused_right : Binds K fd_law_refused_right ["box", "first", "second"] []
  g_law_refused_right : mg "_law_refused_right" = some (.ref f_law_refused_right)
  f_law : Addr
  fd_law : FuncData
  F_law : Fun K "law" "law" s_law f_law fd_law
  b_law : Binds K fd_law ["script"] []
  g_law : mg "law" = some (.ref f_law)
  z_abs : mg "abs" = none
  z_bool : mg "bool" = none
  z_int : mg "int" = none
  z_isinstance : mg "isinstance" = none
  z_len : mg "len" = none
  z_list : mg "list" = none
  z_max : mg "max" = none
  z_min : mg "min" = none
  z_range : mg "range" = none
  z_repr : mg "repr" = none
  z_str : mg "str" = none
  z_sum : mg "sum" = none
  t_NOWHERE : Tok
  c_NOWHERE : mg "NOWHERE" = some (.int (-2) t_NOWHERE)
  t_BLOCK : Tok
  c_BLOCK : mg "BLOCK" = some (.int (64) t_BLOCK)
  t_LONG : Tok
  c_LONG : mg "LONG" = some (.int (1000) t_LONG)
  t_LETTERS : Tok
  c_LETTERS : mg "LETTERS" = some (.int (50) t_LETTERS)
  C_InvalidCount : Addr
  i_InvalidCount : Addr
  e_InvalidCount : ErrX.ETxt K mg "InvalidCount" "InvalidCount.__init__" C_InvalidCount i_InvalidCount
  x_InvalidCount : PySem.W.exmOne K (.ref C_InvalidCount) (.ref C_InvalidCount) = some true
  C_InvalidText : Addr
  i_InvalidText : Addr
  e_InvalidText : ErrX.ETxt K mg "InvalidText" "InvalidText.__init__" C_InvalidText i_InvalidText
  x_InvalidText : PySem.W.exmOne K (.ref C_InvalidText) (.ref C_InvalidText) = some true
  no_InvalidCount_InvalidText : PySem.W.exmOne K (.ref C_InvalidCount) (.ref C_InvalidText) = some false
  no_InvalidText_InvalidCount : PySem.W.exmOne K (.ref C_InvalidText) (.ref C_InvalidCount) = some false
end My

set_option Elab.async false
set_option linter.all false
set_option maxRecDepth 100000
set_option maxHeartbeats 4000000
namespace My
open PySem PySem.Spec PyProof.Rows L2
section
variable {P : Program} {w : World} {K : PySem.W.Frag} {mg : Str → Option Value} {base : Heap}
/-! ### is_text -/
def isT (z : Str) : Bool := (cs z).all low
def spIsText (K : PySem.W.Frag) : Sp := fun vs H Q _ => ∃ x, vs = [x] ∧ ((∃ z, x = .str z ∧ Q (.bl (isT z)) H) ∨ ∃ t, TyX K H x (.type t) ∧ kitB t "str" = some false ∧ Q (.bl false) H)
theorem ok_is_text (T : Txt K mg) : FnOk P w K mg base CX0 1 T.f_is_text T.fd_is_text ["value"] (spIsText K) := by
  refine T.F_is_text.ok sc_is_text (fun vs H Q E h => ?_) (fun cdv A outer s H vs Q E hr h => ?_)
  · obtain ⟨x, rfl, _⟩ := h; rfl
  · obtain ⟨x, rfl, h⟩ := h
    refine ⟨_, (pss_cons (ps_if (pt_not (pt_val (pe_callB call_isi (by rfl) T.z_isinstance (by decide +kernel) (pa_cons (pv 0) (pa_cons (pe_bltn (v := .ty "str") (u := .type "str") (by rfl) T.z_str (by decide +kernel) rfl) pa_nil))))) (pss_one (ps_ret pe_bl)) pss_nil)
      (pss_one (ps_ret (pe_or (pe_cmpR op_eq (pv 0) pe_str (nomark _)) (pe_one (pe_and (pe_bm0 PySem.F.plainAttrs_str PySem.F.slot_str_isascii PySem.F.type_str_isascii mt_isascii (pv 0)) (pe_and (pe_bm0 PySem.F.plainAttrs_str PySem.F.slot_str_isalpha PySem.F.type_str_isalpha mt_isalpha (pv 0)) (pe_one (pe_bm0 PySem.F.plainAttrs_str PySem.F.slot_str_islower PySem.F.type_str_islower mt_islower (pv 0)))))))))), ?_⟩
    rcases h with ⟨z, rfl, q⟩ | ⟨t, ty, kb, q⟩
    · refine ⟨_, rfl, _, _, _, _, true, rfl, .ty _, .base (.str z), kit_ty (by decide +kernel), true, rfl, iteF ?_⟩
      refine ⟨_, rfl, rfl, _, rfl, ?_⟩
      have e := istext_eq z
      cases h0 : decide (V.str z = V.str (Str.ofString "")) with
      | true =>
        rw [h0, Bool.true_or] at e
        refine iteT ?_
        unfold isT at q
        rw [← e] at q
        exact q
      | false =>
        rw [h0, Bool.false_or] at e
        have e2 : (Txt.isascii z && (Txt.isalpha z && Txt.islower z)) = isT z := by rw [← Bool.and_assoc]; exact e
        refine iteF ⟨_, rfl, rfl, z, rfl, rfl, trivial, _, rfl, ?_⟩
        cases h1 : Txt.isascii z with
        | false => rw [h1] at e2; rw [← e2] at q; exact iteF q
        | true =>
          rw [h1, Bool.true_and] at e2
          refine iteT ⟨_, rfl, rfl, z, rfl, rfl, trivial, _, rfl, ?_⟩
          cases h2 : Txt.isalpha z with
          | false => rw [h2] at e2; rw [← e2] at q; exact iteF q
          | true =>
            rw [h2, Bool.true_and] at e2
            rw [← e2] at q
            exact iteT ⟨_, rfl, rfl, z, rfl, rfl, trivial, q⟩
    · refine ⟨_, rfl, _, _, _, _, false, rfl, .ty _, ty, kit_ty kb, false, rfl, iteT ?_⟩
      exact q
/-! ### longer -/
def Big (u : List Nat) : Prop := u.length ≤ 100000
theorem Big.fits {u : List Nat} (h : Big u) : (S u).length ≤ sizeLine := by rw [S_len]; exact Nat.le_trans h (by decide)
theorem Big.lt {n : Nat} (h : n ≤ 100000) : n < sizeLine := Nat.lt_of_le_of_lt h (by decide)
def spLonger : Sp := fun vs H Q _ => ∃ u v : List Nat, vs = [.str (S u), .str (S v)] ∧ Big u ∧ Big v ∧ Q (.int (max (u.length : Int) v.length)) H
theorem ok_longer (T : Txt K mg) : FnOk P w K mg base CX0 1 T.f_longer T.fd_longer ["one", "other"] spLonger := by
  refine T.F_longer.ok sc_longer (fun vs H Q E h => ?_) (fun cdv A outer s H vs Q E hr h => ?_)
  · obtain ⟨x, y, rfl, _⟩ := h; rfl
  · obtain ⟨u, v, rfl, hu, hv, q⟩ := h
    refine ⟨_, (pss_one (ps_ret (pe_callB (call_max2 rfl) (by rfl) T.z_max (by decide +kernel) (pa_cons (pe_callB call_len_str (by rfl) T.z_len (by decide +kernel) (pa_cons (pv 0) pa_nil)) (pa_cons (pe_callB call_len_str (by rfl) T.z_len (by decide +kernel) (pa_cons (pv 1) pa_nil)) pa_nil))))), ?_⟩
    refine ⟨_, rfl, _, rfl, hu.fits, _, rfl, _, rfl, hv.fits, _, _, rfl, ?_⟩
    rw [S_len, S_len]
    have e : (if (v.length : Int) > u.length then (v.length : Int) else u.length) = max (u.length : Int) v.length := by omega
    rw [e]
    exact q
/-! ### alike -/
def spAlike : Sp := fun vs H Q _ => ∃ (u v : List Nat) (i j : Nat), vs = [.str (S u), .int i, .str (S v), .int j] ∧ Big u ∧ Big v ∧ i ≤ u.length ∧ j ≤ v.length ∧ ∀ k : Nat, Lev.Ext u v i j k → Q (.int k) H
/-- so many letters are alike -/
def Eqs (u v : List Nat) (i j k : Nat) : Prop := i + k ≤ u.length ∧ j + k ≤ v.length ∧ ∀ x, x < k → u[i + x]? = v[j + x]?
theorem ok_alike (T : Txt K mg) : FnOk P w K mg base CX0 1 T.f_alike T.fd_alike ["one", "at", "other", "there"] spAlike := by
  refine T.F_alike.ok sc_alike (fun vs H Q E h => ?_) (fun cdv A outer s H vs Q E hr h => ?_)
  · obtain ⟨u, v, i, j, rfl, _⟩ := h; rfl
  · obtain ⟨u, v, i, j, rfl, hu, hv, hi, hj, q⟩ := h
    refine ⟨_, (pss_cons (ps_set (i := 4) sc_alike.nd rfl (Or.inl rfl) pe_int)
      (pss_cons (ps_set (i := 5) sc_alike.nd rfl (Or.inl rfl) (pe_callB (call_min2 rfl) (by rfl) T.z_min (by decide +kernel) (pa_cons (pe_op op_sub (pe_callB call_len_str (by rfl) T.z_len (by decide +kernel) (pa_cons (pv 0) pa_nil)) (pv 1)) (pa_cons (pe_op op_sub (pe_callB call_len_str (by rfl) T.z_len (by decide +kernel) (pa_cons (pv 2) pa_nil)) (pv 3)) pa_nil))))
      (pss_cons (ps_while PassesOwn.never (PW.pt (pw_and (pt_cmpR op_le (pe_op op_add (pv 4) (pe_glob (v := .int (64)) rfl T.c_BLOCK ⟨_, rfl⟩)) (pv 5) (nomark _)) (pw_and1 (pt_cmpR op_eq (pe_slice sl_str (pv 0) (po_some (pe_op op_add (pv 1) (pv 4))) (po_some (pe_op op_add (pe_op op_add (pv 1) (pv 4)) (pe_glob (v := .int (64)) rfl T.c_BLOCK ⟨_, rfl⟩)))) (pe_slice sl_str (pv 2) (po_some (pe_op op_add (pv 3) (pv 4))) (po_some (pe_op op_add (pe_op op_add (pv 3) (pv 4)) (pe_glob (v := .int (64)) rfl T.c_BLOCK ⟨_, rfl⟩)))) (nomark _))))) (pss_one (ps_aug (i := 4) sc_alike.nd rfl (Or.inl rfl) (pe_glob (v := .int (64)) rfl T.c_BLOCK ⟨_, rfl⟩) ip_add)))
      (pss_cons (ps_while PassesOwn.never (PW.pt (pw_and (pt_cmpR op_lt (pv 4) (pv 5) (nomark _)) (pw_and1 (pt_cmpR op_eq (pe_ix ix_str (pv 0) (pe_op op_add (pv 1) (pv 4)) (fun _ _ => rfl)) (pe_ix ix_str (pv 2) (pe_op op_add (pv 3) (pv 4)) (fun _ _ => rfl)) (nomark _))))) (pss_one (ps_aug (i := 4) sc_alike.nd rfl (Or.inl rfl) pe_int ip_add)))
      (pss_one (ps_ret (pv 4))))))), ?_⟩
    obtain ⟨M, hM, m1, m2, m3⟩ : ∃ M : Nat, (if ((S v).length : Int) - j < ((S u).length : Int) - i then ((S v).length : Int) - j else ((S u).length : Int) - i) = (M : Int) ∧ i + M ≤ u.length ∧ j + M ≤ v.length ∧ (i + M = u.length ∨ j + M = v.length) := by
      rw [S_len, S_len]
      exact ⟨min (u.length - i) (v.length - j), by split <;> omega, by omega, by omega, by omega⟩
    refine ⟨_, rfl, _, rfl, hu.fits, _, rfl, _, _, rfl, rfl, _, rfl, _, rfl, hv.fits, _, rfl, _, _, rfl, rfl, _, _, rfl, ?_⟩
    rw [hM]
    have hall : ∀ k, Eqs u v i j k → k ≤ M := fun k h => by obtain ⟨a, b, _⟩ := h; omega
    -- by blocks
    refine ⟨fun m σ H' => ∃ k : Nat, σ = [some (.str (S u)), some (.int i), some (.str (S v)), some (.int j), some (.int k), some (.int M)] ∧ H' = H ∧ Eqs u v i j k ∧ m = M - k,
      ⟨M - 0, 0, rfl, rfl, ⟨by omega, by omega, fun x hx => absurd hx (Nat.not_lt_zero x)⟩, rfl⟩, ?_⟩
    rintro m σ H' ⟨k, rfl, rfl, he, rfl⟩
    have hk := hall k he
    refine ⟨_, rfl, _, _, rfl, rfl, _, rfl, _, _, rfl, rfl, _, rfl, ?_⟩
    -- one by one
    have second : ∀ k, Eqs u v i j k → (tWhile (tAnd (tTest (tOp (rI0 fun i j => .bl (decide (i < j))) (tVar 4) (tVar 5))) (tTest (tOp rEq (tOp rIxS (tVar 0) (tOp (rI0 fun i j => .int (i + j)) (tVar 1) (tVar 4))) (tOp rIxS (tVar 2) (tOp (rI0 fun i j => .int (i + j)) (tVar 3) (tVar 4))))))
        (tAug 4 (tC (.int 1)) (ipI fun i j => i + j))) { nx := fun σ' H' => tRet (tVar 4) { nx := fun _ H' => Q .non H', rt := Q } σ' H', rt := Q } [some (.str (S u)), some (.int i), some (.str (S v)), some (.int j), some (.int k), some (.int M)] H' := by
      intro k he
      refine ⟨fun m σ H2 => ∃ k : Nat, σ = [some (.str (S u)), some (.int i), some (.str (S v)), some (.int j), some (.int k), some (.int M)] ∧ H2 = H' ∧ Eqs u v i j k ∧ m = M - k, ⟨M - k, k, rfl, rfl, he, rfl⟩, ?_⟩
      rintro m σ H2 ⟨k, rfl, rfl, he, rfl⟩
      have hk := hall k he
      refine ⟨_, rfl, _, rfl, _, _, rfl, rfl, _, rfl, ite2 (fun c => ?_) (fun c => ?_)⟩
      · have c' : (k : Int) < M := of_decide_eq_true c
        have g1 : u[i + k]? = some (u[i + k]'(by omega)) := List.getElem?_eq_getElem _
        have g2 : v[j + k]? = some (v[j + k]'(by omega)) := List.getElem?_eq_getElem _
        refine ⟨_, rfl, _, rfl, _, rfl, _, _, rfl, rfl, _, _, _, rfl, rfl, hu.fits, atI_S g1, _, rfl, _, rfl, _, rfl, _, _, rfl, rfl, _, _, _, rfl, rfl, hv.fits, atI_S g2, rfl, _, rfl, ?_⟩
        rw [show (⟨#[u[i + k]'(by omega)]⟩ : Str) = S [u[i + k]'(by omega)] from rfl, show (⟨#[v[j + k]'(by omega)]⟩ : Str) = S [v[j + k]'(by omega)] from rfl, S_eqV]
        refine ite2 (fun d => ?_) (fun d => ?_)
        · have d' := of_decide_eq_true d
          have d2 : u[i + k]'(by omega) = v[j + k]'(by omega) := List.head_eq_of_cons_eq d'
          refine ⟨fun σ' H3 => σ' = [some (.str (S u)), some (.int i), some (.str (S v)), some (.int j), some (.int ((k + 1 : Nat) : Int)), some (.int M)] ∧ H3 = H2, ?_, _, rfl, _, _, rfl, rfl, rfl, rfl⟩
          rintro σ' H3 ⟨rfl, rfl⟩
          refine ⟨M - (k + 1), by omega, k + 1, rfl, rfl, ⟨by omega, by omega, fun x hx => ?_⟩, rfl⟩
          rcases Nat.lt_or_ge x k with y | y
          · exact he.2.2 x y
          · have : x = k := by omega
            subst this
            rw [g1, g2, d2]
        · refine ⟨_, rfl, q k ⟨he.1, he.2.1, he.2.2, ?_⟩⟩
          rintro ⟨a, a1, a2⟩
          rw [g1] at a1
          rw [g2] at a2
          refine d (decide_eq_true ?_)
          rw [Option.some.inj a1, Option.some.inj a2]
      · have c' : ¬ (k : Int) < M := fun z => c (decide_eq_true z)
        refine ⟨_, rfl, q k ⟨he.1, he.2.1, he.2.2, ?_⟩⟩
        rintro ⟨a, a1, a2⟩
        have b1 := (List.getElem?_eq_some_iff.mp a1).1
        have b2 := (List.getElem?_eq_some_iff.mp a2).1
        omega
    refine ite2 (fun c => ?_) (fun c => second k he)
    have c' : (k : Int) + 64 ≤ M := of_decide_eq_true c
    refine ⟨_, rfl, _, rfl, _, rfl, _, _, rfl, rfl, _, rfl, _, rfl, _, rfl, _, _, rfl, rfl, _, _, rfl, rfl, _, rfl, _, rfl, hu.fits, _, rfl, _, rfl, _, rfl, _, _, rfl, rfl, _, rfl, _, rfl, _, rfl, _, _, rfl, rfl, _, _, rfl, rfl, _, rfl, _, rfl, hv.fits, rfl, _, rfl, ?_⟩
    have cu : cutS (S u) (some ((i : Int) + (k : Int))) (some ((i : Int) + (k : Int) + 64)) = S ((u.drop (i + k)).take 64) := by
      rw [show (i : Int) + (k : Int) + 64 = ((i + k + 64 : Nat) : Int) by omega, show (i : Int) + (k : Int) = ((i + k : Nat) : Int) by omega, cut_mid, Nat.add_sub_cancel_left]
    have cv : cutS (S v) (some ((j : Int) + (k : Int))) (some ((j : Int) + (k : Int) + 64)) = S ((v.drop (j + k)).take 64) := by
      rw [show (j : Int) + (k : Int) + 64 = ((j + k + 64 : Nat) : Int) by omega, show (j : Int) + (k : Int) = ((j + k : Nat) : Int) by omega, cut_mid, Nat.add_sub_cancel_left]
    rw [cu, cv, S_eqV]
    refine ite2 (fun d => ?_) (fun d => second k he)
    have d' := of_decide_eq_true d
    refine ⟨fun σ' H3 => σ' = [some (.str (S u)), some (.int i), some (.str (S v)), some (.int j), some (.int ((k + 64 : Nat) : Int)), some (.int M)] ∧ H3 = H', ?_, _, rfl, _, _, rfl, rfl, rfl, rfl⟩
    rintro σ' H3 ⟨rfl, rfl⟩
    refine ⟨M - (k + 64), by omega, k + 64, rfl, rfl, ⟨by omega, by omega, fun x hx => ?_⟩, rfl⟩
    rcases Nat.lt_or_ge x k with y | y
    · exact he.2.2 x y
    · have e := congrArg (fun l => l[x - k]?) d'
      simp only [List.getElem?_take, List.getElem?_drop] at e
      rw [if_pos (by omega), if_pos (by omega), show i + k + (x - k) = i + x by omega, show j + k + (x - k) = j + x by omega] at e
      exact e
/-! ### fronts as dicts -/
/-- the row and all letters that are alike from there on -/
def cpl : List Nat → List Nat → Nat
  | a :: u, b :: v => if a = b then cpl u v + 1 else 0
  | _, _ => 0
theorem cpl_ok : ∀ (u v : List Nat), cpl u v ≤ u.length ∧ cpl u v ≤ v.length ∧ (∀ x, x < cpl u v → u[x]? = v[x]?) ∧ ¬ ∃ a, u[cpl u v]? = some a ∧ v[cpl u v]? = some a
  | [], v => by
    have e : cpl [] v = 0 := by unfold cpl; rfl
    rw [e]
    exact ⟨Nat.zero_le _, Nat.zero_le _, fun x hx => absurd hx (Nat.not_lt_zero x), fun ⟨a, h, _⟩ => by cases h⟩
  | a :: u, [] => by
    have e : cpl (a :: u) [] = 0 := by unfold cpl; rfl
    rw [e]
    exact ⟨Nat.zero_le _, Nat.zero_le _, fun x hx => absurd hx (Nat.not_lt_zero x), fun ⟨a, _, h⟩ => by cases h⟩
  | a :: u, b :: v => by
    obtain ⟨h1, h2, h3, h4⟩ := cpl_ok u v
    by_cases e : a = b
    · have e' : cpl (a :: u) (b :: v) = cpl u v + 1 := by rw [cpl, if_pos e]
      rw [e']
      refine ⟨Nat.succ_le_succ h1, Nat.succ_le_succ h2, fun x hx => ?_, fun ⟨c, c1, c2⟩ => h4 ⟨c, by simpa using c1, by simpa using c2⟩⟩
      cases x with
      | zero => simp [e]
      | succ x => simpa using h3 x (by omega)
    · have e' : cpl (a :: u) (b :: v) = 0 := by rw [cpl, if_neg e]
      rw [e']
      refine ⟨Nat.zero_le _, Nat.zero_le _, fun x hx => absurd hx (Nat.not_lt_zero x), fun ⟨c, c1, c2⟩ => e ?_⟩
      simp at c1 c2
      omega
theorem ext_cpl {u v : List Nat} {i j : Nat} (hi : i ≤ u.length) (hj : j ≤ v.length) : Lev.Ext u v i j (cpl (u.drop i) (v.drop j)) := by
  obtain ⟨h1, h2, h3, h4⟩ := cpl_ok (u.drop i) (v.drop j)
  rw [List.length_drop] at h1 h2
  refine ⟨by omega, by omega, fun x hx => ?_, fun ⟨a, a1, a2⟩ => h4 ⟨a, ?_, ?_⟩⟩
  · have := h3 x hx
    rwa [List.getElem?_drop, List.getElem?_drop] at this
  · rw [List.getElem?_drop]; exact a1
  · rw [List.getElem?_drop]; exact a2
theorem ext_uniq {u v : List Nat} {i j k k' : Nat} (h : Lev.Ext u v i j k) (h' : Lev.Ext u v i j k') : k = k' := by
  have key : ∀ {k k' : Nat}, Lev.Ext u v i j k → Lev.Ext u v i j k' → ¬ k < k' := fun {k k'} h h' l => by
    have e := h'.eq k l
    have b := h'.le1
    exact h.stop ⟨_, List.getElem?_eq_getElem (by omega), by rw [← e]; exact List.getElem?_eq_getElem (by omega)⟩
  have := key h h'
  have := key h' h
  omega
def frK (lo : Int) (n : Nat) (f : Int → Int) : List (Key × V) := (List.range n).map fun (i : Nat) => (.inl (lo + (i : Int)), .int (f (lo + (i : Int))))
theorem frK_succ (lo : Int) (n : Nat) (f : Int → Int) : frK lo (n + 1) f = frK lo n f ++ [(.inl (lo + (n : Int)), .int (f (lo + (n : Int))))] := by
  unfold frK; rw [List.range_succ, List.map_append]; rfl
theorem frK_len (lo : Int) (n : Nat) (f : Int → Int) : (frK lo n f).length = n := by unfold frK; rw [List.length_map, List.length_range]
theorem frK_val (lo : Int) (f : Int → Int) (d : Int) : ∀ n, valV (frK lo n f) (.inl d) = if lo ≤ d ∧ d < lo + n then some (.int (f d)) else none
  | 0 => by rw [if_neg (by omega)]; rfl
  | n + 1 => by
    have ih := fun d => frK_val lo f d n
    rw [frK_succ, valV_snoc _ _ _ _ (by rw [frK_val lo f _ n, if_neg (by omega)]), frK_val lo f d n]
    by_cases e : d = lo + n
    · subst e
      rw [if_pos rfl, if_pos (by omega)]
    · rw [if_neg (fun z => e (Sum.inl.inj z))]
      by_cases e2 : lo ≤ d ∧ d < lo + n
      · rw [if_pos e2, if_pos (by omega)]
      · rw [if_neg e2, if_neg (by omega)]
theorem frK_put (lo : Int) (n : Nat) (f : Int → Int) (y : Int) (e : f (lo + n) = y) : putK (frK lo n f) (.inl (lo + (n : Int))) (.int y) = frK lo (n + 1) f := by
  have h : (frK lo n f).any (fun kv => decide (kv.1 = (.inl (lo + (n : Int)) : Key))) = false := by
    rw [valV_any, frK_val, if_neg (by omega)]; rfl
  unfold putK
  rw [h, if_neg Bool.false_ne_true, frK_succ, e]
theorem frK_get (lo : Int) (n : Nat) (f : Int → Int) (d : Int) : (valV (frK lo n f) (.inl d)).getD (.int (-2)) = .int (Lev.rowAt lo (lo + n - 1) f d) := by
  rw [frK_val]
  unfold Lev.rowAt
  by_cases e : lo ≤ d ∧ d < lo + n
  · rw [if_pos e, if_pos (by omega)]; rfl
  · rw [if_neg e, if_neg (by omega)]; rfl
/-! ### row_behind -/
def spRow : Sp := fun vs H Q _ => ∃ (p : Addr) (u v : List Nat) (lo : Int) (n : Nat) (f : Int → Int) (d : Int), vs = [.ref p, .int d, .str (S u), .str (S v)] ∧ H p = some (.dK (frK lo n f)) ∧ Big u ∧ Big v ∧
  Q (.int (Lev.rowB u.length v.length lo (lo + n - 1) f d)) H
theorem ok_row_behind (T : Txt K mg) : FnOk P w K mg base CX0 1 T.f_row_behind T.fd_row_behind ["front", "diagonal", "one", "other"] spRow := by
  refine T.F_row_behind.ok sc_row_behind (fun vs H Q E h => ?_) (fun cdv A outer s H vs Q E hr h => ?_)
  · obtain ⟨p, u, v, lo, n, f, d, rfl, _⟩ := h; rfl
  · obtain ⟨p, u, v, lo, n, f, d, rfl, e, hu, hv, q⟩ := h
    refine ⟨_, (pss_cons (ps_set (i := 4) sc_row_behind.nd rfl (Or.inl rfl) (pe_op op_add (pe_dget2 (hu_of hr) (pv 0) (pv 1) (pe_glob (v := .int (-2)) rfl T.c_NOWHERE ⟨_, rfl⟩) ⟨rfl, rfl, rfl, rfl⟩) pe_int))
      (pss_cons (ps_set (i := 5) sc_row_behind.nd rfl (Or.inl rfl) (pe_op op_add (pe_dget2 (hu_of hr) (pv 0) (pe_op op_add (pv 1) pe_int) (pe_glob (v := .int (-2)) rfl T.c_NOWHERE ⟨_, rfl⟩) ⟨rfl, rfl, rfl, rfl⟩) pe_int))
      (pss_cons (ps_set (i := 6) sc_row_behind.nd rfl (Or.inl rfl) (pe_dget2 (hu_of hr) (pv 0) (pe_op op_sub (pv 1) pe_int) (pe_glob (v := .int (-2)) rfl T.c_NOWHERE ⟨_, rfl⟩) ⟨rfl, rfl, rfl, rfl⟩))
      (pss_one (ps_ret (pe_callB (call_min3 rfl) (by rfl) T.z_min (by decide +kernel) (pa_cons (pe_callB (call_max3 rfl) (by rfl) T.z_max (by decide +kernel) (pa_cons (pv 4) (pa_cons (pv 5) (pa_cons (pv 6) pa_nil)))) (pa_cons (pe_callB call_len_str (by rfl) T.z_len (by decide +kernel) (pa_cons (pv 2) pa_nil)) (pa_cons (pe_op op_sub (pe_callB call_len_str (by rfl) T.z_len (by decide +kernel) (pa_cons (pv 3) pa_nil)) (pv 1)) pa_nil))))))))), ?_⟩
    refine ⟨_, rfl, p, rfl, .inl ⟨_, .inl e⟩, _, rfl, _, DGet.k (k := .inl d) e, _, _, frK_get lo n f d, rfl, ?_⟩
    refine ⟨_, rfl, p, rfl, .inl ⟨_, .inl e⟩, _, rfl, _, _, rfl, rfl, _, DGet.k (k := .inl (d + 1)) e, _, _, frK_get lo n f (d + 1), rfl, ?_⟩
    refine ⟨_, rfl, p, rfl, .inl ⟨_, .inl e⟩, _, rfl, _, _, rfl, rfl, _, DGet.k (k := .inl (d - 1)) e, ?_⟩
    rw [frK_get lo n f (d - 1)]
    refine ⟨_, rfl, _, rfl, _, rfl, _, _, _, rfl, _, rfl, _, rfl, hu.fits, _, rfl, _, rfl, hv.fits, _, rfl, _, _, rfl, rfl, _, _, _, rfl, ?_⟩
    rw [S_len, S_len]
    exact q
/-! ### front_behind -/
def nextF (u v : List Nat) (lo hi : Int) (f : Int → Int) (d : Int) : Int :=
  Lev.rowB u.length v.length lo hi f d + (cpl (u.drop (Lev.rowB u.length v.length lo hi f d).toNat) (v.drop (Lev.rowB u.length v.length lo hi f d + d).toNat) : Nat)
def spFront : Sp := fun vs H Q _ => ∃ (p : Addr) (u v : List Nat) (lo : Int) (n : Nat) (f : Int → Int) (lo' hi' : Int), vs = [.ref p, .str (S u), .str (S v), .int lo', .int hi'] ∧ H p = some (.dK (frK lo n f)) ∧ Big u ∧ Big v ∧
  -1000000 ≤ lo' ∧ hi' ≤ 1000000 ∧ lo' ≤ 1000000 ∧ -1000000 ≤ hi' ∧
  (∀ d, lo' ≤ d → d ≤ hi' → 0 ≤ Lev.rowB u.length v.length lo (lo + n - 1) f d ∧ Lev.rowB u.length v.length lo (lo + n - 1) f d ≤ u.length ∧ 0 ≤ Lev.rowB u.length v.length lo (lo + n - 1) f d + d ∧ Lev.rowB u.length v.length lo (lo + n - 1) f d + d ≤ v.length) ∧
  ∀ q, H q = none → Q (.ref q) (upd H q (.dK (frK lo' (hi' + 1 - lo').toNat (nextF u v lo (lo + n - 1) f))))
theorem ok_front_behind (T : Txt K mg) : FnOk P w K mg base CX0 2 T.f_front_behind T.fd_front_behind ["front", "one", "other", "lowest", "highest"] spFront := by
  refine T.F_front_behind.ok sc_front_behind (fun vs H Q E h => ?_) (fun cdv A outer s H vs Q E hr h => ?_)
  · obtain ⟨p, u, v, lo, n, f, lo', hi', rfl, _⟩ := h; rfl
  · obtain ⟨p, u, v, lo, n, f, lo', hi', rfl, e, hu, hv, b1, b2, b3, b4, ok, k⟩ := h
    refine ⟨_, (pss_cons (ps_set (i := 5) sc_front_behind.nd rfl (Or.inl rfl) pe_dnewK)
      (pss_cons (ps_for PassesOwn.never rfl (pi_range2 rfl T.z_range (pa_cons (pv 3) (pa_cons (pe_op op_add (pv 4) pe_int) pa_nil))) (pg_name (i := 6) sc_front_behind.nd rfl (Or.inl rfl)) (pss_cons (ps_set (i := 7) sc_front_behind.nd rfl (Or.inl rfl) (pe_call (ok_row_behind T) (hr.mono (by decide)) rfl T.g_row_behind T.F_row_behind.kp T.b_row_behind .nil pass0 (pa_cons (pv 0) (pa_cons (pv 6) (pa_cons (pv 1) (pa_cons (pv 2) pa_nil))))))
      (pss_one (ps_dput (hu_of hr) (pv 5) (pv 6) (pe_op op_add (pv 7) (pe_call (ok_alike T) (hr.mono (by decide)) rfl T.g_alike T.F_alike.kp T.b_alike .nil pass0 (pa_cons (pv 1) (pa_cons (pv 7) (pa_cons (pv 2) (pa_cons (pe_op op_add (pv 7) (pv 6)) pa_nil)))))) rfl))))
      (pss_one (ps_ret (pv 5))))), ?_⟩
    intro q hq
    have npq : p ≠ q := ne_of_none e hq
    refine ⟨_, rfl, _, rfl, _, _, rfl, rfl, _, _, rfl, ⟨by omega, by omega, by omega, by omega⟩,
      for_range (lo := lo') (n := (hi' + 1 - lo').toNat) (fun i σ H' => ∃ x6 x7, σ = [some (.ref p), some (.str (S u)), some (.str (S v)), some (.int lo'), some (.int hi'), some (.ref q), x6, x7] ∧ H' = upd H q (.dK (frK lo' i (nextF u v lo (lo + n - 1) f))))
      ⟨none, none, rfl, rfl⟩ ?_ ?_⟩
    · rintro i σ H' hi ⟨x6, x7, rfl, rfl⟩
      obtain ⟨r1, r2, r3, r4⟩ := ok (lo' + i) (by omega) (by omega)
      have ef : nextF u v lo (lo + n - 1) f (lo' + i) = Lev.rowB u.length v.length lo (lo + n - 1) f (lo' + i) + (cpl (u.drop (Lev.rowB u.length v.length lo (lo + n - 1) f (lo' + i)).toNat) (v.drop (Lev.rowB u.length v.length lo (lo + n - 1) f (lo' + i) + (lo' + i)).toNat) : Nat) := rfl
      generalize hr0 : Lev.rowB u.length v.length lo (lo + n - 1) f (lo' + i) = r at *
      obtain ⟨a, rfl⟩ : ∃ a : Nat, r = a := ⟨r.toNat, by omega⟩
      obtain ⟨b, hb⟩ : ∃ b : Nat, (a : Int) + (lo' + i) = b := ⟨((a : Int) + (lo' + i)).toNat, by omega⟩
      refine ⟨_, rfl, _, rfl, _, rfl, _, rfl, p, u, v, lo, n, f, lo' + i, rfl, by rw [upd_ne npq]; exact e, hu, hv, ?_⟩
      rw [hr0]
      refine ⟨_, rfl, _, rfl, _, rfl, _, rfl, _, rfl, _, rfl, _, _, rfl, rfl, u, v, a, b, by show [V.str (S u), V.int (a : Int), V.str (S v), V.int ((a : Int) + (lo' + (i : Int)))] = _; rw [hb], hu, hv, by omega, by omega, fun c hc => ?_⟩
      refine ⟨_, _, rfl, rfl, _, rfl, _, rfl, q, _, rfl, DPut.k (k := .inl (lo' + i)) upd_same (by rw [frK_len]; exact Nat.lt_of_lt_of_le (by omega : i < 3000000) (by decide)), ?_⟩
      refine ⟨_, _, rfl, ?_⟩
      rw [upd_upd, frK_put]
      rw [ef, hb, Int.toNat_natCast, Int.toNat_natCast, ext_uniq hc (ext_cpl (by omega) (by omega))]
    · rintro σ H' ⟨x6, x7, rfl, rfl⟩
      exact ⟨_, rfl, k q hq⟩
end
end My

set_option Elab.async false
set_option linter.all false
set_option maxRecDepth 100000
set_option maxHeartbeats 4000000
namespace My
open PySem PySem.Spec PyProof.Rows L2
section
variable {P : Program} {w : World} {K : PySem.W.Frag} {mg : Str → Option Value} {base : Heap}
/-! ### fronts_of -/
def spFronts : Sp := fun vs H Q _ => ∃ (u v : List Nat) (most : Int), vs = [.str (S u), .str (S v), .int most] ∧ Big u ∧ Big v ∧ most ≤ 1000000 ∧
  ((Lev.D u v : Int) ≤ most → ∀ q xs H', Same H H' → H q = none → H' q = some (.lst xs) → xs.length = Lev.D u v + 1 → Q (.ref q) H') ∧ (¬ (Lev.D u v : Int) ≤ most → ∀ H', Same H H' → Q .non H')
theorem frK_one (k : Nat) : mergeK [] [((.inl 0 : Key), V.int (k : Int))] = frK 0 1 (fun _ => (k : Int)) := rfl
theorem band_ok {n m c : Nat} {most : Int} (h1 : (m : Int) - n ≤ most) (h2 : (n : Int) - m ≤ most) (hc : (c : Int) ≤ most) :
    max (max (-(c : Int)) (-(n : Int))) ((m : Int) - n - (most - c)) ≤ min (min (c : Int) (m : Int)) ((m : Int) - n + (most - c)) :=
  Int.max_le.mpr ⟨Int.max_le.mpr ⟨Int.le_min.mpr ⟨Int.le_min.mpr ⟨by omega, by omega⟩, by omega⟩, Int.le_min.mpr ⟨Int.le_min.mpr ⟨by omega, by omega⟩, by omega⟩⟩, Int.le_min.mpr ⟨Int.le_min.mpr ⟨by omega, by omega⟩, by omega⟩⟩
theorem ok_fronts_of (T : Txt K mg) : FnOk P w K mg base CX0 3 T.f_fronts_of T.fd_fronts_of ["one", "other", "most"] spFronts := by
  refine T.F_fronts_of.ok sc_fronts_of (fun vs H Q E h => ?_) (fun cdv A outer s H vs Q E hr h => ?_)
  · obtain ⟨u, v, m, rfl, _⟩ := h; rfl
  · obtain ⟨u, v, most, rfl, hu, hv, hm, kS, kN⟩ := h
    refine ⟨_, (pss_cons (ps_set (i := 3) sc_fronts_of.nd rfl (Or.inl rfl) (pe_op op_sub (pe_callB call_len_str (by rfl) T.z_len (by decide +kernel) (pa_cons (pv 1) pa_nil)) (pe_callB call_len_str (by rfl) T.z_len (by decide +kernel) (pa_cons (pv 0) pa_nil))))
      (pss_cons (ps_if (pt_cmpR op_gt (pe_callB call_abs (by rfl) T.z_abs (by decide +kernel) (pa_cons (pv 3) pa_nil)) (pv 2) (nomark _)) (pss_one (ps_ret pe_non)) pss_nil)
      (pss_cons (ps_set (i := 4) sc_fronts_of.nd rfl (Or.inl rfl) (pe_disp (pps_cons pe_int (pe_call (ok_alike T) (hr.mono (by decide)) rfl T.g_alike T.F_alike.kp T.b_alike .nil pass0 (pa_cons (pv 0) (pa_cons pe_int (pa_cons (pv 1) (pa_cons pe_int pa_nil))))) pps_nil) (by rfl) (by rfl) (fun z => by cases z) (by decide)))
      (pss_cons (ps_set (i := 5) sc_fronts_of.nd rfl (Or.inl rfl) (pe_lst (pa_cons (pv 4) pa_nil)))
      (pss_cons (ps_while PassesOwn.never (pt_cmpR op_ne (pe_dget1 (hu_of hr) (pv 4) (pv 3) ⟨rfl, rfl, rfl, rfl⟩) (pe_callB call_len_str (by rfl) T.z_len (by decide +kernel) (pa_cons (pv 0) pa_nil)) (nomark _)) (pss_cons (ps_set (i := 6) sc_fronts_of.nd rfl (Or.inl rfl) (pe_callB call_len_seq (by rfl) T.z_len (by decide +kernel) (pa_cons (pv 5) pa_nil)))
      (pss_cons (ps_if (pt_cmpR op_gt (pv 6) (pv 2) (nomark _)) (pss_one (ps_ret pe_non)) pss_nil)
      (pss_cons (ps_set (i := 7) sc_fronts_of.nd rfl (Or.inl rfl) (pe_op op_sub (pv 2) (pv 6)))
      (pss_cons (ps_set (i := 8) sc_fronts_of.nd rfl (Or.inl rfl) (pe_callB (call_max3 rfl) (by rfl) T.z_max (by decide +kernel) (pa_cons (pe_un un_neg (pv 6)) (pa_cons (pe_un un_neg (pe_callB call_len_str (by rfl) T.z_len (by decide +kernel) (pa_cons (pv 0) pa_nil))) (pa_cons (pe_op op_sub (pv 3) (pv 7)) pa_nil)))))
      (pss_cons (ps_set (i := 9) sc_fronts_of.nd rfl (Or.inl rfl) (pe_callB (call_min3 rfl) (by rfl) T.z_min (by decide +kernel) (pa_cons (pv 6) (pa_cons (pe_callB call_len_str (by rfl) T.z_len (by decide +kernel) (pa_cons (pv 1) pa_nil)) (pa_cons (pe_op op_add (pv 3) (pv 7)) pa_nil)))))
      (pss_cons (ps_set (i := 4) sc_fronts_of.nd rfl (Or.inl rfl) (pe_call (ok_front_behind T) (hr.mono (by decide)) rfl T.g_front_behind T.F_front_behind.kp T.b_front_behind .nil pass0 (pa_cons (pv 4) (pa_cons (pv 0) (pa_cons (pv 1) (pa_cons (pv 8) (pa_cons (pv 9) pa_nil)))))))
      (pss_one (ps_expr (pe_bm PySem.F.plainAttrs_list PySem.F.slot_list_append PySem.F.type_list_append mt_append (pv 5) (pa_cons (pv 4) pa_nil)))))))))))
      (pss_one (ps_ret (pv 5)))))))), ?_⟩
    refine ⟨_, rfl, _, rfl, hv.fits, _, rfl, _, rfl, hu.fits, _, _, rfl, rfl, ?_⟩
    rw [S_len, S_len]
    refine ⟨_, rfl, _, rfl, _, rfl, _, _, rfl, rfl, _, rfl, ite2 (fun c => ?_) (fun c => ?_)⟩
    · -- too far
      have c' := of_decide_eq_true c
      refine kN (fun z => ?_) H (Same.refl H)
      have := Lev.D_far (u := u) (v := v) (most := most) (fun y => by
        split at c' <;> omega)
      omega
    · have h1 : (v.length : Int) - u.length ≤ most := by
        refine Int.not_lt.mp fun z => c (decide_eq_true ?_)
        split <;> omega
      have h2 : (u.length : Int) - v.length ≤ most := by
        refine Int.not_lt.mp fun z => c (decide_eq_true ?_)
        split <;> omega
      intro p hp
      refine ⟨_, rfl, _, rfl, u, v, 0, 0, rfl, hu, hv, Nat.zero_le _, Nat.zero_le _, fun k hk => ⟨upd_same, [(.inl 0, .int k)], rfl, (by show 1 ≤ 15; decide), ?_⟩⟩
      rw [frK_one, upd_upd]
      refine ⟨_, rfl, (by show 1 ≤ sizeLine; decide), fun q hq => ?_⟩
      have nqp : p ≠ q := ne_of_none upd_same hq
      have hqn : H q = none := by rw [upd_ne nqp.symm] at hq; exact hq
      have s0 : Same H (upd (upd H p (.dK (frK 0 1 fun _ => (k : Int)))) q (.lst [.ref p])) := fun b o e => by
        rw [upd_ne (ne_of_none e hqn), upd_ne (ne_of_none e hp)]; exact e
      have G0 := Lev.good_zero (most := most) hk h1 h2
      refine ⟨fun m σ H' => ∃ (c : Nat) (lo : Int) (n : Nat) (f : Int → Int) (p : Addr) (xs : List V) (x6 x7 x8 x9 : Option V),
        σ = [some (.str (S u)), some (.str (S v)), some (.int most), some (.int ((v.length : Int) - u.length)), some (.ref p), some (.ref q), x6, x7, x8, x9] ∧ Same H H' ∧ H' q = some (.lst xs) ∧ xs.length = c + 1 ∧
        H' p = some (.dK (frK lo n f)) ∧ Lev.Good u v most c lo (lo + n - 1) f ∧ c ≤ Lev.D u v ∧ (c : Int) ≤ most ∧ m = (most - c).toNat,
        ⟨(most - (0 : Nat)).toNat, 0, 0, 1, _, p, [.ref p], none, none, none, none, rfl, s0, upd_same, rfl, by rw [upd_ne nqp]; exact upd_same, G0, Nat.zero_le _, by omega, rfl⟩, ?_⟩
      rintro m σ H' ⟨c, lo, n, f, p', xs, x6, x7, x8, x9, rfl, sH, eq, lx, ep, G, cD, cm, rfl⟩
      have goal := Lev.good_goal G cm cD
      have npq : p' ≠ q := ne_of ep eq (fun z => nomatch z)
      -- behind the loop
      have done : Lev.rowAt lo (lo + n - 1) f ((v.length : Int) - u.length) = u.length → Q (.ref q) H' := fun z => by
        have e := goal.1 z
        exact kS (by omega) q xs H' sH hqn eq (by omega)
      have body : Lev.rowAt lo (lo + n - 1) f ((v.length : Int) - u.length) ≠ u.length → c + 1 ≤ Lev.D u v := goal.2
      refine ⟨_, rfl, p', rfl, .inl ⟨_, .inl ep⟩, _, rfl, _, DGet.k (k := .inl ((v.length : Int) - u.length)) ep, _, rfl, _, rfl, hu.fits, ?_⟩
      have hget := frK_val lo f ((v.length : Int) - u.length) n
      have hne : ∀ (x : V), (valV (frK lo n f) (.inl ((v.length : Int) - u.length))).getD .non = x → scal x (.int ((S u).length : Int)) = true ∧ (x = .int ((S u).length : Int) ↔ Lev.rowAt lo (lo + n - 1) f ((v.length : Int) - u.length) = u.length) := by
        rintro x rfl
        rw [hget, S_len]
        unfold Lev.rowAt
        by_cases e : lo ≤ (v.length : Int) - u.length ∧ (v.length : Int) - u.length < lo + n
        · rw [if_pos e, if_pos (by omega)]
          exact ⟨rfl, ⟨fun z => (V.int.inj z), fun z => (congrArg V.int z)⟩⟩
        · rw [if_neg e, if_neg (by omega)]
          exact ⟨rfl, ⟨fun z => (nomatch z), fun z => (by omega)⟩⟩
      obtain ⟨x, hx⟩ : ∃ x, (valV (frK lo n f) (.inl ((v.length : Int) - u.length))).getD .non = x := ⟨_, rfl⟩
      obtain ⟨sc, iff⟩ := hne x hx
      rw [hx]
      refine ⟨sc, _, rfl, ?_⟩
      by_cases ex : x = .int ((S u).length : Int)
      · rw [decide_eq_true ex]
        exact iteF ⟨_, rfl, done (iff.mp ex)⟩
      · rw [decide_eq_false ex]
        refine iteT ?_
        have D1 := body (fun z => ex (iff.mpr z))
        refine ⟨fun σ' H2 => ∃ m', m' < (most - c).toNat ∧ ∃ (c : Nat) (lo : Int) (n : Nat) (f : Int → Int) (p : Addr) (xs : List V) (x6 x7 x8 x9 : Option V),
          σ' = [some (.str (S u)), some (.str (S v)), some (.int most), some (.int ((v.length : Int) - u.length)), some (.ref p), some (.ref q), x6, x7, x8, x9] ∧ Same H H2 ∧ H2 q = some (.lst xs) ∧ xs.length = c + 1 ∧
          H2 p = some (.dK (frK lo n f)) ∧ Lev.Good u v most c lo (lo + n - 1) f ∧ c ≤ Lev.D u v ∧ (c : Int) ≤ most ∧ m' = (most - c).toNat, fun _ _ z => z, ?_⟩
        refine ⟨_, rfl, q, xs, rfl, .inl (SqL.of eq), ?_⟩
        rw [lx]
        refine ⟨_, rfl, _, rfl, _, _, rfl, rfl, _, rfl, ite2 (fun c2 => ?_) (fun c2 => ?_)⟩
        · have c3 := of_decide_eq_true c2
          exact kN (fun z => by omega) H' sH
        · have c3 : ((c + 1 : Nat) : Int) ≤ most := Int.not_lt.mp fun z => c2 (decide_eq_true z)
          refine ⟨_, rfl, _, rfl, _, _, rfl, rfl, ?_⟩
          refine ⟨_, rfl, _, rfl, _, rfl, _, rfl, hu.fits, _, rfl, _, rfl, _, rfl, _, _, rfl, rfl, _, _, _, rfl, ?_⟩
          refine ⟨_, rfl, _, rfl, _, rfl, hv.fits, _, rfl, _, rfl, _, _, rfl, rfl, _, _, _, rfl, ?_⟩
          rw [S_len, S_len]
          have bo := band_ok (n := u.length) (m := v.length) (c := c + 1) h1 h2 c3
          have inb := fun d => Lev.inB_of (n := u.length) (m := v.length) (c := c + 1) (most := most) (d := d) rfl rfl
          have lb1 : -(u.length : Int) ≤ max (max (-((c + 1 : Nat) : Int)) (-(u.length : Int))) ((v.length : Int) - u.length - (most - (c + 1 : Nat))) := by omega
          have hb1 : min (min ((c + 1 : Nat) : Int) (v.length : Int)) ((v.length : Int) - u.length + (most - (c + 1 : Nat))) ≤ v.length := by omega
          generalize max (max (-((c + 1 : Nat) : Int)) (-(u.length : Int))) ((v.length : Int) - u.length - (most - (c + 1 : Nat))) = lo' at *
          generalize min (min ((c + 1 : Nat) : Int) (v.length : Int)) ((v.length : Int) - u.length + (most - (c + 1 : Nat))) = hi' at *
          have bu : u.length ≤ 100000 := hu
          have bv : v.length ≤ 100000 := hv
          refine ⟨_, rfl, _, rfl, _, rfl, _, rfl, _, rfl, p', u, v, lo, n, f, lo', hi', rfl, ep, hu, hv, by omega, by omega, by omega, by omega, fun d d1 d2 => ?_, fun q' hq' => ?_⟩
          · obtain ⟨r, er, r1, r2, r3, r4, _⟩ := Lev.rowB_ok G ((inb d).mpr ⟨d1, d2⟩)
            rw [er]
            exact ⟨r1, r2, r3, r4⟩
          · have nq : q ≠ q' := ne_of_none eq hq'
            refine ⟨_, rfl, .inl ⟨rfl, _, SqL.of (by rw [upd_ne nq]; exact eq)⟩, _, rfl, q, xs, _, rfl, rfl, by rw [upd_ne nq]; exact eq, Nat.lt_of_lt_of_le (by omega : xs.length < 2000000) (by decide), ?_⟩
            have en : lo' + ((hi' + 1 - lo').toNat : Int) - 1 = hi' := by omega
            refine ⟨(most - (c + 1 : Nat)).toNat, by omega, c + 1, lo', (hi' + 1 - lo').toNat, nextF u v lo (lo + n - 1) f, q', xs ++ [.ref q'], _, _, _, _, rfl, fun b o e => ?_, upd_same, by rw [List.length_append, lx]; rfl, ?_, ?_, D1, c3, rfl⟩
            · have nb : b ≠ q := ne_of_none e hqn
              rw [upd_ne nb, upd_ne (ne_of_none (sH b o e) hq')]
              exact sH b o e
            · rw [upd_ne nq.symm, upd_same]
            · rw [en]
              refine Lev.good_succ G inb fun d d1 d2 => ?_
              obtain ⟨r, er, r1, r2, r3, r4, _⟩ := Lev.rowB_ok G ((inb d).mpr ⟨d1, d2⟩)
              refine ⟨cpl (u.drop (Lev.rowB u.length v.length lo (lo + n - 1) f d).toNat) (v.drop (Lev.rowB u.length v.length lo (lo + n - 1) f d + d).toNat), ext_cpl (by rw [er]; omega) (by rw [er]; omega), rfl⟩
end
end My

set_option Elab.async false
set_option linter.all false
set_option maxRecDepth 100000
set_option maxHeartbeats 4000000
namespace My
open PySem PySem.Spec PyProof.Rows L2
section
variable {P : Program} {w : World} {K : PySem.W.Frag} {mg : Str → Option Value} {base : Heap}
/-! ### fewest_changes -/
def spFewest : Sp := fun vs H Q _ => ∃ (u v : List Nat) (most : Int), vs = [.str (S u), .str (S v), .int most] ∧ Big u ∧ Big v ∧ most ≤ 1000000 ∧
  ((Lev.D u v : Int) ≤ most → ∀ H', Same H H' → Q (.int (Lev.D u v : Nat)) H') ∧ (¬ (Lev.D u v : Int) ≤ most → ∀ H', Same H H' → Q .non H')
theorem ok_fewest_changes (T : Txt K mg) : FnOk P w K mg base CX0 4 T.f_fewest_changes T.fd_fewest_changes ["one", "other", "most"] spFewest := by
  refine T.F_fewest_changes.ok sc_fewest_changes (fun vs H Q E h => ?_) (fun cdv A outer s H vs Q E hr h => ?_)
  · obtain ⟨u, v, m, rfl, _⟩ := h; rfl
  · obtain ⟨u, v, most, rfl, hu, hv, hm, kS, kN⟩ := h
    refine ⟨_, (pss_cons (ps_set (i := 3) sc_fewest_changes.nd rfl (Or.inl rfl) (pe_call (ok_fronts_of T) (hr.mono (by decide)) rfl T.g_fronts_of T.F_fronts_of.kp T.b_fronts_of .nil pass0 (pa_cons (pv 0) (pa_cons (pv 1) (pa_cons (pv 2) pa_nil)))))
      (pss_cons (ps_if (pt_cmp (pc_isN (pv 3))) (pss_one (ps_ret pe_non)) pss_nil)
      (pss_one (ps_ret (pe_op op_sub (pe_callB call_len_seq (by rfl) T.z_len (by decide +kernel) (pa_cons (pv 3) pa_nil)) pe_int))))), ?_⟩
    refine ⟨_, rfl, _, rfl, _, rfl, u, v, most, rfl, hu, hv, hm, fun hD q xs H' sH hq eq lx => ?_, fun hD H' sH => ?_⟩
    · refine ⟨_, rfl, _, rfl, iteF ?_⟩
      refine ⟨_, rfl, q, xs, rfl, .inl (SqL.of eq), _, _, rfl, rfl, ?_⟩
      have e : (xs.length : Int) - 1 = (Lev.D u v : Nat) := by omega
      show Q (.int ((xs.length : Int) - 1)) H'
      rw [e]
      exact kS hD H' sH
    · refine ⟨_, rfl, _, rfl, iteT ?_⟩
      exact kN hD H' sH
/-! ### check_texts -/
/-- whether a value is a text, as is_text says -/
def Jd (K : PySem.W.Frag) (H : Hp) (x : V) (b : Bool) : Prop := (∃ z, x = .str z ∧ b = isT z) ∨ ∃ t, TyX K H x (.type t) ∧ kitB t "str" = some false ∧ b = false
/-- an InvalidText of x -/
def Bad (C : Addr) (H : Hp) (x : V) (E : XK) : Prop := ∀ d H', Same H H' → H d = none → H' d = some (.xd (gvn x)) → E (.ref C) (some d) H'
def spCheck (K : PySem.W.Frag) (C : Addr) : Sp := fun vs H Q E => ∃ x y bx b2, vs = [x, y] ∧ Jd K H x bx ∧ Jd K H y b2 ∧ (∀ t, H t = none → Jd K (upd H t (.tup [x, y])) x bx ∧ Jd K (upd H t (.tup [x, y])) y b2) ∧
  (bx = false → Bad C H x E) ∧ (bx = true → b2 = false → Bad C H y E) ∧ (bx = true → b2 = true → ∀ H', Same H H' → Q .non H')
theorem ok_check_texts (T : Txt K mg) : FnOk P w K mg base (L2.CX P w) 3 T.f_check_texts T.fd_check_texts ["one", "other"] (spCheck K T.C_InvalidText) := by
  refine T.F_check_texts.okX sc_check_texts (fun vs H Q E h => ?_) (fun cdv A outer s H vs Q E hr h => ?_)
  · obtain ⟨x, y, _, _, rfl, _⟩ := h; rfl
  · obtain ⟨x, y, bx, b2, rfl, _, _, hj, kX, kY, kQ⟩ := h
    refine ⟨_, (pss_one (ps_for (passes_of rfl) rfl (pi_tup (pe_tup (pa_cons (pv 0) (pa_cons (pv 1) pa_nil)))) (pg_name (i := 2) sc_check_texts.nd rfl (Or.inl rfl)) (pss_one (ps_if (pt_not (pt_val (pe_call (ok_is_text T) (hr.mono (by decide)) rfl T.g_is_text T.F_is_text.kp T.b_is_text .nil pass0 (pa_cons (pv 2) pa_nil)))) (pss_one (ps_raiseE rfl T.e_InvalidText hr (takes_of rfl rfl rfl rfl) (pa_cons (pv 2) pa_nil))) pss_nil)))), ?_⟩
    refine ⟨_, rfl, _, rfl, (by show 2 ≤ sizeLine; decide), fun t ht => ?_⟩
    obtain ⟨jx, jy⟩ := hj t ht
    have st : Same H (upd H t (.tup [x, y])) := fun b o e => by rw [upd_ne (ne_of_none e ht)]; exact e
    refine ⟨t, rfl, ⟨_, SqT.of upd_same⟩, for_tup (K := K) (a := t) (xs := [x, y]) (fun i σ H' => ∃ x2, σ = [some x, some y, x2] ∧ H' = upd H t (.tup [x, y]) ∧ (1 ≤ i → bx = true) ∧ (2 ≤ i → b2 = true))
      ⟨none, rfl, rfl, fun z => by omega, fun z => by omega⟩ (fun i σ H' _ ⟨_, _, e, _⟩ => by rw [e]; exact SqT.of upd_same) ?_ ?_⟩
    · rintro i z σ H' hz ⟨x2, rfl, rfl, h1, h2⟩
      have step : ∀ (z : V) (b : Bool) (N : L2.St → Hp → Prop), Jd K (upd H t (.tup [x, y])) z b → (b = false → Bad T.C_InvalidText H z E) → (b = true → N [some x, some y, some z] (upd H t (.tup [x, y]))) →
          tIfS (tNot (tB (tCall (spIsText K) [] E0 (tCons (tVar 2) tNil)))) (tRaiseE T.C_InvalidText (fun cls d _ H => E cls d H) (tCons (tVar 2) tNil)) tNext
            { nx := N, rt := Q, bk := fun σ' H' => Q .non H', ct := N } [some x, some y, some z] (upd H t (.tup [x, y])) := by
        intro z b N jz kb kn
        have raise_ : b = false → tRaiseE T.C_InvalidText (fun cls d _ H => E cls d H) (tCons (tVar 2) tNil) { nx := N, rt := Q, bk := fun σ' H' => Q .non H', ct := N } [some x, some y, some z] (upd H t (.tup [x, y])) := fun e => by
          refine ⟨_, rfl, z, rfl, fun d hd => ?_⟩
          have hdn : H d = none := st.free hd
          exact kb e d _ (fun b o q => by rw [upd_ne (ne_of_none (st b o q) hd)]; exact st b o q) hdn upd_same
        rcases jz with ⟨s, rfl, rfl⟩ | ⟨ty, h1, h2, rfl⟩
        · refine ⟨_, rfl, _, rfl, .inl ⟨s, rfl, _, rfl, ?_⟩⟩
          cases e : isT s with
          | true => exact iteF (kn e)
          | false => exact iteT (raise_ e)
        · exact ⟨_, rfl, _, rfl, .inr ⟨ty, h1, h2, _, rfl, iteT (raise_ rfl)⟩⟩
      match i, hz with
      | 0, hz =>
        obtain rfl : x = z := Option.some.inj hz
        exact step x bx _ jx kX fun e => ⟨_, rfl, rfl, fun _ => e, fun z => by omega⟩
      | 1, hz =>
        obtain rfl : y = z := Option.some.inj hz
        have e1 := h1 (Nat.le_refl _)
        exact step y b2 _ jy (kY e1) fun e => ⟨_, rfl, rfl, fun _ => e1, fun _ => e⟩
      | i + 2, hz => simp at hz
    · rintro σ H' ⟨x2, rfl, rfl, h1, h2⟩
      exact kQ (h1 (by show 1 ≤ 2; omega)) (h2 (by show 2 ≤ 2; omega)) _ st
end
end My

set_option Elab.async false
set_option linter.all false
set_option maxRecDepth 100000
set_option maxHeartbeats 8000000
namespace My
open PySem PySem.Spec PyProof.Rows L2
/-! ### columns of bits -/
theorem cshl {x : Int} {k : Nat} (h : x.natAbs < 2 ^ k) (hk : k ≤ 2000) : CShl x 1 := by
  refine ⟨by omega, ?_⟩
  have : Builtin.Int.intBits x ≤ k := by
    unfold Builtin.Int.intBits
    split
    · omega
    · rename_i hx
      have h0 : x.natAbs ≠ 0 := by
        intro z
        have : x = 0 := by omega
        subst this
        exact hx rfl
      have := (Nat.log2_lt h0).mpr h
      omega
  have e : (2 : Int) ^ 27 = 134217728 := by decide
  omega
theorem through2 {t : TE} {σ : L2.St} {H : Hp} {Q : VK} (R : V → Hp → Prop) (h : ∀ Q' : VK, (∀ v H', R v H' → Q' v H') → t σ H Q') (rest : ∀ v H', R v H' → Q v H') : t σ H Q := h Q rest
theorem Same.new {q : Addr} {H H' : Hp} {o : HO} (k : Same H H') (h : H' q = none) : Same H (upd H' q o) := fun b ob e => by
  rw [upd_ne (ne_of_none (k b ob e) h)]; exact k b ob e
/-- for each letter the bits of its places among the first j -/
def Plc (kvs : List (Key × V)) (p : List Nat) (j : Nat) : Prop := kvs.length ≤ j ∧ ∀ c : Nat, ∃ n : Nat, (valV kvs (.inr ⟨#[c]⟩)).getD (.int 0) = .int (n : Nat) ∧ n < 2 ^ j ∧ ∀ i, n.testBit i = decide (i < j ∧ p[i]? = some c)
theorem Plc.nil (p : List Nat) : Plc [] p 0 := ⟨Nat.le_refl _, fun c => ⟨0, rfl, by decide, fun i => by rw [Nat.zero_testBit]; simp⟩⟩
theorem Plc.step {kvs : List (Key × V)} {p : List Nat} {j c n : Nat} (h : Plc kvs p j) (hc : p[j]? = some c) (hn : (valV kvs (.inr ⟨#[c]⟩)).getD (.int 0) = .int (n : Nat)) : Plc (putK kvs (.inr ⟨#[c]⟩) (.int ((n ||| 2 ^ j : Nat) : Int))) p (j + 1) := by
  obtain ⟨hl, h⟩ := h
  refine ⟨Nat.le_trans (length_putK kvs _ _) (by omega), fun x => ?_⟩
  rw [valV_put]
  have two : 2 ^ j < 2 ^ (j + 1) := by rw [Nat.pow_succ]; have := Nat.two_pow_pos j; omega
  by_cases e : x = c
  · subst e
    rw [if_pos rfl]
    obtain ⟨m, e1, l1, b1⟩ := h x
    have : m = n := by rw [e1] at hn; have := V.int.inj hn; omega
    subst this
    refine ⟨m ||| 2 ^ j, rfl, Nat.or_lt_two_pow (by omega) two, fun i => ?_⟩
    rw [Nat.testBit_or, b1, Nat.testBit_two_pow]
    by_cases q : j = i
    · subst q; simp [hc]
    · rw [decide_eq_false q, Bool.or_false]
      by_cases l : i < j
      · simp [l, Nat.lt_succ_of_lt l]
      · have l2 : ¬ i < j + 1 := by omega
        simp [l, l2]
  · have ne : (Sum.inr (⟨#[x]⟩ : Str) : Key) ≠ .inr ⟨#[c]⟩ := fun z => e (by
      have := Sum.inr.inj z
      injection this with this
      injection this with this
      injection this)
    rw [if_neg ne]
    obtain ⟨m, e1, l1, b1⟩ := h x
    refine ⟨m, e1, by omega, fun i => ?_⟩
    rw [b1]
    by_cases q : i = j
    · subst q
      have : p[i]? ≠ some x := by rw [hc]; intro z; exact e (Option.some.inj z).symm
      simp [this]
    · have l : i < j ↔ i < j + 1 := by omega
      simp [l]
section
variable {P : Program} {w : World} {K : PySem.W.Frag} {mg : Str → Option Value} {base : Heap}
def spPlaces : Sp := fun vs H Q _ => ∃ p : List Nat, vs = [.str (S p)] ∧ p.length ≤ 1000 ∧ ∀ q kvs, H q = none → Plc kvs p p.length → Q (.ref q) (upd H q (.dK kvs))
theorem ok_places_of (T : Txt K mg) : FnOk P w K mg base CX0 1 T.f_places_of T.fd_places_of ["pattern"] spPlaces := by
  refine T.F_places_of.ok sc_places_of (fun vs H Q E h => ?_) (fun cdv A outer s H vs Q E hr h => ?_)
  · obtain ⟨p, rfl, _⟩ := h; rfl
  · obtain ⟨p, rfl, hp, k⟩ := h
    refine ⟨_, (pss_cons (ps_set (i := 1) sc_places_of.nd rfl (Or.inl rfl) pe_dnewK)
      (pss_cons (ps_set (i := 2) sc_places_of.nd rfl (Or.inl rfl) pe_int)
      (pss_cons (ps_for PassesOwn.never rfl (pi_str (pv 0)) (pg_name (i := 3) sc_places_of.nd rfl (Or.inl rfl)) (pss_cons (ps_dput (hu_of hr) (pv 1) (pv 3) (pe_op op_or (pe_dget2 (hu_of hr) (pv 1) (pv 3) pe_int ⟨rfl, rfl, rfl, rfl⟩) (pv 2)) rfl)
      (pss_one (ps_set (i := 2) sc_places_of.nd rfl (Or.inl rfl) (pe_op op_shlW (pv 2) pe_int)))))
      (pss_one (ps_ret (pv 1)))))), ?_⟩
    intro q hq
    refine ⟨_, rfl, _, rfl, for_it walk_str (n := p.length) (fun i σ H' => ∃ kvs x3, σ = [some (.str (S p)), some (.ref q), some (.int ((2 ^ i : Nat) : Int)), x3] ∧ H' = upd H q (.dK kvs) ∧ Plc kvs p i) ⟨[], none, rfl, rfl, Plc.nil p⟩ (fun _ _ _ _ _ => trivial) ?_ ?_⟩
    · rintro i x σ H1 H2 hi ⟨kvs, x3, rfl, rfl, hk⟩ ⟨rfl, c, gc, rfl⟩
      obtain ⟨n, en, ln, bn⟩ := hk.2 c
      have gc' : p[i]? = some c := by simpa [S] using gc
      have h2 : (((2 ^ i : Nat) : Int)).natAbs < 2 ^ (i + 1) := by rw [Int.natAbs_natCast, Nat.pow_succ]; have := Nat.two_pow_pos i; omega
      refine ⟨_, rfl, q, rfl, .inl ⟨_, .inl upd_same⟩, _, rfl, _, DGet.k (k := .inr ⟨#[c]⟩) upd_same, ?_⟩
      rw [en]
      refine ⟨_, rfl, _, _, rfl, rfl, ?_⟩
      have hst : Plc (putK kvs (.inr ⟨#[c]⟩) (.int (Builtin.bitOr (n : Int) ((2 ^ i : Nat) : Int)))) p (i + 1) := by rw [Cols.or_nat]; exact hk.step gc' en
      refine ⟨_, rfl, _, rfl, q, _, rfl, DPut.k (k := .inr ⟨#[c]⟩) upd_same (Nat.lt_of_le_of_lt hk.1 (Nat.lt_of_lt_of_le (by omega : i < 10000) (by decide))), ?_⟩
      refine ⟨_, rfl, _, _, rfl, rfl, cshl h2 (by omega), _, some (.str ⟨#[c]⟩), ?_, upd_upd, hst⟩
      have e2 : ((2 ^ i : Nat) : Int) * 2 ^ (1 : Int).toNat = ((2 ^ (i + 1) : Nat) : Int) := by
        rw [Nat.pow_succ, Int.natCast_mul]; rfl
      show [some (V.str (S p)), some (V.ref q), some (V.int (((2 ^ i : Nat) : Int) * 2 ^ (1 : Int).toNat)), _] = _
      rw [e2]
    · rintro σ H1 ⟨kvs, x3, rfl, rfl, hk⟩
      exact ⟨_, rfl, k q kvs hq hk⟩
def spColumn : Sp := fun vs H Q _ => ∃ (p t : List Nat) (q : Addr) (kvs : List (Key × V)), vs = [.int (2 ^ p.length - 1), .int 0, .str (S t), .ref q, .int (2 ^ p.length - 1)] ∧ p.length ≤ 1000 ∧ H q = some (.dK kvs) ∧ Plc kvs p p.length ∧
  ∀ (u d : Nat) a, Cols.At p t t.length u d → H a = none → Q (.ref a) (upd H a (.tup [.int u, .int d]))
theorem ok_column_behind (T : Txt K mg) : FnOk P w K mg base CX0 1 T.f_column_behind T.fd_column_behind ["up", "down", "letters", "places", "whole"] spColumn := by
  refine T.F_column_behind.ok sc_column_behind (fun vs H Q E h => ?_) (fun cdv A outer s H vs Q E hr h => ?_)
  · obtain ⟨p, t, q, kvs, rfl, _⟩ := h; rfl
  · obtain ⟨p, t, q, kvs, rfl, hp, hq, hk, k⟩ := h
    refine ⟨_, (pss_cons (ps_for PassesOwn.never rfl (pi_str (pv 2)) (pg_name (i := 5) sc_column_behind.nd rfl (Or.inl rfl)) (pss_cons (ps_set (i := 6) sc_column_behind.nd rfl (Or.inl rfl) (pe_dget2 (hu_of hr) (pv 3) (pv 5) pe_int ⟨rfl, rfl, rfl, rfl⟩))
      (pss_cons (ps_set (i := 7) sc_column_behind.nd rfl (Or.inl rfl) (pe_op op_or (pe_op op_or (pe_op op_xor (pe_op op_add (pe_op op_and (pv 6) (pv 0)) (pv 0)) (pv 0)) (pv 6)) (pv 1)))
      (pss_cons (ps_set (i := 8) sc_column_behind.nd rfl (Or.inl rfl) (pe_op op_or (pe_op op_shlW (pe_op op_or (pv 1) (pe_un un_inv (pe_op op_or (pv 7) (pv 0)))) pe_int) pe_int))
      (pss_cons (ps_set (i := 9) sc_column_behind.nd rfl (Or.inl rfl) (pe_op op_shlW (pe_op op_and (pv 7) (pv 0)) pe_int))
      (pss_cons (ps_set (i := 0) sc_column_behind.nd rfl (Or.inl rfl) (pe_op op_and (pe_op op_or (pv 9) (pe_un un_inv (pe_op op_or (pv 7) (pv 8)))) (pv 4)))
      (pss_one (ps_set (i := 1) sc_column_behind.nd rfl (Or.inl rfl) (pe_op op_and (pe_op op_and (pv 7) (pv 8)) (pv 4))))))))))
      (pss_one (ps_ret (pe_tup (pa_cons (pv 0) (pa_cons (pv 1) pa_nil)))))), ?_⟩
    have w0 : (2 : Int) ^ p.length - 1 = ((2 ^ p.length - 1 : Nat) : Int) := by
      have := Nat.two_pow_pos p.length
      rw [Int.natCast_sub (by omega)]
      simp
    refine ⟨_, rfl, _, rfl, for_it walk_str (n := t.length) (fun i σ H' => ∃ (u d : Nat) (x5 x6 x7 x8 x9 : Option V), σ = [some (.int u), some (.int d), some (.str (S t)), some (.ref q), some (.int (2 ^ p.length - 1)), x5, x6, x7, x8, x9] ∧ H' = H ∧ Cols.At p t i u d) ⟨2 ^ p.length - 1, 0, none, none, none, none, none, ?_, rfl, Cols.At.start p t⟩ (fun _ _ _ _ _ => trivial) ?_ ?_⟩
    · rw [w0]; rfl
    · rintro i x σ H1 H2 hi ⟨u, d, x5, x6, x7, x8, x9, rfl, rfl, hat⟩ ⟨rfl, c, gc, rfl⟩
      have gc' : t[i]? = some c := by simpa [S] using gc
      obtain ⟨n, en, ln, bn⟩ := hk.2 c
      refine ⟨_, rfl, q, rfl, .inl ⟨_, .inl hq⟩, _, rfl, _, DGet.k (k := .inr ⟨#[c]⟩) hq, ?_⟩
      rw [en]
      have lu := hat.2.1
      have ld := hat.2.2
      have t1 : (2 : Nat) ^ p.length < 2 ^ (p.length + 1) := by rw [Nat.pow_succ]; have := Nat.two_pow_pos p.length; omega
      have t3 : (2 : Nat) ^ (p.length + 1) = 2 ^ p.length + 2 ^ p.length := by rw [Nat.pow_succ]; omega
      -- level
      refine ⟨_, rfl, _, rfl, _, _, rfl, rfl, _, rfl, _, _, rfl, rfl, _, rfl, _, _, rfl, rfl, _, rfl, _, _, rfl, rfl, _, rfl, _, _, rfl, rfl, ?_⟩
      have la : n &&& u ≤ u := Nat.and_le_right
      have elev : Builtin.bitOr (Builtin.bitOr (Builtin.bitXor (Builtin.bitAnd (n : Int) u + u) u) n) d = (((((n &&& u) + u) ^^^ u) ||| n ||| d : Nat) : Int) := by
        rw [Cols.and_natn, show ((n &&& u : Nat) : Int) + (u : Int) = (((n &&& u) + u : Nat) : Int) by omega, Cols.xor_nat, Cols.or_nat, Cols.or_nat]
      obtain ⟨lev, hlev⟩ : ∃ lev : Nat, lev = (((n &&& u) + u) ^^^ u) ||| n ||| d := ⟨_, rfl⟩
      have llev : lev < 2 ^ (p.length + 1) := by
        rw [hlev]
        exact Nat.or_lt_two_pow (Nat.or_lt_two_pow (Nat.xor_lt_two_pow (by omega) (by omega)) (by omega)) (by omega)
      have elev2 : Builtin.bitOr (Builtin.bitOr (Builtin.bitXor (Builtin.bitAnd (n : Int) u + u) u) n) d = (lev : Int) := by rw [elev, hlev]
      show gName 7 (V.int (Builtin.bitOr (Builtin.bitOr (Builtin.bitXor (Builtin.bitAnd (n : Int) u + u) u) n) d)) _ _ _
      rw [elev2]
      -- raised
      have lor : (lev ||| u) < 2 ^ (p.length + 1) := Nat.or_lt_two_pow llev (by omega)
      have rb : Builtin.bitOr (d : Int) (Builtin.bitNot ((lev ||| u : Nat) : Int)) = Builtin.bitNot (Builtin.bitAnd (Builtin.bitNot d) ((lev ||| u : Nat) : Int)) := by
        unfold Builtin.bitOr
        congr 2
        unfold Builtin.bitNot
        omega
      have rr := PyProof.Rows.bitAnd_range (Builtin.bitNot (d : Int)) (y := ((lev ||| u : Nat) : Int)) (by omega)
      have cb : (Builtin.bitOr (d : Int) (Builtin.bitNot (Builtin.bitOr (lev : Int) u))).natAbs < 2 ^ (p.length + 2) := by
        have t4 : (2 : Nat) ^ (p.length + 2) = 2 ^ (p.length + 1) + 2 ^ (p.length + 1) := by rw [Nat.pow_succ]; omega
        rw [Cols.or_nat, rb]
        unfold Builtin.bitNot at rr ⊢
        omega
      refine ⟨_, rfl, _, rfl, _, rfl, _, _, rfl, rfl, _, rfl, _, _, rfl, rfl, _, _, rfl, rfl, cshl cb (by omega), _, _, rfl, rfl, ?_⟩
      -- lowered
      have cb2 : (Builtin.bitAnd (lev : Int) u).natAbs < 2 ^ (p.length + 2) := by
        rw [Cols.and_natn]
        have t4 : (2 : Nat) ^ (p.length + 2) = 2 ^ (p.length + 1) + 2 ^ (p.length + 1) := by rw [Nat.pow_succ]; omega
        have : lev &&& u ≤ u := Nat.and_le_right
        omega
      refine ⟨_, rfl, _, rfl, _, _, rfl, rfl, _, _, rfl, rfl, cshl cb2 (by omega), ?_⟩
      refine ⟨_, rfl, _, rfl, _, rfl, _, _, rfl, rfl, _, rfl, _, _, rfl, rfl, _, rfl, _, _, rfl, rfl, ?_⟩
      refine ⟨_, rfl, _, rfl, _, _, rfl, rfl, _, rfl, _, _, rfl, rfl, ?_⟩
      obtain ⟨u2, d2, eu, ed, hat2⟩ := hat.step (same := n) (fun j hj => by rw [Cols.B_nat, bn j, gc']; simp [hj]) elev2.symm rfl rfl rfl rfl
      refine ⟨u2, d2, some (.str ⟨#[c]⟩), some (.int n), some (.int lev), some (.int (Builtin.bitOr (Builtin.bitOr (d : Int) (Builtin.bitNot (Builtin.bitOr (lev : Int) u)) * 2 ^ Int.toNat 1) 1)), some (.int (Builtin.bitAnd (lev : Int) u * 2 ^ Int.toNat 1)), ?_, rfl, hat2⟩
      rw [← eu, ← ed]
      rfl
    · rintro σ H1 ⟨u, d, x5, x6, x7, x8, x9, rfl, rfl, hat⟩
      exact ⟨_, rfl, _, rfl, (by show 2 ≤ sizeLine; decide), fun a ha => k u d a hat ha⟩
def spOnes : Sp := fun vs H Q _ => ∃ n k : Nat, vs = [.int n] ∧ n < 2 ^ k ∧ k ≤ 1000 ∧ Q (.int (Cols.ones (Nat.toDigits 2 n) : Nat)) H
theorem toDigits_len (n k : Nat) (h : n < 2 ^ k) : (Nat.toDigits 2 n).length ≤ k + 1 := by
  have go : ∀ (fuel n k : Nat) (ds : List Char), n < 2 ^ k → (Nat.toDigitsCore 2 fuel n ds).length ≤ ds.length + k + 1 := by
    intro fuel
    induction fuel with
    | zero => intro n k ds _; unfold Nat.toDigitsCore; omega
    | succ fuel ih =>
      intro n k ds h
      unfold Nat.toDigitsCore
      show (if n / 2 = 0 then _ else _ : List Char).length ≤ _
      by_cases h0 : n / 2 = 0
      · rw [if_pos h0, List.length_cons]; omega
      · rw [if_neg h0]
        cases k with
        | zero => simp at h; subst h; simp at h0
        | succ k =>
          have := ih (n / 2) k (Nat.digitChar (n % 2) :: ds) (by rw [Nat.pow_succ] at h; omega)
          rw [List.length_cons] at this
          omega
  have := go (n + 1) n k [] h
  unfold Nat.toDigits
  simp at this
  omega
theorem cnt_ones : ∀ l : List Char, PyProof.Rows.cnt 49 (l.map Char.toNat) = (Cols.ones l : Nat)
  | [] => rfl
  | c :: l => by
    show PyProof.Rows.cnt 49 (c.toNat :: l.map Char.toNat) = _
    rw [PyProof.Rows.cnt_cons, cnt_ones l, Cols.ones_cons]
    have : (c.toNat = 49) ↔ (c == '1') = true := by
      rw [beq_iff_eq]
      constructor
      · intro h; exact Char.ext (UInt32.toNat_inj.mp h)
      · intro h; subst h; rfl
    by_cases e : c.toNat = 49
    · rw [if_pos e, if_pos (this.mp e)]; omega
    · rw [if_neg e, if_neg (fun z => e (this.mpr z))]; omega
theorem ok_ones (T : Txt K mg) : FnOk P w K mg base CX0 1 T.f_ones T.fd_ones ["bits"] spOnes := by
  refine T.F_ones.ok sc_ones (fun vs H Q E h => ?_) (fun cdv A outer s H vs Q E hr h => ?_)
  · obtain ⟨n, _, rfl, _⟩ := h; rfl
  · obtain ⟨n, kk, rfl, hn, hkk, k⟩ := h
    refine ⟨_, (pss_one (ps_ret (pe_bm PySem.F.plainAttrs_str PySem.F.slot_str_count PySem.F.type_str_count mt_count (pe_joined1 (pe_fmtB (pv 0) (pe_joined1 pe_str))) (pa_cons pe_str pa_nil)))), ?_⟩
    refine ⟨_, rfl, n, rfl, ?_, rfl, _, _, rfl, rfl, ?_⟩
    · show (binS n).cps.size ≤ sizeLine
      unfold binS
      simp only [List.size_toArray, List.length_map]
      exact Nat.le_trans (toDigits_len n kk hn) (Nat.le_trans (by omega : kk + 1 ≤ 10000) (by decide))
    · show Q (.int (Txt.count (binS n) ⟨#[49]⟩)) H
      rw [PyProof.Rows.count_cnt]
      unfold binS
      simp only [List.toList_toArray]
      rw [cnt_ones]
      exact k
def spBetween : Sp := fun vs H Q _ => ∃ u v : List Nat, vs = [.str (S u), .str (S v)] ∧ u.length ≤ 1000 ∧ v.length ≤ 1000 ∧ ∀ H', Same H H' → Q (.int (Lev.D u v : Nat)) H'
theorem ok_changes_between (T : Txt K mg) : FnOk P w K mg base CX0 2 T.f_changes_between T.fd_changes_between ["one", "other"] spBetween := by
  refine T.F_changes_between.ok sc_changes_between (fun vs H Q E h => ?_) (fun cdv A outer s H vs Q E hr h => ?_)
  · obtain ⟨u, v, rfl, _⟩ := h; rfl
  · obtain ⟨u, v, rfl, hu, hv, k⟩ := h
    refine ⟨_, (pss_cons (ps_asg (pe_ifExp (pt_cmpR op_lt (pe_callB call_len_str (by rfl) T.z_len (by decide +kernel) (pa_cons (pv 0) pa_nil)) (pe_callB call_len_str (by rfl) T.z_len (by decide +kernel) (pa_cons (pv 1) pa_nil)) (nomark _)) (pe_tup (pa_cons (pv 0) (pa_cons (pv 1) pa_nil))) (pe_tup (pa_cons (pv 1) (pa_cons (pv 0) pa_nil)))) (pg_tup rfl (pgs_cons (pg_name (i := 2) sc_changes_between.nd rfl (Or.inl rfl)) (pgs_cons (pg_name (i := 3) sc_changes_between.nd rfl (Or.inl rfl)) pgs_nil))))
      (pss_cons (ps_set (i := 4) sc_changes_between.nd rfl (Or.inl rfl) (pe_op op_sub (pe_op op_shlW pe_int (pe_callB call_len_str (by rfl) T.z_len (by decide +kernel) (pa_cons (pv 3) pa_nil))) pe_int))
      (pss_cons (ps_asg (pe_call (ok_column_behind T) (hr.mono (by decide)) rfl T.g_column_behind T.F_column_behind.kp T.b_column_behind .nil pass0 (pa_cons (pv 4) (pa_cons pe_int (pa_cons (pv 2) (pa_cons (pe_call (ok_places_of T) (hr.mono (by decide)) rfl T.g_places_of T.F_places_of.kp T.b_places_of .nil pass0 (pa_cons (pv 3) pa_nil)) (pa_cons (pv 4) pa_nil)))))) (pg_tup rfl (pgs_cons (pg_name (i := 5) sc_changes_between.nd rfl (Or.inl rfl)) (pgs_cons (pg_name (i := 6) sc_changes_between.nd rfl (Or.inl rfl)) pgs_nil))))
      (pss_one (ps_ret (pe_op op_sub (pe_op op_add (pe_callB call_len_str (by rfl) T.z_len (by decide +kernel) (pa_cons (pv 2) pa_nil)) (pe_call (ok_ones T) (hr.mono (by decide)) rfl T.g_ones T.F_ones.kp T.b_ones .nil pass0 (pa_cons (pv 5) pa_nil))) (pe_call (ok_ones T) (hr.mono (by decide)) rfl T.g_ones T.F_ones.kp T.b_ones .nil pass0 (pa_cons (pv 6) pa_nil)))))))), ?_⟩
    have sz : ∀ {t : List Nat}, t.length ≤ 3000 → (S t).length ≤ sizeLine := fun {t} h => by rw [S_len]; exact Nat.le_trans h (by decide)
    have two : 2 ≤ sizeLine := by decide
    refine through2 (t := tIf (tTest (tOp (rI0 fun i j => V.bl (decide (i < j))) (tCB (fun xs H Q => ∃ z : Str, xs = [V.str z] ∧ z.length ≤ sizeLine ∧ Q (V.int z.length) H) (tCons (tVar 0) tNil)) (tCB (fun xs H Q => ∃ z : Str, xs = [V.str z] ∧ z.length ≤ sizeLine ∧ Q (V.int z.length) H) (tCons (tVar 1) tNil)))) (tTup (tCons (tVar 0) (tCons (tVar 1) tNil))) (tTup (tCons (tVar 1) (tCons (tVar 0) tNil)))) (fun x H' => ∃ (t p : List Nat) (a : Addr), x = .ref a ∧ H' a = some (.tup [.str (S t), .str (S p)]) ∧ Same H H' ∧ t.length ≤ 1000 ∧ p.length ≤ 1000 ∧ Lev.D p t = Lev.D u v) (fun Q' rest => ?_) (fun x H' hx => ?_)
    · refine ⟨_, rfl, _, rfl, sz (by omega), _, rfl, _, rfl, sz (by omega), _, _, rfl, rfl, _, rfl, ite2 (fun _ => ?_) (fun _ => ?_)⟩
      · exact ⟨_, rfl, _, rfl, two, fun a ha => rest _ _ ⟨u, v, a, rfl, upd_same, Same.new (Same.refl H) ha, hu, hv, Lev.D_symm v u⟩⟩
      · exact ⟨_, rfl, _, rfl, two, fun a ha => rest _ _ ⟨v, u, a, rfl, upd_same, Same.new (Same.refl H) ha, hv, hu, rfl⟩⟩
    obtain ⟨t, p, a, rfl, ea, s1, ht, hp, eD⟩ := hx
    refine ⟨a, _, rfl, SqT.of ea, rfl, _, _, rfl, _, _, rfl, rfl, ?_⟩
    have i1 : ((Builtin.Int.intBits 1 : Nat) : Int) = 1 := by decide
    have e27 : (2 : Int) ^ 27 = 134217728 := by decide
    refine ⟨_, rfl, _, rfl, sz (by omega), _, _, rfl, rfl, ⟨by omega, by rw [S_len, i1, e27]; omega⟩, _, _, rfl, rfl, ?_⟩
    have ew : (1 : Int) * 2 ^ ((S p).length : Int).toNat - 1 = 2 ^ p.length - 1 := by rw [S_len, Int.toNat_natCast, Int.one_mul]
    show gName 4 (V.int ((1 : Int) * 2 ^ ((S p).length : Int).toNat - 1)) _ H' _
    rw [ew]
    refine ⟨_, rfl, _, rfl, _, rfl, p, rfl, hp, fun q kvs hq hk => ?_⟩
    have s2 : Same H (upd H' q (.dK kvs)) := Same.new s1 hq
    refine ⟨_, rfl, p, t, q, kvs, rfl, hp, upd_same, hk, fun x d b hat hb => ?_⟩
    have s3 : Same H (upd (upd H' q (.dK kvs)) b (.tup [.int x, .int d])) := Same.new s2 hb
    refine ⟨b, _, rfl, SqT.of upd_same, rfl, _, _, rfl, _, _, rfl, rfl, ?_⟩
    have lx := hat.2.1
    have ld := hat.2.2
    refine ⟨_, rfl, _, rfl, sz (by omega), _, rfl, x, p.length, rfl, lx, hp, _, _, rfl, rfl, _, rfl, d, p.length, rfl, ld, hp, _, _, rfl, rfl, ?_⟩
    have e := hat.done
    have ee : ((S t).length : Int) + ((Cols.ones (Nat.toDigits 2 x) : Nat) : Int) - ((Cols.ones (Nat.toDigits 2 d) : Nat) : Int) = ((Lev.D u v : Nat) : Int) := by rw [S_len, e, eD]
    show Q (.int (((S t).length : Int) + ((Cols.ones (Nat.toDigits 2 x) : Nat) : Int) - ((Cols.ones (Nat.toDigits 2 d) : Nat) : Int))) _
    rw [ee]
    exact k _ s3
end
end My

set_option Elab.async false
set_option linter.all false
set_option maxRecDepth 100000
set_option maxHeartbeats 4000000
namespace My
open PySem PySem.Spec PyProof.Rows L2
/-! ### the law's box of draws -/
def BoxO (n : Nat) (o : HO) : Prop := ∃ (a m c : Int) (b : Bool), o = .lst [.int a, .bl b, .int m, .int c] ∧ 0 ≤ m ∧ m < 2147483648 ∧ 0 ≤ c ∧ c ≤ n
def BoxAt (H : Hp) (p : Addr) (n : Nat) : Prop := ∃ o, H p = some o ∧ BoxO n o
theorem BoxAt.mono {H : Hp} {p : Addr} {n m : Nat} (h : BoxAt H p n) (l : n ≤ m) : BoxAt H p m := by
  obtain ⟨o, e, a, m', c, b, e2, h1, h2, h3, h4⟩ := h
  exact ⟨o, e, a, m', c, b, e2, h1, h2, h3, by omega⟩
/-- all but the box stands -/
def Kp (p : Addr) (H H' : Hp) : Prop := ∀ b o, b ≠ p → H b = some o → H' b = some o
theorem Kp.refl (p : Addr) (H : Hp) : Kp p H H := fun _ _ _ e => e
theorem Kp.trans {p : Addr} {H H1 H2 : Hp} (a : Kp p H H1) (b : Kp p H1 H2) : Kp p H H2 := fun c o n e => b c o n (a c o n e)
theorem Kp.of {p : Addr} {H H' : Hp} (s : Same H H') : Kp p H H' := fun b o _ e => s b o e
theorem Kp.new {p q : Addr} {H H' : Hp} {o : HO} (k : Kp p H H') (h : H' q = none) : Kp p H (upd H' q o) := fun b ob n e => by
  have := k b ob n e
  rw [upd_ne (ne_of_none this h)]; exact this
theorem BoxAt.new {p q : Addr} {H : Hp} {o : HO} {n : Nat} (h : BoxAt H p n) (hq : H q = none) : BoxAt (upd H q o) p n := by
  obtain ⟨ob, e, r⟩ := h
  exact ⟨ob, by rw [upd_ne (ne_of_none e hq)]; exact e, r⟩
theorem BoxAt.same {p : Addr} {H H' : Hp} {n : Nat} (h : BoxAt H p n) (s : Same H H') : BoxAt H' p n := by
  obtain ⟨ob, e, r⟩ := h
  exact ⟨ob, s _ _ e, r⟩
theorem cutV_to (xs : List V) (n : Nat) : cutV xs none (some (n : Int)) = xs.take n := by
  unfold cutV
  rw [HT.sIx_none, sIx_some, List.drop_zero, Nat.sub_zero]
  rcases Nat.le_total n xs.length with h | h
  · rw [Nat.min_eq_left h]
  · rw [Nat.min_eq_right h, List.take_of_length_le h, List.take_of_length_le (Nat.le_refl _)]
section
variable {P : Program} {w : World} {K : PySem.W.Frag} {mg : Str → Option Value} {base : Heap}
def spCell (K : PySem.W.Frag) : Sp := fun vs H Q _ => ∃ (a : Addr) (ns : List Int) (k : Nat), vs = [.ref a, .int k] ∧ SqL K H a (ns.map V.int) ∧ ∀ c H', Same H H' → Q (.int c) H'
theorem ok_law_cell (T : Txt K mg) : FnOk P w K mg base CX0 1 T.f_law_cell T.fd_law_cell ["script", "k"] (spCell K) := by
  refine T.F_law_cell.ok sc_law_cell (fun vs H Q E h => ?_) (fun cdv A outer s H vs Q E hr h => ?_)
  · obtain ⟨a, ns, k, rfl, _⟩ := h; rfl
  · obtain ⟨a, ns, k, rfl, hS, q⟩ := h
    refine ⟨_, (pss_one (ps_ret (pe_ifExp (pt_cmpR op_lt (pv 1) (pe_callB call_len_seq (by rfl) T.z_len (by decide +kernel) (pa_cons (pv 0) pa_nil)) (nomark _)) (pe_ix ix_list (pv 0) (pv 1) (fun _ _ => rfl)) (pe_op op_add (pe_op op_mul pe_int (pv 1)) (pe_op op_mod (pe_callTy call_int1 (by rfl) T.z_int (by decide +kernel) (pa_cons (pe_callB (cr_sum rfl) (by rfl) T.z_sum (by decide +kernel) (pa_cons (pe_slice sl_list (pv 0) po_none (po_some pe_int)) pa_nil)) pa_nil)) pe_int))))), ?_⟩
    refine ⟨_, rfl, _, rfl, a, _, rfl, .inl hS, _, _, rfl, rfl, _, rfl, ite2 (fun c => ?_) (fun c => ?_)⟩
    · have c' := of_decide_eq_true c
      have hk : k < ns.length := by rw [List.length_map] at c'; omega
      exact ⟨_, rfl, _, rfl, a, _, _, _, rfl, rfl, hS, atI_nat (j := k) (v := V.int ns[k]) (by rw [List.getElem?_map, List.getElem?_eq_getElem hk]; rfl), q _ H (Same.refl H)⟩
    · refine ⟨_, rfl, _, _, rfl, rfl, .inl (by decide), _, rfl, 1, rfl, a, _, rfl, hS, fun p hp => ?_⟩
      rw [show cutV (ns.map V.int) none (some 1) = (ns.take 1).map V.int by rw [show (some (1 : Int)) = some ((1 : Nat) : Int) from rfl, cutV_to, List.map_take]]
      exact ⟨p, ns.take 1, rfl, SqL.of upd_same, .inl ⟨_, rfl, _, _, rfl, rfl, (by show (0 : Int) < 1000081; decide), _, _, rfl, rfl, q _ _ (Same.new (Same.refl H) hp)⟩⟩
def spBox : Sp := fun vs H Q _ => ∃ c : Int, vs = [.int c] ∧ ∀ p o, H p = none → BoxO 0 o → Q (.ref p) (upd H p o)
theorem ok_law_box (T : Txt K mg) : FnOk P w K mg base CX0 1 T.f_law_box T.fd_law_box ["great"] spBox := by
  refine T.F_law_box.ok sc_law_box (fun vs H Q E h => ?_) (fun cdv A outer s H vs Q E hr h => ?_)
  · obtain ⟨c, rfl, _⟩ := h; rfl
  · obtain ⟨c, rfl, q⟩ := h
    refine ⟨_, (pss_one (ps_ret (pe_lst (pa_cons (pe_callB call_abs (by rfl) T.z_abs (by decide +kernel) (pa_cons (pv 0) pa_nil)) (pa_cons (pe_cmpR op_ge (pe_callB call_abs (by rfl) T.z_abs (by decide +kernel) (pa_cons (pv 0) pa_nil)) (pe_op op_pow pe_int pe_int) (nomark _)) (pa_cons (pe_op op_mod (pe_callTy call_int1 (by rfl) T.z_int (by decide +kernel) (pa_cons (pe_callB call_abs (by rfl) T.z_abs (by decide +kernel) (pa_cons (pv 0) pa_nil)) pa_nil)) pe_int) (pa_cons pe_int pa_nil))))))), ?_⟩
    refine ⟨_, rfl, _, rfl, _, rfl, _, rfl, _, _, rfl, rfl, ⟨by decide, by decide, by decide⟩, _, _, rfl, rfl, _, rfl, _, rfl, .inl ⟨_, rfl, _, _, rfl, rfl, (by show (0 : Int) < 2147483629; decide), (by show 4 ≤ sizeLine; decide), fun p hp => q p _ hp ⟨_, _, _, _, rfl, ?_, ?_, Int.le_refl 0, Int.le_refl 0⟩⟩⟩
    · exact Int.emod_nonneg _ (by decide)
    · have := Int.emod_lt_of_pos (if c < 0 then -c else c) (by decide : (0 : Int) < 2147483629)
      omega
/-- a draw below many; the box goes on -/
def spTake : Sp := fun vs H Q _ => ∃ (p : Addr) (n : Nat) (many : Int), vs = [.ref p, .int many] ∧ BoxAt H p n ∧ n < 1000000000 ∧ 0 < many ∧ many < 1000000 ∧
  ∀ (d : Nat) o, (d : Int) < many → BoxO (n + 1) o → Q (.int d) (upd H p o)
theorem ok_law_take (T : Txt K mg) : FnOk P w K mg base CX0 1 T.f_law_take T.fd_law_take ["box", "many"] spTake := by
  refine T.F_law_take.ok sc_law_take (fun vs H Q E h => ?_) (fun cdv A outer s H vs Q E hr h => ?_)
  · obtain ⟨p, n, m, rfl, _⟩ := h; rfl
  · obtain ⟨p, n, many, rfl, ⟨o, ho, a, m, c, b, rfl, m0, m1, c0, c1⟩, hn, p0, p1, q⟩ := h
    refine ⟨_, (pss_cons (ps_if (PW.pt (pw_and (pt_val (pe_ix ix_list (pv 0) pe_int (fun _ _ => rfl))) (pw_and1 (pt_cmpR op_gt (pe_ix ix_list (pv 0) pe_int (fun _ _ => rfl)) pe_int (nomark _))))) (pss_cons (ps_set (i := 2) sc_law_take.nd rfl (Or.inl rfl) (pe_op op_mod (pe_callTy call_int1 (by rfl) T.z_int (by decide +kernel) (pa_cons (pe_ix ix_list (pv 0) pe_int (fun _ _ => rfl)) pa_nil)) (pv 1)))
      (pss_cons (ps_asg (pe_op op_fdivW (pe_ix ix_list (pv 0) pe_int (fun _ _ => rfl)) (pv 1)) (pg_sub (pv 0) pe_int set_list))
      (pss_one (ps_ret (pv 2))))) pss_nil)
      (pss_cons (ps_asg (pe_op op_add (pe_ix ix_list (pv 0) pe_int (fun _ _ => rfl)) pe_int) (pg_sub (pv 0) pe_int set_list))
      (pss_cons (ps_set (i := 3) sc_law_take.nd rfl (Or.inl rfl) (pe_op op_mod (pe_callTy call_int1 (by rfl) T.z_int (by decide +kernel) (pa_cons (pe_op op_pow (pe_op op_add (pe_op op_add (pe_ix ix_list (pv 0) pe_int (fun _ _ => rfl)) (pe_op op_mul pe_int (pe_ix ix_list (pv 0) pe_int (fun _ _ => rfl)))) pe_int) pe_int) pa_nil)) pe_int))
      (pss_one (ps_ret (pe_op op_mod (pe_op op_fdivW (pe_op op_mod (pe_callTy call_int1 (by rfl) T.z_int (by decide +kernel) (pa_cons (pe_op op_pow (pe_op op_add (pe_op op_mul (pv 3) pe_int) (pe_op op_mul pe_int (pe_ix ix_list (pv 0) pe_int (fun _ _ => rfl)))) pe_int) pa_nil)) pe_int) pe_int) (pv 1))))))), ?_⟩
    have at0 : atI [V.int a, .bl b, .int m, .int c] 0 = some (.int a) := atI_nat (j := 0) rfl
    have at1 : atI [V.int a, .bl b, .int m, .int c] 1 = some (.bl b) := atI_nat (j := 1) rfl
    have at3 : atI [V.int a, .bl b, .int m, .int c] 3 = some (.int c) := atI_nat (j := 3) rfl
    have lm : CDivW a many := ⟨p0, by
      have : many.natAbs < 2 ^ 20 := by omega
      exact Nat.lt_of_lt_of_le (PySem.Flt.log2_lt_of (by decide) this) (by decide)⟩
    have second : tSeq (tAsg (tOp (rI0 fun i j => .int (i + j)) (tOp (rIxL K) (tVar 0) (tC (.int 3))) (tC (.int 1))) (gSub (tVar 0) (tC (.int 3)) rSetL))
        (tSeq (tAsg (tOp (rI (fun _ j => 0 < j) fun i j => .int (i % j)) (tCB (fun xs H Q => (∃ i, xs = [.int i] ∧ Q (.int i) H) ∨ ∃ k, xs = [.bl k] ∧ Q (.int (if k then 1 else 0)) H) (tCons (tOp (rI CPow fun i j => .int (i ^ j.toNat)) (tOp (rI0 fun i j => .int (i + j)) (tOp (rI0 fun i j => .int (i + j)) (tOp (rIxL K) (tVar 0) (tC (.int 2))) (tOp (rI CMul fun i j => .int (i * j)) (tC (.int 15485863)) (tOp (rIxL K) (tVar 0) (tC (.int 3))))) (tC (.int 179424691))) (tC (.int 5))) tNil)) (tC (.int 2147483647))) (gName 3))
        (tRet (tOp (rI (fun _ j => 0 < j) fun i j => .int (i % j)) (tOp (rI CDivW fun i j => .int (i / j)) (tOp (rI (fun _ j => 0 < j) fun i j => .int (i % j)) (tCB (fun xs H Q => (∃ i, xs = [.int i] ∧ Q (.int i) H) ∨ ∃ k, xs = [.bl k] ∧ Q (.int (if k then 1 else 0)) H) (tCons (tOp (rI CPow fun i j => .int (i ^ j.toNat)) (tOp (rI0 fun i j => .int (i + j)) (tOp (rI CMul fun i j => .int (i * j)) (tVar 3) (tC (.int 48271))) (tOp (rI CMul fun i j => .int (i * j)) (tC (.int 104729)) (tOp (rIxL K) (tVar 0) (tC (.int 3))))) (tC (.int 3))) tNil)) (tC (.int 2147483587))) (tC (.int 64))) (tVar 1))))
        { nx := fun _ H' => Q .non H', rt := Q } [some (.ref p), some (.int many), none, none] H := by
      refine ⟨_, rfl, p, _, _, _, rfl, rfl, SqL.of ho, at3, _, _, rfl, rfl, _, rfl, p, _, 3, 3, rfl, rfl, ho, rfl, ?_⟩
      have hu : upd H p (.lst [.int a, .bl b, .int m, .int (c + 1)]) p = some (.lst [.int a, .bl b, .int m, .int (c + 1)]) := upd_same
      refine ⟨_, rfl, p, _, _, _, rfl, rfl, SqL.of hu, atI_nat (j := 2) rfl, _, rfl, p, _, _, _, rfl, rfl, SqL.of hu, atI_nat (j := 3) rfl, _, _, rfl, rfl, .inl (by decide), _, _, rfl, rfl, _, _, rfl, rfl, _, _, rfl, rfl, ⟨by decide, by decide, by omega⟩, .inl ⟨_, rfl, _, _, rfl, rfl, (by show (0 : Int) < 2147483647; decide), ?_⟩⟩
      refine ⟨_, rfl, _, _, rfl, rfl, .inr (by decide), _, rfl, p, _, _, _, rfl, rfl, SqL.of hu, atI_nat (j := 3) rfl, _, _, rfl, rfl, .inl (by decide), _, _, rfl, rfl, _, _, rfl, rfl, ⟨by decide, by decide, by omega⟩, .inl ⟨_, rfl, _, _, rfl, rfl, (by show (0 : Int) < 2147483587; decide), _, _, rfl, rfl, ⟨by decide, by decide⟩, _, rfl, _, _, rfl, rfl, p0, ?_⟩⟩
      have y0 := Int.emod_nonneg ((((m + 15485863 * (c + 1) + 179424691) ^ (5 : Int).toNat % 2147483647) * 48271 + 104729 * (c + 1)) ^ (3 : Int).toNat % 2147483587 / 64) (by omega : many ≠ 0)
      have y1 := Int.emod_lt_of_pos ((((m + 15485863 * (c + 1) + 179424691) ^ (5 : Int).toNat % 2147483647) * 48271 + 104729 * (c + 1)) ^ (3 : Int).toNat % 2147483587 / 64) p0
      show Q (.int ((((m + 15485863 * (c + 1) + 179424691) ^ (5 : Int).toNat % 2147483647) * 48271 + 104729 * (c + 1)) ^ (3 : Int).toNat % 2147483587 / 64 % many)) _
      generalize (((m + 15485863 * (c + 1) + 179424691) ^ (5 : Int).toNat % 2147483647) * 48271 + 104729 * (c + 1)) ^ (3 : Int).toNat % 2147483587 / 64 % many = y at *
      obtain ⟨d, rfl⟩ : ∃ d : Nat, y = d := ⟨y.toNat, by omega⟩
      exact q d _ y1 ⟨a, m, c + 1, b, rfl, m0, m1, by omega, by omega⟩
    refine ⟨_, rfl, p, _, _, _, rfl, rfl, SqL.of ho, at1, b, rfl, ?_⟩
    cases b with
    | false => exact iteF (iteF second)
    | true =>
      refine iteT ⟨_, rfl, p, _, _, _, rfl, rfl, SqL.of ho, at0, _, _, rfl, rfl, _, rfl, ite2 (fun z => ?_) (fun z => second)⟩
      refine ⟨_, rfl, p, _, _, _, rfl, rfl, SqL.of ho, at0, .inl ⟨_, rfl, _, rfl, _, _, rfl, rfl, p0, ?_⟩⟩
      refine ⟨_, rfl, p, _, _, _, rfl, rfl, SqL.of ho, at0, _, rfl, _, _, rfl, rfl, lm, _, rfl, p, _, 0, 0, rfl, rfl, ho, rfl, _, rfl, ?_⟩
      have y0 := Int.emod_nonneg a (by omega : many ≠ 0)
      have y1 := Int.emod_lt_of_pos a p0
      show Q (.int (a % many)) _
      generalize a % many = y at *
      obtain ⟨d, rfl⟩ : ∃ d : Nat, y = d := ⟨y.toNat, by omega⟩
      exact q d _ y1 ⟨a / many, m, c, true, rfl, m0, m1, c0, by omega⟩
end
end My

set_option Elab.async false
set_option linter.all false
set_option maxRecDepth 100000
set_option maxHeartbeats 4000000
namespace My
open PySem PySem.Spec PyProof.Rows L2
theorem Kp.upd {p : Addr} {H H' : Hp} {o : HO} (k : Kp p H H') : Kp p H (upd H' p o) := fun b ob n e => by
  rw [upd_ne n]; exact k b ob n e
theorem BoxO.at {H : Hp} {p : Addr} {n : Nat} {o : HO} (h : BoxO n o) : BoxAt (upd H p o) p n := ⟨o, upd_same, h⟩
theorem Big.two {a : Nat} {t : List Nat} (h : Big t) : (S (t.drop a)).length + (S (t.take a)).length ≤ sizeLine := by
  rw [S_len, S_len]
  have : t.length ≤ 100000 := h
  exact Nat.le_trans (by rw [List.length_drop, List.length_take]; omega) (by decide : 200000 ≤ sizeLine)
theorem tYesT {σ : L2.St} {H : Hp} {A B : Hp → Prop} (h : A H) : tYes σ H (fun b H3 => if b = true then A H3 else B H3) := by
  show (if true = true then A H else B H)
  rw [if_pos rfl]; exact h
theorem ixN_nat {n j : Nat} (h : j < n) : ixN n (j : Int) = some j := by
  unfold ixN
  rw [if_pos (by omega), if_pos (by omega), Int.toNat_natCast]
section
variable {P : Program} {w : World} {K : PySem.W.Frag} {mg : Str → Option Value} {base : Heap}
/-! ### the law's own table -/
def mixV (u v : List Nat) (i j : Nat) : List V := (List.range (v.length + 1)).map fun k => V.int ((if k < j then Lev.T u v (i + 1) k else Lev.T u v i k : Nat) : Int)
theorem mixV_len (u v : List Nat) (i j : Nat) : (mixV u v i j).length = v.length + 1 := by unfold mixV; rw [List.length_map, List.length_range]
theorem mixV_get (u v : List Nat) (i j : Nat) {k : Nat} (h : k < v.length + 1) : (mixV u v i j)[k]? = some (.int ((if k < j then Lev.T u v (i + 1) k else Lev.T u v i k : Nat) : Int)) := by
  unfold mixV
  rw [List.getElem?_map, List.getElem?_range h]; rfl
theorem mixV_set (u v : List Nat) (i : Nat) {j : Nat} (x : Int) (h : j < v.length + 1) (e : x = (Lev.T u v (i + 1) j : Nat)) : (mixV u v i j).set j (.int x) = mixV u v i (j + 1) := by
  subst e
  apply List.ext_getElem?
  intro k
  rw [List.getElem?_set, mixV_len]
  by_cases hk : k < v.length + 1
  · rw [mixV_get u v i j hk, mixV_get u v i (j + 1) hk]
    by_cases e : j = k
    · subst e
      rw [if_pos rfl, if_pos h, if_pos (Nat.lt_succ_self j)]
    · rw [if_neg e]
      by_cases l : k < j
      · rw [if_pos l, if_pos (by omega)]
      · rw [if_neg l, if_neg (by omega)]
  · have e1 : (mixV u v i j)[k]? = none := List.getElem?_eq_none (by rw [mixV_len]; omega)
    have e2 : (mixV u v i (j + 1))[k]? = none := List.getElem?_eq_none (by rw [mixV_len]; omega)
    rw [e1, e2, if_neg (by omega)]
theorem mixV_next (u v : List Nat) (i : Nat) : mixV u v i (v.length + 1) = mixV u v (i + 1) 0 := by
  unfold mixV
  apply List.map_congr_left
  intro k hk
  rw [List.mem_range] at hk
  rw [if_pos hk, if_neg (by omega)]
theorem mixV_zero (u v : List Nat) : rgV 0 ((v.length : Int) + 1) = mixV u v 0 0 := by
  unfold rgV mixV
  rw [show ((v.length : Int) + 1 - 0).toNat = v.length + 1 by omega]
  apply List.map_congr_left
  intro k hk
  rw [if_neg (by omega), Lev.T_zero, Int.zero_add]
theorem mixV_last (u v : List Nat) (i : Nat) : atI (mixV u v i 0) (-1) = some (.int (Lev.T u v i v.length : Nat)) := by
  have e : mixV u v i 0 = ((List.range v.length).map fun k => V.int ((if k < 0 then Lev.T u v (i + 1) k else Lev.T u v i k : Nat) : Int)) ++ [V.int ((if v.length < 0 then Lev.T u v (i + 1) v.length else Lev.T u v i v.length : Nat) : Int)] := by
    unfold mixV
    rw [List.range_succ, List.map_append]; rfl
  rw [e, atI_last, if_neg (by omega)]
def spTable : Sp := fun vs H Q _ => ∃ (u v : List Nat), vs = [.str (S u), .str (S v)] ∧ Big u ∧ Big v ∧ ∀ H', Same H H' → Q (.int (Lev.D u v : Nat)) H'
theorem ok_law_table (T : Txt K mg) : FnOk P w K mg base CX0 1 T.f_law_table T.fd_law_table ["first", "second"] spTable := by
  refine T.F_law_table.ok sc_law_table (fun vs H Q E h => ?_) (fun cdv A outer s H vs Q E hr h => ?_)
  · obtain ⟨u, v, rfl, _⟩ := h; rfl
  · obtain ⟨u, v, rfl, hu, hv, kQ⟩ := h
    have bu : u.length ≤ 100000 := hu
    have bv : v.length ≤ 100000 := hv
    refine ⟨_, (pss_cons (ps_set (i := 2) sc_law_table.nd rfl (Or.inl rfl) (pe_listRg rfl (by rfl) T.z_list (prg_1 (by rfl) T.z_range (pe_op op_add (pe_callB call_len_str (by rfl) T.z_len (by decide +kernel) (pa_cons (pv 1) pa_nil)) pe_int))))
      (pss_cons (ps_for PassesOwn.never rfl (pi_range1 rfl T.z_range (pa_cons (pe_callB call_len_str (by rfl) T.z_len (by decide +kernel) (pa_cons (pv 0) pa_nil)) pa_nil)) (pg_name (i := 3) sc_law_table.nd rfl (Or.inl rfl)) (pss_cons (ps_asg (pe_tup (pa_cons (pe_ix ix_list (pv 2) pe_int (fun _ _ => rfl)) (pa_cons (pe_op op_add (pv 3) pe_int) pa_nil))) (pg_tup rfl (pgs_cons (pg_name (i := 4) sc_law_table.nd rfl (Or.inl rfl)) (pgs_cons (pg_sub (pv 2) pe_int set_list) pgs_nil))))
      (pss_one (ps_for PassesOwn.never rfl (pi_range1 rfl T.z_range (pa_cons (pe_callB call_len_str (by rfl) T.z_len (by decide +kernel) (pa_cons (pv 1) pa_nil)) pa_nil)) (pg_name (i := 5) sc_law_table.nd rfl (Or.inl rfl)) (pss_cons (ps_set (i := 6) sc_law_table.nd rfl (Or.inl rfl) (pe_op op_add (pv 4) (pe_callTy call_int1 (by rfl) T.z_int (by decide +kernel) (pa_cons (pe_cmpR op_ne (pe_ix ix_str (pv 0) (pv 3) (fun _ _ => rfl)) (pe_ix ix_str (pv 1) (pv 5) (fun _ _ => rfl)) (nomark _)) pa_nil))))
      (pss_cons (ps_set (i := 4) sc_law_table.nd rfl (Or.inl rfl) (pe_ix ix_list (pv 2) (pe_op op_add (pv 5) pe_int) (fun _ _ => rfl)))
      (pss_one (ps_asg (pe_callB (call_min3 rfl) (by rfl) T.z_min (by decide +kernel) (pa_cons (pv 6) (pa_cons (pe_op op_add (pe_ix ix_list (pv 2) (pv 5) (fun _ _ => rfl)) pe_int) (pa_cons (pe_op op_add (pv 4) pe_int) pa_nil)))) (pg_sub (pv 2) (pe_op op_add (pv 5) pe_int) set_list)))))))))
      (pss_one (ps_ret (pe_ix ix_list (pv 2) (pe_un un_neg pe_int) (fun _ _ => rfl)))))), ?_⟩
    refine ⟨_, rfl, _, rfl, hv.fits, _, _, rfl, rfl, _, rfl, ?_⟩
    rw [S_len]
    refine ⟨RgOk.of_le (by omega) (by omega) (by omega) (by omega), fun q hq => ?_⟩
    rw [mixV_zero u v]
    refine ⟨_, rfl, _, rfl, hu.fits, _, rfl, by rw [S_len]; omega, by rw [S_len]; omega, ?_⟩
    rw [S_len, Int.toNat_natCast]
    have s0 : ∀ (H' : Hp) (xs : List V), Same H H' → H' q = some (.lst xs) → ∀ ys, Same H (upd H' q (.lst ys)) := fun H' xs s e ys b o eo => by
      have nb : b ≠ q := by rintro rfl; rw [hq] at eo; cases eo
      rw [upd_ne nb]; exact s b o eo
    refine for_range (lo := 0) (n := u.length) (fun i σ H' => ∃ x3 x4 x5 x6, σ = [some (.str (S u)), some (.str (S v)), some (.ref q), x3, x4, x5, x6] ∧ Same H H' ∧ H' q = some (.lst (mixV u v i 0)))
      ⟨none, none, none, none, rfl, Same.new (Same.refl H) hq, upd_same⟩ ?_ ?_
    · rintro i σ H1 hi ⟨x3, x4, x5, x6, rfl, s1, e1⟩
      rw [Int.zero_add]
      refine ⟨_, rfl, q, _, _, _, rfl, rfl, SqL.of e1, atI_nat (j := 0) (mixV_get u v i 0 (Nat.succ_pos _)), _, rfl, _, _, rfl, rfl, (by show 2 ≤ sizeLine; decide), fun t ht => ?_⟩
      have ntq : q ≠ t := ne_of_none e1 ht
      refine ⟨t, _, rfl, SqT.of upd_same, rfl, _, _, rfl, ?_⟩
      refine ⟨_, _, rfl, _, rfl, q, _, 0, 0, rfl, rfl, (by rw [upd_ne ntq]; exact e1), (by rw [mixV_len]; exact ixN_nat (Nat.succ_pos _)), rfl, ?_⟩
      rw [mixV_set u v i (j := 0) _ (Nat.succ_pos _) (by rw [Lev.T_left]; omega), if_neg (Nat.not_lt_zero _)]
      refine ⟨_, rfl, _, rfl, hv.fits, _, rfl, by rw [S_len]; omega, by rw [S_len]; omega, ?_⟩
      rw [S_len, Int.toNat_natCast]
      have sB : Same H (upd (upd H1 t (.tup [.int (Lev.T u v i 0 : Nat), .int ((i : Int) + 1)])) q (.lst (mixV u v i 1))) := by
        refine s0 _ (mixV u v i 0) (Same.new s1 ht) (by rw [upd_ne ntq]; exact e1) _
      refine for_range (lo := 0) (n := v.length) (fun j σ H' => ∃ x5 x6, σ = [some (.str (S u)), some (.str (S v)), some (.ref q), some (.int i), some (.int (Lev.T u v i j : Nat)), x5, x6] ∧ Same H H' ∧ H' q = some (.lst (mixV u v i (j + 1))))
        ⟨x5, x6, rfl, sB, upd_same⟩ ?_ ?_
      · rintro j σ H2 hj ⟨x5, x6, rfl, s2, e2⟩
        rw [Int.zero_add]
        have g1 : u[i]? = some (u[i]'hi) := List.getElem?_eq_getElem _
        have g2 : v[j]? = some (v[j]'hj) := List.getElem?_eq_getElem _
        refine ⟨_, rfl, _, rfl, _, rfl, _, _, _, rfl, rfl, hu.fits, atI_S g1, _, rfl, _, rfl, _, _, _, rfl, rfl, hv.fits, atI_S g2, rfl, .inr ⟨_, rfl, ?_⟩⟩
        rw [show (⟨#[u[i]'hi]⟩ : Str) = S [u[i]'hi] from rfl, show (⟨#[v[j]'hj]⟩ : Str) = S [v[j]'hj] from rfl, S_eqV]
        have en : (if (!decide ([u[i]'hi] = [v[j]'hj])) = true then (1 : Int) else 0) = (Lev.neq u[i]? v[j]? : Nat) := by
          unfold Lev.neq
          rw [g1, g2]
          by_cases e : u[i]'hi = v[j]'hj
          · rw [e]; simp
          · simp [e]
        rw [en]
        refine ⟨_, _, rfl, rfl, ?_⟩
        refine ⟨_, rfl, _, rfl, _, _, rfl, rfl, q, _, _, _, rfl, rfl, SqL.of e2, atI_nat (j := j + 1) (mixV_get u v i (j + 1) (by omega)), ?_⟩
        rw [if_neg (Nat.lt_irrefl _)]
        refine ⟨_, rfl, _, rfl, _, rfl, q, _, _, _, rfl, rfl, SqL.of e2, atI_nat (j := j) (mixV_get u v i (j + 1) (by omega)), _, _, rfl, rfl, _, rfl, _, _, rfl, rfl, _, _, _, rfl, ?_⟩
        rw [if_pos (Nat.lt_succ_self _)]
        refine ⟨_, rfl, _, rfl, _, _, rfl, rfl, q, _, _, j + 1, rfl, rfl, e2, (by rw [mixV_len]; exact ixN_nat (j := j + 1) (by omega)), ?_⟩
        rw [mixV_set u v i (j := j + 1) _ (by omega) (by rw [Lev.T_step]; omega)]
        exact ⟨_, _, rfl, s0 _ _ s2 e2 _, upd_same⟩
      · rintro σ H2 ⟨x5, x6, rfl, s2, e2⟩
        exact ⟨_, _, _, _, rfl, s2, by rw [← mixV_next]; exact e2⟩
    · rintro σ H1 ⟨x3, x4, x5, x6, rfl, s1, e1⟩
      exact ⟨_, rfl, _, rfl, q, _, _, _, rfl, rfl, SqL.of e1, mixV_last u v _, kQ _ s1⟩
end
end My

set_option Elab.async false
set_option linter.all false
set_option maxRecDepth 100000
set_option maxHeartbeats 4000000
namespace My
open PySem PySem.Spec PyProof.Rows L2
theorem ix_listK {X : Cx} {K : PySem.W.Frag} (e : X.K = K) : IxR X (rIxL K) := by rw [← e]; exact ix_list
/-! ### rounds as a product -/
theorem foldl_rep (x : Array Nat) : ∀ (n : Nat) (b : Array Nat), (List.replicate n x).foldl (· ++ ·) b = b ++ (Lev.rounds n x.toList).toArray
  | 0, b => by simp [Lev.rounds]
  | n + 1, b => by
    rw [List.replicate_succ, List.foldl_cons, foldl_rep x n]
    simp [Lev.rounds]
    obtain ⟨x⟩ := x
    simp
theorem rounds_nil : ∀ n, Lev.rounds n ([] : List Nat) = []
  | 0 => rfl
  | n + 1 => by simp [Lev.rounds, rounds_nil n]
theorem mul_S (x : List Nat) (n : Nat) : Txt.mul (S x) (n : Int) = S (Lev.rounds n x) := by
  unfold Txt.mul
  by_cases h : n = 0
  · subst h; rfl
  · rw [if_neg (by omega)]
    by_cases h1 : ((n : Int) == 1 || (S x).length == 0) = true
    · rw [if_pos h1]
      simp only [Bool.or_eq_true, beq_iff_eq] at h1
      rcases h1 with e | e
      · have : n = 1 := by omega
        subst this
        simp [Lev.rounds]
      · rw [S_len] at e
        have : x = [] := List.eq_nil_of_length_eq_zero e
        subst this
        rw [rounds_nil]
    · rw [if_neg h1, Int.toNat_natCast, foldl_rep]
      simp [S]
theorem mulOk_S {x : List Nat} {n : Nat} (hx : x.length ≤ 1000) (hn : n ≤ 1000) : MulOk (S x) (n : Int) := by
  refine ⟨?_, fun _ _ => ?_, fun _ _ => ?_⟩
  · simp only [Bool.or_eq_false_iff, decide_eq_false_iff_not]; omega
  · rw [S_len]
    rcases Nat.eq_zero_or_pos n with e | e
    · subst e; contradiction
    · have : ((2 : Int) ^ 63 - 1) / n ≥ ((2 : Int) ^ 63 - 1) / 1000 := by
        have h1 : (2 ^ 63 - 1 : Int) / 1000 * n ≤ 2 ^ 63 - 1 := by omega
        exact Int.le_ediv_of_mul_le (by omega) h1
      omega
  · rw [S_len, Int.toNat_natCast]
    have : x.length * n ≤ 1000 * 1000 := Nat.mul_le_mul hx hn
    show decide (x.length * n > sizeLine) = false
    rw [decide_eq_false_iff_not]
    exact Nat.not_lt.mpr (Nat.le_trans this (by decide))
/-! ### letters -/
def Low (t : List Nat) : Prop := ∀ c ∈ t, low c = true
theorem Low.isT {t : List Nat} (h : Low t) : isT (S t) = true := by
  unfold My.isT
  rw [S_tl]
  exact List.all_eq_true.mpr h
theorem Low.append {t u : List Nat} (h : Low t) (g : Low u) : Low (t ++ u) := fun c hc => by
  rcases List.mem_append.mp hc with q | q
  · exact h c q
  · exact g c q
theorem Low.take {t : List Nat} (h : Low t) (n : Nat) : Low (t.take n) := fun c hc => h c (List.mem_of_mem_take hc)
theorem Low.drop {t : List Nat} (h : Low t) (n : Nat) : Low (t.drop n) := fun c hc => h c (List.mem_of_mem_drop hc)
theorem Low.nil : Low [] := fun c hc => by cases hc
theorem Low.one {c : Nat} (h : low c = true) : Low [c] := fun d hd => by rw [List.mem_singleton.mp hd]; exact h
/-- the list of the three letters -/
def Let (H : Hp) (l : Addr) : Prop := ∃ a b c, H l = some (.lst [.str (S [a]), .str (S [b]), .str (S [c])]) ∧ low a = true ∧ low b = true ∧ low c = true
theorem Let.kp {H H' : Hp} {p l : Addr} (h : Let H l) (k : Kp p H H') (n : l ≠ p) : Let H' l := by
  obtain ⟨a, b, c, e, r⟩ := h
  exact ⟨a, b, c, k _ _ n e, r⟩
theorem three {a b c : Nat} {d : Nat} (h : d < 3) (ha : low a = true) (hb : low b = true) (hc : low c = true) : ∃ x, low x = true ∧ [V.str (S [a]), V.str (S [b]), V.str (S [c])][d]? = some (.str (S [x])) := by
  match d, h with
  | 0, _ => exact ⟨a, ha, rfl⟩
  | 1, _ => exact ⟨b, hb, rfl⟩
  | 2, _ => exact ⟨c, hc, rfl⟩
theorem Kp.free {p D : Addr} {H H' : Hp} {o : HO} (k : Kp p H H') (h : H D = none) : Kp p H (L2.upd H' D o) := fun b ob n e => by
  rw [upd_ne (ne_of_none e h)]; exact k b ob n e
theorem BoxAt.other {p q : Addr} {H : Hp} {o : HO} {n : Nat} (h : BoxAt H p n) (hq : p ≠ q) : BoxAt (upd H q o) p n := by
  obtain ⟨ob, e, r⟩ := h
  exact ⟨ob, by rw [upd_ne hq]; exact e, r⟩
theorem BoxAt.ne {p q : Addr} {H : Hp} {n : Nat} (h : BoxAt H p n) (hq : H q = none) : p ≠ q := by
  obtain ⟨ob, e, r⟩ := h
  exact ne_of_none e hq
theorem ones_sum (t : List Nat) : (List.map ((fun x : Str => x.length) ∘ fun c => S [c]) t).sum = t.length := by
  induction t with
  | nil => rfl
  | cons c r ih => rw [List.map_cons, List.sum_cons, ih, List.length_cons]; show 1 + _ = _; omega
section
variable {P : Program} {w : World} {K : PySem.W.Frag} {mg : Str → Option Value} {base : Heap}
/-! ### the two texts -/
theorem alpha_at {d : Nat} (h : d < 26) : atI (Str.ofString "abcdefghijklmnopqrstuvwxyz").cps.toList (d : Int) = some (97 + d) := by
  have e : (Str.ofString "abcdefghijklmnopqrstuvwxyz").cps.toList = (List.range 26).map (97 + ·) := by decide +kernel
  rw [e]
  exact atI_nat (by rw [List.getElem?_map, List.getElem?_range h]; rfl)
theorem low_alpha {d : Nat} (h : d < 26) : low (97 + d) = true := by
  unfold low; simp; omega
theorem join_ones (t : List Nat) : Txt.join (Str.ofString "") (t.map fun c => S [c]) = S t := by
  rw [TL.join_eq]
  have e : cs (Str.join (Str.ofString "") (t.map fun c => S [c])) = t := by
    rw [show cs (Str.join (Str.ofString "") (t.map fun c => S [c])) = TL.tl (Str.join (Str.ofString "") (t.map fun c => S [c])) from rfl, TL.tl_join, List.map_map]
    have go : ∀ t : List Nat, TL.joinL [] (t.map fun c => [c]) = t := by
      intro t
      induction t with
      | nil => rfl
      | cons c r ih =>
        cases r with
        | nil => rfl
        | cons d r => show [c] ++ ([] ++ TL.joinL [] ((d :: r).map fun c => [c])) = _; rw [ih]; rfl
    exact go t
  rw [← S_of (Str.join _ _), e]
/-- one of the three letters -/
theorem letter_one {p l : Addr} {x2 x3 : Option V} {H : Hp} {m : Nat} {Q : VK} (hb : BoxAt H p m) (hl : Let H l) (npl : l ≠ p) (hm : m < 1000000000) (h : ∀ c o, low c = true → BoxO (m + 1) o → Q (.str (S [c])) (L2.upd H p o)) :
    (tOp (rIxL K) (tVar 1) (tCall spTake [] E0 (tCons (tVar 0) (tCons (tC (.int 3)) tNil)))) [some (.ref p), some (.ref l), x2, x3] H Q := by
  refine ⟨_, rfl, _, rfl, p, m, 3, rfl, hb, hm, by omega, by omega, fun d o hd ho => ?_⟩
  obtain ⟨a, b, c, el, la, lb, lc⟩ := hl
  obtain ⟨x, lx, ex⟩ := three (d := d) (by omega) la lb lc
  exact ⟨l, _, _, _, rfl, rfl, SqL.of (by rw [upd_ne npl]; exact el), atI_nat (j := d) ex, h x o lx ho⟩
/-- a list of such letters, made at D -/
def Acc (p : Addr) (m : Nat) (H : Hp) (D : Addr) (i : Nat) (H' : Hp) : Prop := Kp p H H' ∧ BoxAt H' p (m + i) ∧ ∃ t, Low t ∧ t.length = i ∧ H' D = some (.lst (t.map fun c => V.str (S [c])))
theorem Acc.start {p D : Addr} {m : Nat} {H : Hp} (hb : BoxAt H p m) (hD : H D = none) : Acc p m H D 0 (L2.upd H D (.lst [])) :=
  ⟨(Kp.refl p H).new hD, hb.new hD, [], Low.nil, rfl, upd_same⟩
theorem Acc.step {p D : Addr} {m i : Nat} {H H' : Hp} {o : HO} {c : Nat} (h : Acc p m H D i H') (npD : p ≠ D) (hD : H D = none) (hi : i < 100) (ho : BoxO (m + i + 1) o) (lc : low c = true) :
    ∃ acc, L2.upd H' p o D = some (.lst acc) ∧ acc.length < sizeLine ∧ Acc p m H D (i + 1) (L2.upd (L2.upd H' p o) D (.lst (acc ++ [.str (S [c])]))) := by
  obtain ⟨k, b, t, lt, le, e⟩ := h
  refine ⟨_, by rw [upd_ne npD.symm]; exact e, by rw [List.length_map]; exact Nat.lt_of_lt_of_le (by omega : t.length < 100) (by decide), k.upd.free hD, ho.at.other npD, t ++ [c], lt.append (Low.one lc), by simp [le], ?_⟩
  rw [upd_same, List.map_append]; rfl
end
end My

set_option Elab.async false
set_option linter.all false
set_option maxRecDepth 100000
set_option maxHeartbeats 8000000
namespace My
open PySem PySem.Spec PyProof.Rows L2
section
variable {P : Program} {w : World} {K : PySem.W.Frag} {mg : Str → Option Value} {base : Heap}
theorem kb_distance_other_one (T : Txt K mg) : KBinds K T.fd_distance ["one", "other"] ["other", "one"] (fun us ws => match us, ws with | [], [x1, x0] => [x0, x1] | _, _ => []) (fun us ws => match us, ws with | [], [x1, x0] => [x0, x1] | _, _ => []) := by
  obtain ⟨oc, od, kV, doc, pm, an, cdv, ct, osl, e, _, _⟩ := T.F_distance.ex
  refine ⟨fun s us ws _ hl => ?_, fun r rz => ?_⟩
  · match us, ws, hl with
    | [], [x1, x0], _ =>
      rw [e]
      exact .of_eq rfl
  · match r, rz with
    | .nil, .cons r1 (.cons r0 (.nil)) => exact .cons r0 (.cons r1 (.nil))
    | .nil, .nil => exact .nil
    | .nil, .cons _ (.nil) => exact .nil
    | .nil, .cons _ (.cons _ (.cons _ _)) => exact .nil
    | .cons _ _, _ => exact .nil

theorem kb_near_most_other_one (T : Txt K mg) : KBinds K T.fd_near ["one", "other", "most"] ["most", "other", "one"] (fun us ws => match us, ws with | [], [x2, x1, x0] => [x0, x1, x2] | _, _ => []) (fun us ws => match us, ws with | [], [x2, x1, x0] => [x0, x1, x2] | _, _ => []) := by
  obtain ⟨oc, od, kV, doc, pm, an, cdv, ct, osl, e, _, _⟩ := T.F_near.ex
  refine ⟨fun s us ws _ hl => ?_, fun r rz => ?_⟩
  · match us, ws, hl with
    | [], [x2, x1, x0], _ =>
      rw [e]
      exact .of_eq rfl
  · match r, rz with
    | .nil, .cons r2 (.cons r1 (.cons r0 (.nil))) => exact .cons r0 (.cons r1 (.cons r2 (.nil)))
    | .nil, .nil => exact .nil
    | .nil, .cons _ (.nil) => exact .nil
    | .nil, .cons _ (.cons _ (.nil)) => exact .nil
    | .nil, .cons _ (.cons _ (.cons _ (.cons _ _))) => exact .nil
    | .cons _ _, _ => exact .nil

/-- whether a value is a count, as is_count says -/
def Jc (K : PySem.W.Frag) (H : Hp) (x : V) (b : Bool) : Prop := (∃ i : Int, x = .int i ∧ b = decide (0 ≤ i)) ∨ (∃ c, x = .bl c ∧ b = false) ∨ ∃ t, TyX K H x (.type t) ∧ kitB t "int" = some false ∧ b = false
def spIsInt (K : PySem.W.Frag) : Sp := fun vs H Q _ => ∃ x, vs = [x] ∧ ((∃ i : Int, x = .int i ∧ Q (.bl true) H) ∨ (∃ c, x = .bl c ∧ Q (.bl false) H) ∨ ∃ t, TyX K H x (.type t) ∧ kitB t "int" = some false ∧ Q (.bl false) H)
theorem ok_is_integer (T : Txt K mg) : FnOk P w K mg base CX0 1 T.f_is_integer T.fd_is_integer ["value"] (spIsInt K) := by
  refine T.F_is_integer.ok sc_is_integer (fun vs H Q E h => ?_) (fun cdv A outer s H vs Q E hr h => ?_)
  · obtain ⟨x, rfl, _⟩ := h; rfl
  · obtain ⟨x, rfl, h⟩ := h
    refine ⟨_, (pss_one (ps_ret (pe_and (pe_callB call_isi (by rfl) T.z_isinstance (by decide +kernel) (pa_cons (pv 0) (pa_cons (pe_bltn (v := .ty "int") (u := .type "int") (by rfl) T.z_int (by decide +kernel) rfl) pa_nil))) (pe_one (pe_not (pe_callB call_isi (by rfl) T.z_isinstance (by decide +kernel) (pa_cons (pv 0) (pa_cons (pe_bltn (v := .ty "bool") (u := .type "bool") (by rfl) T.z_bool (by decide +kernel) rfl) pa_nil)))))))), ?_⟩
    rcases h with ⟨i, rfl, q⟩ | ⟨c, rfl, q⟩ | ⟨t, ty, kb, q⟩
    · refine ⟨_, rfl, _, _, _, _, true, rfl, .ty _, .base (.int _), kit_ty (by decide +kernel), _, rfl, iteT ?_⟩
      exact ⟨_, rfl, _, _, _, _, false, rfl, .ty _, .base (.int _), kit_ty (by decide +kernel), _, rfl, q⟩
    · refine ⟨_, rfl, _, _, _, _, true, rfl, .ty _, .base (.bl _), kit_ty (by decide +kernel), _, rfl, iteT ?_⟩
      exact ⟨_, rfl, _, _, _, _, true, rfl, .ty _, .base (.bl _), kit_ty (by decide +kernel), _, rfl, q⟩
    · refine ⟨_, rfl, _, _, _, _, false, rfl, .ty _, ty, kit_ty kb, _, rfl, iteF ?_⟩
      exact q
def spIsCount (K : PySem.W.Frag) : Sp := fun vs H Q _ => ∃ x b, vs = [x] ∧ Jc K H x b ∧ Q (.bl b) H
theorem ok_is_count (T : Txt K mg) : FnOk P w K mg base CX0 2 T.f_is_count T.fd_is_count ["value"] (spIsCount K) := by
  refine T.F_is_count.ok sc_is_count (fun vs H Q E h => ?_) (fun cdv A outer s H vs Q E hr h => ?_)
  · obtain ⟨x, b, rfl, _⟩ := h; rfl
  · obtain ⟨x, b, rfl, h, q⟩ := h
    refine ⟨_, (pss_one (ps_ret (pe_and (pe_call (ok_is_integer T) (hr.mono (by decide)) rfl T.g_is_integer T.F_is_integer.kp T.b_is_integer .nil pass0 (pa_cons (pv 0) pa_nil)) (pe_one (pe_cmpR op_ge (pv 0) pe_int (nomark _)))))), ?_⟩
    rcases h with ⟨i, rfl, rfl⟩ | ⟨c, rfl, rfl⟩ | ⟨t, ty, kb, rfl⟩
    · exact ⟨_, rfl, _, rfl, .inl ⟨i, rfl, _, rfl, iteT ⟨_, rfl, _, _, rfl, rfl, q⟩⟩⟩
    · exact ⟨_, rfl, _, rfl, .inr (.inl ⟨c, rfl, _, rfl, iteF q⟩)⟩
    · exact ⟨_, rfl, _, rfl, .inr (.inr ⟨t, ty, kb, _, rfl, iteF q⟩)⟩
def spDist (K : PySem.W.Frag) (C : Addr) : Sp := fun vs H Q E => ∃ x y bx b2, vs = [x, y] ∧ Jd K H x bx ∧ Jd K H y b2 ∧ (∀ t, H t = none → Jd K (upd H t (.tup [x, y])) x bx ∧ Jd K (upd H t (.tup [x, y])) y b2) ∧
  (bx = false → Bad C H x E) ∧ (bx = true → b2 = false → Bad C H y E) ∧
  (bx = true → b2 = true → ∃ u v : List Nat, x = .str (S u) ∧ y = .str (S v) ∧ u.length ≤ 1000 ∧ v.length ≤ 1000 ∧ ∀ H', Same H H' → Q (.int (Lev.D u v : Nat)) H')
theorem ok_distance (T : Txt K mg) : FnOk P w K mg base (L2.CX P w) 5 T.f_distance T.fd_distance ["one", "other"] (spDist K T.C_InvalidText) := by
  refine T.F_distance.okX sc_distance (fun vs H Q E h => ?_) (fun cdv A outer s H vs Q E hr h => ?_)
  · obtain ⟨x, y, _, _, rfl, _⟩ := h; rfl
  · obtain ⟨x, y, bx, b2, rfl, jx, jy, hj, kX, kY, kQ⟩ := h
    refine ⟨_, (pss_cons (ps_expr (pe_call (ok_check_texts T) (hr.mono (by decide)) rfl T.g_check_texts T.F_check_texts.kp T.b_check_texts .nil (passes_call (takes_of rfl rfl rfl rfl) (fun _ _ _ _ z => z)) (pa_cons (pv 0) (pa_cons (pv 1) pa_nil))))
      (pss_cons (ps_if (pt_cmpR op_gt (pe_call (ok_longer T) (hr.mono (by decide)) rfl T.g_longer T.F_longer.kp T.b_longer .nil pass0 (pa_cons (pv 0) (pa_cons (pv 1) pa_nil))) (pe_glob (v := .int (1000)) rfl T.c_LONG ⟨_, rfl⟩) (nomark _)) (pss_cons (ps_set (i := 2) sc_distance.nd rfl (Or.inl rfl) (pe_call (ok_fewest_changes T) (hr.mono (by decide)) rfl T.g_fewest_changes T.F_fewest_changes.kp T.b_fewest_changes .nil pass0 (pa_cons (pv 0) (pa_cons (pv 1) (pa_cons (pe_op op_fdiv (pe_call (ok_longer T) (hr.mono (by decide)) rfl T.g_longer T.F_longer.kp T.b_longer .nil pass0 (pa_cons (pv 0) (pa_cons (pv 1) pa_nil))) (pe_glob (v := .int (50)) rfl T.c_LETTERS ⟨_, rfl⟩)) pa_nil)))))
      (pss_one (ps_if (pt_cmp (pc_notN (pv 2))) (pss_one (ps_ret (pv 2))) pss_nil))) pss_nil)
      (pss_one (ps_ret (pe_call (ok_changes_between T) (hr.mono (by decide)) rfl T.g_changes_between T.F_changes_between.kp T.b_changes_between .nil pass0 (pa_cons (pv 0) (pa_cons (pv 1) pa_nil))))))), ?_⟩
    refine ⟨_, rfl, _, rfl, x, y, bx, b2, rfl, jx, jy, hj, kX, kY, fun ex ey H1 s1 => ?_⟩
    obtain ⟨u, v, rfl, rfl, hu, hv, kR⟩ := kQ ex ey
    have bu : Big u := Nat.le_trans hu (by decide)
    have bv : Big v := Nat.le_trans hv (by decide)
    refine ⟨_, rfl, _, rfl, u, v, rfl, bu, bv, _, _, rfl, rfl, _, rfl, ite2 (fun c => ?_) (fun _ => ?_)⟩
    · have c' : (1000 : Int) < max (u.length : Int) v.length := of_decide_eq_true c
      omega
    · exact ⟨_, rfl, _, rfl, u, v, rfl, hu, hv, fun H2 s2 => kR H2 (s1.trans s2)⟩
def spNear (K : PySem.W.Frag) (C C2 : Addr) : Sp := fun vs H Q E => ∃ x y m bx b2 bm, vs = [x, y, m] ∧ Jd K H x bx ∧ Jd K H y b2 ∧ (∀ H', Same H H' → Jc K H' m bm) ∧ (∀ t, H t = none → Jd K (upd H t (.tup [x, y])) x bx ∧ Jd K (upd H t (.tup [x, y])) y b2) ∧
  (bx = false → Bad C H x E) ∧ (bx = true → b2 = false → Bad C H y E) ∧ (bx = true → b2 = true → bm = false → Bad C2 H m E) ∧
  (bx = true → b2 = true → bm = true → ∃ (u v : List Nat) (k : Int), x = .str (S u) ∧ y = .str (S v) ∧ m = .int k ∧ Big u ∧ Big v ∧ k ≤ 1000000 ∧
    ((Lev.D u v : Int) ≤ k → ∀ H', Same H H' → Q (.int (Lev.D u v : Nat)) H') ∧ (¬ (Lev.D u v : Int) ≤ k → ∀ H', Same H H' → Q .non H'))
theorem ok_near (T : Txt K mg) : FnOk P w K mg base (L2.CX P w) 5 T.f_near T.fd_near ["one", "other", "most"] (spNear K T.C_InvalidText T.C_InvalidCount) := by
  refine T.F_near.okX sc_near (fun vs H Q E h => ?_) (fun cdv A outer s H vs Q E hr h => ?_)
  · obtain ⟨x, y, m, _, _, _, rfl, _⟩ := h; rfl
  · obtain ⟨x, y, m, bx, b2, bm, rfl, jx, jy, jm, hj, kX, kY, kM, kQ⟩ := h
    refine ⟨_, (pss_cons (ps_expr (pe_call (ok_check_texts T) (hr.mono (by decide)) rfl T.g_check_texts T.F_check_texts.kp T.b_check_texts .nil (passes_call (takes_of rfl rfl rfl rfl) (fun _ _ _ _ z => z)) (pa_cons (pv 0) (pa_cons (pv 1) pa_nil))))
      (pss_cons (ps_if (pt_not (pt_val (pe_call (ok_is_count T) (hr.mono (by decide)) rfl T.g_is_count T.F_is_count.kp T.b_is_count .nil pass0 (pa_cons (pv 2) pa_nil)))) (pss_one (ps_raiseE rfl T.e_InvalidCount hr (takes_of rfl rfl rfl rfl) (pa_cons (pv 2) pa_nil))) pss_nil)
      (pss_one (ps_ret (pe_call (ok_fewest_changes T) (hr.mono (by decide)) rfl T.g_fewest_changes T.F_fewest_changes.kp T.b_fewest_changes .nil pass0 (pa_cons (pv 0) (pa_cons (pv 1) (pa_cons (pv 2) pa_nil)))))))), ?_⟩
    refine ⟨_, rfl, _, rfl, x, y, bx, b2, rfl, jx, jy, hj, kX, kY, fun ex ey H1 s1 => ?_⟩
    refine ⟨_, rfl, m, bm, rfl, jm H1 s1, _, rfl, ?_⟩
    cases bm with
    | false =>
      refine iteT ⟨_, rfl, m, rfl, fun d hd => ?_⟩
      have hdn : H d = none := s1.free hd
      exact kM ex ey rfl d _ (fun b o q => by rw [upd_ne (ne_of_none (s1 b o q) hd)]; exact s1 b o q) hdn upd_same
    | true =>
      obtain ⟨u, v, k, rfl, rfl, rfl, hu, hv, hk, kS, kN⟩ := kQ ex ey rfl
      refine iteF ?_
      exact ⟨_, rfl, _, rfl, _, rfl, u, v, k, rfl, hu, hv, hk, fun hD H2 s2 => kS hD H2 (s1.trans s2), fun hD H2 s2 => kN hD H2 (s1.trans s2)⟩
end
end My

set_option Elab.async false
set_option linter.all false
set_option maxRecDepth 100000
set_option maxHeartbeats 8000000
namespace My
open PySem PySem.Spec PyProof.Rows L2
theorem tyOf_same {K : PySem.W.Frag} {H H' : Hp} {x : V} {t : Value} (h : TyOf K H x t) (s : Same H H') : TyOf K H' x t := by
  cases h
  case non => exact .non
  case bl => exact .bl _
  case int => exact .int _
  case str => exact .str _
  case flt => exact .flt _
  case lst e => exact .lst (s _ _ e)
  case frz e => exact .frz (s _ _ e)
  case tup e => exact .tup (s _ _ e)
  case dK e => exact .dK (s _ _ e)
  case dT e => exact .dT (s _ _ e)
  case ins e cl ha hn htk hm => exact .ins (s _ _ e) cl ha hn htk hm
theorem tyX_same {K : PySem.W.Frag} {H H' : Hp} {x : V} {t : Value} (h : TyX K H x t) (s : Same H H') : TyX K H' x t := by
  cases h
  case base e => exact .base (tyOf_same e s)
  case byt => exact .byt _
  case set e => exact .set (s _ _ e)
  case kList e c => exact .kList e c
  case kTuple e c => exact .kTuple e c
  case kDict e c => exact .kDict e c
  case fTuple e => exact .fTuple (s _ _ e)
  case fDict e => exact .fDict (s _ _ e)
theorem Jd.same {K : PySem.W.Frag} {H H' : Hp} {x : V} {b : Bool} (h : Jd K H x b) (s : Same H H') : Jd K H' x b := by
  rcases h with h | ⟨t, h1, h2, h3⟩
  · exact .inl h
  · exact .inr ⟨t, tyX_same h1 s, h2, h3⟩
/-! ### what can be shown -/
def Sh (d : PyData) : Prop := d.showable = true ∧ d.depth ≤ 60 ∧ d.shown.length ≤ sizeLine
theorem sh_of {d : PyData} (h1 : d.showable = true) (h2 : d.depth ≤ 60) (h3 : d.leavesShort 40 = true) (h4 : d.weight ≤ 100000) : Sh d := by
  refine ⟨h1, h2, ?_⟩
  have e := PyData.shown_le 40 (by omega) d h3
  exact Nat.le_trans e (Nat.le_trans (by omega : (40 + 2) * d.weight + 40 ≤ 4200040) (by decide))
theorem log2_20 {r : Nat} (h : r < 1048576) : r.log2 < 20 := PySem.Flt.log2_lt_of (by decide) h
theorem short_int {r : Nat} (h : r < 1048576) : (PyData.int r).leavesShort 40 = true := by
  have e := int_text_length_le (a := (r : Int)) (k := 20) (by decide) (log2_20 h)
  have e2 : (PyData.int (r : Int)).shown = Str.ofString (toString (r : Int)) := by simp only [PyData.shown]
  unfold PyData.leavesShort
  refine decide_eq_true ?_
  rw [e2, PySem.ofString_length]
  omega
theorem show_int {r : Nat} (h : r < 1048576) : (PyData.int r).showable = true := by
  simp only [PyData.showable, decide_eq_true_eq]
  exact Nat.lt_trans (log2_20 h) (by decide)
theorem weight_int {r : Nat} (h : r < 1048576) : (PyData.int r).weight ≤ 21 := by
  simp only [PyData.weight]
  have := log2_20 h
  split
  · omega
  · show (r : Int).natAbs.log2 + 1 ≤ 21
    rw [Int.natAbs_natCast]; omega
def dT (r : Nat) : PyData := .list [.str "told", .int r]
theorem sh_dT {r : Nat} (h : r < 1048576) : Sh (dT r) := by
  have h1 := show_int h
  have h2 := short_int h
  have h3 := weight_int h
  have s1 : (PyData.str "told").showable = true := by simp only [PyData.showable]
  have s2 : (PyData.str "told").leavesShort 40 = true := by decide +kernel
  have s3 : (PyData.str "told").weight = 4 := by decide +kernel
  unfold dT
  refine sh_of ?_ ?_ ?_ ?_
  · simp only [PyData.showable, PyData.showableAll] at h1 ⊢
    rw [h1]; rfl
  · simp only [PyData.depth, PyData.depthAll]; omega
  · simp only [PyData.leavesShort, PyData.leavesShortAll] at h2 s2 ⊢
    rw [h2, s2]; rfl
  · simp only [PyData.weight, PyData.weightAll] at h3 s3 ⊢
    omega
theorem dr_dT {K : PySem.W.Frag} {H : Hp} {q : Addr} {r : Nat} : Dr K (upd H q (.lst [.str "told", .int r])) (.ref q) (dT r) :=
  .inl (.lst (SqL.of upd_same) (.cons (.str _) (.cons (.int _) .nil)))
theorem un64 {k : Nat} {A : Around} (hr : Room k A) : A.units + 64 < cLine := by have := hr.un; omega
theorem neSame {z : Str} {A B : Prop} (h : B) : if (!decide (V.str z = V.str z)) = true then A else B := by
  rw [decide_eq_true rfl]; exact iteF h
theorem jd_low {K : PySem.W.Frag} {H : Hp} {t : List Nat} (h : Low t) : Jd K H (.str (S t)) true := .inl ⟨_, rfl, h.isT.symm⟩
theorem eqT {i : Int} {A B : Prop} (h : A) : if decide (V.int i = V.int i) = true then A else B := by
  rw [decide_eq_true rfl]; exact iteT h
theorem eqF {i j : Int} {A B : Prop} (n : i ≠ j) (h : B) : if decide (V.int i = V.int j) = true then A else B := by
  rw [decide_eq_false (fun z => n (V.int.inj z))]; exact iteF h
section
variable {P : Program} {w : World} {K : PySem.W.Frag} {mg : Str → Option Value} {base : Heap}
def spMet (K : PySem.W.Frag) : Sp := fun vs H Q _ => ∃ (i : Int) (x y m : V) (bx b2 bm : Bool), vs = [.int i, x, y, m] ∧ (i = 0 ∨ i = 1 ∨ i = 2 ∨ i = 3) ∧ Jd K H x bx ∧ Jd K H y b2 ∧ (∀ H', Same H H' → Jc K H' m bm) ∧
  (bx = false → ∀ q H', Same H H' → H' q = none → Q (.ref q) (upd H' q (.lst [.str "text", x]))) ∧
  (bx = true → b2 = false → ∀ q H', Same H H' → H' q = none → Q (.ref q) (upd H' q (.lst [.str "text", y]))) ∧
  (bx = true → b2 = true → bm = false → 2 ≤ i → ∀ q H', Same H H' → H' q = none → Q (.ref q) (upd H' q (.lst [.str "count", m]))) ∧
  (bx = true → b2 = true → ∃ u v : List Nat, x = .str (S u) ∧ y = .str (S v) ∧ u.length ≤ 1000 ∧ v.length ≤ 1000 ∧
    (i < 2 → ∀ q H', Same H H' → H' q = none → Q (.ref q) (upd H' q (.lst [.str "told", .int (Lev.D u v : Nat)]))) ∧
    (2 ≤ i → bm = true → ∃ k : Int, m = .int k ∧ k ≤ 1000000 ∧ ∀ q H', Same H H' → H' q = none → Q (.ref q) (upd H' q (.lst [.str "told", if (Lev.D u v : Int) ≤ k then .int (Lev.D u v : Nat) else .non]))))
theorem ok_law_met (T : Txt K mg) : FnOk P w K mg base CX0 6 T.f_law_met T.fd_law_met ["which", "first", "second", "number"] (spMet K) := by
  refine T.F_law_met.ok sc_law_met (fun vs H Q E h => ?_) (fun cdv A outer s H vs Q E hr h => ?_)
  · obtain ⟨i, x, y, m, _, _, _, rfl, _⟩ := h; rfl
  · obtain ⟨i, x, y, m, bx, b2, bm, rfl, hi, jx, jy, jm, kX, kY, kM, kQ⟩ := h
    refine ⟨_, (pss_one (ps_tryAll (i := 4) rfl rfl sc_law_met.nd rfl rfl takes0 (fun W pn xe tk _ => (pss_cons (ps_if (pt_cmpR op_eq (pv 0) pe_int (nomark _)) (pss_one (ps_ret (pe_lst (pa_cons pe_str (pa_cons (pe_callS (ok_distance T) (hr.mono (by decide)) rfl T.g_distance T.F_distance.kp T.b_distance (fun σ => passAt tk σ) (pa_cons (pv 1) (pa_cons (pv 2) pa_nil))) pa_nil))))) pss_nil)
      (pss_cons (ps_if (pt_cmpR op_eq (pv 0) pe_int (nomark _)) (pss_one (ps_ret (pe_lst (pa_cons pe_str (pa_cons (pe_callKS (ok_distance T) (hr.mono (by decide)) rfl T.g_distance T.F_distance.kp (kb_distance_other_one T) (fun σ => passAt tk σ) (pk_cons (pv 2) (pk_cons (pv 1) pk_nil))) pa_nil))))) pss_nil)
      (pss_cons (ps_if (pt_cmpR op_eq (pv 0) pe_int (nomark _)) (pss_one (ps_ret (pe_lst (pa_cons pe_str (pa_cons (pe_callS (ok_near T) (hr.mono (by decide)) rfl T.g_near T.F_near.kp T.b_near (fun σ => passAt tk σ) (pa_cons (pv 1) (pa_cons (pv 2) (pa_cons (pv 3) pa_nil)))) pa_nil))))) pss_nil)
      (pss_one (ps_ret (pe_lst (pa_cons pe_str (pa_cons (pe_callKS (ok_near T) (hr.mono (by decide)) rfl T.g_near T.F_near.kp (kb_near_most_other_one T) (fun σ => passAt tk σ) (pk_cons (pv 3) (pk_cons (pv 2) (pk_cons (pv 1) pk_nil)))) pa_nil))))))))) (.more ⟨rfl, by decide, Or.inl T.e_InvalidText.gC⟩ (fun a oe cls d pn hz hf => (pss_one (ps_ret (pe_lst (pa_cons pe_str (pa_cons (pe_gvn T.e_InvalidText hz hf (pv 4)) pa_nil)))))) (.more ⟨rfl, by decide, Or.inl T.e_InvalidCount.gC⟩ (fun a oe cls d pn hz hf => (pss_one (ps_ret (pe_lst (pa_cons pe_str (pa_cons (pe_gvn T.e_InvalidCount hz hf (pv 4)) pa_nil)))))) .last)))), ?_⟩
    have st : ∀ t, H t = none → Jd K (upd H t (.tup [x, y])) x bx ∧ Jd K (upd H t (.tup [x, y])) y b2 := fun t ht => ⟨jx.same (Same.new (Same.refl H) ht), jy.same (Same.new (Same.refl H) ht)⟩
    have two : 2 ≤ sizeLine := by decide
    rcases hi with rfl | rfl | rfl | rfl
    · refine ⟨_, rfl, rfl, _, rfl, eqT ?_⟩
      refine ⟨_, rfl, _, rfl, x, y, bx, b2, rfl, jx, jy, st, fun eb d H' s' _ ed => ?_, fun ex ey d H' s' _ ed => ?_, fun ex ey => ?_⟩
      · exact ⟨true, T.x_InvalidText, fun _ a _ => ⟨_, rfl, rfl, rfl, d, _, rfl, ed, two, fun q hq => kX eb q H' s' hq⟩, fun z => by cases z⟩
      · exact ⟨true, T.x_InvalidText, fun _ a _ => ⟨_, rfl, rfl, rfl, d, _, rfl, ed, two, fun q hq => kY ex ey q H' s' hq⟩, fun z => by cases z⟩
      · obtain ⟨u, v, e1, e2, hu, hv, k1, _⟩ := kQ ex ey
        exact ⟨u, v, e1, e2, hu, hv, fun H' s' => ⟨two, fun q hq => k1 (by omega) q H' s' hq⟩⟩
    · refine ⟨_, rfl, rfl, _, rfl, eqF (by decide) ⟨_, rfl, rfl, _, rfl, eqT ?_⟩⟩
      refine ⟨_, rfl, _, rfl, x, y, bx, b2, rfl, jx, jy, st, fun eb d H' s' _ ed => ?_, fun ex ey d H' s' _ ed => ?_, fun ex ey => ?_⟩
      · exact ⟨true, T.x_InvalidText, fun _ a _ => ⟨_, rfl, rfl, rfl, d, _, rfl, ed, two, fun q hq => kX eb q H' s' hq⟩, fun z => by cases z⟩
      · exact ⟨true, T.x_InvalidText, fun _ a _ => ⟨_, rfl, rfl, rfl, d, _, rfl, ed, two, fun q hq => kY ex ey q H' s' hq⟩, fun z => by cases z⟩
      · obtain ⟨u, v, e1, e2, hu, hv, k1, _⟩ := kQ ex ey
        exact ⟨u, v, e1, e2, hu, hv, fun H' s' => ⟨two, fun q hq => k1 (by omega) q H' s' hq⟩⟩
    · refine ⟨_, rfl, rfl, _, rfl, eqF (by decide) ⟨_, rfl, rfl, _, rfl, eqF (by decide) ⟨_, rfl, rfl, _, rfl, eqT ?_⟩⟩⟩
      refine ⟨_, rfl, _, rfl, _, rfl, x, y, m, bx, b2, bm, rfl, jx, jy, jm, st, fun eb d H' s' _ ed => ?_, fun ex ey d H' s' _ ed => ?_, fun ex ey em d H' s' _ ed => ?_, fun ex ey em => ?_⟩
      · exact ⟨true, T.x_InvalidText, fun _ a _ => ⟨_, rfl, rfl, rfl, d, _, rfl, ed, two, fun q hq => kX eb q H' s' hq⟩, fun z => by cases z⟩
      · exact ⟨true, T.x_InvalidText, fun _ a _ => ⟨_, rfl, rfl, rfl, d, _, rfl, ed, two, fun q hq => kY ex ey q H' s' hq⟩, fun z => by cases z⟩
      · exact ⟨false, T.no_InvalidCount_InvalidText, (fun z => by cases z), fun _ => ⟨true, T.x_InvalidCount, fun _ a _ => ⟨_, rfl, rfl, rfl, d, _, rfl, ed, two, fun q hq => kM ex ey em (by omega) q H' s' hq⟩, fun z => by cases z⟩⟩
      · obtain ⟨u, v, e1, e2, hu, hv, _, k2⟩ := kQ ex ey
        obtain ⟨k, ek, hk, k3⟩ := k2 (by omega) em
        refine ⟨u, v, k, e1, e2, ek, Nat.le_trans hu (by decide), Nat.le_trans hv (by decide), hk, fun hD H' s' => ⟨two, fun q hq => ?_⟩, fun hD H' s' => ⟨two, fun q hq => ?_⟩⟩
        · have := k3 q H' s' hq
          rw [if_pos hD] at this; exact this
        · have := k3 q H' s' hq
          rw [if_neg hD] at this; exact this
    · refine ⟨_, rfl, rfl, _, rfl, eqF (by decide) ⟨_, rfl, rfl, _, rfl, eqF (by decide) ⟨_, rfl, rfl, _, rfl, eqF (by decide) ?_⟩⟩⟩
      refine ⟨_, rfl, _, rfl, _, rfl, x, y, m, bx, b2, bm, rfl, jx, jy, jm, st, fun eb d H' s' _ ed => ?_, fun ex ey d H' s' _ ed => ?_, fun ex ey em d H' s' _ ed => ?_, fun ex ey em => ?_⟩
      · exact ⟨true, T.x_InvalidText, fun _ a _ => ⟨_, rfl, rfl, rfl, d, _, rfl, ed, two, fun q hq => kX eb q H' s' hq⟩, fun z => by cases z⟩
      · exact ⟨true, T.x_InvalidText, fun _ a _ => ⟨_, rfl, rfl, rfl, d, _, rfl, ed, two, fun q hq => kY ex ey q H' s' hq⟩, fun z => by cases z⟩
      · exact ⟨false, T.no_InvalidCount_InvalidText, (fun z => by cases z), fun _ => ⟨true, T.x_InvalidCount, fun _ a _ => ⟨_, rfl, rfl, rfl, d, _, rfl, ed, two, fun q hq => kM ex ey em (by omega) q H' s' hq⟩, fun z => by cases z⟩⟩
      · obtain ⟨u, v, e1, e2, hu, hv, _, k2⟩ := kQ ex ey
        obtain ⟨k, ek, hk, k3⟩ := k2 (by omega) em
        refine ⟨u, v, k, e1, e2, ek, Nat.le_trans hu (by decide), Nat.le_trans hv (by decide), hk, fun hD H' s' => ⟨two, fun q hq => ?_⟩, fun hD H' s' => ⟨two, fun q hq => ?_⟩⟩
        · have := k3 q H' s' hq
          rw [if_pos hD] at this; exact this
        · have := k3 q H' s' hq
          rw [if_neg hD] at this; exact this
/-! ### what is no text -/
def Od (H : Hp) (x : V) : Prop := (∃ z, x = .str (S z) ∧ isT (S z) = false ∧ z.length ≤ 100 ∧ ∀ c ∈ z, c < 200) ∨ x = .non ∨ x = .int 5 ∨ x = .bl true ∨
  (∃ a t, x = .ref a ∧ H a = some (.lst [.str (S t)]) ∧ t.length ≤ 100 ∧ Low t) ∨ (∃ a t, x = .ref a ∧ H a = some (.tup [.str (S t), .str "a"]) ∧ t.length ≤ 100 ∧ Low t) ∨ (∃ a, x = .ref a ∧ H a = some (.dK []))
theorem Low.lt {t : List Nat} (h : Low t) : ∀ c ∈ t, c < 200 := fun c hc => by
  have := h c hc
  unfold low at this
  simp only [Bool.and_eq_true, decide_eq_true_eq] at this
  omega
def spOdd : Sp := fun vs H Q _ => ∃ (p : Addr) (n : Nat) (t : List Nat), vs = [.ref p, .str (S t)] ∧ BoxAt H p n ∧ n < 1000000 ∧ Low t ∧ t.length ≤ 50 ∧
  ∀ x H', Od H' x → Kp p H H' → BoxAt H' p (n + 2) → Q x H'
theorem ok_law_odd (T : Txt K mg) : FnOk P w K mg base CX0 2 T.f_law_odd T.fd_law_odd ["box", "text"] spOdd := by
  refine T.F_law_odd.ok sc_law_odd (fun vs H Q E h => ?_) (fun cdv A outer s H vs Q E hr h => ?_)
  · obtain ⟨p, n, t, rfl, _⟩ := h; rfl
  · obtain ⟨p, n, t, rfl, hb, hn, lt, bt, q⟩ := h
    have ht : (S t).length ≤ sizeLine := by rw [S_len]; exact Nat.le_trans bt (by decide)
    refine ⟨_, (pss_cons (ps_par (i := 2) (j := 3) (by rfl) sc_law_odd.nd rfl rfl (by decide) rfl rfl (pa_cons (pe_call (ok_law_take T) (hr.mono (by decide)) rfl T.g_law_take T.F_law_take.kp T.b_law_take .nil pass0 (pa_cons (pv 0) (pa_cons pe_int pa_nil))) (pa_cons (pe_call (ok_law_take T) (hr.mono (by decide)) rfl T.g_law_take T.F_law_take.kp T.b_law_take .nil pass0 (pa_cons (pv 0) (pa_cons (pe_op op_add (pe_callB call_len_str (by rfl) T.z_len (by decide +kernel) (pa_cons (pv 1) pa_nil)) pe_int) pa_nil))) pa_nil)) (by rfl))
      (pss_cons (ps_if (pt_cmpR op_lt (pv 2) pe_int (nomark _)) (pss_one (ps_ret (pe_op op_add_str (pe_op op_add_str (pe_slice sl_str (pv 1) po_none (po_some (pv 3))) (pe_ix ix_list (pe_lst (pa_cons pe_str (pa_cons pe_str (pa_cons pe_str (pa_cons pe_str (pa_cons pe_str (pa_cons pe_str (pa_cons pe_str pa_nil)))))))) (pv 2) (fun _ _ => rfl))) (pe_slice sl_str (pv 1) (po_some (pv 3)) po_none)))) pss_nil)
      (pss_one (ps_ret (pe_ix ix_list (pe_lst (pa_cons pe_non (pa_cons pe_int (pa_cons pe_bl (pa_cons (pe_lst (pa_cons (pv 1) pa_nil)) (pa_cons (pe_tup (pa_cons (pv 1) (pa_cons pe_str pa_nil))) (pa_cons pe_dnewK pa_nil))))))) (pe_op op_sub (pv 2) pe_int) (fun _ _ => rfl)))))), ?_⟩
    refine ⟨_, rfl, p, n, 13, rfl, hb, by omega, by omega, by omega, fun way o hway ho => ?_⟩
    refine ⟨_, rfl, _, rfl, _, rfl, ht, _, _, rfl, rfl, p, _, _, rfl, ho.at, by omega, by rw [S_len]; omega, by rw [S_len]; omega, fun d o2 hd ho2 => ?_⟩
    rw [S_len] at hd
    have k0 := ((Kp.refl p H).upd (o := o)).upd (o := o2)
    have b0 : BoxAt (upd (upd H p o) p o2) p (n + 2) := ho2.at
    generalize upd (upd H p o) p o2 = H1 at k0 b0
    refine ⟨_, _, rfl, _, rfl, _, _, rfl, rfl, _, rfl, ite2 (fun c => ?_) (fun c => ?_)⟩
    · have c' : (way : Int) < 7 := of_decide_eq_true c
      obtain ⟨x, lx, bx, ex⟩ : ∃ x : Nat, low x = false ∧ x < 200 ∧ [V.str (Str.ofString "A"), .str (Str.ofString "{"), .str (Str.ofString " "), .str (Str.ofString "0"), .str (Str.ofString "-"), .str (Str.ofString "Z"), .str (Str.ofString "\n")][way]? = some (.str (S [x])) := by
        have h7 : way < 7 := by omega
        match way, h7 with
        | 0, _ => exact ⟨65, by decide, by omega, congrArg (fun z => some (V.str z)) (by decide +kernel)⟩
        | 1, _ => exact ⟨123, by decide, by omega, congrArg (fun z => some (V.str z)) (by decide +kernel)⟩
        | 2, _ => exact ⟨32, by decide, by omega, congrArg (fun z => some (V.str z)) (by decide +kernel)⟩
        | 3, _ => exact ⟨48, by decide, by omega, congrArg (fun z => some (V.str z)) (by decide +kernel)⟩
        | 4, _ => exact ⟨45, by decide, by omega, congrArg (fun z => some (V.str z)) (by decide +kernel)⟩
        | 5, _ => exact ⟨90, by decide, by omega, congrArg (fun z => some (V.str z)) (by decide +kernel)⟩
        | 6, _ => exact ⟨10, by decide, by omega, congrArg (fun z => some (V.str z)) (by decide +kernel)⟩
      refine ⟨_, rfl, _, rfl, _, rfl, _, rfl, ht, (by show 7 ≤ sizeLine; decide), fun q1 hq1 => ?_⟩
      refine ⟨_, rfl, q1, _, _, _, rfl, rfl, SqL.of upd_same, atI_nat (j := way) ex, _, _, rfl, rfl, ?_, ?_⟩
      · rw [cut_to, S_len, S_len, List.length_take]
        exact Nat.le_trans (by simp; omega : min d t.length + [x].length ≤ 100) (by decide)
      refine ⟨_, rfl, _, rfl, _, rfl, _, rfl, ht, ?_⟩
      rw [cut_to, cut_from, S_app]
      refine ⟨_, _, rfl, rfl, ?_, ?_⟩
      · rw [S_len, S_len, List.length_append, List.length_take, List.length_drop]
        exact Nat.le_trans (by simp; omega : min d t.length + [x].length + (t.length - d) ≤ 200) (by decide)
      rw [S_app]
      refine q _ _ (.inl ⟨_, rfl, ?_, ?_, fun c hc => ?_⟩) (k0.new hq1) (b0.new hq1)
      · unfold isT
        rw [S_tl, List.all_eq_false]
        exact ⟨x, by simp, by simp [lx]⟩
      · simp only [List.length_append, List.length_take, List.length_drop, List.length_singleton]; omega
      · simp only [List.mem_append, List.mem_singleton] at hc
        rcases hc with (hc | hc) | hc
        · exact lt.lt c (List.mem_of_mem_take hc)
        · omega
        · exact lt.lt c (List.mem_of_mem_drop hc)
    · have c' : ¬ (way : Int) < 7 := fun z => c (decide_eq_true z)
      refine ⟨_, rfl, (by show 1 ≤ sizeLine; decide), fun q1 hq1 => ?_⟩
      refine ⟨_, rfl, (by show 2 ≤ sizeLine; decide), fun q2 hq2 => ?_⟩
      intro q3 hq3
      refine ⟨(by show 6 ≤ sizeLine; decide), fun q4 hq4 => ?_⟩
      have k4 := ((((k0.new hq1 (o := .lst [.str (S t)])).new hq2 (o := .tup [.str (S t), .str "a"])).new hq3 (o := .dK []))).new hq4 (o := .lst [.non, .int 5, .bl true, .ref q1, .ref q2, .ref q3])
      have b4 := ((((b0.new hq1 (o := .lst [.str (S t)])).new hq2 (o := .tup [.str (S t), .str "a"])).new hq3 (o := .dK []))).new hq4 (o := .lst [.non, .int 5, .bl true, .ref q1, .ref q2, .ref q3])
      have n12 : q1 ≠ q2 := ne_of_none upd_same hq2
      have n13 : q1 ≠ q3 := ne_of_none (by rw [upd_ne n12]; exact upd_same) hq3
      have n23 : q2 ≠ q3 := ne_of_none upd_same hq3
      have n14 : q1 ≠ q4 := ne_of_none (by rw [upd_ne n13, upd_ne n12]; exact upd_same) hq4
      have n24 : q2 ≠ q4 := ne_of_none (by rw [upd_ne n23]; exact upd_same) hq4
      have n34 : q3 ≠ q4 := ne_of_none upd_same hq4
      obtain ⟨x, ox, ex⟩ : ∃ x, Od (upd (upd (upd (upd H1 q1 (.lst [.str (S t)])) q2 (.tup [.str (S t), .str "a"])) q3 (.dK [])) q4 (.lst [.non, .int 5, .bl true, .ref q1, .ref q2, .ref q3])) x ∧ [V.non, .int 5, .bl true, .ref q1, .ref q2, .ref q3][way - 7]? = some x := by
        have h6 : way - 7 < 6 := by omega
        generalize way - 7 = j at h6
        match j, h6 with
        | 0, _ => exact ⟨_, .inr (.inl rfl), rfl⟩
        | 1, _ => exact ⟨_, .inr (.inr (.inl rfl)), rfl⟩
        | 2, _ => exact ⟨_, .inr (.inr (.inr (.inl rfl))), rfl⟩
        | 3, _ => exact ⟨_, .inr (.inr (.inr (.inr (.inl ⟨q1, t, rfl, by rw [upd_ne n14, upd_ne n13, upd_ne n12]; exact upd_same, by omega, lt⟩)))), rfl⟩
        | 4, _ => exact ⟨_, .inr (.inr (.inr (.inr (.inr (.inl ⟨q2, t, rfl, by rw [upd_ne n24, upd_ne n23]; exact upd_same, by omega, lt⟩))))), rfl⟩
        | 5, _ => exact ⟨_, .inr (.inr (.inr (.inr (.inr (.inr ⟨q3, rfl, by rw [upd_ne n34]; exact upd_same⟩))))), rfl⟩
      refine ⟨_, rfl, _, _, rfl, rfl, ?_⟩
      have e7 : (way : Int) - 7 = ((way - 7 : Nat) : Int) := by omega
      exact ⟨q4, _, ((way - 7 : Nat) : Int), _, rfl, congrArg V.int e7, SqL.of upd_same, atI_nat (j := way - 7) ex, q x _ ox k4 b4⟩
end
end My

set_option Elab.async false
set_option linter.all false
set_option maxRecDepth 100000
set_option maxHeartbeats 8000000
namespace My
open PySem PySem.Spec PyProof.Rows L2
theorem through {t : TE} {σ : L2.St} {H : Hp} {Q : VK} (R : Nat → Hp → Prop) (h : ∀ Q' : VK, (∀ (m : Nat) H', R m H' → Q' (.int m) H') → t σ H Q') (rest : ∀ (m : Nat) H', R m H' → Q (.int m) H') : t σ H Q := h Q rest
section
variable {P : Program} {w : World} {K : PySem.W.Frag} {mg : Str → Option Value} {base : Heap}
def spLetters : Sp := fun vs H Q _ => ∃ (p : Addr) (n : Nat), vs = [.ref p] ∧ BoxAt H p n ∧ n < 100000000 ∧ ∀ D H', Kp p H H' → BoxAt H' p (n + 3) → Let H' D → D ≠ p → Q (.ref D) H'
theorem ok_law_letters (T : Txt K mg) : FnOk P w K mg base CX0 2 T.f_law_letters T.fd_law_letters ["box"] spLetters := by
  refine T.F_law_letters.ok sc_law_letters (fun vs H Q E h => ?_) (fun cdv A outer s H vs Q E hr h => ?_)
  · obtain ⟨p, n, rfl, _⟩ := h; rfl
  · obtain ⟨p, n, rfl, hb, hn, q⟩ := h
    refine ⟨_, (pss_one (ps_ret (pe_lc (own := [("k", 1)]) (g := gName 1) (by rfl) sc_law_letters.nd (pi_range1 rfl T.z_range (pa_cons pe_int pa_nil)) (blkOk_by (own := [("k", 1)]) (N := N_law_letters) (sc := defScope s_law_letters) (by decide +kernel)) (fun _ _ _ _ _ => pg_name (i := 1) sc_law_letters.nd rfl (Or.inl rfl)) (fun _ _ _ _ _ => pts_nil) (fun _ _ _ _ _ => (pe_ix ix_str pe_str (pe_call (ok_law_take T) (hr.mono (by decide)) rfl T.g_law_take T.F_law_take.kp T.b_law_take .nil pass0 (pa_cons (pv 0) (pa_cons pe_int pa_nil))) (fun _ _ => rfl)))))), ?_⟩
    refine ⟨3, rfl, by decide, by decide, fun D hD => ?_⟩
    have npD : p ≠ D := hb.ne hD
    refine lc_range (lo := 0) (n := 3) (Acc p n H D) (Acc.start hb hD) ?_ ?_
    · rintro i H1 hi h1
      refine ⟨rfl, tYesT ?_⟩
      refine ⟨_, rfl, p, _, 26, rfl, h1.2.1, by omega, by omega, by omega, fun d o1 hd ho1 => ?_⟩
      exact ⟨_, _, _, rfl, rfl, (by show 26 ≤ sizeLine; decide), alpha_at (by omega), h1.step npD hD (by omega) ho1 (low_alpha (by omega))⟩
    rintro H1 ⟨k1, bx, ls, lls, len3, eD⟩
    obtain ⟨a, b, c, rfl⟩ : ∃ a b c, ls = [a, b, c] := by
      match ls, len3 with
      | [a, b, c], _ => exact ⟨a, b, c, rfl⟩
    exact q D H1 k1 bx ⟨a, b, c, eD, lls a (by simp), lls b (by simp), lls c (by simp)⟩ npD.symm
def spText : Sp := fun vs H Q _ => ∃ (p l : Addr) (n m : Nat), vs = [.ref p, .ref l, .int m] ∧ BoxAt H p n ∧ n < 100000000 ∧ Let H l ∧ l ≠ p ∧ m ≤ 20 ∧
  ∀ (t : List Nat) H', Low t → t.length = m → Kp p H H' → BoxAt H' p (n + m) → Q (.str (S t)) H'
theorem ok_law_text (T : Txt K mg) : FnOk P w K mg base CX0 2 T.f_law_text T.fd_law_text ["box", "letters", "many"] spText := by
  refine T.F_law_text.ok sc_law_text (fun vs H Q E h => ?_) (fun cdv A outer s H vs Q E hr h => ?_)
  · obtain ⟨p, l, n, m, rfl, _⟩ := h; rfl
  · obtain ⟨p, l, n, m, rfl, hb, hn, hl, npl, hm, q⟩ := h
    refine ⟨_, (pss_one (ps_ret (pe_bm PySem.F.plainAttrs_str PySem.F.slot_str_join PySem.F.type_str_join mt_join pe_str (pa_cons (pe_lc (own := [("k", 3)]) (g := gName 3) (by rfl) sc_law_text.nd (pi_range1 rfl T.z_range (pa_cons (pv 2) pa_nil)) (blkOk_by (own := [("k", 3)]) (N := N_law_text) (sc := defScope s_law_text) (by decide +kernel)) (fun _ _ _ _ _ => pg_name (i := 3) sc_law_text.nd rfl (Or.inl rfl)) (fun _ _ _ _ _ => pts_nil) (fun _ _ _ _ _ => (pe_ix (ix_listK (K := K) rfl) (pv 1) (pe_call (ok_law_take T) (hr.mono (by decide)) rfl T.g_law_take T.F_law_take.kp T.b_law_take .nil pass0 (pa_cons (pv 0) (pa_cons pe_int pa_nil))) (fun _ _ => rfl)))) pa_nil)))), ?_⟩
    refine ⟨rfl, _, rfl, _, rfl, by omega, by omega, fun D hD => ?_⟩
    rw [Int.toNat_natCast]
    have npD : p ≠ D := hb.ne hD
    refine lc_range (lo := 0) (n := m) (Acc p n H D) (Acc.start hb hD) ?_ ?_
    · rintro i H4 hi h4
      refine ⟨rfl, tYesT ?_⟩
      exact letter_one h4.2.1 (hl.kp h4.1 npl) npl (by omega) fun c o lc ho => h4.step npD hD (by omega) ho lc
    rintro H4 ⟨k4, b4, t, lt, lent, e4⟩
    refine ⟨_, D, t.map fun c => S [c], rfl, rfl, .inl (SqL.of (by rw [List.map_map]; exact e4)), ?_, ?_⟩
    · rw [List.map_map, ones_sum, List.length_map]
      show _ + _ * 0 ≤ _
      omega
    rw [join_ones]
    exact q t H4 lt lent k4 b4
def spChanged : Sp := fun vs H Q _ => ∃ (p l : Addr) (n : Nat) (t : List Nat), vs = [.ref p, .ref l, .str (S t)] ∧ BoxAt H p n ∧ n < 100000000 ∧ Let H l ∧ l ≠ p ∧ Low t ∧ t.length ≤ 1000 ∧
  ∀ (t' : List Nat) H', Low t' → t'.length ≤ t.length + 4 → Kp p H H' → BoxAt H' p (n + 13) → Q (.str (S t')) H'
theorem ok_law_changed (T : Txt K mg) : FnOk P w K mg base CX0 2 T.f_law_changed T.fd_law_changed ["box", "letters", "text"] spChanged := by
  refine T.F_law_changed.ok sc_law_changed (fun vs H Q E h => ?_) (fun cdv A outer s H vs Q E hr h => ?_)
  · obtain ⟨p, l, n, t, rfl, _⟩ := h; rfl
  · obtain ⟨p, l, n, t, rfl, hb, hn, hl, npl, lt, bt, q⟩ := h
    refine ⟨_, (pss_cons (ps_set (i := 3) sc_law_changed.nd rfl (Or.inl rfl) (pv 2))
      (pss_cons (ps_for PassesOwn.never rfl (pi_range1 rfl T.z_range (pa_cons (pe_op op_add pe_int (pe_call (ok_law_take T) (hr.mono (by decide)) rfl T.g_law_take T.F_law_take.kp T.b_law_take .nil pass0 (pa_cons (pv 0) (pa_cons pe_int pa_nil)))) pa_nil)) (pg_name (i := 4) sc_law_changed.nd rfl (Or.inl rfl)) (pss_cons (ps_par (i := 5) (j := 6) (by rfl) sc_law_changed.nd rfl rfl (by decide) rfl rfl (pa_cons (pe_call (ok_law_take T) (hr.mono (by decide)) rfl T.g_law_take T.F_law_take.kp T.b_law_take .nil pass0 (pa_cons (pv 0) (pa_cons (pe_op op_add (pe_callB call_len_str (by rfl) T.z_len (by decide +kernel) (pa_cons (pv 3) pa_nil)) pe_int) pa_nil))) (pa_cons (pe_call (ok_law_take T) (hr.mono (by decide)) rfl T.g_law_take T.F_law_take.kp T.b_law_take .nil pass0 (pa_cons (pv 0) (pa_cons pe_int pa_nil))) pa_nil)) (by rfl))
      (pss_cons (ps_set (i := 7) sc_law_changed.nd rfl (Or.inl rfl) (pe_ix ix_list (pv 1) (pe_call (ok_law_take T) (hr.mono (by decide)) rfl T.g_law_take T.F_law_take.kp T.b_law_take .nil pass0 (pa_cons (pv 0) (pa_cons pe_int pa_nil))) (fun _ _ => rfl)))
      (pss_one (ps_if (pt_cmpR op_eq (pv 6) pe_int (nomark _)) (pss_one (ps_set (i := 3) sc_law_changed.nd rfl (Or.inl rfl) (pe_op op_add_str (pe_op op_add_str (pe_slice sl_str (pv 3) po_none (po_some (pv 5))) (pv 7)) (pe_slice sl_str (pv 3) (po_some (pv 5)) po_none)))) (pss_one (ps_if (pt_cmpR op_eq (pv 6) pe_int (nomark _)) (pss_one (ps_set (i := 3) sc_law_changed.nd rfl (Or.inl rfl) (pe_op op_add_str (pe_slice sl_str (pv 3) po_none (po_some (pv 5))) (pe_slice sl_str (pv 3) (po_some (pe_op op_add (pv 5) pe_int)) po_none)))) (pss_one (ps_set (i := 3) sc_law_changed.nd rfl (Or.inl rfl) (pe_op op_add_str (pe_op op_add_str (pe_slice sl_str (pv 3) po_none (po_some (pv 5))) (pv 7)) (pe_slice sl_str (pv 3) (po_some (pe_op op_add (pv 5) pe_int)) po_none)))))))))))
      (pss_one (ps_ret (pv 3))))), ?_⟩
    refine ⟨_, rfl, _, rfl, p, n, 4, rfl, hb, by omega, by omega, by omega, fun d o hd ho => ?_⟩
    refine ⟨_, _, rfl, rfl, _, rfl, by omega, by omega, ?_⟩
    rw [show ((1 : Int) + (d : Int)).toNat = 1 + d by omega]
    refine for_range (lo := 0) (n := 1 + d) (fun i σ H' => ∃ f x4 x5 x6 x7, σ = [some (.ref p), some (.ref l), some (.str (S t)), some (.str (S f)), x4, x5, x6, x7] ∧ Kp p H H' ∧ BoxAt H' p (n + 1 + 3 * i) ∧ Low f ∧ f.length ≤ t.length + i)
      ⟨t, none, none, none, none, rfl, (Kp.refl p H).upd, ho.at, lt, Nat.le_refl _⟩ ?_ ?_
    · rintro i σ H1 hi ⟨f, x4, x5, x6, x7, rfl, k1, b1, lf, bf⟩
      have hf : (S f).length ≤ sizeLine := by rw [S_len]; exact Nat.le_trans (by omega : f.length ≤ 10000) (by decide)
      refine ⟨_, rfl, _, rfl, _, rfl, hf, _, _, rfl, rfl, p, _, _, rfl, b1, by omega, by rw [S_len]; omega, by rw [S_len]; omega, fun d1 o1 hd1 ho1 => ?_⟩
      rw [S_len] at hd1
      refine ⟨_, rfl, p, _, 3, rfl, ho1.at, by omega, by omega, by omega, fun d2 o2 hd2 ho2 => ?_⟩
      refine ⟨_, _, rfl, ?_⟩
      refine ⟨_, rfl, _, rfl, p, _, 3, rfl, ho2.at, by omega, by omega, by omega, fun d3 o3 hd3 ho3 => ?_⟩
      have k3 := ((k1.upd (o := o1)).upd (o := o2)).upd (o := o3)
      obtain ⟨a, b, c, el, la, lb, lc⟩ := hl.kp k3 npl
      obtain ⟨x, lx, ex⟩ := three (d := d3) (by omega) la lb lc
      refine ⟨l, _, _, _, rfl, rfl, SqL.of el, atI_nat (j := d3) ex, ?_⟩
      have b3 : BoxAt (upd (upd (upd H1 p o1) p o2) p o3) p (n + 1 + 3 * (i + 1)) := ho3.at.mono (by omega)
      have l1 := Low.one lx
      refine ⟨_, rfl, rfl, _, rfl, ite2 (fun _ => ?_) (fun _ => ⟨_, rfl, rfl, _, rfl, ite2 (fun _ => ?_) (fun _ => ?_)⟩)⟩
      · refine ⟨_, rfl, _, rfl, _, rfl, _, rfl, hf, _, rfl, _, _, rfl, rfl, ?_, ?_⟩
        · rw [cut_to, S_len, S_len, List.length_take]
          exact Nat.le_trans (by simp; omega : min d1 f.length + [x].length ≤ 10000) (by decide)
        refine ⟨_, rfl, _, rfl, _, rfl, _, rfl, hf, ?_⟩
        rw [cut_to, cut_from, S_app]
        refine ⟨_, _, rfl, rfl, ?_, ?_⟩
        · rw [S_len, S_len, List.length_append, List.length_take, List.length_drop]
          exact Nat.le_trans (by simp; omega : min d1 f.length + [x].length + (f.length - d1) ≤ 10000) (by decide)
        rw [S_app]
        refine ⟨f.take d1 ++ [x] ++ f.drop d1, _, _, _, _, rfl, k3, b3, ((lf.take d1).append l1).append (lf.drop _), ?_⟩
        rw [List.length_append, List.length_append, List.length_take, List.length_drop, List.length_singleton]
        omega
      · refine ⟨_, rfl, _, rfl, _, rfl, _, rfl, hf, _, rfl, _, rfl, _, _, rfl, rfl, _, rfl, _, rfl, hf, ?_⟩
        rw [show (d1 : Int) + 1 = ((d1 + 1 : Nat) : Int) by omega, cut_to, cut_from]
        refine ⟨_, _, rfl, rfl, ?_, ?_⟩
        · rw [S_len, S_len, List.length_take, List.length_drop]
          exact Nat.le_trans (by omega : min d1 f.length + (f.length - (d1 + 1)) ≤ 10000) (by decide)
        rw [S_app]
        refine ⟨f.take d1 ++ f.drop (d1 + 1), _, _, _, _, rfl, k3, b3, (lf.take d1).append (lf.drop _), ?_⟩
        rw [List.length_append, List.length_take, List.length_drop]
        omega
      · refine ⟨_, rfl, _, rfl, _, rfl, _, rfl, hf, _, rfl, _, _, rfl, rfl, ?_, ?_⟩
        · rw [cut_to, S_len, S_len, List.length_take]
          exact Nat.le_trans (by simp; omega : min d1 f.length + [x].length ≤ 10000) (by decide)
        refine ⟨_, rfl, _, rfl, _, _, rfl, rfl, _, rfl, _, rfl, hf, ?_⟩
        rw [show (d1 : Int) + 1 = ((d1 + 1 : Nat) : Int) by omega, cut_to, cut_from, S_app]
        refine ⟨_, _, rfl, rfl, ?_, ?_⟩
        · rw [S_len, S_len, List.length_append, List.length_take, List.length_drop]
          exact Nat.le_trans (by simp; omega : min d1 f.length + [x].length + (f.length - (d1 + 1)) ≤ 10000) (by decide)
        rw [S_app]
        refine ⟨f.take d1 ++ [x] ++ f.drop (d1 + 1), _, _, _, _, rfl, k3, b3, ((lf.take d1).append l1).append (lf.drop _), ?_⟩
        rw [List.length_append, List.length_append, List.length_take, List.length_drop, List.length_singleton]
        omega
    · rintro σ H1 ⟨f, x4, x5, x6, x7, rfl, k1, b1, lf, bf⟩
      exact ⟨_, rfl, q f H1 lf (by omega) k1 (b1.mono (by omega))⟩
def spTexts : Sp := fun vs H Q _ => ∃ (p : Addr) (n : Nat), vs = [.ref p] ∧ BoxAt H p n ∧ n < 1000000 ∧
  ∀ (t u : List Nat) q H', Low t → Low u → t.length ≤ 20 → u.length ≤ 40 → Kp p H H' → BoxAt H' p (n + 100) → H' q = none → Q (.ref q) (L2.upd H' q (.lst [.str (S t), .str (S u)]))
theorem ok_law_texts (T : Txt K mg) : FnOk P w K mg base CX0 3 T.f_law_texts T.fd_law_texts ["box"] spTexts := by
  refine T.F_law_texts.ok sc_law_texts (fun vs H Q E h => ?_) (fun cdv A outer s H vs Q E hr h => ?_)
  · obtain ⟨p, n, rfl, _⟩ := h; rfl
  · obtain ⟨p, n, rfl, hb, hn, q⟩ := h
    refine ⟨_, (pss_cons (ps_par (i := 1) (j := 2) (by rfl) sc_law_texts.nd rfl rfl (by decide) rfl rfl (pa_cons (pe_call (ok_law_take T) (hr.mono (by decide)) rfl T.g_law_take T.F_law_take.kp T.b_law_take .nil pass0 (pa_cons (pv 0) (pa_cons pe_int pa_nil))) (pa_cons (pe_call (ok_law_letters T) (hr.mono (by decide)) rfl T.g_law_letters T.F_law_letters.kp T.b_law_letters .nil pass0 (pa_cons (pv 0) pa_nil)) pa_nil)) (by rfl))
      (pss_cons (ps_set (i := 3) sc_law_texts.nd rfl (Or.inl rfl) (pe_ix ix_list (pe_lst (pa_cons pe_int (pa_cons pe_int (pa_cons pe_int (pa_cons pe_int (pa_cons pe_int (pa_cons pe_int (pa_cons pe_int (pa_cons pe_int pa_nil))))))))) (pe_call (ok_law_take T) (hr.mono (by decide)) rfl T.g_law_take T.F_law_take.kp T.b_law_take .nil pass0 (pa_cons (pv 0) (pa_cons pe_int pa_nil))) (fun _ _ => rfl)))
      (pss_cons (ps_set (i := 4) sc_law_texts.nd rfl (Or.inl rfl) (pe_call (ok_law_text T) (hr.mono (by decide)) rfl T.g_law_text T.F_law_text.kp T.b_law_text .nil pass0 (pa_cons (pv 0) (pa_cons (pv 2) (pa_cons (pe_ifExp (pt_cmpR op_eq (pv 3) pe_int (nomark _)) (pv 3) (pe_call (ok_law_take T) (hr.mono (by decide)) rfl T.g_law_take T.F_law_take.kp T.b_law_take .nil pass0 (pa_cons (pv 0) (pa_cons (pe_op op_add (pv 3) pe_int) pa_nil)))) pa_nil)))))
      (pss_cons (ps_if (pt_cmpR op_lt (pv 1) pe_int (nomark _)) (pss_one (ps_ret (pe_lst (pa_cons (pv 4) (pa_cons (pe_call (ok_law_changed T) (hr.mono (by decide)) rfl T.g_law_changed T.F_law_changed.kp T.b_law_changed .nil pass0 (pa_cons (pv 0) (pa_cons (pv 2) (pa_cons (pv 4) pa_nil)))) pa_nil))))) pss_nil)
      (pss_cons (ps_set (i := 5) sc_law_texts.nd rfl (Or.inl rfl) (pe_call (ok_law_take T) (hr.mono (by decide)) rfl T.g_law_take T.F_law_take.kp T.b_law_take .nil pass0 (pa_cons (pv 0) (pa_cons (pe_op op_add (pe_callB call_len_str (by rfl) T.z_len (by decide +kernel) (pa_cons (pv 4) pa_nil)) pe_int) pa_nil))))
      (pss_cons (ps_if (pt_cmpR op_eq (pv 1) pe_int (nomark _)) (pss_one (ps_ret (pe_lst (pa_cons (pv 4) (pa_cons (pe_op op_add_str (pe_slice sl_str (pv 4) (po_some (pv 5)) po_none) (pe_slice sl_str (pv 4) po_none (po_some (pv 5)))) pa_nil))))) pss_nil)
      (pss_cons (ps_if (pt_cmpR op_eq (pv 1) pe_int (nomark _)) (pss_one (ps_ret (pe_lst (pa_cons (pv 4) (pa_cons (pe_slice sl_str (pv 4) po_none (po_some (pv 5))) pa_nil))))) pss_nil)
      (pss_cons (ps_if (pt_cmpR op_eq (pv 1) pe_int (nomark _)) (pss_one (ps_ret (pe_lst (pa_cons (pv 4) (pa_cons (pe_op op_add_str (pe_slice sl_str (pv 4) (po_some (pv 5)) po_none) (pv 4)) pa_nil))))) pss_nil)
      (pss_cons (ps_if (pt_cmpR op_eq (pv 1) pe_int (nomark _)) (pss_one (ps_ret (pe_lst (pa_cons (pv 4) (pa_cons (pe_ix ix_list (pe_lst (pa_cons (pv 4) (pa_cons pe_str pa_nil))) (pe_call (ok_law_take T) (hr.mono (by decide)) rfl T.g_law_take T.F_law_take.kp T.b_law_take .nil pass0 (pa_cons (pv 0) (pa_cons pe_int pa_nil))) (fun _ _ => rfl)) pa_nil))))) pss_nil)
      (pss_one (ps_ret (pe_lst (pa_cons (pv 4) (pa_cons (pe_call (ok_law_text T) (hr.mono (by decide)) rfl T.g_law_text T.F_law_text.kp T.b_law_text .nil pass0 (pa_cons (pv 0) (pa_cons (pv 2) (pa_cons (pe_call (ok_law_take T) (hr.mono (by decide)) rfl T.g_law_take T.F_law_take.kp T.b_law_take .nil pass0 (pa_cons (pv 0) (pa_cons pe_int pa_nil))) pa_nil)))) pa_nil)))))))))))))), ?_⟩
    have two : 2 ≤ sizeLine := by decide
    refine ⟨_, rfl, p, n, 10, rfl, hb, by omega, by omega, by omega, fun way o hway ho => ?_⟩
    refine ⟨_, rfl, p, n + 1, rfl, ho.at, by omega, fun l H1 k1 b1 hl npl => ?_⟩
    refine ⟨_, _, rfl, ?_⟩
    have kH1 := (Kp.refl p H).upd.trans k1
    refine ⟨(by show 8 ≤ sizeLine; decide), fun q1 hq1 => ?_⟩
    have npq : p ≠ q1 := b1.ne hq1
    refine ⟨_, rfl, p, _, 8, rfl, b1.new hq1, by omega, by omega, by omega, fun d2 o2 hd2 ho2 => ?_⟩
    obtain ⟨m, hm, em⟩ : ∃ m : Nat, m ≤ 20 ∧ [V.int 4, .int 7, .int 12, .int 12, .int 9, .int 20, .int 2, .int 0][d2]? = some (.int m) := by
      have h8 : d2 < 8 := by omega
      match d2, h8 with
      | 0, _ => exact ⟨4, by omega, rfl⟩
      | 1, _ => exact ⟨7, by omega, rfl⟩
      | 2, _ => exact ⟨12, by omega, rfl⟩
      | 3, _ => exact ⟨12, by omega, rfl⟩
      | 4, _ => exact ⟨9, by omega, rfl⟩
      | 5, _ => exact ⟨20, by omega, rfl⟩
      | 6, _ => exact ⟨2, by omega, rfl⟩
      | 7, _ => exact ⟨0, by omega, rfl⟩
    refine ⟨q1, _, _, _, rfl, rfl, SqL.of (by rw [upd_ne npq.symm]; exact upd_same), atI_nat (j := d2) em, ?_⟩
    have b3 : BoxAt (L2.upd (L2.upd H1 q1 (.lst [V.int 4, .int 7, .int 12, .int 12, .int 9, .int 20, .int 2, .int 0])) p o2) p (n + 5) := ho2.at
    have k3 : Kp p H1 (L2.upd (L2.upd H1 q1 (.lst [V.int 4, .int 7, .int 12, .int 12, .int 9, .int 20, .int 2, .int 0])) p o2) := ((Kp.refl p H1).new hq1).upd
    generalize L2.upd (L2.upd H1 q1 (.lst [V.int 4, .int 7, .int 12, .int 12, .int 9, .int 20, .int 2, .int 0])) p o2 = H3 at b3 k3
    have hl3 := hl.kp k3 npl
    have kH3 := kH1.trans k3
    refine ⟨_, rfl, _, rfl, ?_⟩
    refine through (fun m' H' => m' ≤ 20 ∧ Kp p H3 H' ∧ BoxAt H' p (n + 6)) (fun Q' rest => ?_) ?_
    · refine ⟨_, rfl, rfl, _, rfl, ite2 (fun _ => ?_) (fun _ => ?_)⟩
      · exact ⟨_, rfl, rest m H3 ⟨hm, Kp.refl p H3, b3.mono (by omega)⟩⟩
      · exact ⟨_, rfl, _, rfl, _, _, rfl, rfl, p, _, _, rfl, b3, by omega, by omega, by omega, fun d3 o3 hd3 ho3 => rest d3 _ ⟨by omega, (Kp.refl p H3).upd, ho3.at⟩⟩
    rintro m2 H4 ⟨hm2, k4, b4⟩
    refine ⟨p, l, n + 6, m2, rfl, b4, by omega, hl3.kp k4 npl, npl, hm2, fun t H5 lt lent k5 b5 => ?_⟩
    have bt : t.length ≤ 20 := by omega
    have htf : (S t).length ≤ sizeLine := by rw [S_len]; exact Nat.le_trans bt (by decide)
    have kH5 := (kH3.trans k4).trans k5
    have b5' : BoxAt H5 p (n + 26) := b5.mono (by omega)
    have hl5 := (hl3.kp k4 npl).kp k5 npl
    refine ⟨_, rfl, _, _, rfl, rfl, _, rfl, ite2 (fun _ => ?_) (fun _ => ?_)⟩
    · refine ⟨_, rfl, _, rfl, _, rfl, _, rfl, p, l, n + 26, t, rfl, b5', by omega, hl5, npl, lt, by omega, fun u H6 lu bu k6 b6 => ?_⟩
      exact ⟨two, fun q2 hq2 => q t u q2 H6 lt lu bt (by omega) (kH5.trans k6) (b6.mono (by omega)) hq2⟩
    refine ⟨_, rfl, _, rfl, _, rfl, htf, _, _, rfl, rfl, p, _, _, rfl, b5', by omega, by rw [S_len]; omega, by rw [S_len]; omega, fun d o6 hd ho6 => ?_⟩
    have b6 : BoxAt (L2.upd H5 p o6) p (n + 27) := ho6.at
    have k6 := kH5.upd (o := o6)
    have hl6 := hl5.kp ((Kp.refl p H5).upd (o := o6)) npl
    generalize L2.upd H5 p o6 = H6 at b6 k6 hl6
    have fits2 : ∀ a b : List Nat, a.length ≤ 20 → b.length ≤ 20 → (S a).length + (S b).length ≤ sizeLine := fun a b ha hb => by
      rw [S_len, S_len]; exact Nat.le_trans (by omega : a.length + b.length ≤ 40) (by decide)
    refine ⟨_, rfl, rfl, _, rfl, ite2 (fun _ => ?_) (fun _ => ?_)⟩
    · refine ⟨_, rfl, _, rfl, _, rfl, _, rfl, _, rfl, htf, _, rfl, _, rfl, _, rfl, _, rfl, htf, ?_⟩
      rw [cut_from, cut_to]
      refine ⟨_, _, rfl, rfl, fits2 _ _ (by rw [List.length_drop]; omega) (by rw [List.length_take]; omega), ?_⟩
      rw [S_app]
      exact ⟨two, fun q2 hq2 => q t _ q2 H6 lt ((lt.drop d).append (lt.take d)) bt (by rw [List.length_append, List.length_drop, List.length_take]; omega) k6 (b6.mono (by omega)) hq2⟩
    refine ⟨_, rfl, rfl, _, rfl, ite2 (fun _ => ?_) (fun _ => ?_)⟩
    · refine ⟨_, rfl, _, rfl, _, rfl, _, rfl, _, rfl, htf, ?_⟩
      rw [cut_to]
      exact ⟨two, fun q2 hq2 => q t _ q2 H6 lt (lt.take d) bt (by rw [List.length_take]; omega) k6 (b6.mono (by omega)) hq2⟩
    refine ⟨_, rfl, rfl, _, rfl, ite2 (fun _ => ?_) (fun _ => ?_)⟩
    · refine ⟨_, rfl, _, rfl, _, rfl, _, rfl, _, rfl, htf, _, rfl, ?_⟩
      rw [cut_from]
      refine ⟨_, _, rfl, rfl, fits2 _ _ (by rw [List.length_drop]; omega) (by omega), ?_⟩
      rw [S_app]
      exact ⟨two, fun q2 hq2 => q t _ q2 H6 lt ((lt.drop d).append lt) bt (by rw [List.length_append, List.length_drop]; omega) k6 (b6.mono (by omega)) hq2⟩
    refine ⟨_, rfl, rfl, _, rfl, ite2 (fun _ => ?_) (fun _ => ?_)⟩
    · refine ⟨_, rfl, _, rfl, two, fun q2 hq2 => ?_⟩
      have npq2 : p ≠ q2 := b6.ne hq2
      refine ⟨_, rfl, p, n + 27, 2, rfl, b6.new hq2, by omega, by omega, by omega, fun d3 o3 hd3 ho3 => ?_⟩
      obtain ⟨u, lu, bu, eu⟩ : ∃ u : List Nat, Low u ∧ u.length ≤ 20 ∧ [V.str (S t), V.str (Str.ofString "")][d3]? = some (.str (S u)) := by
        have h2 : d3 < 2 := by omega
        match d3, h2 with
        | 0, _ => exact ⟨t, lt, by omega, rfl⟩
        | 1, _ => exact ⟨[], Low.nil, by simp, rfl⟩
      refine ⟨q2, _, _, _, rfl, rfl, SqL.of (by rw [upd_ne npq2.symm]; exact upd_same), atI_nat (j := d3) eu, ?_⟩
      exact ⟨two, fun q3 hq3 => q t u q3 _ lt lu bt (by omega) (k6.new hq2).upd (ho3.at.mono (by omega)) hq3⟩
    refine ⟨_, rfl, _, rfl, _, rfl, _, rfl, p, n + 27, 13, rfl, b6, by omega, by omega, by omega, fun d3 o3 hd3 ho3 => ?_⟩
    refine ⟨p, l, n + 28, d3, rfl, ho3.at, by omega, hl6.kp ((Kp.refl p H6).upd (o := o3)) npl, npl, by omega, fun u H7 lu lenu k7 b7 => ?_⟩
    exact ⟨two, fun q3 hq3 => q t u q3 H7 lt lu bt (by omega) (k6.upd.trans k7) (b7.mono (by omega)) hq3⟩
end
end My

set_option Elab.async false
set_option linter.all false
set_option maxRecDepth 100000
set_option maxHeartbeats 8000000
namespace My
open PySem PySem.Spec PyProof.Rows L2
theorem eqS {z : Str} {A B : Prop} (h : A) : if decide (V.str z = V.str z) = true then A else B := by
  rw [decide_eq_true rfl]; exact iteT h
/-! ### what is copied and shown -/
theorem dp_same {K : PySem.W.Frag} {H H' : Hp} (s : Same H H') {x : V} {d : PyData} (h : Dp K H x d) : Dp K H' x d :=
  Dp.rec (motive_1 := fun x d _ => Dp K H' x d) (motive_2 := fun xs ds _ => DpAll K H' xs ds) .non (fun _ => .bl _) (fun _ => .int _) (fun _ => .str _)
    (fun hs _ ih => .lst (hs.ext s) ih) (fun hs _ ih => .tup (hs.elim (fun h => .inl (h.elim (fun h => .inl (s _ _ h)) fun ⟨o, h⟩ => .inr ⟨o, s _ _ h⟩)) fun h => .inr h) ih) .nil (fun _ _ i1 i2 => .cons i1 i2) h
theorem Dr.same {K : PySem.W.Frag} {H H' : Hp} (s : Same H H') {x : V} {d : PyData} (h : Dr K H x d) : Dr K H' x d := by
  rcases h with h | ⟨a, e, ea, ed⟩
  · exact .inl (dp_same s h)
  · exact .inr ⟨a, e, s _ _ ea, ed⟩
def Sc (v : V) : Prop := (∃ t, v = .str (S t) ∧ t.length ≤ 100 ∧ Low t) ∨ v = .int 2
/-- no list; shown -/
def Pl (K : PySem.W.Frag) (H : Hp) (x : V) : Prop := ∃ ty d, kitB ty "list" = some false ∧ Sh d ∧ TyX K H x (.type ty) ∧ Dr K H x d
def Ls (H : Hp) (x : V) : Prop := ∃ a v, x = .ref a ∧ H a = some (.lst [v]) ∧ Sc v
theorem Pl.same {K : PySem.W.Frag} {H H' : Hp} {x : V} (h : Pl K H x) (s : Same H H') : Pl K H' x := by
  obtain ⟨ty, d, k, sh, t, r⟩ := h
  exact ⟨ty, d, k, sh, tyX_same t s, Dr.same s r⟩
theorem Ls.same {H H' : Hp} {x : V} (h : Ls H x) (s : Same H H') : Ls H' x := by
  obtain ⟨a, v, e, ea, r⟩ := h
  exact ⟨a, v, e, s _ _ ea, r⟩
/-- a value that J refuses -/
def Ot (K : PySem.W.Frag) (H : Hp) (x : V) : Prop := (Pl K H x ∧ Jd K H x false) ∨ Ls H x
def Wc (K : PySem.W.Frag) (H : Hp) (x : V) : Prop := (Pl K H x ∧ Jc K H x false) ∨ Ls H x
theorem Jc.same {K : PySem.W.Frag} {H H' : Hp} {x : V} {b : Bool} (h : Jc K H x b) (s : Same H H') : Jc K H' x b := by
  rcases h with h | h | ⟨t, h1, h2, h3⟩
  · exact .inl h
  · exact .inr (.inl h)
  · exact .inr (.inr ⟨t, tyX_same h1 s, h2, h3⟩)
theorem Ot.same {K : PySem.W.Frag} {H H' : Hp} {x : V} (h : Ot K H x) (s : Same H H') : Ot K H' x := h.elim (fun h => .inl ⟨h.1.same s, h.2.same s⟩) fun h => .inr (h.same s)
theorem Wc.same {K : PySem.W.Frag} {H H' : Hp} {x : V} (h : Wc K H x) (s : Same H H') : Wc K H' x := h.elim (fun h => .inl ⟨h.1.same s, h.2.same s⟩) fun h => .inr (h.same s)
theorem Ot.jd {K : PySem.W.Frag} {H : Hp} {x : V} (h : Ot K H x) : Jd K H x false := by
  rcases h with h | ⟨a, v, rfl, ea, _⟩
  · exact h.2
  · exact .inr ⟨"list", .base (.lst ea), by decide +kernel, rfl⟩
theorem Wc.jc {K : PySem.W.Frag} {H : Hp} {x : V} (h : Wc K H x) : Jc K H x false := by
  rcases h with h | ⟨a, v, rfl, ea, _⟩
  · exact h.2
  · exact .inr (.inr ⟨"list", .base (.lst ea), by decide +kernel, rfl⟩)
theorem sh_str {z : List Nat} (h : z.length ≤ 1000) (hc : ∀ c ∈ z, c < 200) : Sh (.str (S z)) := by
  refine sh_of (by simp only [PyData.showable]) (by simp only [PyData.depth]; omega) ?_ ?_
  · unfold PyData.leavesShort
    rw [List.all_eq_true]
    intro c hcm
    have : c ∈ z := by rw [← S_tl z]; exact hcm
    have := hc c this
    exact decide_eq_true (by omega)
  · unfold PyData.weight
    show (S z).length ≤ 100000
    rw [S_len]; omega
theorem sh_two {f : List PyData → PyData} {z : List Nat} {y : Str} (hf : f = .list ∨ f = .tuple) (h : z.length ≤ 1000) (hc : ∀ c ∈ z, c < 200) (hy : y = "a" ∨ y = "z") : Sh (f [.str (S z), .str y]) := by
  have l1 : (PyData.str (S z)).leavesShort 40 = true := by
    unfold PyData.leavesShort
    rw [List.all_eq_true]
    intro c hcm
    have : c ∈ z := by rw [← S_tl z]; exact hcm
    have := hc c this
    exact decide_eq_true (by omega)
  have l2 : (PyData.str y).leavesShort 40 = true := by rcases hy with rfl | rfl <;> decide +kernel
  have w1 : (PyData.str (S z)).weight ≤ 1000 := by
    unfold PyData.weight
    show (S z).length ≤ 1000
    rw [S_len]; omega
  have w2 : (PyData.str y).weight = 1 := by rcases hy with rfl | rfl <;> decide +kernel
  rcases hf with rfl | rfl
  all_goals
    refine sh_of ?_ ?_ ?_ ?_
    · simp only [PyData.showable, PyData.showableAll, Bool.and_self]
    · simp only [PyData.depth, PyData.depthAll]; omega
    · simp only [PyData.leavesShort, PyData.leavesShortAll] at l1 l2 ⊢
      rw [l1, l2]; rfl
    · simp only [PyData.weight, PyData.weightAll] at w1 w2 ⊢
      omega
theorem Od.ot {K : PySem.W.Frag} {H : Hp} {x : V} (h : Od H x) : Ot K H x := by
  rcases h with ⟨z, rfl, hz, bz, hc⟩ | rfl | rfl | rfl | ⟨a, t, rfl, ea, r⟩ | ⟨a, t, rfl, ea, ht, lt⟩ | ⟨a, rfl, ea⟩
  · exact .inl ⟨⟨"str", _, by decide +kernel, sh_str (by omega) hc, .base (.str _), .inl (.str _)⟩, .inl ⟨_, rfl, hz.symm⟩⟩
  · exact .inl ⟨⟨"NoneType", .none, by decide +kernel, by refine ⟨?_, ?_, ?_⟩ <;> decide +kernel, .base .non, .inl .non⟩, .inr ⟨"NoneType", .base .non, by decide +kernel, rfl⟩⟩
  · exact .inl ⟨⟨"int", .int 5, by decide +kernel, by refine ⟨?_, ?_, ?_⟩ <;> decide +kernel, .base (.int _), .inl (.int _)⟩, .inr ⟨"int", .base (.int _), by decide +kernel, rfl⟩⟩
  · exact .inl ⟨⟨"bool", .bool true, by decide +kernel, by refine ⟨?_, ?_, ?_⟩ <;> decide +kernel, .base (.bl _), .inl (.bl _)⟩, .inr ⟨"bool", .base (.bl _), by decide +kernel, rfl⟩⟩
  · exact .inr ⟨a, _, rfl, ea, .inl ⟨t, rfl, r.1, r.2⟩⟩
  · exact .inl ⟨⟨"tuple", _, by decide +kernel, sh_two (.inr rfl) (by omega) lt.lt (.inl rfl), .base (.tup ea), .inl (.tup (SqT.of ea) (.cons (.str _) (.cons (.str _) .nil)))⟩, .inr ⟨"tuple", .base (.tup ea), by decide +kernel, rfl⟩⟩
  · exact .inl ⟨⟨"dict", .dict [], by decide +kernel, by refine ⟨?_, ?_, ?_⟩ <;> decide +kernel, .base (.dK ea), .inr ⟨a, rfl, ea, rfl⟩⟩, .inr ⟨"dict", .base (.dK ea), by decide +kernel, rfl⟩⟩
theorem Od.kp {p : Addr} {n : Nat} {H H' : Hp} {x : V} (h : Od H x) (b : BoxAt H p n) (k : Kp p H H') : Od H' x := by
  obtain ⟨o, ho, a', m, c, b', eo, _⟩ := b
  subst eo
  rcases h with h | h | h | h | ⟨a, t, e, ea, r⟩ | ⟨a, t, e, ea, r⟩ | ⟨a, e, ea⟩
  · exact .inl h
  · exact .inr (.inl h)
  · exact .inr (.inr (.inl h))
  · exact .inr (.inr (.inr (.inl h)))
  · refine .inr (.inr (.inr (.inr (.inl ⟨a, t, e, k _ _ ?_ ea, r⟩))))
    rintro rfl; rw [ho] at ea; cases ea
  · refine .inr (.inr (.inr (.inr (.inr (.inl ⟨a, t, e, k _ _ ?_ ea, r⟩)))))
    rintro rfl; rw [ho] at ea; cases ea
  · refine .inr (.inr (.inr (.inr (.inr (.inr ⟨a, e, k _ _ ?_ ea⟩)))))
    rintro rfl; rw [ho] at ea; cases ea
/-- the list [v], "z" behind it -/
theorem sh_app {K : PySem.W.Frag} {H : Hp} {a : Addr} {v : V} (h : Sc v) (e : H a = some (.lst [v, .str "z"])) : ∃ d, Dr K H (.ref a) d ∧ Sh d := by
  rcases h with ⟨t, rfl, bt, lt⟩ | rfl
  · exact ⟨_, .inl (.lst (SqL.of e) (.cons (.str _) (.cons (.str _) .nil))), sh_two (.inl rfl) (by omega) lt.lt (.inr rfl)⟩
  · exact ⟨.list [.int 2, .str "z"], .inl (.lst (SqL.of e) (.cons (.int _) (.cons (.str _) .nil))), by refine ⟨?_, ?_, ?_⟩ <;> decide +kernel⟩
section
variable {P : Program} {w : World} {K : PySem.W.Frag} {mg : Str → Option Value} {base : Heap}
def spCopy (K : PySem.W.Frag) : Sp := fun vs H Q _ => ∃ x, vs = [x] ∧ ((Pl K H x ∧ Q x H) ∨ ∃ a v, x = .ref a ∧ H a = some (.lst [v]) ∧ ∀ l, H l = none → Q (.ref l) (upd H l (.lst [v])))
theorem ok_law_copy (T : Txt K mg) : FnOk P w K mg base CX0 1 T.f_law_copy T.fd_law_copy ["value"] (spCopy K) := by
  refine T.F_law_copy.ok sc_law_copy (fun vs H Q E h => ?_) (fun cdv A outer s H vs Q E hr h => ?_)
  · obtain ⟨x, rfl, _⟩ := h; rfl
  · obtain ⟨x, rfl, h⟩ := h
    refine ⟨_, (pss_one (ps_ret (pe_ifExp (pt_val (pe_callB call_isi (by rfl) T.z_isinstance (by decide +kernel) (pa_cons (pv 0) (pa_cons (pe_bltn (v := .ty "list") (u := .type "list") (by rfl) T.z_list (by decide +kernel) rfl) pa_nil)))) (pe_callTy call_list_of (by rfl) T.z_list (by decide +kernel) (pa_cons (pv 0) pa_nil)) (pv 0)))), ?_⟩
    rcases h with ⟨⟨ty, d, kb, sh, t, r⟩, q⟩ | ⟨a, v, rfl, ea, q⟩
    · exact ⟨_, rfl, _, _, _, _, false, rfl, .ty _, t, kit_ty kb, false, rfl, iteF ⟨_, rfl, q⟩⟩
    · exact ⟨_, rfl, _, _, _, _, true, rfl, .ty _, .base (.lst ea), kit_ty (by decide +kernel), true, rfl, iteT ⟨_, rfl, a, _, rfl, .inl (SqL.of ea), fun l hl => q l hl⟩⟩
/-- all stands but b, if it is a list -/
def Off (b : V) (H H' : Hp) : Prop := ∀ c o, H c = some o → (b = .ref c → ∀ xs, o ≠ .lst xs) → H' c = some o
def spRefuses (K : PySem.W.Frag) : Sp := fun vs H Q _ => ∃ (i : Int) (x y m : V) (word : Str) (b : V) (bx b2 bm : Bool), vs = [.int i, x, y, m, .str word, b] ∧ (i = 0 ∨ i = 1 ∨ i = 2 ∨ i = 3) ∧ Jd K H x bx ∧ Jd K H y b2 ∧ (∀ H', Same H H' → Jc K H' m bm) ∧
  ((bx = false ∧ word = "text" ∧ b = x) ∨ (bx = true ∧ b2 = false ∧ word = "text" ∧ b = y) ∨ (bx = true ∧ b2 = true ∧ bm = false ∧ 2 ≤ i ∧ word = "count" ∧ b = m)) ∧
  ((bx = true → b2 = true → ∃ u v : List Nat, x = .str (S u) ∧ y = .str (S v) ∧ u.length ≤ 1000 ∧ v.length ≤ 1000)) ∧ (Pl K H b ∨ Ls H b) ∧ ∀ H', Off b H H' → Q (.bl true) H'
theorem ok_law_refuses (T : Txt K mg) : FnG P w K mg base CX0 7 T.f_law_refuses T.fd_law_refuses ["which", "first", "second", "number", "word", "odd"] (spRefuses K) := by
  refine T.F_law_refuses.okG sc_law_refuses (fun vs H Q E h => ?_) (fun cdv A outer s H vs Q E hgd hr h => ?_)
  · obtain ⟨i, x, y, m, word, b, _, _, _, rfl, _⟩ := h; rfl
  · obtain ⟨i, x, y, m, word, b, bx, b2, bm, rfl, hi, jx, jy, jm, hc, hT, hb, q⟩ := h
    have hun := un64 hr
    refine ⟨_, (pss_cons (ps_set (i := 6) sc_law_refuses.nd rfl (Or.inl rfl) (pe_call (ok_law_met T) (hr.mono (by decide)) rfl T.g_law_met T.F_law_met.kp T.b_law_met .nil pass0 (pa_cons (pv 0) (pa_cons (pv 1) (pa_cons (pv 2) (pa_cons (pv 3) pa_nil))))))
      (pss_cons (ps_if (pt_val (pe_callB call_isi (by rfl) T.z_isinstance (by decide +kernel) (pa_cons (pv 5) (pa_cons (pe_bltn (v := .ty "list") (u := .type "list") (by rfl) T.z_list (by decide +kernel) rfl) pa_nil)))) (pss_one (ps_expr (pe_bm PySem.F.plainAttrs_list PySem.F.slot_list_append PySem.F.type_list_append mt_append (pv 5) (pa_cons pe_str pa_nil)))) pss_nil)
      (pss_one (ps_ret (pe_and (pe_cmpR op_eq (pe_ix ix_list (pv 6) pe_int (fun _ _ => rfl)) (pv 4) (nomark _)) (pe_one (pe_cmpR op_eq (pe_callB (call_repr hgd hun) (by rfl) T.z_repr (by decide +kernel) (pa_cons (pe_ix ix_list (pv 6) pe_int (fun _ _ => rfl)) pa_nil)) (pe_callB (call_repr hgd hun) (by rfl) T.z_repr (by decide +kernel) (pa_cons (pv 5) pa_nil)) (nomark _)))))))), ?_⟩
    refine through2 (t := tCall (spMet K) [] E0 (tCons (tVar 0) (tCons (tVar 1) (tCons (tVar 2) (tCons (tVar 3) tNil))))) (fun v H' => ∃ q4 Hm, v = .ref q4 ∧ Same H Hm ∧ Hm q4 = none ∧ H' = upd Hm q4 (.lst [.str word, b])) (fun Q' rest => ?_) ?_
    · refine ⟨_, rfl, _, rfl, _, rfl, _, rfl, i, x, y, m, bx, b2, bm, rfl, hi, jx, jy, jm, fun e q4 H6 s6 hq4 => ?_, fun e e' q4 H6 s6 hq4 => ?_, fun e e' em i2 q4 H6 s6 hq4 => ?_, fun e e' => ?_⟩
      · rcases hc with ⟨_, rfl, rfl⟩ | ⟨z, _⟩ | ⟨z, _⟩
        · exact rest _ _ ⟨q4, H6, rfl, s6, hq4, rfl⟩
        · rw [e] at z; cases z
        · rw [e] at z; cases z
      · rcases hc with ⟨z, _⟩ | ⟨_, _, rfl, rfl⟩ | ⟨_, z, _⟩
        · rw [e] at z; cases z
        · exact rest _ _ ⟨q4, H6, rfl, s6, hq4, rfl⟩
        · rw [e'] at z; cases z
      · rcases hc with ⟨z, _⟩ | ⟨_, z, _⟩ | ⟨_, _, _, _, rfl, rfl⟩
        · rw [e] at z; cases z
        · rw [e'] at z; cases z
        · exact rest _ _ ⟨q4, H6, rfl, s6, hq4, rfl⟩
      · obtain ⟨u, v, e1, e2, hu, hv⟩ := hT e e'
        rcases hc with ⟨z, _⟩ | ⟨_, z, _⟩ | ⟨_, _, em, i2, _⟩
        · rw [e] at z; cases z
        · rw [e'] at z; cases z
        · exact ⟨u, v, e1, e2, hu, hv, fun l => by omega, fun _ z => by rw [em] at z; cases z⟩
    · rintro v Hz ⟨q4, Hm, rfl, sm, hq4, rfl⟩
      have sH : Same H (upd Hm q4 (.lst [.str word, b])) := Same.new sm hq4
      have e4 : (upd Hm q4 (.lst [.str word, b])) q4 = some (.lst [.str word, b]) := upd_same
      generalize upd Hm q4 (.lst [.str word, b]) = Hz at sH e4
      have last : ∀ Hy, Off b H Hy → Hy q4 = some (.lst [.str word, b]) → (∃ d, Dr K Hy b d ∧ Sh d) →
          (tRet (tAndV (tOp rEq (tOp (rIxL K) (tVar 6) (tC (.int 0))) (tVar 4)) (tOp rEq (tCB (rRepr K) (tCons (tOp (rIxL K) (tVar 6) (tC (.int 1))) tNil)) (tCB (rRepr K) (tCons (tVar 5) tNil)))))
            { nx := fun _ H' => Q .non H', rt := Q } [some (.int i), some x, some y, some m, some (.str word), some b, some (.ref q4)] Hy := by
        intro Hy off ey ⟨d, dr, h1, h2, h3⟩
        refine ⟨_, rfl, q4, _, _, _, rfl, rfl, SqL.of ey, atI_nat (j := 0) rfl, _, rfl, rfl, _, rfl, eqS ?_⟩
        refine ⟨_, rfl, q4, _, _, _, rfl, rfl, SqL.of ey, atI_nat (j := 1) rfl, _, d, rfl, dr, h1, h2, h3, _, rfl, _, d, rfl, dr, h1, h2, h3, rfl, ?_⟩
        rw [decide_eq_true rfl]
        exact q _ off
      rcases hb with hb | ⟨a, v, rfl, ea, sc⟩
      · obtain ⟨ty, d, kb, sh, t, r⟩ := hb.same sH
        exact ⟨_, rfl, _, _, _, _, false, rfl, .ty _, t, kit_ty kb, false, rfl, iteF (last _ (fun c o e _ => sH c o e) e4 ⟨d, r, sh⟩)⟩
      · have ea' := sH _ _ ea
        refine ⟨_, rfl, _, _, _, _, true, rfl, .ty _, .base (.lst ea'), kit_ty (by decide +kernel), true, rfl, iteT ?_⟩
        refine ⟨_, rfl, .inl ⟨rfl, _, SqL.of ea'⟩, a, _, _, rfl, rfl, ea', (by show 1 < sizeLine; decide), ?_⟩
        have n4 : q4 ≠ a := by rintro rfl; rw [e4] at ea'; cases ea'
        refine last _ (fun c o e no => ?_) (by rw [upd_ne n4]; exact e4) (sh_app sc upd_same)
        have nc : c ≠ a := by
          rintro rfl
          rw [ea] at e; cases e
          exact no rfl _ rfl
        rw [upd_ne nc]; exact sH _ _ e
end
end My

set_option Elab.async false
set_option linter.all false
set_option maxRecDepth 100000
set_option maxHeartbeats 8000000
namespace My
open PySem PySem.Spec PyProof.Rows L2
/-! ### copies, which stay apart -/
def Ex (H : Hp) (c : V) : Prop := ∀ a, c = .ref a → H a ≠ none
def NL (H : Hp) (x : V) : Prop := ∀ a, x = .ref a → ∃ o, H a = some o ∧ ∀ xs, o ≠ .lst xs
def Orig (K : PySem.W.Frag) (J : Hp → V → Prop) (Hb : Hp) (x : V) : Prop := (Pl K Hb x ∧ NL Hb x ∧ J Hb x) ∨ Ls Hb x
def Cp (K : PySem.W.Frag) (J : Hp → V → Prop) (Hb H : Hp) (b : V) : Prop := (Pl K Hb b ∧ NL Hb b ∧ J Hb b) ∨ ∃ a v, b = .ref a ∧ H a = some (.lst [v]) ∧ Sc v ∧ Hb a = none
def Dj (Hb : Hp) (b c : V) : Prop := ∀ a, b = .ref a → c = .ref a → Hb a ≠ none
theorem Dj.symm {Hb : Hp} {b c : V} (h : Dj Hb b c) : Dj Hb c b := fun a e1 e2 => h a e2 e1
theorem Cp.same {K : PySem.W.Frag} {J : Hp → V → Prop} {Hb H H' : Hp} {b : V} (h : Cp K J Hb H b) (s : Same H H') : Cp K J Hb H' b :=
  h.elim .inl fun ⟨a, v, e, ea, r⟩ => .inr ⟨a, v, e, s _ _ ea, r⟩
theorem Cp.ex {K : PySem.W.Frag} {J : Hp → V → Prop} {Hb H : Hp} {b : V} (h : Cp K J Hb H b) (s : Same Hb H) : Ex H b := by
  intro a e z
  rcases h with ⟨_, nl, _⟩ | ⟨a', v, e', ea, _⟩
  · obtain ⟨o, q, _⟩ := nl a e
    rw [s _ _ q] at z; cases z
  · rw [e] at e'; cases e'
    rw [ea] at z; cases z
theorem Cp.off {K : PySem.W.Frag} {J : Hp → V → Prop} {Hb H H' : Hp} {b d : V} (h : Cp K J Hb H b) (o : Off d H H') (n : Dj Hb b d) : Cp K J Hb H' b := by
  rcases h with h | ⟨a, v, e, ea, r, f⟩
  · exact .inl h
  · exact .inr ⟨a, v, e, o _ _ ea (fun z _ => absurd f (n a e z)), r, f⟩
theorem Cp.stay {K : PySem.W.Frag} {J : Hp → V → Prop} {Hb H H' : Hp} {d : V} (h : Cp K J Hb H d) (o : Off d H H') (s : Same Hb H) : Same Hb H' := by
  intro c ob e
  refine o c ob (s _ _ e) fun z xs hx => ?_
  rcases h with ⟨_, nl, _⟩ | ⟨a, v, e', _, _, f⟩
  · obtain ⟨o', q, k⟩ := nl c z
    rw [e] at q; cases q
    exact k xs hx
  · rw [z] at e'; cases e'
    rw [e] at f; cases f
theorem Cp.pl {K : PySem.W.Frag} {J : Hp → V → Prop} {Hb H : Hp} {b : V} (h : Cp K J Hb H b) (s : Same Hb H) : Pl K H b ∨ Ls H b := by
  rcases h with ⟨p, _⟩ | ⟨a, v, e, ea, sc, _⟩
  · exact .inl (p.same s)
  · exact .inr ⟨a, v, e, ea, sc⟩
abbrev JD (K : PySem.W.Frag) : Hp → V → Prop := fun H x => Jd K H x false
abbrev JC (K : PySem.W.Frag) : Hp → V → Prop := fun H x => Jc K H x false
theorem Cp.jd {K : PySem.W.Frag} {Hb H : Hp} {b : V} (h : Cp K (JD K) Hb H b) (s : Same Hb H) : Jd K H b false := by
  rcases h with ⟨_, _, j⟩ | ⟨a, v, rfl, ea, _⟩
  · exact Jd.same j s
  · exact .inr ⟨"list", .base (.lst ea), by decide +kernel, rfl⟩
theorem Cp.jc {K : PySem.W.Frag} {Hb H : Hp} {b : V} (h : Cp K (JC K) Hb H b) (s : Same Hb H) : Jc K H b false := by
  rcases h with ⟨_, _, j⟩ | ⟨a, v, rfl, ea, _⟩
  · exact Jc.same j s
  · exact .inr (.inr ⟨"list", .base (.lst ea), by decide +kernel, rfl⟩)
theorem Od.orig {K : PySem.W.Frag} {H : Hp} {x : V} (h : Od H x) : Orig K (JD K) H x := by
  rcases Od.ot (K := K) h with ⟨p, j⟩ | l
  · rcases h with ⟨z, rfl, _⟩ | rfl | rfl | rfl | ⟨a, t, rfl, ea, r⟩ | ⟨a, t, rfl, ea, _⟩ | ⟨a, rfl, ea⟩
    · exact .inl ⟨p, fun a e => (by cases e), j⟩
    · exact .inl ⟨p, fun a e => (by cases e), j⟩
    · exact .inl ⟨p, fun a e => (by cases e), j⟩
    · exact .inl ⟨p, fun a e => (by cases e), j⟩
    · exact .inr ⟨a, _, rfl, ea, .inl ⟨t, rfl, r.1, r.2⟩⟩
    · exact .inl ⟨p, fun a' e => (by cases e; exact ⟨_, ea, fun xs z => by cases z⟩), j⟩
    · exact .inl ⟨p, fun a' e => (by cases e; exact ⟨_, ea, fun xs z => by cases z⟩), j⟩
  · exact .inr l
/-- what is no count -/
def Wr (H : Hp) (x : V) : Prop := x = .int (-1) ∨ x = .bl true ∨ x = .non ∨ x = .str "1" ∨ (∃ a, x = .ref a ∧ H a = some (.lst [.int 2])) ∨ (∃ a, x = .ref a ∧ H a = some (.tup [])) ∨ x = .int (-1000000000)
theorem Wr.kp {p : Addr} {n : Nat} {H H' : Hp} {x : V} (h : Wr H x) (b : BoxAt H p n) (k : Kp p H H') : Wr H' x := by
  obtain ⟨o, ho, a', m, c, b', eo, _⟩ := b
  subst eo
  rcases h with h | h | h | h | ⟨a, e, ea⟩ | ⟨a, e, ea⟩ | h
  · exact .inl h
  · exact .inr (.inl h)
  · exact .inr (.inr (.inl h))
  · exact .inr (.inr (.inr (.inl h)))
  · refine .inr (.inr (.inr (.inr (.inl ⟨a, e, k _ _ ?_ ea⟩))))
    rintro rfl; rw [ho] at ea; cases ea
  · refine .inr (.inr (.inr (.inr (.inr (.inl ⟨a, e, k _ _ ?_ ea⟩)))))
    rintro rfl; rw [ho] at ea; cases ea
  · exact .inr (.inr (.inr (.inr (.inr (.inr h)))))
theorem Wr.orig {K : PySem.W.Frag} {H : Hp} {x : V} (h : Wr H x) : Orig K (JC K) H x := by
  rcases h with rfl | rfl | rfl | rfl | ⟨a, rfl, ea⟩ | ⟨a, rfl, ea⟩ | rfl
  · exact .inl ⟨⟨"int", .int (-1), by decide +kernel, by refine ⟨?_, ?_, ?_⟩ <;> decide +kernel, .base (.int _), .inl (.int _)⟩, fun a e => (by cases e), .inl ⟨_, rfl, by decide⟩⟩
  · exact .inl ⟨⟨"bool", .bool true, by decide +kernel, by refine ⟨?_, ?_, ?_⟩ <;> decide +kernel, .base (.bl _), .inl (.bl _)⟩, fun a e => (by cases e), .inr (.inl ⟨_, rfl, rfl⟩)⟩
  · exact .inl ⟨⟨"NoneType", .none, by decide +kernel, by refine ⟨?_, ?_, ?_⟩ <;> decide +kernel, .base .non, .inl .non⟩, fun a e => (by cases e), .inr (.inr ⟨"NoneType", .base .non, by decide +kernel, rfl⟩)⟩
  · exact .inl ⟨⟨"str", .str "1", by decide +kernel, by refine ⟨?_, ?_, ?_⟩ <;> decide +kernel, .base (.str _), .inl (.str _)⟩, fun a e => (by cases e), .inr (.inr ⟨"str", .base (.str _), by decide +kernel, rfl⟩)⟩
  · exact .inr ⟨a, _, rfl, ea, .inr rfl⟩
  · exact .inl ⟨⟨"tuple", .tuple [], by decide +kernel, by refine ⟨?_, ?_, ?_⟩ <;> decide +kernel, .base (.tup ea), .inl (.tup (SqT.of ea) .nil)⟩, fun a' e => (by cases e; exact ⟨_, ea, fun xs z => by cases z⟩), .inr (.inr ⟨"tuple", .base (.tup ea), by decide +kernel, rfl⟩)⟩
  · exact .inl ⟨⟨"int", .int (-1000000000), by decide +kernel, by refine ⟨?_, ?_, ?_⟩ <;> decide +kernel, .base (.int _), .inl (.int _)⟩, fun a e => (by cases e), .inl ⟨_, rfl, by decide⟩⟩
section
variable {P : Program} {w : World} {K : PySem.W.Frag} {mg : Str → Option Value} {base : Heap}
theorem copy_run {J : Hp → V → Prop} {Hb H : Hp} {σ : L2.St} {j : Nat} {x : V} {Q : VK} (ex : σ[j]? = some (some x)) (o : Orig K J Hb x) (s : Same Hb H)
    (q : ∀ b H', Cp K J Hb H' b → Same H H' → (∀ c, Ex H c → Dj Hb b c) → Q b H') : tCall (spCopy K) [] E0 (tCons (tVar j) tNil) σ H Q := by
  refine ⟨x, ex, x, rfl, ?_⟩
  rcases o with ⟨p, nl, jj⟩ | ⟨a, v, rfl, ea, sc⟩
  · refine .inl ⟨p.same s, q x H (.inl ⟨p, nl, jj⟩) (Same.refl H) fun c _ a e _ z => ?_⟩
    obtain ⟨o, qo, _⟩ := nl a e
    rw [qo] at z; cases z
  · refine .inr ⟨a, v, rfl, s _ _ ea, fun l hl => ?_⟩
    refine q _ _ (.inr ⟨l, v, rfl, upd_same, sc, s.free hl⟩) (Same.new (Same.refl H) hl) fun c hc a' e e2 => ?_
    cases e
    exact absurd hl (hc l e2)
def spRefused : Sp := fun vs H Q _ => ∃ (p : Addr) (n : Nat) (u v : List Nat), vs = [.ref p, .str (S u), .str (S v)] ∧ BoxAt H p n ∧ n < 100000 ∧ Low u ∧ Low v ∧ u.length ≤ 50 ∧ v.length ≤ 50 ∧
  ∀ H', Kp p H H' → BoxAt H' p (n + 10) → Q (.bl true) H'
theorem ok_law_refused_right (T : Txt K mg) : FnG P w K mg base CX0 8 T.f_law_refused_right T.fd_law_refused_right ["box", "first", "second"] spRefused := by
  refine T.F_law_refused_right.okG sc_law_refused_right (fun vs H Q E h => ?_) (fun cdv A outer s H vs Q E hgd hr h => ?_)
  · obtain ⟨p, n, u, v, rfl, _⟩ := h; rfl
  · obtain ⟨p, n, u, v, rfl, hb, hn, lu, lv, bu, bv, q⟩ := h
    have hu : u.length ≤ 1000 := Nat.le_trans bu (by omega)
    have hv : v.length ≤ 1000 := Nat.le_trans bv (by omega)
    refine ⟨_, (pss_cons (ps_set (i := 3) sc_law_refused_right.nd rfl (Or.inl rfl) (pe_ix ix_list (pe_lst (pa_cons (pe_un un_neg pe_int) (pa_cons pe_bl (pa_cons pe_non (pa_cons pe_str (pa_cons (pe_lst (pa_cons pe_int pa_nil)) (pa_cons (pe_tup pa_nil) (pa_cons (pe_op op_sub pe_int (pe_op op_pow pe_int pe_int)) pa_nil)))))))) (pe_call (ok_law_take T) (hr.mono (by decide)) rfl T.g_law_take T.F_law_take.kp T.b_law_take .nil pass0 (pa_cons (pv 0) (pa_cons pe_int pa_nil))) (fun _ _ => rfl)))
      (pss_cons (ps_par (i := 4) (j := 5) (by rfl) sc_law_refused_right.nd rfl rfl (by decide) rfl rfl (pa_cons (pe_call (ok_law_odd T) (hr.mono (by decide)) rfl T.g_law_odd T.F_law_odd.kp T.b_law_odd .nil pass0 (pa_cons (pv 0) (pa_cons (pv 1) pa_nil))) (pa_cons (pe_call (ok_law_odd T) (hr.mono (by decide)) rfl T.g_law_odd T.F_law_odd.kp T.b_law_odd .nil pass0 (pa_cons (pv 0) (pa_cons (pv 2) pa_nil))) pa_nil)) (by rfl))
      (pss_cons (ps_for PassesOwn.never rfl (pi_range1 rfl T.z_range (pa_cons pe_int pa_nil)) (pg_name (i := 6) sc_law_refused_right.nd rfl (Or.inl rfl)) (pss_cons (ps_par3 (i := 7) (j := 8) (l := 9) (by rfl) sc_law_refused_right.nd rfl rfl rfl (by decide) (by decide) (by decide) rfl rfl rfl (pa_cons (pe_call (ok_law_copy T) (hr.mono (by decide)) rfl T.g_law_copy T.F_law_copy.kp T.b_law_copy .nil pass0 (pa_cons (pv 4) pa_nil)) (pa_cons (pe_call (ok_law_copy T) (hr.mono (by decide)) rfl T.g_law_copy T.F_law_copy.kp T.b_law_copy .nil pass0 (pa_cons (pv 5) pa_nil)) (pa_cons (pe_call (ok_law_copy T) (hr.mono (by decide)) rfl T.g_law_copy T.F_law_copy.kp T.b_law_copy .nil pass0 (pa_cons (pv 3) pa_nil)) pa_nil))) (by rfl))
      (pss_cons (ps_if (pt_not (pt_val (pe_callG (ok_law_refuses T) hgd (hr.mono (by decide)) rfl T.g_law_refuses T.F_law_refuses.kp T.b_law_refuses .nil pass0 (pa_cons (pv 6) (pa_cons (pv 7) (pa_cons (pv 2) (pa_cons pe_int (pa_cons pe_str (pa_cons (pv 7) pa_nil))))))))) (pss_one (ps_ret pe_bl)) pss_nil)
      (pss_cons (ps_set (i := 7) sc_law_refused_right.nd rfl (Or.inl rfl) (pe_call (ok_law_copy T) (hr.mono (by decide)) rfl T.g_law_copy T.F_law_copy.kp T.b_law_copy .nil pass0 (pa_cons (pv 4) pa_nil)))
      (pss_cons (ps_if (pt_not (pt_val (pe_callG (ok_law_refuses T) hgd (hr.mono (by decide)) rfl T.g_law_refuses T.F_law_refuses.kp T.b_law_refuses .nil pass0 (pa_cons (pv 6) (pa_cons (pv 1) (pa_cons (pv 8) (pa_cons (pv 9) (pa_cons pe_str (pa_cons (pv 8) pa_nil))))))))) (pss_one (ps_ret pe_bl)) pss_nil)
      (pss_cons (ps_set (i := 8) sc_law_refused_right.nd rfl (Or.inl rfl) (pe_call (ok_law_copy T) (hr.mono (by decide)) rfl T.g_law_copy T.F_law_copy.kp T.b_law_copy .nil pass0 (pa_cons (pv 5) pa_nil)))
      (pss_cons (ps_if (pt_not (pt_val (pe_callG (ok_law_refuses T) hgd (hr.mono (by decide)) rfl T.g_law_refuses T.F_law_refuses.kp T.b_law_refuses .nil pass0 (pa_cons (pv 6) (pa_cons (pv 7) (pa_cons (pv 8) (pa_cons (pv 9) (pa_cons pe_str (pa_cons (pv 7) pa_nil))))))))) (pss_one (ps_ret pe_bl)) pss_nil)
      (pss_one (ps_if (PW.pt (pw_and (pt_cmpR op_gt (pv 6) pe_int (nomark _)) (pw_and1 (pt_not (pt_val (pe_callG (ok_law_refuses T) hgd (hr.mono (by decide)) rfl T.g_law_refuses T.F_law_refuses.kp T.b_law_refuses .nil pass0 (pa_cons (pv 6) (pa_cons (pv 1) (pa_cons (pv 2) (pa_cons (pv 9) (pa_cons pe_str (pa_cons (pv 9) pa_nil)))))))))))) (pss_one (ps_ret pe_bl)) pss_nil)))))))))
      (pss_one (ps_ret pe_bl))))), ?_⟩
    have two : 2 ≤ sizeLine := by decide
    refine ⟨_, rfl, (by show 1 ≤ sizeLine; decide), fun q1 hq1 => ?_⟩
    refine ⟨(by show 0 ≤ sizeLine; decide), fun q2 hq2 => ?_⟩
    refine ⟨_, _, rfl, rfl, ⟨by decide, by decide, by decide⟩, _, _, rfl, rfl, (by show 7 ≤ sizeLine; decide), fun q3 hq3 => ?_⟩
    have n12 : q1 ≠ q2 := ne_of_none upd_same hq2
    have n13 : q1 ≠ q3 := ne_of_none (by rw [upd_ne n12]; exact upd_same) hq3
    have n23 : q2 ≠ q3 := ne_of_none upd_same hq3
    have b3 := ((hb.new hq1 (o := .lst [V.int 2])).new hq2 (o := .tup [])).new hq3 (o := .lst [V.int (-1), .bl true, .non, .str (Str.ofString "1"), .ref q1, .ref q2, .int (0 - 10 ^ (9 : Int).toNat)])
    have k3 := (((Kp.refl p H).new hq1 (o := .lst [V.int 2])).new hq2 (o := .tup [])).new hq3 (o := .lst [V.int (-1), .bl true, .non, .str (Str.ofString "1"), .ref q1, .ref q2, .int (0 - 10 ^ (9 : Int).toNat)])
    refine ⟨_, rfl, p, n, 7, rfl, b3, by omega, by omega, by omega, fun d o hd ho => ?_⟩
    have np3 : p ≠ q3 := ((hb.new hq1).new hq2).ne hq3
    have np2 : p ≠ q2 := (hb.new hq1).ne hq2
    have np1 : p ≠ q1 := hb.ne hq1
    have k4 := k3.upd (o := o)
    have e3 : (upd (upd (upd (upd H q1 (.lst [V.int 2])) q2 (.tup [])) q3 (.lst [V.int (-1), .bl true, .non, .str (Str.ofString "1"), .ref q1, .ref q2, .int (0 - 10 ^ (9 : Int).toNat)])) p o) q3 = some (.lst [V.int (-1), .bl true, .non, .str (Str.ofString "1"), .ref q1, .ref q2, .int (0 - 10 ^ (9 : Int).toNat)]) := by
      rw [upd_ne np3.symm]; exact upd_same
    have e1 : (upd (upd (upd (upd H q1 (.lst [V.int 2])) q2 (.tup [])) q3 (.lst [V.int (-1), .bl true, .non, .str (Str.ofString "1"), .ref q1, .ref q2, .int (0 - 10 ^ (9 : Int).toNat)])) p o) q1 = some (.lst [V.int 2]) := by
      rw [upd_ne np1.symm, upd_ne n13, upd_ne n12]; exact upd_same
    have e2 : (upd (upd (upd (upd H q1 (.lst [V.int 2])) q2 (.tup [])) q3 (.lst [V.int (-1), .bl true, .non, .str (Str.ofString "1"), .ref q1, .ref q2, .int (0 - 10 ^ (9 : Int).toNat)])) p o) q2 = some (.tup []) := by
      rw [upd_ne np2.symm, upd_ne n23]; exact upd_same
    have b4 : BoxAt (upd (upd (upd (upd H q1 (.lst [V.int 2])) q2 (.tup [])) q3 (.lst [V.int (-1), .bl true, .non, .str (Str.ofString "1"), .ref q1, .ref q2, .int (0 - 10 ^ (9 : Int).toNat)])) p o) p (n + 1) := ho.at
    generalize upd (upd (upd (upd H q1 (.lst [V.int 2])) q2 (.tup [])) q3 (.lst [V.int (-1), .bl true, .non, .str (Str.ofString "1"), .ref q1, .ref q2, .int (0 - 10 ^ (9 : Int).toNat)])) p o = Hw at k4 e1 e2 e3 b4
    obtain ⟨wv, hwv, ew⟩ : ∃ wv, Wr Hw wv ∧ [V.int (-1), .bl true, .non, .str (Str.ofString "1"), .ref q1, .ref q2, .int (0 - 10 ^ (9 : Int).toNat)][d]? = some wv := by
      have h7 : d < 7 := by omega
      match d, h7 with
      | 0, _ => exact ⟨_, .inl rfl, rfl⟩
      | 1, _ => exact ⟨_, .inr (.inl rfl), rfl⟩
      | 2, _ => exact ⟨_, .inr (.inr (.inl rfl)), rfl⟩
      | 3, _ => exact ⟨_, .inr (.inr (.inr (.inl rfl))), rfl⟩
      | 4, _ => exact ⟨_, .inr (.inr (.inr (.inr (.inl ⟨q1, rfl, e1⟩)))), rfl⟩
      | 5, _ => exact ⟨_, .inr (.inr (.inr (.inr (.inr (.inl ⟨q2, rfl, e2⟩))))), rfl⟩
      | 6, _ => exact ⟨.int (-1000000000), .inr (.inr (.inr (.inr (.inr (.inr rfl))))), congrArg (fun z => some (V.int z)) (by decide +kernel : (0 : Int) - 10 ^ (9 : Int).toNat = -1000000000)⟩
    refine ⟨q3, _, _, _, rfl, rfl, SqL.of e3, atI_nat (j := d) ew, ?_⟩
    refine ⟨_, rfl, _, rfl, p, _, u, rfl, b4, by omega, lu, bu, fun x H1 ox k5 b5 => ?_⟩
    refine ⟨_, rfl, _, rfl, p, _, v, rfl, b5, by omega, lv, bv, fun y Hb oy k6 b6 => ?_⟩
    refine ⟨_, _, rfl, ?_⟩
    have Ox : Orig K (JD K) Hb x := (ox.kp b5 k6).orig
    have Oy : Orig K (JD K) Hb y := oy.orig
    have Ow : Orig K (JC K) Hb wv := ((hwv.kp b4 k5).kp b5 k6).orig
    refine ⟨4, rfl, by decide, by decide, ?_⟩
    refine for_range (lo := 0) (n := 4) (fun i σ H' => ∃ x6 x7 x8 x9, σ = [some (.ref p), some (.str (S u)), some (.str (S v)), some wv, some x, some y, x6, x7, x8, x9] ∧ Same Hb H') ⟨_, _, _, _, rfl, Same.refl _⟩ ?_ ?_
    rotate_left
    · rintro σ H' ⟨x6, x7, x8, x9, rfl, s2⟩
      exact q _ (((k4.trans k5).trans k6).trans (Kp.of s2)) ((b6.same s2).mono (by omega))
    rintro i σ H0 hi ⟨x6, x7, x8, x9, rfl, s0⟩
    rw [Int.zero_add]
    have ci : ((i : Int) = 0 ∨ (i : Int) = 1 ∨ (i : Int) = 2 ∨ (i : Int) = 3) := by omega
    have ju : ∀ H', Jd K H' (.str (S u)) true := fun _ => jd_low lu
    have jv : ∀ H', Jd K H' (.str (S v)) true := fun _ => jd_low lv
    have nt : ∀ {A : Prop}, (false = true) → A := fun z => by cases z
    refine copy_run rfl Ox s0 fun g H1' cg s1 dg => ?_
    have t1 := s0.trans s1
    refine copy_run rfl Oy t1 fun m H2 cm s2 dm => ?_
    have t2 := t1.trans s2
    refine copy_run rfl Ow t2 fun c H3 cc s3 dc => ?_
    have t3 := t2.trans s3
    have cg3 := (cg.same s2).same s3
    have cm3 := cm.same s3
    have dmg := dm g (cg.ex t1)
    have dcg := dc g ((cg.same s2).ex t2)
    have dcm := dc m (cm.ex t2)
    refine ⟨_, _, _, rfl, ?_⟩
    refine ⟨_, rfl, _, rfl, _, rfl, _, rfl, (i : Int), g, .str (S v), .int 3, "text", g, false, true, true, rfl, ci, cg3.jd t3, jv _, fun _ _ => .inl ⟨3, rfl, rfl⟩, .inl ⟨rfl, rfl, rfl⟩, nt, cg3.pl t3, fun H5 o5 => ?_⟩
    refine ⟨true, rfl, iteF ?_⟩
    have t5 := cg3.stay o5 t3
    have cm5 := cm3.off o5 dmg
    have cc5 := cc.off o5 dcg
    refine copy_run rfl Ox t5 fun g2 H6 cg2 s6 dg2 => ?_
    have t6 := t5.trans s6
    have cm6 := cm5.same s6
    have cc6 := cc5.same s6
    have dgm := dg2 m (cm5.ex t5)
    have dgc := dg2 c (cc5.ex t5)
    refine ⟨_, rfl, _, rfl, _, rfl, _, rfl, _, rfl, (i : Int), .str (S u), m, c, "text", m, true, false, false, rfl, ci, ju _, cm6.jd t6, fun H' s' => (cc6.same s').jc (t6.trans s'), .inr (.inl ⟨rfl, rfl, rfl, rfl⟩), fun _ => nt, cm6.pl t6, fun H7 o7 => ?_⟩
    refine ⟨true, rfl, iteF ?_⟩
    have t7 := cm6.stay o7 t6
    have cg7 := cg2.off o7 dgm
    have cc7 := cc6.off o7 dcm
    refine copy_run rfl Oy t7 fun m2 H8 cm2 s8 dm2 => ?_
    have t8 := t7.trans s8
    have cg8 := cg7.same s8
    have cc8 := cc7.same s8
    refine ⟨_, rfl, _, rfl, _, rfl, _, rfl, _, rfl, (i : Int), g2, m2, c, "text", g2, false, false, false, rfl, ci, cg8.jd t8, cm2.jd t8, fun H' s' => (cc8.same s').jc (t8.trans s'), .inl ⟨rfl, rfl, rfl⟩, nt, cg8.pl t8, fun H9 o9 => ?_⟩
    refine ⟨true, rfl, iteF ?_⟩
    have t9 := cg8.stay o9 t8
    have cc9 := cc8.off o9 dgc.symm
    refine ⟨_, rfl, _, _, rfl, rfl, _, rfl, ite2 (fun z => ?_) (fun _ => iteF ?_)⟩
    · have z' : (i : Int) > 1 := of_decide_eq_true z
      refine ⟨_, rfl, _, rfl, _, rfl, _, rfl, _, rfl, (i : Int), .str (S u), .str (S v), c, "count", c, true, true, false, rfl, ci, ju _, jv _, fun H' s' => (cc9.same s').jc (t9.trans s'), .inr (.inr ⟨rfl, rfl, rfl, by omega, rfl, rfl⟩), fun _ _ => ⟨u, v, rfl, rfl, hu, hv⟩, cc9.pl t9, fun Ha oa => ?_⟩
      exact ⟨true, rfl, iteF ⟨_, _, _, _, rfl, cc9.stay oa t9⟩⟩
    · exact ⟨_, _, _, _, rfl, t9⟩
end
end My

set_option Elab.async false
set_option linter.all false
set_option maxRecDepth 100000
set_option maxHeartbeats 8000000
namespace My
open PySem PySem.Spec PyProof.Rows L2
/-- what near tells, as it is shown -/
def vW (r : Nat) (k : Int) : V := if (r : Int) ≤ k then .int r else .non
def dW (r : Nat) (k : Int) : PyData := if (r : Int) ≤ k then dT r else .list [.str "told", .none]
theorem sh_dW {r : Nat} {k : Int} (h : r < 1048576) : Sh (dW r k) := by
  unfold dW
  split
  · exact sh_dT h
  · refine ⟨?_, ?_, ?_⟩ <;> decide +kernel
theorem dr_dW {K : PySem.W.Frag} {H : Hp} {q : Addr} {r : Nat} {k : Int} : Dr K (upd H q (.lst [.str "told", vW r k])) (.ref q) (dW r k) := by
  unfold vW dW
  by_cases h : (r : Int) ≤ k
  · rw [if_pos h, if_pos h]; exact dr_dT
  · rw [if_neg h, if_neg h]; exact .inl (.lst (SqL.of upd_same) (.cons (.str _) (.cons .non .nil)))
section
variable {P : Program} {w : World} {K : PySem.W.Frag} {mg : Str → Option Value} {base : Heap}
def spRight : Sp := fun vs H Q _ => ∃ (p : Addr) (n : Nat) (u v : List Nat), vs = [.ref p, .str (S u), .str (S v)] ∧ BoxAt H p n ∧ n < 1000000 ∧ Low u ∧ Low v ∧ u.length ≤ 50 ∧ v.length ≤ 50 ∧
  ∀ H', Kp p H H' → BoxAt H' p (n + 40) → Q (.bl true) H'
theorem ok_law_right (T : Txt K mg) : FnG P w K mg base CX0 7 T.f_law_right T.fd_law_right ["box", "first", "second"] spRight := by
  refine T.F_law_right.okG sc_law_right (fun vs H Q E h => ?_) (fun cdv A outer s H vs Q E hgd hr h => ?_)
  · obtain ⟨p, n, u, v, rfl, _⟩ := h; rfl
  · obtain ⟨p, n, u, v, rfl, hb, hn, lu, lv, bu, bv, q⟩ := h
    have hu : u.length ≤ 1000 := Nat.le_trans bu (by omega)
    have hv : v.length ≤ 1000 := Nat.le_trans bv (by omega)
    have hun := un64 hr
    have two : 2 ≤ sizeLine := by decide
    refine ⟨_, (pss_cons (ps_par (i := 3) (j := 4) (by rfl) sc_law_right.nd rfl rfl (by decide) rfl rfl (pa_cons (pe_call (ok_law_table T) (hr.mono (by decide)) rfl T.g_law_table T.F_law_table.kp T.b_law_table .nil pass0 (pa_cons (pv 1) (pa_cons (pv 2) pa_nil))) (pa_cons (pe_call (ok_law_take T) (hr.mono (by decide)) rfl T.g_law_take T.F_law_take.kp T.b_law_take .nil pass0 (pa_cons (pv 0) (pa_cons pe_int pa_nil))) pa_nil)) (by rfl))
      (pss_cons (ps_if (pt_cmpR op_ne (pe_callB (call_repr hgd hun) (by rfl) T.z_repr (by decide +kernel) (pa_cons (pe_call (ok_law_met T) (hr.mono (by decide)) rfl T.g_law_met T.F_law_met.kp T.b_law_met .nil pass0 (pa_cons (pv 4) (pa_cons (pv 1) (pa_cons (pv 2) (pa_cons pe_int pa_nil))))) pa_nil)) (pe_callB (call_repr hgd hun) (by rfl) T.z_repr (by decide +kernel) (pa_cons (pe_lst (pa_cons pe_str (pa_cons (pv 3) pa_nil))) pa_nil)) (nomark _)) (pss_one (ps_ret pe_bl)) pss_nil)
      (pss_cons (ps_for PassesOwn.never rfl (pi_list (pe_lst (pa_cons (pv 3) (pa_cons (pe_callB (call_max2 rfl) (by rfl) T.z_max (by decide +kernel) (pa_cons pe_int (pa_cons (pe_op op_sub (pv 3) pe_int) pa_nil))) (pa_cons (pe_op op_add (pv 3) pe_int) (pa_cons (pe_call (ok_law_take T) (hr.mono (by decide)) rfl T.g_law_take T.F_law_take.kp T.b_law_take .nil pass0 (pa_cons (pv 0) (pa_cons pe_int pa_nil))) (pa_cons (pe_ix ix_list (pe_lst (pa_cons pe_int (pa_cons pe_int pa_nil))) (pe_call (ok_law_take T) (hr.mono (by decide)) rfl T.g_law_take T.F_law_take.kp T.b_law_take .nil pass0 (pa_cons (pv 0) (pa_cons pe_int pa_nil))) (fun _ _ => rfl)) pa_nil))))))) (pg_name (i := 5) sc_law_right.nd rfl (Or.inl rfl)) (pss_cons (ps_par (i := 6) (j := 7) (by rfl) sc_law_right.nd rfl rfl (by decide) rfl rfl (pa_cons (pe_callB (call_repr hgd hun) (by rfl) T.z_repr (by decide +kernel) (pa_cons (pe_lst (pa_cons pe_str (pa_cons (pe_ifExp (pt_cmpR op_le (pv 3) (pv 5) (nomark _)) (pv 3) pe_non) pa_nil))) pa_nil)) (pa_cons (pe_cmpR op_eq (pe_call (ok_law_take T) (hr.mono (by decide)) rfl T.g_law_take T.F_law_take.kp T.b_law_take .nil pass0 (pa_cons (pv 0) (pa_cons pe_int pa_nil))) pe_int (nomark _)) pa_nil)) (by rfl))
      (pss_cons (ps_set (i := 8) sc_law_right.nd rfl (Or.inl rfl) (pe_call (ok_law_met T) (hr.mono (by decide)) rfl T.g_law_met T.F_law_met.kp T.b_law_met .nil pass0 (pa_cons (pe_op op_add pe_int (pe_call (ok_law_take T) (hr.mono (by decide)) rfl T.g_law_take T.F_law_take.kp T.b_law_take .nil pass0 (pa_cons (pv 0) (pa_cons pe_int pa_nil)))) (pa_cons (pe_ifExp (pt_val (pv 7)) (pv 2) (pv 1)) (pa_cons (pe_ifExp (pt_val (pv 7)) (pv 1) (pv 2)) (pa_cons (pv 5) pa_nil))))))
      (pss_one (ps_if (pt_cmpR op_ne (pe_callB (call_repr hgd hun) (by rfl) T.z_repr (by decide +kernel) (pa_cons (pv 8) pa_nil)) (pv 6) (nomark _)) (pss_one (ps_ret pe_bl)) pss_nil)))))
      (pss_cons (ps_if (pt_cmpR op_ne (pe_callB (call_repr hgd hun) (by rfl) T.z_repr (by decide +kernel) (pa_cons (pe_call (ok_law_met T) (hr.mono (by decide)) rfl T.g_law_met T.F_law_met.kp T.b_law_met .nil pass0 (pa_cons (pe_op op_sub pe_int (pv 4)) (pa_cons (pv 2) (pa_cons (pv 1) (pa_cons pe_int pa_nil))))) pa_nil)) (pe_callB (call_repr hgd hun) (by rfl) T.z_repr (by decide +kernel) (pa_cons (pe_lst (pa_cons pe_str (pa_cons (pv 3) pa_nil))) pa_nil)) (nomark _)) (pss_one (ps_ret pe_bl)) pss_nil)
      (pss_one (ps_ret (pe_cmpR op_eq (pe_callB (call_repr hgd hun) (by rfl) T.z_repr (by decide +kernel) (pa_cons (pe_call (ok_law_met T) (hr.mono (by decide)) rfl T.g_law_met T.F_law_met.kp T.b_law_met .nil pass0 (pa_cons (pv 4) (pa_cons (pv 1) (pa_cons (pv 1) (pa_cons pe_int pa_nil))))) pa_nil)) (pe_callB (call_repr hgd hun) (by rfl) T.z_repr (by decide +kernel) (pa_cons (pe_lst (pa_cons pe_str (pa_cons pe_int pa_nil))) pa_nil)) (nomark _)))))))), ?_⟩
    refine ⟨_, rfl, _, rfl, u, v, rfl, Nat.le_trans hu (by decide), Nat.le_trans hv (by decide), fun H1 s1 => ?_⟩
    have bd : Lev.D u v ≤ 50 := by have := Lev.D_le_max u v; omega
    have esym := Lev.D_symm v u
    have hsh := sh_dT (r := Lev.D u v) (by omega)
    have b1 := hb.same s1
    refine ⟨_, rfl, p, n, 2, rfl, b1, by omega, by omega, by omega, fun tu o htu ho => ?_⟩
    refine ⟨_, _, rfl, ?_⟩
    have k2 : Kp p H (upd H1 p o) := (Kp.of s1).upd
    have b2 : BoxAt (upd H1 p o) p (n + 1) := ho.at
    generalize upd H1 p o = H2 at k2 b2
    have nn : ∀ {A : Prop}, (true = false) → A := fun z => by cases z
    have jc : ∀ (k : Nat) H', Jc K H' (.int (k : Int)) true := fun k _ => .inl ⟨_, rfl, (decide_eq_true (by omega)).symm⟩
    have ctu : ((tu : Int) = 0 ∨ (tu : Int) = 1 ∨ (tu : Int) = 2 ∨ (tu : Int) = 3) := by omega
    refine ⟨_, rfl, _, rfl, _, rfl, (tu : Int), .str (S u), .str (S v), .int 0, true, true, true, rfl, ctu, jd_low lu, jd_low lv, fun H' _ => jc 0 H', nn, fun _ => nn, fun _ _ => nn, fun _ _ => ⟨u, v, rfl, rfl, hu, hv, fun _ q2 H3 s3 hq2 => ?_, fun l => by omega⟩⟩
    refine ⟨_, dT (Lev.D u v), rfl, dr_dT, hsh.1, hsh.2.1, hsh.2.2, _, rfl, two, fun q3 hq3 => ?_⟩
    refine ⟨_, dT (Lev.D u v), rfl, dr_dT, hsh.1, hsh.2.1, hsh.2.2, rfl, _, rfl, neSame ?_⟩
    have k3 := ((k2.trans (Kp.of s3)).new hq2 (o := .lst [.str "told", .int (Lev.D u v : Nat)])).new hq3 (o := .lst [.str "told", .int (Lev.D u v : Nat)])
    have b3 := ((b2.same s3).new hq2 (o := .lst [.str "told", .int (Lev.D u v : Nat)])).new hq3 (o := .lst [.str "told", .int (Lev.D u v : Nat)])
    generalize upd (upd H3 q2 (.lst [.str "told", .int (Lev.D u v : Nat)])) q3 (.lst [.str "told", .int (Lev.D u v : Nat)]) = H4 at k3 b3
    -- the numbers
    refine ⟨_, rfl, _, rfl, _, _, rfl, rfl, _, _, rfl, _, rfl, _, _, rfl, rfl, _, rfl, p, _, 13, rfl, b3, by omega, by omega, by omega, fun d3 o3 hd3 ho3 => ?_⟩
    refine ⟨two, fun q5 hq5 => ?_⟩
    have b5 : BoxAt (upd H4 p o3) p (n + 2) := ho3.at
    have np5 : p ≠ q5 := b5.ne hq5
    refine ⟨_, rfl, p, _, 2, rfl, b5.new hq5, by omega, by omega, by omega, fun d4 o4 hd4 ho4 => ?_⟩
    obtain ⟨k4, hk4, e4⟩ : ∃ k4 : Nat, k4 ≤ 400 ∧ [V.int 0, V.int 400][d4]? = some (.int k4) := by
      have h2 : d4 < 2 := by omega
      match d4, h2 with
      | 0, _ => exact ⟨0, by omega, rfl⟩
      | 1, _ => exact ⟨400, by omega, rfl⟩
    refine ⟨q5, _, _, _, rfl, rfl, SqL.of (by rw [upd_ne np5.symm]; exact upd_same), atI_nat (j := d4) e4, ?_⟩
    refine ⟨(by show 5 ≤ sizeLine; decide), fun q6 hq6 => ?_⟩
    have b6 : BoxAt (upd (upd (upd H4 p o3) q5 (.lst [V.int 0, V.int 400])) p o4) p (n + 3) := ho4.at
    have k6 : Kp p H (upd (upd (upd H4 p o3) q5 (.lst [V.int 0, V.int 400])) p o4) := ((k3.upd).new hq5).upd
    generalize upd (upd (upd H4 p o3) q5 (.lst [V.int 0, V.int 400])) p o4 = H6 at b6 k6 hq6
    have np6 : p ≠ q6 := b6.ne hq6
    refine ⟨q6, rfl, ⟨_, SqL.of upd_same⟩, ?_⟩
    have b7 := b6.new hq6 (o := .lst [.int (Lev.D u v : Nat), .int (if ((Lev.D u v : Nat) : Int) - 1 > 0 then ((Lev.D u v : Nat) : Int) - 1 else 0), .int ((Lev.D u v : Nat) + 1), .int d3, .int k4])
    have k7 := k6.new hq6 (o := .lst [.int (Lev.D u v : Nat), .int (if ((Lev.D u v : Nat) : Int) - 1 > 0 then ((Lev.D u v : Nat) : Int) - 1 else 0), .int ((Lev.D u v : Nat) + 1), .int d3, .int k4])
    have e7 : (upd H6 q6 (.lst [.int (Lev.D u v : Nat), .int (if ((Lev.D u v : Nat) : Int) - 1 > 0 then ((Lev.D u v : Nat) : Int) - 1 else 0), .int ((Lev.D u v : Nat) + 1), .int d3, .int k4])) q6 = some (.lst [.int (Lev.D u v : Nat), .int (if ((Lev.D u v : Nat) : Int) - 1 > 0 then ((Lev.D u v : Nat) : Int) - 1 else 0), .int ((Lev.D u v : Nat) + 1), .int d3, .int k4]) := upd_same
    generalize upd H6 q6 (.lst [.int (Lev.D u v : Nat), .int (if ((Lev.D u v : Nat) : Int) - 1 > 0 then ((Lev.D u v : Nat) : Int) - 1 else 0), .int ((Lev.D u v : Nat) + 1), .int d3, .int k4]) = H7 at b7 k7 e7
    refine for_list (K := K) (a := q6) (xs := [.int (Lev.D u v : Nat), .int (if ((Lev.D u v : Nat) : Int) - 1 > 0 then ((Lev.D u v : Nat) : Int) - 1 else 0), .int ((Lev.D u v : Nat) + 1), .int d3, .int k4])
      (fun j σ H' => ∃ x5 x6 x7 x8, σ = [some (.ref p), some (.str (S u)), some (.str (S v)), some (.int (Lev.D u v : Nat)), some (.int tu), x5, x6, x7, x8] ∧ Kp p H7 H' ∧ BoxAt H' p (n + 3 + 2 * j)) ⟨_, _, _, _, rfl, Kp.refl p H7, b7⟩ ?_ ?_ ?_
    · rintro j σ H' _ ⟨_, _, _, _, _, kH, _⟩
      exact SqL.of (kH _ _ np6.symm e7)
    · rintro j z σ H8 hz ⟨x5, x6, x7, x8, rfl, k8, b8⟩
      obtain ⟨k, rfl, hk, hj⟩ : ∃ k : Nat, z = .int k ∧ k ≤ 1000 ∧ j < 5 := by
        match j, hz with
        | 0, hz => exact ⟨_, (Option.some.inj hz).symm, by omega, by omega⟩
        | 1, hz =>
          refine ⟨Lev.D u v - 1, (Option.some.inj hz).symm.trans (congrArg V.int ?_), by omega, by omega⟩
          split <;> omega
        | 2, hz => exact ⟨Lev.D u v + 1, (Option.some.inj hz).symm, by omega, by omega⟩
        | 3, hz => exact ⟨d3, (Option.some.inj hz).symm, by omega, by omega⟩
        | 4, hz => exact ⟨k4, (Option.some.inj hz).symm, by omega, by omega⟩
        | j + 5, hz => simp at hz
      refine through2 (t := tIf (tTest (tOp (rI0 fun i j => .bl (decide (i ≤ j))) (tVar 3) (tVar 5))) (tVar 3) (tC .non)) (fun x H' => x = vW (Lev.D u v) k ∧ H' = H8) (fun Q' rest => ?_) ?_
      · refine ⟨_, rfl, _, rfl, _, _, rfl, rfl, _, rfl, ite2 (fun c => ?_) (fun c => ?_)⟩
        · exact ⟨_, rfl, rest _ _ ⟨by unfold vW; rw [if_pos (of_decide_eq_true c)], rfl⟩⟩
        · exact rest _ _ ⟨by unfold vW; rw [if_neg (fun z => c (decide_eq_true z))], rfl⟩
      rintro x H8' ⟨rfl, rfl⟩
      have hw : Sh (dW (Lev.D u v) k) := sh_dW (by omega)
      refine ⟨two, fun q9 hq9 => ?_⟩
      refine ⟨_, dW (Lev.D u v) k, rfl, dr_dW, hw.1, hw.2.1, hw.2.2, ?_⟩
      refine ⟨_, rfl, p, _, 2, rfl, b8.new hq9, by omega, by omega, by omega, fun d9 o9 hd9 ho9 => ?_⟩
      refine ⟨rfl, _, _, rfl, ?_⟩
      refine ⟨_, rfl, p, _, 2, rfl, ho9.at, by omega, by omega, by omega, fun da oa hda hoa => ?_⟩
      refine ⟨_, _, rfl, rfl, ?_⟩
      have ba : BoxAt (upd (upd (upd H8' q9 (.lst [.str "told", vW (Lev.D u v) k])) p o9) p oa) p (n + 3 + 2 * (j + 1)) := hoa.at.mono (by omega)
      have ka : Kp p H7 (upd (upd (upd H8' q9 (.lst [.str "told", vW (Lev.D u v) k])) p o9) p oa) := ((k8.new hq9).upd).upd
      generalize upd (upd (upd H8' q9 (.lst [.str "told", vW (Lev.D u v) k])) p o9) p oa = Ha at ba ka
      have cda : ((2 : Int) + (da : Int) = 0 ∨ (2 : Int) + (da : Int) = 1 ∨ (2 : Int) + (da : Int) = 2 ∨ (2 : Int) + (da : Int) = 3) := by omega
      generalize decide (V.int (d9 : Int) = V.int 0) = sw
      cases sw
      · refine ⟨_, rfl, _, rfl, iteF ⟨_, rfl, _, rfl, _, rfl, iteF ⟨_, rfl, _, rfl, (2 : Int) + da, .str (S u), .str (S v), .int k, true, true, true, rfl, cda, jd_low lu, jd_low lv, fun H' _ => jc k H', nn, fun _ => nn, fun _ _ => nn, fun _ _ => ⟨u, v, rfl, rfl, hu, hv, fun l => by omega, fun _ _ => ⟨k, rfl, by omega, fun qb Hb sb hqb => ?_⟩⟩⟩⟩⟩
        refine ⟨_, rfl, _, dW (Lev.D u v) k, rfl, dr_dW, hw.1, hw.2.1, hw.2.2, _, rfl, rfl, _, rfl, neSame ?_⟩
        exact ⟨_, _, _, _, rfl, (ka.trans (Kp.of sb)).new hqb, (ba.same sb).new hqb⟩
      · refine ⟨_, rfl, _, rfl, iteT ⟨_, rfl, _, rfl, _, rfl, iteT ⟨_, rfl, _, rfl, (2 : Int) + da, .str (S v), .str (S u), .int k, true, true, true, rfl, cda, jd_low lv, jd_low lu, fun H' _ => jc k H', nn, fun _ => nn, fun _ _ => nn, fun _ _ => ⟨v, u, rfl, rfl, hv, hu, fun l => by omega, fun _ _ => ⟨k, rfl, by omega, fun qb Hb sb hqb => ?_⟩⟩⟩⟩⟩
        rw [esym]
        refine ⟨_, rfl, _, dW (Lev.D u v) k, rfl, dr_dW, hw.1, hw.2.1, hw.2.2, _, rfl, rfl, _, rfl, neSame ?_⟩
        exact ⟨_, _, _, _, rfl, (ka.trans (Kp.of sb)).new hqb, (ba.same sb).new hqb⟩
    · rintro σ H8 ⟨x5, x6, x7, x8, rfl, k8, b8⟩
      have c1 : ((1 : Int) - (tu : Int) = 0 ∨ (1 : Int) - (tu : Int) = 1 ∨ (1 : Int) - (tu : Int) = 2 ∨ (1 : Int) - (tu : Int) = 3) := by omega
      refine ⟨_, rfl, _, _, rfl, rfl, _, rfl, _, rfl, (1 : Int) - tu, .str (S v), .str (S u), .int 0, true, true, true, rfl, c1, jd_low lv, jd_low lu, fun H' _ => jc 0 H', nn, fun _ => nn, fun _ _ => nn, fun _ _ => ⟨v, u, rfl, rfl, hv, hu, fun _ q2 H3 s3 hq2 => ?_, fun l => by omega⟩⟩
      rw [esym]
      refine ⟨_, dT (Lev.D u v), rfl, dr_dT, hsh.1, hsh.2.1, hsh.2.2, _, rfl, two, fun q3 hq3 => ?_⟩
      refine ⟨_, dT (Lev.D u v), rfl, dr_dT, hsh.1, hsh.2.1, hsh.2.2, rfl, _, rfl, neSame ?_⟩
      refine ⟨_, rfl, _, rfl, _, rfl, (tu : Int), .str (S u), .str (S u), .int 0, true, true, true, rfl, ctu, jd_low lu, jd_low lu, fun H' _ => jc 0 H', nn, fun _ => nn, fun _ _ => nn, fun _ _ => ⟨u, u, rfl, rfl, hu, hu, fun _ q4 H5 s5 hq4 => ?_, fun l => by omega⟩⟩
      rw [Lev.D_self]
      have h0 := sh_dT (r := 0) (by omega)
      refine ⟨_, dT 0, rfl, dr_dT, h0.1, h0.2.1, h0.2.2, two, fun q6 hq6 => ?_⟩
      refine ⟨_, dT 0, rfl, dr_dT, h0.1, h0.2.1, h0.2.2, rfl, ?_⟩
      rw [decide_eq_true rfl]
      refine q _ ?_ ?_
      · exact (((((k7.trans k8).trans (Kp.of s3)).new hq2).new hq3).trans (Kp.of s5)).new hq4 |>.new hq6
      · exact ((((((b8.same s3).new hq2).new hq3).same s5).new hq4).new hq6).mono (by simp)
end
end My

set_option Elab.async false
set_option linter.all false
set_option maxRecDepth 100000
set_option maxHeartbeats 8000000
namespace L2
open PySem PySem.Spec PyProof.Rows
section
variable {X : Cx} {pos : Pos}
/-- a, b = a text of two small letters -/
def gStr2 (t : TGs) : TG := fun v σ H Q => ∃ a b, v = .str (S [a, b]) ∧ a < 128 ∧ b < 128 ∧ t [.str (S [a]), .str (S [b])] σ H Q
theorem pg_str2 {es : List Expr} {k : Nat} {t : TGs} (hc : X.calm = true) (h : PGs X es t)
    (hn : (assignEach es X.env).length = 2 := by rfl) (hst : (assignEach es X.env).findIdx? (·.1) = none := by rfl) : PG X (.Tuple es k pos) (gStr2 t) := by
  constructor
  intro pins s σ H v u Q I r hw
  obtain ⟨a, b, rfl, la, lb, hw⟩ := hw
  obtain ⟨tk, rfl⟩ := r
  have hd := I.ok.hd hc
  have asc : (S [a, b]).cps.all (· < 128) = true := by simp [S, la, lb]
  rw [PyProof.Rows.assign_Tuple]
  apply wpAny_bind
  apply wpAny_standAt
  unfold unpack
  rw [hn, hst]
  apply wpAny_bind
  apply wpAny_holding
  unfold unpackItems
  apply wpAny_bind
  unfold notIterableAtAll
  apply wpAny_bind (wpAny_specialOf (typeIs_str s (S [a, b]) tk) F.slot_str_iter.lookup ?_)
  apply wpAny_pure
  simp only [Bool.false_eq_true, if_false]
  apply wpAny_bind (wpAny_holding (wpAny_pyIter_ascii asc ?_))
  have it0 : (s.heap.push { cls := .type "str_ascii_iterator", data := .fields #[.str (S [a, b]) tk, .int 0 0] }).IsStrIter s.heap.objs.size "str_ascii_iterator" (S [a, b]) tk 0 := ⟨_, Heap.get?_push_size _ rfl, rfl, rfl⟩
  apply wpAny_bind (wpAny_holding ?_)
  show wpAny _ _ (pyNext (.ref s.heap.objs.size) >>= _) _ _ _
  apply wpAny_bind (wpAny_pyNext_ascii_item it0 (c := a) rfl ?_)
  intro h1 it1 sb1
  apply wpAny_bind (wpAny_holding ?_)
  show wpAny _ _ (pyNext (.ref s.heap.objs.size) >>= _) _ _ _
  apply wpAny_bind (wpAny_pyNext_ascii_item it1 (c := b) rfl ?_)
  intro h2 it2 sb2
  apply wpAny_bind (wpAny_holding ?_)
  show wpAny _ _ (pure []) _ _ _
  apply wpAny_pure
  apply wpAny_pure
  apply wpAny_pure
  rw [if_neg (by simp)]
  apply wpAny_bind (wpAny_holding (wpAny_pyNext_ascii_end hd it2 rfl ?_))
  intro h3 eb
  simp only [Option.isSome_none, Bool.false_eq_true, if_false]
  apply wpAny_pure
  have I1 : Inv X pins σ H { s with heap := h3, toks := s.toks + 1 + 1 } := I.kept (t' := s.toks + 1 + 1) fun c o e => by
    have lt := Heap.lt_size e
    have nc : c ≠ s.heap.objs.size := Nat.ne_of_lt lt
    exact eb c o nc (sb2.extBut c o nc (sb1.extBut c o nc (Heap.get?_push_of_some _ e)))
  exact h.run pins _ σ H [.str (S [a]), .str (S [b])] _ Q I1 (.cons (show RelV (.str (S [a])) _ from ⟨_, rfl⟩) (.cons (show RelV (.str (S [b])) _ from ⟨_, rfl⟩) .nil)) hw
end
end L2
namespace Lev
section
variable {α : Type} [DecidableEq α]
theorem A.apart {u v : List α} {c : Nat} (h : A u v c) : (∀ a ∈ u, a ∉ v) → u.length ≤ c ∧ v.length ≤ c := by
  induction h with
  | nil => intro _; simp
  | @keep a u v c g ih => intro k; exact absurd (List.mem_cons_self) (k a List.mem_cons_self)
  | @swap a b u v c g ih =>
    intro k
    have := ih fun x hx hy => k x (List.mem_cons_of_mem _ hx) (List.mem_cons_of_mem _ hy)
    simp only [List.length_cons]; omega
  | @drop a u v c g ih =>
    intro k
    have := ih fun x hx hy => k x (List.mem_cons_of_mem _ hx) hy
    simp only [List.length_cons]; omega
  | @add b u v c g ih =>
    intro k
    have := ih fun x hx hy => k x hx (List.mem_cons_of_mem _ hy)
    simp only [List.length_cons]; omega
theorem rounds_add (v : List α) (n : Nat) : ∀ k, rounds (k + n) v = rounds k v ++ rounds n v
  | 0 => by rw [Nat.zero_add]; rfl
  | k + 1 => by
    rw [Nat.add_right_comm]
    show v ++ rounds (k + n) v = (v ++ rounds k v) ++ rounds n v
    rw [rounds_add v n k, List.append_assoc]
theorem mem_rounds {x y : α} : ∀ {n : Nat}, y ∈ rounds n [x] → y = x
  | n + 1, h => by
    rcases List.mem_append.mp (show y ∈ [x] ++ rounds n [x] from h) with h | h
    · exact List.mem_singleton.mp h
    · exact mem_rounds h
theorem D_rounds1 (x y : α) (n m : Nat) : D (rounds n [x]) (rounds m [y]) = if x = y then (n - m) + (m - n) else max n m := by
  have l1 : (rounds n [x]).length = n := by rw [rounds_len]; simp
  have l2 : (rounds m [y]).length = m := by rw [rounds_len]; simp
  have hA := D_A (rounds n [x]) (rounds m [y])
  by_cases e : x = y
  · subst e
    rw [if_pos rfl]
    have g := hA.lens
    rw [l1, l2] at g
    refine Nat.le_antisymm ?_ (by omega)
    rcases Nat.le_total n m with h | h
    · have z := (A.refl (rounds n [x])).append (A.adds (rounds (m - n) [x]))
      rw [List.append_nil, ← rounds_add, show n + (m - n) = m by omega] at z
      have := D_le z
      rw [rounds_len] at this
      simp at this; omega
    · have z := (A.refl (rounds m [x])).append (A.drops (rounds (n - m) [x]))
      rw [List.append_nil, ← rounds_add, show m + (n - m) = n by omega] at z
      have := D_le z
      rw [rounds_len] at this
      simp at this; omega
  · rw [if_neg e]
    have g := hA.apart fun a ha hb => e ((mem_rounds ha).symm.trans (mem_rounds hb))
    have k := D_le_max (rounds n [x]) (rounds m [y])
    rw [l1, l2] at g k
    omega
end
end Lev

set_option Elab.async false
set_option linter.all false
set_option maxRecDepth 100000
set_option maxHeartbeats 8000000
namespace My
open PySem PySem.Spec PyProof.Rows L2
section
variable {P : Program} {w : World} {K : PySem.W.Frag} {mg : Str → Option Value} {base : Heap}
def spLong : Sp := fun vs H Q _ => ∃ (p : Addr) (n : Nat), vs = [.ref p] ∧ BoxAt H p n ∧ n < 1000000 ∧ ∀ H', Kp p H H' → BoxAt H' p (n + 40) → Q (.bl true) H'
theorem ok_law_long_right (T : Txt K mg) : FnG P w K mg base CX0 7 T.f_law_long_right T.fd_law_long_right ["box"] spLong := by
  refine T.F_law_long_right.okG sc_law_long_right (fun vs H Q E h => ?_) (fun cdv A outer s H vs Q E hgd hr h => ?_)
  · obtain ⟨p, n, rfl, _⟩ := h; rfl
  · obtain ⟨p, n, rfl, hb, hn, q⟩ := h
    have hun := un64 hr
    have two : 2 ≤ sizeLine := by decide
    have three' : 3 ≤ sizeLine := by decide
    refine ⟨_, (pss_cons (ps_set (i := 1) sc_law_long_right.nd rfl (Or.inl rfl) (pe_ix ix_list (pe_lst (pa_cons pe_int (pa_cons (pe_call (ok_law_take T) (hr.mono (by decide)) rfl T.g_law_take T.F_law_take.kp T.b_law_take .nil pass0 (pa_cons (pv 0) (pa_cons pe_int pa_nil))) (pa_cons (pe_op op_add pe_int (pe_call (ok_law_take T) (hr.mono (by decide)) rfl T.g_law_take T.F_law_take.kp T.b_law_take .nil pass0 (pa_cons (pv 0) (pa_cons pe_int pa_nil)))) pa_nil)))) (pe_call (ok_law_take T) (hr.mono (by decide)) rfl T.g_law_take T.F_law_take.kp T.b_law_take .nil pass0 (pa_cons (pv 0) (pa_cons pe_int pa_nil))) (fun _ _ => rfl)))
      (pss_cons (ps_set (i := 2) sc_law_long_right.nd rfl (Or.inl rfl) (pe_call (ok_law_take T) (hr.mono (by decide)) rfl T.g_law_take T.F_law_take.kp T.b_law_take .nil pass0 (pa_cons (pv 0) (pa_cons (pe_op op_add (pe_callB (call_min2 rfl) (by rfl) T.z_min (by decide +kernel) (pa_cons pe_int (pa_cons (pe_op op_fdiv pe_int (pe_op op_add (pv 1) pe_int)) pa_nil))) pe_int) pa_nil))))
      (pss_cons (ps_asg (pe_ix ix_list (pe_lst (pa_cons pe_str (pa_cons pe_str (pa_cons pe_str pa_nil)))) (pe_call (ok_law_take T) (hr.mono (by decide)) rfl T.g_law_take T.F_law_take.kp T.b_law_take .nil pass0 (pa_cons (pv 0) (pa_cons pe_int pa_nil))) (fun _ _ => rfl)) (pg_str2 rfl (pgs_cons (pg_name (i := 3) sc_law_long_right.nd rfl (Or.inl rfl)) (pgs_cons (pg_name (i := 4) sc_law_long_right.nd rfl (Or.inl rfl)) pgs_nil))))
      (pss_cons (ps_asg (pe_ix ix_list (pe_lst (pa_cons (pe_lst (pa_cons (pe_op op_mul_str (pv 3) (pv 1)) (pa_cons (pe_op op_mul_str (pv 4) (pv 2)) pa_nil))) (pa_cons (pe_lst (pa_cons (pe_op op_mul_str (pv 4) (pv 2)) (pa_cons (pe_op op_mul_str (pv 3) (pv 1)) pa_nil))) pa_nil))) (pe_call (ok_law_take T) (hr.mono (by decide)) rfl T.g_law_take T.F_law_take.kp T.b_law_take .nil pass0 (pa_cons (pv 0) (pa_cons pe_int pa_nil))) (fun _ _ => rfl)) (pg_lst rfl (pgs_cons (pg_name (i := 5) sc_law_long_right.nd rfl (Or.inl rfl)) (pgs_cons (pg_name (i := 6) sc_law_long_right.nd rfl (Or.inl rfl)) pgs_nil))))
      (pss_cons (ps_set (i := 7) sc_law_long_right.nd rfl (Or.inl rfl) (pe_ifExp (pt_cmpR op_ne (pv 3) (pv 4) (nomark _)) (pe_callB (call_max2 rfl) (by rfl) T.z_max (by decide +kernel) (pa_cons (pv 1) (pa_cons (pv 2) pa_nil))) (pe_callB call_abs (by rfl) T.z_abs (by decide +kernel) (pa_cons (pe_op op_sub (pv 1) (pv 2)) pa_nil))))
      (pss_cons (ps_for PassesOwn.never rfl (pi_list (pe_lst (pa_cons (pv 7) (pa_cons (pe_callB (call_max2 rfl) (by rfl) T.z_max (by decide +kernel) (pa_cons pe_int (pa_cons (pe_op op_sub (pv 7) pe_int) pa_nil))) (pa_cons (pe_call (ok_law_take T) (hr.mono (by decide)) rfl T.g_law_take T.F_law_take.kp T.b_law_take .nil pass0 (pa_cons (pv 0) (pa_cons pe_int pa_nil))) pa_nil))))) (pg_name (i := 8) sc_law_long_right.nd rfl (Or.inl rfl)) (pss_one (ps_if (pt_cmpR op_ne (pe_callB (call_repr hgd hun) (by rfl) T.z_repr (by decide +kernel) (pa_cons (pe_call (ok_law_met T) (hr.mono (by decide)) rfl T.g_law_met T.F_law_met.kp T.b_law_met .nil pass0 (pa_cons (pe_op op_add pe_int (pe_call (ok_law_take T) (hr.mono (by decide)) rfl T.g_law_take T.F_law_take.kp T.b_law_take .nil pass0 (pa_cons (pv 0) (pa_cons pe_int pa_nil)))) (pa_cons (pv 5) (pa_cons (pv 6) (pa_cons (pv 8) pa_nil))))) pa_nil)) (pe_callB (call_repr hgd hun) (by rfl) T.z_repr (by decide +kernel) (pa_cons (pe_lst (pa_cons pe_str (pa_cons (pe_ifExp (pt_cmpR op_le (pv 7) (pv 8) (nomark _)) (pv 7) pe_non) pa_nil))) pa_nil)) (nomark _)) (pss_one (ps_ret pe_bl)) pss_nil)))
      (pss_one (ps_ret (pe_cmpR op_eq (pe_callB (call_repr hgd hun) (by rfl) T.z_repr (by decide +kernel) (pa_cons (pe_call (ok_law_met T) (hr.mono (by decide)) rfl T.g_law_met T.F_law_met.kp T.b_law_met .nil pass0 (pa_cons (pe_call (ok_law_take T) (hr.mono (by decide)) rfl T.g_law_take T.F_law_take.kp T.b_law_take .nil pass0 (pa_cons (pv 0) (pa_cons pe_int pa_nil))) (pa_cons (pv 5) (pa_cons (pv 6) (pa_cons pe_int pa_nil))))) pa_nil)) (pe_callB (call_repr hgd hun) (by rfl) T.z_repr (by decide +kernel) (pa_cons (pe_lst (pa_cons pe_str (pa_cons (pv 7) pa_nil))) pa_nil)) (nomark _)))))))))), ?_⟩
    -- n
    refine ⟨_, rfl, p, n, 401, rfl, hb, by omega, by omega, by omega, fun d1 o1 hd1 ho1 => ?_⟩
    refine ⟨_, rfl, p, _, 50, rfl, ho1.at, by omega, by omega, by omega, fun d2 o2 hd2 ho2 => ?_⟩
    refine ⟨_, _, rfl, rfl, three', fun q1 hq1 => ?_⟩
    have b2 : BoxAt (upd (upd H p o1) p o2) p (n + 2) := ho2.at
    have k2 : Kp p H (upd (upd H p o1) p o2) := ((Kp.refl p H).upd).upd
    generalize upd (upd H p o1) p o2 = H2 at b2 k2 hq1
    have np1 : p ≠ q1 := b2.ne hq1
    refine ⟨_, rfl, p, _, 3, rfl, b2.new hq1, by omega, by omega, by omega, fun d3 o3 hd3 ho3 => ?_⟩
    obtain ⟨N, hN, eN⟩ : ∃ N : Nat, N ≤ 400 ∧ [V.int 400, .int d1, .int (41 + (d2 : Int))][d3]? = some (.int N) := by
      have h3 : d3 < 3 := by omega
      match d3, h3 with
      | 0, _ => exact ⟨400, by omega, rfl⟩
      | 1, _ => exact ⟨d1, by omega, rfl⟩
      | 2, _ => exact ⟨41 + d2, by omega, congrArg (fun z => some (V.int z)) (by omega : (41 : Int) + (d2 : Int) = ((41 + d2 : Nat) : Int))⟩
    refine ⟨q1, _, _, _, rfl, rfl, SqL.of (by rw [upd_ne np1.symm]; exact upd_same), atI_nat (j := d3) eN, ?_⟩
    have b3 : BoxAt (upd (upd H2 q1 (.lst [V.int 400, .int d1, .int (41 + (d2 : Int))])) p o3) p (n + 3) := ho3.at
    have k3 : Kp p H (upd (upd H2 q1 (.lst [V.int 400, .int d1, .int (41 + (d2 : Int))])) p o3) := (k2.new hq1).upd
    generalize upd (upd H2 q1 (.lst [V.int 400, .int d1, .int (41 + (d2 : Int))])) p o3 = H3 at b3 k3
    -- m
    have e0 : (0 : Int) ≤ 6000 / ((N : Int) + 1) := Int.ediv_nonneg (by omega) (by omega)
    refine ⟨_, rfl, _, rfl, _, _, rfl, rfl, _, _, rfl, rfl, ?_, _, _, rfl, _, _, rfl, rfl, p, _, _, rfl, b3, by omega, ?_, ?_, fun M oM hM hoM => ?_⟩
    · exact ⟨by omega, by omega⟩
    · split <;> omega
    · split <;> omega
    have hM4 : M ≤ 400 := by
      split at hM <;> omega
    have b4 : BoxAt (upd H3 p oM) p (n + 4) := hoM.at
    have k4 : Kp p H (upd H3 p oM) := k3.upd
    generalize upd H3 p oM = H4 at b4 k4
    -- the letters
    refine ⟨three', fun q2 hq2 => ?_⟩
    have np2 : p ≠ q2 := b4.ne hq2
    refine ⟨_, rfl, p, _, 3, rfl, b4.new hq2, by omega, by omega, by omega, fun d5 o5 hd5 ho5 => ?_⟩
    obtain ⟨a, b, la, lb, eab⟩ : ∃ a b : Nat, low a = true ∧ low b = true ∧ [V.str (Str.ofString "ab"), .str (Str.ofString "aa"), .str (Str.ofString "qz")][d5]? = some (.str (S [a, b])) := by
      have h3 : d5 < 3 := by omega
      match d5, h3 with
      | 0, _ => exact ⟨97, 98, by decide, by decide, congrArg (fun z => some (V.str z)) (by decide +kernel)⟩
      | 1, _ => exact ⟨97, 97, by decide, by decide, congrArg (fun z => some (V.str z)) (by decide +kernel)⟩
      | 2, _ => exact ⟨113, 122, by decide, by decide, congrArg (fun z => some (V.str z)) (by decide +kernel)⟩
    refine ⟨q2, _, _, _, rfl, rfl, SqL.of (by rw [upd_ne np2.symm]; exact upd_same), atI_nat (j := d5) eab, ?_⟩
    have b5 : BoxAt (upd (upd H4 q2 (.lst [V.str (Str.ofString "ab"), .str (Str.ofString "aa"), .str (Str.ofString "qz")])) p o5) p (n + 5) := ho5.at
    have k5 : Kp p H (upd (upd H4 q2 (.lst [V.str (Str.ofString "ab"), .str (Str.ofString "aa"), .str (Str.ofString "qz")])) p o5) := (k4.new hq2).upd
    generalize upd (upd H4 q2 (.lst [V.str (Str.ofString "ab"), .str (Str.ofString "aa"), .str (Str.ofString "qz")])) p o5 = H5 at b5 k5
    have la1 := (Low.one la).lt a (by simp)
    have lb1 := (Low.one lb).lt b (by simp)
    have la2 : a < 128 := by
      have := la; unfold low at this; simp only [Bool.and_eq_true, decide_eq_true_eq] at this; omega
    have lb2 : b < 128 := by
      have := lb; unfold low at this; simp only [Bool.and_eq_true, decide_eq_true_eq] at this; omega
    refine ⟨a, b, rfl, la2, lb2, _, _, rfl, _, _, rfl, rfl, ?_⟩
    -- the two texts
    have mN : MulOk (S [a]) (N : Int) := mulOk_S (by simp) (by omega)
    have mM : MulOk (S [b]) (M : Int) := mulOk_S (by simp) (by omega)
    refine ⟨_, rfl, _, rfl, _, _, rfl, rfl, mN, _, rfl, _, rfl, _, _, rfl, rfl, mM, two, fun q3 hq3 => ?_⟩
    refine ⟨_, rfl, _, rfl, _, _, rfl, rfl, mM, _, rfl, _, rfl, _, _, rfl, rfl, mN, two, fun q4 hq4 => ?_⟩
    refine ⟨two, fun q5 hq5 => ?_⟩
    rw [mul_S, mul_S] at hq4 hq5
    rw [mul_S, mul_S]
    have n34 : q3 ≠ q4 := ne_of_none upd_same hq4
    have n35 : q3 ≠ q5 := ne_of_none (by rw [upd_ne n34]; exact upd_same) hq5
    have n45 : q4 ≠ q5 := ne_of_none upd_same hq5
    have b6 := ((b5.new hq3 (o := .lst [.str (S (Lev.rounds N [a])), .str (S (Lev.rounds M [b]))])).new hq4 (o := .lst [.str (S (Lev.rounds M [b])), .str (S (Lev.rounds N [a]))])).new hq5 (o := .lst [.ref q3, .ref q4])
    have k6 := ((k5.new hq3 (o := .lst [.str (S (Lev.rounds N [a])), .str (S (Lev.rounds M [b]))])).new hq4 (o := .lst [.str (S (Lev.rounds M [b])), .str (S (Lev.rounds N [a]))])).new hq5 (o := .lst [.ref q3, .ref q4])
    have np3 : p ≠ q3 := b5.ne hq3
    have np4 : p ≠ q4 := (b5.new hq3).ne hq4
    have np5 : p ≠ q5 := ((b5.new hq3).new hq4).ne hq5
    have e5 : (upd (upd (upd H5 q3 (.lst [.str (S (Lev.rounds N [a])), .str (S (Lev.rounds M [b]))])) q4 (.lst [.str (S (Lev.rounds M [b])), .str (S (Lev.rounds N [a]))])) q5 (.lst [.ref q3, .ref q4])) q5 = some (.lst [.ref q3, .ref q4]) := upd_same
    have e4 : (upd (upd (upd H5 q3 (.lst [.str (S (Lev.rounds N [a])), .str (S (Lev.rounds M [b]))])) q4 (.lst [.str (S (Lev.rounds M [b])), .str (S (Lev.rounds N [a]))])) q5 (.lst [.ref q3, .ref q4])) q4 = some (.lst [.str (S (Lev.rounds M [b])), .str (S (Lev.rounds N [a]))]) := by
      rw [upd_ne n45]; exact upd_same
    have e3 : (upd (upd (upd H5 q3 (.lst [.str (S (Lev.rounds N [a])), .str (S (Lev.rounds M [b]))])) q4 (.lst [.str (S (Lev.rounds M [b])), .str (S (Lev.rounds N [a]))])) q5 (.lst [.ref q3, .ref q4])) q3 = some (.lst [.str (S (Lev.rounds N [a])), .str (S (Lev.rounds M [b]))]) := by
      rw [upd_ne n35, upd_ne n34]; exact upd_same
    generalize upd (upd (upd H5 q3 (.lst [.str (S (Lev.rounds N [a])), .str (S (Lev.rounds M [b]))])) q4 (.lst [.str (S (Lev.rounds M [b])), .str (S (Lev.rounds N [a]))])) q5 (.lst [.ref q3, .ref q4]) = H6 at b6 k6 e3 e4 e5
    refine ⟨_, rfl, p, _, 2, rfl, b6, by omega, by omega, by omega, fun d6 o6 hd6 ho6 => ?_⟩
    have b7 : BoxAt (upd H6 p o6) p (n + 6) := ho6.at
    have k7 : Kp p H (upd H6 p o6) := k6.upd
    have e5' : (upd H6 p o6) q5 = some (.lst [.ref q3, .ref q4]) := by rw [upd_ne np5.symm]; exact e5
    have e4' : (upd H6 p o6) q4 = some (.lst [.str (S (Lev.rounds M [b])), .str (S (Lev.rounds N [a]))]) := by rw [upd_ne np4.symm]; exact e4
    have e3' : (upd H6 p o6) q3 = some (.lst [.str (S (Lev.rounds N [a])), .str (S (Lev.rounds M [b]))]) := by rw [upd_ne np3.symm]; exact e3
    generalize upd H6 p o6 = H7 at b7 k7 e3' e4' e5'
    have lN : (Lev.rounds N [a]).length = N := by rw [Lev.rounds_len]; simp
    have lM : (Lev.rounds M [b]).length = M := by rw [Lev.rounds_len]; simp
    have rlow : ∀ (x k : Nat), low x = true → Low (Lev.rounds k [x]) := fun x k h c hc => by rw [Lev.mem_rounds hc]; exact h
    obtain ⟨due, hdue⟩ : ∃ due : Nat, due = if a = b then (N - M) + (M - N) else max N M := ⟨_, rfl⟩
    have bdue : due ≤ 400 := by rw [hdue]; split <;> omega
    obtain ⟨qq, u1, u2, eq6, ec, hD, l1, l2, z1, z2⟩ : ∃ (qq : Addr) (u1 u2 : List Nat), [V.ref q3, .ref q4][d6]? = some (.ref qq) ∧ H7 qq = some (.lst [.str (S u1), .str (S u2)]) ∧ Lev.D u1 u2 = due ∧ Low u1 ∧ Low u2 ∧ u1.length ≤ 400 ∧ u2.length ≤ 400 := by
      have h2 : d6 < 2 := by omega
      match d6, h2 with
      | 0, _ => exact ⟨q3, _, _, rfl, e3', by rw [Lev.D_rounds1, hdue], rlow _ _ la, rlow _ _ lb, by omega, by omega⟩
      | 1, _ => exact ⟨q4, _, _, rfl, e4', by rw [Lev.D_symm, Lev.D_rounds1, hdue], rlow _ _ lb, rlow _ _ la, by omega, by omega⟩
    refine ⟨q5, _, _, _, rfl, rfl, SqL.of e5', atI_nat (j := d6) eq6, ?_⟩
    refine ⟨qq, _, rfl, SqL.of ec, rfl, _, _, rfl, _, _, rfl, rfl, ?_⟩
    have g1 : u1.length ≤ 1000 := Nat.le_trans z1 (by omega)
    have g2 : u2.length ≤ 1000 := Nat.le_trans z2 (by omega)
    clear e3 e4 e5 e3' e4' e5' b6 k6
    -- due
    refine through2 (t := tIf (tTest (tOp rNe (tVar 3) (tVar 4))) (tCB (fun xs H Q => ∃ i j, xs = [V.int i, V.int j] ∧ Q (V.int (if j > i then j else i)) H) (tCons (tVar 1) (tCons (tVar 2) tNil)))
      (tCB (fun xs H Q => ∃ i, xs = [V.int i] ∧ Q (V.int (if i < 0 then -i else i)) H) (tCons (tOp (rI0 fun i j => V.int (i - j)) (tVar 1) (tVar 2)) tNil))) (fun x H' => x = .int due ∧ H' = H7) (fun Q' rest => ?_) ?_
    · refine ⟨_, rfl, _, rfl, rfl, _, rfl, ?_⟩
      by_cases e : a = b
      · subst e
        rw [if_pos rfl] at hdue
        refine neSame ?_
        refine ⟨_, rfl, _, rfl, _, _, rfl, rfl, _, rfl, rest _ _ ⟨congrArg V.int ?_, rfl⟩⟩
        split <;> omega
      · rw [if_neg e] at hdue
        rw [decide_eq_false (fun z => e (List.head_eq_of_cons_eq (S_inj (V.str.inj z))))]
        refine iteT ⟨_, rfl, _, rfl, _, _, rfl, rest _ _ ⟨congrArg V.int ?_, rfl⟩⟩
        split <;> omega
    rintro x H7' ⟨rfl, rfl⟩
    have hsh := sh_dT (r := due) (by omega)
    have nn : ∀ {A : Prop}, (true = false) → A := fun z => by cases z
    have jc : ∀ (k : Nat) H', Jc K H' (.int (k : Int)) true := fun k _ => .inl ⟨_, rfl, (decide_eq_true (by omega)).symm⟩
    refine ⟨_, rfl, _, rfl, _, _, rfl, rfl, _, _, rfl, _, rfl, p, _, 401, rfl, b7, by omega, by omega, by omega, fun d8 o8 hd8 ho8 => ?_⟩
    have b8 : BoxAt (upd H7' p o8) p (n + 7) := ho8.at
    have k8 : Kp p H (upd H7' p o8) := k7.upd
    generalize upd H7' p o8 = H8 at b8 k8
    refine ⟨three', fun q6 hq6 => ?_⟩
    have np6 : p ≠ q6 := b8.ne hq6
    refine ⟨q6, rfl, ⟨_, SqL.of upd_same⟩, ?_⟩
    have b9 := b8.new hq6 (o := .lst [.int due, .int (if (due : Int) - 1 > 0 then (due : Int) - 1 else 0), .int d8])
    have k9 := k8.new hq6 (o := .lst [.int due, .int (if (due : Int) - 1 > 0 then (due : Int) - 1 else 0), .int d8])
    have e9 : (upd H8 q6 (.lst [.int due, .int (if (due : Int) - 1 > 0 then (due : Int) - 1 else 0), .int d8])) q6 = some (.lst [.int due, .int (if (due : Int) - 1 > 0 then (due : Int) - 1 else 0), .int d8]) := upd_same
    generalize upd H8 q6 (.lst [.int due, .int (if (due : Int) - 1 > 0 then (due : Int) - 1 else 0), .int d8]) = H9 at b9 k9 e9
    refine for_list (K := K) (a := q6) (xs := [.int due, .int (if (due : Int) - 1 > 0 then (due : Int) - 1 else 0), .int d8])
      (fun j σ H' => ∃ x8, σ = [some (.ref p), some (.int N), some (.int M), some (.str (S [a])), some (.str (S [b])), some (.str (S u1)), some (.str (S u2)), some (.int due), x8] ∧ Kp p H9 H' ∧ BoxAt H' p (n + 7 + j)) ⟨_, rfl, Kp.refl p H9, b9⟩ ?_ ?_ ?_
    · rintro j σ H' _ ⟨_, _, kH, _⟩
      exact SqL.of (kH _ _ np6.symm e9)
    · rintro j z σ Ha hz ⟨x8, rfl, ka, ba⟩
      obtain ⟨k, rfl, hk, hj⟩ : ∃ k : Nat, z = .int k ∧ k ≤ 1000 ∧ j < 3 := by
        match j, hz with
        | 0, hz => exact ⟨_, (Option.some.inj hz).symm, by omega, by omega⟩
        | 1, hz =>
          refine ⟨due - 1, (Option.some.inj hz).symm.trans (congrArg V.int ?_), by omega, by omega⟩
          split <;> omega
        | 2, hz => exact ⟨d8, (Option.some.inj hz).symm, by omega, by omega⟩
        | j + 3, hz => simp at hz
      have hw : Sh (dW due k) := sh_dW (by omega)
      refine ⟨_, rfl, p, _, 2, rfl, ba, by omega, by omega, by omega, fun d9 o9 hd9 ho9 => ?_⟩
      have bb : BoxAt (upd Ha p o9) p (n + 7 + (j + 1)) := ho9.at
      have kb : Kp p H9 (upd Ha p o9) := ka.upd
      generalize upd Ha p o9 = Hb at bb kb
      have cda : ((2 : Int) + (d9 : Int) = 0 ∨ (2 : Int) + (d9 : Int) = 1 ∨ (2 : Int) + (d9 : Int) = 2 ∨ (2 : Int) + (d9 : Int) = 3) := by omega
      refine ⟨_, _, rfl, rfl, _, rfl, _, rfl, _, rfl, (2 : Int) + d9, .str (S u1), .str (S u2), .int k, true, true, true, rfl, cda, jd_low l1, jd_low l2, fun H' _ => jc k H', nn, fun _ => nn, fun _ _ => nn, fun _ _ => ⟨u1, u2, rfl, rfl, g1, g2, fun l => by omega, fun _ _ => ⟨k, rfl, by omega, fun qb Hc sc hqb => ?_⟩⟩⟩
      rw [hD]
      refine ⟨_, dW due k, rfl, dr_dW, hw.1, hw.2.1, hw.2.2, ?_⟩
      refine through2 (t := tIf (tTest (tOp (rI0 fun i j => .bl (decide (i ≤ j))) (tVar 7) (tVar 8))) (tVar 7) (tC .non)) (fun x H' => x = vW due k ∧ H' = upd Hc qb (.lst [.str "told", if (due : Int) ≤ (k : Int) then .int due else .non])) (fun Q' rest => ?_) ?_
      · refine ⟨_, rfl, _, rfl, _, _, rfl, rfl, _, rfl, ite2 (fun c => ?_) (fun c => ?_)⟩
        · exact ⟨_, rfl, rest _ _ ⟨by unfold vW; rw [if_pos (of_decide_eq_true c)], rfl⟩⟩
        · exact rest _ _ ⟨by unfold vW; rw [if_neg (fun z => c (decide_eq_true z))], rfl⟩
      rintro x Hd ⟨rfl, rfl⟩
      refine ⟨two, fun qd hqd => ?_⟩
      refine ⟨_, dW due k, rfl, dr_dW, hw.1, hw.2.1, hw.2.2, rfl, _, rfl, neSame ?_⟩
      exact ⟨_, rfl, ((kb.trans (Kp.of sc)).new hqb).new hqd, ((bb.same sc).new hqb).new hqd⟩
    · rintro σ Ha ⟨x8, rfl, ka, ba⟩
      refine ⟨_, rfl, p, _, 2, rfl, ba, by simp; omega, by omega, by omega, fun d9 o9 hd9 ho9 => ?_⟩
      have bb : BoxAt (upd Ha p o9) p (n + 20) := ho9.at.mono (by simp)
      have kb : Kp p H9 (upd Ha p o9) := ka.upd
      generalize upd Ha p o9 = Hb at bb kb
      have cda : ((d9 : Int) = 0 ∨ (d9 : Int) = 1 ∨ (d9 : Int) = 2 ∨ (d9 : Int) = 3) := by omega
      refine ⟨_, rfl, _, rfl, (d9 : Int), .str (S u1), .str (S u2), .int 0, true, true, true, rfl, cda, jd_low l1, jd_low l2, fun H' _ => jc 0 H', nn, fun _ => nn, fun _ _ => nn, fun _ _ => ⟨u1, u2, rfl, rfl, g1, g2, fun _ qb Hc sc hqb => ?_, fun l => by omega⟩⟩
      rw [hD]
      refine ⟨_, dT due, rfl, dr_dT, hsh.1, hsh.2.1, hsh.2.2, _, rfl, two, fun qd hqd => ?_⟩
      refine ⟨_, dT due, rfl, dr_dT, hsh.1, hsh.2.1, hsh.2.2, rfl, ?_⟩
      rw [decide_eq_true rfl]
      exact q _ ((((k9.trans kb).trans (Kp.of sc)).new hqb).new hqd) ((((bb.same sc).new hqb).new hqd).mono (by omega))
end
end My

set_option Elab.async false
set_option linter.all false
set_option maxRecDepth 100000
set_option maxHeartbeats 8000000
namespace My
open PySem PySem.Spec PyProof.Rows L2
theorem Kp.toSame {p : Addr} {H H1 H2 : Hp} (k : Kp p H1 H2) (s : Same H H1) (h : H p = none) : Same H H2 := fun b o e => k b o (ne_of_none e h) (s b o e)
section
variable {P : Program} {w : World} {K : PySem.W.Frag} {mg : Str → Option Value} {base : Heap}
def spLaw (K : PySem.W.Frag) : Sp := fun vs H Q _ => ∃ (a : Addr) (ns : List Int), vs = [.ref a] ∧ SqL K H a (ns.map V.int) ∧ ns.length ≤ 63 ∧ ∀ H', Q (.bl true) H'
theorem ok_law (T : Txt K mg) : FnG P w K mg base CX0 9 T.f_law T.fd_law ["script"] (spLaw K) := by
  refine T.F_law.okG sc_law (fun vs H Q E h => ?_) (fun cdv A outer s H vs Q E hgd hr h => ?_)
  · obtain ⟨a, ns, rfl, _⟩ := h; rfl
  · obtain ⟨a, ns, rfl, hS, hlen, q⟩ := h
    refine ⟨_, (pss_cons (ps_for PassesOwn.never rfl (pi_range1 rfl T.z_range (pa_cons (pe_callB (call_max2 rfl) (by rfl) T.z_max (by decide +kernel) (pa_cons pe_int (pa_cons (pe_callB (call_min2 rfl) (by rfl) T.z_min (by decide +kernel) (pa_cons pe_int (pa_cons (pe_callB call_len_seq (by rfl) T.z_len (by decide +kernel) (pa_cons (pv 0) pa_nil)) pa_nil))) pa_nil))) pa_nil)) (pg_name (i := 1) sc_law.nd rfl (Or.inl rfl)) (pss_cons (ps_set (i := 2) sc_law.nd rfl (Or.inl rfl) (pe_call (ok_law_box T) (hr.mono (by decide)) rfl T.g_law_box T.F_law_box.kp T.b_law_box .nil pass0 (pa_cons (pe_call (ok_law_cell T) (hr.mono (by decide)) rfl T.g_law_cell T.F_law_cell.kp T.b_law_cell .nil pass0 (pa_cons (pv 0) (pa_cons (pv 1) pa_nil))) pa_nil)))
      (pss_cons (ps_asg (pe_call (ok_law_texts T) (hr.mono (by decide)) rfl T.g_law_texts T.F_law_texts.kp T.b_law_texts .nil pass0 (pa_cons (pv 2) pa_nil)) (pg_lst rfl (pgs_cons (pg_name (i := 3) sc_law.nd rfl (Or.inl rfl)) (pgs_cons (pg_name (i := 4) sc_law.nd rfl (Or.inl rfl)) pgs_nil))))
      (pss_cons (ps_if (PW.pt (pw_or (pt_not (pt_val (pe_callG (ok_law_right T) hgd (hr.mono (by decide)) rfl T.g_law_right T.F_law_right.kp T.b_law_right .nil pass0 (pa_cons (pv 2) (pa_cons (pv 3) (pa_cons (pv 4) pa_nil)))))) (pw_or1 (pt_not (pt_val (pe_callG (ok_law_refused_right T) hgd (hr.mono (by decide)) rfl T.g_law_refused_right T.F_law_refused_right.kp T.b_law_refused_right .nil pass0 (pa_cons (pv 2) (pa_cons (pv 3) (pa_cons (pv 4) pa_nil))))))))) (pss_one (ps_ret pe_bl)) pss_nil)
      (pss_one (ps_if (PW.pt (pw_and (pt_cmpR op_eq (pv 1) pe_int (nomark _)) (pw_and1 (pt_not (pt_val (pe_callG (ok_law_long_right T) hgd (hr.mono (by decide)) rfl T.g_law_long_right T.F_law_long_right.kp T.b_law_long_right .nil pass0 (pa_cons (pv 2) pa_nil))))))) (pss_one (ps_ret pe_bl)) pss_nil))))))
      (pss_one (ps_ret pe_bl))), ?_⟩
    refine ⟨_, rfl, a, _, rfl, .inl hS, _, _, rfl, _, _, rfl, _, rfl, ?_, ?_, ?_⟩
    · split <;> split <;> omega
    · split <;> split <;> omega
    refine for_range (lo := 0) (fun i σ H' => ∃ x1 x2 x3 x4, σ = [some (.ref a), x1, x2, x3, x4] ∧ Same H H') ⟨_, _, _, _, rfl, Same.refl _⟩ ?_ ?_
    · rintro i σ H' hi ⟨x1, x2, x3, x4, rfl, sH⟩
      rw [Int.zero_add]
      refine ⟨_, rfl, _, rfl, a, ns, i, rfl, hS.ext sH, fun c H1 s1 => ?_⟩
      refine ⟨c, rfl, fun p o hp ho => ?_⟩
      have sH1 := sH.trans s1
      have hpH : H p = none := sH1.free hp
      have s2 : Same H (upd H1 p o) := Same.new sH1 hp
      refine ⟨_, rfl, p, 0, rfl, ho.at, by omega, fun t u q1 H2 lt lu bt bu k2 b2 hq1 => ?_⟩
      have k3 := k2.new hq1 (o := .lst [.str (S t), .str (S u)])
      have b3 := b2.new hq1 (o := .lst [.str (S t), .str (S u)])
      refine ⟨q1, _, rfl, SqL.of upd_same, rfl, _, _, rfl, _, _, rfl, rfl, ?_⟩
      refine ⟨_, rfl, _, rfl, _, rfl, p, _, t, u, rfl, b3, by omega, lt, lu, by omega, by omega, fun H4 k4 b4 => ?_⟩
      refine ⟨true, rfl, iteF ?_⟩
      refine ⟨_, rfl, _, rfl, _, rfl, p, _, t, u, rfl, b4, by omega, lt, lu, by omega, by omega, fun H5 k5 b5 => ?_⟩
      refine ⟨true, rfl, iteF ?_⟩
      refine ⟨_, rfl, rfl, _, rfl, ite2 (fun _ => ?_) (fun _ => iteF ?_)⟩
      · refine ⟨_, rfl, p, _, rfl, b5, by omega, fun H6 k6 b6 => ?_⟩
        exact ⟨true, rfl, iteF ⟨_, _, _, _, rfl, (((k3.trans k4).trans k5).trans k6).toSame s2 hpH⟩⟩
      · exact ⟨_, _, _, _, rfl, ((k3.trans k4).trans k5).toSame s2 hpH⟩
    · rintro σ H' ⟨x1, x2, x3, x4, rfl, sH⟩
      exact q H'
end
end My

set_option Elab.async false
set_option linter.all false
set_option maxRecDepth 100000
set_option maxHeartbeats 8000000
namespace My
open PySem PySem.Spec PyProof.Rows L2
theorem exm_of {K : PySem.W.Frag} {S T : Addr} {b : Bool} (h1 : PySem.W.subIn K (.ref T) (.type "BaseException") = some true) (h2 : PySem.W.isClsIn K T = true) (h3 : PySem.W.typeIn K (.ref T) = some (.type "type")) (h4 : PySem.W.subIn K (.ref S) (.ref T) = some b) :
    PySem.W.exmOne K (.ref S) (.ref T) = some b := by
  have e1 : (PySem.W.subIn K (.ref T) (.type "BaseException") == some true) = true := by rw [h1] <;> rfl
  have e2 : ((PySem.W.clsIn K T).isSome && PySem.W.typeIn K (.ref T) == some (.type "type")) = true := by
    have h2' : (PySem.W.clsIn K T).isSome = true := h2
    rw [h2', h3] <;> rfl
  show (if (PySem.W.subIn K (.ref T) (.type "BaseException") == some true) = true then (if ((PySem.W.clsIn K T).isSome && PySem.W.typeIn K (.ref T) == some (.type "type")) = true then PySem.W.subIn K (.ref S) (.ref T) else none) else none) = some b
  rw [if_pos e1, if_pos e2]
  exact h4
theorem all_mk {P : Program} {w : World} {K : PySem.W.Frag} {h : Heap} {mg : Str → Option Value} {fa : Addr} (X : K.In h) (G : h.Ns mainGlobals mg) (hfa : mg "law" = some (.ref fa))
    {C0 I0 B0 : Addr} {nm0 q0 : Str} {N0 : Addr} {bs0 : List Value} {sn0 : List Str} {sub0 : List Value} {ab0 : Bool} {col0 : Option Bool} {dd0 : Option Addr} {m00 m10 m20 m30 m50 : Option Value}
    {ei0 en0 : Option Addr} {es0 : Array (Option Value)} {eo0 ed0 ep0 ec0 et0 : Value} {p10 p20 q10 q20 q30 q40 : Pos}
    {C1 I1 B1 : Addr} {nm1 q1 : Str} {N1 : Addr} {bs1 : List Value} {sn1 : List Str} {sub1 : List Value} {ab1 : Bool} {col1 : Option Bool} {dd1 : Option Addr} {m01 m11 m21 m31 m51 : Option Value}
    {ei1 en1 : Option Addr} {es1 : Array (Option Value)} {eo1 ed1 ep1 ec1 et1 : Value} {p11 p21 q11 q21 q31 q41 : Pos}
    {f0 : Addr} {od0 an0 : Option Addr} {sl0 : Array (Option Value)} {oc0 kV0 dc0 pm0 cd0 ct0 : Value}
    {f1 : Addr} {od1 an1 : Option Addr} {sl1 : Array (Option Value)} {oc1 kV1 dc1 pm1 cd1 ct1 : Value}
    {f2 : Addr} {od2 an2 : Option Addr} {sl2 : Array (Option Value)} {oc2 kV2 dc2 pm2 cd2 ct2 : Value}
    {f3 : Addr} {od3 an3 : Option Addr} {sl3 : Array (Option Value)} {oc3 kV3 dc3 pm3 cd3 ct3 : Value}
    {f4 : Addr} {od4 an4 : Option Addr} {sl4 : Array (Option Value)} {oc4 kV4 dc4 pm4 cd4 ct4 : Value}
    {f5 : Addr} {od5 an5 : Option Addr} {sl5 : Array (Option Value)} {oc5 kV5 dc5 pm5 cd5 ct5 : Value}
    {f6 : Addr} {od6 an6 : Option Addr} {sl6 : Array (Option Value)} {oc6 kV6 dc6 pm6 cd6 ct6 : Value}
    {f7 : Addr} {od7 an7 : Option Addr} {sl7 : Array (Option Value)} {oc7 kV7 dc7 pm7 cd7 ct7 : Value}
    {f8 : Addr} {od8 an8 : Option Addr} {sl8 : Array (Option Value)} {oc8 kV8 dc8 pm8 cd8 ct8 : Value}
    {f9 : Addr} {od9 an9 : Option Addr} {sl9 : Array (Option Value)} {oc9 kV9 dc9 pm9 cd9 ct9 : Value}
    {f10 : Addr} {od10 an10 : Option Addr} {sl10 : Array (Option Value)} {oc10 kV10 dc10 pm10 cd10 ct10 : Value}
    {f11 : Addr} {od11 an11 : Option Addr} {sl11 : Array (Option Value)} {oc11 kV11 dc11 pm11 cd11 ct11 : Value}
    {f12 : Addr} {od12 an12 : Option Addr} {sl12 : Array (Option Value)} {oc12 kV12 dc12 pm12 cd12 ct12 : Value}
    {f13 : Addr} {od13 an13 : Option Addr} {sl13 : Array (Option Value)} {oc13 kV13 dc13 pm13 cd13 ct13 : Value}
    {f14 : Addr} {od14 an14 : Option Addr} {sl14 : Array (Option Value)} {oc14 kV14 dc14 pm14 cd14 ct14 : Value}
    {f15 : Addr} {od15 an15 : Option Addr} {sl15 : Array (Option Value)} {oc15 kV15 dc15 pm15 cd15 ct15 : Value}
    {f16 : Addr} {od16 an16 : Option Addr} {sl16 : Array (Option Value)} {oc16 kV16 dc16 pm16 cd16 ct16 : Value}
    {f17 : Addr} {od17 an17 : Option Addr} {sl17 : Array (Option Value)} {oc17 kV17 dc17 pm17 cd17 ct17 : Value}
    {f18 : Addr} {od18 an18 : Option Addr} {sl18 : Array (Option Value)} {oc18 kV18 dc18 pm18 cd18 ct18 : Value}
    {f19 : Addr} {od19 an19 : Option Addr} {sl19 : Array (Option Value)} {oc19 kV19 dc19 pm19 cd19 ct19 : Value}
    {f20 : Addr} {od20 an20 : Option Addr} {sl20 : Array (Option Value)} {oc20 kV20 dc20 pm20 cd20 ct20 : Value}
    {f21 : Addr} {od21 an21 : Option Addr} {sl21 : Array (Option Value)} {oc21 kV21 dc21 pm21 cd21 ct21 : Value}
    {f22 : Addr} {od22 an22 : Option Addr} {sl22 : Array (Option Value)} {oc22 kV22 dc22 pm22 cd22 ct22 : Value}
    {f23 : Addr} {od23 an23 : Option Addr} {sl23 : Array (Option Value)} {oc23 kV23 dc23 pm23 cd23 ct23 : Value}
    {f24 : Addr} {od24 an24 : Option Addr} {sl24 : Array (Option Value)} {oc24 kV24 dc24 pm24 cd24 ct24 : Value}
    {f25 : Addr} {od25 an25 : Option Addr} {sl25 : Array (Option Value)} {oc25 kV25 dc25 pm25 cd25 ct25 : Value}
    {f26 : Addr} {od26 an26 : Option Addr} {sl26 : Array (Option Value)} {oc26 kV26 dc26 pm26 cd26 ct26 : Value}
    {f27 : Addr} {od27 an27 : Option Addr} {sl27 : Array (Option Value)} {oc27 kV27 dc27 pm27 cd27 ct27 : Value}
    {f28 : Addr} {od28 an28 : Option Addr} {sl28 : Array (Option Value)} {oc28 kV28 dc28 pm28 cd28 ct28 : Value}
    {f29 : Addr} {od29 an29 : Option Addr} {sl29 : Array (Option Value)} {oc29 kV29 dc29 pm29 cd29 ct29 : Value}
    {f30 : Addr} {od30 an30 : Option Addr} {sl30 : Array (Option Value)} {oc30 kV30 dc30 pm30 cd30 ct30 : Value}
    {f31 : Addr} {od31 an31 : Option Addr} {sl31 : Array (Option Value)} {oc31 kV31 dc31 pm31 cd31 ct31 : Value}
    {t_NOWHERE : Tok}
    {t_BLOCK : Tok}
    {t_LONG : Tok}
    {t_LETTERS : Tok}
    (eC0 : PySem.W.nsIn K mainGlobals "InvalidCount" = some (some (.ref C0)))
    (eL0 : K.lookup C0 = some (excClassObj nm0 q0 C0 N0 bs0 [.ref B0, .type "Exception", .type "BaseException", .type "object"] true sn0 sub0 ab0 col0 dd0 m00 m10 m20 m30 m50 "Exception.__new__"))
    (etk0 : PySem.W.takerIn K C0 "given" = some none)
    (esa0 : PySem.W.findIn K (.ref C0) "__setattr__" = some (some (.builtin "object.__setattr__")))
    (ega0 : PySem.W.findIn K (.ref C0) "__getattribute__" = some (some (.builtin "BaseException.__getattribute__")))
    (egg0 : PySem.W.findIn K (.ref C0) "__getattr__" = some none)
    (eno0 : PySem.W.findIn K (.ref C0) "given" = some none)
    (ein0 : PySem.W.findIn K (.ref C0) "__init__" = some (some (.ref I0)))
    (eti0 : PySem.W.typeIn K (.ref I0) = some (.type "function"))
    (ekC0 : PySem.W.keepIn K (.ref C0) = true)
    (eeC0 : PySem.W.subIn K (.ref C0) (.type "BaseException") = some true)
    (etC0 : PySem.W.typeIn K (.ref C0) = some (.type "type"))
    (ehC0 : PySem.W.hasDictIn K C0 = true)
    (eiC0 : PySem.W.isClsIn K C0 = true)
    (esC0 : PySem.W.subIn K (.ref C0) (.ref C0) = some true)
    (efn0 : K.lookup I0 = some ⟨eo0, ei0, .func (PySem.W.fnOf "__init__" "InvalidCount.__init__" (ErrX.iA p10 p20) (ErrX.iB q10 q20 q30 q40) ErrX.iS .none .none ed0 ep0 en0 ec0 et0), es0⟩)
    (eco0 : PySem.W.codeIn K ec0 "InvalidCount.__init__" = true)
    (eC1 : PySem.W.nsIn K mainGlobals "InvalidText" = some (some (.ref C1)))
    (eL1 : K.lookup C1 = some (excClassObj nm1 q1 C1 N1 bs1 [.ref B1, .type "Exception", .type "BaseException", .type "object"] true sn1 sub1 ab1 col1 dd1 m01 m11 m21 m31 m51 "Exception.__new__"))
    (etk1 : PySem.W.takerIn K C1 "given" = some none)
    (esa1 : PySem.W.findIn K (.ref C1) "__setattr__" = some (some (.builtin "object.__setattr__")))
    (ega1 : PySem.W.findIn K (.ref C1) "__getattribute__" = some (some (.builtin "BaseException.__getattribute__")))
    (egg1 : PySem.W.findIn K (.ref C1) "__getattr__" = some none)
    (eno1 : PySem.W.findIn K (.ref C1) "given" = some none)
    (ein1 : PySem.W.findIn K (.ref C1) "__init__" = some (some (.ref I1)))
    (eti1 : PySem.W.typeIn K (.ref I1) = some (.type "function"))
    (ekC1 : PySem.W.keepIn K (.ref C1) = true)
    (eeC1 : PySem.W.subIn K (.ref C1) (.type "BaseException") = some true)
    (etC1 : PySem.W.typeIn K (.ref C1) = some (.type "type"))
    (ehC1 : PySem.W.hasDictIn K C1 = true)
    (eiC1 : PySem.W.isClsIn K C1 = true)
    (esC1 : PySem.W.subIn K (.ref C1) (.ref C1) = some true)
    (efn1 : K.lookup I1 = some ⟨eo1, ei1, .func (PySem.W.fnOf "__init__" "InvalidText.__init__" (ErrX.iA p11 p21) (ErrX.iB q11 q21 q31 q41) ErrX.iS .none .none ed1 ep1 en1 ec1 et1), es1⟩)
    (eco1 : PySem.W.codeIn K ec1 "InvalidText.__init__" = true)
    (en_0_1 : PySem.W.subIn K (.ref C0) (.ref C1) = some false)
    (en_1_0 : PySem.W.subIn K (.ref C1) (.ref C0) = some false)
    (a0 : PySem.W.nsIn K mainGlobals "is_integer" = some (some (.ref f0)))
    (l0 : K.lookup f0 = some ⟨oc0, od0, .func (PySem.W.fnOf "is_integer" "is_integer" (defArgs s_is_integer) (defBody s_is_integer) (defScope s_is_integer) .none kV0 dc0 pm0 an0 cd0 ct0), sl0⟩)
    (c0 : PySem.W.codeIn K cd0 "is_integer" = true)
    (k0 : PySem.W.keepIn K (.ref f0) = true)
    (a1 : PySem.W.nsIn K mainGlobals "is_count" = some (some (.ref f1)))
    (l1 : K.lookup f1 = some ⟨oc1, od1, .func (PySem.W.fnOf "is_count" "is_count" (defArgs s_is_count) (defBody s_is_count) (defScope s_is_count) .none kV1 dc1 pm1 an1 cd1 ct1), sl1⟩)
    (c1 : PySem.W.codeIn K cd1 "is_count" = true)
    (k1 : PySem.W.keepIn K (.ref f1) = true)
    (a2 : PySem.W.nsIn K mainGlobals "is_text" = some (some (.ref f2)))
    (l2 : K.lookup f2 = some ⟨oc2, od2, .func (PySem.W.fnOf "is_text" "is_text" (defArgs s_is_text) (defBody s_is_text) (defScope s_is_text) .none kV2 dc2 pm2 an2 cd2 ct2), sl2⟩)
    (c2 : PySem.W.codeIn K cd2 "is_text" = true)
    (k2 : PySem.W.keepIn K (.ref f2) = true)
    (a3 : PySem.W.nsIn K mainGlobals "changes_between" = some (some (.ref f3)))
    (l3 : K.lookup f3 = some ⟨oc3, od3, .func (PySem.W.fnOf "changes_between" "changes_between" (defArgs s_changes_between) (defBody s_changes_between) (defScope s_changes_between) .none kV3 dc3 pm3 an3 cd3 ct3), sl3⟩)
    (c3 : PySem.W.codeIn K cd3 "changes_between" = true)
    (k3 : PySem.W.keepIn K (.ref f3) = true)
    (a4 : PySem.W.nsIn K mainGlobals "places_of" = some (some (.ref f4)))
    (l4 : K.lookup f4 = some ⟨oc4, od4, .func (PySem.W.fnOf "places_of" "places_of" (defArgs s_places_of) (defBody s_places_of) (defScope s_places_of) .none kV4 dc4 pm4 an4 cd4 ct4), sl4⟩)
    (c4 : PySem.W.codeIn K cd4 "places_of" = true)
    (k4 : PySem.W.keepIn K (.ref f4) = true)
    (a5 : PySem.W.nsIn K mainGlobals "column_behind" = some (some (.ref f5)))
    (l5 : K.lookup f5 = some ⟨oc5, od5, .func (PySem.W.fnOf "column_behind" "column_behind" (defArgs s_column_behind) (defBody s_column_behind) (defScope s_column_behind) .none kV5 dc5 pm5 an5 cd5 ct5), sl5⟩)
    (c5 : PySem.W.codeIn K cd5 "column_behind" = true)
    (k5 : PySem.W.keepIn K (.ref f5) = true)
    (a6 : PySem.W.nsIn K mainGlobals "ones" = some (some (.ref f6)))
    (l6 : K.lookup f6 = some ⟨oc6, od6, .func (PySem.W.fnOf "ones" "ones" (defArgs s_ones) (defBody s_ones) (defScope s_ones) .none kV6 dc6 pm6 an6 cd6 ct6), sl6⟩)
    (c6 : PySem.W.codeIn K cd6 "ones" = true)
    (k6 : PySem.W.keepIn K (.ref f6) = true)
    (a7 : PySem.W.nsIn K mainGlobals "check_texts" = some (some (.ref f7)))
    (l7 : K.lookup f7 = some ⟨oc7, od7, .func (PySem.W.fnOf "check_texts" "check_texts" (defArgs s_check_texts) (defBody s_check_texts) (defScope s_check_texts) .none kV7 dc7 pm7 an7 cd7 ct7), sl7⟩)
    (c7 : PySem.W.codeIn K cd7 "check_texts" = true)
    (k7 : PySem.W.keepIn K (.ref f7) = true)
    (a8 : PySem.W.nsIn K mainGlobals "distance" = some (some (.ref f8)))
    (l8 : K.lookup f8 = some ⟨oc8, od8, .func (PySem.W.fnOf "distance" "distance" (defArgs s_distance) (defBody s_distance) (defScope s_distance) .none kV8 dc8 pm8 an8 cd8 ct8), sl8⟩)
    (c8 : PySem.W.codeIn K cd8 "distance" = true)
    (k8 : PySem.W.keepIn K (.ref f8) = true)
    (a9 : PySem.W.nsIn K mainGlobals "near" = some (some (.ref f9)))
    (l9 : K.lookup f9 = some ⟨oc9, od9, .func (PySem.W.fnOf "near" "near" (defArgs s_near) (defBody s_near) (defScope s_near) .none kV9 dc9 pm9 an9 cd9 ct9), sl9⟩)
    (c9 : PySem.W.codeIn K cd9 "near" = true)
    (k9 : PySem.W.keepIn K (.ref f9) = true)
    (a10 : PySem.W.nsIn K mainGlobals "longer" = some (some (.ref f10)))
    (l10 : K.lookup f10 = some ⟨oc10, od10, .func (PySem.W.fnOf "longer" "longer" (defArgs s_longer) (defBody s_longer) (defScope s_longer) .none kV10 dc10 pm10 an10 cd10 ct10), sl10⟩)
    (c10 : PySem.W.codeIn K cd10 "longer" = true)
    (k10 : PySem.W.keepIn K (.ref f10) = true)
    (a11 : PySem.W.nsIn K mainGlobals "fewest_changes" = some (some (.ref f11)))
    (l11 : K.lookup f11 = some ⟨oc11, od11, .func (PySem.W.fnOf "fewest_changes" "fewest_changes" (defArgs s_fewest_changes) (defBody s_fewest_changes) (defScope s_fewest_changes) .none kV11 dc11 pm11 an11 cd11 ct11), sl11⟩)
    (c11 : PySem.W.codeIn K cd11 "fewest_changes" = true)
    (k11 : PySem.W.keepIn K (.ref f11) = true)
    (a12 : PySem.W.nsIn K mainGlobals "fronts_of" = some (some (.ref f12)))
    (l12 : K.lookup f12 = some ⟨oc12, od12, .func (PySem.W.fnOf "fronts_of" "fronts_of" (defArgs s_fronts_of) (defBody s_fronts_of) (defScope s_fronts_of) .none kV12 dc12 pm12 an12 cd12 ct12), sl12⟩)
    (c12 : PySem.W.codeIn K cd12 "fronts_of" = true)
    (k12 : PySem.W.keepIn K (.ref f12) = true)
    (a13 : PySem.W.nsIn K mainGlobals "front_behind" = some (some (.ref f13)))
    (l13 : K.lookup f13 = some ⟨oc13, od13, .func (PySem.W.fnOf "front_behind" "front_behind" (defArgs s_front_behind) (defBody s_front_behind) (defScope s_front_behind) .none kV13 dc13 pm13 an13 cd13 ct13), sl13⟩)
    (c13 : PySem.W.codeIn K cd13 "front_behind" = true)
    (k13 : PySem.W.keepIn K (.ref f13) = true)
    (a14 : PySem.W.nsIn K mainGlobals "row_behind" = some (some (.ref f14)))
    (l14 : K.lookup f14 = some ⟨oc14, od14, .func (PySem.W.fnOf "row_behind" "row_behind" (defArgs s_row_behind) (defBody s_row_behind) (defScope s_row_behind) .none kV14 dc14 pm14 an14 cd14 ct14), sl14⟩)
    (c14 : PySem.W.codeIn K cd14 "row_behind" = true)
    (k14 : PySem.W.keepIn K (.ref f14) = true)
    (a15 : PySem.W.nsIn K mainGlobals "alike" = some (some (.ref f15)))
    (l15 : K.lookup f15 = some ⟨oc15, od15, .func (PySem.W.fnOf "alike" "alike" (defArgs s_alike) (defBody s_alike) (defScope s_alike) .none kV15 dc15 pm15 an15 cd15 ct15), sl15⟩)
    (c15 : PySem.W.codeIn K cd15 "alike" = true)
    (k15 : PySem.W.keepIn K (.ref f15) = true)
    (a16 : PySem.W.nsIn K mainGlobals "_law_cell" = some (some (.ref f16)))
    (l16 : K.lookup f16 = some ⟨oc16, od16, .func (PySem.W.fnOf "_law_cell" "_law_cell" (defArgs s_law_cell) (defBody s_law_cell) (defScope s_law_cell) .none kV16 dc16 pm16 an16 cd16 ct16), sl16⟩)
    (c16 : PySem.W.codeIn K cd16 "_law_cell" = true)
    (k16 : PySem.W.keepIn K (.ref f16) = true)
    (a17 : PySem.W.nsIn K mainGlobals "_law_box" = some (some (.ref f17)))
    (l17 : K.lookup f17 = some ⟨oc17, od17, .func (PySem.W.fnOf "_law_box" "_law_box" (defArgs s_law_box) (defBody s_law_box) (defScope s_law_box) .none kV17 dc17 pm17 an17 cd17 ct17), sl17⟩)
    (c17 : PySem.W.codeIn K cd17 "_law_box" = true)
    (k17 : PySem.W.keepIn K (.ref f17) = true)
    (a18 : PySem.W.nsIn K mainGlobals "_law_take" = some (some (.ref f18)))
    (l18 : K.lookup f18 = some ⟨oc18, od18, .func (PySem.W.fnOf "_law_take" "_law_take" (defArgs s_law_take) (defBody s_law_take) (defScope s_law_take) .none kV18 dc18 pm18 an18 cd18 ct18), sl18⟩)
    (c18 : PySem.W.codeIn K cd18 "_law_take" = true)
    (k18 : PySem.W.keepIn K (.ref f18) = true)
    (a19 : PySem.W.nsIn K mainGlobals "_law_letters" = some (some (.ref f19)))
    (l19 : K.lookup f19 = some ⟨oc19, od19, .func (PySem.W.fnOf "_law_letters" "_law_letters" (defArgs s_law_letters) (defBody s_law_letters) (defScope s_law_letters) .none kV19 dc19 pm19 an19 cd19 ct19), sl19⟩)
    (c19 : PySem.W.codeIn K cd19 "_law_letters" = true)
    (k19 : PySem.W.keepIn K (.ref f19) = true)
    (a20 : PySem.W.nsIn K mainGlobals "_law_text" = some (some (.ref f20)))
    (l20 : K.lookup f20 = some ⟨oc20, od20, .func (PySem.W.fnOf "_law_text" "_law_text" (defArgs s_law_text) (defBody s_law_text) (defScope s_law_text) .none kV20 dc20 pm20 an20 cd20 ct20), sl20⟩)
    (c20 : PySem.W.codeIn K cd20 "_law_text" = true)
    (k20 : PySem.W.keepIn K (.ref f20) = true)
    (a21 : PySem.W.nsIn K mainGlobals "_law_changed" = some (some (.ref f21)))
    (l21 : K.lookup f21 = some ⟨oc21, od21, .func (PySem.W.fnOf "_law_changed" "_law_changed" (defArgs s_law_changed) (defBody s_law_changed) (defScope s_law_changed) .none kV21 dc21 pm21 an21 cd21 ct21), sl21⟩)
    (c21 : PySem.W.codeIn K cd21 "_law_changed" = true)
    (k21 : PySem.W.keepIn K (.ref f21) = true)
    (a22 : PySem.W.nsIn K mainGlobals "_law_texts" = some (some (.ref f22)))
    (l22 : K.lookup f22 = some ⟨oc22, od22, .func (PySem.W.fnOf "_law_texts" "_law_texts" (defArgs s_law_texts) (defBody s_law_texts) (defScope s_law_texts) .none kV22 dc22 pm22 an22 cd22 ct22), sl22⟩)
    (c22 : PySem.W.codeIn K cd22 "_law_texts" = true)
    (k22 : PySem.W.keepIn K (.ref f22) = true)
    (a23 : PySem.W.nsIn K mainGlobals "_law_table" = some (some (.ref f23)))
    (l23 : K.lookup f23 = some ⟨oc23, od23, .func (PySem.W.fnOf "_law_table" "_law_table" (defArgs s_law_table) (defBody s_law_table) (defScope s_law_table) .none kV23 dc23 pm23 an23 cd23 ct23), sl23⟩)
    (c23 : PySem.W.codeIn K cd23 "_law_table" = true)
    (k23 : PySem.W.keepIn K (.ref f23) = true)
    (a24 : PySem.W.nsIn K mainGlobals "_law_met" = some (some (.ref f24)))
    (l24 : K.lookup f24 = some ⟨oc24, od24, .func (PySem.W.fnOf "_law_met" "_law_met" (defArgs s_law_met) (defBody s_law_met) (defScope s_law_met) .none kV24 dc24 pm24 an24 cd24 ct24), sl24⟩)
    (c24 : PySem.W.codeIn K cd24 "_law_met" = true)
    (k24 : PySem.W.keepIn K (.ref f24) = true)
    (a25 : PySem.W.nsIn K mainGlobals "_law_right" = some (some (.ref f25)))
    (l25 : K.lookup f25 = some ⟨oc25, od25, .func (PySem.W.fnOf "_law_right" "_law_right" (defArgs s_law_right) (defBody s_law_right) (defScope s_law_right) .none kV25 dc25 pm25 an25 cd25 ct25), sl25⟩)
    (c25 : PySem.W.codeIn K cd25 "_law_right" = true)
    (k25 : PySem.W.keepIn K (.ref f25) = true)
    (a26 : PySem.W.nsIn K mainGlobals "_law_long_right" = some (some (.ref f26)))
    (l26 : K.lookup f26 = some ⟨oc26, od26, .func (PySem.W.fnOf "_law_long_right" "_law_long_right" (defArgs s_law_long_right) (defBody s_law_long_right) (defScope s_law_long_right) .none kV26 dc26 pm26 an26 cd26 ct26), sl26⟩)
    (c26 : PySem.W.codeIn K cd26 "_law_long_right" = true)
    (k26 : PySem.W.keepIn K (.ref f26) = true)
    (a27 : PySem.W.nsIn K mainGlobals "_law_odd" = some (some (.ref f27)))
    (l27 : K.lookup f27 = some ⟨oc27, od27, .func (PySem.W.fnOf "_law_odd" "_law_odd" (defArgs s_law_odd) (defBody s_law_odd) (defScope s_law_odd) .none kV27 dc27 pm27 an27 cd27 ct27), sl27⟩)
    (c27 : PySem.W.codeIn K cd27 "_law_odd" = true)
    (k27 : PySem.W.keepIn K (.ref f27) = true)
    (a28 : PySem.W.nsIn K mainGlobals "_law_refuses" = some (some (.ref f28)))
    (l28 : K.lookup f28 = some ⟨oc28, od28, .func (PySem.W.fnOf "_law_refuses" "_law_refuses" (defArgs s_law_refuses) (defBody s_law_refuses) (defScope s_law_refuses) .none kV28 dc28 pm28 an28 cd28 ct28), sl28⟩)
    (c28 : PySem.W.codeIn K cd28 "_law_refuses" = true)
    (k28 : PySem.W.keepIn K (.ref f28) = true)
    (a29 : PySem.W.nsIn K mainGlobals "_law_copy" = some (some (.ref f29)))
    (l29 : K.lookup f29 = some ⟨oc29, od29, .func (PySem.W.fnOf "_law_copy" "_law_copy" (defArgs s_law_copy) (defBody s_law_copy) (defScope s_law_copy) .none kV29 dc29 pm29 an29 cd29 ct29), sl29⟩)
    (c29 : PySem.W.codeIn K cd29 "_law_copy" = true)
    (k29 : PySem.W.keepIn K (.ref f29) = true)
    (a30 : PySem.W.nsIn K mainGlobals "_law_refused_right" = some (some (.ref f30)))
    (l30 : K.lookup f30 = some ⟨oc30, od30, .func (PySem.W.fnOf "_law_refused_right" "_law_refused_right" (defArgs s_law_refused_right) (defBody s_law_refused_right) (defScope s_law_refused_right) .none kV30 dc30 pm30 an30 cd30 ct30), sl30⟩)
    (c30 : PySem.W.codeIn K cd30 "_law_refused_right" = true)
    (k30 : PySem.W.keepIn K (.ref f30) = true)
    (a31 : PySem.W.nsIn K mainGlobals "law" = some (some (.ref f31)))
    (l31 : K.lookup f31 = some ⟨oc31, od31, .func (PySem.W.fnOf "law" "law" (defArgs s_law) (defBody s_law) (defScope s_law) .none kV31 dc31 pm31 an31 cd31 ct31), sl31⟩)
    (c31 : PySem.W.codeIn K cd31 "law" = true)
    (k31 : PySem.W.keepIn K (.ref f31) = true)
    (z_abs : PySem.W.nsIn K mainGlobals "abs" = some none)
    (z_bool : PySem.W.nsIn K mainGlobals "bool" = some none)
    (z_int : PySem.W.nsIn K mainGlobals "int" = some none)
    (z_isinstance : PySem.W.nsIn K mainGlobals "isinstance" = some none)
    (z_len : PySem.W.nsIn K mainGlobals "len" = some none)
    (z_list : PySem.W.nsIn K mainGlobals "list" = some none)
    (z_max : PySem.W.nsIn K mainGlobals "max" = some none)
    (z_min : PySem.W.nsIn K mainGlobals "min" = some none)
    (z_range : PySem.W.nsIn K mainGlobals "range" = some none)
    (z_repr : PySem.W.nsIn K mainGlobals "repr" = some none)
    (z_str : PySem.W.nsIn K mainGlobals "str" = some none)
    (z_sum : PySem.W.nsIn K mainGlobals "sum" = some none)
    (n_NOWHERE : PySem.W.nsIn K mainGlobals "NOWHERE" = some (some (.int (-2) t_NOWHERE)))
    (n_BLOCK : PySem.W.nsIn K mainGlobals "BLOCK" = some (some (.int (64) t_BLOCK)))
    (n_LONG : PySem.W.nsIn K mainGlobals "LONG" = some (some (.int (1000) t_LONG)))
    (n_LETTERS : PySem.W.nsIn K mainGlobals "LETTERS" = some (some (.int (50) t_LETTERS))) :
    ∃ fd : FuncData, (∀ (s : Shared) (v : Value), BindsTo s fd ⟨[v], []⟩ [("script", v)]) ∧ ∀ base : Heap, K.In base → base.Ns mainGlobals mg → FnG P w K mg base CX0 9 fa fd ["script"] (spLaw K) := by
  have e := hfa.symm.trans (PySem.W.mg_of X G a31)
  cases e
  have F0 := fun_mk (st := s_is_integer) l0 c0 k0
  have b0 := F0.binds (ps := ["value"]) fun _ _ _ _ _ _ us hl => match us, hl with | [_], _ => rfl
  have F1 := fun_mk (st := s_is_count) l1 c1 k1
  have b1 := F1.binds (ps := ["value"]) fun _ _ _ _ _ _ us hl => match us, hl with | [_], _ => rfl
  have F2 := fun_mk (st := s_is_text) l2 c2 k2
  have b2 := F2.binds (ps := ["value"]) fun _ _ _ _ _ _ us hl => match us, hl with | [_], _ => rfl
  have F3 := fun_mk (st := s_changes_between) l3 c3 k3
  have b3 := F3.binds (ps := ["one", "other"]) fun _ _ _ _ _ _ us hl => match us, hl with | [_, _], _ => rfl
  have F4 := fun_mk (st := s_places_of) l4 c4 k4
  have b4 := F4.binds (ps := ["pattern"]) fun _ _ _ _ _ _ us hl => match us, hl with | [_], _ => rfl
  have F5 := fun_mk (st := s_column_behind) l5 c5 k5
  have b5 := F5.binds (ps := ["up", "down", "letters", "places", "whole"]) fun _ _ _ _ _ _ us hl => match us, hl with | [_, _, _, _, _], _ => rfl
  have F6 := fun_mk (st := s_ones) l6 c6 k6
  have b6 := F6.binds (ps := ["bits"]) fun _ _ _ _ _ _ us hl => match us, hl with | [_], _ => rfl
  have F7 := fun_mk (st := s_check_texts) l7 c7 k7
  have b7 := F7.binds (ps := ["one", "other"]) fun _ _ _ _ _ _ us hl => match us, hl with | [_, _], _ => rfl
  have F8 := fun_mk (st := s_distance) l8 c8 k8
  have b8 := F8.binds (ps := ["one", "other"]) fun _ _ _ _ _ _ us hl => match us, hl with | [_, _], _ => rfl
  have F9 := fun_mk (st := s_near) l9 c9 k9
  have b9 := F9.binds (ps := ["one", "other", "most"]) fun _ _ _ _ _ _ us hl => match us, hl with | [_, _, _], _ => rfl
  have F10 := fun_mk (st := s_longer) l10 c10 k10
  have b10 := F10.binds (ps := ["one", "other"]) fun _ _ _ _ _ _ us hl => match us, hl with | [_, _], _ => rfl
  have F11 := fun_mk (st := s_fewest_changes) l11 c11 k11
  have b11 := F11.binds (ps := ["one", "other", "most"]) fun _ _ _ _ _ _ us hl => match us, hl with | [_, _, _], _ => rfl
  have F12 := fun_mk (st := s_fronts_of) l12 c12 k12
  have b12 := F12.binds (ps := ["one", "other", "most"]) fun _ _ _ _ _ _ us hl => match us, hl with | [_, _, _], _ => rfl
  have F13 := fun_mk (st := s_front_behind) l13 c13 k13
  have b13 := F13.binds (ps := ["front", "one", "other", "lowest", "highest"]) fun _ _ _ _ _ _ us hl => match us, hl with | [_, _, _, _, _], _ => rfl
  have F14 := fun_mk (st := s_row_behind) l14 c14 k14
  have b14 := F14.binds (ps := ["front", "diagonal", "one", "other"]) fun _ _ _ _ _ _ us hl => match us, hl with | [_, _, _, _], _ => rfl
  have F15 := fun_mk (st := s_alike) l15 c15 k15
  have b15 := F15.binds (ps := ["one", "at", "other", "there"]) fun _ _ _ _ _ _ us hl => match us, hl with | [_, _, _, _], _ => rfl
  have F16 := fun_mk (st := s_law_cell) l16 c16 k16
  have b16 := F16.binds (ps := ["script", "k"]) fun _ _ _ _ _ _ us hl => match us, hl with | [_, _], _ => rfl
  have F17 := fun_mk (st := s_law_box) l17 c17 k17
  have b17 := F17.binds (ps := ["great"]) fun _ _ _ _ _ _ us hl => match us, hl with | [_], _ => rfl
  have F18 := fun_mk (st := s_law_take) l18 c18 k18
  have b18 := F18.binds (ps := ["box", "many"]) fun _ _ _ _ _ _ us hl => match us, hl with | [_, _], _ => rfl
  have F19 := fun_mk (st := s_law_letters) l19 c19 k19
  have b19 := F19.binds (ps := ["box"]) fun _ _ _ _ _ _ us hl => match us, hl with | [_], _ => rfl
  have F20 := fun_mk (st := s_law_text) l20 c20 k20
  have b20 := F20.binds (ps := ["box", "letters", "many"]) fun _ _ _ _ _ _ us hl => match us, hl with | [_, _, _], _ => rfl
  have F21 := fun_mk (st := s_law_changed) l21 c21 k21
  have b21 := F21.binds (ps := ["box", "letters", "text"]) fun _ _ _ _ _ _ us hl => match us, hl with | [_, _, _], _ => rfl
  have F22 := fun_mk (st := s_law_texts) l22 c22 k22
  have b22 := F22.binds (ps := ["box"]) fun _ _ _ _ _ _ us hl => match us, hl with | [_], _ => rfl
  have F23 := fun_mk (st := s_law_table) l23 c23 k23
  have b23 := F23.binds (ps := ["first", "second"]) fun _ _ _ _ _ _ us hl => match us, hl with | [_, _], _ => rfl
  have F24 := fun_mk (st := s_law_met) l24 c24 k24
  have b24 := F24.binds (ps := ["which", "first", "second", "number"]) fun _ _ _ _ _ _ us hl => match us, hl with | [_, _, _, _], _ => rfl
  have F25 := fun_mk (st := s_law_right) l25 c25 k25
  have b25 := F25.binds (ps := ["box", "first", "second"]) fun _ _ _ _ _ _ us hl => match us, hl with | [_, _, _], _ => rfl
  have F26 := fun_mk (st := s_law_long_right) l26 c26 k26
  have b26 := F26.binds (ps := ["box"]) fun _ _ _ _ _ _ us hl => match us, hl with | [_], _ => rfl
  have F27 := fun_mk (st := s_law_odd) l27 c27 k27
  have b27 := F27.binds (ps := ["box", "text"]) fun _ _ _ _ _ _ us hl => match us, hl with | [_, _], _ => rfl
  have F28 := fun_mk (st := s_law_refuses) l28 c28 k28
  have b28 := F28.binds (ps := ["which", "first", "second", "number", "word", "odd"]) fun _ _ _ _ _ _ us hl => match us, hl with | [_, _, _, _, _, _], _ => rfl
  have F29 := fun_mk (st := s_law_copy) l29 c29 k29
  have b29 := F29.binds (ps := ["value"]) fun _ _ _ _ _ _ us hl => match us, hl with | [_], _ => rfl
  have F30 := fun_mk (st := s_law_refused_right) l30 c30 k30
  have b30 := F30.binds (ps := ["box", "first", "second"]) fun _ _ _ _ _ _ us hl => match us, hl with | [_, _, _], _ => rfl
  have F31 := fun_mk (st := s_law) l31 c31 k31
  have b31 := F31.binds (ps := ["script"]) fun _ _ _ _ _ _ us hl => match us, hl with | [_], _ => rfl
  have ov0 : PySem.W.excOver K C0 ErrX.tailE = true := by
    unfold PySem.W.excOver PySem.W.clsIn
    rw [eL0]
    show (C0 == C0 && true) = true
    rw [beq_self_eq_true]; rfl
  have E0 : ErrX.ETxt K mg "InvalidCount" "InvalidCount.__init__" C0 I0 := { gC := PySem.W.mg_of X G eC0, cls := ⟨nm0, q0, N0, bs0, _, sn0, sub0, ab0, col0, dd0, m00, m10, m20, m30, m50, eL0, rfl⟩, ov := ov0, tk := etk0, sa := esa0, ga := ega0, gg := egg0, noN := eno0, iC := ein0, tC := eti0, kC := ekC0, exC := eeC0, tyC := etC0, hdC := ehC0, fn := ⟨_, _, _, _, _, _, _, _, _, _, _, _, _, _, efn0, eco0⟩ }
  have ov1 : PySem.W.excOver K C1 ErrX.tailE = true := by
    unfold PySem.W.excOver PySem.W.clsIn
    rw [eL1]
    show (C1 == C1 && true) = true
    rw [beq_self_eq_true]; rfl
  have E1 : ErrX.ETxt K mg "InvalidText" "InvalidText.__init__" C1 I1 := { gC := PySem.W.mg_of X G eC1, cls := ⟨nm1, q1, N1, bs1, _, sn1, sub1, ab1, col1, dd1, m01, m11, m21, m31, m51, eL1, rfl⟩, ov := ov1, tk := etk1, sa := esa1, ga := ega1, gg := egg1, noN := eno1, iC := ein1, tC := eti1, kC := ekC1, exC := eeC1, tyC := etC1, hdC := ehC1, fn := ⟨_, _, _, _, _, _, _, _, _, _, _, _, _, _, efn1, eco1⟩ }
  exact ⟨PySem.W.fnOf "law" "law" (defArgs s_law) (defBody s_law) (defScope s_law) .none kV31 dc31 pm31 an31 cd31 ct31, fun s v => .of_eq rfl, fun base _ _ => ok_law ({ f_is_integer := f0, fd_is_integer := _, F_is_integer := F0, b_is_integer := b0, g_is_integer := PySem.W.mg_of X G a0, f_is_count := f1, fd_is_count := _, F_is_count := F1, b_is_count := b1, g_is_count := PySem.W.mg_of X G a1, f_is_text := f2, fd_is_text := _, F_is_text := F2, b_is_text := b2, g_is_text := PySem.W.mg_of X G a2, f_changes_between := f3, fd_changes_between := _, F_changes_between := F3, b_changes_between := b3, g_changes_between := PySem.W.mg_of X G a3, f_places_of := f4, fd_places_of := _, F_places_of := F4, b_places_of := b4, g_places_of := PySem.W.mg_of X G a4, f_column_behind := f5, fd_column_behind := _, F_column_behind := F5, b_column_behind := b5, g_column_behind := PySem.W.mg_of X G a5, f_ones := f6, fd_ones := _, F_ones := F6, b_ones := b6, g_ones := PySem.W.mg_of X G a6, f_check_texts := f7, fd_check_texts := _, F_check_texts := F7, b_check_texts := b7, g_check_texts := PySem.W.mg_of X G a7, f_distance := f8, fd_distance := _, F_distance := F8, b_distance := b8, g_distance := PySem.W.mg_of X G a8, f_near := f9, fd_near := _, F_near := F9, b_near := b9, g_near := PySem.W.mg_of X G a9, f_longer := f10, fd_longer := _, F_longer := F10, b_longer := b10, g_longer := PySem.W.mg_of X G a10, f_fewest_changes := f11, fd_fewest_changes := _, F_fewest_changes := F11, b_fewest_changes := b11, g_fewest_changes := PySem.W.mg_of X G a11, f_fronts_of := f12, fd_fronts_of := _, F_fronts_of := F12, b_fronts_of := b12, g_fronts_of := PySem.W.mg_of X G a12, f_front_behind := f13, fd_front_behind := _, F_front_behind := F13, b_front_behind := b13, g_front_behind := PySem.W.mg_of X G a13, f_row_behind := f14, fd_row_behind := _, F_row_behind := F14, b_row_behind := b14, g_row_behind := PySem.W.mg_of X G a14, f_alike := f15, fd_alike := _, F_alike := F15, b_alike := b15, g_alike := PySem.W.mg_of X G a15, f_law_cell := f16, fd_law_cell := _, F_law_cell := F16, b_law_cell := b16, g_law_cell := PySem.W.mg_of X G a16, f_law_box := f17, fd_law_box := _, F_law_box := F17, b_law_box := b17, g_law_box := PySem.W.mg_of X G a17, f_law_take := f18, fd_law_take := _, F_law_take := F18, b_law_take := b18, g_law_take := PySem.W.mg_of X G a18, f_law_letters := f19, fd_law_letters := _, F_law_letters := F19, b_law_letters := b19, g_law_letters := PySem.W.mg_of X G a19, f_law_text := f20, fd_law_text := _, F_law_text := F20, b_law_text := b20, g_law_text := PySem.W.mg_of X G a20, f_law_changed := f21, fd_law_changed := _, F_law_changed := F21, b_law_changed := b21, g_law_changed := PySem.W.mg_of X G a21, f_law_texts := f22, fd_law_texts := _, F_law_texts := F22, b_law_texts := b22, g_law_texts := PySem.W.mg_of X G a22, f_law_table := f23, fd_law_table := _, F_law_table := F23, b_law_table := b23, g_law_table := PySem.W.mg_of X G a23, f_law_met := f24, fd_law_met := _, F_law_met := F24, b_law_met := b24, g_law_met := PySem.W.mg_of X G a24, f_law_right := f25, fd_law_right := _, F_law_right := F25, b_law_right := b25, g_law_right := PySem.W.mg_of X G a25, f_law_long_right := f26, fd_law_long_right := _, F_law_long_right := F26, b_law_long_right := b26, g_law_long_right := PySem.W.mg_of X G a26, f_law_odd := f27, fd_law_odd := _, F_law_odd := F27, b_law_odd := b27, g_law_odd := PySem.W.mg_of X G a27, f_law_refuses := f28, fd_law_refuses := _, F_law_refuses := F28, b_law_refuses := b28, g_law_refuses := PySem.W.mg_of X G a28, f_law_copy := f29, fd_law_copy := _, F_law_copy := F29, b_law_copy := b29, g_law_copy := PySem.W.mg_of X G a29, f_law_refused_right := f30, fd_law_refused_right := _, F_law_refused_right := F30, b_law_refused_right := b30, g_law_refused_right := PySem.W.mg_of X G a30, f_law := fa, fd_law := _, F_law := F31, b_law := b31, g_law := PySem.W.mg_of X G a31, z_abs := PySem.W.mg_none_of X G z_abs, z_bool := PySem.W.mg_none_of X G z_bool, z_int := PySem.W.mg_none_of X G z_int, z_isinstance := PySem.W.mg_none_of X G z_isinstance, z_len := PySem.W.mg_none_of X G z_len, z_list := PySem.W.mg_none_of X G z_list, z_max := PySem.W.mg_none_of X G z_max, z_min := PySem.W.mg_none_of X G z_min, z_range := PySem.W.mg_none_of X G z_range, z_repr := PySem.W.mg_none_of X G z_repr, z_str := PySem.W.mg_none_of X G z_str, z_sum := PySem.W.mg_none_of X G z_sum, t_NOWHERE := t_NOWHERE, c_NOWHERE := PySem.W.mg_of X G n_NOWHERE, t_BLOCK := t_BLOCK, c_BLOCK := PySem.W.mg_of X G n_BLOCK, t_LONG := t_LONG, c_LONG := PySem.W.mg_of X G n_LONG, t_LETTERS := t_LETTERS, c_LETTERS := PySem.W.mg_of X G n_LETTERS, C_InvalidCount := C0, i_InvalidCount := I0, e_InvalidCount := E0, x_InvalidCount := exm_of eeC0 eiC0 etC0 esC0, C_InvalidText := C1, i_InvalidText := I1, e_InvalidText := E1, x_InvalidText := exm_of eeC1 eiC1 etC1 esC1, no_InvalidCount_InvalidText := exm_of eeC1 eiC1 etC1 en_0_1, no_InvalidText_InvalidCount := exm_of eeC0 eiC0 etC0 en_1_0 } : Txt K mg)⟩
end My
open PySem PySem.W PyProof.Rows
set_option maxRecDepth 100000 in
set_option maxHeartbeats 0 in
theorem PySem.Challenge.cw_spoiltline_k07_distances_holds : PySem.Challenge.rw_spoiltline_k07_distances.Holds := by
  w_on; o_law; k_head; (case hw => w_witness2)
  k_fill
  refine L2.walk_G (l := PySem.Challenge.rw_spoiltline_k07_distances) (n := 63) (k := 9) (x := "script") (sp := My.spLaw) rfl (by decide) rfl ⟨rfl, by decide, by decide⟩ (fun w h Y => PySem.W.kIn_of Y) ?F (fun _ _ a ns hl _ hS => ⟨a, ns, rfl, hS, hl, fun _ => rfl⟩)
  case F =>
    intro w mg fa h KX G hmg
    refine' My.all_mk KX G hmg ?eC0 ?eL0 ?etk0 ?esa0 ?ega0 ?egg0 ?eno0 ?ein0 ?eti0 ?ekC0 ?eeC0 ?etC0 ?ehC0 ?eiC0 ?esC0 ?efn0 ?eco0 ?eC1 ?eL1 ?etk1 ?esa1 ?ega1 ?egg1 ?eno1 ?ein1 ?eti1 ?ekC1 ?eeC1 ?etC1 ?ehC1 ?eiC1 ?esC1 ?efn1 ?eco1 ?en_0_1 ?en_1_0 ?a0 ?l0 ?c0 ?k0 ?a1 ?l1 ?c1 ?k1 ?a2 ?l2 ?c2 ?k2 ?a3 ?l3 ?c3 ?k3 ?a4 ?l4 ?c4 ?k4 ?a5 ?l5 ?c5 ?k5 ?a6 ?l6 ?c6 ?k6 ?a7 ?l7 ?c7 ?k7 ?a8 ?l8 ?c8 ?k8 ?a9 ?l9 ?c9 ?k9 ?a10 ?l10 ?c10 ?k10 ?a11 ?l11 ?c11 ?k11 ?a12 ?l12 ?c12 ?k12 ?a13 ?l13 ?c13 ?k13 ?a14 ?l14 ?c14 ?k14 ?a15 ?l15 ?c15 ?k15 ?a16 ?l16 ?c16 ?k16 ?a17 ?l17 ?c17 ?k17 ?a18 ?l18 ?c18 ?k18 ?a19 ?l19 ?c19 ?k19 ?a20 ?l20 ?c20 ?k20 ?a21 ?l21 ?c21 ?k21 ?a22 ?l22 ?c22 ?k22 ?a23 ?l23 ?c23 ?k23 ?a24 ?l24 ?c24 ?k24 ?a25 ?l25 ?c25 ?k25 ?a26 ?l26 ?c26 ?k26 ?a27 ?l27 ?c27 ?k27 ?a28 ?l28 ?c28 ?k28 ?a29 ?l29 ?c29 ?k29 ?a30 ?l30 ?c30 ?k30 ?a31 ?l31 ?c31 ?k31 ?z_abs ?z_bool ?z_int ?z_isinstance ?z_len ?z_list ?z_max ?z_min ?z_range ?z_repr ?z_str ?z_sum ?n_NOWHERE ?n_BLOCK ?n_LONG ?n_LETTERS
    (case eC0 => k_is)
    (case eL0 => k_is)
    (case etk0 => k_is)
    (case esa0 => k_is)
    (case ega0 => k_is)
    (case egg0 => k_is)
    (case eno0 => k_is)
    (case ein0 => k_is)
    (case eti0 => k_is)
    (case ekC0 => k_is)
    (case eeC0 => k_is)
    (case etC0 => k_is)
    (case ehC0 => k_is)
    (case eiC0 => k_is)
    (case esC0 => k_is)
    (case efn0 => k_is)
    (case eco0 => k_is)
    (case eC1 => k_is)
    (case eL1 => k_is)
    (case etk1 => k_is)
    (case esa1 => k_is)
    (case ega1 => k_is)
    (case egg1 => k_is)
    (case eno1 => k_is)
    (case ein1 => k_is)
    (case eti1 => k_is)
    (case ekC1 => k_is)
    (case eeC1 => k_is)
    (case etC1 => k_is)
    (case ehC1 => k_is)
    (case eiC1 => k_is)
    (case esC1 => k_is)
    (case efn1 => k_is)
    (case eco1 => k_is)
    (case en_0_1 => k_is)
    (case en_1_0 => k_is)
    (case a0 => k_is)
    (case l0 => k_is)
    (case c0 => k_is)
    (case k0 => k_is)
    (case a1 => k_is)
    (case l1 => k_is)
    (case c1 => k_is)
    (case k1 => k_is)
    (case a2 => k_is)
    (case l2 => k_is)
    (case c2 => k_is)
    (case k2 => k_is)
    (case a3 => k_is)
    (case l3 => k_is)
    (case c3 => k_is)
    (case k3 => k_is)
    (case a4 => k_is)
    (case l4 => k_is)
    (case c4 => k_is)
    (case k4 => k_is)
    (case a5 => k_is)
    (case l5 => k_is)
    (case c5 => k_is)
    (case k5 => k_is)
    (case a6 => k_is)
    (case l6 => k_is)
    (case c6 => k_is)
    (case k6 => k_is)
    (case a7 => k_is)
    (case l7 => k_is)
    (case c7 => k_is)
    (case k7 => k_is)
    (case a8 => k_is)
    (case l8 => k_is)
    (case c8 => k_is)
    (case k8 => k_is)
    (case a9 => k_is)
    (case l9 => k_is)
    (case c9 => k_is)
    (case k9 => k_is)
    (case a10 => k_is)
    (case l10 => k_is)
    (case c10 => k_is)
    (case k10 => k_is)
    (case a11 => k_is)
    (case l11 => k_is)
    (case c11 => k_is)
    (case k11 => k_is)
    (case a12 => k_is)
    (case l12 => k_is)
    (case c12 => k_is)
    (case k12 => k_is)
    (case a13 => k_is)
    (case l13 => k_is)
    (case c13 => k_is)
    (case k13 => k_is)
    (case a14 => k_is)
    (case l14 => k_is)
    (case c14 => k_is)
    (case k14 => k_is)
    (case a15 => k_is)
    (case l15 => k_is)
    (case c15 => k_is)
    (case k15 => k_is)
    (case a16 => k_is)
    (case l16 => k_is)
    (case c16 => k_is)
    (case k16 => k_is)
    (case a17 => k_is)
    (case l17 => k_is)
    (case c17 => k_is)
    (case k17 => k_is)
    (case a18 => k_is)
    (case l18 => k_is)
    (case c18 => k_is)
    (case k18 => k_is)
    (case a19 => k_is)
    (case l19 => k_is)
    (case c19 => k_is)
    (case k19 => k_is)
    (case a20 => k_is)
    (case l20 => k_is)
    (case c20 => k_is)
    (case k20 => k_is)
    (case a21 => k_is)
    (case l21 => k_is)
    (case c21 => k_is)
    (case k21 => k_is)
    (case a22 => k_is)
    (case l22 => k_is)
    (case c22 => k_is)
    (case k22 => k_is)
    (case a23 => k_is)
    (case l23 => k_is)
    (case c23 => k_is)
    (case k23 => k_is)
    (case a24 => k_is)
    (case l24 => k_is)
    (case c24 => k_is)
    (case k24 => k_is)
    (case a25 => k_is)
    (case l25 => k_is)
    (case c25 => k_is)
    (case k25 => k_is)
    (case a26 => k_is)
    (case l26 => k_is)
    (case c26 => k_is)
    (case k26 => k_is)
    (case a27 => k_is)
    (case l27 => k_is)
    (case c27 => k_is)
    (case k27 => k_is)
    (case a28 => k_is)
    (case l28 => k_is)
    (case c28 => k_is)
    (case k28 => k_is)
    (case a29 => k_is)
    (case l29 => k_is)
    (case c29 => k_is)
    (case k29 => k_is)
    (case a30 => k_is)
    (case l30 => k_is)
    (case c30 => k_is)
    (case k30 => k_is)
    (case a31 => k_is)
    (case l31 => k_is)
    (case c31 => k_is)
    (case k31 => k_is)
    (case z_abs => k_is)
    (case z_bool => k_is)
    (case z_int => k_is)
    (case z_isinstance => k_is)
    (case z_len => k_is)
    (case z_list => k_is)
    (case z_max => k_is)
    (case z_min => k_is)
    (case z_range => k_is)
    (case z_repr => k_is)
    (case z_str => k_is)
    (case z_sum => k_is)
    (case n_NOWHERE => k_is)
    (case n_BLOCK => k_is)
    (case n_LONG => k_is)
    (case n_LETTERS => k_is)

