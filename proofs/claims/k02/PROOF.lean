import PyProof.Rows.All
import Wide.All
import OpenK.AllK
import Wide.FinOn
import HandS.ForMost
import HandS.Exc
import HandS.ExcOwn
import HandS.WordsExc
import HandS.TryMany
import HandS.ExcSuper
import HandS.ExcInit
import KE.KExcInit
import HandS.Flt
import HandS.StrMore
import HandS.IsInst
import HandS.Conv
import HandS.Wide
import KE.KxIndex
import HandS.OwnEq
import HandS.ExcIs
import KE.KExcIs
import PyProof.ListStr
import HandS.TryOnly
import HandS.Style
import PyProof.EqKinds
import PyProof.NeKinds
import HandS.More
import HandS.HeadHook3
import HandS.TupAny
import PyProof.CollectIter
import PyProof.WalksMore
import HandS.Base
import HandS.Walk
import HandS.Zip
import HandS.SortKw
import HandS.Star
import HandS.MakeKw
import HandS.MakeKwOnly
import PyProof.InstNe
import KE.KDictDisplayH
import HandS.TupLen
import HandS.Deep
import KE.KDictList
import KE.KStar
import HandS.DictComp
import KE.SortData
import HandS.Sort
import KE.GoesEnum
import HandS.Iter
import HandS.Evl
import PySem.Challenge.RW_spoiltline_k02_lines_and_what_is_written
set_option Elab.async false
set_option linter.all false
set_option maxRecDepth 100000
set_option maxHeartbeats 2000000
/-! An own error class over another own class over Exception, whose __init__ keeps its one argument: raised, caught, its attribute read. -/
namespace ErrX
open PySem PySem.W PySem.Calls PyProof.Rows PySem.HandSPX Builtin Builtin.ObjectAttr
abbrev tailE : List Value := [.type "Exception", .type "BaseException", .type "object"]
/-! ### the text of such an __init__ -/
def iA (p1 p2 : Pos) : Arguments := { posonlyargs := [], args := [{ arg := "self", annotation := none, pos := p1 }, { arg := "given", annotation := none, pos := p2 }], vararg := none, kwonlyargs := [], kw_defaults := [], kwarg := none, defaults := [] }
def iB (q1 q2 q3 q4 : Pos) : List Stmt := [.Assign [.Attribute (.Name "self" q1) "given" q2] (.Name "given" q3) q4]
def iS : Scope := { kind := .function, names := [(PySem.Str.ofString "self", .local), (PySem.Str.ofString "given", .local)], isGenerator := false, isCoroutine := false, more := [] }
/-- what the written part says of the class cn, at C, and of its __init__, at fI -/
structure ETxt (K : Frag) (mg : Str → Option Value) (cn qi : Str) (C fI : Addr) : Prop where
  gC : mg cn = some (.ref C)
  cls : ∃ nm q N bs bm sn sub ab col dd k0 k1 k2 k3 k5, K.lookup C = some (excClassObj nm q C N bs bm true sn sub ab col dd k0 k1 k2 k3 k5 "Exception.__new__") ∧ excTail tailE bm = true
  ov : excOver K C tailE = true
  tk : takerIn K C "given" = some none
  sa : findIn K (.ref C) "__setattr__" = some (some (.builtin "object.__setattr__"))
  ga : findIn K (.ref C) "__getattribute__" = some (some (.builtin "BaseException.__getattribute__"))
  gg : findIn K (.ref C) "__getattr__" = some none
  noN : findIn K (.ref C) "given" = some none
  iC : findIn K (.ref C) "__init__" = some (some (.ref fI))
  tC : typeIn K (.ref fI) = some (.type "function")
  kC : keepIn K (.ref C) = true
  exC : subIn K (.ref C) (.type "BaseException") = some true
  tyC : typeIn K (.ref C) = some (.type "type")
  hdC : hasDictIn K C = true
  fn : ∃ (oc : Value) (od : Option Addr) (doc pm : Value) (an : Option Addr) (cdv ct : Value) (osl : Array (Option Value)) (p1 p2 q1 q2 q3 q4 : Pos),
    K.lookup fI = some ⟨oc, od, .func (fnOf "__init__" qi (iA p1 p2) (iB q1 q2 q3 q4) iS .none .none doc pm an cdv ct), osl⟩ ∧ codeIn K cdv qi = true
theorem one_fits (v : Value) : [v].length ≤ sizeLine := by
  rw [sizeLine_eq]
  exact (by decide : 1 ≤ 16777216)
/-- what __init__ leaves of a fresh error at x -/
structure EndE (h h' : Heap) (x C dx t1 : Addr) (fl : Str) (v : Value) : Prop where
  keep : ∀ b o, b ≠ x → h.get? b = some o → h'.get? b = some o
  obj : h'.get? x = some (excObj C t1 (some dx) .none)
  dbig : h.objs.size ≤ dx
  dne : dx ≠ x
  ns : h'.Ns1 dx (fun y => if y = fl then some v else none)
structure MadeE (h h' : Heap) (e C d : Addr) (fl : Str) (v : Value) : Prop where
  keep : ∀ b o, h.get? b = some o → h'.get? b = some o
  new : h.objs.size ≤ e
  obj : ∃ t, h'.get? e = some (excObj C t (some d) .none)
  dbig : h.objs.size ≤ d
  dne : d ≠ e
  ns : h'.Ns1 d (fun y => if y = fl then some v else none)
section
variable {prog : Program} {w : World} {A : Around} {E : Value → Shared → Prop} {R : Result → Shared → Prop} {s : Shared} {K : Frag} {mg : Str → Option Value} {C fI : Addr} {cn qi : Str}
/-- the first store into a fresh error -/
theorem store_new {name : Str} {tk : Tok} {v : Value} {x t0 : Addr} (X : K.In s.heap) (hx : s.heap.get? x = some (excObj C t0 none .none)) (ho : excOver K C tailE = true) (ht : takerIn K C name = some none) (hh : hasDictIn K C = true)
    (hq : ∀ h' tk' dx, EndE s.heap h' x C dx t0 name v → R (.ok (.ret .none)) { s with heap := h', toks := tk' }) :
    codeAny (model prog w) A (.call (.builtin "object.__setattr__") ⟨[.ref x, .str name tk, v], []⟩) R s := by
  refine osa_openX (od := none) F.store_Exception X ⟨hx, rfl, rfl, trivial⟩ ho ht fun b => ?_
  obtain ⟨cd, hc, hd'⟩ := any_some hh
  have hxs : x ≠ s.heap.objs.size := Nat.ne_of_lt (Heap.lt_size hx)
  have hx1 : (s.heap.push { cls := .type "dict", data := .dict #[] }).get? x = some (excObj C t0 none .none) := Heap.get?_push_of_some _ hx
  refine wpAny_bind (wpAny_pure (wpAny_bind (instanceDict_exc hx (looks_clsIn X hc) hd' ?_)))
  show wpAny _ _ (storeInDict s.heap.objs.size (.str name tk) name v) _ _ _
  obtain ⟨hp, g, dr, t, os⟩ := s
  refine store_in_new ?_ ?_
  · exact ⟨_, #[], _, (Heap.get?_update_ne _ _ _ _ hxs.symm).trans (Heap.get?_push_at rfl rfl), rfl, fun e he => absurd he (by simp), fun _ => rfl⟩
  · intro h' tk' hn' hs
    refine hq h' tk' hp.objs.size ⟨fun b o hb ho => ?_, ?_, Nat.le_refl _, hxs.symm, hn'⟩
    · exact (hs.2 b (Nat.ne_of_lt (Heap.lt_size ho))).trans ((Heap.get?_update_ne _ _ _ _ hb).trans (Heap.get?_push_of_some _ ho))
    · exact (hs.2 x hxs).trans (Heap.get?_update_self _ hx1 rfl)
theorem ldC {M : Model} {s : Shared} {name : Str} {scope : Scope} {L a : Addr} {cd : Value} {m : Str → Option Value} {x : Str} {pos : Pos} {v : Value} {Q : Value → Shared → Prop} {A : Around} {E : Value → Shared → Prop} (hn : s.heap.Ns L m) (hv : m x = some v) (h : Q v s)
    (hk : scope.kind = .function := by rfl) (hl : (envOfC name scope L a cd).kindOf x = some .local := by rfl) (hd : (x == ("__debug__" : Str)) = false := by decide) :
    wpAny M A (eval (.Name x pos) (envOfC name scope L a cd)) Q E s := wpAny_Name (wpAny_loadName_local hk hl hn hv h) hd
theorem init_ok (T : ETxt K mg cn qi C fI) {x t0 : Addr} {v : Value} (X : K.In s.heap) (hlim : s.heap.NoLimit) (hx : s.heap.get? x = some (excObj C t0 none .none)) (hroom : A.depth < recursionLimit)
    (hq : ∀ h' tk dx, EndE s.heap h' x C dx t0 "given" v → R (.ok (.ret .none)) { s with heap := h', toks := tk }) :
    codeAny (model prog w) A (.call (.ref fI) ⟨[.ref x, v], []⟩) R s := by
  obtain ⟨oc, od, doc, pm, an, cdv, ct, osl, p1, p2, q1, q2, q3, q4, ho, hcd⟩ := T.fn
  refine Att.call_fn (binds := [("self", .ref x), ("given", v)]) X hlim ho hcd hroom (BindsTo.of_eq (by first | rfl | with_unfolding_all rfl)) (by first | rfl | decide | with_unfolding_all rfl) (fun s1 IC => ?_) rfl rfl rfl
  obtain ⟨h1, tk1, rfl⟩ := IC.toInCall.same
  have k : ∀ b o, s.heap.get? b = some o → h1.get? b = some o := IC.toInCall.keep
  have hn := IC.toInCall.ns
  have X1 : K.In h1 := X.keeps k
  have hx1 := k _ _ hx
  show wpAny _ _ (execs _ _) _ _ _
  refine wpAny_execs_cons (plainObj_wpAny_Assign_Attribute ?_)
  refine ldC (v := v) hn (by first | rfl | with_unfolding_all rfl | kernel_rfl) (ldC (v := .ref x) hn (by first | rfl | with_unfolding_all rfl | kernel_rfl) ?_)
  refine set_plain X1 (ox := excObj C t0 none .none) (od := none) ⟨hx1, rfl, rfl, trivial⟩ T.sa ?_
  refine store_new X1 hx1 T.ov T.tk T.hdC fun h3 tk3 dx M => ?_
  show wpAny _ _ (execs _ _) _ _ _
  have z : s.heap.objs.size < h1.objs.size := hn.lt
  exact wpAny_execs_nil (hq h3 tk3 dx ⟨fun b o hb e => M.keep b o hb (k b o e), M.obj, Nat.le_of_lt (Nat.lt_of_lt_of_le z M.dbig), M.dne, M.ns⟩)
theorem made_ok (T : ETxt K mg cn qi C fI) {v : Value} (X : K.In s.heap) (hlim : s.heap.NoLimit) (hroom : A.depth + 1 < recursionLimit)
    (hq : ∀ h' tk e d, MadeE s.heap h' e C d "given" v → R (.ok (.ret (.ref e))) { s with heap := h', toks := tk }) :
    codeAny (model prog w) A (.call (.ref C) ⟨[v], []⟩) R s := by
  obtain ⟨nm, q, N, bs, bm, sn, sub, ab, col, dd, k0, k1, k2, k3, k5, hC, hbm⟩ := T.cls
  obtain ⟨hp, g, dr, tk, os⟩ := s
  have k : ∀ b o, hp.get? b = some o → ((hp.push (kdv_tup [v])).push (excO C hp.objs.size)).get? b = some o := fun b o e => Heap.get?_push_of_some _ (Heap.get?_push_of_some _ e)
  have hget : ((hp.push (kdv_tup [v])).push (excO C hp.objs.size)).get? (hp.objs.size + 1) = some (excO C hp.objs.size) := by heap_get
  refine call_own F.excBase_Exception (fun X => excTail_contains X bm hbm) (X _ _ hC) (looks_findIn X T.iC) (fun self => bind_fn X self T.tC) (one_fits v) ?_
  refine init_ok (s := ⟨(hp.push (kdv_tup [v])).push (excO C hp.objs.size), g, dr, tk, os⟩) T (X.keeps k) (hlim.keeps k) hget ?_ fun h' tk' dx M => ?_
  · show A.depth + 1 < recursionLimit
    exact hroom
  · have old : ∀ b o, hp.get? b = some o → h'.get? b = some o := fun b o e => M.keep b o (Nat.ne_of_lt (Nat.lt_succ_of_lt (Heap.lt_size e))) (k b o e)
    have z : hp.objs.size + 1 + 1 ≤ dx := by
      have q := M.dbig
      first
        | exact q
        | (rw [Heap.size_push, Heap.size_push] at q; exact q)
        | (simpa only [Heap.size_push] using q)
    exact ⟨rfl, hq h' tk' (hp.objs.size + 1) dx ⟨old, Nat.le_succ _, ⟨_, M.obj⟩, Nat.le_trans (Nat.le_trans (Nat.le_succ _) (Nat.le_succ _)) z, M.dne, M.ns⟩⟩
end
end ErrX
namespace L2
open PySem PySem.Spec PyProof.Rows
/-- the own dict of an error that keeps v -/
abbrev gvn (v : V) : List (Str × V) := [(("given" : Str), v)]
theorem relO_gvn {v : V} {v' : Value} (r : RelV v v') (f : Str) : RelO (List.lookup f (gvn v)) (if f = "given" then some v' else none) := by
  have e := lookup_put "given" f v []
  show RelO (List.lookup f [(("given" : Str), v)]) _
  rw [e]
  by_cases h : f = "given"
  · rw [if_pos h, if_pos h]; exact r
  · rw [if_neg h, if_neg h]; trivial
section
variable {X : Cx} {C fI : Addr} {cn qi : Str}
/-- C(e) -/
def tMkE (C : Addr) (ta : TA) : St → Hp → XK → Prop := fun σ H Q => ta σ H fun vs H1 => ∃ v, vs = [v] ∧ ∀ d, H1 d = none → Q (.ref C) (some d) (upd H1 d (.xd (gvn v)))
theorem pmk_err {a : Expr} {ta : TA} {p pos : Pos} {k : Nat} (T : ErrX.ETxt X.K X.mg cn qi C fI) (hr : Room k X.A) (ha : PA X [a] ta) (hg : Gl X cn) (hdb : (cn == ("__debug__" : Str)) = false)
    (he : starEach (a :: []) X.env = (false, eval a X.env) :: starEach [] X.env := by rfl) (hpl : (backTo pos (starEach [] X.env)).any (·.1) = false := by rfl) :
    PMk X (.Call (.Name cn p) [a] [] pos) (tMkE C ta) := by
  intro pins s σ H Q I h
  refine wpAny_Call_Name_kw (ld_glob I hg T.gC ?_ hdb)
  refine PySem.W.callWith_K (h₀ := X.base) I.ok.mod.kin T.kC (thn (ha.run pos pins s σ H _ I h) fun us s1 hh => ?_) he hpl
  obtain ⟨vs, H1, I1, r1, v, ev, q1⟩ := hh
  subst ev
  refine ⟨I1.kIn, ?_⟩
  cases r1 with
  | cons rv rn =>
    rename_i v' us'
    cases rn
    show wpAny _ _ (call (.ref C) [v']) _ _ _
    have hlim := I1.nolimit
    obtain ⟨hp, g, dr, tk, os⟩ := s1
    refine wpAny_call (ErrX.made_ok T I1.kIn hlim (by have := hr.dp; omega) fun h' tk' e d M => ?_)
    show MkP X pins σ Q (.ref e) ⟨h', g, dr, tk', os⟩
    obtain ⟨t, hoe⟩ := M.obj
    have hns := M.ns
    obtain ⟨G', g1, g2⟩ := restrict h' fun b => decide (b ≠ e)
    have gk : ∀ b, b ≠ e → G'.get? b = h'.get? b := fun b hb => g1 b (decide_eq_true hb)
    have ge : G'.get? e = none := g2 e (by simp)
    have old : ∀ b o, hp.get? b = some o → G'.get? b = some o := fun b o q => (gk b (Nat.ne_of_lt (Nat.lt_of_lt_of_le (Heap.lt_size q) M.new))).trans (M.keep b o q)
    have ob : ObjOk X.prog X.w (upd H1 d (.xd (gvn v))) G' d (.xd (gvn v)) :=
      ⟨_, hns.at (fun o q => (gk d M.dne).trans q), fun f => relO_gvn rv f⟩
    have J : Inv X pins σ (upd H1 d (.xd (gvn v))) ⟨G', g, dr, tk', os⟩ := I1.laid (t' := tk') old M.dbig ob
    refine ⟨e, _, _, ⟨G', g, dr, tk', os⟩, _, .ref C, some d, rfl, J, fun b o q => ?_, ge, hoe, ⟨rfl, rfl⟩, rfl, rfl, ?_, rfl, I1.bare, raises_own T.exC T.tyC, q1 d (I1.hok.fresh M.dbig)⟩
    · by_cases hb : b = e
      · have q' : G'.get? b = some o := q
        rw [hb, ge] at q'; cases q'
      · exact (gk b hb).symm.trans q
    · rw [upd_ne (Ne.symm M.dne)]
      exact I1.hok.fresh M.new
/-- raise C(e) -/
def tRaiseE (C : Addr) (W : WX) (ta : TA) : TS := fun _ σ H => tMkE C ta σ H fun cls d H' => W cls d σ H'
theorem ps_raiseE {a : Expr} {ta : TA} {W : WX} {p pos pos2 : Pos} {k : Nat} (hc : X.calm = true) (T : ErrX.ETxt X.K X.mg cn qi C fI) (hr : Room k X.A) (tk : Takes X W) (ha : PA X [a] ta) (hg : Gl X cn := by rfl) (hdb : (cn == ("__debug__" : Str)) = false := by decide)
    (he : starEach (a :: []) X.env = (false, eval a X.env) :: starEach [] X.env := by rfl) (hpl : (backTo pos (starEach [] X.env)).any (·.1) = false := by rfl) :
    PS X (.Raise (some (.Call (.Name cn p) [a] [] pos)) none pos2) (tRaiseE C W ta) := ps_raise hc tk (pmk_err T hr ha hg hdb he hpl)
/-- e.given, e the error that the suite holds (at a; its class cls, its dict d) -/
def tGvn (C : Addr) (a : Addr) (cls : Value) (d : Option Addr) (te : TE) : TE := fun σ H Q => te σ H fun x H1 => x = .ref a ∧ cls = .ref C ∧ ∃ (dd : Addr) (v : V), d = some dd ∧ H1 dd = some (.xd (gvn v)) ∧ Q v H1
theorem pe_gvn {a : Addr} {oe : Obj} {cls : Value} {d : Option Addr} {pn : List (Addr × Obj)} {e : Expr} {te : TE} {pos : Pos} (T : ErrX.ETxt X.K X.mg cn qi C fI) (hz : Zc cls d oe) (hf : ∃ vs, oe.data = .fields vs) (he : PE (X.suite a ((a, oe) :: pn)) e te)
    (hb : attributeBase e "given" X.env (eval e X.env) = eval e X.env := by rfl) :
    PE (X.suite a ((a, oe) :: pn)) (.Attribute e "given" pos) (tGvn C a cls d te) := by
  refine ⟨fun pins s σ H Q I h => ?_⟩
  refine attr_of hb (thn (he.run pins s σ H _ I h) fun u s1 hh => ?_)
  obtain ⟨x, H1, I1, rx, ex, ec, dd, v, ed, ea, q⟩ := hh
  subst ex
  obtain rfl : u = Value.ref a := rx
  subst ec
  subst ed
  obtain ⟨ha, _⟩ := I1.pin (a, oe) (List.mem_append_left _ List.mem_cons_self)
  obtain ⟨vs, hd⟩ := hf
  have hx : ObjOk X.prog X.w H1 s1.heap dd (.xd (gvn v)) := I1.hok dd _ ea
  obtain ⟨mA, hns, hr⟩ := hx
  obtain ⟨od, ho, hl⟩ := lookIn_ns hns
  have l : List.lookup ("given" : Str) (gvn v) = some v := by
    show List.lookup ("given" : Str) [(("given" : Str), v)] = some v
    rw [lookup_put, if_pos rfl]
  obtain ⟨u, hu, ru⟩ := RelO.some_of (v := v) (o := mA "given") (by rw [← l]; exact hr "given")
  have J : PySem.W.InstAt s1.heap a oe C (some od) := ⟨ha, hz.1, by unfold PySem.W.notCls; rw [hd] <;> rfl, by rw [hz.2]; exact ho⟩
  exact HandSPX.exc_get I1.kIn J T.ga T.gg T.exC (PySem.W.findObj_own T.hdC T.noN rfl (by rw [hl, hu])) (handed_of ru) ⟨v, H1, I1.tok _, ru, q⟩
end
end L2

set_option Elab.async false
set_option linter.all false
set_option maxRecDepth 100000
set_option maxHeartbeats 2000000
/-! Further rules over the hand layer: texts by their codes, three numbers' max and min, repr of data. -/
namespace L2
open PySem PySem.Spec PyProof.Rows
/-! ### texts by their codes -/
abbrev cs (x : Str) : List Nat := x.cps.toList
def S (l : List Nat) : Str := ⟨l.toArray⟩
theorem S_tl (l : List Nat) : cs (S l) = l := by simp [S, cs]
theorem S_of (z : Str) : S (cs z) = z := by obtain ⟨⟨l⟩⟩ := z; rfl
theorem S_len (l : List Nat) : (S l).length = l.length := by simp [S, Str.length]
theorem S_inj {l m : List Nat} (h : S l = S m) : l = m := by have := congrArg cs h; rwa [S_tl, S_tl] at this
theorem S_app (l m : List Nat) : S l ++ S m = S (l ++ m) := by
  show (⟨l.toArray ++ m.toArray⟩ : Str) = ⟨(l ++ m).toArray⟩
  simp
theorem S_eqV (l m : List Nat) : decide (V.str (S l) = V.str (S m)) = decide (l = m) := by
  by_cases h : l = m
  · subst h; simp
  · rw [decide_eq_false h, decide_eq_false]
    intro e; exact h (S_inj (V.str.inj e))
theorem sIx_some (n d i : Nat) : HT.sIx n d (some ((i : Nat) : Int)) = min i n := HT.sIx_nat n d i
theorem cut_from (l : List Nat) (i : Nat) : cutS (S l) (some (i : Int)) none = S (l.drop i) := by
  show S (((cs (S l)).drop (HT.sIx (S l).length 0 (some (i : Int)))).take (HT.sIx (S l).length (S l).length none - HT.sIx (S l).length 0 (some (i : Int)))) = _
  rw [S_tl, S_len, sIx_some, HT.sIx_none]
  congr 1
  rcases Nat.le_total i l.length with h | h
  · rw [Nat.min_eq_left h, List.take_of_length_le (by rw [List.length_drop]; omega)]
  · rw [Nat.min_eq_right h, Nat.sub_self, List.take_zero, List.drop_of_length_le h]
theorem cut_to (l : List Nat) (i : Nat) : cutS (S l) none (some (i : Int)) = S (l.take i) := by
  show S (((cs (S l)).drop (HT.sIx (S l).length 0 none)).take (HT.sIx (S l).length (S l).length (some (i : Int)) - HT.sIx (S l).length 0 none)) = _
  rw [S_tl, S_len, sIx_some, HT.sIx_none, List.drop_zero, Nat.sub_zero]
  congr 1
  rcases Nat.le_total i l.length with h | h
  · rw [Nat.min_eq_left h]
  · rw [Nat.min_eq_right h, List.take_of_length_le h, List.take_of_length_le (Nat.le_refl _)]
theorem cut_mid (l : List Nat) (i j : Nat) : cutS (S l) (some (i : Int)) (some (j : Int)) = S ((l.drop i).take (j - i)) := by
  show S (((cs (S l)).drop (HT.sIx (S l).length 0 (some (i : Int)))).take (HT.sIx (S l).length (S l).length (some (j : Int)) - HT.sIx (S l).length 0 (some (i : Int)))) = _
  rw [S_tl, S_len, sIx_some, sIx_some]
  congr 1
  rcases Nat.le_total i l.length with h | h
  · rw [Nat.min_eq_left h]
    rcases Nat.le_total j l.length with h2 | h2
    · rw [Nat.min_eq_left h2]
    · rw [Nat.min_eq_right h2, List.take_of_length_le (by rw [List.length_drop]; omega), List.take_of_length_le (by rw [List.length_drop]; omega)]
  · rw [Nat.min_eq_right h, List.drop_of_length_le h, List.drop_of_length_le (Nat.le_refl _)]
    simp
theorem atI_S {l : List Nat} {i : Nat} {c : Nat} (h : l[i]? = some c) : atI (S l).cps.toList (i : Int) = some c := by
  show atI (cs (S l)) (i : Int) = some c
  rw [S_tl]
  exact atI_nat h
/-! ### what a text is -/
def low (c : Nat) : Bool := decide (97 ≤ c) && decide (c ≤ 122)
theorem ascii_facts : ∀ c : Fin 128, Unicode.isAlpha c.val = (low c.val || (decide (65 ≤ c.val) && decide (c.val ≤ 90))) ∧ Unicode.isLower c.val = low c.val ∧ (Unicode.isUpper c.val || Unicode.isTitle c.val) = (decide (65 ≤ c.val) && decide (c.val ≤ 90)) := by
  decide +kernel
theorem istext_eq (z : Str) : (decide (V.str z = V.str (Str.ofString "")) || (Txt.isascii z && Txt.isalpha z && Txt.islower z)) = (cs z).all low := by
  obtain ⟨⟨l⟩⟩ := z
  have e0 : (V.str (⟨⟨l⟩⟩ : Str) = V.str (Str.ofString "")) ↔ l = [] := by
    constructor
    · intro h
      have h2 := congrArg cs (V.str.inj h)
      exact h2
    · intro h; subst h; rfl
  show (decide _ || ((l.toArray.all (· < 128)) && (decide (l.toArray.size > 0) && l.toArray.all Unicode.isAlpha) && (l.toArray.any Unicode.isLower && !l.toArray.any fun c => Unicode.isUpper c || Unicode.isTitle c))) = l.all low
  have ea : ∀ p : Nat → Bool, (l.toArray).all p = l.all p := fun p => by rw [← Array.all_toList]
  have eb : ∀ p : Nat → Bool, (l.toArray).any p = l.any p := fun p => by rw [← Array.any_toList]
  have ec : (⟨l⟩ : Array Nat) = l.toArray := rfl
  simp only [ea, eb]
  simp only [List.size_toArray]
  clear ea eb ec
  cases l with
  | nil => rw [decide_eq_true (e0.mpr rfl)]; rfl
  | cons a r =>
    rw [decide_eq_false (fun h => by cases e0.mp h), Bool.false_or]
    generalize hl : a :: r = l
    have hne : l ≠ [] := by rw [← hl]; simp
    have F : ∀ c ∈ l, c < 128 → Unicode.isAlpha c = (low c || (decide (65 ≤ c) && decide (c ≤ 90))) ∧ Unicode.isLower c = low c ∧ (Unicode.isUpper c || Unicode.isTitle c) = (decide (65 ≤ c) && decide (c ≤ 90)) := fun c _ hc => ascii_facts ⟨c, hc⟩
    rw [Bool.eq_iff_iff]
    simp only [Bool.and_eq_true, List.all_eq_true, List.any_eq_true, Bool.not_eq_true', List.any_eq_false, decide_eq_true_eq]
    constructor
    · rintro ⟨⟨h1, _, h2⟩, _, h3⟩ c hc
      obtain ⟨f1, f2, f3⟩ := F c hc (h1 c hc)
      have q2 := h2 c hc
      have q3 := h3 c hc
      rw [f1] at q2
      rw [f3] at q3
      simp only [Bool.or_eq_true] at q2
      rcases q2 with q2 | q2
      · exact q2
      · exact absurd q2 q3
    · intro h
      have hb : ∀ c ∈ l, c < 128 := fun c hc => by
        have := h c hc
        unfold low at this
        simp only [Bool.and_eq_true, decide_eq_true_eq] at this
        omega
      refine ⟨⟨hb, by rw [← hl]; simp, fun c hc => ?_⟩, ?_, fun c hc => ?_⟩
      · rw [(F c hc (hb c hc)).1, h c hc, Bool.true_or]
      · obtain ⟨c, hc⟩ := List.exists_mem_of_ne_nil l hne
        exact ⟨c, hc, by rw [(F c hc (hb c hc)).2.1]; exact h c hc⟩
      · rw [(F c hc (hb c hc)).2.2]
        have := h c hc
        unfold low at this
        simp only [Bool.and_eq_true, decide_eq_true_eq] at this
        simp; omega
/-! ### calls -/
theorem nuMax3_int (i j k : Int) : nuMax3 (.int i) (.int j) (.int k) = some (.int (max (max i j) k)) := by
  have h2 : ∀ a b : Int, nuMax2 (.int a) (.int b) = some (.int (max a b)) := fun a b => by
    show Option.map (fun c => if c = true then V.int b else V.int a) (some (decide (a < b))) = some (V.int (max a b))
    by_cases h : a < b
    · rw [decide_eq_true h]; simp; omega
    · rw [decide_eq_false h]; simp; omega
  unfold nuMax3
  rw [h2]
  exact h2 _ _
theorem nuMin3_int (i j k : Int) : nuMin3 (.int i) (.int j) (.int k) = some (.int (min (min i j) k)) := by
  have h2 : ∀ a b : Int, nuMin2 (.int a) (.int b) = some (.int (min a b)) := fun a b => by
    show Option.map (fun c => if c = true then V.int b else V.int a) (some (decide (b < a))) = some (V.int (min a b))
    by_cases h : b < a
    · rw [decide_eq_true h]; simp; omega
    · rw [decide_eq_false h]; simp; omega
  unfold nuMin3
  rw [h2]
  exact h2 _ _
def rMax3 : List V → Hp → VK → Prop := fun xs H Q => ∃ i j k, xs = [.int i, .int j, .int k] ∧ Q (.int (max (max i j) k)) H
def rMin3 : List V → Hp → VK → Prop := fun xs H Q => ∃ i j k, xs = [.int i, .int j, .int k] ∧ Q (.int (min (min i j) k)) H
theorem call_max3 {X : Cx} (hc : X.calm = true) : CallR X (.builtin "max") rMax3 := fun pins s σ H xs us Q I r h => by
  obtain ⟨i, j, k, rfl, q⟩ := h
  exact call_max3Nu hc pins s σ H _ us Q I r ⟨_, _, _, _, rfl, nuMax3_int i j k, q⟩
theorem call_min3 {X : Cx} (hc : X.calm = true) : CallR X (.builtin "min") rMin3 := fun pins s σ H xs us Q I r h => by
  obtain ⟨i, j, k, rfl, q⟩ := h
  exact call_min3Nu hc pins s σ H _ us Q I r ⟨_, _, _, _, rfl, nuMin3_int i j k, q⟩
/-! ### repr of data: Dp, and an empty dict -/
def Dr (K : PySem.W.Frag) (H : Hp) (x : V) (d : PyData) : Prop := Dp K H x d ∨ ∃ a, x = .ref a ∧ H a = some (.dK []) ∧ d = .dict []
def rRepr (K : PySem.W.Frag) : List V → Hp → VK → Prop := fun xs H Q => ∃ x d, xs = [x] ∧ Dr K H x d ∧ d.showable = true ∧ d.depth ≤ 60 ∧ d.shown.length ≤ sizeLine ∧ Q (.str d.shown) H
theorem hasDict_dp {K : PySem.W.Frag} {H : Hp} : (∀ {x d}, Dp K H x d → d.hasDict = false) ∧ (∀ {xs ds}, DpAll K H xs ds → PyData.hasDictAll ds = false) := by
  constructor
  · intro x d h
    exact Dp.rec (motive_1 := fun _ d _ => d.hasDict = false) (motive_2 := fun _ ds _ => PyData.hasDictAll ds = false) rfl (fun _ => rfl) (fun _ => rfl) (fun _ => rfl)
      (fun _ _ ih => by unfold PyData.hasDict; exact ih) (fun _ _ ih => by unfold PyData.hasDict; exact ih) rfl (fun _ _ i1 i2 => by unfold PyData.hasDictAll; rw [i1, i2]; rfl) h
  · intro x d h
    exact DpAll.rec (motive_1 := fun _ d _ => d.hasDict = false) (motive_2 := fun _ ds _ => PyData.hasDictAll ds = false) rfl (fun _ => rfl) (fun _ => rfl) (fun _ => rfl)
      (fun _ _ ih => by unfold PyData.hasDict; exact ih) (fun _ _ ih => by unfold PyData.hasDict; exact ih) rfl (fun _ _ i1 i2 => by unfold PyData.hasDictAll; rw [i1, i2]; rfl) h
end L2
namespace L2
open PySem PySem.Spec PyProof.Rows
section
variable {X : Cx}
theorem call_repr (hc : X.A.guards = some []) (hu : X.A.units + 64 < cLine) : CallR X (.builtin "repr") (rRepr X.K) := by
  intro pins s σ H xs us Q I r h
  obtain ⟨x, d, rfl, hd, hs, hdp, hz, q⟩ := h
  cases r with
  | cons r1 rn =>
    rename_i u us'
    cases rn
    rcases hd with hd | ⟨a, rfl, ha, rfl⟩
    · obtain ⟨as, rd⟩ := Dp.reads I d x u hd r1
      cases hd with
      | non => cases rd; exact P.repr_of_none ⟨.str _, H, I.tok _, ⟨_, rfl⟩, q⟩
      | bl b => cases rd; exact P.repr_of_bool ⟨.str _, H, I.tok _, ⟨_, rfl⟩, q⟩
      | int i =>
        cases rd
        have hi : i.natAbs.log2 < 1920 := of_decide_eq_true hs
        exact P.repr_of_int hi ⟨.str _, H, I.tok _, ⟨_, rfl⟩, q⟩
      | str z => cases rd; exact P.repr_of_str ⟨.str _, H, I.tok _, ⟨_, rfl⟩, q⟩ hz
      | lst h1 h2 =>
        obtain rfl : u = Value.ref _ := r1
        have hh : PyData.hasDict _ = false := hasDict_dp.1 (Dp.lst h1 h2)
        exact repr_of_reads' rd hs (fun e => by rw [hh] at e; cases e) hc (by omega) (fun _ _ e => e) (fun h' u tk k => ⟨.str _, H, I.kept k, ⟨_, rfl⟩, q⟩) hz
      | tup h1 h2 =>
        obtain rfl : u = Value.ref _ := r1
        have hh : PyData.hasDict _ = false := hasDict_dp.1 (Dp.tup h1 h2)
        exact repr_of_reads' rd hs (fun e => by rw [hh] at e; cases e) hc (by omega) (fun _ _ e => e) (fun h' u tk k => ⟨.str _, H, I.kept k, ⟨_, rfl⟩, q⟩) hz
    · obtain rfl : u = Value.ref a := r1
      obtain ⟨_, hsys, vs, hkv, od, es, ep, hget, hcl, hdat, hko, hps, _⟩ : ObjOk X.prog X.w H s.heap a (.dK []) := I.hok a _ ha
      cases hkv
      have he : es.toList = [] := by
        generalize es.toList = l at hps
        cases hps; rfl
      have rd : Reads s.heap (.ref a) (.dict []) (a :: [] ++ []) := .dict hget hcl.1 hdat (by rw [he]; exact .nil) (by rw [he]; exact .nil)
      refine repr_of_reads' rd hs (fun _ hm => ?_) hc (by omega) (fun _ _ e => e) (fun h' u tk k => ⟨.str _, H, I.kept k, ⟨_, rfl⟩, q⟩) hz
      have e : sysModules = a := by simpa using hm
      rw [← e] at hsys
      exact absurd hsys (by decide)
end
end L2
namespace L2
open PySem PySem.Spec PyProof.Rows
section
variable {X : Cx}
theorem op_mul_str : OpR X (binaryOp .Mult) (fun x y H Q => ∃ z k, x = .str z ∧ y = .int k ∧ MulOk z k ∧ Q (.str (Txt.mul z k)) H) := by
  intro pins s σ H x y v u Q I rx ry h
  obtain ⟨z, k, rfl, rfl, hz, q⟩ := h
  obtain ⟨t, rfl⟩ := rx
  obtain ⟨t', rfl⟩ := ry
  exact SB.mul hz fun t2 k2 => ⟨.str _, H, I.tok _, ⟨_, rfl⟩, q⟩
/-- f(k = v, ..) by keywords alone, what is raised wished for at the slots -/
def tCallKS (sp : Sp) (gV : List V → List V → List V) (E : St → XK) (tk : TA) : TE := fun σ H Q => tk σ H fun zs H1 => sp (gV [] zs) H1 Q (E σ)
theorem pe_callKS {CX : CXT} {k : Nat} {f : Addr} {fd : FuncData} {ps ks : List Str} {sp : Sp} {E : St → XK} {x : Str} {p pos : Pos} {kws : List Keyword} {tk : TA} {g : List Value → List Value → List Value} {gV : List V → List V → List V}
    (F : FnOk X.prog X.w X.K X.mg X.base CX k f fd ps sp) (hr : Room k X.A) (hg : Gl X x) (hm : X.mg x = some (.ref f)) (hk : PySem.W.keepIn X.K (.ref f) = true) (hb : KBinds X.K fd ps ks g gV) (hx : ∀ σ, PassesAt CX X σ (E σ))
    (hkw : PK X kws tk) (hall : (backToKw pos (keywordEach kws X.env)).all (·.1.isSome) = true := by rfl) (hks : (backToKw pos (keywordEach kws X.env)).filterMap (·.1) = ks := by rfl)
    (hdb : (x == ("__debug__" : Str)) = false := by decide) (hpl : ((backTo pos (starEach [] X.env)).any (·.1) || (backToKw pos (keywordEach kws X.env)).any (·.1.isNone)) = false := by rfl) :
    PE X (.Call (.Name x p) [] kws pos) (tCallKS sp gV E tk) := by
  constructor
  intro pins s σ H Q I h
  apply wpAny_Call_Name_kw (ld_glob I hg hm ?_ hdb)
  apply PySem.W.callWith_KW0 (h₀ := X.base) I.ok.mod.kin hk hall (thn (hkw.run pos pins s σ H _ I h) ?_) hpl
  rintro ws s1 ⟨zs, H1, I1, rz, q⟩
  refine ⟨I1.kIn, ?_⟩
  rw [hks]
  have r2 := hb.rel (vs := []) (us := []) .nil rz
  have hl : (g [] ws).length = ps.length := (r2.length).symm.trans (F.len _ _ _ _ q)
  apply wpAny_call
  apply codeAny_mono (F.run X.A X.stack s1 H1 ⟨[], ks.zip ws⟩ (g [] ws) (gV [] zs) Q (E σ) hr I1.env0 (hb.to s1 [] ws I1.kIn hl) r2 q)
  intro r s' hq
  match r, hq with
  | .error er, hq => exact hx σ pins H1 s1 er s' I1 hq
  | .ok (.ret u), hq => exact I1.after hq
  | .ok .next, hq => exact hq.elim
  | .ok .brk, hq => exact hq.elim
  | .ok .cont, hq => exact hq.elim
end
end L2

set_option Elab.async false
set_option linter.all false
set_option maxRecDepth 100000
set_option maxHeartbeats 2000000
/-! Defs that call repr: the promise is shown only where no repr is running around the call. -/
namespace L2
open PySem PySem.Spec PyProof.Rows
/-- as FnOk, where no guard stands around -/
structure FnG (P : Program) (w : World) (K : PySem.W.Frag) (mg : Str → Option Value) (base : Heap) (CX : CXT) (k : Nat) (f : Addr) (fd : FuncData) (ps : List Str) (sp : Sp) : Prop where
  len : ∀ vs H Q E, sp vs H Q E → vs.length = ps.length
  run : ∀ (A : Around) (outer : List Env) (s : Shared) (H : Hp) (args : Args) (us : List Value) (vs : List V) (Q : VK) (E : XK), A.guards = some [] → Room k A → Env0 P w K mg base A outer s H →
    BindsTo s fd args (ps.zip us) → Vals vs us → sp vs H Q E → codeAny (model P w) A (.call (.ref f) args) (CR CX outer P w H s Q E) s
theorem FnOk.toG {P : Program} {w : World} {K : PySem.W.Frag} {mg : Str → Option Value} {base : Heap} {CX : CXT} {k : Nat} {f : Addr} {fd : FuncData} {ps : List Str} {sp : Sp} (F : FnOk P w K mg base CX k f fd ps sp) : FnG P w K mg base CX k f fd ps sp :=
  ⟨F.len, fun A outer s H args us vs Q E _ hr => F.run A outer s H args us vs Q E hr⟩
section
variable {X : Cx} {CX : CXT} {k : Nat} {f : Addr} {fd : FuncData} {ps : List Str} {sp : Sp} {dvs : List V} {ds : List Value} {E : XK} {x : Str} {p pos : Pos} {e : Expr} {es : List Expr} {t : TA}
theorem pe_callG (F : FnG X.prog X.w X.K X.mg X.base CX k f fd ps sp) (hgd : X.A.guards = some []) (hr : Room k X.A) (hg : Gl X x) (hm : X.mg x = some (.ref f)) (hk : PySem.W.keepIn X.K (.ref f) = true) (hb : Binds X.K fd ps ds) (hd : Vals dvs ds) (hx : Passes CX X E)
    (ha : PA X (e :: es) t) (hdb : (x == ("__debug__" : Str)) = false := by decide) (he : starEach (e :: es) X.env = (false, eval e X.env) :: starEach es X.env := by rfl) (hpl : (backTo pos (starEach es X.env)).any (·.1) = false := by rfl) :
    PE X (.Call (.Name x p) (e :: es) [] pos) (tCall sp dvs E t) := by
  constructor
  intro pins s σ H Q I h
  apply wpAny_Call_Name_kw (ld_glob I hg hm ?_ hdb)
  apply PySem.W.callWith_K (h₀ := X.base) I.ok.mod.kin hk (thn (ha.run pos pins s σ H _ I h) ?_) he hpl
  rintro us s1 ⟨vs, H1, I1, rv, q⟩
  refine ⟨I1.kIn, ?_⟩
  have r2 : Vals (vs ++ dvs) (us ++ ds) := rv.append hd
  have hl : (us ++ ds).length = ps.length := (r2.length).symm.trans (F.len _ _ _ _ q)
  apply wpAny_call
  apply codeAny_mono (F.run X.A X.stack s1 H1 ⟨us, []⟩ (us ++ ds) (vs ++ dvs) Q E hgd hr I1.env0 (hb s1 us I1.kIn hl) r2 q)
  intro r s' hq
  match r, hq with
  | .error er, hq => exact hx pins σ H1 s1 er s' I1 hq
  | .ok (.ret u), hq => exact I1.after hq
  | .ok .next, hq => exact hq.elim
  | .ok .brk, hq => exact hq.elim
  | .ok .cont, hq => exact hq.elim
end
theorem deeper_guards {A : Around} {env : Env} : (A.deeper env).guards = A.guards := rfl
section
variable {P : Program} {w : World} {K : PySem.W.Frag} {mg : Str → Option Value} {base : Heap}
/-- the rule for a def, where no guard stands around -/
theorem Fun.okG {x qual : Str} {st : Stmt} {f : Addr} {fd : FuncData} {N ps : List Str} {k : Nat} {sp : Sp} (F : Fun K x qual st f fd) (S : FnScope N ps (defScope st)) (len : ∀ vs H Q E, sp vs H Q E → vs.length = ps.length)
    (hbody : ∀ (cdv : Value) (A : Around) (outer : List Env) (s : Shared) (H : Hp) (vs : List V) (Q : VK) (E : XK), (A.deeper (envOfC qual (defScope st) s.heap.objs.size f cdv)).guards = some [] → Room k (A.deeper (envOfC qual (defScope st) s.heap.objs.size f cdv)) → sp vs H Q E →
      ∃ t, PSs (cxOf CX0 P w K mg base N qual (defScope st) f cdv A outer s H E).nox (defBody st) t ∧ t { nx := fun _ H' => Q .non H', rt := Q } (start N vs) H) : FnG P w K mg base CX0 (k + 1) f fd ps sp := by
  obtain ⟨oc, od, kV, doc, pm, an, cdv, ct, osl, rfl, lk, hcd⟩ := F.ex
  refine ⟨len, fun A outer s H args us vs Q E hgd hr e0 hb r hsp => ?_⟩
  have KX : K.In s.heap := e0.mod.kin.keeps fun b o e => (e0.bs b o e).1
  have lim : s.heap.NoLimit := e0.mod.nolimit.keeps fun b o e => (e0.bs b o e).1
  apply codeAny_call_function hr.depth (KX _ _ lk) rfl S.co S.gen rfl (PySem.W.codeRec_of KX hcd) (hb _ _ _ _ ?_)
  apply wpAny_newFunctionEnv_cells S.kind ?_ ?_
  · rintro ⟨n, v⟩ hy
    rcases S.par n (List.of_mem_zip hy).1 with q | q
    · exact Or.inl q
    · exact Or.inr ⟨q, PySem.W.cellsFrom_some _ _ _ (Or.inl q)⟩
  · intro env he s1 x
    subst he
    refine ⟨lim.keeps x.toInCall.keep, codeAny_func ?_⟩
    obtain ⟨t, ht, hq⟩ := hbody cdv A outer s H vs Q E (deeper_guards.trans hgd) (hr.deeper _) hsp
    have I := inv_start (CX := CX0) (E := E) S hr.hd e0 (len _ _ _ _ hsp) r x
    apply wpAny_mono (ht.nox.run [] s1 (start N vs) H _ I hq) ?_ fun e s' hs => hs
    intro fl s' hs
    match fl, hs with
    | .ret u, ⟨v, σ', H', J, rv, q⟩ => exact ⟨v, H', J.os, J.bare, J.base, J.hok, rv, q⟩
    | .next, ⟨σ', H', J, q⟩ => exact ⟨V.non, H', J.os, J.bare, J.base, J.hok, rfl, q⟩
    | .brk, ⟨_, _, _, q⟩ => exact q.elim
    | .cont, ⟨_, _, _, q⟩ => exact q.elim
end
end L2
namespace L2
open PySem PySem.Spec PyProof.Rows
section
variable {P : Program} {w : World} {K : PySem.W.Frag} {mg mb : Str → Option Value} {k : Nat} {fa a : Addr} {fd : FuncData} {x : Str} {sp : Sp} {s1 : Shared} {vs : List Value} {ns : List Int}
/-- the law's call, H telling nothing but, maybe, the script at a -/
theorem enterG {H : Hp} (KX : K.In s1.heap) (hns : s1.heap.Ns mainGlobals mg) (hb : s1.heap.Ns builtinsNs mb) (hbb : ∀ x : Str, x ≠ "__name__" → mb x = bootBuiltins x) (hlim : s1.heap.NoLimit) (hg : s1.gens = #[])
    (ha : s1.heap.get? a = some { cls := .type "list", data := .seq vs.toArray }) (hr : Room k callerA)
    (F : ∀ base : Heap, K.In base → base.Ns mainGlobals mg → FnG P w K mg base CX0 k fa fd [x] sp) (hbind : ∀ (s : Shared) (u : Value), BindsTo s fd ⟨[u], []⟩ [(x, u)])
    (hO : Only H) (hok : HOk P w H s1.heap) (hA : ∀ b, H b ≠ none → b = a) (hK : ∀ b o, K.lookup b = some o → H b = none) (hsp : sp [.ref a] H (fun v _ => v = .bl true) fun _ _ _ => False) :
    codeAny (model P w) callerA (.call (.ref fa) ⟨[.ref a], []⟩) (fun r s' => r = .ok (.ret (.bool true)) ∧ OldK s1.heap s'.heap ∧ s'.os = s1.os ∧ AllBare s'.gens) s1 := by
  have nsK : ∀ {b : Addr} {m : Str → Option Value}, s1.heap.Ns b m → (hidT s1.heap H).Ns b m := by
    rintro b m ⟨o, es, ep, e, d, r⟩
    have n : H b = none := by
      cases q : H b with
      | none => rfl
      | some u =>
        have z := hA b (by rw [q]; exact fun z => nomatch z)
        rw [z, ha] at e
        rw [← Option.some.inj e] at d
        exact nomatch d
    exact ⟨o, es, ep, hidT_get e n, d, r⟩
  have hKb : K.In (hidT s1.heap H) := fun b o e => hidT_get (KX b o e) (hK b o e)
  have e0 : Env0 P w K mg (hidT s1.heap H) callerA [] s1 H :=
    { frames := rfl, mod := ⟨hKb, nsK hns, ⟨mb, nsK hb, hbb⟩, hlim.elim fun mc h => ⟨mc, nsK h.1, h.2⟩⟩, bs := fun b o e => of_hidT e, bsz := Nat.le_of_eq (hidT_size _ _), funs := trivial, frf := fun b hb => (List.not_mem_nil hb).elim, hok := hok, bare := .of_eq hg }
  apply codeAny_mono ((F _ hKb (nsK hns)).run callerA [] s1 H ⟨[.ref a], []⟩ [.ref a] [.ref a] _ _ rfl hr e0 (hbind s1 (.ref a)) (.cons rfl .nil) hsp)
  intro r s' h
  match r, h with
  | .error e, h =>
    obtain ⟨_, _, _, h⟩ := h
  | .ok .next, h => exact h.elim
  | .ok .brk, h => exact h.elim
  | .ok .cont, h => exact h.elim
  | .ok (.ret u), ⟨v, H', os, bare, un, hok', r', q⟩ =>
    obtain rfl : v = .bl true := q
    obtain rfl : u = Value.bool true := r'
    refine ⟨rfl, OldK.of_keep fun b o e => ?_, os, bare⟩
    rcases hO b with z | ⟨ob, xs, z⟩
    · exact un.keep b o e z (List.not_mem_nil) (List.not_mem_nil)
    · have e1 := (hok b _ z).1
      have e2 := (hok' b _ (un.frzs b ob _ z)).1
      rw [e] at e1
      rw [Option.some.inj e1]
      exact e2
end
/-- the goal that the head leaves, from the law's promise, where the law's def calls repr -/
theorem walk_G {l : PySem.W.OpenLaw} {n k : Nat} {q : Program} {loose : List Str} {XP : (Str → Option Value) → Heap → Prop} {YP : World → Heap → Prop} {d : DefRec} {K : Params → PySem.W.Frag} {sp : PySem.W.Frag → Sp} {x : Str}
    (hn : l.most = some n) (hn2 : n ≤ sizeLine) (hdf : d.params.defaults = []) (hr : Room k callerA)
    (hY : ∀ (w : World) (h : Heap), YP w h → (K w.params).In h)
    (F : ∀ (w : World) (mg : Str → Option Value) (fa : Addr) (h : Heap), (K w.params).In h → h.Ns mainGlobals mg → mg d.name = some (.ref fa) →
      ∃ fd : FuncData, (∀ (s : Shared) (u : Value), BindsTo s fd ⟨[u], []⟩ [(x, u)]) ∧
        ∀ base : Heap, (K w.params).In base → base.Ns mainGlobals mg → FnG l.prog w (K w.params) mg base CX0 k fa fd [x] (sp (K w.params)))
    (hsp : ∀ (K : PySem.W.Frag) (H : Hp) (a : Addr) (ns : List Int), ns.length ≤ n → Only H → SqL K H a (ns.map V.int) → sp K [.ref a] H (fun v _ => v = .bl true) fun _ _ _ => False) :
    PySem.W.WalkO q loose XP YP l.row.toRowW d [] (fun f vs => PySem.call f vs) := by
  refine Att.attach_call hn hdf fun w s0 s1 mg mb fa o pm cd doc a vs ns G Y ho hd hcd hmg hobj hints hlen hg => ?_
  have KX := hY w _ Y
  obtain ⟨fd, hb, hF⟩ := F w mg fa _ KX G.T.g hmg
  have rv := vals_ints hints
  have lenV := hints.length
  have hl := Nat.le_trans hlen hn2
  cases hk : (K w.params).lookup a with
  | some ob =>
    have e := KX a ob hk
    rw [hobj] at e
    have e' := (Option.some.inj e).symm
    subst e'
    refine enterG (H := fun _ => none) KX G.T.g G.T.b G.T.builtins G.T.nolimit hg hobj hr hF hb (fun _ => .inl rfl) (fun b u z => nomatch (show (none : Option HO) = some u from z)) (fun b z => (z rfl).elim) (fun _ _ _ => rfl) ?_
    exact hsp (K w.params) _ a ns hlen (fun _ => .inl rfl) (.inr ⟨_, vs.toArray, _, hk, rfl, rfl, rfl, by rw [List.size_toArray, lenV]; exact hl, by simpa using rv⟩)
  | none =>
    have at_a : (fun b => if b = a then some (HO.frz { cls := .type "list", data := .seq vs.toArray } (.lst (ns.map V.int))) else none) a = some (HO.frz { cls := .type "list", data := .seq vs.toArray } (.lst (ns.map V.int))) := if_pos rfl
    have only : Only (fun b => if b = a then some (HO.frz { cls := .type "list", data := .seq vs.toArray } (.lst (ns.map V.int))) else none) := fun b => by
      by_cases z : b = a
      · exact .inr ⟨_, _, if_pos z⟩
      · exact .inl (if_neg z)
    refine enterG (H := fun b => if b = a then some (HO.frz { cls := .type "list", data := .seq vs.toArray } (.lst (ns.map V.int))) else none) KX G.T.g G.T.b G.T.builtins G.T.nolimit hg hobj hr hF hb only (fun b u z => ?_) (fun b z => ?_) (fun b ob z => ?_) ?_
    · by_cases y : b = a
      · subst y
        have z' := at_a.symm.trans z
        rw [← Option.some.inj z']
        exact ⟨hobj, by rw [List.length_map]; exact hl, vs, _, rv, hobj⟩
      · exact nomatch (if_neg y).symm.trans z
    · by_cases y : b = a
      · exact y
      · exact (z (if_neg y)).elim
    · refine if_neg fun y => ?_
      rw [y, hk] at z
      cases z
    · exact hsp (K w.params) _ a ns hlen only (.inl (.inr ⟨_, at_a⟩))
end L2

set_option Elab.async false
set_option linter.all false
set_option maxRecDepth 100000
set_option maxHeartbeats 2000000
/-! Several clauses 'except .. as e', one behind the other, all of them with one name. -/
namespace L2
open PySem PySem.Spec PyProof.Rows
/-- what stands behind the suite: the name is gone -/
def goneEnds (i : Nat) (D : Ends) : Ends :=
  { nx := fun u G => D.nx (u.set i none) G,
    rt := D.rt,
    bk := fun u G => D.bk (u.set i none) G,
    ct := fun u G => D.ct (u.set i none) G }
abbrev SuiteT := Addr → Value → Option Addr → TS
def wAll (K : PySem.W.Frag) (i : Nat) (Wo : WX) (D : Ends) : List (Value × SuiteT) → WX
  | [] => Wo
  | q :: l => fun cls d σ H =>
    ∃ b, PySem.W.exmOne K cls q.1 = some b ∧
      (b = true → ∀ a, H a = none → q.2 a cls d (goneEnds i D) (σ.set i (some (.ref a))) H) ∧
      (b = false → wAll K i Wo D l cls d σ H)
/-- the clauses and what their suites tell -/
inductive Clauses (X : Cx) (n : Str) : List ExceptHandler → List (Value × SuiteT) → Prop
  | last : Clauses X n [] []
  | more {x : Str} {c : Value} {ts : SuiteT} {b₀ : Stmt} {su : List Stmt} {p1 p2 : Pos} {hl : List ExceptHandler} {l : List (Value × SuiteT)} :
      Names X x c →
      (∀ (a : Addr) (oe : Obj) (cls : Value) (d : Option Addr) (pn : List (Addr × Obj)), Zc cls d oe → (∃ vs, oe.data = .fields vs) →
        PSs (X.suite a ((a, oe) :: pn)) (b₀ :: su) (ts a cls d)) →
      Clauses X n hl l → Clauses X n (.ExceptHandler (some (.Name x p1)) (some n) (b₀ :: su) p2 :: hl) ((c, ts) :: l)
section
variable {X : Cx} {n : Str} {i : Nat} {body : List Stmt} {h₀ : ExceptHandler} {hl : List ExceptHandler} {l : List (Value × SuiteT)} {pos : Pos} {tb : WX → TS} {Wo : WX}
theorem ps_tryAll (eS : X.stack = X.env :: X.outer) (eF : X.env.frame = some X.env.locals) (nd : X.N.Nodup) (ei : X.N[i]? = some n) (en : X.env.kindOf n = some .local) (tk : Takes X Wo)
    (hb : ∀ (W : WX) (pn : List (Addr × Obj)) (xe : Value → Shared → Prop), Takes (X.tr pn xe) W →
      PassesOwn (model X.prog X.w) X.A X.env xe → PSs (X.tr pn xe) body (tb W))
    (hc : Clauses X n (h₀ :: hl) l) :
    PS X (.Try body (h₀ :: hl) [] [] pos) (fun D σ H => tb (wAll X.K i Wo D l) D σ H) := by
  constructor
  intro pins s σ H D I hyp
  have iok := I.ok
  have fr : X.A.frames = some (X.env :: X.outer) := iok.frames.trans (congrArg some eS)
  apply wpAny_Try_except
  let XE : Value → Shared → Prop := fun e s₁ =>
    wpAny (model X.prog X.w) X.A (noteFrame e X.env) (fun _ s₂ =>
      wpAny (model X.prog X.w) X.A (setFlight e none) (fun _ s₃ =>
        wpAny (model X.prog X.w) X.A (handleBy e X.env (h₀ :: hl)) (SP X pins D) X.xe s₃) X.xe s₂) X.xe s₁
  have run := (hb (wAll X.K i Wo D l) (X.pn ++ pins) XE ?_ PassesOwn.looking).run [] s σ H D (I.toTry _) hyp
  · refine wpAny_mono run (fun f s1 sp => ?_) (fun e s1 q => q)
    match f, sp with
    | .next, ⟨u, G, J, q⟩ => exact wpAny_execs_nil ⟨u, G, J.ofTry iok, q⟩
    | .brk, ⟨u, G, J, q⟩ => exact ⟨u, G, J.ofTry iok, q⟩
    | .cont, ⟨u, G, J, q⟩ => exact ⟨u, G, J.ofTry iok, q⟩
    | .ret _, ⟨v, u, G, J, r, q⟩ => exact ⟨v, u, G, J.ofTry iok, r, q⟩
  · -- what flies out of the body
    rintro u s' ⟨a, B, sI, pins', τ, G, cls, d, rfl, J', nb, up, sky, na, os, ag, wish⟩
    have J : Inv X pins τ G sI := J'.ofTry iok
    have sky2 : Sky B (X.env :: X.outer) a (Zc cls d) X.env.locals s'.heap := eS ▸ sky
    show wpAny _ X.A (noteFrame (.ref a) X.env) _ _ _
    apply Sky.land Zc.steady fr eF sky2
    intro g3 fly3 up3
    have J3 : Inv X pins τ G { s' with heap := g3 } := J.landed nb fly3.1 (up.trans up3) os ag
    obtain ⟨o3, v3, at3, z3, d3⟩ := fly3.there
    have off : a ∉ frs (X.env :: X.outer) := by
      intro hm
      obtain ⟨_, o', e', hn⟩ := fly3.2.2.1.mem hm
      rw [at3] at e'
      cases e'
      exact hn _ d3
    have offL : a ≠ X.env.locals := by
      intro z
      exact off (List.mem_filterMap.mpr ⟨X.env, List.mem_cons_self, by rw [eF, z]⟩)
    have offF : a ∉ X.fs := by
      intro hm
      obtain ⟨e, he, q⟩ := List.mem_filterMap.mp hm
      exact off (List.mem_filterMap.mpr ⟨e, List.mem_cons_of_mem _ he, q⟩)
    have S3 := J3.suite at3 d3 na offL offF
    -- clause by clause
    suffices go : ∀ {hs : List ExceptHandler} {k : List (Value × SuiteT)}, Clauses X n hs k → wAll X.K i Wo D k cls d τ G →
        wpAny (model X.prog X.w) X.A (handleBy (.ref a) X.env hs) (SP X pins D) X.xe { s' with heap := g3 } from go hc wish
    intro hs k hk
    induction hk with
    | last =>
      intro out
      apply wpAny_handleBy_nil
      obtain ⟨k1, k2, k3, oe, vs, T, oT, ts', he, hz, hd, h1, hr⟩ := id fly3
      unfold PySem.passOn
      apply wpAny_bind
      apply wpAny_field he hd h1
      rw [if_neg (by simp : ¬ ((Value.ref T == Value.none) = true))]
      have thrown : wpAny (model X.prog X.w) X.A (setFlight (.ref a) X.env.frame) (fun _ s4 =>
          wpAny (model X.prog X.w) X.A (throw (.ref a) : Sem Flow) (SP X pins D) X.xe s4) X.xe { s' with heap := g3 } := by
        rw [eF]
        apply HandSPX.setFlight_upZ fly3
        intro g4 fly4 up4
        apply wpAny_throw
        apply tk
        exact ⟨a, B, sI, pins, τ, G, cls, d, rfl, J, nb, (up.trans up3).trans up4, .inr (.inr (eS ▸ fly4)), na, os, ag, out⟩
      first
        | exact wpAny_bind (wpAny_pure (wpAny_bind thrown))
        | exact wpAny_bind thrown
    | @more x c ts b₀ su p1 p2 hl2 l2 nm suite _ ih =>
      rintro ⟨b, eb, yes, no⟩
      have looks : PySem.W.Looks (model X.prog X.w) g3 (typeOf (.ref a)) cls := by
        intro A' Q' E' t k q
        exact wpAny_typeOf_ref (k _ _ at3) (by rw [z3.1]; exact q)
      have LM := PySem.W.exm_one (M := model X.prog X.w) (J3.kIn) looks eb
      apply wpAny_handleBy_cons (codeAny_handlers_test ?_) (by intro q; cases q)
      have named : ∀ {Q' : Value → Shared → Prop} {E' : Value → Shared → Prop}, Q' c { s' with heap := g3 } →
          wpAny (model X.prog X.w) (X.A.mark (some (.ref a))) (eval (.Name x p1) X.env) Q' E' { s' with heap := g3 } := by
        intro Q' E' q
        rcases nm with ⟨g, dbg, m | ⟨m, v, w⟩⟩
        · exact ld_glob (X := X.suite a ((a, o3) :: (X.pn ++ pins))) S3 g m q dbg
        · exact ld_blt (X := X.suite a ((a, o3) :: (X.pn ++ pins))) S3 g m v q w dbg
      apply named
      apply LM.here
      match b, yes, no with
      | false, _, no => exact ih (no rfl)
      | true, yes, _ =>
        apply codeAny_handlers_suite_as
        apply HandSPX.lands_againZ fly3
        intro g4 fly4 up4
        have J4 : Inv X pins τ G { s' with heap := g4 } := J.landed nb fly4.1 ((up.trans up3).trans up4) os ag
        obtain ⟨o4, v4, at4, z4, d4⟩ := fly4.there
        have S4 := J4.suite at4 d4 na offL offF
        apply store_ok (X := X.suite a ((a, o4) :: (X.pn ++ pins))) (v := .ref a) S4 nd ei (.inl en) rfl ?_ (.inr en)
        intro s5 S5
        have ran := (suite a o4 cls d (X.pn ++ pins) z4 ⟨_, d4⟩).run [] s5 _ G _ S5 (yes rfl a na)
        refine wpAny_mono ran (fun f s6 sp => ?_) (fun _ _ z => z.elim)
        have gone : ∀ {u : St} {K6 : Hp} {Q' : Shared → Prop}, Inv (X.suite a ((a, o4) :: (X.pn ++ pins))) [] u K6 s6 →
            (∀ s7, Inv X pins (u.set i none) K6 s7 → Q' s7) →
            wpAny (model X.prog X.w) X.A (do bindName X.env n .none; unbindBehindTheSuite X.env n p2) (fun _ s7 => Q' s7) X.xe s6 :=
          fun S6 q => gone_ok (S6.unsuite iok) nd ei en q
        match f, sp with
        | .next, ⟨_, _, S6, q⟩ => exact gone S6 fun _ J7 => ⟨_, _, J7, q⟩
        | .brk, ⟨_, _, S6, q⟩ => exact gone S6 fun _ J7 => ⟨_, _, J7, q⟩
        | .cont, ⟨_, _, S6, q⟩ => exact gone S6 fun _ J7 => ⟨_, _, J7, q⟩
        | .ret _, ⟨_, _, _, S6, r, q⟩ => exact gone S6 fun _ J7 => ⟨_, _, _, J7, r, q⟩
end
end L2

set_option Elab.async false
set_option linter.all false
set_option maxRecDepth 100000
set_option maxHeartbeats 2000000
/-! Further rules: isinstance of a caught error, list of a text, == of lists of unlike length, find, dicts shown. -/
namespace L2
open PySem PySem.Spec PyProof.Rows PySem.Builtin PySem.Builtin.Str
/-! ### find -/
theorem occ_stay (s sub : Str) (hi : Nat) : ∀ (l : List Nat) (st : Array Nat × Nat), st.1.size = 1 → (forIn l st (StrLaws.occBody s sub hi 1)).run.fst = st.1
  | [], st, h => rfl
  | a :: l, st, h => by
    rw [List.forIn_cons]
    unfold StrLaws.occBody
    rw [if_neg (fun z => by have := z.1.1.1; omega)]
    exact occ_stay s sub hi l _ h
theorem occ_one (s sub : Str) (hi : Nat) : ∀ (l : List Nat) (free : Nat), (∀ i ∈ l, free ≤ i) →
    (forIn l ((#[] : Array Nat), free) (StrLaws.occBody s sub hi 1)).run.fst.toList = (l.find? fun i => decide (i + sub.length ≤ hi) && subAt s sub i).toList
  | [], free, _ => rfl
  | a :: l, free, hf => by
    have ha : free ≤ a := hf a List.mem_cons_self
    rw [List.forIn_cons]
    by_cases c : a + sub.length ≤ hi ∧ subAt s sub a = true
    · rw [List.find?_cons_of_pos (by simp [c.1, c.2])]
      have e : StrLaws.occBody s sub hi 1 a ((#[] : Array Nat), free) = pure (ForInStep.yield ((#[] : Array Nat).push a, a + sub.length)) := by
        unfold StrLaws.occBody
        rw [if_pos ⟨⟨⟨by simp, ha⟩, c.1⟩, c.2⟩]
      rw [e]
      show (forIn l ((#[] : Array Nat).push a, a + sub.length) (StrLaws.occBody s sub hi 1)).run.fst.toList = _
      rw [occ_stay s sub hi l _ (by simp)]
      rfl
    · rw [List.find?_cons_of_neg (by simpa using c)]
      have e : StrLaws.occBody s sub hi 1 a ((#[] : Array Nat), free) = pure (ForInStep.yield ((#[] : Array Nat), free)) := by
        unfold StrLaws.occBody
        rw [if_neg (fun h => c ⟨h.1.2, h.2⟩)]
      rw [e]
      exact occ_one s sub hi l free fun i h => hf i (List.mem_cons_of_mem _ h)
theorem occ_find (s sub : Str) (lo hi : Nat) : occurrences s sub lo hi 1 = ((List.range' lo (hi + 1 - lo)).find? fun i => decide (i + sub.length ≤ hi) && subAt s sub i).toList := by
  rw [StrLaws.occ_eq]
  exact occ_one s sub hi _ lo fun i h => (List.mem_range'_1.mp h).1
/-- v stands in u at i -/
def AtL (u v : List Nat) (i : Nat) : Prop := i + v.length ≤ u.length ∧ (u.drop i).take v.length = v
theorem atL_iff (u v : List Nat) (i : Nat) : (decide (i + (S v).length ≤ (S u).length) && subAt (S u) (S v) i) = true ↔ AtL u v i := by
  rw [StrLaws.subAt_eq, Bool.and_eq_true, decide_eq_true_iff]
  show (i + (S v).length ≤ (S u).length ∧ (((cs (S u)).drop i).take (S v).length == cs (S v)) = true) ↔ _
  rw [S_tl, S_tl, S_len, S_len, beq_iff_eq]
  exact Iff.rfl
/-- the first place from lo on -/
def FindL (u v : List Nat) (lo : Nat) (r : Int) : Prop := (∃ i : Nat, r = i ∧ lo ≤ i ∧ AtL u v i ∧ ∀ j, lo ≤ j → j < i → ¬ AtL u v j) ∨ (r = -1 ∧ ∀ j, lo ≤ j → ¬ AtL u v j)
theorem find_range' {lo n : Nat} {p : Nat → Bool} {s : Nat} (h : (List.range' lo n).find? p = some s) : lo ≤ s ∧ p s = true ∧ ∀ t, lo ≤ t → t < s → p t = false := by
  obtain ⟨h1, i, hi, h2, h3⟩ := List.find?_eq_some_iff_getElem.mp h
  rw [List.getElem_range'] at h2
  subst h2
  refine ⟨by omega, h1, fun t ht hlt => ?_⟩
  have := h3 (t - lo) (by omega)
  rw [List.getElem_range'] at this
  rw [show lo + 1 * (t - lo) = t by omega] at this
  simpa using this
theorem occ_FindL (u v : List Nat) (lo : Nat) : FindL u v lo (match occurrences (S u) (S v) lo (S u).length 1 with | k :: _ => (k : Int) | [] => -1) := by
  rw [occ_find]
  cases h : (List.range' lo ((S u).length + 1 - lo)).find? fun i => decide (i + (S v).length ≤ (S u).length) && subAt (S u) (S v) i with
  | none =>
    right
    refine ⟨rfl, fun j hj z => ?_⟩
    have l := z.1
    have := List.find?_eq_none.mp h j (List.mem_range'_1.mpr ⟨hj, by rw [S_len]; omega⟩)
    exact this ((atL_iff u v j).mpr z)
  | some i =>
    left
    obtain ⟨h1, h2, h3⟩ := find_range' h
    refine ⟨i, rfl, h1, (atL_iff u v i).mp h2, fun j a b z => ?_⟩
    have := (atL_iff u v j).mpr z
    rw [h3 j a b] at this
    cases this
theorem find_FindL (u v : List Nat) : FindL u v 0 (Txt.find (S u) (S v)) := occ_FindL u v 0
theorem find3_FindL (u v : List Nat) (i : Nat) : FindL u v i (Txt.find3 (S u) (S v) (i : Int)) := by
  unfold Txt.find3
  rw [show fromIndex (S u).length (i : Int) = i by unfold fromIndex; rw [if_neg (by omega)]; omega]
  exact occ_FindL u v i
/-! ### list of a text -/
section
variable {X : Cx}
theorem call_listStr (hc : X.calm = true) : CallR X (.type "list") (fun xs H Q => ∃ z : List Nat, xs = [.str (S z)] ∧ z.length ≤ sizeLine ∧ ∀ l, H l = none → Q (.ref l) (upd H l (.lst (z.map fun c => V.str (S [c]))))) := by
  intro pins s σ H xs us Q I r h
  obtain ⟨z, rfl, hz, q⟩ := h
  obtain ⟨u, rfl, t, rfl⟩ := vals1 r
  refine call_list_str (I.ok.hd hc) (S z) t (fun h' tk acc' c' kp e hacc => ?_) (by show (S z).length ≤ sizeLine; rw [S_len]; exact hz)
  obtain ⟨hsz, hat⟩ := hacc
  have hsz' : acc'.size = z.length := hsz.trans (S_len z)
  refine ⟨.ref s.heap.objs.size, _, I.laid (t' := tk) kp (Nat.le_refl _) (show ObjOk X.prog X.w _ h' _ (.lst (z.map fun c => V.str (S [c]))) from ⟨by rw [List.length_map]; exact hz, acc'.toList, c', ?_, by rw [Array.toArray_toList]; exact e⟩), rfl, q _ (I.hok.fresh (Nat.le_refl _))⟩
  -- the items
  have go : ∀ (ys : List Nat) (vs : List Value), vs.length = ys.length → (∀ (i c : Nat), ys[i]? = some c → ∃ t, vs[i]? = some (Value.str ⟨#[c]⟩ t)) → Vals (ys.map fun c => V.str (S [c])) vs := by
    intro ys
    induction ys with
    | nil => intro vs h _; rw [List.length_eq_zero_iff.mp h]; exact .nil
    | cons c ys ih =>
      intro vs h k
      match vs, h with
      | v :: vs, h =>
        obtain ⟨t, e⟩ := k 0 c rfl
        obtain rfl := Option.some.inj e
        exact .cons ⟨t, rfl⟩ (ih vs (Nat.succ.inj h) fun i c hc => k (i + 1) c hc)
  refine go z acc'.toList (by rw [Array.length_toList]; exact hsz') fun i c hc => ?_
  have hi : i < z.length := (List.getElem?_eq_some_iff.mp hc).1
  have hv : acc'[i]? = some (acc'[i]'(by omega)) := Array.getElem?_eq_getElem _
  obtain ⟨c', t', hc', e'⟩ := hat i _ hv
  rw [e'] at hv
  have : (S z).cps[i]? = some c := by
    show z.toArray[i]? = some c
    rw [List.getElem?_toArray]; exact hc
  rw [this] at hc'
  obtain rfl := Option.some.inj hc'
  exact ⟨t', by rw [Array.getElem?_toList]; exact hv⟩
end
/-! ### isinstance of the error that the suite holds, with an own dict -/
def rIsEd (K : PySem.W.Frag) (C a : Addr) (cls : Value) (d : Option Addr) : List V → Hp → VK → Prop := fun xs H Q => ∃ (c : V) (cv : Value) (b : Bool) (dd : Addr) (fs : List (Str × V)), xs = [.ref a, c] ∧ ClsV c cv ∧ cls = .ref C ∧ d = some dd ∧ H dd = some (.xd fs) ∧ PySem.W.kitOne K (.ref C) cv = some b ∧ Q (.bl b) H
theorem call_isEd {X : Cx} {a C : Addr} {oe : Obj} {cls : Value} {d : Option Addr} {pn : List (Addr × Obj)} (T : ExcC X.K C) (hz : Zc cls d oe) (hf : ∃ vs, oe.data = .fields vs) : CallR (X.suite a ((a, oe) :: pn)) (.builtin "isinstance") (rIsEd X.K C a cls d) := by
  intro pins s σ H xs us Q I r h
  obtain ⟨c, cv, b, dd, fs, rfl, hcv, rfl, rfl, hd, e, q⟩ := h
  obtain ⟨u1, u2, rfl, r1, r2⟩ := vals2 r
  cases (show u1 = Value.ref a from r1)
  have ec := hcv.eq r2
  subst ec
  obtain ⟨hget, _⟩ := I.pin (a, oe) (List.mem_append.mpr (.inl List.mem_cons_self))
  obtain ⟨vs, hv⟩ := hf
  have hx : ObjOk X.prog X.w H s.heap dd (.xd fs) := I.hok dd _ hd
  obtain ⟨mA, hns, hr⟩ := hx
  obtain ⟨od, ho, hl⟩ := lookIn_ns hns
  have J : PySem.W.InstAt s.heap a oe C (some od) := ⟨hget, hz.1, by unfold PySem.W.notCls; rw [hv] <;> rfl, by rw [hz.2]; exact ho⟩
  obtain ⟨cd, hcd, _⟩ := PySem.W.any_some T.hd
  exact PySem.W.kia_one (PySem.W.kitx_exc (by rw [hcd]; rfl) T.hg T.hk T.hs T.ha T.hn T.ht T.hm) I.kIn J e (fun z => nomatch z) fun tk => ⟨.bl b, H, I.kept (t' := tk) fun _ _ z => z, rfl, q⟩
end L2
namespace GQ
open PySem PySem.Spec PyProof.Rows
section
variable {prog : Program} {w : World} {A : Around} {R : Result → Shared → Prop}
theorem list_eq_len (l b : Addr) (items items2 : Array Value) (n n2 : Nat) (hne : items.size ≠ items2.size) {s : Shared} (hl1 : s.heap.get? l = some { cls := .type "list", data := .seq items n }) (hb1 : s.heap.get? b = some { cls := .type "list", data := .seq items2 n2 })
    (fin : R (.ok (.ret (.bool false))) s) :
    wpAny (model prog w) A.in1 (Builtin.«list.__eq__» ⟨[.ref l, .ref b], []⟩) (FinOf prog w A R) (fun e s' => R (.error e) s') s := by
  obtain ⟨hp, g, d, tk, os⟩ := s
  have f3 := AutoSeq1.sub_list_list
  have hne' : (items.size != items2.size) = true := by simp [hne]
  wp_walk using wpAny_loadPart' hl1, wpAny_loadPart' hb1
  exact fin
end
section
variable {prog : Program} {w : World} {A : Around} {E : Value → Shared → Prop} {s : Shared}
theorem rc_list_len {l b : Addr} {items items2 : Array Value} {n n2 : Nat} {Q : Value → Shared → Prop} (hu : A.units < cLine) (hne : items.size ≠ items2.size) (hl1 : s.heap.get? l = some { cls := .type "list", data := .seq items n }) (hb1 : s.heap.get? b = some { cls := .type "list", data := .seq items2 n2 })
    (fin : Q (.bool false) s) : wpAny (model prog w) A (richCompare .Eq (.ref l) (.ref b)) Q E s := by
  refine wpAny_richCompare_same_room (op := .Eq) ⟨_, hl1, rfl⟩ ⟨_, hb1, rfl⟩ F.slot_list_eq (call_here F.slot_list_eq ⟨_, hl1, rfl⟩ F.entry_list_eq (F.args_list_eq_2 _ _) ?_) hu
  exact list_eq_len (R := wants (fun v s' => v ≠ .notImplemented ∧ Q v s') E) l b items items2 n n2 hne hl1 hb1 ⟨(fun x => nomatch x), fin⟩
end
end GQ
namespace L2
open PySem PySem.Spec PyProof.Rows PySem.Builtin PySem.Builtin.Str
section
variable {X : Cx}
/-- xs == ys of two lists of which one is empty -/
def rEqNil : R2 := fun x y H Q => ∃ p q xs ys, x = .ref p ∧ y = .ref q ∧ H p = some (.lst xs) ∧ H q = some (.lst ys) ∧ (xs = [] ∨ ys = []) ∧ Q (.bl (decide (xs.length = ys.length))) H
theorem op_eq_nil (hu : X.A.units < cLine) : OpR X (compareOp .Eq) rEqNil := by
  intro pins s σ H x y v u Q I rx ry h
  obtain ⟨p, q, xs, ys, rfl, rfl, hp, hq, hn, k⟩ := h
  cases (show v = Value.ref p from rx)
  cases (show u = Value.ref q from ry)
  obtain ⟨z1, its, n, r1, hl, e1⟩ := I.lstM hp
  obtain ⟨z2, its2, n2, r2, hl2, e2⟩ := I.lstM hq
  by_cases hl3 : xs.length = ys.length
  · have ex : xs = [] := by
      rcases hn with e | e
      · exact e
      · subst e; exact List.length_eq_zero_iff.mp hl3
    have ey : ys = [] := by
      rcases hn with e | e
      · subst e; exact List.length_eq_zero_iff.mp hl3.symm
      · exact e
    subst ex ey
    cases r1; cases r2
    rw [decide_eq_true hl3] at k
    exact GQ.rc_listG hu (N := 0) (fun i s' => i = 0 ∧ s' = s) (fun i s' hi => by obtain ⟨rfl, rfl⟩ := hi; exact ⟨_, _, _, _, e1, e2, rfl, rfl, fun h1 _ => absurd h1 (by simp)⟩) (fun s' hs => by obtain ⟨_, rfl⟩ := hs; exact ⟨.bl true, H, I, rfl, k⟩) ⟨rfl, rfl⟩
  · rw [decide_eq_false hl3] at k
    refine GQ.rc_list_len hu ?_ e1 e2 ⟨.bl false, H, I, rfl, k⟩
    have := r1.length
    have := r2.length
    simp only [List.size_toArray]
    omega
/-! ### dicts of flat values, shown -/
def FlatD : V → PyData → Prop := fun v d => (v = .non ∧ d = .none) ∨ (∃ b, v = .bl b ∧ d = .bool b) ∨ (∃ i, v = .int i ∧ d = .int i) ∨ ∃ z, v = .str z ∧ d = .str z
def keyD : Key → PyData
  | .inl i => .int i
  | .inr x => .str x
def DictD : List (Key × V) → List (PyData × PyData) → Prop := Paired fun p q => q.1 = keyD p.1 ∧ FlatD p.2 q.2
/-- data, or a dict of flat values -/
def Ds (K : PySem.W.Frag) (H : Hp) (x : V) (d : PyData) : Prop := Dp K H x d ∨ ∃ a kvs ds, x = .ref a ∧ H a = some (.dK kvs) ∧ d = .dict ds ∧ DictD kvs ds
def rReprD (K : PySem.W.Frag) : List V → Hp → VK → Prop := fun xs H Q => ∃ x d, xs = [x] ∧ Ds K H x d ∧ d.showable = true ∧ d.depth ≤ 60 ∧ d.shown.length ≤ sizeLine ∧ Q (.str d.shown) H
theorem FlatD.reads {v : V} {d : PyData} {u : Value} {h : Heap} (f : FlatD v d) (r : RelV v u) : Reads h u d [] := by
  rcases f with ⟨rfl, rfl⟩ | ⟨b, rfl, rfl⟩ | ⟨i, rfl, rfl⟩ | ⟨z, rfl, rfl⟩
  · cases (show u = Value.none from r); exact .none
  · cases (show u = Value.bool b from r); exact .bool _
  · obtain ⟨t, rfl⟩ := r; exact .int _ _
  · obtain ⟨t, rfl⟩ := r; exact .str _ _
theorem keyD_reads {k : Key} {u : Value} {h : Heap} (e : keyIs k u = true) : Reads h u (keyD k) [] := by
  rcases keyIs_shape e with ⟨i, t, rfl, rfl⟩ | ⟨x, t, rfl, rfl⟩
  · exact .int _ _
  · exact .str _ _
theorem dictD_reads {h : Heap} {P : Program} {w : World} {kvs : List (Key × V)} {ds : List (PyData × PyData)} (dd : DictD kvs ds) : ∀ {vs : List (Key × Value)} {es : List DictEntry}, KV kvs vs → Pairs (mixKind P w) es vs →
    ReadsAll h (es.map (·.key)) (ds.map (·.1)) [] ∧ ReadsAll h (es.map (·.val)) (ds.map (·.2)) [] := by
  unfold DictD at dd
  induction dd with
  | nil =>
    intro vs es kv ps
    cases kv
    cases ps
    exact ⟨.nil, .nil⟩
  | @cons p q l1 l2 h1 _ ih =>
    intro vs es kv ps
    unfold KV at kv
    cases kv with
    | cons a t =>
      cases ps with
      | cons hk hv hp =>
        obtain ⟨i1, i2⟩ := ih t hp
        obtain ⟨e1, f⟩ := h1
        obtain ⟨ka, ra⟩ := a
        refine ⟨.cons (as := []) (bs := []) ?_ i1, .cons (as := []) (bs := []) ?_ i2⟩
        · show Reads h _ q.1 []
          rw [e1, ka]
          exact keyD_reads hk
        · have := f.reads (h := h) ra
          rw [← hv] at this
          exact this
theorem call_reprD (hc : X.A.guards = some []) (hu : X.A.units + 64 < cLine) : CallR X (.builtin "repr") (rReprD X.K) := by
  intro pins s σ H xs us Q I r h
  obtain ⟨x, d, rfl, hd, hs, hdp, hz, q⟩ := h
  rcases hd with hd | ⟨a, kvs, ds, rfl, ha, rfl, dd⟩
  · exact call_repr hc hu pins s σ H _ us Q I r ⟨x, d, rfl, .inl hd, hs, hdp, hz, q⟩
  · obtain ⟨u, rfl, r1⟩ := vals1 r
    obtain rfl : u = Value.ref a := r1
    obtain ⟨_, hsys, vs, hkv, od, es, ep, hget, hcl, hdat, hko, hps, _⟩ : ObjOk X.prog X.w H s.heap a (.dK kvs) := I.hok a _ ha
    obtain ⟨i1, i2⟩ := dictD_reads (h := s.heap) dd hkv hps
    have rd : Reads s.heap (.ref a) (.dict ds) (a :: [] ++ []) := .dict hget hcl.1 hdat i1 i2
    refine repr_of_reads' rd hs (fun _ hm => ?_) hc (by omega) (fun _ _ e => e) (fun h' u tk k => ⟨.str _, H, I.kept k, ⟨_, rfl⟩, q⟩) hz
    have e : sysModules = a := by simpa using hm
    rw [← e] at hsys
    exact absurd hsys (by decide)
end
end L2

set_option Elab.async false
set_option linter.all false
set_option maxHeartbeats 8000000
namespace Lev
section
variable {α : Type}
/-- an alignment of two lists with c changes -/
inductive A : List α → List α → Nat → Prop where
  | nil : A [] [] 0
  | keep {a u v c} : A u v c → A (a :: u) (a :: v) c
  | swap {a b u v c} : A u v c → A (a :: u) (b :: v) (c + 1)
  | drop {a u v c} : A u v c → A (a :: u) v (c + 1)
  | add {b u v c} : A u v c → A u (b :: v) (c + 1)
theorem A.cast {u v u' v' : List α} {c c' : Nat} (h : A u v c) (e1 : u = u') (e2 : v = v') (e3 : c = c') : A u' v' c' := by
  subst e1 e2 e3; exact h
theorem A.refl : ∀ u : List α, A u u 0
  | [] => .nil
  | _ :: u => .keep (A.refl u)
theorem A.symm {u v : List α} {c : Nat} (h : A u v c) : A v u c := by
  induction h with
  | nil => exact .nil
  | keep _ ih => exact .keep ih
  | swap _ ih => exact .swap ih
  | drop _ ih => exact .add ih
  | add _ ih => exact .drop ih
theorem A.append {u v u' v' : List α} {c c' : Nat} (h : A u v c) (h' : A u' v' c') : A (u ++ u') (v ++ v') (c + c') := by
  induction h with
  | nil => exact h'.cast rfl rfl (Nat.zero_add _).symm
  | keep _ ih => exact .keep ih
  | swap _ ih => exact (A.swap ih).cast rfl rfl (by omega)
  | drop _ ih => exact (A.drop ih).cast rfl rfl (by omega)
  | add _ ih => exact (A.add ih).cast rfl rfl (by omega)
theorem A.drops : ∀ u : List α, A u [] u.length
  | [] => .nil
  | _ :: u => .drop (A.drops u)
theorem A.adds (u : List α) : A [] u u.length := (A.drops u).symm
theorem A.nilLeft {v : List α} {c : Nat} (h : A [] v c) : v.length ≤ c := by
  generalize e : ([] : List α) = u at h
  induction h with
  | nil => exact Nat.le_refl _
  | keep _ _ => cases e
  | swap _ _ => cases e
  | drop _ _ => cases e
  | add _ ih => have := ih e; simp; omega
/-- an alignment is cut where the left list is -/
theorem A.split {w v : List α} {c : Nat} (h : A w v c) : ∀ u u' : List α, w = u ++ u' → ∃ v1 v2 c1 c2, v = v1 ++ v2 ∧ A u v1 c1 ∧ A u' v2 c2 ∧ c = c1 + c2 := by
  induction h with
  | nil =>
    intro u u' e
    have e1 : u = [] := (List.append_eq_nil_iff.mp e.symm).1
    have e2 : u' = [] := (List.append_eq_nil_iff.mp e.symm).2
    subst e1 e2
    exact ⟨[], [], 0, 0, rfl, .nil, .nil, rfl⟩
  | @keep a w v c h ih =>
    intro u u' e
    cases u with
    | nil => exact ⟨[], a :: v, 0, c, rfl, .nil, (A.keep h).cast e rfl rfl, (Nat.zero_add _).symm⟩
    | cons x u =>
      injection e with e1 e2
      subst e1
      obtain ⟨v1, v2, c1, c2, rfl, h1, h2, rfl⟩ := ih u u' e2
      exact ⟨_ :: v1, v2, c1, c2, rfl, .keep h1, h2, rfl⟩
  | @swap a b w v c h ih =>
    intro u u' e
    cases u with
    | nil => exact ⟨[], b :: v, 0, c + 1, rfl, .nil, (A.swap h).cast e rfl rfl, (Nat.zero_add _).symm⟩
    | cons x u =>
      injection e with e1 e2
      subst e1
      obtain ⟨v1, v2, c1, c2, rfl, h1, h2, rfl⟩ := ih u u' e2
      exact ⟨_ :: v1, v2, c1 + 1, c2, rfl, .swap h1, h2, by omega⟩
  | @drop a w v c h ih =>
    intro u u' e
    cases u with
    | nil => exact ⟨[], v, 0, c + 1, rfl, .nil, (A.drop h).cast e rfl rfl, (Nat.zero_add _).symm⟩
    | cons x u =>
      injection e with e1 e2
      subst e1
      obtain ⟨v1, v2, c1, c2, rfl, h1, h2, rfl⟩ := ih u u' e2
      exact ⟨v1, v2, c1 + 1, c2, rfl, .drop h1, h2, by omega⟩
  | @add b w v c h ih =>
    intro u u' e
    obtain ⟨v1, v2, c1, c2, rfl, h1, h2, rfl⟩ := ih u u' e
    exact ⟨b :: v1, v2, c1 + 1, c2, rfl, .add h1, h2, by omega⟩

/-! ### ways over places of two lists -/
inductive P (u v : List α) : Nat → Nat → Nat → Prop where
  | zero : P u v 0 0 0
  | keep {i j c a} : P u v i j c → u[i]? = some a → v[j]? = some a → P u v (i + 1) (j + 1) c
  | swap {i j c} : P u v i j c → i < u.length → j < v.length → P u v (i + 1) (j + 1) (c + 1)
  | drop {i j c} : P u v i j c → i < u.length → P u v (i + 1) j (c + 1)
  | add {i j c} : P u v i j c → j < v.length → P u v i (j + 1) (c + 1)
variable {u v : List α}
theorem P.bounds {i j c : Nat} (h : P u v i j c) : i ≤ u.length ∧ j ≤ v.length := by
  induction h with
  | zero => exact ⟨Nat.zero_le _, Nat.zero_le _⟩
  | keep _ e1 e2 _ =>
    have h1 := (List.getElem?_eq_some_iff.mp e1).1
    have h2 := (List.getElem?_eq_some_iff.mp e2).1
    exact ⟨h1, h2⟩
  | swap _ h1 h2 _ => exact ⟨h1, h2⟩
  | drop _ h1 ih => exact ⟨h1, ih.2⟩
  | add _ h1 ih => exact ⟨ih.1, h1⟩
theorem P.toA {i j c : Nat} (h : P u v i j c) : A (u.take i) (v.take j) c := by
  induction h with
  | zero => exact (A.nil).cast (by simp) (by simp) rfl
  | keep _ e1 e2 ih =>
    exact (ih.append (A.keep A.nil)).cast (by rw [List.take_add_one, e1]; rfl) (by rw [List.take_add_one, e2]; rfl) rfl
  | @swap i j c _ h1 h2 ih =>
    exact (ih.append (A.swap (a := u[i]) (b := v[j]) A.nil)).cast (by rw [List.take_add_one, List.getElem?_eq_getElem h1]; rfl) (by rw [List.take_add_one, List.getElem?_eq_getElem h2]; rfl) rfl
  | @drop i j c _ h1 ih =>
    exact (ih.append (A.drop (a := u[i]) A.nil)).cast (by rw [List.take_add_one, List.getElem?_eq_getElem h1]; rfl) (by simp) rfl
  | @add i j c _ h1 ih =>
    exact (ih.append (A.add (b := v[j]) A.nil)).cast (by simp) (by rw [List.take_add_one, List.getElem?_eq_getElem h1]; rfl) rfl
theorem P.onA {u' v' : List α} {c' : Nat} (h : A u' v' c') : ∀ {i j c : Nat}, P u v i j c → u.drop i = u' → v.drop j = v' → i ≤ u.length → j ≤ v.length → P u v u.length v.length (c + c') := by
  induction h with
  | nil =>
    intro i j c p e1 e2 b1 b2
    have h1 : u.length ≤ i := List.drop_eq_nil_iff.mp e1
    have h2 : v.length ≤ j := List.drop_eq_nil_iff.mp e2
    have e3 : i = u.length := Nat.le_antisymm b1 h1
    have e4 : j = v.length := Nat.le_antisymm b2 h2
    subst e3 e4
    exact p
  | @keep a u' v' c' _ ih =>
    intro i j c p e1 e2 b1 b2
    have g1 : u[i]? = some a := by have := congrArg (·[0]?) e1; simpa using this
    have g2 : v[j]? = some a := by have := congrArg (·[0]?) e2; simpa using this
    have h1 := (List.getElem?_eq_some_iff.mp g1).1
    have h2 := (List.getElem?_eq_some_iff.mp g2).1
    exact ih (.keep p g1 g2) (by rw [← List.drop_drop, e1]; rfl) (by rw [← List.drop_drop, e2]; rfl) h1 h2
  | @swap a b u' v' c' _ ih =>
    intro i j c p e1 e2 b1 b2
    have g1 : u[i]? = some a := by have := congrArg (·[0]?) e1; simpa using this
    have g2 : v[j]? = some b := by have := congrArg (·[0]?) e2; simpa using this
    have h1 := (List.getElem?_eq_some_iff.mp g1).1
    have h2 := (List.getElem?_eq_some_iff.mp g2).1
    have := ih (.swap p h1 h2) (by rw [← List.drop_drop, e1]; rfl) (by rw [← List.drop_drop, e2]; rfl) h1 h2
    rw [show c + (c' + 1) = c + 1 + c' by omega]; exact this
  | @drop a u' v' c' _ ih =>
    intro i j c p e1 e2 b1 b2
    have g1 : u[i]? = some a := by have := congrArg (·[0]?) e1; simpa using this
    have h1 := (List.getElem?_eq_some_iff.mp g1).1
    have := ih (.drop p h1) (by rw [← List.drop_drop, e1]; rfl) e2 h1 b2
    rw [show c + (c' + 1) = c + 1 + c' by omega]; exact this
  | @add b u' v' c' _ ih =>
    intro i j c p e1 e2 b1 b2
    have g2 : v[j]? = some b := by have := congrArg (·[0]?) e2; simpa using this
    have h2 := (List.getElem?_eq_some_iff.mp g2).1
    have := ih (.add p h2) e1 (by rw [← List.drop_drop, e2]; rfl) b1 h2
    rw [show c + (c' + 1) = c + 1 + c' by omega]; exact this
theorem A.toP {c : Nat} (h : A u v c) : P u v u.length v.length c := by
  have := P.onA (u := u) (v := v) h .zero rfl rfl (Nat.zero_le _) (Nat.zero_le _)
  simpa using this
theorem P.toA' {c : Nat} (h : P u v u.length v.length c) : A u v c := h.toA.cast (List.take_length) (List.take_length) rfl

/-! ### the table -/
variable [DecidableEq α]
def neq (x y : Option α) : Nat := if x = y then 0 else 1
def T (u v : List α) : Nat → Nat → Nat
  | 0, j => j
  | i + 1, 0 => i + 1
  | i + 1, j + 1 => min (T u v i j + neq u[i]? v[j]?) (min (T u v (i + 1) j + 1) (T u v i (j + 1) + 1))
theorem T_zero (j : Nat) : T u v 0 j = j := by unfold T; rfl
theorem T_left (i : Nat) : T u v i 0 = i := by cases i <;> (unfold T; rfl)
theorem T_step (i j : Nat) : T u v (i + 1) (j + 1) = min (T u v i j + neq u[i]? v[j]?) (min (T u v (i + 1) j + 1) (T u v i (j + 1) + 1)) := by
  rw [T]
theorem T_le {i j c : Nat} (h : P u v i j c) : T u v i j ≤ c := by
  induction h with
  | zero => rw [T_zero]; omega
  | keep _ e1 e2 ih => rw [T_step, e1, e2]; simp only [neq, if_true]; omega
  | @swap i j c _ _ _ ih =>
    rw [T_step]
    have : neq u[i]? v[j]? ≤ 1 := by unfold neq; split <;> omega
    omega
  | @drop i j c _ _ ih => cases j with
    | zero => rw [T_left] at *; omega
    | succ j => rw [T_step]; omega
  | @add i j c _ _ ih => cases i with
    | zero => rw [T_zero] at *; omega
    | succ i => rw [T_step]; omega
theorem T_P : ∀ (i j : Nat), i ≤ u.length → j ≤ v.length → P u v i j (T u v i j) := by
  intro i
  induction i with
  | zero =>
    intro j
    induction j with
    | zero => intro _ _; rw [T_zero]; exact .zero
    | succ j ih => intro h1 h2; rw [T_zero]; have := ih h1 (by omega); rw [T_zero] at this; exact .add this (by omega)
  | succ i ihi =>
    intro j
    induction j with
    | zero => intro h1 h2; rw [T_left]; have := ihi 0 (by omega) h2; rw [T_left] at this; exact .drop this (by omega)
    | succ j ih =>
      intro h1 h2
      have p1 := ihi j (by omega) (by omega)
      have p2 := ih h1 (by omega)
      have p3 := ihi (j + 1) (by omega) h2
      rw [T_step]
      by_cases q1 : T u v i j + neq u[i]? v[j]? ≤ min (T u v (i + 1) j + 1) (T u v i (j + 1) + 1)
      · rw [Nat.min_eq_left q1]
        by_cases e : u[i]? = v[j]?
        · rw [show neq u[i]? v[j]? = 0 by unfold neq; rw [if_pos e]]
          exact .keep p1 (List.getElem?_eq_getElem (by omega)) (by rw [← e]; exact List.getElem?_eq_getElem (by omega))
        · rw [show neq u[i]? v[j]? = 1 by unfold neq; rw [if_neg e]]
          exact .swap p1 (by omega) (by omega)
      · rw [Nat.min_eq_right (by omega)]
        by_cases q2 : T u v (i + 1) j + 1 ≤ T u v i (j + 1) + 1
        · rw [Nat.min_eq_left q2]; exact .add p2 (by omega)
        · rw [Nat.min_eq_right (by omega)]; exact .drop p3 (by omega)
/-- the distance -/
def D (u v : List α) : Nat := T u v u.length v.length
theorem D_A (u v : List α) : A u v (D u v) := (T_P _ _ (Nat.le_refl _) (Nat.le_refl _)).toA'
theorem D_le {u v : List α} {c : Nat} (h : A u v c) : D u v ≤ c := T_le h.toP
theorem D_symm (u v : List α) : D u v = D v u := Nat.le_antisymm (D_le (D_A v u).symm) (D_le (D_A u v).symm)
theorem D_self (u : List α) : D u u = 0 := Nat.le_zero.mp (D_le (A.refl u))
theorem D_le_max (u v : List α) : D u v ≤ max u.length v.length := by
  have key : ∀ u v : List α, ∃ c, A u v c ∧ c ≤ max u.length v.length := by
    intro u
    induction u with
    | nil => intro v; exact ⟨_, A.adds v, by simp⟩
    | cons a u ih =>
      intro v
      cases v with
      | nil => exact ⟨_, A.drops (a :: u), by simp⟩
      | cons b v =>
        obtain ⟨c, h, hc⟩ := ih v
        exact ⟨c + 1, .swap h, by simp; omega⟩
  obtain ⟨c, h, hc⟩ := key u v
  exact Nat.le_trans (D_le h) hc
theorem A.lens {u v : List α} {c : Nat} (h : A u v c) : u.length ≤ v.length + c ∧ v.length ≤ u.length + c := by
  induction h with
  | nil => exact ⟨Nat.le_refl _, Nat.le_refl _⟩
  | keep _ ih => simp only [List.length_cons]; omega
  | swap _ ih => simp only [List.length_cons]; omega
  | drop _ ih => simp only [List.length_cons]; omega
  | add _ ih => simp only [List.length_cons]; omega
end
end Lev

set_option Elab.async false
set_option linter.all false
set_option maxHeartbeats 400000
namespace Lev
section
variable {α : Type}
/-- w is a turn of v -/
def Turn (v w : List α) : Prop := ∃ x y, v = x ++ y ∧ w = y ++ x
theorem Turn.refl (v : List α) : Turn v v := ⟨[], v, rfl, (List.append_nil v).symm⟩
theorem Turn.symm {v w : List α} (h : Turn v w) : Turn w v := by
  obtain ⟨x, y, rfl, rfl⟩ := h
  exact ⟨y, x, rfl, rfl⟩
theorem Turn.trans {u v w : List α} (h : Turn u v) (h' : Turn v w) : Turn u w := by
  obtain ⟨x, y, rfl, rfl⟩ := h
  obtain ⟨x', y', e, rfl⟩ := h'
  rcases List.append_eq_append_iff.mp e with ⟨e1, rfl, rfl⟩ | ⟨e1, rfl, rfl⟩
  · exact ⟨e1, y' ++ y, by rw [List.append_assoc], by rw [List.append_assoc]⟩
  · exact ⟨x ++ x', e1, by rw [List.append_assoc], by rw [List.append_assoc]⟩
theorem Turn.length {v w : List α} (h : Turn v w) : w.length = v.length := by
  obtain ⟨x, y, rfl, rfl⟩ := h
  simp only [List.length_append]; omega
theorem Turn.at (v : List α) (k : Nat) : Turn v (v.drop k ++ v.take k) := ⟨v.take k, v.drop k, (List.take_append_drop k v).symm, rfl⟩
/-- an alignment of turns of both is one of u and a turn -/
theorem cut {u u' v v' : List α} {c : Nat} (hu : Turn u u') (hv : Turn v v') (h : A u' v' c) : ∃ w, Turn v w ∧ A u w c := by
  obtain ⟨x, y, rfl, rfl⟩ := hu
  obtain ⟨w1, w2, c1, c2, rfl, h1, h2, rfl⟩ := h.split y x rfl
  exact ⟨w2 ++ w1, hv.trans ⟨w1, w2, rfl, rfl⟩, (h2.append h1).cast rfl rfl (Nat.add_comm _ _)⟩
/-! ### the window that is just as long -/
theorem window (N : Nat) : ∀ {u w w' : List α} {c c' k b : Nat}, u.length + w.length + w'.length ≤ N → A u w c → A u w' c' → w.length + k ≤ b → b ≤ w'.length + k →
    ∃ p q s t s' t' c1 c2 c3 c4, u = p ++ q ∧ w = s ++ t ∧ w' = s' ++ t' ∧ A p s c1 ∧ A q t c2 ∧ A p s' c3 ∧ A q t' c4 ∧ c = c1 + c2 ∧ c' = c3 + c4 ∧ t.length + (k + s'.length) = b := by
  induction N with
  | zero =>
    intro u w w' c c' k b hN h h' l1 l2
    have e1 : u = [] := List.eq_nil_of_length_eq_zero (by omega)
    have e2 : w = [] := List.eq_nil_of_length_eq_zero (by omega)
    have e3 : w' = [] := List.eq_nil_of_length_eq_zero (by omega)
    subst e1 e2 e3
    exact ⟨[], [], [], [], [], [], 0, c, 0, c', rfl, rfl, rfl, .nil, h, .nil, h', (Nat.zero_add _).symm, (Nat.zero_add _).symm, by simp at *; omega⟩
  | succ N ih =>
    intro u w w' c c' k b hN h h' l1 l2
    by_cases e : w.length + k = b
    · exact ⟨[], u, [], w, [], w', 0, c, 0, c', rfl, rfl, rfl, .nil, h, .nil, h', (Nat.zero_add _).symm, (Nat.zero_add _).symm, by simp; omega⟩
    · -- a letter more of the second
      have main : ∀ {a : α} {u w1 w1' pw pw' : List α} {c1 c1' pc pc' : Nat}, A u w1 c1 → A u w1' c1' → (∀ {p s d}, A p s d → A (a :: p) (pw ++ s) (pc + d)) → (∀ {p s d}, A p s d → A (a :: p) (pw' ++ s) (pc' + d)) → pw.length ≤ 1 → pw'.length ≤ 1 →
          (u.length + 1) + (pw ++ w1).length + (pw' ++ w1').length ≤ N + 1 → (pw ++ w1).length + k ≤ b → b ≤ (pw' ++ w1').length + k → ¬ (pw ++ w1).length + k = b →
          ∃ p q s t s' t' d1 d2 d3 d4, a :: u = p ++ q ∧ pw ++ w1 = s ++ t ∧ pw' ++ w1' = s' ++ t' ∧ A p s d1 ∧ A q t d2 ∧ A p s' d3 ∧ A q t' d4 ∧ pc + c1 = d1 + d2 ∧ pc' + c1' = d3 + d4 ∧ t.length + (k + s'.length) = b := by
        intro a u w1 w1' pw pw' c1 c1' pc pc' g g' f f' n1 n2 hN l1 l2 e
        rw [List.length_append] at hN l1 l2 e
        rw [List.length_append] at hN
        obtain ⟨p, q, s, t, s', t', d1, d2, d3, d4, rfl, rfl, rfl, a1, a2, a3, a4, e1, e2, e3⟩ := ih (k := k + pw'.length) (b := b) (by omega) g g' (by omega) (by omega)
        exact ⟨a :: p, q, pw ++ s, t, pw' ++ s', t', pc + d1, d2, pc' + d3, d4, rfl, by simp, by simp, f a1, a2, f' a3, a4, by omega, by omega, by rw [List.length_append]; omega⟩
      cases h' with
      | nil =>
        have := h.nilLeft
        simp at l2
        omega
      | @add b' _ w'' c'' g' =>
        simp only [List.length_cons] at hN l2
        obtain ⟨p, q, s, t, s', t', d1, d2, d3, d4, rfl, rfl, rfl, a1, a2, a3, a4, e1, e2, e3⟩ := ih (k := k + 1) (b := b) (by omega) h g' (by omega) (by omega)
        exact ⟨p, q, s, t, b' :: s', t', d1, d2, d3 + 1, d4, rfl, rfl, rfl, a1, a2, .add a3, a4, e1, by omega, by simp only [List.length_cons]; omega⟩
      | @keep a u w1' c1' g' =>
        cases h with
        | @add b' _ w1 c1 g =>
          simp only [List.length_cons] at hN l1 l2 e
          obtain ⟨p, q, s, t, s', t', d1, d2, d3, d4, e0, rfl, e00, a1, a2, a3, a4, e1, e2, e3⟩ := ih (k := k) (b := b) (by simp only [List.length_cons]; omega) g (A.keep g') (by omega) (by simp only [List.length_cons]; omega)
          exact ⟨p, q, b' :: s, t, s', t', d1 + 1, d2, d3, d4, e0, rfl, e00, .add a1, a2, a3, a4, by omega, e2, e3⟩
        | @keep _ _ w1 c1 g => simpa using main (pw := [a]) (pw' := [a]) (pc := 0) (pc' := 0) g g' (fun z => (A.keep z).cast rfl rfl (by omega)) (fun z => (A.keep z).cast rfl rfl (by omega)) (by simp) (by simp) (by simpa using hN) (by simpa using l1) (by simpa using l2) (by simpa using e)
        | @swap _ x _ w1 c1 g => simpa [Nat.add_comm] using main (pw := [x]) (pw' := [a]) (pc := 1) (pc' := 0) g g' (fun z => (A.swap z).cast rfl rfl (by omega)) (fun z => (A.keep z).cast rfl rfl (by omega)) (by simp) (by simp) (by simpa using hN) (by simpa using l1) (by simpa using l2) (by simpa using e)
        | @drop _ _ _ c1 g => simpa [Nat.add_comm] using main (pw := []) (pw' := [a]) (pc := 1) (pc' := 0) g g' (fun z => (A.drop z).cast rfl rfl (by omega)) (fun z => (A.keep z).cast rfl rfl (by omega)) (by simp) (by simp) (by simpa using hN) (by simpa using l1) (by simpa using l2) (by simpa using e)
      | @swap a y u w1' c1' g' =>
        cases h with
        | @add b' _ w1 c1 g =>
          simp only [List.length_cons] at hN l1 l2 e
          obtain ⟨p, q, s, t, s', t', d1, d2, d3, d4, e0, rfl, e00, a1, a2, a3, a4, e1, e2, e3⟩ := ih (k := k) (b := b) (by simp only [List.length_cons]; omega) g (A.swap (b := y) g') (by omega) (by simp only [List.length_cons]; omega)
          exact ⟨p, q, b' :: s, t, s', t', d1 + 1, d2, d3, d4, e0, rfl, e00, .add a1, a2, a3, a4, by omega, e2, e3⟩
        | @keep _ _ w1 c1 g => simpa [Nat.add_comm] using main (pw := [a]) (pw' := [y]) (pc := 0) (pc' := 1) g g' (fun z => (A.keep z).cast rfl rfl (by omega)) (fun z => (A.swap z).cast rfl rfl (by omega)) (by simp) (by simp) (by simpa using hN) (by simpa using l1) (by simpa using l2) (by simpa using e)
        | @swap _ x _ w1 c1 g => simpa [Nat.add_comm] using main (pw := [x]) (pw' := [y]) (pc := 1) (pc' := 1) g g' (fun z => (A.swap z).cast rfl rfl (by omega)) (fun z => (A.swap z).cast rfl rfl (by omega)) (by simp) (by simp) (by simpa using hN) (by simpa using l1) (by simpa using l2) (by simpa using e)
        | @drop _ _ _ c1 g => simpa [Nat.add_comm] using main (pw := []) (pw' := [y]) (pc := 1) (pc' := 1) g g' (fun z => (A.drop z).cast rfl rfl (by omega)) (fun z => (A.swap z).cast rfl rfl (by omega)) (by simp) (by simp) (by simpa using hN) (by simpa using l1) (by simpa using l2) (by simpa using e)
      | @drop a u _ c1' g' =>
        cases h with
        | @add b' _ w1 c1 g =>
          simp only [List.length_cons] at hN l1 l2 e
          obtain ⟨p, q, s, t, s', t', d1, d2, d3, d4, e0, rfl, e00, a1, a2, a3, a4, e1, e2, e3⟩ := ih (k := k) (b := b) (by simp only [List.length_cons]; omega) g (A.drop g') (by omega) (by omega)
          exact ⟨p, q, b' :: s, t, s', t', d1 + 1, d2, d3, d4, e0, rfl, e00, .add a1, a2, a3, a4, by omega, e2, e3⟩
        | @keep _ _ w1 c1 g => simpa [Nat.add_comm] using main (pw := [a]) (pw' := []) (pc := 0) (pc' := 1) g g' (fun z => (A.keep z).cast rfl rfl (by omega)) (fun z => (A.drop z).cast rfl rfl (by omega)) (by simp) (by simp) (by simpa using hN) (by simpa using l1) (by simpa using l2) (by simpa using e)
        | @swap _ x _ w1 c1 g => simpa [Nat.add_comm] using main (pw := [x]) (pw' := []) (pc := 1) (pc' := 1) g g' (fun z => (A.swap z).cast rfl rfl (by omega)) (fun z => (A.drop z).cast rfl rfl (by omega)) (by simp) (by simp) (by simpa using hN) (by simpa using l1) (by simpa using l2) (by simpa using e)
        | @drop _ _ _ c1 g => simpa [Nat.add_comm] using main (pw := []) (pw' := []) (pc := 1) (pc' := 1) g g' (fun z => (A.drop z).cast rfl rfl (by omega)) (fun z => (A.drop z).cast rfl rfl (by omega)) (by simp) (by simp) (by simpa using hN) (by simpa using l1) (by simpa using l2) (by simpa using e)
/-! ### rounds -/
def rounds : Nat → List α → List α
  | 0, _ => []
  | n + 1, v => v ++ rounds n v
theorem rounds_len (n : Nat) (v : List α) : (rounds n v).length = n * v.length := by
  induction n with
  | zero => simp [rounds]
  | succ n ih => simp [rounds, ih, Nat.succ_mul]; omega
theorem rounds_get (n : Nat) (v : List α) {i : Nat} (h : i < n * v.length) : (rounds n v)[i]? = v[i % v.length]? := by
  induction n generalizing i with
  | zero => omega
  | succ n ih =>
    show (v ++ rounds n v)[i]? = _
    rw [Nat.succ_mul] at h
    rcases Nat.lt_or_ge i v.length with q | q
    · rw [List.getElem?_append_left q, Nat.mod_eq_of_lt q]
    · rw [List.getElem?_append_right q, ih (by omega)]
      congr 1
      conv => rhs; rw [← Nat.sub_add_cancel q, Nat.add_mod_right]
/-- a piece of rounds that is as long as the text is a turn of it; the rest are rounds -/
theorem piece {n : Nat} {v x y z : List α} (h : rounds (n + 1) v = x ++ y ++ z) (hy : y.length = v.length) : Turn v y ∧ x ++ z = rounds n v := by
  by_cases hv : v.length = 0
  · have e1 : v = [] := List.eq_nil_of_length_eq_zero hv
    subst e1
    have hz : ∀ n, rounds n ([] : List α) = [] := fun n => List.eq_nil_of_length_eq_zero (by rw [rounds_len]; simp)
    rw [hz] at h
    have h' := congrArg List.length h
    simp only [List.length_nil, List.length_append] at h'
    have e2 : x = [] := List.eq_nil_of_length_eq_zero (by omega)
    have e3 : y = [] := List.eq_nil_of_length_eq_zero (by omega)
    have e4 : z = [] := List.eq_nil_of_length_eq_zero (by omega)
    subst e2 e3 e4
    exact ⟨Turn.refl _, (hz n).symm⟩
  have pos : 0 < v.length := Nat.pos_of_ne_zero hv
  have hl := congrArg List.length h
  rw [rounds_len, List.length_append, List.length_append, Nat.succ_mul] at hl
  have G : ∀ i, i < (n + 1) * v.length → (x ++ y ++ z)[i]? = v[i % v.length]? := fun i hi => by rw [← h]; exact rounds_get (n + 1) v hi
  rw [Nat.succ_mul] at G
  constructor
  · have e : y = v.drop (x.length % v.length) ++ v.take (x.length % v.length) := by
      have lt := Nat.mod_lt x.length pos
      apply List.ext_getElem?
      intro i
      rcases Nat.lt_or_ge i y.length with q | q
      · have g := G (x.length + i) (by omega)
        rw [List.append_assoc, List.getElem?_append_right (by omega), Nat.add_sub_cancel_left, List.getElem?_append_left q] at g
        rw [g]
        rcases Nat.lt_or_ge i (v.length - x.length % v.length) with q2 | q2
        · rw [List.getElem?_append_left (by rw [List.length_drop]; exact q2), List.getElem?_drop]
          congr 1
          rw [Nat.add_mod, Nat.mod_eq_of_lt (show i < v.length by omega), Nat.mod_eq_of_lt (by omega)]
        · rw [List.getElem?_append_right (by rw [List.length_drop]; exact q2), List.length_drop, List.getElem?_take, if_pos (by omega)]
          congr 1
          rw [Nat.add_mod, Nat.mod_eq_of_lt (show i < v.length by omega), Nat.mod_eq_sub_mod (by omega), Nat.mod_eq_of_lt (by omega)]
          omega
      · rw [List.getElem?_eq_none q, List.getElem?_eq_none (by simp only [List.length_append, List.length_drop, List.length_take]; omega)]
    rw [e]
    exact Turn.at v _
  · apply List.ext_getElem?
    intro i
    rcases Nat.lt_or_ge i (n * v.length) with q | q
    · rw [rounds_get n v q]
      rcases Nat.lt_or_ge i x.length with q2 | q2
      · rw [List.getElem?_append_left q2]
        have g := G i (by omega)
        rw [List.append_assoc, List.getElem?_append_left q2] at g
        exact g
      · rw [List.getElem?_append_right q2]
        have g := G (i + v.length) (by omega)
        rw [List.getElem?_append_right (by rw [List.length_append]; omega), List.length_append, Nat.add_mod_right] at g
        rw [← g]
        congr 1
        omega
    · rw [List.getElem?_eq_none (by rw [List.length_append]; omega), List.getElem?_eq_none (by rw [rounds_len]; omega)]
/-- the parts of a text that go with each round of u -/
inductive Blocks (u : List α) : Nat → List α → Nat → Prop where
  | nil : Blocks u 0 [] 0
  | cons {n w v c d} : A u w c → Blocks u n v d → Blocks u (n + 1) (w ++ v) (c + d)
theorem blocks_of {u : List α} : ∀ {n : Nat} {v : List α} {c : Nat}, A (rounds (n + 1) u) v c → Blocks u (n + 1) v c
  | 0, v, c, h => by
    have h' : A u v c := h.cast (List.append_nil u) rfl rfl
    have := Blocks.cons h' .nil
    rw [List.append_nil] at this
    exact this
  | n + 1, v, c, h => by
    obtain ⟨v1, v2, c1, c2, rfl, h1, h2, rfl⟩ := h.split u (rounds (n + 1) u) rfl
    exact .cons h1 (blocks_of h2)
def Gone (u : List α) (b n : Nat) (V : List α) (c : Nat) : Prop :=
  ∃ x y z c1 c2 u', V = x ++ y ++ z ∧ y.length = b ∧ Blocks u n (x ++ z) c1 ∧ Turn u u' ∧ A u' y c2 ∧ c = c1 + c2
theorem tri {u : List α} {b : Nat} : ∀ {n : Nat} {V : List α} {c : Nat}, Blocks u (n + 1) V c →
    (∃ w V' c1 d, V = w ++ V' ∧ A u w c1 ∧ Blocks u n V' d ∧ c = c1 + d ∧ w.length < b ∧ V.length < (n + 1) * b) ∨
    (∃ w V' c1 d, V = w ++ V' ∧ A u w c1 ∧ Blocks u n V' d ∧ c = c1 + d ∧ b < w.length ∧ (n + 1) * b < V.length) ∨ Gone u b n V c := by
  intro n
  induction n with
  | zero =>
    intro V c h
    cases h with
    | @cons _ w V' c d h1 h2 =>
      cases h2
      rcases Nat.lt_trichotomy w.length b with q | q | q
      · exact .inl ⟨w, [], c, 0, rfl, h1, .nil, rfl, q, by simp; exact q⟩
      · exact .inr (.inr ⟨[], w, [], 0, c, u, by simp, q, .nil, Turn.refl u, h1, by omega⟩)
      · exact .inr (.inl ⟨w, [], c, 0, rfl, h1, .nil, rfl, q, by simp; exact q⟩)
  | succ n ih =>
    intro V c h
    cases h with
    | @cons _ w V' c d h1 h2 =>
      have em : (n + 1 + 1) * b = (n + 1) * b + b := Nat.succ_mul _ _
      rcases ih h2 with ⟨w', V'', c', d', rfl, g1, g2, rfl, l1, l2⟩ | ⟨w', V'', c', d', rfl, g1, g2, rfl, l1, l2⟩ | ⟨x, y, z, d1, d2, u', rfl, hy, g1, g2, g3, rfl⟩
      · rcases Nat.lt_trichotomy w.length b with q | q | q
        · exact .inl ⟨w, _, c, _, rfl, h1, h2, rfl, q, by rw [List.length_append]; omega⟩
        · exact .inr (.inr ⟨[], w, _, _, c, u, by simp, q, h2, Turn.refl u, h1, by omega⟩)
        · -- longer, then shorter
          obtain ⟨p, q', s, t, s', t', k1, k2, k3, k4, rfl, rfl, rfl, a1, a2, a3, a4, rfl, rfl, e⟩ := window _ (k := 0) (b := w.length + w'.length - b) (Nat.le_refl _) g1 h1 (by omega) (by omega)
          simp only [List.length_append] at e q l1
          refine .inr (.inr ⟨s', t' ++ s, t ++ V'', (k3 + k2) + d', k4 + k1, q' ++ p, by simp, by rw [List.length_append]; omega, ?_, ⟨p, q', rfl, rfl⟩, a4.append a1, by omega⟩)
          have := Blocks.cons (a3.append a2) g2
          rw [List.append_assoc] at this
          exact this
      · rcases Nat.lt_trichotomy w.length b with q | q | q
        · obtain ⟨p, q', s, t, s', t', k1, k2, k3, k4, rfl, rfl, rfl, a1, a2, a3, a4, rfl, rfl, e⟩ := window _ (k := 0) (b := b) (Nat.le_refl _) h1 g1 (by omega) (by omega)
          refine .inr (.inr ⟨s, t ++ s', t' ++ V'', (k1 + k4) + d', k2 + k3, q' ++ p, by simp, by rw [List.length_append]; omega, ?_, ⟨p, q', rfl, rfl⟩, a2.append a3, by omega⟩)
          have := Blocks.cons (a1.append a4) g2
          rw [List.append_assoc] at this
          exact this
        · exact .inr (.inr ⟨[], w, _, _, c, u, by simp, q, h2, Turn.refl u, h1, by omega⟩)
        · exact .inr (.inl ⟨w, _, c, _, rfl, h1, h2, rfl, q, by rw [List.length_append]; omega⟩)
      · refine .inr (.inr ⟨w ++ x, y, z, c + d1, d2, u', by simp, hy, ?_, g2, g3, by omega⟩)
        rw [List.append_assoc]
        exact .cons h1 g1
/-- rounds are at least as far apart as so many turns -/
theorem rounds_ge {u v : List α} {r : Nat} (hr : ∀ w c, Turn v w → A u w c → r ≤ c) : ∀ {n : Nat} {c : Nat}, Blocks u (n + 1) (rounds (n + 1) v) c → (n + 1) * r ≤ c := by
  intro n
  induction n with
  | zero =>
    intro c h
    rw [show rounds 1 v = v from List.append_nil v] at h
    generalize e : v = V at h
    cases h with
    | @cons _ w V' c d h1 h2 =>
      cases h2
      rw [List.append_nil] at e
      subst e
      have := hr v c (Turn.refl v) h1
      omega
  | succ n ih =>
    intro c h
    have hl := rounds_len (n + 1 + 1) v
    rcases tri (b := v.length) h with ⟨w, V', c', d', e, g1, g2, _, l1, l2⟩ | ⟨w, V', c', d', e, g1, g2, _, l1, l2⟩ | ⟨x, y, z, d1, d2, u', e, hy, g1, g2, g3, rfl⟩
    · rw [hl] at l2; exact absurd l2 (Nat.lt_irrefl _)
    · rw [hl] at l2; exact absurd l2 (Nat.lt_irrefl _)
    · obtain ⟨ht, hz⟩ := piece e hy
      rw [hz] at g1
      have k1 := ih g1
      obtain ⟨w, tw, aw⟩ := cut g2 ht g3
      have k2 := hr w d2 tw aw
      rw [Nat.succ_mul]
      omega
theorem rounds_A {u w : List α} {c : Nat} (h : A u w c) : ∀ n, A (rounds n u) (rounds n w) (n * c)
  | 0 => (A.nil).cast rfl rfl (by omega)
  | n + 1 => (h.append (rounds_A h n)).cast rfl rfl (by rw [Nat.succ_mul]; omega)
theorem rounds_turn (x y : List α) : ∀ n, rounds (n + 1) (x ++ y) = x ++ rounds n (y ++ x) ++ y
  | 0 => by simp [rounds]
  | n + 1 => by
    show (x ++ y) ++ rounds (n + 1) (x ++ y) = x ++ ((y ++ x) ++ rounds n (y ++ x)) ++ y
    rw [rounds_turn x y n]
    simp
theorem rounds_last (u : List α) : ∀ n, rounds (n + 1) u = rounds n u ++ u
  | 0 => by simp [rounds]
  | n + 1 => by
    show u ++ rounds (n + 1) u = (u ++ rounds n u) ++ u
    rw [rounds_last u n]; simp
theorem rounds_le {u v w : List α} {c : Nat} (ht : Turn v w) (h : A u w c) (n : Nat) : ∃ d, A (rounds (n + 1) u) (rounds (n + 1) v) d ∧ d ≤ n * c + u.length + v.length := by
  obtain ⟨x, y, rfl, rfl⟩ := ht
  refine ⟨_, (((A.adds x).append (rounds_A h n)).append ((A.drops u).append (A.adds y))).cast (by simp [rounds_last]) (by rw [rounds_turn]; simp) rfl, ?_⟩
  simp only [List.length_append]; omega
/-! ### the price of rounds -/
variable [DecidableEq α]
/-- the least of the distances of u and the turns of v -/
def Rp (u v : List α) (r : Nat) : Prop := (∃ w, Turn v w ∧ D u w = r) ∧ ∀ w, Turn v w → r ≤ D u w
theorem Rp.uniq {u v : List α} {r r' : Nat} (h : Rp u v r) (h' : Rp u v r') : r = r' := by
  obtain ⟨⟨w, t, e⟩, k⟩ := h
  obtain ⟨⟨w', t', e'⟩, k'⟩ := h'
  have := k w' t'
  have := k' w t
  omega
theorem Rp.turns {u u' v v' : List α} {r : Nat} (h : Rp u v r) (hu : Turn u u') (hv : Turn v v') : Rp u' v' r := by
  obtain ⟨⟨w, t, e⟩, k⟩ := h
  have low : ∀ w', Turn v' w' → r ≤ D u' w' := fun w' t' => by
    obtain ⟨w2, t2, a2⟩ := cut hu (hv.trans t') (D_A u' w')
    exact Nat.le_trans (k w2 t2) (D_le a2)
  obtain ⟨w2, t2, a2⟩ := cut (v := v') hu.symm (hv.symm.trans t) (D_A u w)
  have := D_le a2
  have := low w2 t2
  exact ⟨⟨w2, t2, by omega⟩, low⟩
theorem Rp.symm {u v : List α} {r : Nat} (h : Rp u v r) : Rp v u r := by
  obtain ⟨⟨w, t, e⟩, k⟩ := h
  have low : ∀ w', Turn u w' → r ≤ D v w' := fun w' t' => by
    obtain ⟨w2, t2, a2⟩ := cut t' (Turn.refl v) (D_A v w').symm
    exact Nat.le_trans (k w2 t2) (D_le a2)
  obtain ⟨w2, t2, a2⟩ := cut (v := u) t (Turn.refl u) (D_A u w).symm
  have := D_le a2
  have := low w2 t2
  exact ⟨⟨w2, t2, by omega⟩, low⟩
theorem Rp.self {u w : List α} (h : Turn u w) : Rp u w 0 := ⟨⟨u, h.symm, D_self u⟩, fun _ _ => Nat.zero_le _⟩
theorem Rp.ge {u v : List α} {r : Nat} (h : Rp u v r) (n : Nat) : (n + 1) * r ≤ D (rounds (n + 1) u) (rounds (n + 1) v) :=
  rounds_ge (fun w c t a => Nat.le_trans (h.2 w t) (D_le a)) (blocks_of (D_A _ _))
theorem Rp.le {u v : List α} {r : Nat} (h : Rp u v r) (n : Nat) : D (rounds (n + 1) u) (rounds (n + 1) v) ≤ n * r + u.length + v.length := by
  obtain ⟨⟨w, t, rfl⟩, _⟩ := h
  obtain ⟨d, a, hd⟩ := rounds_le t (D_A u w) n
  exact Nat.le_trans (D_le a) hd
/-- the turns by their places -/
theorem turn_at {v w : List α} (h : Turn v w) : ∃ k, k < max 1 v.length ∧ w = v.drop k ++ v.take k := by
  obtain ⟨x, y, rfl, rfl⟩ := h
  by_cases e : y = []
  · subst e
    exact ⟨0, by omega, by simp⟩
  · have : 0 < y.length := List.length_pos_iff.mpr e
    exact ⟨x.length, by rw [List.length_append]; omega, by simp⟩
end
end Lev

set_option Elab.async false
set_option linter.all false
set_option maxHeartbeats 400000
namespace Lev
section
variable {α : Type} [DecidableEq α]
/-! ### turns by a number, and roots -/
def rot (k : Nat) (v : List α) : List α := v.drop k ++ v.take k
theorem rot_len (k : Nat) (v : List α) : (rot k v).length = v.length := by
  unfold rot; rw [List.length_append, List.length_drop, List.length_take]; omega
theorem rot_get {k : Nat} {v : List α} (hk : k ≤ v.length) {i : Nat} (hi : i < v.length) : (rot k v)[i]? = v[(i + k) % v.length]? := by
  unfold rot
  by_cases h : i < v.length - k
  · rw [List.getElem?_append_left (by rw [List.length_drop]; exact h), List.getElem?_drop, Nat.mod_eq_of_lt (by omega), Nat.add_comm]
  · rw [List.getElem?_append_right (by rw [List.length_drop]; omega), List.length_drop, List.getElem?_take, if_pos (by omega)]
    have e : i + k = (i - (v.length - k)) + v.length := by omega
    rw [e, Nat.add_mod_right, Nat.mod_eq_of_lt (by omega)]
/-- each letter is the one so many places on -/
def Pr (v u : List α) (s : Nat) : Prop := ∀ i, i < v.length → v[(i + s) % v.length]? = u[i]?
theorem rot_eq {k : Nat} {v u : List α} (hk : k ≤ v.length) (hl : u.length = v.length) : rot k v = u ↔ Pr v u k := by
  constructor
  · intro h i hi
    rw [← h, rot_get hk hi]
  · intro h
    apply List.ext_getElem?
    intro i
    by_cases hi : i < v.length
    · rw [rot_get hk hi]; exact h i hi
    · rw [List.getElem?_eq_none (by rw [rot_len]; omega), List.getElem?_eq_none (by omega)]
theorem Pr.zero (v : List α) : Pr v v 0 := fun i hi => by rw [Nat.add_zero, Nat.mod_eq_of_lt hi]
theorem Pr.whole (v : List α) : Pr v v v.length := fun i hi => by rw [Nat.add_mod_right, Nat.mod_eq_of_lt hi]
theorem Pr.add {v u : List α} {s t : Nat} (h : Pr v v s) (g : Pr v u t) : Pr v u (t + s) := fun i hi => by
  have e := h ((i + t) % v.length) (Nat.mod_lt _ (by omega))
  rw [Nat.mod_add_mod] at e
  rw [← Nat.add_assoc, e, g i hi]
theorem Pr.sub {v u : List α} {s t : Nat} (h : Pr v v s) (g : Pr v u (t + s)) : Pr v u t := fun i hi => by
  have e := h ((i + t) % v.length) (Nat.mod_lt _ (by omega))
  rw [Nat.mod_add_mod] at e
  rw [← e, Nat.add_assoc, g i hi]
theorem Pr.mul {v : List α} {s : Nat} (h : Pr v v s) : ∀ q, Pr v v (q * s)
  | 0 => by rw [Nat.zero_mul]; exact Pr.zero v
  | q + 1 => by rw [Nat.succ_mul]; exact h.add (Pr.mul h q)
theorem Pr.mod {v u : List α} {s t : Nat} (h : Pr v v s) (g : Pr v u t) : Pr v u (t % s) := by
  refine Pr.sub (h.mul (t / s)) ?_
  rw [Nat.mul_comm, Nat.mod_add_div]; exact g
theorem Pr.diff {v u : List α} {s t : Nat} (h : Pr v u s) (g : Pr v u (t + s)) : Pr v v t := fun i hi => by
  -- the letters i + t and i are both read by u
  have hv : 0 < v.length := by omega
  -- choose j with j + s ≡ i
  have key : ∃ j, j < v.length ∧ (j + s) % v.length = i := by
    refine ⟨(i + (v.length - s % v.length)) % v.length, Nat.mod_lt _ hv, ?_⟩
    rw [Nat.mod_add_mod]
    have hs := Nat.mod_lt s hv
    have e : i + (v.length - s % v.length) + s = i + v.length * (s / v.length + 1) := by
      have := Nat.mod_add_div s v.length
      rw [Nat.mul_add, Nat.mul_one]
      generalize v.length * (s / v.length) = z at *
      omega
    rw [e, Nat.add_mul_mod_self_left, Nat.mod_eq_of_lt hi]
  obtain ⟨j, hj, ej⟩ := key
  have e1 := h j hj
  have e2 := g j hj
  rw [ej] at e1
  have e3 : (j + (t + s)) % v.length = (i + t) % v.length := by
    rw [show j + (t + s) = (j + s) + t by omega, ← Nat.mod_add_mod, ej]
  rw [e3] at e2
  rw [e2, e1]
instance (v u : List α) (s : Nat) : Decidable (Pr v u s) := by unfold Pr; infer_instance
/-- the length of the root -/
def rho (v : List α) : Nat := ((List.range v.length).find? fun s => decide (Pr v v (s + 1))).elim 0 (· + 1)
theorem rho_nil : rho ([] : List α) = 0 := rfl
theorem find_range {n : Nat} {p : Nat → Bool} {s : Nat} (h : (List.range n).find? p = some s) : s < n ∧ p s = true ∧ ∀ t, t < s → p t = false := by
  have e := List.find?_eq_some_iff_getElem.mp h
  obtain ⟨h1, i, hi, h2, h3⟩ := e
  rw [List.length_range] at hi
  rw [List.getElem_range] at h2
  subst h2
  exact ⟨hi, h1, fun t ht => by have := h3 t ht; rw [List.getElem_range] at this; simpa using this⟩
theorem rho_spec {v : List α} (hv : v ≠ []) : 0 < rho v ∧ rho v ≤ v.length ∧ Pr v v (rho v) ∧ ∀ t, 0 < t → t < rho v → ¬ Pr v v t := by
  have hl : 0 < v.length := List.length_pos_iff.mpr hv
  unfold rho
  cases h : (List.range v.length).find? fun s => decide (Pr v v (s + 1)) with
  | none =>
    have := List.find?_eq_none.mp h (v.length - 1) (List.mem_range.mpr (by omega))
    rw [show v.length - 1 + 1 = v.length by omega] at this
    exact absurd (decide_eq_true (Pr.whole v)) this
  | some s =>
    obtain ⟨h1, h2, h3⟩ := find_range h
    refine ⟨Nat.succ_pos _, h1, of_decide_eq_true h2, fun t t0 t1 => ?_⟩
    have := h3 (t - 1) (by have : t < s + 1 := t1; omega)
    rw [show t - 1 + 1 = t by omega] at this
    exact of_decide_eq_false this
theorem rho_le (v : List α) : rho v ≤ v.length := by
  by_cases h : v = []
  · subst h; exact Nat.le_refl _
  · exact (rho_spec h).2.1
theorem rho_least {v : List α} (hv : v ≠ []) {t : Nat} (t0 : 0 < t) (h : Pr v v t) : rho v ≤ t := by
  obtain ⟨_, _, _, k⟩ := rho_spec hv
  rcases Nat.lt_or_ge t (rho v) with q | q
  · exact absurd h (k t t0 q)
  · exact q
theorem rho_eq {v : List α} (hv : v ≠ []) {s : Nat} (s0 : 0 < s) (h : Pr v v s) (k : ∀ t, 0 < t → t < s → ¬ Pr v v t) : rho v = s := by
  refine Nat.le_antisymm (rho_least hv s0 h) ?_
  obtain ⟨a, _, c, _⟩ := rho_spec hv
  rcases Nat.lt_or_ge (rho v) s with q | q
  · exact absurd c (k _ a q)
  · exact q
theorem rho_dvd {v : List α} (hv : v ≠ []) {t : Nat} (h : Pr v v t) : t % rho v = 0 := by
  obtain ⟨a, _, c, k⟩ := rho_spec hv
  rcases Nat.eq_zero_or_pos (t % rho v) with q | q
  · exact q
  · exact absurd (Pr.mod c h) (k _ q (Nat.mod_lt _ a))
/-- the rounds of a piece -/
theorem rounds_Pr {w : List α} (hw : w ≠ []) (k : Nat) (s : Nat) : Pr (rounds (k + 1) w) (rounds (k + 1) w) s ↔ Pr w w s := by
  have hm : 0 < w.length := List.length_pos_iff.mpr hw
  have hl : (rounds (k + 1) w).length = (k + 1) * w.length := rounds_len _ _
  have get : ∀ i, (rounds (k + 1) w)[i % ((k + 1) * w.length)]? = w[i % w.length]? := fun i => by
    rw [rounds_get _ _ (Nat.mod_lt _ (Nat.mul_pos (Nat.succ_pos _) hm)), Nat.mod_mod_of_dvd _ (Nat.dvd_mul_left _ _)]
  constructor
  · intro h i hi
    have e := h i (by rw [hl, Nat.succ_mul]; omega)
    rw [hl, get] at e
    have e2 := get i
    rw [Nat.mod_eq_of_lt (by rw [Nat.succ_mul]; omega), Nat.mod_eq_of_lt hi] at e2
    rw [e, e2]
  · intro h i hi
    rw [hl] at hi
    rw [hl, get]
    have e2 := get i
    rw [Nat.mod_eq_of_lt hi] at e2
    rw [e2]
    have := h (i % w.length) (Nat.mod_lt _ hm)
    rw [Nat.mod_add_mod] at this
    exact this
theorem rounds_ne {w : List α} (hw : w ≠ []) (k : Nat) : rounds (k + 1) w ≠ [] := by
  intro h
  have := congrArg List.length h
  rw [rounds_len, Nat.succ_mul, List.length_nil] at this
  have := List.length_pos_iff.mpr hw
  omega
theorem rho_rounds {w : List α} (hw : w ≠ []) (k : Nat) : rho (rounds (k + 1) w) = rho w := by
  obtain ⟨a, _, c, d⟩ := rho_spec hw
  exact rho_eq (rounds_ne hw k) a ((rounds_Pr hw k _).mpr c) fun t t0 t1 h => d t t0 t1 ((rounds_Pr hw k _).mp h)
theorem rho_ext {v w : List α} (h : ∀ s, Pr v v s ↔ Pr w w s) (hv : v ≠ []) (hw : w ≠ []) : rho v = rho w := by
  obtain ⟨a, _, c, d⟩ := rho_spec hw
  exact rho_eq hv a ((h _).mpr c) fun t t0 t1 q => d t t0 t1 ((h _).mp q)
/-- a text is the rounds of a beginning of s letters exactly if s divides and it is periodic -/
theorem rounds_iff {v : List α} {s : Nat} (s0 : 0 < s) (hs : s ≤ v.length) : (v.length % s = 0 ∧ rounds (v.length / s) (v.take s) = v) ↔ (v.length % s = 0 ∧ Pr v v s) := by
  have lt : (v.take s).length = s := by rw [List.length_take]; omega
  constructor
  · rintro ⟨h1, h2⟩
    refine ⟨h1, ?_⟩
    have hq : 0 < v.length / s := Nat.div_pos hs s0
    obtain ⟨k, hk⟩ : ∃ k, v.length / s = k + 1 := ⟨v.length / s - 1, by omega⟩
    rw [hk] at h2
    have hw : v.take s ≠ [] := by intro z; rw [z] at lt; simp at lt; omega
    have := (rounds_Pr hw k s).mpr (by have := Pr.whole (v.take s); rw [lt] at this; exact this)
    rw [h2] at this
    exact this
  · rintro ⟨h1, h2⟩
    refine ⟨h1, ?_⟩
    have hd : v.length / s * s = v.length := Nat.div_mul_cancel (Nat.dvd_of_mod_eq_zero h1)
    apply List.ext_getElem?
    intro i
    by_cases hi : i < v.length
    · rw [rounds_get _ _ (by rw [lt, hd]; exact hi), lt, List.getElem?_take, if_pos (Nat.mod_lt _ s0)]
      have e := h2.mul (i / s) (i % s) (Nat.lt_of_lt_of_le (Nat.mod_lt _ s0) hs)
      rw [Nat.mul_comm, Nat.mod_add_div, Nat.mod_eq_of_lt hi] at e
      exact e.symm
    · rw [List.getElem?_eq_none (by rw [rounds_len, lt, hd]; omega), List.getElem?_eq_none (by omega)]
theorem rho_rounds_of {v : List α} (hv : v ≠ []) : v.length % rho v = 0 ∧ rounds (v.length / rho v) (v.take (rho v)) = v := by
  obtain ⟨a, b, c, _⟩ := rho_spec hv
  exact (rounds_iff a b).mpr ⟨rho_dvd hv (Pr.whole v), c⟩
def root (v : List α) : List α := v.take (rho v)
theorem root_nil : root ([] : List α) = [] := rfl
theorem root_len (v : List α) : (root v).length = rho v := by unfold root; rw [List.length_take]; have := rho_le v; omega
theorem root_ne {v : List α} (hv : v ≠ []) : root v ≠ [] := by
  intro h
  have := congrArg List.length h
  rw [root_len] at this
  have := (rho_spec hv).1
  simp at *; omega
theorem root_rounds {w : List α} (hw : w ≠ []) (k : Nat) : root (rounds (k + 1) w) = root w := by
  unfold root
  rw [rho_rounds hw]
  show (w ++ rounds k w).take (rho w) = _
  rw [List.take_append_of_le_length (rho_le w)]
theorem root_of {v : List α} (hv : v ≠ []) : ∃ k, v = rounds (k + 1) (root v) := by
  obtain ⟨h1, h2⟩ := rho_rounds_of hv
  have hq : 0 < v.length / rho v := Nat.div_pos (rho_le v) (rho_spec hv).1
  exact ⟨v.length / rho v - 1, by rw [show v.length / rho v - 1 + 1 = v.length / rho v by omega]; exact h2.symm⟩
theorem rounds_addR (v : List α) (n : Nat) : ∀ k, rounds (k + n) v = rounds k v ++ rounds n v
  | 0 => by rw [Nat.zero_add]; rfl
  | k + 1 => by
    rw [Nat.add_right_comm]
    show v ++ rounds (k + n) v = (v ++ rounds k v) ++ rounds n v
    rw [rounds_addR v n k, List.append_assoc]
/-- texts that commute are rounds of one text -/
theorem commute {N : Nat} : ∀ {x y : List α}, x.length + y.length ≤ N → x ≠ [] → y ≠ [] → x ++ y = y ++ x → ∃ z a b, z ≠ [] ∧ x = rounds (a + 1) z ∧ y = rounds (b + 1) z := by
  induction N with
  | zero => intro x y h hx _ _; exact absurd (List.length_eq_zero_iff.mp (by omega)) hx
  | succ N ih =>
    intro x y h hx hy e
    have px := List.length_pos_iff.mpr hx
    have py := List.length_pos_iff.mpr hy
    have one : ∀ {x y : List α}, x.length + y.length ≤ N + 1 → x ≠ [] → y ≠ [] → x ++ y = y ++ x → x.length < y.length → ∃ z a b, z ≠ [] ∧ x = rounds (a + 1) z ∧ y = rounds (b + 1) z := by
      intro x y h hx hy e l
      have px := List.length_pos_iff.mpr hx
      have hp : y = x ++ y.drop x.length := by
        have := congrArg (List.take x.length) e
        rw [List.take_left', List.take_append_of_le_length (by omega)] at this
        · conv => lhs; rw [← List.take_append_drop x.length y]
          rw [← this]
        · rfl
      generalize hy' : y.drop x.length = y' at hp
      have ly : y'.length = y.length - x.length := by rw [← hy', List.length_drop]
      rw [hp] at e
      have e2 : x ++ y' = y' ++ x := by
        rw [List.append_assoc] at e
        exact List.append_cancel_left e
      have hy2 : y' ≠ [] := by intro z; rw [z] at ly; simp at ly; omega
      obtain ⟨z, a, b, hz, e3, e4⟩ := ih (by omega) hx hy2 e2
      refine ⟨z, a, a + 1 + b, hz, e3, ?_⟩
      rw [hp, show a + 1 + b + 1 = (a + 1) + (b + 1) by omega, rounds_addR, ← e3, ← e4]
    rcases Nat.lt_trichotomy x.length y.length with l | l | l
    · exact one h hx hy e l
    · have : x = y := by
        have := congrArg (List.take x.length) e
        rw [List.take_left' rfl, List.take_left' l.symm] at this
        exact this
      subst this
      exact ⟨x, 0, 0, hx, by simp [rounds], by simp [rounds]⟩
    · obtain ⟨z, a, b, hz, e1, e2⟩ := one (by omega) hy hx e.symm l
      exact ⟨z, b, a, hz, e2, e1⟩
theorem root_commute {x y : List α} (hx : x ≠ []) (hy : y ≠ []) : root x = root y ↔ x ++ y = y ++ x := by
  constructor
  · intro h
    obtain ⟨a, ea⟩ := root_of hx
    obtain ⟨b, eb⟩ := root_of hy
    rw [← h] at eb
    rw [ea, eb, ← rounds_addR, ← rounds_addR, Nat.add_comm]
  · intro h
    obtain ⟨z, a, b, hz, e1, e2⟩ := commute (Nat.le_refl _) hx hy h
    rw [e1, e2, root_rounds hz, root_rounds hz]
end
end Lev

set_option Elab.async false
set_option linter.all false
set_option maxRecDepth 100000
set_option maxHeartbeats 4000000
/-! What the laws share: the box of draws, what stands, texts of small letters, what is shown. -/
namespace My
open PySem PySem.Spec PyProof.Rows L2
/-! ### the law's box of draws -/
def BoxO (n : Nat) (o : HO) : Prop := ∃ (a m c : Int) (b : Bool), o = .lst [.int a, .bl b, .int m, .int c] ∧ 0 ≤ m ∧ m < 2147483648 ∧ 0 ≤ c ∧ c ≤ n
def BoxAt (H : Hp) (p : Addr) (n : Nat) : Prop := ∃ o, H p = some o ∧ BoxO n o
theorem BoxAt.mono {H : Hp} {p : Addr} {n m : Nat} (h : BoxAt H p n) (l : n ≤ m) : BoxAt H p m := by
  obtain ⟨o, e, a, m', c, b, e2, h1, h2, h3, h4⟩ := h
  exact ⟨o, e, a, m', c, b, e2, h1, h2, h3, by omega⟩
/-- all but the box stands -/
def Kp (p : Addr) (H H' : Hp) : Prop := ∀ b o, b ≠ p → H b = some o → H' b = some o
theorem Kp.refl (p : Addr) (H : Hp) : Kp p H H := fun _ _ _ e => e
theorem Kp.trans {p : Addr} {H H1 H2 : Hp} (a : Kp p H H1) (b : Kp p H1 H2) : Kp p H H2 := fun c o n e => b c o n (a c o n e)
theorem Kp.of {p : Addr} {H H' : Hp} (s : Same H H') : Kp p H H' := fun b o _ e => s b o e
theorem Kp.new {p q : Addr} {H H' : Hp} {o : HO} (k : Kp p H H') (h : H' q = none) : Kp p H (upd H' q o) := fun b ob n e => by
  have := k b ob n e
  rw [upd_ne (ne_of_none this h)]; exact this
theorem BoxAt.new {p q : Addr} {H : Hp} {o : HO} {n : Nat} (h : BoxAt H p n) (hq : H q = none) : BoxAt (upd H q o) p n := by
  obtain ⟨ob, e, r⟩ := h
  exact ⟨ob, by rw [upd_ne (ne_of_none e hq)]; exact e, r⟩
theorem BoxAt.same {p : Addr} {H H' : Hp} {n : Nat} (h : BoxAt H p n) (s : Same H H') : BoxAt H' p n := by
  obtain ⟨ob, e, r⟩ := h
  exact ⟨ob, s _ _ e, r⟩
theorem Same.new {q : Addr} {H H' : Hp} {o : HO} (k : Same H H') (h : H' q = none) : Same H (upd H' q o) := fun b ob e => by
  have := k b ob e
  rw [upd_ne (ne_of_none this h)]; exact this
theorem cutV_to (xs : List V) (n : Nat) : cutV xs none (some (n : Int)) = xs.take n := by
  unfold cutV
  rw [HT.sIx_none, sIx_some, List.drop_zero, Nat.sub_zero]
  rcases Nat.le_total n xs.length with h | h
  · rw [Nat.min_eq_left h]
  · rw [Nat.min_eq_right h, List.take_of_length_le h, List.take_of_length_le (Nat.le_refl _)]
theorem Kp.upd {p : Addr} {H H' : Hp} {o : HO} (k : Kp p H H') : Kp p H (upd H' p o) := fun b ob n e => by
  rw [upd_ne n]; exact k b ob n e
theorem BoxO.at {H : Hp} {p : Addr} {n : Nat} {o : HO} (h : BoxO n o) : BoxAt (upd H p o) p n := ⟨o, upd_same, h⟩
def isT (z : Str) : Bool := (cs z).all low
def Big (u : List Nat) : Prop := u.length ≤ 100000
theorem Big.fits {u : List Nat} (h : Big u) : (S u).length ≤ sizeLine := by rw [S_len]; exact Nat.le_trans h (by decide)
theorem Big.lt {n : Nat} (h : n ≤ 100000) : n < sizeLine := Nat.lt_of_le_of_lt h (by decide)
theorem Big.dbl {u : List Nat} (h : Big u) : (S u).length + (S u).length ≤ sizeLine := by
  rw [S_len]
  have : u.length ≤ 100000 := h
  exact Nat.le_trans (by omega) (by decide : 200000 ≤ sizeLine)
theorem Big.two {a : Nat} {t : List Nat} (h : Big t) : (S (t.drop a)).length + (S (t.take a)).length ≤ sizeLine := by
  rw [S_len, S_len]
  have : t.length ≤ 100000 := h
  exact Nat.le_trans (by rw [List.length_drop, List.length_take]; omega) (by decide : 200000 ≤ sizeLine)
theorem tYesT {σ : L2.St} {H : Hp} {A B : Hp → Prop} (h : A H) : tYes σ H (fun b H3 => if b = true then A H3 else B H3) := by
  show (if true = true then A H else B H)
  rw [if_pos rfl]; exact h
theorem ixN_nat {n j : Nat} (h : j < n) : ixN n (j : Int) = some j := by
  unfold ixN
  rw [if_pos (by omega), if_pos (by omega), Int.toNat_natCast]
theorem ix_listK {X : Cx} {K : PySem.W.Frag} (e : X.K = K) : IxR X (rIxL K) := by rw [← e]; exact ix_list
/-! ### rounds as a product -/
theorem foldl_rep (x : Array Nat) : ∀ (n : Nat) (b : Array Nat), (List.replicate n x).foldl (· ++ ·) b = b ++ (Lev.rounds n x.toList).toArray
  | 0, b => by simp [Lev.rounds]
  | n + 1, b => by
    rw [List.replicate_succ, List.foldl_cons, foldl_rep x n]
    simp [Lev.rounds]
    obtain ⟨x⟩ := x
    simp
theorem rounds_nil : ∀ n, Lev.rounds n ([] : List Nat) = []
  | 0 => rfl
  | n + 1 => by simp [Lev.rounds, rounds_nil n]
theorem mul_S (x : List Nat) (n : Nat) : Txt.mul (S x) (n : Int) = S (Lev.rounds n x) := by
  unfold Txt.mul
  by_cases h : n = 0
  · subst h; rfl
  · rw [if_neg (by omega)]
    by_cases h1 : ((n : Int) == 1 || (S x).length == 0) = true
    · rw [if_pos h1]
      simp only [Bool.or_eq_true, beq_iff_eq] at h1
      rcases h1 with e | e
      · have : n = 1 := by omega
        subst this
        simp [Lev.rounds]
      · rw [S_len] at e
        have : x = [] := List.eq_nil_of_length_eq_zero e
        subst this
        rw [rounds_nil]
    · rw [if_neg h1, Int.toNat_natCast, foldl_rep]
      simp [S]
theorem mulOk_S {x : List Nat} {n : Nat} (hx : x.length ≤ 1000) (hn : n ≤ 1000) : MulOk (S x) (n : Int) := by
  refine ⟨?_, fun _ _ => ?_, fun _ _ => ?_⟩
  · simp only [Bool.or_eq_false_iff, decide_eq_false_iff_not]; omega
  · rw [S_len]
    rcases Nat.eq_zero_or_pos n with e | e
    · subst e; contradiction
    · have : ((2 : Int) ^ 63 - 1) / n ≥ ((2 : Int) ^ 63 - 1) / 1000 := by
        have h1 : (2 ^ 63 - 1 : Int) / 1000 * n ≤ 2 ^ 63 - 1 := by omega
        exact Int.le_ediv_of_mul_le (by omega) h1
      omega
  · rw [S_len, Int.toNat_natCast]
    have : x.length * n ≤ 1000 * 1000 := Nat.mul_le_mul hx hn
    show decide (x.length * n > sizeLine) = false
    rw [decide_eq_false_iff_not]
    exact Nat.not_lt.mpr (Nat.le_trans this (by decide))
/-! ### letters -/
def Low (t : List Nat) : Prop := ∀ c ∈ t, low c = true
theorem Low.isT {t : List Nat} (h : Low t) : isT (S t) = true := by
  unfold My.isT
  rw [S_tl]
  exact List.all_eq_true.mpr h
theorem Low.append {t u : List Nat} (h : Low t) (g : Low u) : Low (t ++ u) := fun c hc => by
  rcases List.mem_append.mp hc with q | q
  · exact h c q
  · exact g c q
theorem Low.take {t : List Nat} (h : Low t) (n : Nat) : Low (t.take n) := fun c hc => h c (List.mem_of_mem_take hc)
theorem Low.drop {t : List Nat} (h : Low t) (n : Nat) : Low (t.drop n) := fun c hc => h c (List.mem_of_mem_drop hc)
theorem Low.nil : Low [] := fun c hc => by cases hc
theorem Low.one {c : Nat} (h : low c = true) : Low [c] := fun d hd => by rw [List.mem_singleton.mp hd]; exact h
theorem Kp.free {p D : Addr} {H H' : Hp} {o : HO} (k : Kp p H H') (h : H D = none) : Kp p H (L2.upd H' D o) := fun b ob n e => by
  rw [upd_ne (ne_of_none e h)]; exact k b ob n e
theorem BoxAt.other {p q : Addr} {H : Hp} {o : HO} {n : Nat} (h : BoxAt H p n) (hq : p ≠ q) : BoxAt (upd H q o) p n := by
  obtain ⟨ob, e, r⟩ := h
  exact ⟨ob, by rw [upd_ne hq]; exact e, r⟩
theorem BoxAt.ne {p q : Addr} {H : Hp} {n : Nat} (h : BoxAt H p n) (hq : H q = none) : p ≠ q := by
  obtain ⟨ob, e, r⟩ := h
  exact ne_of_none e hq
theorem ones_sum (t : List Nat) : (List.map ((fun x : Str => x.length) ∘ fun c => S [c]) t).sum = t.length := by
  induction t with
  | nil => rfl
  | cons c r ih => rw [List.map_cons, List.sum_cons, ih, List.length_cons]; show 1 + _ = _; omega
theorem alpha_at {d : Nat} (h : d < 26) : atI (Str.ofString "abcdefghijklmnopqrstuvwxyz").cps.toList (d : Int) = some (97 + d) := by
  have e : (Str.ofString "abcdefghijklmnopqrstuvwxyz").cps.toList = (List.range 26).map (97 + ·) := by decide +kernel
  rw [e]
  exact atI_nat (by rw [List.getElem?_map, List.getElem?_range h]; rfl)
theorem low_alpha {d : Nat} (h : d < 26) : low (97 + d) = true := by
  unfold low; simp; omega
theorem join_ones (t : List Nat) : Txt.join (Str.ofString "") (t.map fun c => S [c]) = S t := by
  rw [TL.join_eq]
  have e : cs (Str.join (Str.ofString "") (t.map fun c => S [c])) = t := by
    rw [show cs (Str.join (Str.ofString "") (t.map fun c => S [c])) = TL.tl (Str.join (Str.ofString "") (t.map fun c => S [c])) from rfl, TL.tl_join, List.map_map]
    have go : ∀ t : List Nat, TL.joinL [] (t.map fun c => [c]) = t := by
      intro t
      induction t with
      | nil => rfl
      | cons c r ih =>
        cases r with
        | nil => rfl
        | cons d r => show [c] ++ ([] ++ TL.joinL [] ((d :: r).map fun c => [c])) = _; rw [ih]; rfl
    exact go t
  rw [← S_of (Str.join _ _), e]
/-- whether a value is a text, as is_text says -/
def Jd (K : PySem.W.Frag) (H : Hp) (x : V) (b : Bool) : Prop := (∃ z, x = .str z ∧ b = isT z) ∨ ∃ t, TyX K H x (.type t) ∧ kitB t "str" = some false ∧ b = false
/-- an error of class C, made of x -/
def Bad (C : Addr) (H : Hp) (x : V) (E : XK) : Prop := ∀ d H', Same H H' → H d = none → H' d = some (.xd (gvn x)) → E (.ref C) (some d) H'
theorem tyOf_same {K : PySem.W.Frag} {H H' : Hp} {x : V} {t : Value} (h : TyOf K H x t) (s : Same H H') : TyOf K H' x t := by
  cases h
  case non => exact .non
  case bl => exact .bl _
  case int => exact .int _
  case str => exact .str _
  case flt => exact .flt _
  case lst e => exact .lst (s _ _ e)
  case frz e => exact .frz (s _ _ e)
  case tup e => exact .tup (s _ _ e)
  case dK e => exact .dK (s _ _ e)
  case dT e => exact .dT (s _ _ e)
  case ins e cl ha hn htk hm => exact .ins (s _ _ e) cl ha hn htk hm
theorem tyX_same {K : PySem.W.Frag} {H H' : Hp} {x : V} {t : Value} (h : TyX K H x t) (s : Same H H') : TyX K H' x t := by
  cases h
  case base e => exact .base (tyOf_same e s)
  case byt => exact .byt _
  case set e => exact .set (s _ _ e)
  case kList e c => exact .kList e c
  case kTuple e c => exact .kTuple e c
  case kDict e c => exact .kDict e c
  case fTuple e => exact .fTuple (s _ _ e)
  case fDict e => exact .fDict (s _ _ e)
theorem Jd.same {K : PySem.W.Frag} {H H' : Hp} {x : V} {b : Bool} (h : Jd K H x b) (s : Same H H') : Jd K H' x b := by
  rcases h with h | ⟨t, h1, h2, h3⟩
  · exact .inl h
  · exact .inr ⟨t, tyX_same h1 s, h2, h3⟩
/-! ### what can be shown -/
def Sh (d : PyData) : Prop := d.showable = true ∧ d.depth ≤ 60 ∧ d.shown.length ≤ sizeLine
theorem sh_of {d : PyData} (h1 : d.showable = true) (h2 : d.depth ≤ 60) (h3 : d.leavesShort 40 = true) (h4 : d.weight ≤ 100000) : Sh d := by
  refine ⟨h1, h2, ?_⟩
  have e := PyData.shown_le 40 (by omega) d h3
  exact Nat.le_trans e (Nat.le_trans (by omega : (40 + 2) * d.weight + 40 ≤ 4200040) (by decide))
theorem log2_20 {r : Nat} (h : r < 1048576) : r.log2 < 20 := PySem.Flt.log2_lt_of (by decide) h
theorem short_int {r : Nat} (h : r < 1048576) : (PyData.int r).leavesShort 40 = true := by
  have e := int_text_length_le (a := (r : Int)) (k := 20) (by decide) (log2_20 h)
  have e2 : (PyData.int (r : Int)).shown = Str.ofString (toString (r : Int)) := by simp only [PyData.shown]
  unfold PyData.leavesShort
  refine decide_eq_true ?_
  rw [e2, PySem.ofString_length]
  omega
theorem show_int {r : Nat} (h : r < 1048576) : (PyData.int r).showable = true := by
  simp only [PyData.showable, decide_eq_true_eq]
  exact Nat.lt_trans (log2_20 h) (by decide)
theorem weight_int {r : Nat} (h : r < 1048576) : (PyData.int r).weight ≤ 21 := by
  simp only [PyData.weight]
  have := log2_20 h
  split
  · omega
  · show (r : Int).natAbs.log2 + 1 ≤ 21
    rw [Int.natAbs_natCast]; omega
theorem un64 {k : Nat} {A : Around} (hr : Room k A) : A.units + 64 < cLine := by have := hr.un; omega
theorem neSame {z : Str} {A B : Prop} (h : B) : if (!decide (V.str z = V.str z)) = true then A else B := by
  rw [decide_eq_true rfl]; exact iteF h
theorem jd_low {K : PySem.W.Frag} {H : Hp} {t : List Nat} (h : Low t) : Jd K H (.str (S t)) true := .inl ⟨_, rfl, h.isT.symm⟩
theorem eqT {i : Int} {A B : Prop} (h : A) : if decide (V.int i = V.int i) = true then A else B := by
  rw [decide_eq_true rfl]; exact iteT h
theorem eqF {i j : Int} {A B : Prop} (n : i ≠ j) (h : B) : if decide (V.int i = V.int j) = true then A else B := by
  rw [decide_eq_false (fun z => n (V.int.inj z))]; exact iteF h
theorem through2 {t : TE} {σ : L2.St} {H : Hp} {Q : VK} (R : V → Hp → Prop) (h : ∀ Q' : VK, (∀ v H', R v H' → Q' v H') → t σ H Q') (rest : ∀ v H', R v H' → Q v H') : t σ H Q := h Q rest
theorem eqS {z : Str} {A B : Prop} (h : A) : if decide (V.str z = V.str z) = true then A else B := by
  rw [decide_eq_true rfl]; exact iteT h
theorem dp_same {K : PySem.W.Frag} {H H' : Hp} (s : Same H H') {x : V} {d : PyData} (h : Dp K H x d) : Dp K H' x d :=
  Dp.rec (motive_1 := fun x d _ => Dp K H' x d) (motive_2 := fun xs ds _ => DpAll K H' xs ds) .non (fun _ => .bl _) (fun _ => .int _) (fun _ => .str _)
    (fun hs _ ih => .lst (hs.ext s) ih) (fun hs _ ih => .tup (hs.elim (fun h => .inl (h.elim (fun h => .inl (s _ _ h)) fun ⟨o, h⟩ => .inr ⟨o, s _ _ h⟩)) fun h => .inr h) ih) .nil (fun _ _ i1 i2 => .cons i1 i2) h
theorem Ds.same {K : PySem.W.Frag} {H H' : Hp} (s : Same H H') {x : V} {d : PyData} (h : Ds K H x d) : Ds K H' x d := by
  rcases h with h | ⟨a, kvs, ds, e, ea, r⟩
  · exact .inl (dp_same s h)
  · exact .inr ⟨a, kvs, ds, e, s _ _ ea, r⟩
theorem Kp.toSame {p : Addr} {H H1 H2 : Hp} (k : Kp p H1 H2) (s : Same H H1) (h : H p = none) : Same H H2 := fun b o e => k b o (ne_of_none e h) (s b o e)
theorem sh_str {z : List Nat} (h : z.length ≤ 1000) (hc : ∀ c ∈ z, c < 200) : Sh (.str (S z)) := by
  refine sh_of (by simp only [PyData.showable]) (by simp only [PyData.depth]; omega) ?_ ?_
  · unfold PyData.leavesShort
    rw [List.all_eq_true]
    intro c hcm
    have : c ∈ z := by rw [← S_tl z]; exact hcm
    have := hc c this
    exact decide_eq_true (by omega)
  · unfold PyData.weight
    show (S z).length ≤ 100000
    rw [S_len]; omega
/-! ### data that is small enough to be shown -/
structure Fit (x : PyData) (k w : Nat) : Prop where
  s : x.showable = true
  d : x.depth ≤ k
  l : x.leavesShort 40 = true
  w : x.weight ≤ w
structure FitAll (ds : List PyData) (k w : Nat) : Prop where
  s : PyData.showableAll ds = true
  d : PyData.depthAll ds ≤ k
  l : PyData.leavesShortAll 40 ds = true
  w : PyData.weightAll ds ≤ w
structure FitKv (ds : List (PyData × PyData)) (k w : Nat) : Prop where
  s : PyData.showableKv ds = true
  d : PyData.depthKv ds ≤ k
  l : PyData.leavesShortKv 40 ds = true
  w : PyData.weightKv ds ≤ w
theorem Fit.sh {d : PyData} {k w : Nat} (h : Fit d k w) (hk : k ≤ 60) (hw : w ≤ 100000) : Sh d := sh_of h.s (Nat.le_trans h.d hk) h.l (Nat.le_trans h.w hw)
theorem Fit.mono {d : PyData} {k w k' w' : Nat} (h : Fit d k w) (hk : k ≤ k') (hw : w ≤ w') : Fit d k' w' := ⟨h.s, Nat.le_trans h.d hk, h.l, Nat.le_trans h.w hw⟩
theorem FitAll.mono {d : List PyData} {k w k' w' : Nat} (h : FitAll d k w) (hk : k ≤ k') (hw : w ≤ w') : FitAll d k' w' := ⟨h.s, Nat.le_trans h.d hk, h.l, Nat.le_trans h.w hw⟩
theorem FitAll.nil {k : Nat} : FitAll [] k 0 := ⟨rfl, Nat.zero_le _, rfl, Nat.le_refl _⟩
theorem FitAll.cons {d : PyData} {ds : List PyData} {k w1 w2 : Nat} (h : Fit d k w1) (t : FitAll ds k w2) : FitAll (d :: ds) k (w1 + 1 + w2) := by
  refine ⟨?_, ?_, ?_, ?_⟩
  · unfold PyData.showableAll; rw [h.s, t.s]; rfl
  · unfold PyData.depthAll; have := h.d; have := t.d; omega
  · unfold PyData.leavesShortAll; rw [h.l, t.l]; rfl
  · unfold PyData.weightAll; have := h.w; have := t.w; omega
theorem Fit.list {ds : List PyData} {k w : Nat} (t : FitAll ds k w) : Fit (.list ds) (k + 1) w := by
  refine ⟨?_, ?_, ?_, ?_⟩
  · unfold PyData.showable; exact t.s
  · unfold PyData.depth; have := t.d; omega
  · unfold PyData.leavesShort; exact t.l
  · unfold PyData.weight; exact t.w
theorem Fit.tuple {ds : List PyData} {k w : Nat} (t : FitAll ds k w) : Fit (.tuple ds) (k + 1) w := by
  refine ⟨?_, ?_, ?_, ?_⟩
  · unfold PyData.showable; exact t.s
  · unfold PyData.depth; have := t.d; omega
  · unfold PyData.leavesShort; exact t.l
  · unfold PyData.weight; exact t.w
theorem Fit.none {k : Nat} : Fit .none k 0 := ⟨by unfold PyData.showable; rfl, by unfold PyData.depth; omega, by decide +kernel, by unfold PyData.weight; exact Nat.le_refl _⟩
theorem Fit.bool {b : Bool} {k : Nat} : Fit (.bool b) k 0 := ⟨by unfold PyData.showable; rfl, by unfold PyData.depth; omega, by cases b <;> decide +kernel, by unfold PyData.weight; exact Nat.le_refl _⟩
theorem Fit.nat {r k : Nat} (h : r < 1048576) : Fit (.int r) k 21 := ⟨show_int h, by unfold PyData.depth; omega, short_int h, weight_int h⟩
theorem Fit.str {z : List Nat} {k w : Nat} (h : z.length ≤ w) (hc : ∀ c ∈ z, c < 200) : Fit (.str (S z)) k w := by
  refine ⟨by unfold PyData.showable; rfl, by unfold PyData.depth; omega, ?_, ?_⟩
  · unfold PyData.leavesShort
    rw [List.all_eq_true]
    intro c hcm
    have : c ∈ z := by rw [← S_tl z]; exact hcm
    have := hc c this
    exact decide_eq_true (by omega)
  · unfold PyData.weight
    show (S z).length ≤ w
    rw [S_len]; exact h
theorem FitKv.nil {k : Nat} : FitKv [] k 0 := ⟨rfl, Nat.zero_le _, rfl, Nat.le_refl _⟩
theorem FitKv.cons {a b : PyData} {ds : List (PyData × PyData)} {k w1 w2 w3 : Nat} (h : Fit a k w1) (g : Fit b k w2) (t : FitKv ds k w3) : FitKv ((a, b) :: ds) k (w1 + w2 + 2 + w3) := by
  refine ⟨?_, ?_, ?_, ?_⟩
  · unfold PyData.showableKv; rw [h.s, g.s, t.s]; rfl
  · unfold PyData.depthKv; have := h.d; have := g.d; have := t.d; omega
  · unfold PyData.leavesShortKv; rw [h.l, g.l, t.l]; rfl
  · unfold PyData.weightKv; have := h.w; have := g.w; have := t.w; omega
theorem Fit.dict {ds : List (PyData × PyData)} {k w : Nat} (t : FitKv ds k w) : Fit (.dict ds) (k + 1) w := by
  refine ⟨?_, ?_, ?_, ?_⟩
  · unfold PyData.showable; exact t.s
  · unfold PyData.depth; have := t.d; omega
  · unfold PyData.leavesShort; exact t.l
  · unfold PyData.weight; exact t.w
abbrev natsD (ns : List Nat) : List PyData := ns.map fun (n : Nat) => PyData.int n
theorem FitAll.nats {k : Nat} : ∀ {ns : List Nat}, (∀ n ∈ ns, n < 1048576) → FitAll (natsD ns) k (22 * ns.length)
  | [], _ => FitAll.nil
  | n :: ns, h => (FitAll.cons (Fit.nat (h n List.mem_cons_self)) (FitAll.nats fun m hm => h m (List.mem_cons_of_mem _ hm))).mono (Nat.le_refl _) (by rw [List.length_cons]; omega)
theorem Low.lt {t : List Nat} (h : Low t) : ∀ c ∈ t, c < 200 := fun c hc => by
  have := h c hc
  unfold low at this
  simp only [Bool.and_eq_true, decide_eq_true_eq] at this
  omega
theorem dp_nats {K : PySem.W.Frag} {H : Hp} : ∀ ns : List Nat, DpAll K H (ns.map fun n => V.int (n : Nat)) (natsD ns)
  | [] => .nil
  | n :: ns => .cons (.int _) (dp_nats ns)
theorem un0 {k : Nat} {A : Around} (hr : Room k A) : A.units < cLine := Nat.lt_of_le_of_lt (Nat.le_add_right _ 64) (un64 hr)
end My

set_option Elab.async false
set_option linter.all false
set_option maxRecDepth 100000
set_option maxHeartbeats 4000000
/-! Values as data, empty dicts among them: what they are, their classes, == with a text, shown. -/
namespace L2
open PySem PySem.Spec PyProof.Rows
def kvV (p : Int × Int) : Key × V := (Sum.inl p.1, .int p.2)
def kvD (p : Int × Int) : PyData × PyData := (.int p.1, .int p.2)
/-! x is the data d; m: dicts are let, and then no list lies where the modules lie -/
mutual
inductive Dg (K : PySem.W.Frag) (H : Hp) (m : Bool) : V → PyData → Prop
  | non : Dg K H m .non .none
  | bl (b : Bool) : Dg K H m (.bl b) (.bool b)
  | int (i : Int) : Dg K H m (.int i) (.int i)
  | str (x : Str) : Dg K H m (.str x) (.str x)
  | lst {a : Addr} {xs : List V} {ds : List PyData} : SqL K H a xs → (m = true → (a == sysModules) = false) → DgAll K H m xs ds → Dg K H m (.ref a) (.list ds)
  | tup {a : Addr} {xs : List V} {ds : List PyData} : SqT K H a xs → DgAll K H m xs ds → Dg K H m (.ref a) (.tuple ds)
  | emp {a : Addr} : m = true → H a = some (.dK []) → Dg K H m (.ref a) (.dict [])
  | dct {a : Addr} (l : List (Int × Int)) : m = true → H a = some (.dK (l.map kvV)) → Dg K H m (.ref a) (.dict (l.map kvD))
inductive DgAll (K : PySem.W.Frag) (H : Hp) (m : Bool) : List V → List PyData → Prop
  | nil : DgAll K H m [] []
  | cons {v : V} {vs : List V} {d : PyData} {ds : List PyData} : Dg K H m v d → DgAll K H m vs ds → DgAll K H m (v :: vs) (d :: ds)
end
theorem dct_reads {P : Program} {w : World} (h : Heap) : ∀ (l : List (Int × Int)) (vs : List (Key × Value)) (es : List DictEntry), KV (l.map kvV) vs → PySem.Pairs (mixKind P w) es vs →
    ReadsAll h (es.map (·.key)) ((l.map kvD).map (·.1)) [] ∧ ReadsAll h (es.map (·.val)) ((l.map kvD).map (·.2)) []
  | [], _, _, hk, hp => by
    cases hk
    cases hp
    exact ⟨.nil, .nil⟩
  | (k, i) :: l, _, _, hk, hp => by
    cases hk with
    | cons h1 h2 =>
      obtain ⟨e1, r1⟩ := h1
      cases hp with
      | cons p1 p2 p3 =>
        rename_i q qs e es
        obtain ⟨qk, qv⟩ := q
        obtain rfl : Sum.inl k = qk := e1
        obtain ⟨t, rfl⟩ : ∃ t, qv = .int i t := r1
        obtain ⟨ih1, ih2⟩ := dct_reads h l qs es h2 p3
        have k1 : Value.isInt k e.key = true := p1
        obtain ⟨u, eu⟩ := Value.isInt_shape k1
        refine ⟨?_, ?_⟩
        · show ReadsAll h (e.key :: _) (.int k :: _) _
          rw [eu]
          exact ReadsAll.cons (Reads.int k u) ih1
        · show ReadsAll h (e.val :: _) (.int i :: _) _
          rw [p2]
          exact ReadsAll.cons (Reads.int i t) ih2
section
variable {X : Cx} {pins : List (Addr × Obj)} {σ : St} {H : Hp} {s : Shared} {m : Bool}
mutual
theorem Dg.reads (I : Inv X pins σ H s) : ∀ (d : PyData) (v : V) (u : Value), Dg X.K H m v d → RelV v u → ∃ as, Reads s.heap u d as ∧ (m = true → sysModules ∉ as)
  | .none, _, _, h, r => by
    cases h
    cases r
    exact ⟨_, Reads.none, fun _ => List.not_mem_nil⟩
  | .bool b, _, _, h, r => by
    cases h
    cases r
    exact ⟨_, Reads.bool b, fun _ => List.not_mem_nil⟩
  | .int i, _, _, h, r => by
    cases h
    obtain ⟨t, rfl⟩ := r
    exact ⟨_, Reads.int i t, fun _ => List.not_mem_nil⟩
  | .str x, _, _, h, r => by
    cases h
    obtain ⟨t, rfl⟩ := r
    exact ⟨_, Reads.str x t, fun _ => List.not_mem_nil⟩
  | .list ds, _, _, h, r => by
    cases h with
    | lst hs hl ha =>
      cases r
      obtain ⟨its, rv, ⟨o, n, ho, hc, _, hd⟩, _⟩ := I.list hs
      obtain ⟨as, hr, hm⟩ := Dg.readsAll I ds _ its ha rv
      refine ⟨_, Reads.list ho hc hd hr, fun e hh => ?_⟩
      rcases List.mem_cons.mp hh with q | q
      · have := hl e
        rw [← q] at this
        exact absurd this (by decide)
      · exact hm e q
  | .tuple ds, _, _, h, r => by
    cases h with
    | tup hs ha =>
      cases r
      obtain ⟨its, rv, ⟨o, ho, hc, n, hd⟩, _⟩ := I.tuple hs
      obtain ⟨as, hr, hm⟩ := Dg.readsAll I ds _ its ha rv
      exact ⟨_, Reads.tuple ho hc hd hr, hm⟩
  | .dict _, _, _, h, r => by
    cases h with
    | @emp a hm ha =>
      cases r
      obtain ⟨_, hsys, vs, hkv, od, es, ep, hget, hcl, hdat, hko, hps, _⟩ : ObjOk X.prog X.w H s.heap a (.dK []) := I.hok a _ ha
      cases hkv
      have he : es.toList = [] := by
        generalize es.toList = l at hps
        cases hps; rfl
      refine ⟨a :: [] ++ [], .dict hget hcl.1 hdat (by rw [he]; exact .nil) (by rw [he]; exact .nil), fun _ hh => ?_⟩
      have e : sysModules = a := by simpa using hh
      rw [← e] at hsys
      exact absurd hsys (by decide)
    | @dct a l hm ha =>
      cases r
      obtain ⟨_, hsys, vs, hkv, od, es, ep, hget, hcl, hdat, hko, hps, _⟩ : ObjOk X.prog X.w H s.heap a (.dK (l.map kvV)) := I.hok a _ ha
      obtain ⟨r1, r2⟩ := dct_reads s.heap l vs es.toList hkv hps
      refine ⟨a :: [] ++ [], .dict hget hcl.1 hdat r1 r2, fun _ hh => ?_⟩
      have e : sysModules = a := by simpa using hh
      rw [← e] at hsys
      exact absurd hsys (by decide)
theorem Dg.readsAll (I : Inv X pins σ H s) : ∀ (ds : List PyData) (vs : List V) (us : List Value), DgAll X.K H m vs ds → Vals vs us → ∃ as, ReadsAll s.heap us ds as ∧ (m = true → sysModules ∉ as)
  | [], _, _, h, r => by
    cases h
    cases r
    exact ⟨_, ReadsAll.nil, fun _ => List.not_mem_nil⟩
  | d :: ds, _, _, h, r => by
    cases h with
    | cons h1 h2 =>
      cases r with
      | cons r1 r2 =>
        obtain ⟨as, q1, n1⟩ := Dg.reads I d _ _ h1 r1
        obtain ⟨bs, q2, n2⟩ := Dg.readsAll I ds _ _ h2 r2
        exact ⟨_, ReadsAll.cons q1 q2, fun e hh => by
          rcases List.mem_append.mp hh with q | q
          · exact n1 e q
          · exact n2 e q⟩
end
end
theorem Dg.noDict {K : PySem.W.Frag} {H : Hp} {x : V} {d : PyData} (h : Dg K H false x d) : d.hasDict = false :=
  Dg.rec (motive_1 := fun _ d _ => d.hasDict = false) (motive_2 := fun _ ds _ => PyData.hasDictAll ds = false) rfl (fun _ => rfl) (fun _ => rfl) (fun _ => rfl)
    (fun _ _ _ ih => by unfold PyData.hasDict; exact ih) (fun _ _ ih => by unfold PyData.hasDict; exact ih) (fun e => by cases e) (fun _ e => by cases e) rfl (fun _ _ i1 i2 => by unfold PyData.hasDictAll; rw [i1, i2]; rfl) h
theorem SqL.same {K : PySem.W.Frag} {H H' : Hp} {a : Addr} {xs : List V} (h : SqL K H a xs) (s : ∀ b o, H b = some o → H' b = some o) : SqL K H' a xs := h.ext s
theorem Dg.ext {K : PySem.W.Frag} {H H' : Hp} {m : Bool} (s : ∀ b o, H b = some o → H' b = some o) {x : V} {d : PyData} (h : Dg K H m x d) : Dg K H' m x d :=
  Dg.rec (motive_1 := fun x d _ => Dg K H' m x d) (motive_2 := fun xs ds _ => DgAll K H' m xs ds) .non (fun _ => .bl _) (fun _ => .int _) (fun _ => .str _)
    (fun hs hl _ ih => .lst (hs.ext s) hl ih) (fun hs _ ih => .tup (hs.elim (fun h => .inl (h.elim (fun h => .inl (s _ _ h)) fun ⟨o, h⟩ => .inr ⟨o, s _ _ h⟩)) fun h => .inr h) ih) (fun e h => .emp e (s _ _ h)) (fun l e h => .dct l e (s _ _ h)) .nil (fun _ _ i1 i2 => .cons i1 i2) h
theorem DgAll.ext {K : PySem.W.Frag} {H H' : Hp} {m : Bool} (s : ∀ b o, H b = some o → H' b = some o) : ∀ {xs : List V} {ds : List PyData}, DgAll K H m xs ds → DgAll K H' m xs ds
  | _, _, .nil => .nil
  | _, _, .cons h t => .cons (h.ext s) (DgAll.ext s t)
theorem DgAll.len {K : PySem.W.Frag} {H : Hp} {m : Bool} : ∀ {xs : List V} {ds : List PyData}, DgAll K H m xs ds → xs.length = ds.length
  | _, _, .nil => rfl
  | _, _, .cons _ t => by rw [List.length_cons, List.length_cons, DgAll.len t]
theorem DgAll.at {K : PySem.W.Frag} {H : Hp} {m : Bool} : ∀ {xs : List V} {ds : List PyData}, DgAll K H m xs ds → ∀ (i : Nat) (x : V), xs[i]? = some x → ∃ d, ds[i]? = some d ∧ Dg K H m x d
  | _, _, .nil, i, x, h => by cases h
  | _, _, .cons h t, 0, x, e => by
    obtain rfl := Option.some.inj e
    exact ⟨_, rfl, h⟩
  | _, _, .cons h t, i + 1, x, e => DgAll.at t i x e
theorem DgAll.append {K : PySem.W.Frag} {H : Hp} {m : Bool} : ∀ {xs ys : List V} {ds es : List PyData}, DgAll K H m xs ds → DgAll K H m ys es → DgAll K H m (xs ++ ys) (ds ++ es)
  | _, _, _, _, .nil, h => h
  | _, _, _, _, .cons h t, g => .cons h (DgAll.append t g)
theorem DgAll.take {K : PySem.W.Frag} {H : Hp} {m : Bool} : ∀ (n : Nat) {xs : List V} {ds : List PyData}, DgAll K H m xs ds → DgAll K H m (xs.take n) (ds.take n)
  | 0, _, _, _ => by simp; exact .nil
  | n + 1, _, _, .nil => by simp; exact .nil
  | n + 1, _, _, .cons h t => by simp only [List.take_succ_cons]; exact .cons h (DgAll.take n t)
theorem DgAll.drop {K : PySem.W.Frag} {H : Hp} {m : Bool} : ∀ (n : Nat) {xs : List V} {ds : List PyData}, DgAll K H m xs ds → DgAll K H m (xs.drop n) (ds.drop n)
  | 0, _, _, h => h
  | n + 1, _, _, .nil => by simp; exact .nil
  | n + 1, _, _, .cons h t => by simp only [List.drop_succ_cons]; exact DgAll.drop n t
theorem Dg.int_of {K : PySem.W.Frag} {H : Hp} {m : Bool} {x : V} {i : Int} (h : Dg K H m x (.int i)) : x = .int i := by cases h; rfl
theorem Dg.str_of {K : PySem.W.Frag} {H : Hp} {m : Bool} {x : V} {i : Str} (h : Dg K H m x (.str i)) : x = .str i := by cases h; rfl
theorem Dg.tup_of {K : PySem.W.Frag} {H : Hp} {m : Bool} {x : V} {ds : List PyData} (h : Dg K H m x (.tuple ds)) : ∃ a xs, x = .ref a ∧ SqT K H a xs ∧ DgAll K H m xs ds := by
  cases h with
  | tup h1 h2 => exact ⟨_, _, rfl, h1, h2⟩
theorem Dg.lst_of {K : PySem.W.Frag} {H : Hp} {m : Bool} {x : V} {ds : List PyData} (h : Dg K H m x (.list ds)) : ∃ a xs, x = .ref a ∧ SqL K H a xs ∧ (m = true → (a == sysModules) = false) ∧ DgAll K H m xs ds := by
  cases h with
  | lst h1 h2 h3 => exact ⟨_, _, rfl, h1, h2, h3⟩
theorem DgAll.cons_of {K : PySem.W.Frag} {H : Hp} {m : Bool} {xs : List V} {d : PyData} {ds : List PyData} (h : DgAll K H m xs (d :: ds)) : ∃ x ys, xs = x :: ys ∧ Dg K H m x d ∧ DgAll K H m ys ds := by
  cases h with
  | cons h1 h2 => exact ⟨_, _, rfl, h1, h2⟩
theorem DgAll.nil_of {K : PySem.W.Frag} {H : Hp} {m : Bool} {xs : List V} (h : DgAll K H m xs []) : xs = [] := by cases h; rfl
/-! ### the classes of data -/
def tyD : PyData → String
  | .none => "NoneType" | .bool _ => "bool" | .int _ => "int" | .str _ => "str" | .list _ => "list" | .tuple _ => "tuple" | .dict _ => "dict"
theorem Dg.ty {K : PySem.W.Frag} {H : Hp} {m : Bool} {x : V} {d : PyData} (h : Dg K H m x d) : TyX K H x (.type (tyD d)) := by
  cases h with
  | non => exact .base .non
  | bl b => exact .base (.bl b)
  | int i => exact .base (.int i)
  | str z => exact .base (.str z)
  | lst hs _ _ =>
    rcases hs with (h | ⟨o, h⟩) | ⟨o, its, n, e, c, _⟩
    · exact .base (.lst h)
    · exact .base (.frz h)
    · exact .kList e c
  | tup hs _ =>
    rcases hs with (h | ⟨o, h⟩) | ⟨o, its, n, e, c, _⟩
    · exact .base (.tup h)
    · exact .fTuple h
    · exact .kTuple e c
  | emp _ h => exact .base (.dK h)
  | dct l _ h => exact .base (.dK h)
def isTupD : PyData → Bool | .tuple _ => true | _ => false
def isLstD : PyData → Bool | .list _ => true | _ => false
def isStrD : PyData → Bool | .str _ => true | _ => false
def isBlD : PyData → Bool | .bool _ => true | _ => false
def isNumD : PyData → Bool | .bool _ => true | .int _ => true | _ => false
theorem kit_tupD {K : PySem.W.Frag} (d : PyData) : PySem.W.kitOne K (.type (tyD d)) (.type "tuple") = some (isTupD d) := by
  cases d with
  | none => exact kit_ty (by decide +kernel : kitB "NoneType" "tuple" = some false)
  | bool _ => exact kit_ty (by decide +kernel : kitB "bool" "tuple" = some false)
  | int _ => exact kit_ty (by decide +kernel : kitB "int" "tuple" = some false)
  | str _ => exact kit_ty (by decide +kernel : kitB "str" "tuple" = some false)
  | list _ => exact kit_ty (by decide +kernel : kitB "list" "tuple" = some false)
  | tuple _ => exact kit_ty (by decide +kernel : kitB "tuple" "tuple" = some true)
  | dict _ => exact kit_ty (by decide +kernel : kitB "dict" "tuple" = some false)
theorem kit_lstD {K : PySem.W.Frag} (d : PyData) : PySem.W.kitOne K (.type (tyD d)) (.type "list") = some (isLstD d) := by
  cases d with
  | none => exact kit_ty (by decide +kernel : kitB "NoneType" "list" = some false)
  | bool _ => exact kit_ty (by decide +kernel : kitB "bool" "list" = some false)
  | int _ => exact kit_ty (by decide +kernel : kitB "int" "list" = some false)
  | str _ => exact kit_ty (by decide +kernel : kitB "str" "list" = some false)
  | list _ => exact kit_ty (by decide +kernel : kitB "list" "list" = some true)
  | tuple _ => exact kit_ty (by decide +kernel : kitB "tuple" "list" = some false)
  | dict _ => exact kit_ty (by decide +kernel : kitB "dict" "list" = some false)
theorem kit_strD {K : PySem.W.Frag} (d : PyData) : PySem.W.kitOne K (.type (tyD d)) (.type "str") = some (isStrD d) := by
  cases d with
  | none => exact kit_ty (by decide +kernel : kitB "NoneType" "str" = some false)
  | bool _ => exact kit_ty (by decide +kernel : kitB "bool" "str" = some false)
  | int _ => exact kit_ty (by decide +kernel : kitB "int" "str" = some false)
  | str _ => exact kit_ty (by decide +kernel : kitB "str" "str" = some true)
  | list _ => exact kit_ty (by decide +kernel : kitB "list" "str" = some false)
  | tuple _ => exact kit_ty (by decide +kernel : kitB "tuple" "str" = some false)
  | dict _ => exact kit_ty (by decide +kernel : kitB "dict" "str" = some false)
theorem kit_blD {K : PySem.W.Frag} (d : PyData) : PySem.W.kitOne K (.type (tyD d)) (.type "bool") = some (isBlD d) := by
  cases d with
  | none => exact kit_ty (by decide +kernel : kitB "NoneType" "bool" = some false)
  | bool _ => exact kit_ty (by decide +kernel : kitB "bool" "bool" = some true)
  | int _ => exact kit_ty (by decide +kernel : kitB "int" "bool" = some false)
  | str _ => exact kit_ty (by decide +kernel : kitB "str" "bool" = some false)
  | list _ => exact kit_ty (by decide +kernel : kitB "list" "bool" = some false)
  | tuple _ => exact kit_ty (by decide +kernel : kitB "tuple" "bool" = some false)
  | dict _ => exact kit_ty (by decide +kernel : kitB "dict" "bool" = some false)
theorem kit_numD {K : PySem.W.Frag} (d : PyData) : PySem.W.kitOne K (.type (tyD d)) (.type "int") = some (isNumD d) := by
  cases d with
  | none => exact kit_ty (by decide +kernel : kitB "NoneType" "int" = some false)
  | bool _ => exact kit_ty (by decide +kernel : kitB "bool" "int" = some true)
  | int _ => exact kit_ty (by decide +kernel : kitB "int" "int" = some true)
  | str _ => exact kit_ty (by decide +kernel : kitB "str" "int" = some false)
  | list _ => exact kit_ty (by decide +kernel : kitB "list" "int" = some false)
  | tuple _ => exact kit_ty (by decide +kernel : kitB "tuple" "int" = some false)
  | dict _ => exact kit_ty (by decide +kernel : kitB "dict" "int" = some false)
/-! ### shown -/
def rReprG (K : PySem.W.Frag) : List V → Hp → VK → Prop := fun xs H Q => ∃ x d m, xs = [x] ∧ Dg K H m x d ∧ d.showable = true ∧ d.depth ≤ 60 ∧ d.shown.length ≤ sizeLine ∧ Q (.str d.shown) H
theorem call_reprG {X : Cx} (hc : X.A.guards = some []) (hu : X.A.units + 64 < cLine) : CallR X (.builtin "repr") (rReprG X.K) := by
  intro pins s σ H xs us Q I r h
  obtain ⟨x, d, m, rfl, hd, hs, hdp, hz, q⟩ := h
  obtain ⟨u, rfl, r1⟩ := vals1 r
  obtain ⟨as, rd, hn⟩ := Dg.reads I d x u hd r1
  have nd : d.hasDict = true → sysModules ∉ as := fun e => by
    cases m with
    | true => exact hn rfl
    | false => rw [hd.noDict] at e; cases e
  cases hd with
  | non => cases rd; exact P.repr_of_none ⟨.str _, H, I.tok _, ⟨_, rfl⟩, q⟩
  | bl b => cases rd; exact P.repr_of_bool ⟨.str _, H, I.tok _, ⟨_, rfl⟩, q⟩
  | int i =>
    cases rd
    have hi : i.natAbs.log2 < 1920 := of_decide_eq_true hs
    exact P.repr_of_int hi ⟨.str _, H, I.tok _, ⟨_, rfl⟩, q⟩
  | str z => cases rd; exact P.repr_of_str ⟨.str _, H, I.tok _, ⟨_, rfl⟩, q⟩ hz
  | lst h1 h2 h3 =>
    obtain rfl : u = Value.ref _ := r1
    exact repr_of_reads' rd hs nd hc (by omega) (fun _ _ e => e) (fun h' u tk k => ⟨.str _, H, I.kept k, ⟨_, rfl⟩, q⟩) hz
  | tup h1 h2 =>
    obtain rfl : u = Value.ref _ := r1
    exact repr_of_reads' rd hs nd hc (by omega) (fun _ _ e => e) (fun h' u tk k => ⟨.str _, H, I.kept k, ⟨_, rfl⟩, q⟩) hz
  | emp h1 h2 =>
    obtain rfl : u = Value.ref _ := r1
    exact repr_of_reads' rd hs nd hc (by omega) (fun _ _ e => e) (fun h' u tk k => ⟨.str _, H, I.kept k, ⟨_, rfl⟩, q⟩) hz
  | dct l h1 h2 =>
    obtain rfl : u = Value.ref _ := r1
    exact repr_of_reads' rd hs nd hc (by omega) (fun _ _ e => e) (fun h' u tk k => ⟨.str _, H, I.kept k, ⟨_, rfl⟩, q⟩) hz
end L2
namespace DataQ
open PySem PySem.Spec PyProof.Rows
/-! ### a dict is no text -/
section
variable {prog : Program} {w : World} {A : Around} {E : Value → Shared → Prop} {s : Shared}
theorem dict_eq_declines_str (l : Addr) (es : Array DictEntry) (n : Nat) (dd : Option Addr) (sl : Array (Option Value)) (b : Str) (u : Tok) :
    Meets (Builtin.«dict.__eq__» ⟨[.ref l, .str b u], []⟩) (fun _ R s => s.heap.get? l = some { cls := .type "dict", dict := dd, data := .dict es n, slots := sl } ∧ R (.ok (.ret .notImplemented)) s) :=
  .of_wp fun prog w A R s h => by obtain ⟨hp, g, d, tk, os⟩ := s; obtain ⟨hl, h⟩ := h; have f1 := F.sub_str_dict; wp_walk using wpAny_load hl; exact ⟨_, rfl, h⟩
theorem dict_ne_declines_str (l : Addr) (es : Array DictEntry) (n : Nat) (dd : Option Addr) (sl : Array (Option Value)) (b : Str) (u : Tok) :
    Meets (Builtin.«dict.__ne__» ⟨[.ref l, .str b u], []⟩) (fun _ R s => s.heap.get? l = some { cls := .type "dict", dict := dd, data := .dict es n, slots := sl } ∧ R (.ok (.ret .notImplemented)) s) :=
  .of_wp fun prog w A R s h => by obtain ⟨hp, g, d, tk, os⟩ := s; obtain ⟨hl, h⟩ := h; have f1 := F.sub_str_dict; wp_walk using wpAny_load hl; exact ⟨_, rfl, h⟩
theorem str_eq_declines_dict (b : Str) (u : Tok) (l : Addr) (es : Array DictEntry) (n : Nat) (dd : Option Addr) (sl : Array (Option Value)) :
    Meets (Builtin.«str.__eq__» ⟨[.str b u, .ref l], []⟩) (fun _ R s => s.heap.get? l = some { cls := .type "dict", dict := dd, data := .dict es n, slots := sl } ∧ R (.ok (.ret .notImplemented)) s) :=
  .of_wp fun prog w A R s h => by obtain ⟨hp, g, d, tk, os⟩ := s; obtain ⟨hl, h⟩ := h; wp_walk using wpAny_load hl; exact ⟨_, rfl, h⟩
theorem str_ne_declines_dict (b : Str) (u : Tok) (l : Addr) (es : Array DictEntry) (n : Nat) (dd : Option Addr) (sl : Array (Option Value)) :
    Meets (Builtin.«str.__ne__» ⟨[.str b u, .ref l], []⟩) (fun _ R s => s.heap.get? l = some { cls := .type "dict", dict := dd, data := .dict es n, slots := sl } ∧ R (.ok (.ret .notImplemented)) s) :=
  .of_wp fun prog w A R s h => by obtain ⟨hp, g, d, tk, os⟩ := s; obtain ⟨hl, h⟩ := h; wp_walk using wpAny_load hl; exact ⟨_, rfl, h⟩
theorem rc_dict_str {l : Addr} {dd : Option Addr} {es : Array DictEntry} {n : Nat} {sl : Array (Option Value)} (b : Str) (u : Tok) (ho : s.heap.get? l = some { cls := .type "dict", dict := dd, data := .dict es n, slots := sl }) (hu : A.units < cLine)
    {Q : Value → Shared → Prop} (h : Q (.bool false) s) : wpAny (model prog w) A (richCompare .Eq (.ref l) (.str b u)) Q E s :=
  PySem.SeqAt.rc_eq_decline_or (k := false) ⟨_, ho, rfl⟩ (typeIs_str s b u) (by decide) F.sub_str_dict F.slot_dict_eq F.slot_str_eq_refl
    (fun _ hq => call_meets F.slot_dict_eq ⟨_, ho, rfl⟩ F.entry_dict_eq (F.args_dict_eq_2 _ _) (dict_eq_declines_str l es n dd sl b u) ⟨ho, hq⟩)
    (fun _ hq => call_meets F.slot_str_eq_refl (typeIs_str s b u) F.entry_str_eq (F.args_str_eq_2 _ _) (str_eq_declines_dict b u l es n dd sl) ⟨ho, hq⟩)
    (fun _ hq => wpAny_of_eq (rfl : isSame (.ref l) (.str b u) = pure false) hq) (.inr hu) h
theorem rcNe_dict_str {l : Addr} {dd : Option Addr} {es : Array DictEntry} {n : Nat} {sl : Array (Option Value)} (b : Str) (u : Tok) (ho : s.heap.get? l = some { cls := .type "dict", dict := dd, data := .dict es n, slots := sl }) (hu : A.units < cLine)
    {Q : Value → Shared → Prop} (h : Q (.bool true) s) : wpAny (model prog w) A (richCompare .NotEq (.ref l) (.str b u)) Q E s :=
  PySem.SeqAt.rc_ne_decline_or (k := false) ⟨_, ho, rfl⟩ (typeIs_str s b u) (by decide) F.sub_str_dict F.slot_dict_ne F.slot_str_ne_refl
    (fun _ hq => call_meets F.slot_dict_ne ⟨_, ho, rfl⟩ F.entry_dict_ne (F.args_dict_ne_2 _ _) (dict_ne_declines_str l es n dd sl b u) ⟨ho, hq⟩)
    (fun _ hq => call_meets F.slot_str_ne_refl (typeIs_str s b u) F.entry_str_ne (F.args_str_ne_2 _ _) (str_ne_declines_dict b u l es n dd sl) ⟨ho, hq⟩)
    (fun _ hq => wpAny_of_eq (rfl : isSame (.ref l) (.str b u) = pure false) hq) (.inr hu) h
end
end DataQ
namespace L2
open PySem PySem.Spec PyProof.Rows
/-- the data is this text -/
def isS (z : Str) : PyData → Bool
  | .str y => decide (y = z)
  | _ => false
section
variable {X : Cx}
def rEqGS (K : PySem.W.Frag) : R2 := fun x y H Q => ∃ d m z, Dg K H m x d ∧ y = .str z ∧ Q (.bl (isS z d)) H
def rNeGS (K : PySem.W.Frag) : R2 := fun x y H Q => ∃ d m z, Dg K H m x d ∧ y = .str z ∧ Q (.bl (!isS z d)) H
theorem op_eqGS (hu : X.A.units + 64 < cLine) : OpR X (compareOp .Eq) (rEqGS X.K) := by
  intro pins s σ H x y v u Q I rx ry h
  obtain ⟨d, m, z, hd, rfl, q⟩ := h
  have hu' : X.A.units < cLine := by omega
  obtain ⟨as, rd, _⟩ := Dg.reads I d x v hd rx
  obtain ⟨t, rfl⟩ := ry
  cases hd with
  | non => exact op_eq pins s σ H .non (.str z) _ _ Q I rx ⟨t, rfl⟩ ⟨rfl, by rw [decide_eq_false (fun e => V.noConfusion e)]; exact q⟩
  | bl b => exact op_eq pins s σ H (.bl b) (.str z) _ _ Q I rx ⟨t, rfl⟩ ⟨rfl, by rw [decide_eq_false (fun e => V.noConfusion e)]; exact q⟩
  | int i => exact op_eq pins s σ H (.int i) (.str z) _ _ Q I rx ⟨t, rfl⟩ ⟨rfl, by rw [decide_eq_false (fun e => V.noConfusion e)]; exact q⟩
  | str y =>
    refine op_eq pins s σ H (.str y) (.str z) _ _ Q I rx ⟨t, rfl⟩ ⟨rfl, ?_⟩
    have e : decide (V.str y = V.str z) = isS z (.str y) := by
      show _ = decide (y = z)
      rw [Bool.eq_iff_iff]; simp
    rw [e]; exact q
  | lst h1 h2 h3 =>
    obtain rfl : v = Value.ref _ := rx
    obtain ⟨its, rv, ⟨o, n, ho, hc, _, hdd⟩, _⟩ := I.list h1
    exact PySem.SeqAt.RcAt.list_str z t ⟨o, ho, hc, n, hdd⟩ hu' X.prog X.w _ _ ⟨.bl _, H, I, rfl, q⟩
  | tup h1 h2 =>
    obtain rfl : v = Value.ref _ := rx
    obtain ⟨its, rv, ⟨o, ho, hc, n, hdd⟩, _⟩ := I.tuple h1
    exact PySem.SeqAt.RcAt.tuple_str z t ⟨o, ho, hc, n, hdd⟩ hu' X.prog X.w _ _ ⟨.bl _, H, I, rfl, q⟩
  | @emp a h1 ha =>
    obtain rfl : v = Value.ref _ := rx
    obtain ⟨_, hsys, vs, hkv, od, es, ep, hget, hcl, hdat, hko, hps, _⟩ : ObjOk X.prog X.w H s.heap a (.dK []) := I.hok a _ ha
    obtain ⟨oc, odd, odt, osl⟩ := od
    obtain ⟨hc1, hc2⟩ := hcl
    simp only at hc1 hdat
    subst hc1 hdat
    exact DataQ.rc_dict_str z t hget hu' ⟨.bl _, H, I, rfl, q⟩
  | @dct a l h1 ha =>
    obtain rfl : v = Value.ref _ := rx
    obtain ⟨_, hsys, vs, hkv, od, es, ep, hget, hcl, hdat, hko, hps, _⟩ : ObjOk X.prog X.w H s.heap a (.dK (l.map kvV)) := I.hok a _ ha
    obtain ⟨oc, odd, odt, osl⟩ := od
    obtain ⟨hc1, hc2⟩ := hcl
    simp only at hc1 hdat
    subst hc1 hdat
    exact DataQ.rc_dict_str z t hget hu' ⟨.bl _, H, I, rfl, q⟩
theorem op_neGS (hu : X.A.units + 64 < cLine) : OpR X (compareOp .NotEq) (rNeGS X.K) := by
  intro pins s σ H x y v u Q I rx ry h
  obtain ⟨d, m, z, hd, rfl, q⟩ := h
  have hu' : X.A.units < cLine := by omega
  obtain ⟨as, rd, _⟩ := Dg.reads I d x v hd rx
  obtain ⟨t, rfl⟩ := ry
  cases hd with
  | non => exact op_ne pins s σ H .non (.str z) _ _ Q I rx ⟨t, rfl⟩ ⟨rfl, by rw [decide_eq_false (fun e => V.noConfusion e)]; exact q⟩
  | bl b => exact op_ne pins s σ H (.bl b) (.str z) _ _ Q I rx ⟨t, rfl⟩ ⟨rfl, by rw [decide_eq_false (fun e => V.noConfusion e)]; exact q⟩
  | int i => exact op_ne pins s σ H (.int i) (.str z) _ _ Q I rx ⟨t, rfl⟩ ⟨rfl, by rw [decide_eq_false (fun e => V.noConfusion e)]; exact q⟩
  | str y =>
    refine op_ne pins s σ H (.str y) (.str z) _ _ Q I rx ⟨t, rfl⟩ ⟨rfl, ?_⟩
    have e : decide (V.str y = V.str z) = isS z (.str y) := by
      show _ = decide (y = z)
      rw [Bool.eq_iff_iff]; simp
    rw [e]; exact q
  | lst h1 h2 h3 =>
    obtain rfl : v = Value.ref _ := rx
    obtain ⟨its, rv, ⟨o, n, ho, hc, _, hdd⟩, _⟩ := I.list h1
    exact PySem.SeqAt.RcNeAt.list_str z t ⟨o, ho, hc, n, hdd⟩ hu' X.prog X.w _ _ ⟨.bl _, H, I, rfl, q⟩
  | tup h1 h2 =>
    obtain rfl : v = Value.ref _ := rx
    obtain ⟨its, rv, ⟨o, ho, hc, n, hdd⟩, _⟩ := I.tuple h1
    exact PySem.SeqAt.RcNeAt.tuple_str z t ⟨o, ho, hc, n, hdd⟩ hu' X.prog X.w _ _ ⟨.bl _, H, I, rfl, q⟩
  | @emp a h1 ha =>
    obtain rfl : v = Value.ref _ := rx
    obtain ⟨_, hsys, vs, hkv, od, es, ep, hget, hcl, hdat, hko, hps, _⟩ : ObjOk X.prog X.w H s.heap a (.dK []) := I.hok a _ ha
    obtain ⟨oc, odd, odt, osl⟩ := od
    obtain ⟨hc1, hc2⟩ := hcl
    simp only at hc1 hdat
    subst hc1 hdat
    exact DataQ.rcNe_dict_str z t hget hu' ⟨.bl _, H, I, rfl, q⟩
  | @dct a l h1 ha =>
    obtain rfl : v = Value.ref _ := rx
    obtain ⟨_, hsys, vs, hkv, od, es, ep, hget, hcl, hdat, hko, hps, _⟩ : ObjOk X.prog X.w H s.heap a (.dK (l.map kvV)) := I.hok a _ ha
    obtain ⟨oc, odd, odt, osl⟩ := od
    obtain ⟨hc1, hc2⟩ := hcl
    simp only at hc1 hdat
    subst hc1 hdat
    exact DataQ.rcNe_dict_str z t hget hu' ⟨.bl _, H, I, rfl, q⟩
/-- a list display, which does not lie where the modules lie -/
def tLstS (t : TA) : TE := fun σ H Q => t σ H fun xs H1 => xs.length ≤ sizeLine ∧ ∀ l, H1 l = none → (l == sysModules) = false → Q (.ref l) (upd H1 l (.lst xs))
theorem pe_lstS {es : List Expr} {pos : Pos} {t : TA} (h : PA X es t) : PE X (.List es pos) (tLstS t) := by
  refine ⟨fun pins s σ H Q I hq => ?_⟩
  refine wpAny_List_spliced (thn (h.run pos pins s σ H _ I hq) fun us s1 ⟨xs, H1, I1, r, z, q⟩ => ⟨by rw [← r.length]; exact z, ?_⟩)
  have hf : H1 s1.heap.objs.size = none := I1.hok.fresh (Nat.le_refl _)
  have hb := I1.big
  refine ⟨.ref s1.heap.objs.size, upd H1 s1.heap.objs.size (.lst xs), I1.laid (t' := s1.toks) (fun b u e => Heap.get?_push_of_some _ e) (Nat.le_refl _) ?_, rfl, q _ hf ?_⟩
  · exact ⟨z, us, 0, r, Heap.get?_push_size _ rfl⟩
  · rw [beq_eq_false_iff_ne]
    exact Ne.symm (Nat.ne_of_lt hb)
/-- xs != [] -/
def rNeNil : R2 := fun x y H Q => ∃ p q xs, x = .ref p ∧ y = .ref q ∧ H p = some (.lst xs) ∧ H q = some (.lst []) ∧ Q (.bl (!decide (xs = []))) H
theorem op_ne_nil (hu : X.A.units < cLine) : OpR X (compareOp .NotEq) rNeNil := by
  intro pins s σ H x y v u Q I rx ry h
  obtain ⟨p, q, xs, rfl, rfl, hp, hq, k⟩ := h
  cases (show v = Value.ref p from rx)
  cases (show u = Value.ref q from ry)
  obtain ⟨z1, its, n, r1, hl, e1⟩ := I.lstM hp
  obtain ⟨z2, its2, n2, r2, hl2, e2⟩ := I.lstM hq
  cases r2
  have L2 : s.heap.IsList q (#[] : Array Value) := ⟨_, e2, rfl, _, rfl⟩
  have L1 : s.heap.IsList p its.toArray := ⟨_, e1, rfl, _, rfl⟩
  by_cases e : xs = []
  · subst e
    cases r1
    have := PySem.SeqAt.RcNeAt.lists (e := fun _ => true) L1 L2 rfl hu (fun j h1 _ => absurd h1 (Nat.not_lt_zero j))
    exact this X.prog X.w _ _ ⟨.bl _, H, I, rfl, k⟩
  · rw [decide_eq_false e] at k
    have l := r1.length
    have := List.length_pos_iff.mpr e
    exact PySem.SeqAt.RcNeAt.lists_lengths L1 L2 (by simp only [List.size_toArray, bne_iff_ne, ne_eq]; show ¬ its.length = 0; omega) hu X.prog X.w _ _ ⟨.bl _, H, I, rfl, k⟩
/-- D is a dict of the module that tells numbers for texts -/
def KTab (K : PySem.W.Frag) (w : World) (D : Addr) (f : Str → Option Int) : Prop := (∃ es n, KDict K w D es n) ∧ ∀ z, match f z with | none => PySem.W.nsIn K D z = some none | some i => ∃ t, PySem.W.nsIn K D z = some (some (.int i t))
def rNotInTab (D : Addr) (f : Str → Option Int) : R2 := fun x y H Q => ∃ z, x = .str z ∧ y = .ref D ∧ Q (.bl (f z).isNone) H
theorem op_notIn_tab {D : Addr} {f : Str → Option Int} (T : KTab X.K X.w D f) : OpR X (compareOp .NotIn) (rNotInTab D f) := by
  obtain ⟨⟨es, n, kd⟩, hv⟩ := T
  intro pins s σ H x y v u Q I rx ry h
  obtain ⟨z, rfl, rfl, q⟩ := h
  have e := hv z
  cases hf : f z with
  | none =>
    rw [hf] at e q
    exact op_notIn_kd kd pins s σ H _ _ v u Q I rx ry ⟨z, none, rfl, rfl, e, q⟩
  | some i =>
    rw [hf] at e q
    obtain ⟨t, e⟩ := e
    exact op_notIn_kd kd pins s σ H _ _ v u Q I rx ry ⟨z, _, rfl, rfl, e, q⟩
def rIxTab (D : Addr) (f : Str → Option Int) : R2 := fun x y H Q => ∃ z i, x = .ref D ∧ y = .str z ∧ f z = some i ∧ Q (.int i) H
theorem ix_tab {D : Addr} {f : Str → Option Int} (T : KTab X.K X.w D f) : IxR X (rIxTab D f) := by
  obtain ⟨⟨es, n, kd⟩, hv⟩ := T
  intro value slice pins s σ H x y v u Q I rx ry h hs
  obtain ⟨z, i, rfl, rfl, hf, q⟩ := h
  have e := hv z
  rw [hf] at e
  obtain ⟨t, e⟩ := e
  exact ix_kdict value slice pins s σ H _ _ v u Q I rx ry ⟨D, z, .int i, rfl, rfl, ⟨es, n, _, kd.at_, kd.lit, e, ⟨t, rfl⟩⟩, q⟩ hs
theorem call_list_ofS : CallR X (.type "list") (fun xs H Q => ∃ p ys, xs = [.ref p] ∧ (SqL X.K H p ys ∨ SqT X.K H p ys) ∧ ∀ l, H l = none → (l == sysModules) = false → Q (.ref l) (upd H l (.lst ys))) := by
  intro pins s σ H xs us Q I r h
  obtain ⟨p, ys, rfl, hq, q⟩ := h
  obtain ⟨u, rfl, rx⟩ := vals1 r
  cases rx
  have hb := I.big
  have fin : ∀ (its : List Value), Vals ys its → ys.length ≤ sizeLine → ∀ (h' : Heap) (c' : Nat), (∀ b o', s.heap.get? b = some o' → h'.get? b = some o') →
      h'.get? s.heap.objs.size = some { cls := .type "list", dict := none, data := .seq its.toArray c', slots := #[] } → EP X pins σ Q (.ref s.heap.objs.size) { s with heap := h' } := fun its r' hz h' c' kp e =>
    ⟨.ref s.heap.objs.size, _, I.laid (t' := s.toks) kp (Nat.le_refl _) (show ObjOk X.prog X.w _ h' _ (.lst ys) from ⟨hz, its, c', r', e⟩), rfl, q _ (I.hok.fresh (Nat.le_refl _)) (beq_eq_false_iff_ne.mpr (Ne.symm (Nat.ne_of_lt hb)))⟩
  rcases hq with hq | hq
  · obtain ⟨its, r', pl, hz⟩ := I.list hq
    have hlen := r'.length
    obtain ⟨o, ho, hc, n, hd⟩ := pl.isList
    exact call_list_seq p (.inl rfl) ho hc hd (fun h' c' kp e => fin its r' hz h' c' kp e) (by simp only [List.size_toArray] <;> omega)
  · obtain ⟨its, r', pl, hz⟩ := I.tuple hq
    have hlen := r'.length
    obtain ⟨o, ho, hc, n, hd⟩ := pl
    exact call_list_seq p (.inr rfl) ho hc hd (fun h' c' kp e => fin its r' hz h' c' kp e) (by simp only [List.size_toArray] <;> omega)
theorem ix_tupK {K : PySem.W.Frag} (e : X.K = K) : IxR X (rIxT K) := by rw [← e]; exact ix_tup
theorem op_eqGSK {K : PySem.W.Frag} (e : X.K = K) (hu : X.A.units + 64 < cLine) : OpR X (compareOp .Eq) (rEqGS K) := by subst e; exact op_eqGS hu
theorem op_neGSK {K : PySem.W.Frag} (e : X.K = K) (hu : X.A.units + 64 < cLine) : OpR X (compareOp .NotEq) (rNeGS K) := by subst e; exact op_neGS hu
theorem sl_tupAK {K : PySem.W.Frag} (e : X.K = K) : SlR X (rSlA K) := by subst e; exact sl_tupA
end
theorem tab_keys {P : Params} {z : Str} : ∀ {l : List DictEntry} {ks : List Str}, l.map He.keyOf = He.keysIn P ks → z ∉ ks → l.find? (·.key.isStr z) = none ∧ l.any (·.refKey) = false
  | [], _, _, _ => ⟨rfl, rfl⟩
  | e :: r, [], h, _ => by cases h
  | e :: r, k :: ks, h, n => by
    have h1 : He.keyOf e :: r.map He.keyOf = some (k, PyData.keyHash P k) :: He.keysIn P ks := h
    injection h1 with h2 h3
    obtain ⟨i1, i2⟩ := tab_keys h3 (fun z => n (List.mem_cons_of_mem _ z))
    unfold He.keyOf at h2
    split at h2
    · rename_i x t q
      have h4 := Option.some.inj h2
      obtain ⟨h5, h6⟩ := Prod.mk.inj h4
      have e1 : e.key.isStr z = false := by
        rw [q, h5]
        show (k == z) = false
        exact beq_eq_false_iff_ne.mpr fun e => n (by rw [← e]; exact List.mem_cons_self)
      have e2 : e.refKey = false := by unfold DictEntry.refKey; rw [q]
      exact ⟨by rw [List.find?_cons_of_neg (by rw [e1]; exact Bool.false_ne_true)]; exact i1, by rw [List.any_cons, e2, i2]; rfl⟩
    · cases h2
theorem tab_none {K : PySem.W.Frag} {P : Params} {D : Addr} {ks : List Str} {z : Str} (h : He.dicW K D = some (He.keysIn P ks)) (hz : z ∉ ks) : PySem.W.nsIn K D z = some none := by
  unfold He.dicW at h
  unfold PySem.W.nsIn
  cases q : K.lookup D with
  | none => rw [q] at h; cases h
  | some o =>
    obtain ⟨oc, od, dt, osl⟩ := o
    rw [q] at h
    cases oc with
    | type c =>
      cases od with
      | none =>
        cases dt with
        | dict es n =>
          have h1 : (match decide (c = "dict") && (osl.isEmpty && !(D == sysModules)) with
            | true => some (es.toList.map He.keyOf)
            | false => none) = some (He.keysIn P ks) := h
          split at h1
          · obtain ⟨a, b⟩ := tab_keys (Option.some.inj h1) hz
            show (match es.toList.find? (·.key.isStr z) with
              | some e => some (some e.val)
              | none => if es.toList.any (·.refKey) then none else some none) = some none
            rw [a, b]; rfl
          · cases h1
        | _ => cases h
      | some _ => cases h
    | _ => cases h
end L2

set_option Elab.async false
set_option linter.all false
set_option maxRecDepth 100000
set_option maxHeartbeats 4000000
/-! Data beside the box of draws; displays of data. -/
namespace My
open PySem PySem.Spec PyProof.Rows L2
/-- the heap without p -/
def wo (H : Hp) (p : Addr) : Hp := fun b => if b = p then none else H b
theorem wo_ne {H : Hp} {p b : Addr} (h : b ≠ p) : wo H p b = H b := by unfold wo; rw [if_neg h]
theorem wo_at {H : Hp} {p : Addr} : wo H p p = none := by unfold wo; rw [if_pos rfl]
theorem wo_le {H : Hp} {p b : Addr} {o : HO} (h : wo H p b = some o) : H b = some o := by
  by_cases e : b = p
  · rw [e, wo_at] at h; cases h
  · rw [wo_ne e] at h; exact h
theorem wo_upd {H : Hp} {p : Addr} {o : HO} : wo (upd H p o) p = wo H p := by
  funext b
  by_cases e : b = p
  · rw [e, wo_at, wo_at]
  · rw [wo_ne e, wo_ne e, upd_ne e]
theorem Kp.wo {p : Addr} {H H' : Hp} (k : Kp p H H') : Same (wo H p) (wo H' p) := fun b o e => by
  have n : b ≠ p := fun z => by rw [z, wo_at] at e; cases e
  rw [wo_ne n] at e ⊢
  exact k b o n e
theorem wo_same (H : Hp) (p : Addr) : Same (wo H p) H := fun _ _ e => wo_le e
/-- data, of which p is no part -/
abbrev Dw (K : PySem.W.Frag) (p : Addr) (H : Hp) (m : Bool) (x : V) (d : PyData) : Prop := Dg K (wo H p) m x d
abbrev DwAll (K : PySem.W.Frag) (p : Addr) (H : Hp) (m : Bool) (xs : List V) (ds : List PyData) : Prop := DgAll K (wo H p) m xs ds
theorem _root_.L2.Dg.kp {K : PySem.W.Frag} {p : Addr} {H H' : Hp} {m : Bool} {x : V} {d : PyData} (h : Dw K p H m x d) (k : Kp p H H') : Dw K p H' m x d := h.ext k.wo
theorem _root_.L2.DgAll.kp {K : PySem.W.Frag} {p : Addr} {H H' : Hp} {m : Bool} {x : List V} {d : List PyData} (h : DwAll K p H m x d) (k : Kp p H H') : DwAll K p H' m x d := h.ext k.wo
theorem _root_.L2.Dg.dg {K : PySem.W.Frag} {p : Addr} {H : Hp} {m : Bool} {x : V} {d : PyData} (h : Dw K p H m x d) : Dg K H m x d := h.ext (wo_same H p)
theorem _root_.L2.DgAll.dg {K : PySem.W.Frag} {p : Addr} {H : Hp} {m : Bool} {x : List V} {d : List PyData} (h : DwAll K p H m x d) : DgAll K H m x d := h.ext (wo_same H p)
theorem wo_new {H : Hp} {p q : Addr} {o : HO} (h : q ≠ p) : wo (upd H q o) p = upd (wo H p) q o := by
  funext b
  by_cases e : b = p
  · rw [e, wo_at, upd_ne (Ne.symm h), wo_at]
  · rw [wo_ne e]
    by_cases e2 : b = q
    · rw [e2, upd_same, upd_same]
    · rw [upd_ne e2, upd_ne e2, wo_ne e]
/-- a part of the heap that keeps what stands beside p, and all new things -/
structure Res (p : Addr) (H : Hp) (w : Hp → Hp) : Prop where
  sub : ∀ G, Same (w G) G
  kp : ∀ {G G' : Hp}, Kp p G G' → Same (w G) (w G')
  new : ∀ {G : Hp} {r : Addr} {o : HO}, Kp p H G → G p ≠ none → G r = none → w (L2.upd G r o) r = some o
theorem Res.mono {p : Addr} {H H' : Hp} {w : Hp → Hp} (R : Res p H w) (k : Kp p H H') : Res p H' w := ⟨R.sub, R.kp, fun k' n hr => R.new (k.trans k') n hr⟩
theorem res_p {p : Addr} {H : Hp} : Res p H (fun G => wo G p) := ⟨fun G => wo_same G p, fun k => k.wo, fun {G r o} _ n hr => by
  have nr : r ≠ p := fun z => n (by rw [← z]; exact hr)
  show wo (L2.upd G r o) p r = some o
  rw [wo_ne nr]; exact upd_same⟩
theorem res_two {p D : Addr} {H : Hp} {ob : HO} (hD : H D = some ob) (n : D ≠ p) : Res p H (fun G => wo (wo G p) D) := ⟨fun G => fun b o e => wo_le (wo_le e), fun {G G'} k => fun b o e => by
  have n : b ≠ D := fun z => by rw [z, wo_at] at e; cases e
  rw [wo_ne n] at e ⊢
  exact k.wo b o e, fun {G r o} k np hr => by
  have nr : r ≠ p := fun z => np (by rw [← z]; exact hr)
  have nD : r ≠ D := fun z => by rw [z, k D ob n hD] at hr; cases hr
  show wo (wo (L2.upd G r o) p) D r = some o
  rw [wo_ne nD, wo_ne nr]; exact upd_same⟩
theorem _root_.L2.Dg.rk {K : PySem.W.Frag} {p : Addr} {H H' H0 : Hp} {w : Hp → Hp} {m : Bool} {x : V} {d : PyData} (h : Dg K (w H) m x d) (R : Res p H0 w) (k : Kp p H H') : Dg K (w H') m x d := h.ext (R.kp k)
theorem _root_.L2.DgAll.rk {K : PySem.W.Frag} {p : Addr} {H H' H0 : Hp} {w : Hp → Hp} {m : Bool} {x : List V} {d : List PyData} (h : DgAll K (w H) m x d) (R : Res p H0 w) (k : Kp p H H') : DgAll K (w H') m x d := h.ext (R.kp k)
/-! ### displays -/
section
variable {K : PySem.W.Frag} {m : Bool} {p : Addr} {σ : L2.St} {H : Hp} {w : Hp → Hp}
/-- an expression gives the data d, and what stood stands -/
def EvD (K : PySem.W.Frag) (m : Bool) (p : Addr) (w : Hp → Hp) (te : TE) (σ : L2.St) (H : Hp) (d : PyData) : Prop :=
  ∀ H1, Kp p H H1 → H1 p ≠ none → ∀ Q : VK, (∀ x H', Same H1 H' → Dg K (w H') m x d → Q x H') → te σ H1 Q
def EvDs (K : PySem.W.Frag) (m : Bool) (p : Addr) (w : Hp → Hp) (ta : TA) (σ : L2.St) (H : Hp) (ds : List PyData) : Prop :=
  ∀ H1, Kp p H H1 → H1 p ≠ none → ∀ Q : List V → Hp → Prop, (∀ xs H', Same H1 H' → DgAll K (w H') m xs ds → Q xs H') → ta σ H1 Q
def EvI (p : Addr) (te : TE) (σ : L2.St) (H : Hp) (i : Int) : Prop :=
  ∀ H1, Kp p H H1 → H1 p ≠ none → ∀ Q : VK, (∀ H', Same H1 H' → Q (.int i) H') → te σ H1 Q
theorem same_at {H H' : Hp} {p : Addr} (s : Same H H') (h : H p ≠ none) : H' p ≠ none := fun z => by
  cases e : H p with
  | none => exact h e
  | some o => rw [s _ _ e] at z; cases z
theorem evD_c {x : V} {d : PyData} (h : ∀ G, Dg K G m x d) : EvD K m p w (tC x) σ H d := fun H1 _ _ Q q => q x H1 (Same.refl _) (h _)
theorem evD_int (i : Int) : EvD K m p w (tC (.int i)) σ H (.int i) := evD_c fun _ => .int i
theorem evD_str (z : Str) : EvD K m p w (tC (.str z)) σ H (.str z) := evD_c fun _ => .str z
theorem evD_bl (b : Bool) : EvD K m p w (tC (.bl b)) σ H (.bool b) := evD_c fun _ => .bl b
theorem evD_non : EvD K m p w (tC .non) σ H .none := evD_c fun _ => .non
theorem evD_var (R : Res p H w) {i : Nat} {x : V} {d : PyData} (e : σ[i]? = some (some x)) (h : Dg K (w H) m x d) : EvD K m p w (tVar i) σ H d :=
  fun H1 k _ Q q => ⟨x, e, q x H1 (Same.refl _) (h.rk R k)⟩
theorem evI_var {i : Nat} {j : Int} (e : σ[i]? = some (some (.int j))) : EvI p (tVar i) σ H j := fun H1 _ _ Q q => ⟨_, e, q H1 (Same.refl _)⟩
theorem evI_c (j : Int) : EvI p (tC (.int j)) σ H j := fun H1 _ _ Q q => q H1 (Same.refl _)
theorem evD_I {te : TE} {j : Int} (h : EvI p te σ H j) : EvD K m p w te σ H (.int j) := fun H1 k n Q q => h H1 k n Q fun H' s => q _ _ s (.int j)
theorem evI_op {ta tb : TE} {i j : Int} {g : Int → Int → Int} (ha : EvI p ta σ H i) (hb : EvI p tb σ H j) : EvI p (tOp (rI0 fun i j => .int (g i j)) ta tb) σ H (g i j) :=
  fun H1 k n Q q => ha H1 k n _ fun H2 s2 => hb H2 (k.trans (Kp.of s2)) (same_at s2 n) _ fun H3 s3 => ⟨_, _, rfl, rfl, q _ (s2.trans s3)⟩
theorem evI_opC {ta tb : TE} {i j : Int} {C : Int → Int → Prop} {g : Int → Int → Int} (ha : EvI p ta σ H i) (hb : EvI p tb σ H j) (c : C i j) : EvI p (tOp (rI C fun i j => .int (g i j)) ta tb) σ H (g i j) :=
  fun H1 k n Q q => ha H1 k n _ fun H2 s2 => hb H2 (k.trans (Kp.of s2)) (same_at s2 n) _ fun H3 s3 => ⟨_, _, rfl, rfl, c, q _ (s2.trans s3)⟩
theorem evDs_nil : EvDs K m p w tNil σ H [] := fun H1 _ _ Q q => q [] H1 (Same.refl _) .nil
theorem evDs_cons (R : Res p H w) {te : TE} {ta : TA} {d : PyData} {ds : List PyData} (h : EvD K m p w te σ H d) (t : EvDs K m p w ta σ H ds) : EvDs K m p w (tCons te ta) σ H (d :: ds) :=
  fun H1 k n Q q => h H1 k n _ fun x H2 s2 dx => t H2 (k.trans (Kp.of s2)) (same_at s2 n) _ fun xs H3 s3 dxs => q _ _ (s2.trans s3) (.cons (dx.rk R (Kp.of s3)) dxs)
theorem evD_tup (R : Res p H w) {ta : TA} {ds : List PyData} (h : EvDs K m p w ta σ H ds) (l : ds.length ≤ 1000) : EvD K m p w (tTup ta) σ H (.tuple ds) :=
  fun H1 k n Q q => h H1 k n _ fun xs H2 s2 dxs => ⟨by rw [dxs.len]; exact Nat.le_trans l (by decide), fun r hr => by
    have nr : r ≠ p := fun z => same_at s2 n (by rw [← z]; exact hr)
    have s3 : Same H2 (upd H2 r (.tup xs)) := Same.new (Same.refl _) hr
    exact q _ _ (s2.trans s3) (.tup (SqT.of (R.new (k.trans (Kp.of s2)) (same_at s2 n) hr)) (dxs.rk R (Kp.of s3)))⟩
theorem evD_lst (R : Res p H w) {ta : TA} {ds : List PyData} (h : EvDs K false p w ta σ H ds) (l : ds.length ≤ 1000) : EvD K false p w (tLst ta) σ H (.list ds) :=
  fun H1 k n Q q => h H1 k n _ fun xs H2 s2 dxs => ⟨by rw [dxs.len]; exact Nat.le_trans l (by decide), fun r hr => by
    have nr : r ≠ p := fun z => same_at s2 n (by rw [← z]; exact hr)
    have s3 : Same H2 (upd H2 r (.lst xs)) := Same.new (Same.refl _) hr
    exact q _ _ (s2.trans s3) (.lst (SqL.of (R.new (k.trans (Kp.of s2)) (same_at s2 n) hr)) (fun z => by cases z) (dxs.rk R (Kp.of s3)))⟩
theorem evD_lstS (R : Res p H w) {ta : TA} {ds : List PyData} (h : EvDs K m p w ta σ H ds) (l : ds.length ≤ 1000) : EvD K m p w (tLstS ta) σ H (.list ds) :=
  fun H1 k n Q q => h H1 k n _ fun xs H2 s2 dxs => ⟨by rw [dxs.len]; exact Nat.le_trans l (by decide), fun r hr hl => by
    have nr : r ≠ p := fun z => same_at s2 n (by rw [← z]; exact hr)
    have s3 : Same H2 (upd H2 r (.lst xs)) := Same.new (Same.refl _) hr
    exact q _ _ (s2.trans s3) (.lst (SqL.of (R.new (k.trans (Kp.of s2)) (same_at s2 n) hr)) (fun _ => hl) (dxs.rk R (Kp.of s3)))⟩
theorem evD_emp (R : Res p H w) : EvD K true p w tDNewK σ H (.dict []) := fun H1 k n Q q r hr => by
  have nr : r ≠ p := fun z => n (by rw [← z]; exact hr)
  exact q _ _ (Same.new (Same.refl _) hr) (.emp rfl (R.new k n hr))
/-- a display that is assigned, or handed back -/
theorem EvD.here {te : TE} {d : PyData} (h : EvD K m p w te σ H d) (n : H p ≠ none) {Q : VK} (q : ∀ x H', Same H H' → Dg K (w H') m x d → Q x H') : te σ H Q := h H (Kp.refl p H) n Q q
end
theorem BoxAt.some {H : Hp} {p : Addr} {n : Nat} (h : BoxAt H p n) : H p ≠ none := by
  obtain ⟨o, e, _⟩ := h
  rw [e]; exact fun z => by cases z
section
variable {K : PySem.W.Frag} {p : Addr} {σ : L2.St} {H : Hp} {w : Hp → Hp}
theorem evD_listOf (R : Res p H w) {te : TE} {ds : List PyData} (h : EvD K true p w te σ H (.tuple ds)) :
    EvD K true p w (tCB (fun xs H Q => ∃ p ys, xs = [.ref p] ∧ (SqL K H p ys ∨ SqT K H p ys) ∧ ∀ l, H l = none → (l == sysModules) = false → Q (.ref l) (L2.upd H l (.lst ys))) (tCons te tNil)) σ H (.list ds) := fun H1 k n Q q => h H1 k n _ fun x H2 s2 dx => by
  obtain ⟨a, xs, rfl, hs, ha⟩ := dx.tup_of
  have hs' : SqT K H2 a xs := hs.ext (R.sub H2)
  refine ⟨a, xs, rfl, .inr hs', fun l hl low => ?_⟩
  have nl : l ≠ p := fun z => same_at s2 n (by rw [← z]; exact hl)
  have s3 : Same H2 (L2.upd H2 l (.lst xs)) := Same.new (Same.refl _) hl
  exact q _ _ (s2.trans s3) (.lst (SqL.of (R.new (k.trans (Kp.of s2)) (same_at s2 n) hl)) (fun _ => low) (ha.rk R (Kp.of s3)))
theorem evD_catA (R : Res p H w) {m : Bool} {ta tb : TE} {ds es : List PyData} (ha : EvD K m p w ta σ H (.tuple ds)) (hb : EvD K m p w tb σ H (.tuple es)) (l : ds.length + es.length ≤ 10000) : EvD K m p w (tOp (rCatA K) ta tb) σ H (.tuple (ds ++ es)) :=
  fun H1 k n Q q => ha H1 k n _ fun x H2 s2 dx => hb H2 (k.trans (Kp.of s2)) (same_at s2 n) _ fun y H3 s3 dy => by
    have dx := dx.rk R (Kp.of s3)
    obtain ⟨a, xs, rfl, hs, hx⟩ := dx.tup_of
    obtain ⟨b, ys, rfl, ht, hy⟩ := dy.tup_of
    have lx := hx.len
    have ly := hy.len
    refine ⟨a, b, xs, ys, rfl, rfl, hs.ext (R.sub H3), ht.ext (R.sub H3), by rw [lx, ly]; exact Nat.le_trans l (by decide), fun e => ?_, fun _ e => ?_, fun _ _ r hr => ?_⟩
    · subst e
      have : ds = [] := List.length_eq_zero_iff.mp (by rw [← lx]; rfl)
      subst this
      exact q _ _ (s2.trans s3) dy
    · subst e
      have : es = [] := List.length_eq_zero_iff.mp (by rw [← ly]; rfl)
      subst this
      exact q _ _ (s2.trans s3) (by rw [List.append_nil]; exact dx)
    · have nr : r ≠ p := fun z => same_at (s2.trans s3) n (by rw [← z]; exact hr)
      have s4 : Same H3 (L2.upd H3 r (.tup (xs ++ ys))) := Same.new (Same.refl _) hr
      exact q _ _ ((s2.trans s3).trans s4) (.tup (SqT.of (R.new ((k.trans (Kp.of s2)).trans (Kp.of s3)) (same_at (s2.trans s3) n) hr)) ((hx.append hy).rk R (Kp.of s4)))
/-- te[:k], k written -/
theorem evD_head (R : Res p H w) {m : Bool} {te : TE} {ds : List PyData} (h : EvD K m p w te σ H (.tuple ds)) (k : Nat) : EvD K m p w (tSl (rSlA K) te tNoPart (tPart (tC (.int (k : Int))))) σ H (.tuple (ds.take k)) :=
  fun H1 kp n Q q => h H1 kp n _ fun x H2 s2 dx => by
    obtain ⟨a, xs, rfl, hs, hx⟩ := dx.tup_of
    have lx := hx.len
    refine ⟨_, rfl, a, xs, rfl, hs.ext (R.sub H2), fun e => ?_, fun _ r hr => ?_⟩
    · have e2 : HT.sIx xs.length xs.length (some (k : Int)) = xs.length := e.2
      rw [sIx_some] at e2
      exact q _ _ s2 (by rw [List.take_of_length_le (by omega)]; exact dx)
    · have nr : r ≠ p := fun z => same_at s2 n (by rw [← z]; exact hr)
      have s4 : Same H2 (L2.upd H2 r (.tup (cutV xs none (some (k : Int))))) := Same.new (Same.refl _) hr
      refine q _ _ (s2.trans s4) (.tup (SqT.of (R.new (kp.trans (Kp.of s2)) (same_at s2 n) hr)) ?_)
      rw [cutV_to]
      rw [cutV_to] at s4
      exact (hx.take k).rk R (Kp.of s4)
theorem evD_strI {m : Bool} {te : TE} {i : Int} (h : EvI p te σ H i) (l : i.natAbs.log2 < 1920) : EvD K m p w (tCB (fun xs H Q => ∃ i, xs = [.int i] ∧ i.natAbs.log2 < 1920 ∧ Q (.str (toString i)) H) (tCons te tNil)) σ H (.str (toString i)) :=
  fun H1 k n Q q => h H1 k n _ fun H2 s2 => ⟨i, rfl, l, q _ _ s2 (.str _)⟩
theorem evI_int1 {te : TE} {i : Int} (h : EvI p te σ H i) : EvI p (tCB (fun xs H Q => (∃ i, xs = [.int i] ∧ Q (.int i) H) ∨ ∃ k, xs = [.bl k] ∧ Q (.int (if k then 1 else 0)) H) (tCons te tNil)) σ H i :=
  fun H1 k n Q q => h H1 k n _ fun H2 s2 => .inl ⟨i, rfl, q _ s2⟩
/-- a list display of data, so that its items can be drawn -/
theorem menu_here (R : Res p H w) {P : PyData → Prop} {ta : TA} {Q : VK} {ds : List PyData} (n : H p ≠ none) (hd : Res p H w → EvDs K true p w ta σ H ds) (hp : ∀ d ∈ ds, P d) (h0 : 0 < ds.length) (h4 : ds.length ≤ 40)
    (q : ∀ M H' xs, Same H H' → H M = none → M ≠ p → H' M = some (.lst xs) → (M == sysModules) = false → DgAll K (w H') true xs ds → (∀ d ∈ ds, P d) → 0 < ds.length → ds.length ≤ 40 → Q (.ref M) H') : tLstS ta σ H Q := by
  refine hd R H (Kp.refl p H) n _ fun xs H2 s2 dxs => ⟨by rw [dxs.len]; exact Nat.le_trans h4 (by decide), fun r hr low => ?_⟩
  have nr : r ≠ p := fun z => same_at s2 n (by rw [← z]; exact hr)
  have s3 : Same H2 (L2.upd H2 r (.lst xs)) := Same.new (Same.refl _) hr
  exact q r _ xs (s2.trans s3) (s2.free hr) nr upd_same low (dxs.rk R (Kp.of s3)) hp h0 h4
end
theorem cutV_fr (xs : List V) (n : Nat) : cutV xs (some (n : Int)) none = xs.drop n := by
  unfold cutV
  rw [HT.sIx_none, sIx_some]
  rcases Nat.le_total n xs.length with h | h
  · rw [Nat.min_eq_left h, List.take_of_length_le (by rw [List.length_drop]; exact Nat.le_refl _)]
  · rw [Nat.min_eq_right h, List.drop_of_length_le h, List.drop_of_length_le (Nat.le_refl _), List.take_nil]
section
variable {K : PySem.W.Frag} {p : Addr} {H : Hp} {m : Bool} {x : V} {ds : List PyData} {Q : VK}
theorem sl_take (n : H p ≠ none) (dx : Dw K p H m x (.tuple ds)) (k : Nat) (q : ∀ y H', Same H H' → Dw K p H' m y (.tuple (ds.take k)) → Q y H') : rSlA K x none (some (k : Int)) H Q := by
  obtain ⟨a, xs, rfl, hs, hx⟩ := dx.tup_of
  have lx := hx.len
  refine ⟨a, xs, rfl, hs.ext (wo_same H p), fun e => ?_, fun _ r hr => ?_⟩
  · have e2 : HT.sIx xs.length xs.length (some (k : Int)) = xs.length := e.2
    rw [sIx_some] at e2
    exact q _ _ (Same.refl _) (by rw [List.take_of_length_le (by omega)]; exact dx)
  · have nr : r ≠ p := fun z => n (by rw [← z]; exact hr)
    rw [cutV_to]
    have s4 : Same H (L2.upd H r (.tup (xs.take k))) := Same.new (Same.refl _) hr
    exact q _ _ s4 (.tup (SqT.of (by rw [wo_ne nr]; exact upd_same)) ((hx.take k).kp (Kp.of s4)))
theorem sl_drop (n : H p ≠ none) (dx : Dw K p H m x (.tuple ds)) (k : Nat) (q : ∀ y H', Same H H' → Dw K p H' m y (.tuple (ds.drop k)) → Q y H') : rSlA K x (some (k : Int)) none H Q := by
  obtain ⟨a, xs, rfl, hs, hx⟩ := dx.tup_of
  have lx := hx.len
  refine ⟨a, xs, rfl, hs.ext (wo_same H p), fun e => ?_, fun _ r hr => ?_⟩
  · have e2 : HT.sIx xs.length 0 (some (k : Int)) = 0 := e.1
    rw [sIx_some] at e2
    have : ds.drop k = ds := by
      rcases Nat.eq_zero_or_pos k with z | z
      · rw [z, List.drop_zero]
      · have : ds = [] := List.length_eq_zero_iff.mp (by omega)
        rw [this]; simp
    exact q _ _ (Same.refl _) (by rw [this]; exact dx)
  · have nr : r ≠ p := fun z => n (by rw [← z]; exact hr)
    rw [cutV_fr]
    have s4 : Same H (L2.upd H r (.tup (xs.drop k))) := Same.new (Same.refl _) hr
    exact q _ _ s4 (.tup (SqT.of (by rw [wo_ne nr]; exact upd_same)) ((hx.drop k).kp (Kp.of s4)))
theorem cat_tup {y : V} {es : List PyData} (n : H p ≠ none) (dx : Dw K p H m x (.tuple ds)) (dy : Dw K p H m y (.tuple es)) (l : ds.length + es.length ≤ 10000) (q : ∀ z H', Same H H' → Dw K p H' m z (.tuple (ds ++ es)) → Q z H') : rCatA K x y H Q := by
  obtain ⟨a, xs, rfl, hs, hx⟩ := dx.tup_of
  obtain ⟨b, ys, rfl, ht, hy⟩ := dy.tup_of
  have lx := hx.len
  have ly := hy.len
  refine ⟨a, b, xs, ys, rfl, rfl, hs.ext (wo_same H p), ht.ext (wo_same H p), by rw [lx, ly]; exact Nat.le_trans l (by decide), fun e => ?_, fun _ e => ?_, fun _ _ r hr => ?_⟩
  · subst e
    have : ds = [] := List.length_eq_zero_iff.mp (by rw [← lx]; rfl)
    subst this
    exact q _ _ (Same.refl _) dy
  · subst e
    have : es = [] := List.length_eq_zero_iff.mp (by rw [← ly]; rfl)
    subst this
    exact q _ _ (Same.refl _) (by rw [List.append_nil]; exact dx)
  · have nr : r ≠ p := fun z => n (by rw [← z]; exact hr)
    have s4 : Same H (L2.upd H r (.tup (xs ++ ys))) := Same.new (Same.refl _) hr
    exact q _ _ s4 (.tup (SqT.of (by rw [wo_ne nr]; exact upd_same)) ((hx.append hy).kp (Kp.of s4)))
/-- a new tuple of one -/
theorem one_tup {d : PyData} (n : H p ≠ none) (dx : Dw K p H m x d) : ∀ r, H r = none → Same H (L2.upd H r (.tup [x])) ∧ Dw K p (L2.upd H r (.tup [x])) m (.ref r) (.tuple [d]) := fun r hr => by
  have nr : r ≠ p := fun z => n (by rw [← z]; exact hr)
  have s4 : Same H (L2.upd H r (.tup [x])) := Same.new (Same.refl _) hr
  exact ⟨s4, .tup (SqT.of (by rw [wo_ne nr]; exact upd_same)) (.cons (dx.kp (Kp.of s4)) .nil)⟩
end
/-- an item of a list of data -/
theorem _root_.L2.DgAll.nth {K : PySem.W.Frag} {H : Hp} {m : Bool} {xs : List V} {ds : List PyData} (h : DgAll K H m xs ds) {i : Nat} (l : i < ds.length) : ∃ x d, xs[i]? = some x ∧ ds[i]? = some d ∧ Dg K H m x d := by
  have l' : i < xs.length := by rw [h.len]; exact l
  obtain ⟨d, e, g⟩ := h.at i xs[i] (List.getElem?_eq_getElem l')
  exact ⟨_, d, List.getElem?_eq_getElem l', e, g⟩
/-! ### small data -/
def wid (k : Nat) : Nat := 100 * 6 ^ k
def Lv (k : Nat) (d : PyData) : Prop := Fit d k (wid k)
theorem lv_up {k : Nat} {d : PyData} (h : Lv k d) : Lv (k + 1) d := Fit.mono h (Nat.le_succ _) (by unfold wid; rw [Nat.pow_succ]; omega)
theorem FitAll.all {k w : Nat} : ∀ {ds : List PyData}, (∀ d ∈ ds, Fit d k w) → FitAll ds k ((w + 1) * ds.length)
  | [], _ => FitAll.nil
  | d :: ds, h => (FitAll.cons (h d List.mem_cons_self) (FitAll.all fun e he => h e (List.mem_cons_of_mem _ he))).mono (Nat.le_refl _) (by rw [List.length_cons, Nat.mul_succ]; omega)
theorem lv_len {k n : Nat} (h : n ≤ 5) : (wid k + 1) * n ≤ wid (k + 1) := by
  have e : wid (k + 1) = 6 * wid k := by unfold wid; rw [Nat.pow_succ]; omega
  have p : 100 ≤ wid k := by unfold wid; exact Nat.le_mul_of_pos_right 100 (Nat.pow_pos (by decide))
  rw [e]
  have := Nat.mul_le_mul_left (wid k + 1) h
  omega
theorem lv_tup {k : Nat} {ds : List PyData} (h : ∀ d ∈ ds, Lv k d) (l : ds.length ≤ 5) : Lv (k + 1) (.tuple ds) := Fit.mono (Fit.tuple (FitAll.all h)) (Nat.le_refl _) (lv_len l)
theorem lv_lst {k : Nat} {ds : List PyData} (h : ∀ d ∈ ds, Lv k d) (l : ds.length ≤ 5) : Lv (k + 1) (.list ds) := Fit.mono (Fit.list (FitAll.all h)) (Nat.le_refl _) (lv_len l)
theorem lv0 {d : PyData} (k : Nat) (h : Lv 0 d) : Lv k d := by
  induction k with
  | zero => exact h
  | succ k ih => exact lv_up ih
theorem lv_non {k : Nat} : Lv k .none := lv0 k (Fit.none.mono (Nat.le_refl _) (Nat.zero_le _))
theorem lv_bl {k : Nat} {b : Bool} : Lv k (.bool b) := lv0 k (Fit.bool.mono (Nat.le_refl _) (Nat.zero_le _))
theorem fit_int {i : Int} {k : Nat} (h : i.natAbs < 10 ^ 30) : Fit (.int i) k 100 := by
  have lg : i.natAbs.log2 < 100 := PySem.Flt.log2_lt_of (by decide) (Nat.lt_of_lt_of_le h (by decide))
  refine ⟨?_, ?_, ?_, ?_⟩
  · simp only [PyData.showable, decide_eq_true_eq]
    exact Nat.lt_trans lg (by decide)
  · unfold PyData.depth; omega
  · have e := int_text_length_le10 (a := i) (k := 30) (by decide) h
    have e2 : (PyData.int i).shown = Str.ofString (toString i) := by simp only [PyData.shown]
    unfold PyData.leavesShort
    refine decide_eq_true ?_
    rw [e2, PySem.ofString_length]
    omega
  · simp only [PyData.weight]
    split <;> omega
theorem lv_int {k : Nat} {i : Int} (h : i.natAbs < 10 ^ 30) : Lv k (.int i) := lv0 k (fit_int h)
theorem lv_str {k : Nat} {z : List Nat} (h : z.length ≤ 100) (hc : ∀ c ∈ z, c < 200) : Lv k (.str (S z)) := lv0 k (Fit.str h hc)
theorem lv_emp {k : Nat} : Lv (k + 1) (.dict []) := Fit.mono (Fit.dict (k := k) FitKv.nil) (Nat.le_refl _) (Nat.zero_le _)
theorem all_nil {P : PyData → Prop} : ∀ d ∈ ([] : List PyData), P d := fun d h => by cases h
theorem all_cons {P : PyData → Prop} {e : PyData} {es : List PyData} (h : P e) (t : ∀ d ∈ es, P d) : ∀ d ∈ e :: es, P d := fun d hd => by
  rcases List.mem_cons.mp hd with q | q
  · rw [q]; exact h
  · exact t d q
theorem all_app {P : PyData → Prop} {a b : List PyData} (h : ∀ d ∈ a, P d) (g : ∀ d ∈ b, P d) : ∀ d ∈ a.append b, P d := fun d hd => (List.mem_append.mp hd).elim (h d) (g d)
theorem Lv.sh {k : Nat} {d : PyData} (h : Lv k d) (hk : k ≤ 3) : Sh d := by
  have : k = 0 ∨ k = 1 ∨ k = 2 ∨ k = 3 := by omega
  rcases this with rfl | rfl | rfl | rfl
  · exact Fit.sh h (by omega) (by decide)
  · exact Fit.sh h (by omega) (by decide)
  · exact Fit.sh h (by omega) (by decide)
  · exact Fit.sh h (by omega) (by decide)
theorem lv_any {k : Nat} {z : Str} (h : (cs z).length ≤ 100) (hc : (cs z).all (fun c => decide (c < 200)) = true) : Lv k (.str z) := by
  rw [← S_of z]
  exact lv_str h fun c hm => of_decide_eq_true (List.all_eq_true.mp hc c hm)
theorem lv_digit {k a : Nat} (h : a < 5) : Lv k (.str (Str.ofString (toString (a : Int)))) := by
  match a, h with
  | 0, _ => exact lv_any (by decide +kernel) (by decide +kernel)
  | 1, _ => exact lv_any (by decide +kernel) (by decide +kernel)
  | 2, _ => exact lv_any (by decide +kernel) (by decide +kernel)
  | 3, _ => exact lv_any (by decide +kernel) (by decide +kernel)
  | 4, _ => exact lv_any (by decide +kernel) (by decide +kernel)
end My

set_option Elab.async false
set_option linter.all false
set_option maxRecDepth 100000
set_option maxHeartbeats 4000000
/-! Comprehensions of two clauses over ranges; lists of new data that grow. -/
namespace L2
open PySem PySem.Spec PyProof.Rows
theorem lc2_range {lo : Int} {n : Nat} {g g1 : TG} {tt tt1 : TT} {te : TE} {wi1 : TI} {vs vs1 : List Nat} {σ : St} {H1 : Hp} {D : Addr} {Qd : Hp → Prop} (Pv : Nat → Hp → Prop) (h0 : Pv 0 (upd H1 D (.lst [])))
    (hs : ∀ i H, i < n → Pv i H → g (.int (lo + i)) (wipe σ vs) H fun σ2 H2 => wipe σ2 vs = wipe σ vs ∧ tt σ2 H2 fun b H3 =>
      if b = true then wi1 σ2 H3 fun J1 H4 => ∃ W1 : Nat → Nat → Hp → Prop, (∃ m, W1 0 m H4) ∧ ∀ j k H, W1 j k H →
        (J1.stop j H ∧ Pv (i + 1) H) ∨ (J1.go j H ∧ ∃ Nx1 : Hp → Prop, (∀ H', Nx1 H' → ∃ k', k' < k ∧ W1 (j + 1) k' H') ∧ ∀ x H', J1.yld j H x H' → g1 x (wipe σ2 vs1) H' fun σ3 H5 => wipe σ3 vs1 = wipe σ2 vs1 ∧ tt1 σ3 H5 fun b H6 =>
          if b = true then te σ3 H6 fun y H7 => ∃ acc, H7 D = some (.lst acc) ∧ acc.length < sizeLine ∧ Nx1 (upd H7 D (.lst (acc ++ [y]))) else Nx1 H6)
      else Pv (i + 1) H3) (hd : ∀ H, Pv n H → Qd H) :
    ∃ W : Nat → Nat → Hp → Prop, (∃ m, W 0 m (upd H1 D (.lst []))) ∧ ∀ i m H, W i m H →
      ((Itr lo n).stop i H ∧ Qd H) ∨ ((Itr lo n).go i H ∧ ∃ Nx : Hp → Prop, (∀ H', Nx H' → ∃ m', m' < m ∧ W (i + 1) m' H') ∧ ∀ x H', (Itr lo n).yld i H x H' → g x (wipe σ vs) H' fun σ2 H2 => wipe σ2 vs = wipe σ vs ∧ tt σ2 H2 fun b H3 =>
        if b = true then wi1 σ2 H3 fun J1 H4 => ∃ W1 : Nat → Nat → Hp → Prop, (∃ m, W1 0 m H4) ∧ ∀ j k H, W1 j k H →
          (J1.stop j H ∧ Nx H) ∨ (J1.go j H ∧ ∃ Nx1 : Hp → Prop, (∀ H', Nx1 H' → ∃ k', k' < k ∧ W1 (j + 1) k' H') ∧ ∀ x H', J1.yld j H x H' → g1 x (wipe σ2 vs1) H' fun σ3 H5 => wipe σ3 vs1 = wipe σ2 vs1 ∧ tt1 σ3 H5 fun b H6 =>
            if b = true then te σ3 H6 fun y H7 => ∃ acc, H7 D = some (.lst acc) ∧ acc.length < sizeLine ∧ Nx1 (upd H7 D (.lst (acc ++ [y]))) else Nx1 H6)
        else Nx H3) := by
  refine ⟨fun i m H => m = n - i ∧ i ≤ n ∧ Pv i H, ⟨n, by simp, Nat.zero_le _, h0⟩, ?_⟩
  rintro i m H ⟨rfl, hi, p⟩
  by_cases hlt : i < n
  · refine .inr ⟨hlt, Pv (i + 1), fun H' p' => ⟨n - (i + 1), by omega, rfl, hlt, p'⟩, fun x H' y => ?_⟩
    obtain ⟨e, y⟩ := y
    subst e y
    exact hs i _ hlt p
  · have e : i = n := by omega
    subst e
    exact .inl ⟨Nat.le_refl _, hd H p⟩
theorem lcr_inner {lo : Int} {n : Nat} {g : TG} {tt : TT} {te : TE} {vs : List Nat} {σ : St} {H4 : Hp} {D : Addr} {Qd : Hp → Prop} (Pv : Nat → Hp → Prop) (h0 : Pv 0 H4)
    (hs : ∀ i H, i < n → Pv i H → g (.int (lo + i)) (wipe σ vs) H fun σ2 H2 => wipe σ2 vs = wipe σ vs ∧ tt σ2 H2 fun b H3 =>
      if b = true then te σ2 H3 fun y H4 => ∃ acc, H4 D = some (.lst acc) ∧ acc.length < sizeLine ∧ Pv (i + 1) (upd H4 D (.lst (acc ++ [y]))) else Pv (i + 1) H3) (hd : ∀ H, Pv n H → Qd H) :
    ∃ W : Nat → Nat → Hp → Prop, (∃ m, W 0 m H4) ∧ ∀ i m H, W i m H →
      ((Itr lo n).stop i H ∧ Qd H) ∨ ((Itr lo n).go i H ∧ ∃ Nx : Hp → Prop, (∀ H', Nx H' → ∃ m', m' < m ∧ W (i + 1) m' H') ∧ ∀ x H', (Itr lo n).yld i H x H' → g x (wipe σ vs) H' fun σ2 H2 => wipe σ2 vs = wipe σ vs ∧ tt σ2 H2 fun b H3 =>
        if b = true then te σ2 H3 fun y H4 => ∃ acc, H4 D = some (.lst acc) ∧ acc.length < sizeLine ∧ Nx (upd H4 D (.lst (acc ++ [y]))) else Nx H3) := by
  refine ⟨fun i m H => m = n - i ∧ i ≤ n ∧ Pv i H, ⟨n, by simp, Nat.zero_le _, h0⟩, ?_⟩
  rintro i m H ⟨rfl, hi, p⟩
  by_cases hlt : i < n
  · refine .inr ⟨hlt, Pv (i + 1), fun H' p' => ⟨n - (i + 1), by omega, rfl, hlt, p'⟩, fun x H' y => ?_⟩
    obtain ⟨e, y⟩ := y
    subst e y
    exact hs i _ hlt p
  · have e : i = n := by omega
    subst e
    exact .inl ⟨Nat.le_refl _, hd H p⟩
end L2
namespace My
open PySem PySem.Spec PyProof.Rows L2
/-- the list at D, new since H1, holds the data ds, of which it is no part -/
def Ac (K : PySem.W.Frag) (H1 : Hp) (D : Addr) (ds : List PyData) (H : Hp) : Prop := Same H1 H ∧ ∃ acc, H D = some (.lst acc) ∧ DwAll K D H true acc ds
theorem Ac.start {K : PySem.W.Frag} {H1 : Hp} {D : Addr} (hD : H1 D = none) : Ac K H1 D [] (L2.upd H1 D (.lst [])) := ⟨Same.new (Same.refl _) hD, [], upd_same, .nil⟩
theorem Ac.snoc {K : PySem.W.Frag} {H1 H H2 : Hp} {D : Addr} {ds : List PyData} {y : V} {d : PyData} (h : Ac K H1 D ds H) (hD : H1 D = none) (l : ds.length ≤ 10000) (s : Same H H2) (dy : Dw K D H2 true y d) :
    ∃ acc, H2 D = some (.lst acc) ∧ acc.length < sizeLine ∧ Ac K H1 D (ds ++ [d]) (L2.upd H2 D (.lst (acc ++ [y]))) := by
  obtain ⟨s1, acc, e, ha⟩ := h
  refine ⟨acc, s _ _ e, by rw [ha.len]; exact Nat.lt_of_le_of_lt l (by decide), fun b o q => ?_, acc ++ [y], upd_same, ?_⟩
  · rw [upd_ne (ne_of_none q hD)]; exact s _ _ (s1 _ _ q)
  · show DgAll K (wo (L2.upd H2 D _) D) true _ _
    rw [wo_upd]
    exact (ha.kp (Kp.of s)).append (.cons dy .nil)
/-- a new tuple for it -/
theorem dw_tup {K : PySem.W.Frag} {H : Hp} {D q : Addr} {xs : List V} {es : List PyData} (e : H D ≠ none) (hq : H q = none) (h : DwAll K D H true xs es) : Dw K D (L2.upd H q (.tup xs)) true (.ref q) (.tuple es) := by
  have n : q ≠ D := fun z => e (by rw [← z]; exact hq)
  exact .tup (SqT.of (by rw [wo_ne n]; exact upd_same)) (h.kp ((Kp.refl D H).new hq))
theorem Ac.ne {K : PySem.W.Frag} {H1 H : Hp} {D : Addr} {ds : List PyData} (h : Ac K H1 D ds H) : H D ≠ none := by
  obtain ⟨_, acc, e, _⟩ := h
  rw [e]; exact fun z => by cases z
/-- one more tuple of known items -/
theorem Ac.tup {K : PySem.W.Frag} {H1 H : Hp} {D q : Addr} {ds es : List PyData} {xs : List V} (h : Ac K H1 D ds H) (hD : H1 D = none) (l : ds.length ≤ 10000) (hq : H q = none) (hx : ∀ G, DgAll K G true xs es) :
    ∃ acc, L2.upd H q (.tup xs) D = some (.lst acc) ∧ acc.length < sizeLine ∧ Ac K H1 D (ds ++ [.tuple es]) (L2.upd (L2.upd H q (.tup xs)) D (.lst (acc ++ [.ref q]))) :=
  h.snoc hD l (Same.new (Same.refl _) hq) (dw_tup h.ne hq (hx _))
theorem same_wo {H : Hp} {p : Addr} {o : HO} (h : H p = none) : Same H (wo (L2.upd H p o) p) := fun b ob e => by
  have n : b ≠ p := fun z => by rw [z, h] at e; cases e
  rw [wo_ne n, upd_ne n]; exact e
end My

set_option Elab.async false
set_option linter.all false
set_option maxRecDepth 100000
set_option maxHeartbeats 2000000
namespace PySem
open PyProof.Rows
theorem Walks.tupleOn {prog : Program} {w : World} {A : Around} (hh : A.handled = none) (I ax : Addr) (hne : ax ≠ I) (items : Array Value) (k : Nat) (hk : k ≤ items.size) :
    Walks prog w A I [I, ax] [I] (items.size - k) (fun i v => items[k + i]? = some v) (fun i h => h.IsTupleIter I ax (k + i) ∧ h.IsTuple ax items) where
  sub := fun b hb => by simp at hb; simp [hb]
  frame := fun _ _ _ st hk => ⟨st.1.at fun o e => hk I (by simp) o e, st.2.at fun o e => hk ax (by simp) o e⟩
  item := fun i s Q E hi st hQ => by
    have hi' : k + i < items.size := by omega
    refine wpAny_pyNext_tuple_item st.1 st.2 (x := items[k + i]) (by simp [hi']) fun h' hit' hs' => ?_
    exact hQ _ h' s.toks (by simp [hi']) ⟨hit', st.2.extBut hs'.extBut hne⟩ fun b o hb e => hs'.extBut b o (fun h => hb (by simp [h])) e
  done := fun s Q E st hQ => wpAny_pyNext_tuple_end hh st.1 st.2 (by simp; omega) fun h' he' => hQ h' s.toks fun b o hb e => he' b o (fun h => hb (by simp [h])) e
  self := fun _ _ _ _ st hQ => wpAny_pyIter_tupleiter st.1 hQ
section
variable {prog : Program} {w : World} {A : Around} {E : Value → Shared → Prop} {s : Shared}
theorem unpackStar {t : Addr} {items : Array Value} {Q : List Value → Shared → Prop} (hh : A.handled = none) (ht : s.heap.IsTuple t items) (h1 : 1 ≤ items.size) (hz : items.size ≤ sizeLine)
    (hQ : ∀ s', Moved [s.heap.objs.size] (fun a b => b = a) s s' → Q [items[0], .ref s'.heap.objs.size] { s' with heap := s'.heap.push { cls := .type "list", data := .seq (items.toList.drop 1).toArray } }) :
    wpAny (model prog w) A (unpackItems (.ref t) 2 (some 1)) Q E s := by
  have hlt : t ≠ s.heap.objs.size := by obtain ⟨o, ho, _⟩ := ht; exact Nat.ne_of_lt (Heap.lt_size ho)
  unfold unpackItems
  refine wpAny_bind ?_
  unfold notIterableAtAll
  refine wpAny_bind (wpAny_specialOf ht.typeIs F.slot_tuple_iter.lookup ?_)
  refine wpAny_pure ?_
  simp only [Bool.false_eq_true, if_false]
  refine wpAny_bind (wpAny_holding (wpAny_pyIter_tuple ht ?_))
  refine wpAny_bind (wpAny_holding (wpAny_draw_tuple hlt 1 0 _ _ ⟨_, Heap.get?_push_size _ rfl, rfl, rfl⟩ (ht.push _) (by omega) fun h₁ hit₁ hs₁ => ?_))
  have hone : List.take 1 (List.drop 0 items.toList) = [items[0]] := by
    rw [List.drop_zero]
    have : items.toList = items[0] :: items.toList.drop 1 := by
      have := List.drop_eq_getElem_cons (l := items.toList) (i := 0) (by rw [Array.length_toList]; omega)
      simpa using this
    rw [this]; rfl
  rw [hone, if_neg (by simp)]
  have W := (Walks.tupleOn (prog := prog) (w := w) (A := A.in1) hh s.heap.objs.size t hlt items 1 h1).toS
  have k0 : ∀ b o, b ∉ [s.heap.objs.size] → s.heap.get? b = some o → h₁.get? b = some o := fun b o hb e => hs₁.extBut b o (fun z => hb (by simp [z])) (Heap.get?_push_of_some _ e)
  have sz1 : s.heap.objs.size < h₁.objs.size := by
    obtain ⟨o, ho, _⟩ := hit₁
    exact Heap.lt_size ho
  refine wpAny_bind (wpAny_holding (wpAny_collect_iter (T := "tuple_iterator") (.inr (.inr (.inr rfl))) W (fun i s' st => st.1.typeIs) ⟨hit₁, (ht.push _).extBut hs₁.extBut hlt⟩ ?_ (by simp) (fun s' acc hm hacc => ?_) (by omega)))
  · intro b hb
    rcases List.mem_cons.mp hb with rfl | hb
    · exact sz1
    · rw [List.mem_singleton.mp hb]
      obtain ⟨o, ho, _⟩ := ht
      exact Nat.lt_trans (Heap.lt_size ho) sz1
  · have el : acc.toList = items.toList.drop 1 := by
      obtain ⟨e1, e2⟩ := hacc
      apply List.ext_getElem?
      intro i
      rw [List.getElem?_drop, Array.getElem?_toList, Array.getElem?_toList]
      by_cases hi : i < acc.size
      · have g : acc[i]? = some acc[i] := by simp [hi]
        rw [g]; exact (e2 i _ g).symm
      · have a1 : acc[i]? = none := by simp; omega
        have a2 : items[1 + i]? = none := by simp; omega
        rw [a1, a2]
    rw [el, if_neg (by simp)]
    have et : List.take ((items.toList.drop 1).length - (2 - 1 - 1)) (items.toList.drop 1) = items.toList.drop 1 := by rw [show 2 - 1 - 1 = 0 from rfl, Nat.sub_zero, List.take_length]
    have ed : List.drop ((items.toList.drop 1).length - (2 - 1 - 1)) (items.toList.drop 1) = [] := by rw [show 2 - 1 - 1 = 0 from rfl, Nat.sub_zero, List.drop_length]
    rw [et, ed]
    refine wpAny_bind (wpAny_newList (wpAny_pure ?_) ?_)
    · exact hQ s' ⟨fun b o hb e => hm.heap b o hb (k0 b o hb e), hm.gens, hm.drawn, hm.os, hm.toks⟩
    · simp; omega
end
end PySem
namespace L2
open PySem PySem.Spec PyProof.Rows
section
variable {X : Cx} {pos : Pos}
/-- x, *rest = v (v a tuple of one item or more): rest becomes a new list -/
def gStar (K : PySem.W.Frag) (t : TGs) : TG := fun v σ H Q => ∃ a x xs, v = .ref a ∧ SqT K H a (x :: xs) ∧ ∀ p, H p = none → t [x, .ref p] σ (upd H p (.lst xs)) Q
theorem pg_star {e1 e2 : Expr} {k : Nat} {p2 : Pos} {t : TGs} (hc : X.calm = true) (h : PGs X [e1, e2] t)
    (hn : (assignEach [e1, .Starred e2 p2] X.env).length = 2 := by rfl) (hst : (assignEach [e1, .Starred e2 p2] X.env).findIdx? (·.1) = some 1 := by rfl)
    (hm : (assignEach [e1, .Starred e2 p2] X.env).map (·.2) = (assignEach [e1, e2] X.env).map (·.2) := by rfl) : PG X (.Tuple [e1, .Starred e2 p2] k pos) (gStar X.K t) := by
  refine ⟨fun pins s σ H v u Q I r hw => ?_⟩
  obtain ⟨a, x, xs, e1', hq, hw⟩ := hw
  subst e1'
  cases r
  obtain ⟨its, rv, ht, hz⟩ := I.tuple hq
  rw [assign_Tuple]
  refine wpAny_bind (wpAny_standAt ?_)
  unfold unpack
  rw [hn, hst, hm]
  cases rv with
  | cons r0 rv =>
    rename_i u0 us
    refine wpAny_bind (wpAny_holding (unpackStar (items := (u0 :: us).toArray) (I.ok.hd hc) ht (by simp) (by simp; have := rv.length; simp at hz; omega) fun s' mv => ?_))
    have I1 : Inv X pins σ H s' := by
      rw [Moved.eq_with mv]
      exact I.kept (t' := s'.toks) fun b o e => mv.heap b o (fun z => by have h1 := Heap.lt_size e; rw [List.mem_singleton.mp z] at h1; exact Nat.lt_irrefl _ h1) e
    have hf : H s'.heap.objs.size = none := I1.hok.fresh (Nat.le_refl _)
    have I2 : Inv X pins σ (upd H s'.heap.objs.size (.lst xs)) { s' with heap := s'.heap.push { cls := .type "list", data := .seq ((u0 :: us).drop 1).toArray }, toks := s'.toks } := by
      refine I1.laid (t' := s'.toks) (fun b u e => Heap.get?_push_of_some _ e) (Nat.le_refl _) ?_
      exact ⟨by simp at hz; omega, us, 0, rv, Heap.get?_push_size _ rfl⟩
    exact h.run pins _ σ _ [x, .ref s'.heap.objs.size] [u0, .ref s'.heap.objs.size] Q I2 (.cons r0 (.cons rfl .nil)) (hw _ hf)
end
end L2

set_option Elab.async false
set_option linter.all false
set_option maxRecDepth 100000
set_option maxHeartbeats 4000000
/-! A value that is a list or a tuple: its items, a slice of it, walked through; a body behind a call that never comes back. -/
namespace L2
open PySem PySem.Spec PyProof.Rows
section
variable {X : Cx} {K : PySem.W.Frag}
def rIxQ (K : PySem.W.Frag) : R2 := fun x y H Q => rIxL K x y H Q ∨ rIxT K x y H Q
theorem ix_q : IxR X (rIxQ X.K) := by
  intro value slice pins s σ H x y v u Q I rx ry h hs
  rcases h with h | h
  · exact ix_list value slice pins s σ H x y v u Q I rx ry h hs
  · exact ix_tup value slice pins s σ H x y v u Q I rx ry h hs
theorem ix_qK (e : X.K = K) : IxR X (rIxQ K) := by rw [← e]; exact ix_q
def rSlQ (K : PySem.W.Frag) : V → Option Int → Option Int → Hp → VK → Prop := fun x lo hi H Q => rSlL K x lo hi H Q ∨ rSlA K x lo hi H Q
theorem sl_q : SlR X (rSlQ X.K) := SlR.or sl_list sl_tupA
def iSq (K : PySem.W.Frag) (tl : TE) : TI := fun σ H R => tl σ H fun x H1 => ∃ a, x = .ref a ∧ ((∃ xs, SqL K H1 a xs) ∧ R (Itl K a) H1 ∨ (∃ xs, SqT K H1 a xs) ∧ R (Itt K a) H1)
theorem pi_sq {tg l : Expr} {tl : TE} (hl : PE X l tl) : PI X tg l (iSq X.K tl) := by
  refine ⟨fun pins s σ H R I h => ?_⟩
  refine thn (hl.run pins s σ H _ I h) fun v s1 ⟨x, H1, I1, r1, q1⟩ => ?_
  obtain ⟨a, e, q1⟩ := q1
  subst e
  cases r1
  rcases q1 with ⟨⟨xs, hq⟩, q⟩ | ⟨⟨xs, hq⟩, q⟩
  · obtain ⟨its, rv, p, hz⟩ := I1.list hq
    refine wpAny_pyIter_list p.isList ?_
    refine ⟨s1.heap.objs.size, [s1.heap.objs.size], _, _, H1, rfl, I1.kept (t' := s1.toks) fun b o e => Heap.get?_push_of_some _ e, turn_list a _, ⟨_, Heap.get?_push_size _ rfl, rfl, rfl⟩, fun b hb => ?_, q⟩
    have e : b = s1.heap.objs.size := by simpa using hb
    subst e
    exact I1.fpOk (Nat.le_refl _) (I1.hok.fresh (Nat.le_refl _))
  · obtain ⟨its, rv, p, hz⟩ := I1.tuple hq
    refine wpAny_pyIter_tuple (show s1.heap.IsTuple a its.toArray from p) ?_
    refine ⟨s1.heap.objs.size, [s1.heap.objs.size], _, _, H1, rfl, I1.kept (t' := s1.toks) fun b o e => Heap.get?_push_of_some _ e, turn_tuple a _, ⟨_, Heap.get?_push_size _ rfl, rfl, rfl⟩, fun b hb => ?_, q⟩
    have e : b = s1.heap.objs.size := by simpa using hb
    subst e
    exact I1.fpOk (Nat.le_refl _) (I1.hok.fresh (Nat.le_refl _))
theorem pg_tupK {es : List Expr} {k : Nat} {t : TGs} {n : Nat} {pos : Pos} (e : X.K = K) (hc : X.calm = true) (h : PGs X es t)
    (hn : (assignEach es X.env).length = n := by rfl) (hst : (assignEach es X.env).findIdx? (·.1) = none := by rfl) : PG X (.Tuple es k pos) (gTup K n t) := by subst e; exact pg_tup hc h hn hst
/-- a statement behind which nothing is reached -/
theorem pss_dead {st : Stmt} {rest : List Stmt} {t : TS} (h1 : PS X st t) : PSs X (st :: rest) (fun D σ H => t { D with nx := fun _ _ => False } σ H) := by
  refine ⟨fun pins s σ H D I h => ?_⟩
  refine wpAny_execs_cons (thn (h1.run pins s σ H { D with nx := fun _ _ => False } I h) fun f s1 q => ?_)
  cases f with
  | next =>
    obtain ⟨_, _, _, q⟩ := q
    exact q.elim
  | ret v => exact q
  | brk => exact q
  | cont => exact q
end
end L2
namespace My
open PySem PySem.Spec PyProof.Rows L2
/-- a list, or a tuple -/
def SqQ (K : PySem.W.Frag) (H : Hp) (a : Addr) (xs : List V) : Prop := SqL K H a xs ∨ SqT K H a xs
theorem SqQ.same {K : PySem.W.Frag} {H H' : Hp} {a : Addr} {xs : List V} (h : SqQ K H a xs) (s : ∀ b o, H b = some o → H' b = some o) : SqQ K H' a xs := h.elim (fun h => .inl (h.ext s)) (fun h => .inr (h.ext s))
theorem SqQ.ix {K : PySem.W.Frag} {H : Hp} {a : Addr} {xs : List V} {i : Int} {v : V} {Q : VK} (h : SqQ K H a xs) (e : atI xs i = some v) (q : Q v H) : rIxQ K (.ref a) (.int i) H Q :=
  h.elim (fun h => .inl ⟨a, xs, i, v, rfl, rfl, h, e, q⟩) (fun h => .inr ⟨a, xs, i, v, rfl, rfl, h, e, q⟩)
/-- a comprehension over a list or a tuple -/
theorem lc_sq {K : PySem.W.Frag} {a : Addr} {xs : List V} {g : TG} {tt : TT} {te : TE} {vs : List Nat} {σ : L2.St} {H1 : Hp} {Qd : Addr → Hp → Prop} (hq : SqQ K H1 a xs)
    (h : ∀ D, H1 D = none → ∃ Pv : Nat → Hp → Prop, Pv 0 (upd H1 D (.lst [])) ∧ (∀ i H, Pv i H → Same H1 H) ∧
      (∀ i x H, xs[i]? = some x → Pv i H → g x (wipe σ vs) H fun σ2 H2 => wipe σ2 vs = wipe σ vs ∧ tt σ2 H2 fun b H3 =>
        if b = true then te σ2 H3 fun y H4 => ∃ acc, H4 D = some (.lst acc) ∧ acc.length < sizeLine ∧ Pv (i + 1) (upd H4 D (.lst (acc ++ [y]))) else Pv (i + 1) H3) ∧ ∀ H, Pv xs.length H → Qd D H) :
    ((∃ xs, SqL K H1 a xs) ∧ ∀ D, H1 D = none → ∃ W : Nat → Nat → Hp → Prop, (∃ m, W 0 m (upd H1 D (.lst []))) ∧ ∀ i m H, W i m H →
      ((Itl K a).stop i H ∧ Qd D H) ∨ ((Itl K a).go i H ∧ ∃ Nx : Hp → Prop, (∀ H', Nx H' → ∃ m', m' < m ∧ W (i + 1) m' H') ∧ ∀ x H', (Itl K a).yld i H x H' → g x (wipe σ vs) H' fun σ2 H2 => wipe σ2 vs = wipe σ vs ∧ tt σ2 H2 fun b H3 =>
        if b = true then te σ2 H3 fun y H4 => ∃ acc, H4 D = some (.lst acc) ∧ acc.length < sizeLine ∧ Nx (upd H4 D (.lst (acc ++ [y]))) else Nx H3)) ∨ ((∃ xs, SqT K H1 a xs) ∧ ∀ D, H1 D = none → ∃ W : Nat → Nat → Hp → Prop, (∃ m, W 0 m (upd H1 D (.lst []))) ∧ ∀ i m H, W i m H →
      ((Itt K a).stop i H ∧ Qd D H) ∨ ((Itt K a).go i H ∧ ∃ Nx : Hp → Prop, (∀ H', Nx H' → ∃ m', m' < m ∧ W (i + 1) m' H') ∧ ∀ x H', (Itt K a).yld i H x H' → g x (wipe σ vs) H' fun σ2 H2 => wipe σ2 vs = wipe σ vs ∧ tt σ2 H2 fun b H3 =>
        if b = true then te σ2 H3 fun y H4 => ∃ acc, H4 D = some (.lst acc) ∧ acc.length < sizeLine ∧ Nx (upd H4 D (.lst (acc ++ [y]))) else Nx H3)) := by
  rcases hq with hq | hq
  · exact .inl ⟨⟨xs, hq⟩, fun D hD => by obtain ⟨Pv, h0, hl, hs, hd⟩ := h D hD; exact lc_list (K := K) (a := a) (xs := xs) Pv h0 (fun i H hi h => hq.ext (hl i H h)) hs hd⟩
  · exact .inr ⟨⟨xs, hq⟩, fun D hD => by obtain ⟨Pv, h0, hl, hs, hd⟩ := h D hD; exact lc_tup (K := K) (a := a) (xs := xs) Pv h0 (fun i H hi h => hq.ext (hl i H h)) hs hd⟩
theorem walk_zipT {K : PySem.W.Frag} {a b : Addr} {xs ys : List V} {n : Nat} (hn : n = min xs.length ys.length) : Walk (RZ.ItzT K a b) n (fun H => SqT K H a xs ∧ SqT K H b ys) (YPair (fun i => xs[i]?) (fun i => ys[i]?)) := by
  subst hn
  refine ⟨fun i _ hi q => ?_, fun _ q => ⟨xs, ys, q.1, q.2, by omega⟩, fun i H v H' _ q y => ?_⟩
  · have h1 : i < xs.length := by omega
    have h2 : i < ys.length := by omega
    exact ⟨xs, ys, xs[i], ys[i], q.1, q.2, by simp [h1], by simp [h2]⟩
  · obtain ⟨T, x, z, h1, h2, h3, h4, h5⟩ := y
    exact ⟨T, x, z, h1, h2, h3, h4 xs q.1, h5 ys q.2⟩
/-- a comprehension over the pairs of two lists, or of two tuples -/
theorem lc_zipA {K : PySem.W.Frag} {a b : Addr} {xs ys : List V} {g : TG} {tt : TT} {te : TE} {vs : List Nat} {σ : L2.St} {H1 : Hp} {Qd : Addr → Hp → Prop} (hq : (SqL K H1 a xs ∧ SqL K H1 b ys) ∨ (SqT K H1 a xs ∧ SqT K H1 b ys))
    (h : ∀ D, H1 D = none → ∃ Pv : Nat → Hp → Prop, Pv 0 (upd H1 D (.lst [])) ∧ (∀ i H, Pv i H → Same H1 H) ∧
      (∀ i T x y H, xs[i]? = some x → ys[i]? = some y → Pv i H → H T = none → g (.ref T) (wipe σ vs) (upd H T (.tup [x, y])) fun σ2 H2 => wipe σ2 vs = wipe σ vs ∧ tt σ2 H2 fun b H3 =>
        if b = true then te σ2 H3 fun y H4 => ∃ acc, H4 D = some (.lst acc) ∧ acc.length < sizeLine ∧ Pv (i + 1) (upd H4 D (.lst (acc ++ [y]))) else Pv (i + 1) H3) ∧ ∀ H, Pv (min xs.length ys.length) H → Qd D H) :
    (SqL K H1 a xs ∧ SqL K H1 b ys ∧ ∀ D, H1 D = none → ∃ W : Nat → Nat → Hp → Prop, (∃ m, W 0 m (upd H1 D (.lst []))) ∧ ∀ i m H, W i m H →
      ((Itz K a b).stop i H ∧ Qd D H) ∨ ((Itz K a b).go i H ∧ ∃ Nx : Hp → Prop, (∀ H', Nx H' → ∃ m', m' < m ∧ W (i + 1) m' H') ∧ ∀ x H', (Itz K a b).yld i H x H' → g x (wipe σ vs) H' fun σ2 H2 => wipe σ2 vs = wipe σ vs ∧ tt σ2 H2 fun b H3 =>
        if b = true then te σ2 H3 fun y H4 => ∃ acc, H4 D = some (.lst acc) ∧ acc.length < sizeLine ∧ Nx (upd H4 D (.lst (acc ++ [y]))) else Nx H3)) ∨ (SqT K H1 a xs ∧ SqT K H1 b ys ∧ ∀ D, H1 D = none → ∃ W : Nat → Nat → Hp → Prop, (∃ m, W 0 m (upd H1 D (.lst []))) ∧ ∀ i m H, W i m H →
      ((RZ.ItzT K a b).stop i H ∧ Qd D H) ∨ ((RZ.ItzT K a b).go i H ∧ ∃ Nx : Hp → Prop, (∀ H', Nx H' → ∃ m', m' < m ∧ W (i + 1) m' H') ∧ ∀ x H', (RZ.ItzT K a b).yld i H x H' → g x (wipe σ vs) H' fun σ2 H2 => wipe σ2 vs = wipe σ vs ∧ tt σ2 H2 fun b H3 =>
        if b = true then te σ2 H3 fun y H4 => ∃ acc, H4 D = some (.lst acc) ∧ acc.length < sizeLine ∧ Nx (upd H4 D (.lst (acc ++ [y]))) else Nx H3)) := by
  rcases hq with ⟨h1, h2⟩ | ⟨h1, h2⟩
  · refine .inl ⟨h1, h2, fun D hD => ?_⟩
    obtain ⟨Pv, h0, hl, hs, hd⟩ := h D hD
    refine lc_it (walk_zip rfl) Pv h0 (fun i H _ p => ⟨h1.ext (hl i H p), h2.ext (hl i H p)⟩) ?_ hd
    rintro i v H H' hi p ⟨T, x, y, rfl, hT, rfl, ex, ey⟩
    exact hs i T x y H ex ey p hT
  · refine .inr ⟨h1, h2, fun D hD => ?_⟩
    obtain ⟨Pv, h0, hl, hs, hd⟩ := h D hD
    refine lc_it (walk_zipT rfl) Pv h0 (fun i H _ p => ⟨h1.ext (hl i H p), h2.ext (hl i H p)⟩) ?_ hd
    rintro i v H H' hi p ⟨T, x, y, rfl, hT, rfl, ex, ey⟩
    exact hs i T x y H ex ey p hT
theorem _root_.L2.Dg.lst_q {K : PySem.W.Frag} {H : Hp} {m : Bool} {x : V} {ds : List PyData} {d : PyData} (hd : d = .list ds ∨ d = .tuple ds) (h : Dg K H m x d) : ∃ a xs, x = .ref a ∧ SqQ K H a xs ∧ DgAll K H m xs ds := by
  rcases hd with rfl | rfl
  · obtain ⟨a, xs, rfl, hs, _, ha⟩ := h.lst_of
    exact ⟨a, xs, rfl, .inl hs, ha⟩
  · obtain ⟨a, xs, rfl, hs, ha⟩ := h.tup_of
    exact ⟨a, xs, rfl, .inr hs, ha⟩
end My

set_option Elab.async false
set_option linter.all false
set_option maxRecDepth 100000
set_option maxHeartbeats 4000000
/-! Instances of an own class with its own __eq__: == and != with an instance or with data. -/
namespace OwnC
open PySem PySem.Spec PyProof.Rows PySem.Builtin
section
variable {M : Model} {prog : Program} {w : World} {A : Around} {E : Value → Shared → Prop} {s : Shared} {K : PySem.W.Frag} {x C f : Addr} {ox : Obj} {od : Option Obj} {b tb : Value}
theorem ifBound_objNe {args : List Value} {Q : Option Value → Shared → Prop} (X : K.In s.heap) (I : PySem.W.InstAt s.heap x ox C od) (hs : PySem.W.findIn K (.ref C) "__ne__" = some (some (.builtin "object.__ne__")))
    (h : wpAny M A (call (.builtin "object.__ne__") (.ref x :: args)) (fun v => Q (some v)) E s) : wpAny M A (callSpecialIfBound? (.ref x) "__ne__" args) Q E s := by
  simp only [callSpecialIfBound?, bindSpecialIfBound?]
  refine wpAny_holding (wpAny_bind (wpAny_bind (wpAny_bind (I.type.here ((PySem.W.looks_findIn X hs).here ?_)))))
  refine wpAny_bind (wpAny_askSetting (wpAny_ite ?_))
  have fin : wpAny M A (call (.builtin "object.__ne__") ([.ref x] ++ args) >>= fun v => pure (some v)) Q E s := wpAny_bind (wpAny_mono h (fun v s' h' => wpAny_pure h') fun _ _ h' => h')
  split
  · exact wpAny_bind (wpAny_of_eq (F.cmp_object.ne.bind _) (wpAny_pure (by exact fin)))
  · exact wpAny_tryCatch (wpAny_bind (wpAny_of_eq (F.cmp_object.ne.bind _) (wpAny_pure (by exact fin))))
theorem entry_ne {Q : Fin → Shared → Prop} (hu : A.units < cLine) (X : K.In s.heap) (I : PySem.W.InstAt s.heap x ox C od) (hs : PySem.W.findIn K (.ref C) "__eq__" = some (some (.ref f))) (hf : PySem.W.isFn K (.ref f) = true)
    (h : wpAny (model prog w) A (call (.ref f) [.ref x, b]) (fun v s' => ∃ r, v = .bool r ∧ Q (.done (.ret (.bool (!r)))) s') E s) : wpAny (model prog w) A (Builtin.«object.__ne__» ⟨[.ref x, b], []⟩) Q E s := by
  unfold Builtin.«object.__ne__»
  refine wpAny_bind (m := slotArgs "__ne__" 1 _) (wpAny_pure ?_)
  refine wpAny_bind (m := cRoomFor _ _) (wpAny_cRoomFor hu ?_)
  refine wpAny_bind (m := callSpecialIfBound? (.ref x) (Str.ofString "__eq__") _) (PySem.W.ifBound_K X I hs hf (wpAny_mono h (fun r s' hq => ?_) fun _ _ y => y))
  obtain ⟨r, rfl, hq⟩ := hq
  refine wpAny_bind (wpAny_truthy_bool ?_)
  exact wpAny_pure hq
theorem call_ne {Q : Value → Shared → Prop} (hu : A.in1.units < cLine) (X : K.In s.heap) (I : PySem.W.InstAt s.heap x ox C od) (hm : PySem.W.mroIn K C (.type "object") = some true) (hs : PySem.W.findIn K (.ref C) "__eq__" = some (some (.ref f))) (hf : PySem.W.isFn K (.ref f) = true)
    (h : wpAny (model prog w) A.in1 (call (.ref f) [.ref x, b]) (fun v s' => ∃ r, v = .bool r ∧ Q (.bool (!r)) s') E s) : wpAny (model prog w) A (call (.builtin "object.__ne__") [.ref x, b]) Q E s :=
  wpAny_call (codeAny_call_builtin F.cmp_object.ne.plain F.cmpEntry_ne (PySem.W.check_slot F.cmpKind_ne F.cmpSplit_ne (I.type.andThen (PySem.W.looks_mroIn X hm)) (F.cmpArgs_ne _ _) (entry_ne hu X I hs hf h)))
theorem cmp_ne {Q : Value → Shared → Prop} (hu : A.units + 1 < cLine) (X : K.In s.heap) (I : PySem.W.InstAt s.heap x ox C od) (hb : PySem.W.Looks (model prog w) s.heap (typeOf b) tb) (hn : PySem.W.notFirst K C tb = true)
    (hm : PySem.W.mroIn K C (.type "object") = some true) (hN : PySem.W.findIn K (.ref C) "__ne__" = some (some (.builtin "object.__ne__"))) (hs : PySem.W.findIn K (.ref C) "__eq__" = some (some (.ref f))) (hf : PySem.W.isFn K (.ref f) = true)
    (h : wpAny (model prog w) A.in1 (call (.ref f) [.ref x, b]) (fun v s' => ∃ r, v = .bool r ∧ Q (.bool (!r)) s') E s) : wpAny (model prog w) A (richCompare .NotEq (.ref x) b) Q E s := by
  have one : wpAny (model prog w) A (tryCompare (.ref x) (cmpInfo .NotEq).2.1 b) (fun r s' => ∃ v, r = some v ∧ Q v s') E s := by
    rw [cmpInfo_NotEq]
    unfold tryCompare
    refine wpAny_bind (ifBound_objNe X I hN (call_ne (by show A.units + 1 < cLine; omega) X I hm hs hf (wpAny_mono h (fun v s' hv => ?_) fun _ _ e => e)))
    obtain ⟨r, rfl, hq⟩ := hv
    exact ⟨r, rfl, wpAny_pure ⟨_, rfl, hq⟩⟩
  unfold richCompare
  simp only [oneThing_ref]
  refine wpAny_holding (wpAny_bind (wpAny_cRoomFor (Nat.lt_of_succ_lt hu) ?_))
  refine wpAny_bind (I.type.here (wpAny_bind (hb.here ?_)))
  split
  · rename_i q
    have e : PySem.W.subIn K tb (.ref C) = some false := by
      rcases Bool.or_eq_true_iff.mp hn with e | e
      · rw [beq_iff_eq.mp e] at q; simp at q
      · exact beq_iff_eq.mp e
    refine wpAny_bind ((PySem.W.looks_subIn X e).here ?_)
    simp only [Bool.false_eq_true, if_false]
    refine wpAny_bind (wpAny_mono one (fun r s' z => ?_) fun _ _ e => e)
    obtain ⟨v, rfl, hq⟩ := z
    exact wpAny_pure hq
  · refine wpAny_bind (wpAny_pure ?_)
    simp only [Bool.false_eq_true, if_false]
    refine wpAny_bind (wpAny_mono one (fun r s' z => ?_) fun _ _ e => e)
    obtain ⟨v, rfl, hq⟩ := z
    exact wpAny_pure hq
theorem cmp_eq {Q : Value → Shared → Prop} (hu : A.units < cLine) (X : K.In s.heap) (I : PySem.W.InstAt s.heap x ox C od) (hb : PySem.W.Looks (model prog w) s.heap (typeOf b) tb) (hn : PySem.W.notFirst K C tb = true)
    (hs : PySem.W.findIn K (.ref C) "__eq__" = some (some (.ref f))) (hf : PySem.W.isFn K (.ref f) = true)
    (h : wpAny (model prog w) A (call (.ref f) [.ref x, b]) (fun v s' => ∃ r, v = .bool r ∧ Q (.bool r) s') E s) : wpAny (model prog w) A (richCompare .Eq (.ref x) b) Q E s := by
  have one : wpAny (model prog w) A (tryCompare (.ref x) (cmpInfo .Eq).2.1 b) (fun r s' => ∃ v, r = some v ∧ Q v s') E s := by
    rw [cmpInfo_Eq]
    unfold tryCompare
    refine wpAny_bind (PySem.W.ifBound_K X I hs hf (wpAny_mono h (fun v s' hv => ?_) fun _ _ e => e))
    obtain ⟨r, rfl, hq⟩ := hv
    exact wpAny_pure ⟨_, rfl, hq⟩
  unfold richCompare
  simp only [oneThing_ref]
  refine wpAny_holding (wpAny_bind (wpAny_cRoomFor hu ?_))
  refine wpAny_bind (I.type.here (wpAny_bind (hb.here ?_)))
  split
  · rename_i q
    have e : PySem.W.subIn K tb (.ref C) = some false := by
      rcases Bool.or_eq_true_iff.mp hn with e | e
      · rw [beq_iff_eq.mp e] at q; simp at q
      · exact beq_iff_eq.mp e
    refine wpAny_bind ((PySem.W.looks_subIn X e).here ?_)
    simp only [Bool.false_eq_true, if_false]
    refine wpAny_bind (wpAny_mono one (fun r s' z => ?_) fun _ _ e => e)
    obtain ⟨v, rfl, hq⟩ := z
    exact wpAny_pure hq
  · refine wpAny_bind (wpAny_pure ?_)
    simp only [Bool.false_eq_true, if_false]
    refine wpAny_bind (wpAny_mono one (fun r s' z => ?_) fun _ _ e => e)
    obtain ⟨v, rfl, hq⟩ := z
    exact wpAny_pure hq
end
end OwnC
namespace L2
open PySem PySem.Spec PyProof.Rows
/-- what the written part says of a class with an own __eq__ -/
structure OEq (K : PySem.W.Frag) (C f : Addr) : Prop where
  cl : Cls K C
  eq : PySem.W.findIn K (.ref C) "__eq__" = some (some (.ref f))
  fn : PySem.W.isFn K (.ref f) = true
  ne : PySem.W.findIn K (.ref C) "__ne__" = some (some (.builtin "object.__ne__"))
  mo : PySem.W.mroIn K C (.type "object") = some true
  ha : PySem.W.findIn K (.ref C) "__class__" = some (some (.builtin "object.__class__"))
  hn : PySem.W.specialIn K (.builtin "object.__class__") "__get__" = some (some (.builtin "getset_descriptor.__get__"))
  htk : PySem.W.takesIn K (.builtin "object.__class__") = some true
theorem OEq.ty {K : PySem.W.Frag} {C f : Addr} (T : OEq K C f) {H : Hp} {a dx : Addr} {fs : List (Str × V)} (e : H a = some (.ins C dx fs)) : TyX K H (.ref a) (.ref C) := .base (.ins e T.cl T.ha T.hn T.htk T.mo)
theorem OEq.first {K : PySem.W.Frag} {C f : Addr} (T : OEq K C f) : PySem.W.notFirst K C (.ref C) = true := by
  unfold PySem.W.notFirst
  rw [show (Value.ref C == Value.ref C) = true from by simp]
  rfl
section
variable {X : Cx} {pins : List (Addr × Obj)} {σ : St} {H : Hp} {s : Shared}
theorem looks_ref {M : Model} {h : Heap} {a : Addr} {o : Obj} (e : h.get? a = some o) : PySem.W.Looks M h (typeOf (.ref a)) o.cls := (PySem.W.Looks.ld e).andThen .now
theorem tyX_looks {x : V} {u t : Value} (I : Inv X pins σ H s) (rx : RelV x u) (ty : TyX X.K H x t) : PySem.W.Looks (model X.prog X.w) s.heap (typeOf u) t := by
  cases ty with
  | base b =>
    cases b with
    | non => cases (show u = Value.none from rx); exact PySem.W.Looks.of_pure rfl
    | bl y => cases (show u = Value.bool y from rx); exact PySem.W.Looks.of_pure rfl
    | int i => obtain ⟨t, q⟩ := (show ∃ t, u = Value.int i t from rx); cases q; exact PySem.W.Looks.of_pure rfl
    | str y => obtain ⟨t, q⟩ := (show ∃ t, u = Value.str y t from rx); cases q; exact PySem.W.Looks.of_pure rfl
    | flt y => obtain ⟨t, q⟩ := (show ∃ t, u = Value.float y t from rx); cases q; exact PySem.W.Looks.of_pure rfl
    | @lst a xs ea =>
      cases (show u = Value.ref a from rx)
      obtain ⟨_, _, n, _, h1⟩ := (show ObjOk X.prog X.w H s.heap a (.lst xs) from I.hok a _ ea)
      exact looks_ref h1
    | @frz a ob xs ea =>
      cases (show u = Value.ref a from rx)
      obtain ⟨_, _, _, n, _, h1⟩ := (show ObjOk X.prog X.w H s.heap a (.frz ob (.lst xs)) from I.hok a _ ea)
      exact looks_ref h1
    | @tup a xs ea =>
      cases (show u = Value.ref a from rx)
      obtain ⟨_, _, _, o, h1, h2, _⟩ := (show ObjOk X.prog X.w H s.heap a (.tup xs) from I.hok a _ ea)
      exact h2 ▸ looks_ref h1
    | @dK a kvs ea =>
      cases (show u = Value.ref a from rx)
      obtain ⟨_, _, vs, _, o, es, ep, h1, h2, _⟩ := (show ObjOk X.prog X.w H s.heap a (.dK kvs) from I.hok a _ ea)
      exact h2.1 ▸ looks_ref h1
    | @dT a kvs ea =>
      cases (show u = Value.ref a from rx)
      obtain ⟨_, _, xs, _, o, es, ep, h1, h2, _⟩ := (show ObjOk X.prog X.w H s.heap a (.dT kvs) from I.hok a _ ea)
      exact h2.1 ▸ looks_ref h1
    | @ins a C dx fs ea cl ha hn htk hm =>
      cases (show u = Value.ref a from rx)
      obtain ⟨mA, O, _⟩ := ins_get I.hok ea
      obtain ⟨od, J, _⟩ := O.look
      exact J.type
  | byt y => obtain ⟨t, q⟩ := (show ∃ t, u = Value.bytes y t from rx); cases q; exact PySem.W.Looks.of_pure rfl
  | @set a S n ea =>
    cases (show u = Value.ref a from rx)
    obtain ⟨o, _, _, _, e, ex, _⟩ := I.hok a _ ea
    exact ex.1 ▸ looks_ref e
  | @kList a o e c =>
    cases (show u = Value.ref a from rx)
    exact c ▸ looks_ref (I.kIn a o e)
  | @kTuple a o e c =>
    cases (show u = Value.ref a from rx)
    exact c ▸ looks_ref (I.kIn a o e)
  | @kDict a o e c =>
    cases (show u = Value.ref a from rx)
    exact c ▸ looks_ref (I.kIn a o e)
  | @fTuple a ob xs ea =>
    cases (show u = Value.ref a from rx)
    obtain ⟨_, _, _, _, o, h1, h2, _⟩ := (show ObjOk X.prog X.w H s.heap a (.frz ob (.tup xs)) from I.hok a _ ea)
    exact h2 ▸ looks_ref h1
  | @fDict a ob kvs ea =>
    cases (show u = Value.ref a from rx)
    obtain ⟨_, _, _, vs, _, o, es, ep, h1, h2, _⟩ := (show ObjOk X.prog X.w H s.heap a (.frz ob (.dK kvs)) from I.hok a _ ea)
    exact h2.1 ▸ looks_ref h1
/-- x == y, x an instance of the class at C with its own __eq__ (its promise sp) -/
def rEqO (K : PySem.W.Frag) (C : Addr) (sp : Sp) : R2 := fun x y H Q => (∃ a dx fs, x = .ref a ∧ H a = some (.ins C dx fs)) ∧ (∃ t, TyX K H y t ∧ PySem.W.notFirst K C t = true) ∧ sp [x, y] H (fun v H' => ∃ b, v = .bl b ∧ Q (.bl b) H') (fun _ _ _ => False)
def rNeO (K : PySem.W.Frag) (C : Addr) (sp : Sp) : R2 := fun x y H Q => (∃ a dx fs, x = .ref a ∧ H a = some (.ins C dx fs)) ∧ (∃ t, TyX K H y t ∧ PySem.W.notFirst K C t = true) ∧ sp [x, y] H (fun v H' => ∃ b, v = .bl b ∧ Q (.bl (!b)) H') (fun _ _ _ => False)
theorem run_own {CX : CXT} {n : Nat} {f : Addr} {fd : FuncData} {sp : Sp} {A : Around} {x y : V} {u v : Value} {Q : VK} (F : FnOk X.prog X.w X.K X.mg X.base CX n f fd ["self", "other"] sp) (hb : Binds X.K fd ["self", "other"] []) (hx : Passes CX X (fun _ _ _ => False))
    (hr : Room n A) (hfr : A.frames = X.A.frames) (I : Inv X pins σ H s) (rx : RelV x u) (ry : RelV y v) (h : sp [x, y] H Q (fun _ _ _ => False)) :
    wpAny (model X.prog X.w) A (call (.ref f) [u, v]) (EP X pins σ Q) X.xe s := by
  have e0 : Env0 X.prog X.w X.K X.mg X.base A X.stack s H := by
    have e := I.env0
    exact ⟨by rw [hfr]; exact e.frames, e.mod, e.bs, e.bsz, e.funs, e.frf, e.hok, e.bare⟩
  have r2 : Vals [x, y] [u, v] := .cons rx (.cons ry .nil)
  refine wpAny_call (codeAny_mono (F.run A X.stack s H ⟨[u, v], []⟩ [u, v] [x, y] Q _ hr e0 (by
    have := hb s [u, v] I.kIn rfl
    simpa using this) r2 h) fun r s' hq => ?_)
  cases r with
  | error e => exact hx pins σ H s e s' I hq
  | ok fl =>
    cases fl with
    | ret w => exact I.after hq
    | next => exact False.elim hq
    | brk => exact False.elim hq
    | cont => exact False.elim hq
theorem op_eqO {CX : CXT} {n : Nat} {C f : Addr} {fd : FuncData} {sp : Sp} (T : OEq X.K C f) (F : FnOk X.prog X.w X.K X.mg X.base CX n f fd ["self", "other"] sp) (hb : Binds X.K fd ["self", "other"] []) (hx : Passes CX X (fun _ _ _ => False)) (hr : Room n X.A) (hu : X.A.units + 64 < cLine) :
    OpR X (compareOp .Eq) (rEqO X.K C sp) := by
  intro pins s σ H x y v u Q I rx ry hq
  obtain ⟨⟨a, dx, fs, rfl, ha⟩, ⟨t, ty, hn⟩, q⟩ := hq
  obtain rfl : v = Value.ref a := rx
  obtain ⟨mA, J, _⟩ := ins_get I.hok ha
  obtain ⟨od, J, _⟩ := J.look
  show wpAny (model X.prog X.w) X.A (richCompare .Eq (.ref a) u) (EP X pins σ Q) X.xe s
  refine OwnC.cmp_eq (by omega) I.kIn J (tyX_looks I ry ty) hn T.eq T.fn (wpAny_mono (run_own F hb hx hr rfl I (x := .ref a) rfl ry q) (fun r s' z => ?_) fun _ _ e => e)
  obtain ⟨z, H', I', rz, b, rfl, q'⟩ := z
  cases rz
  exact ⟨b, rfl, .bl b, H', I', rfl, q'⟩
theorem op_neO {CX : CXT} {n : Nat} {C f : Addr} {fd : FuncData} {sp : Sp} (T : OEq X.K C f) (F : FnOk X.prog X.w X.K X.mg X.base CX n f fd ["self", "other"] sp) (hb : Binds X.K fd ["self", "other"] []) (hx : Passes CX X (fun _ _ _ => False)) (hr : Room n X.A.in1) (hu : X.A.units + 64 < cLine) :
    OpR X (compareOp .NotEq) (rNeO X.K C sp) := by
  intro pins s σ H x y v u Q I rx ry hq
  obtain ⟨⟨a, dx, fs, rfl, ha⟩, ⟨t, ty, hn⟩, q⟩ := hq
  obtain rfl : v = Value.ref a := rx
  obtain ⟨mA, J, _⟩ := ins_get I.hok ha
  obtain ⟨od, J, _⟩ := J.look
  show wpAny (model X.prog X.w) X.A (richCompare .NotEq (.ref a) u) (EP X pins σ Q) X.xe s
  refine OwnC.cmp_ne (by omega) I.kIn J (tyX_looks I ry ty) hn T.mo T.ne T.eq T.fn (wpAny_mono (run_own F hb hx hr rfl I (x := .ref a) rfl ry q) (fun r s' z => ?_) fun _ _ e => e)
  obtain ⟨z, H', I', rz, b, rfl, q'⟩ := z
  cases rz
  exact ⟨b, rfl, .bl (!b), H', I', rfl, q'⟩
end
section
variable {X : Cx} {K : PySem.W.Frag}
theorem call_len_seqK (e : X.K = K) : CallR X (.builtin "len") (fun xs H Q => ∃ p ys, xs = [.ref p] ∧ (SqL K H p ys ∨ SqT K H p ys) ∧ Q (.int ys.length) H) := by subst e; exact call_len_seq
theorem call_tuple_ofK (e : X.K = K) : CallR X (.type "tuple") (fun xs H Q => ∃ p ys, xs = [.ref p] ∧ (SqL K H p ys ∧ (∀ q, H q = none → Q (.ref q) (upd H q (.tup ys))) ∨ SqT K H p ys ∧ Q (.ref p) H)) := by subst e; exact call_tuple_of
end
end L2

set_option Elab.async false
set_option linter.all false
set_option maxRecDepth 100000
set_option maxHeartbeats 4000000
/-! Decoders as data: what the program asks of their parts; what they write. -/
namespace My
open PySem PySem.Spec PyProof.Rows L2
/-! ### what the program asks of data -/
def isI : PyData → Bool | .int _ => true | _ => false
def isCn : PyData → Bool | .int i => decide (0 ≤ i) | _ => false
def isSg : PyData → Bool | .int i => decide (1 ≤ i) && decide (i ≤ 5) | _ => false
def isBe (n : Int) : PyData → Bool | .int i => decide (0 ≤ i) && decide (i < n) | _ => false
def numD : PyData → Int | .int i => i | _ => 0
def isSqD : PyData → Bool | .list _ => true | .tuple _ => true | _ => false
def isNn : PyData → Bool | .none => true | _ => false
def isTx : PyData → Bool | .str z => isT z | _ => false
def isWd : PyData → Bool | .str z => isT z && decide ((z.length : Int) ≤ 3) | _ => false
def isStp (n : Int) : PyData → Bool | .tuple [a, b] => isBe n a && isWd b | _ => false
def isEn (n : Int) (d : PyData) : Bool := isNn d || isStp n d
def itsD : PyData → List PyData | .list es => es | .tuple es => es | _ => []
def entB (m n : Int) (d : PyData) : Bool := isSqD d && (decide (((itsD d).length : Int) = m) && (itsD d).all (isEn n))
def stepsB (m : Int) (d : PyData) : Bool := isSqD d && ((decide (1 ≤ ((itsD d).length : Int)) && decide (((itsD d).length : Int) ≤ 40)) && (itsD d).all (entB m ((itsD d).length : Int)))
def endB (d : PyData) : Bool := isNn d || isWd d
def endsB (n : Int) (d : PyData) : Bool := isSqD d && (decide (((itsD d).length : Int) = n) && (itsD d).all endB)
def isLn (n : Int) : PyData → Bool | .tuple ds => ds.all (isBe n) | _ => false
theorem kit_sqD {K : PySem.W.Frag} (d : PyData) : PySem.W.kitAny K (.type (tyD d)) [.type "list", .type "tuple"] = some (isSqD d) := by
  have h1 := kit_lstD (K := K) d
  have h2 := kit_tupD (K := K) d
  unfold PySem.W.kitAny
  rw [h1]
  cases d <;> simp [isLstD, isSqD, isTupD, PySem.W.kitAny, h2] <;> rfl
/-- an own class is none of data's -/
theorem kit_ownD {K : PySem.W.Frag} {C : Addr} (h2 : PySem.W.isClsIn K C = true) (h3 : PySem.W.typeIn K (.ref C) = some (.type "type")) (d : PyData) : PySem.W.kitOne K (.type (tyD d)) (.ref C) = some false := by
  have hs : ∀ T : String, (∃ l : List Value, fastBuiltinMro T = some l ∧ l.contains (.ref C) = false) → PySem.W.kitOne K (.type T) (.ref C) = some false := fun T ⟨l, e, hl⟩ => by
    unfold PySem.W.kitOne
    rw [if_neg (by simp)]
    have h2' : (PySem.W.clsIn K C).isSome = true := h2
    show (if ((PySem.W.clsIn K C).isSome && PySem.W.typeIn K (.ref C) == some (.type "type")) = true then PySem.W.subIn K (.type T) (.ref C) else none) = some false
    rw [if_pos (by rw [h2', h3] <;> rfl)]
    show (fastBuiltinMro T).map (·.contains (.ref C)) = some false
    rw [e]
    show some (l.contains (.ref C)) = some false
    rw [hl]
  cases d with
  | none => exact hs "NoneType" ⟨[.type "NoneType", .type "object"], by decide +kernel, by simp⟩
  | bool _ => exact hs "bool" ⟨[.type "bool", .type "int", .type "object"], by decide +kernel, by simp⟩
  | int _ => exact hs "int" ⟨[.type "int", .type "object"], by decide +kernel, by simp⟩
  | str _ => exact hs "str" ⟨[.type "str", .type "object"], by decide +kernel, by simp⟩
  | list _ => exact hs "list" ⟨[.type "list", .type "object"], by decide +kernel, by simp⟩
  | tuple _ => exact hs "tuple" ⟨[.type "tuple", .type "object"], by decide +kernel, by simp⟩
  | dict _ => exact hs "dict" ⟨[.type "dict", .type "object"], by decide +kernel, by simp⟩
theorem kit_same {K : PySem.W.Frag} {C : Addr} : PySem.W.kitOne K (.ref C) (.ref C) = some true := by
  unfold PySem.W.kitOne
  rw [if_pos (by simp)]
theorem notFirst_data {K : PySem.W.Frag} {C : Addr} (d : PyData) : PySem.W.notFirst K C (.type (tyD d)) = true := by
  have hs : ∀ T : String, (∃ l : List Value, fastBuiltinMro T = some l ∧ l.contains (.ref C) = false) → PySem.W.notFirst K C (.type T) = true := fun T ⟨l, e, hl⟩ => by
    unfold PySem.W.notFirst
    have : PySem.W.subIn K (.type T) (.ref C) = some false := by
      show (fastBuiltinMro T).map (·.contains (.ref C)) = some false
      rw [e]
      show some (l.contains (.ref C)) = some false
      rw [hl]
    rw [this]
    simp
  cases d with
  | none => exact hs "NoneType" ⟨[.type "NoneType", .type "object"], by decide +kernel, by simp⟩
  | bool _ => exact hs "bool" ⟨[.type "bool", .type "int", .type "object"], by decide +kernel, by simp⟩
  | int _ => exact hs "int" ⟨[.type "int", .type "object"], by decide +kernel, by simp⟩
  | str _ => exact hs "str" ⟨[.type "str", .type "object"], by decide +kernel, by simp⟩
  | list _ => exact hs "list" ⟨[.type "list", .type "object"], by decide +kernel, by simp⟩
  | tuple _ => exact hs "tuple" ⟨[.type "tuple", .type "object"], by decide +kernel, by simp⟩
  | dict _ => exact hs "dict" ⟨[.type "dict", .type "object"], by decide +kernel, by simp⟩
/-! ### the weight of data -/
theorem weight_len : ∀ ds : List PyData, ds.length ≤ PyData.weightAll ds
  | [] => Nat.zero_le _
  | d :: ds => by unfold PyData.weightAll; have := weight_len ds; rw [List.length_cons]; omega
theorem weight_mem : ∀ {ds : List PyData} {d : PyData}, d ∈ ds → d.weight ≤ PyData.weightAll ds
  | e :: ds, d, h => by
    unfold PyData.weightAll
    rcases List.mem_cons.mp h with z | z
    · rw [z]; omega
    · have := weight_mem z; omega
theorem weight_its {d : PyData} : (itsD d).length ≤ d.weight ∧ ∀ e ∈ itsD d, e.weight ≤ d.weight := by
  cases d with
  | list ds =>
    have e0 : (PyData.list ds).weight = PyData.weightAll ds := by rw [PyData.weight]
    rw [e0]
    exact ⟨weight_len ds, fun e he => weight_mem he⟩
  | tuple ds =>
    have e0 : (PyData.tuple ds).weight = PyData.weightAll ds := by rw [PyData.weight]
    rw [e0]
    exact ⟨weight_len ds, fun e he => weight_mem he⟩
  | _ => exact ⟨Nat.zero_le _, fun e he => by cases he⟩
theorem sq_its {d : PyData} (h : isSqD d = true) : d = .list (itsD d) ∨ d = .tuple (itsD d) := by
  cases d with
  | list ds => exact .inl rfl
  | tuple ds => exact .inr rfl
  | _ => cases h
theorem all_map {α : Type} {f : α → PyData} {p : PyData → Bool} {G : α → Prop} (h : ∀ d, p d = true → ∃ e, d = f e ∧ G e) : ∀ ds : List PyData, ds.all p = true → ∃ es : List α, ds = es.map f ∧ ∀ e ∈ es, G e
  | [], _ => ⟨[], rfl, fun e he => by cases he⟩
  | d :: ds, ha => by
    rw [List.all_cons, Bool.and_eq_true] at ha
    obtain ⟨e, rfl, g⟩ := h d ha.1
    obtain ⟨es, rfl, gs⟩ := all_map h ds ha.2
    exact ⟨e :: es, rfl, fun e' he => by
      rcases List.mem_cons.mp he with z | z
      · rw [z]; exact g
      · exact gs e' z⟩
/-! ### plain data: == is being the same -/
mutual
def plD : PyData → Bool
  | .none => true
  | .int _ => true
  | .str _ => true
  | .list ds => plAll ds
  | .tuple ds => plAll ds
  | .bool _ => false
  | .dict _ => false
def plAll : List PyData → Bool
  | [] => true
  | d :: ds => plD d && plAll ds
end
mutual
theorem eqv_pl : ∀ (x y : PyData), plD x = true → plD y = true → (PyData.eqv x y = true ↔ x = y)
  | .none, y, _, hy => by cases y <;> simp [PyData.eqv]
  | .int i, y, _, hy => by
    cases y with
    | bool b => simp [plD] at hy
    | _ => simp [PyData.eqv]
  | .str i, y, _, hy => by cases y <;> simp [PyData.eqv]
  | .list ds, y, hx, hy => by
    cases y with
    | list es =>
      have h1 : plAll ds = true := by simpa [plD] using hx
      have h2 : plAll es = true := by simpa [plD] using hy
      have := eqv_plAll ds es h1 h2
      unfold PyData.eqv
      rw [this]
      exact ⟨fun e => by rw [e], fun e => by injection e⟩
    | _ => simp [PyData.eqv]
  | .tuple ds, y, hx, hy => by
    cases y with
    | tuple es =>
      have h1 : plAll ds = true := by simpa [plD] using hx
      have h2 : plAll es = true := by simpa [plD] using hy
      have := eqv_plAll ds es h1 h2
      unfold PyData.eqv
      rw [this]
      exact ⟨fun e => by rw [e], fun e => by injection e⟩
    | _ => simp [PyData.eqv]
  | .bool _, _, hx, _ => by simp [plD] at hx
  | .dict _, _, hx, _ => by simp [plD] at hx
theorem eqv_plAll : ∀ (xs ys : List PyData), plAll xs = true → plAll ys = true → (PyData.eqvAll xs ys = true ↔ xs = ys)
  | [], [], _, _ => by simp [PyData.eqvAll]
  | [], y :: ys, _, _ => by simp [PyData.eqvAll]
  | x :: xs, [], _, _ => by simp [PyData.eqvAll]
  | x :: xs, y :: ys, hx, hy => by
    have h1 : plD x = true ∧ plAll xs = true := by simpa [plAll] using hx
    have h2 : plD y = true ∧ plAll ys = true := by simpa [plAll] using hy
    have i1 := eqv_pl x y h1.1 h2.1
    have i2 := eqv_plAll xs ys h1.2 h2.2
    unfold PyData.eqvAll
    rw [Bool.and_eq_true, i1, i2]
    exact ⟨fun ⟨a, b⟩ => by rw [a, b], fun e => by injection e with a b; exact ⟨a, b⟩⟩
end
theorem plAll_map {α : Type} {f : α → PyData} (h : ∀ a, plD (f a) = true) : ∀ l : List α, plAll (l.map f) = true
  | [] => by simp [plAll]
  | a :: l => by rw [List.map_cons]; unfold plAll; rw [h a, plAll_map h l]; rfl
theorem map_inj {α β : Type} {f : α → β} (h : ∀ a b, f a = f b → a = b) : ∀ {l l' : List α}, l.map f = l'.map f → l = l'
  | [], [], _ => rfl
  | [], _ :: _, e => by cases e
  | _ :: _, [], e => by cases e
  | a :: l, b :: l', e => by
    rw [List.map_cons, List.map_cons] at e
    injection e with e1 e2
    rw [h a b e1, map_inj h e2]
/-! ### decoders -/
abbrev Ent := Option (Nat × List Nat)
structure Dcd where
  sg : Nat
  st : List (List Ent)
  en : List (Option (List Nat))
deriving DecidableEq
def enD : Ent → PyData | none => .none | some (g, w) => .tuple [.int (g : Nat), .str (S w)]
def wdD : Option (List Nat) → PyData | none => .none | some w => .str (S w)
def okW (w : List Nat) : Prop := Low w ∧ w.length ≤ 3
def okE (n : Nat) (e : Ent) : Prop := ∀ g w, e = some (g, w) → g < n ∧ okW w
structure Dcd.ok (D : Dcd) : Prop where
  s1 : 1 ≤ D.sg
  s5 : D.sg ≤ 5
  n1 : 1 ≤ D.st.length
  n40 : D.st.length ≤ 40
  rows : ∀ r ∈ D.st, r.length = D.sg ∧ ∀ e ∈ r, okE D.st.length e
  ends : D.en.length = D.st.length
  words : ∀ e ∈ D.en, ∀ w, e = some w → okW w
def Dcd.stD (D : Dcd) : PyData := .tuple (D.st.map fun r => .tuple (r.map enD))
def Dcd.enD (D : Dcd) : PyData := .tuple (D.en.map wdD)
theorem enD_inj : ∀ a b : Ent, enD a = enD b → a = b
  | none, none, _ => rfl
  | none, some (g, w), e => by cases e
  | some (g, w), none, e => by cases e
  | some (g, w), some (g', w'), e => by
    unfold My.enD at e
    injection e with e
    injection e with e1 e2
    injection e1 with e1
    injection e2 with e2 _
    injection e2 with e2
    have : g = g' := by omega
    rw [this, S_inj e2]
theorem wdD_inj : ∀ a b : Option (List Nat), wdD a = wdD b → a = b
  | none, none, _ => rfl
  | none, some w, e => by cases e
  | some w, none, e => by cases e
  | some w, some w', e => by
    unfold wdD at e
    injection e with e
    rw [S_inj e]
theorem stD_inj {D D' : Dcd} (h : D.stD = D'.stD) : D.st = D'.st := by
  unfold Dcd.stD at h
  injection h with h
  exact map_inj (fun a b e => map_inj enD_inj (by injection e)) h
theorem dEn_inj {D D' : Dcd} (h : D.enD = D'.enD) : D.en = D'.en := by
  unfold Dcd.enD at h
  injection h with h
  exact map_inj wdD_inj h
theorem plD_enD (e : Ent) : plD (enD e) = true := by
  cases e with
  | none => rfl
  | some p => obtain ⟨g, w⟩ := p; rfl
theorem plD_wdD (e : Option (List Nat)) : plD (wdD e) = true := by cases e <;> rfl
theorem plD_stD (D : Dcd) : plD D.stD = true := by
  unfold Dcd.stD plD
  exact plAll_map (fun r => by unfold plD; exact plAll_map plD_enD r) _
theorem plD_dEn (D : Dcd) : plD D.enD = true := by
  unfold Dcd.enD plD
  exact plAll_map plD_wdD _
theorem isBe_int {n : Int} {d : PyData} (h : isBe n d = true) : ∃ i : Int, d = .int i ∧ 0 ≤ i ∧ i < n := by
  cases d with
  | int i =>
    have h' : (decide (0 ≤ i) && decide (i < n)) = true := h
    simp only [Bool.and_eq_true, decide_eq_true_eq] at h'
    exact ⟨i, rfl, h'.1, h'.2⟩
  | _ => cases h
theorem isWd_str {d : PyData} (h : isWd d = true) : ∃ w, d = .str (S w) ∧ okW w := by
  cases d with
  | str z =>
    have h' : (isT z && decide ((z.length : Int) ≤ 3)) = true := h
    simp only [Bool.and_eq_true, decide_eq_true_eq] at h'
    refine ⟨cs z, by rw [S_of], ?_, ?_⟩
    · intro c hc
      have := h'.1
      unfold isT at this
      exact List.all_eq_true.mp this c hc
    · have : z.length = (cs z).length := by rw [← S_len, S_of]
      omega
  | _ => cases h
theorem isWd_of {w : List Nat} (h : okW w) : isWd (.str (S w)) = true := by
  show (isT (S w) && decide (((S w).length : Int) ≤ 3)) = true
  rw [h.1.isT, S_len, decide_eq_true (by have := h.2; omega)]; rfl
theorem isEn_ent {n : Nat} {d : PyData} (h : isEn n d = true) : ∃ e : Ent, d = enD e ∧ okE n e := by
  unfold isEn at h
  rw [Bool.or_eq_true] at h
  rcases h with h | h
  · cases d with
    | none => exact ⟨none, rfl, fun g w e => by cases e⟩
    | _ => cases h
  · cases d with
    | tuple ds =>
      match ds, h with
      | [], h => cases h
      | [a], h => cases h
      | [a, b], h =>
        have h' : (isBe n a && isWd b) = true := h
        rw [Bool.and_eq_true] at h'
        obtain ⟨i, rfl, i0, i1⟩ := isBe_int h'.1
        obtain ⟨w, rfl, ow⟩ := isWd_str h'.2
        obtain ⟨k, rfl⟩ : ∃ k : Nat, i = k := ⟨i.toNat, by omega⟩
        exact ⟨some (k, w), rfl, fun g w' e => by injection e with e; injection e with e1 e2; subst e1 e2; exact ⟨by omega, ow⟩⟩
      | a :: b :: c :: r, h => cases h
    | _ => cases h
theorem isEn_of {n : Nat} {e : Ent} (h : okE n e) : isEn n (enD e) = true := by
  cases e with
  | none => rfl
  | some p =>
    obtain ⟨g, w⟩ := p
    obtain ⟨h1, h2⟩ := h g w rfl
    show (isNn _ || (isBe n (.int (g : Nat)) && isWd (.str (S w)))) = true
    rw [isWd_of h2]
    show (false || ((decide ((0 : Int) ≤ (g : Nat)) && decide (((g : Nat) : Int) < n)) && true)) = true
    rw [decide_eq_true (by omega), decide_eq_true (by omega)]; rfl
theorem endB_wd {d : PyData} (h : endB d = true) : ∃ e : Option (List Nat), d = wdD e ∧ ∀ w, e = some w → okW w := by
  unfold endB at h
  rw [Bool.or_eq_true] at h
  rcases h with h | h
  · cases d with
    | none => exact ⟨none, rfl, fun w e => by cases e⟩
    | _ => cases h
  · obtain ⟨w, rfl, o⟩ := isWd_str h
    exact ⟨some w, rfl, fun w' e => by injection e with e; rw [← e]; exact o⟩
theorem endB_of {e : Option (List Nat)} (h : ∀ w, e = some w → okW w) : endB (wdD e) = true := by
  cases e with
  | none => rfl
  | some w =>
    show (isNn _ || isWd (.str (S w))) = true
    rw [isWd_of (h w rfl)]; rfl
/-- data that are a decoder's parts -/
structure GoodD (D : Dcd) (d1 d2 d3 : PyData) : Prop where
  ok : D.ok
  e1 : d1 = .int (D.sg : Nat)
  s2 : isSqD d2 = true
  r2 : ∀ r ∈ itsD d2, isSqD r = true
  e2 : (itsD d2).map itsD = D.st.map (fun r => r.map enD)
  s3 : isSqD d3 = true
  e3 : itsD d3 = D.en.map wdD
theorem rows_of {m n : Nat} : ∀ rows : List PyData, rows.all (entB m n) = true → ∃ st : List (List Ent), rows.map itsD = st.map (fun r => r.map enD) ∧ (∀ r ∈ rows, isSqD r = true) ∧ ∀ r ∈ st, r.length = m ∧ ∀ e ∈ r, okE n e
  | [], _ => ⟨[], rfl, (fun r h => by cases h), (fun r h => by cases h)⟩
  | d :: rows, h => by
    rw [List.all_cons, Bool.and_eq_true] at h
    obtain ⟨st, e, h1, h2⟩ := rows_of rows h.2
    have hd := h.1
    unfold entB at hd
    rw [Bool.and_eq_true, Bool.and_eq_true, decide_eq_true_eq] at hd
    obtain ⟨es, ee, ge⟩ := all_map (f := enD) (G := okE n) (fun d h => isEn_ent h) _ hd.2.2
    refine ⟨es :: st, by rw [List.map_cons, List.map_cons, e, ee], fun r hr => ?_, fun r hr => ?_⟩
    · rcases List.mem_cons.mp hr with z | z
      · rw [z]; exact hd.1
      · exact h1 r z
    · rcases List.mem_cons.mp hr with z | z
      · rw [z]
        refine ⟨?_, ge⟩
        have := hd.2.1
        rw [ee, List.length_map] at this
        omega
      · exact h2 r z
theorem good_of {d1 d2 d3 : PyData} (h1 : isSg d1 = true) (h2 : stepsB (numD d1) d2 = true) (h3 : endsB ((itsD d2).length : Int) d3 = true) : ∃ D, GoodD D d1 d2 d3 := by
  cases d1 with
  | int i =>
    have h1' : (decide (1 ≤ i) && decide (i ≤ 5)) = true := h1
    simp only [Bool.and_eq_true, decide_eq_true_eq] at h1'
    obtain ⟨k, rfl⟩ : ∃ k : Nat, i = k := ⟨i.toNat, by omega⟩
    unfold stepsB at h2
    rw [Bool.and_eq_true, Bool.and_eq_true, Bool.and_eq_true, decide_eq_true_eq, decide_eq_true_eq] at h2
    obtain ⟨st, es, hq, hr⟩ := rows_of (m := k) (n := (itsD d2).length) (itsD d2) h2.2.2
    unfold endsB at h3
    rw [Bool.and_eq_true, Bool.and_eq_true, decide_eq_true_eq] at h3
    obtain ⟨en, ee, ge⟩ := all_map (f := wdD) (G := fun e => ∀ w, e = some w → okW w) (fun d h => endB_wd h) _ h3.2.2
    have ls : st.length = (itsD d2).length := by have := congrArg List.length es; rw [List.length_map, List.length_map] at this; exact this.symm
    have le : en.length = (itsD d3).length := by rw [ee, List.length_map]
    refine ⟨⟨k, st, en⟩, ⟨by show 1 ≤ k; omega, by show k ≤ 5; omega, by show 1 ≤ st.length; omega, by show st.length ≤ 40; omega, fun r hr' => ?_, by show en.length = st.length; omega, ge⟩, rfl, h2.1, hq, es, h3.1, ee⟩
    show r.length = k ∧ ∀ e ∈ r, okE st.length e
    rw [ls]; exact hr r hr'
  | _ => cases h1
theorem GoodD.sg {D : Dcd} {d1 d2 d3 : PyData} (g : GoodD D d1 d2 d3) : isSg d1 = true := by
  rw [g.e1]
  show (decide (1 ≤ ((D.sg : Nat) : Int)) && decide (((D.sg : Nat) : Int) ≤ 5)) = true
  have h1 := g.ok.s1
  have h5 := g.ok.s5
  rw [decide_eq_true (by omega), decide_eq_true (by omega)]; rfl
theorem GoodD.len2 {D : Dcd} {d1 d2 d3 : PyData} (g : GoodD D d1 d2 d3) : (itsD d2).length = D.st.length := by
  have := congrArg List.length g.e2
  rwa [List.length_map, List.length_map] at this
theorem rows_all {m n : Nat} : ∀ (rows : List PyData) (st : List (List Ent)), rows.map itsD = st.map (fun r => r.map enD) → (∀ r ∈ rows, isSqD r = true) → (∀ r ∈ st, r.length = m ∧ ∀ e ∈ r, okE n e) → rows.all (entB m n) = true
  | [], _, _, _, _ => rfl
  | d :: rows, [], e, _, _ => by cases e
  | d :: rows, r :: st, e, hq, hr => by
    rw [List.map_cons, List.map_cons] at e
    injection e with e1 e2
    rw [List.all_cons, rows_all rows st e2 (fun r' h => hq r' (List.mem_cons_of_mem _ h)) (fun r' h => hr r' (List.mem_cons_of_mem _ h)), Bool.and_true]
    obtain ⟨l, o⟩ := hr r List.mem_cons_self
    unfold entB
    rw [hq d List.mem_cons_self, e1, List.length_map, decide_eq_true (by omega), Bool.true_and, Bool.true_and, List.all_eq_true]
    intro x hx
    obtain ⟨en, hen, rfl⟩ := List.mem_map.mp hx
    exact isEn_of (o en hen)
theorem GoodD.steps {D : Dcd} {d1 d2 d3 : PyData} (g : GoodD D d1 d2 d3) : stepsB (D.sg : Nat) d2 = true := by
  unfold stepsB
  have n1 := g.ok.n1
  have n40 := g.ok.n40
  rw [g.s2, g.len2, rows_all _ _ g.e2 g.r2 g.ok.rows, decide_eq_true (by omega), decide_eq_true (by omega)]; rfl
theorem GoodD.ends {D : Dcd} {d1 d2 d3 : PyData} (g : GoodD D d1 d2 d3) : endsB ((itsD d2).length : Int) d3 = true := by
  unfold endsB
  rw [g.s3, g.e3, g.len2, List.length_map, g.ok.ends, decide_eq_true rfl, Bool.true_and, Bool.true_and, List.all_eq_true]
  intro x hx
  obtain ⟨en, hen, rfl⟩ := List.mem_map.mp hx
  exact endB_of fun w e => g.ok.words en hen w e
theorem GoodD.tup {D : Dcd} {d1 d2 d3 : PyData} (g : GoodD D d1 d2 d3) : PyData.tuple ((itsD d2).map fun r => .tuple (itsD r)) = D.stD := by
  unfold Dcd.stD
  have := congrArg (List.map PyData.tuple) g.e2
  rw [List.map_map, List.map_map] at this
  exact congrArg PyData.tuple this
theorem GoodD.tupE {D : Dcd} {d1 d2 d3 : PyData} (g : GoodD D d1 d2 d3) : PyData.tuple (itsD d3) = D.enD := by
  unfold Dcd.enD
  rw [g.e3]
/-- the parts of a decoder, as tuples -/
theorem Dcd.good {D : Dcd} (h : D.ok) : GoodD D (.int (D.sg : Nat)) D.stD D.enD :=
  ⟨h, rfl, rfl, fun r hr => by
    obtain ⟨x, _, rfl⟩ := List.mem_map.mp hr
    rfl, by show (D.st.map fun r => PyData.tuple (r.map My.enD)).map itsD = _; rw [List.map_map]; rfl, rfl, rfl⟩
/-! ### how large it is -/
theorem okW.fit {w : List Nat} (h : okW w) : Fit (.str (S w)) 1 4 := Fit.str (Nat.le_trans h.2 (by omega)) (fun c hc => h.1.lt c hc)
theorem fit_enD {n : Nat} {e : Ent} (h : okE n e) (hn : n ≤ 40) : Fit (enD e) 2 40 := by
  cases e with
  | none => exact Fit.none.mono (Nat.le_refl _) (Nat.zero_le _)
  | some p =>
    obtain ⟨g, w⟩ := p
    obtain ⟨h1, h2⟩ := h g w rfl
    exact (Fit.tuple (FitAll.cons (Fit.nat (by omega)) (FitAll.cons h2.fit FitAll.nil))).mono (Nat.le_refl _) (by omega)
theorem fit_stD {D : Dcd} (h : D.ok) : Fit D.stD 4 9000 := by
  have n40 := h.n40
  have s5 := h.s5
  refine (Fit.tuple (k := 3) (FitAll.all (w := 210) fun d hd => ?_)).mono (Nat.le_refl _) (by rw [List.length_map]; omega)
  obtain ⟨r, hr, rfl⟩ := List.mem_map.mp hd
  obtain ⟨l, o⟩ := h.rows r hr
  refine (Fit.tuple (k := 2) (FitAll.all (w := 40) fun x hx => ?_)).mono (Nat.le_refl _) (by rw [List.length_map]; omega)
  obtain ⟨e, he, rfl⟩ := List.mem_map.mp hx
  exact fit_enD (o e he) n40
theorem fit_wdD {e : Option (List Nat)} (h : ∀ w, e = some w → okW w) : Fit (wdD e) 1 4 := by
  cases e with
  | none => exact Fit.none.mono (Nat.le_refl _) (Nat.zero_le _)
  | some w => exact (h w rfl).fit
theorem fit_dEn {D : Dcd} (h : D.ok) : Fit D.enD 2 300 := by
  have n40 := h.n40
  have le := h.ends
  refine (Fit.tuple (k := 1) (FitAll.all (w := 4) fun d hd => ?_)).mono (Nat.le_refl _) (by rw [List.length_map]; omega)
  obtain ⟨e, he, rfl⟩ := List.mem_map.mp hd
  exact fit_wdD fun w q => h.words e he w q
/-! ### what it writes -/
def Dcd.at (D : Dcd) (s a : Nat) : Ent := ((D.st.getD s []).getD a none)
def Dcd.go (D : Dcd) : Nat → List Nat → Option (Nat × List Nat)
  | s, [] => some (s, [])
  | s, a :: l => match D.at s a with
    | none => none
    | some (g, w) => (D.go g l).map fun (p : Nat × List Nat) => (p.1, w ++ p.2)
def Dcd.wr (D : Dcd) (l : List Nat) : Option (List Nat) := match D.go 0 l with
  | none => none
  | some (s, u) => (D.en.getD s none).map fun w => u ++ w
theorem Dcd.go_snoc (D : Dcd) : ∀ (l : List Nat) (s a : Nat), D.go s (l ++ [a]) = match D.go s l with
    | none => none
    | some (t, u) => (D.at t a).map fun (p : Nat × List Nat) => (p.1, u ++ p.2)
  | [], s, a => by
    show (match D.at s a with | none => none | some (g, w) => (D.go g []).map fun (p : Nat × List Nat) => (p.1, w ++ p.2)) = _
    cases h : D.at s a with
    | none => show _ = (D.at s a).map _; rw [h]; rfl
    | some p =>
      obtain ⟨g, w⟩ := p
      show _ = (D.at s a).map _
      rw [h]
      show some (g, w ++ []) = some (g, [] ++ w)
      simp
  | b :: l, s, a => by
    show (match D.at s b with | none => none | some (g, w) => (D.go g (l ++ [a])).map fun (p : Nat × List Nat) => (p.1, w ++ p.2)) = match (match D.at s b with | none => none | some (g, w) => (D.go g l).map fun (p : Nat × List Nat) => (p.1, w ++ p.2)) with | none => none | some (t, u) => (D.at t a).map fun (p : Nat × List Nat) => (p.1, u ++ p.2)
    cases h : D.at s b with
    | none => rfl
    | some p =>
      obtain ⟨g, w⟩ := p
      show (D.go g (l ++ [a])).map _ = match (D.go g l).map (fun (p : Nat × List Nat) => (p.1, w ++ p.2)) with | none => none | some (t, u) => (D.at t a).map fun (p : Nat × List Nat) => (p.1, u ++ p.2)
      rw [D.go_snoc l g a]
      cases D.go g l with
      | none => rfl
      | some q =>
        obtain ⟨t, u⟩ := q
        show Option.map _ (Option.map _ (D.at t a)) = Option.map _ (D.at t a)
        rw [Option.map_map]
        cases D.at t a with
        | none => rfl
        | some r => obtain ⟨x, y⟩ := r; show some (x, w ++ (u ++ y)) = some (x, w ++ u ++ y); rw [List.append_assoc]
theorem Dcd.ok.at {D : Dcd} (h : D.ok) {s a : Nat} : okE D.st.length (D.at s a) := by
  intro g w e
  unfold Dcd.at at e
  by_cases hs : s < D.st.length
  · rw [List.getD_eq_getElem?_getD, List.getD_eq_getElem?_getD, List.getElem?_eq_getElem hs] at e
    show g < _ ∧ _
    have hr := h.rows D.st[s] (List.getElem_mem hs)
    by_cases ha : a < D.st[s].length
    · have e' : (D.st[s])[a]?.getD none = some (g, w) := e
      rw [List.getElem?_eq_getElem ha] at e'
      exact hr.2 _ (List.getElem_mem ha) g w e'
    · have e' : (D.st[s])[a]?.getD none = some (g, w) := e
      rw [List.getElem?_eq_none (Nat.le_of_not_lt ha)] at e'
      cases e'
  · have e0 : D.st.getD s [] = [] := by rw [List.getD_eq_getElem?_getD, List.getElem?_eq_none (by omega)]; rfl
    rw [e0] at e
    simp at e
theorem Dcd.ok.go {D : Dcd} (h : D.ok) : ∀ (l : List Nat) (s t : Nat) (u : List Nat), s < D.st.length → D.go s l = some (t, u) → t < D.st.length ∧ Low u ∧ u.length ≤ 3 * l.length
  | [], s, t, u, hs, e => by
    have e' : some (s, ([] : List Nat)) = some (t, u) := e
    injection e' with e'
    injection e' with e1 e2
    subst e1 e2
    exact ⟨hs, Low.nil, Nat.zero_le _⟩
  | a :: l, s, t, u, hs, e => by
    have e' : (match D.at s a with | none => none | some (g, w) => (D.go g l).map fun (p : Nat × List Nat) => (p.1, w ++ p.2)) = some (t, u) := e
    have oa : okE D.st.length (D.at s a) := h.at
    cases q : D.at s a with
    | none => rw [q] at e'; cases e'
    | some p =>
      obtain ⟨g, w⟩ := p
      rw [q] at e'
      obtain ⟨g1, g2⟩ := oa g w q
      have e2 : (D.go g l).map (fun (p : Nat × List Nat) => (p.1, w ++ p.2)) = some (t, u) := e'
      cases r : D.go g l with
      | none => rw [r] at e2; cases e2
      | some p =>
        obtain ⟨t', u'⟩ := p
        rw [r] at e2
        have e3 : some (t', w ++ u') = some (t, u) := e2
        injection e3 with e3
        injection e3 with a1 a2
        subst a1 a2
        obtain ⟨b1, b2, b3⟩ := h.go l g t' u' g1 r
        exact ⟨b1, g2.1.append b2, by rw [List.length_append, List.length_cons]; have := g2.2; omega⟩
theorem Dcd.ok.end_ {D : Dcd} (h : D.ok) {s : Nat} {w : List Nat} (e : D.en.getD s none = some w) : okW w := by
  by_cases hs : s < D.en.length
  · rw [List.getD_eq_getElem?_getD, List.getElem?_eq_getElem hs] at e
    exact h.words _ (List.getElem_mem hs) w e
  · rw [List.getD_eq_getElem?_getD, List.getElem?_eq_none (by omega)] at e
    cases e
theorem Dcd.ok.wr {D : Dcd} (h : D.ok) {l : List Nat} {u : List Nat} (e : D.wr l = some u) : Low u ∧ u.length ≤ 3 * l.length + 3 := by
  unfold Dcd.wr at e
  cases q : D.go 0 l with
  | none => rw [q] at e; cases e
  | some p =>
    obtain ⟨s, v⟩ := p
    rw [q] at e
    obtain ⟨_, lv, nv⟩ := h.go l 0 s v h.n1 q
    have e' : (D.en.getD s none).map (fun w => v ++ w) = some u := e
    cases r : D.en.getD s none with
    | none => rw [r] at e'; cases e'
    | some w =>
      rw [r] at e'
      have e2 : some (v ++ w) = some u := e'
      injection e2 with e2
      have ow := h.end_ r
      rw [← e2]
      exact ⟨lv.append ow.1, by rw [List.length_append]; have := ow.2; omega⟩
/-! ### a decoder in the heap -/
def dfs (m n : Int) (Sa Ea : Addr) : List (Str × V) := putF "ends" (.ref Ea) (putF "steps" (.ref Sa) (putF "states" (.int n) (putF "signs" (.int m) [])))
theorem dfs_signs {m n : Int} {Sa Ea : Addr} : (dfs m n Sa Ea).lookup ("signs" : Str) = some (V.int m) := by
  unfold dfs
  rw [lookup_putF, if_neg (by decide +kernel), lookup_putF, if_neg (by decide +kernel), lookup_putF, if_neg (by decide +kernel), lookup_putF, if_pos rfl]
theorem dfs_states {m n : Int} {Sa Ea : Addr} : (dfs m n Sa Ea).lookup ("states" : Str) = some (V.int n) := by
  unfold dfs
  rw [lookup_putF, if_neg (by decide +kernel), lookup_putF, if_neg (by decide +kernel), lookup_putF, if_pos rfl]
theorem dfs_steps {m n : Int} {Sa Ea : Addr} : (dfs m n Sa Ea).lookup ("steps" : Str) = some (V.ref Sa) := by
  unfold dfs
  rw [lookup_putF, if_neg (by decide +kernel), lookup_putF, if_pos rfl]
theorem dfs_ends {m n : Int} {Sa Ea : Addr} : (dfs m n Sa Ea).lookup ("ends" : Str) = some (V.ref Ea) := by
  unfold dfs
  rw [lookup_putF, if_pos rfl]
theorem dfs_no {m n : Int} {Sa Ea : Addr} {f : Str} (h1 : ¬ f = "ends") (h2 : ¬ f = "steps") (h3 : ¬ f = "states") (h4 : ¬ f = "signs") : (dfs m n Sa Ea).lookup f = none := by
  unfold dfs
  rw [lookup_putF, if_neg h1, lookup_putF, if_neg h2, lookup_putF, if_neg h3, lookup_putF, if_neg h4]
  all_goals rfl
structure DecAt (K : PySem.W.Frag) (C : Addr) (H : Hp) (p : Addr) (D : Dcd) : Prop where
  ob : ∃ dx Sa Ea, H p = some (.ins C dx (dfs (D.sg : Nat) (D.st.length : Nat) Sa Ea)) ∧ Dg K H false (.ref Sa) D.stD ∧ Dg K H false (.ref Ea) D.enD
  ok : D.ok
theorem DecAt.ext {K : PySem.W.Frag} {C : Addr} {H H' : Hp} {p : Addr} {D : Dcd} (h : DecAt K C H p D) (s : Same H H') : DecAt K C H' p D := by
  obtain ⟨⟨dx, Sa, Ea, e, h1, h2⟩, ok⟩ := h
  exact ⟨⟨dx, Sa, Ea, s _ _ e, h1.ext s, h2.ext s⟩, ok⟩
/-- beside b -/
def DecW (K : PySem.W.Frag) (C : Addr) (b : Addr) (H : Hp) (p : Addr) (D : Dcd) : Prop := DecAt K C (wo H b) p D
theorem DecW.kp {K : PySem.W.Frag} {C b : Addr} {H H' : Hp} {p : Addr} {D : Dcd} (h : DecW K C b H p D) (k : Kp b H H') : DecW K C b H' p D := DecAt.ext h k.wo
theorem DecW.at {K : PySem.W.Frag} {C b : Addr} {H : Hp} {p : Addr} {D : Dcd} (h : DecW K C b H p D) : DecAt K C H p D := DecAt.ext h (wo_same H b)
theorem DecAt.w {K : PySem.W.Frag} {C b : Addr} {H H' : Hp} {p : Addr} {D : Dcd} (h : DecAt K C H p D) (s : Same H (wo H' b)) : DecW K C b H' p D := DecAt.ext h s
end My

set_option Elab.async false
set_option linter.all false
set_option maxRecDepth 100000
set_option maxHeartbeats 4000000
/-! Comprehensions that make data: lists that grow beside p; rows as tuples. -/
namespace My
open PySem PySem.Spec PyProof.Rows L2
/-- the list at D, new since H1, holds the data ds; neither it nor p is part of them -/
def AcM (K : PySem.W.Frag) (m : Bool) (p : Addr) (H1 : Hp) (D : Addr) (ds : List PyData) (H : Hp) : Prop := Same H1 H ∧ ∃ acc, H D = some (.lst acc) ∧ DgAll K (wo (wo H p) D) m acc ds
section
variable {K : PySem.W.Frag} {m : Bool} {p D : Addr} {H1 H H2 : Hp} {ds : List PyData}
theorem AcM.start (hD : H1 D = none) : AcM K m p H1 D [] (L2.upd H1 D (.lst [])) := ⟨Same.new (Same.refl _) hD, [], upd_same, .nil⟩
theorem two_same (s : Same H H2) : Same (wo (wo H p) D) (wo (wo H2 p) D) := fun b o e => by
  have n : b ≠ D := fun z => by rw [z, wo_at] at e; cases e
  rw [wo_ne n] at e ⊢
  have n2 : b ≠ p := fun z => by rw [z, wo_at] at e; cases e
  rw [wo_ne n2] at e ⊢
  exact s b o e
theorem two_upd {o : HO} : wo (wo (L2.upd H D o) p) D = wo (wo H p) D := by
  funext b
  by_cases e : b = D
  · rw [e, wo_at, wo_at]
  · rw [wo_ne e, wo_ne e]
    by_cases e2 : b = p
    · rw [e2, wo_at, wo_at]
    · rw [wo_ne e2, wo_ne e2, upd_ne e]
theorem two_le : Same (wo (wo H p) D) (wo H p) := fun b o e => wo_le e
/-- one more -/
theorem AcM.snoc {y : V} {d : PyData} (h : AcM K m p H1 D ds H) (hD : H1 D = none) (l : ds.length ≤ 100000) (s : Same H H2) (dy : Dg K (wo (wo H2 p) D) m y d) :
    ∃ acc, H2 D = some (.lst acc) ∧ acc.length < sizeLine ∧ AcM K m p H1 D (ds ++ [d]) (L2.upd H2 D (.lst (acc ++ [y]))) := by
  obtain ⟨s1, acc, e, ha⟩ := h
  refine ⟨acc, s _ _ e, by rw [ha.len]; exact Nat.lt_of_le_of_lt l (by decide), fun b o q => ?_, acc ++ [y], upd_same, ?_⟩
  · rw [upd_ne (ne_of_none q hD)]; exact s _ _ (s1 _ _ q)
  · rw [two_upd]
    exact (ha.ext (two_same s)).append (.cons dy .nil)
theorem AcM.ne (h : AcM K m p H1 D ds H) : H D ≠ none := by
  obtain ⟨_, acc, e, _⟩ := h
  rw [e]; exact fun z => by cases z
/-- a new tuple of data -/
theorem two_tup {q : Addr} {xs : List V} {es : List PyData} (eD : H D ≠ none) (ep : H p ≠ none) (hq : H q = none) (h : DgAll K (wo (wo H p) D) m xs es) : Same H (L2.upd H q (.tup xs)) ∧ Dg K (wo (wo (L2.upd H q (.tup xs)) p) D) m (.ref q) (.tuple es) := by
  have n : q ≠ D := fun z => eD (by rw [← z]; exact hq)
  have n2 : q ≠ p := fun z => ep (by rw [← z]; exact hq)
  have s : Same H (L2.upd H q (.tup xs)) := Same.new (Same.refl _) hq
  exact ⟨s, .tup (SqT.of (by rw [wo_ne n, wo_ne n2]; exact upd_same)) (h.ext (two_same s))⟩
/-- what stood beside p when D was still free -/
theorem two_old {x : V} {d : PyData} (hD : H1 D = none) (s : Same H1 H) (h : Dg K (wo H1 p) m x d) : Dg K (wo (wo H p) D) m x d := h.ext fun b o e => by
  have n2 : b ≠ p := fun z => by rw [z, wo_at] at e; cases e
  have e' := e
  rw [wo_ne n2] at e'
  have n : b ≠ D := fun z => by rw [z, hD] at e'; cases e'
  rw [wo_ne n, wo_ne n2]
  exact s b o e'
theorem two_olds {x : List V} {d : List PyData} (hD : H1 D = none) (s : Same H1 H) (h : DgAll K (wo H1 p) m x d) : DgAll K (wo (wo H p) D) m x d := h.ext fun b o e => by
  have n2 : b ≠ p := fun z => by rw [z, wo_at] at e; cases e
  have e' := e
  rw [wo_ne n2] at e'
  have n : b ≠ D := fun z => by rw [z, hD] at e'; cases e'
  rw [wo_ne n, wo_ne n2]
  exact s b o e'
end
def tupD (r : PyData) : PyData := .tuple (itsD r)
theorem SqQ.le {K : PySem.W.Frag} {H H' : Hp} {a : Addr} {xs : List V} (h : SqQ K H a xs) (s : Same H H') : SqQ K H' a xs := h.same s
/-- tuple([tuple(row) for row in rows]) -/
theorem rows_tup {K : PySem.W.Frag} {H : Hp} {p a : Addr} {m : Bool} {ys : List V} {es : List PyData} {σ : L2.St} {te : TE} {i : Nat} {vs : List Nat} {Q : VK} {A : Type} {rT rT2 : List V → Hp → VK → Prop}
    (e1 : rT = fun xs H Q => ∃ p ys, xs = [.ref p] ∧ ((SqL K H p ys ∧ ∀ l, H l = none → Q (.ref l) (L2.upd H l (.tup ys))) ∨ (SqT K H p ys ∧ Q (.ref p) H)))
    (e2 : rT2 = fun xs H Q => ∃ p ys, xs = [.ref p] ∧ (SqL K H p ys ∧ (∀ l, H l = none → Q (.ref l) (L2.upd H l (.tup ys))) ∨ SqT K H p ys ∧ Q (.ref p) H))
    (hte : ∀ R : VK, R (.ref a) H → te σ H R) (hq : SqQ K H a ys) (hes : DgAll K (wo H p) m ys es) (hr : ∀ r ∈ es, isSqD r = true) (hl : es.length ≤ 1000) (np : H p ≠ none)
    (hw : ∀ x, wipe ((wipe σ vs).set i (some x)) vs = wipe σ vs) (hi : ∀ x, ((wipe σ vs).set i (some x))[i]? = some (some x))
    (q : ∀ r zs H', Same H H' → H' r = some (.tup zs) → r ≠ p → DgAll K (wo H' p) m zs (es.map tupD) → Q (.ref r) H') :
    tCB rT (tCons (tLc (iSq K te) (gName i) tYes (tCB rT2 (tCons (tVar i) tNil)) vs) tNil) σ H Q := by
  refine hte _ ⟨a, rfl, lc_sq hq fun D hD => ⟨fun j H' => AcM K m p H D ((es.take j).map tupD) H', AcM.start hD, fun j H' h => h.1, ?_, ?_⟩⟩
  · rintro j x H' hx hA
    obtain ⟨d, hd, dx⟩ := hes.at j x hx
    have hm : d ∈ es := List.mem_of_getElem? hd
    have s' := hA.1
    have dx' : Dg K (wo (wo H' p) D) m x d := two_old hD s' dx
    have eD := hA.ne
    have ep : H' p ≠ none := same_at s' np
    refine ⟨hw x, tYesT ⟨_, hi x, ?_⟩⟩
    have len : ((es.take j).map tupD).length ≤ 100000 := by rw [List.length_map]; exact Nat.le_trans (List.length_take_le' _ _) (by omega)
    have fin : ∀ y H2, Same H' H2 → Dg K (wo (wo H2 p) D) m y (tupD d) → ∃ acc, H2 D = some (.lst acc) ∧ acc.length < sizeLine ∧ AcM K m p H D ((es.take (j + 1)).map tupD) (L2.upd H2 D (.lst (acc ++ [y]))) := fun y H2 s2 dy => by
      have := hA.snoc hD len s2 dy
      rw [List.take_add_one, hd, List.map_append]
      exact this
    rw [e2]
    obtain ⟨r, zs, rfl, hz, hzs⟩ := dx'.lst_q (sq_its (hr d hm))
    rcases hz with hz | hz
    · refine ⟨r, zs, rfl, .inl ⟨hz.ext (fun b o e => wo_le (wo_le e)), fun q' hq' => ?_⟩⟩
      obtain ⟨s2, dy⟩ := two_tup eD ep hq' hzs
      exact fin _ _ s2 dy
    · exact ⟨r, zs, rfl, .inr ⟨hz.ext (fun b o e => wo_le (wo_le e)), fin _ _ (Same.refl _) (.tup hz hzs)⟩⟩
  · rintro H' ⟨s', acc, e, ha⟩
    rw [hes.len, List.take_length] at ha
    rw [e1]
    refine ⟨D, acc, rfl, .inl ⟨SqL.of e, fun l hl' => ?_⟩⟩
    have nl : l ≠ p := fun z => (same_at s' np) (by rw [← z]; exact hl')
    have s2 : Same H' (L2.upd H' l (.tup acc)) := Same.new (Same.refl _) hl'
    refine q l acc _ (s'.trans s2) upd_same nl ?_
    exact ha.ext (fun b o e => (Kp.of s2).wo b o (wo_le e))
/-! ### data without lists and dicts -/
mutual
def lfD : PyData → Bool
  | .none => true
  | .int _ => true
  | .str _ => true
  | .bool _ => true
  | .tuple ds => lfAll ds
  | .list _ => false
  | .dict _ => false
def lfAll : List PyData → Bool
  | [] => true
  | d :: ds => lfD d && lfAll ds
end
mutual
theorem dg_lf {K : PySem.W.Frag} {H : Hp} {m m' : Bool} : ∀ (d : PyData) (x : V), lfD d = true → Dg K H m x d → Dg K H m' x d
  | .none, _, _, h => by cases h; exact .non
  | .int _, _, _, h => by cases h; exact .int _
  | .str _, _, _, h => by cases h; exact .str _
  | .bool _, _, _, h => by cases h; exact .bl _
  | .tuple ds, _, e, h => by
    have e' : lfAll ds = true := by simpa [lfD] using e
    cases h with
    | tup hs ha => exact .tup hs (dg_lfAll ds _ e' ha)
  | .list _, _, e, _ => by simp [lfD] at e
  | .dict _, _, e, _ => by simp [lfD] at e
theorem dg_lfAll {K : PySem.W.Frag} {H : Hp} {m m' : Bool} : ∀ (ds : List PyData) (xs : List V), lfAll ds = true → DgAll K H m xs ds → DgAll K H m' xs ds
  | [], _, _, h => by cases h; exact .nil
  | d :: ds, _, e, h => by
    have e' : lfD d = true ∧ lfAll ds = true := by simpa [lfAll] using e
    cases h with
    | cons h1 h2 => exact .cons (dg_lf d _ e'.1 h1) (dg_lfAll ds _ e'.2 h2)
end
theorem lfAll_map {α : Type} {f : α → PyData} (h : ∀ a, lfD (f a) = true) : ∀ l : List α, lfAll (l.map f) = true
  | [] => by simp [lfAll]
  | a :: l => by rw [List.map_cons]; unfold lfAll; rw [h a, lfAll_map h l]; rfl
theorem lf_enD (e : Ent) : lfD (enD e) = true := by
  cases e with
  | none => rfl
  | some p => obtain ⟨g, w⟩ := p; rfl
theorem lf_stD (D : Dcd) : lfD D.stD = true := by
  unfold Dcd.stD lfD
  exact lfAll_map (fun r => by unfold lfD; exact lfAll_map lf_enD r) _
theorem lf_dEn (D : Dcd) : lfD D.enD = true := by
  unfold Dcd.enD lfD
  exact lfAll_map (fun e => by cases e <;> rfl) _
mutual
theorem dg_dp {K : PySem.W.Frag} {H : Hp} : ∀ (d : PyData) (x : V), Dg K H false x d → Dp K H x d
  | .none, _, h => by cases h; exact .non
  | .int _, _, h => by cases h; exact .int _
  | .str _, _, h => by cases h; exact .str _
  | .bool _, _, h => by cases h; exact .bl _
  | .tuple ds, _, h => by
    cases h with
    | tup hs ha => exact .tup hs (dg_dpAll ds _ ha)
  | .list ds, _, h => by
    cases h with
    | lst hs _ ha => exact .lst hs (dg_dpAll ds _ ha)
  | .dict _, _, h => by
    cases h with
    | emp e => cases e
    | dct _ e => cases e
theorem dg_dpAll {K : PySem.W.Frag} {H : Hp} : ∀ (ds : List PyData) (xs : List V), DgAll K H false xs ds → DpAll K H xs ds
  | [], _, h => by cases h; exact .nil
  | d :: ds, _, h => by
    cases h with
    | cons h1 h2 => exact .cons (dg_dp d _ h1) (dg_dpAll ds _ h2)
end
end My
namespace My
open PySem PySem.Spec PyProof.Rows L2
theorem strOk_of {w : List Nat} (h : ∀ c ∈ w, c < 200) : PyData.strOk (S w) = true := by
  show (S w).cps.all (· < 0x110000) = true
  rw [← Array.all_toList, List.all_eq_true]
  intro c hc
  have hc' : c ∈ w := by rw [← S_tl w]; exact hc
  exact decide_eq_true (by have := h c hc'; omega)
theorem canAll {α : Type} {f : α → PyData} : ∀ (l : List α), (∀ a ∈ l, (f a).canLay0 = true) → PyData.canLayAll0 (l.map f) = true
  | [], _ => by simp [PyData.canLayAll0]
  | a :: l, h => by
    rw [List.map_cons]
    unfold PyData.canLayAll0
    rw [h a List.mem_cons_self, canAll l fun b hb => h b (List.mem_cons_of_mem _ hb)]; rfl
theorem shaped_of {d : PyData} (h1 : d.canLay0 = true) (h2 : d.depth ≤ 64) : SeqAt.shaped d = true := by
  unfold SeqAt.shaped
  rw [h1, decide_eq_true h2]; rfl
theorem shaped_stD {D : Dcd} (h : D.ok) : SeqAt.shaped D.stD = true := by
  refine shaped_of ?_ (Nat.le_trans (fit_stD h).d (by omega))
  unfold Dcd.stD PyData.canLay0
  refine canAll _ fun r hr => ?_
  unfold PyData.canLay0
  refine canAll _ fun e he => ?_
  have o := (h.rows r hr).2 e he
  cases e with
  | none => unfold enD PyData.canLay0; rfl
  | some p =>
    obtain ⟨g, w⟩ := p
    unfold enD PyData.canLay0 PyData.canLayAll0 PyData.canLayAll0 PyData.canLayAll0 PyData.canLay0
    rw [strOk_of fun c hc => (o g w rfl).2.1.lt c hc]; rfl
theorem shaped_dEn {D : Dcd} (h : D.ok) : SeqAt.shaped D.enD = true := by
  refine shaped_of ?_ (Nat.le_trans (fit_dEn h).d (by omega))
  unfold Dcd.enD PyData.canLay0
  refine canAll _ fun e he => ?_
  cases e with
  | none => unfold wdD PyData.canLay0; rfl
  | some w =>
    unfold wdD
    rw [show PyData.canLay0 (.str (S w)) = PyData.strOk (S w) by unfold PyData.canLay0; rfl, strOk_of fun c hc => (h.words _ he w rfl).1.lt c hc]
theorem dcd_eq {D D' : Dcd} : D = D' ↔ D.sg = D'.sg ∧ D.st = D'.st ∧ D.en = D'.en := by
  obtain ⟨a, b, c⟩ := D
  obtain ⟨a', b', c'⟩ := D'
  exact ⟨fun e => by injection e with e1 e2 e3; exact ⟨e1, e2, e3⟩, fun ⟨e1, e2, e3⟩ => by simp at e1 e2 e3; rw [e1, e2, e3]⟩
theorem eqv_stD {D D' : Dcd} : PyData.eqv D.stD D'.stD = decide (D.st = D'.st) := by
  rw [Bool.eq_iff_iff, eqv_pl _ _ (plD_stD D) (plD_stD D'), decide_eq_true_eq]
  exact ⟨stD_inj, fun e => by unfold Dcd.stD; rw [e]⟩
theorem eqv_dEn {D D' : Dcd} : PyData.eqv D.enD D'.enD = decide (D.en = D'.en) := by
  rw [Bool.eq_iff_iff, eqv_pl _ _ (plD_dEn D) (plD_dEn D'), decide_eq_true_eq]
  exact ⟨dEn_inj, fun e => by unfold Dcd.enD; rw [e]⟩
/-- a line of signs -/
abbrev lnD (l : List Nat) : PyData := .tuple (l.map fun (a : Nat) => PyData.int a)
theorem isLn_of {n : Nat} {l : List Nat} (h : ∀ a ∈ l, a < n) : isLn n (lnD l) = true := by
  show (l.map fun (a : Nat) => PyData.int a).all (isBe n) = true
  rw [List.all_eq_true]
  intro d hd
  obtain ⟨a, ha, rfl⟩ := List.mem_map.mp hd
  show (decide ((0 : Int) ≤ (a : Nat)) && decide (((a : Nat) : Int) < n)) = true
  rw [decide_eq_true (by omega), decide_eq_true (by have := h a ha; omega)]; rfl
theorem joinL_nil : ∀ ws : List (List Nat), TL.joinL [] ws = ws.flatten
  | [] => rfl
  | [w] => by simp [TL.joinL]
  | w :: v :: r => by
    show w ++ ([] ++ TL.joinL [] (v :: r)) = _
    rw [joinL_nil (v :: r)]; rfl
theorem join_words (ws : List (List Nat)) : Txt.join (Str.ofString "") (ws.map S) = S ws.flatten := by
  rw [TL.join_eq]
  have e : cs (Str.join (Str.ofString "") (ws.map S)) = ws.flatten := by
    rw [show cs (Str.join (Str.ofString "") (ws.map S)) = TL.tl (Str.join (Str.ofString "") (ws.map S)) from rfl, TL.tl_join, List.map_map]
    have : (ws.map (TL.tl ∘ S)) = ws := by
      rw [show (TL.tl ∘ S) = id from funext fun l => S_tl l]; simp
    rw [this]
    exact joinL_nil ws
  rw [← S_of (Str.join _ _), e]
theorem sum_words (ws : List (List Nat)) : ((ws.map S).map (·.length)).sum = ws.flatten.length := by
  induction ws with
  | nil => rfl
  | cons w r ih => rw [List.map_cons, List.map_cons, List.sum_cons, ih, List.flatten_cons, List.length_append, S_len]
end My
namespace My
open PySem PySem.Spec PyProof.Rows L2
theorem Dcd.go_app (D : Dcd) (l2 : List Nat) : ∀ (l1 : List Nat) (s : Nat), D.go s (l1 ++ l2) = match D.go s l1 with
    | none => none
    | some (t, u) => (D.go t l2).map fun (p : Nat × List Nat) => (p.1, u ++ p.2)
  | [], s => by
    show D.go s l2 = (D.go s l2).map fun (p : Nat × List Nat) => (p.1, [] ++ p.2)
    cases D.go s l2 with
    | none => rfl
    | some p => rfl
  | b :: l, s => by
    show (match D.at s b with | none => none | some (g, w) => (D.go g (l ++ l2)).map fun (p : Nat × List Nat) => (p.1, w ++ p.2)) = match (match D.at s b with | none => none | some (g, w) => (D.go g l).map fun (p : Nat × List Nat) => (p.1, w ++ p.2)) with | none => none | some (t, u) => (D.go t l2).map fun (p : Nat × List Nat) => (p.1, u ++ p.2)
    cases h : D.at s b with
    | none => rfl
    | some p =>
      obtain ⟨g, w⟩ := p
      show (D.go g (l ++ l2)).map _ = match (D.go g l).map (fun (p : Nat × List Nat) => (p.1, w ++ p.2)) with | none => none | some (t, u) => (D.go t l2).map fun (p : Nat × List Nat) => (p.1, u ++ p.2)
      rw [D.go_app l2 l g]
      cases D.go g l with
      | none => rfl
      | some q =>
        obtain ⟨t, u⟩ := q
        show Option.map _ (Option.map _ (D.go t l2)) = Option.map _ (D.go t l2)
        rw [Option.map_map]
        cases D.go t l2 with
        | none => rfl
        | some r => obtain ⟨x, y⟩ := r; show some (x, w ++ (u ++ y)) = some (x, w ++ u ++ y); rw [List.append_assoc]
theorem Dcd.go_none (D : Dcd) {l : List Nat} {s i : Nat} (h : D.go s (l.take i) = none) : D.go s l = none := by
  have := D.go_app (l.drop i) (l.take i) s
  rw [List.take_append_drop, h] at this
  exact this
theorem Dcd.wr_none (D : Dcd) {l : List Nat} {i : Nat} (h : D.go 0 (l.take i) = none) : D.wr l = none := by
  unfold Dcd.wr
  rw [D.go_none h]
theorem take_snoc {l : List Nat} {i a : Nat} (h : l[i]? = some a) : l.take (i + 1) = l.take i ++ [a] := by rw [List.take_add_one, h]; rfl
end My
namespace My
open PySem PySem.Spec PyProof.Rows L2
theorem wo_wo {H : Hp} {D : Addr} : wo (wo H D) D = wo H D := by
  funext b
  by_cases e : b = D
  · rw [e, wo_at, wo_at]
  · rw [wo_ne e]
/-- a comprehension over a range whose items are data -/
theorem lc_range_data {K : PySem.W.Frag} {m : Bool} {p : Addr} {lo : Int} {n : Nat} {g : TG} {tt : TT} {te : TE} {vs : List Nat} {σ : L2.St} {H1 : Hp} {D : Addr} {Qd : Hp → Prop} (f : Nat → PyData) (hD : H1 D = none) (hn : n ≤ 100000)
    (step : ∀ j H' (R : VK) (N : Hp → Prop), j < n → Same H1 H' → H' D ≠ none → (∀ y H4, Same H' H4 → Dg K (wo (wo H4 p) D) m y (f j) → R y H4) →
      g (.int (lo + j)) (wipe σ vs) H' fun σ2 H2 => wipe σ2 vs = wipe σ vs ∧ tt σ2 H2 fun b H3 => if b = true then te σ2 H3 R else N H3)
    (done : ∀ H' xs, Same H1 H' → H' D = some (.lst xs) → DgAll K (wo (wo H' p) D) m xs ((List.range n).map f) → Qd H') :
    ∃ W : Nat → Nat → Hp → Prop, (∃ m, W 0 m (L2.upd H1 D (.lst []))) ∧ ∀ i m H, W i m H →
      ((Itr lo n).stop i H ∧ Qd H) ∨ ((Itr lo n).go i H ∧ ∃ Nx : Hp → Prop, (∀ H', Nx H' → ∃ m', m' < m ∧ W (i + 1) m' H') ∧ ∀ x H', (Itr lo n).yld i H x H' → g x (wipe σ vs) H' fun σ2 H2 => wipe σ2 vs = wipe σ vs ∧ tt σ2 H2 fun b H3 =>
        if b = true then te σ2 H3 fun y H4 => ∃ acc, H4 D = some (.lst acc) ∧ acc.length < sizeLine ∧ Nx (L2.upd H4 D (.lst (acc ++ [y]))) else Nx H3) := by
  refine lc_range (lo := lo) (n := n) (fun i H' => AcM K m p H1 D ((List.range i).map f) H') (AcM.start hD) ?_ ?_
  · rintro i H' hi hA
    refine step i H' _ _ hi hA.1 hA.ne fun y H4 s4 dy => ?_
    have := hA.snoc hD (by rw [List.length_map, List.length_range]; omega) s4 dy
    rw [List.range_succ, List.map_append]
    exact this
  · rintro H' ⟨s', acc, e, ha⟩
    exact done H' acc s' e ha
/-- over a list of known values -/
theorem lc_list_data {K : PySem.W.Frag} {m : Bool} {p a : Addr} {xs : List V} {g : TG} {tt : TT} {te : TE} {vs : List Nat} {σ : L2.St} {H1 : Hp} {D : Addr} {Qd : Hp → Prop} (f : Nat → PyData) (hL : SqL K H1 a xs) (hD : H1 D = none) (hn : xs.length ≤ 100000)
    (step : ∀ j x H' (R : VK) (N : Hp → Prop), xs[j]? = some x → Same H1 H' → H' D ≠ none → (∀ y H4, Same H' H4 → Dg K (wo (wo H4 p) D) m y (f j) → R y H4) →
      g x (wipe σ vs) H' fun σ2 H2 => wipe σ2 vs = wipe σ vs ∧ tt σ2 H2 fun b H3 => if b = true then te σ2 H3 R else N H3)
    (done : ∀ H' ys, Same H1 H' → H' D = some (.lst ys) → DgAll K (wo (wo H' p) D) m ys ((List.range xs.length).map f) → Qd H') :
    ∃ W : Nat → Nat → Hp → Prop, (∃ m, W 0 m (L2.upd H1 D (.lst []))) ∧ ∀ i m H, W i m H →
      ((Itl K a).stop i H ∧ Qd H) ∨ ((Itl K a).go i H ∧ ∃ Nx : Hp → Prop, (∀ H', Nx H' → ∃ m', m' < m ∧ W (i + 1) m' H') ∧ ∀ x H', (Itl K a).yld i H x H' → g x (wipe σ vs) H' fun σ2 H2 => wipe σ2 vs = wipe σ vs ∧ tt σ2 H2 fun b H3 =>
        if b = true then te σ2 H3 fun y H4 => ∃ acc, H4 D = some (.lst acc) ∧ acc.length < sizeLine ∧ Nx (L2.upd H4 D (.lst (acc ++ [y]))) else Nx H3) := by
  refine lc_list (K := K) (a := a) (xs := xs) (fun i H' => AcM K m p H1 D ((List.range i).map f) H') (AcM.start hD) (fun i H' _ h => hL.ext h.1) ?_ ?_
  · rintro i x H' hx hA
    have hi := (List.getElem?_eq_some_iff.mp hx).1
    refine step i x H' _ _ hx hA.1 hA.ne fun y H4 s4 dy => ?_
    have := hA.snoc hD (by rw [List.length_map, List.length_range]; omega) s4 dy
    rw [List.range_succ, List.map_append]
    exact this
  · rintro H' ⟨s', acc, e, ha⟩
    exact done H' acc s' e ha
/-- what the list at D holds, told without D -/
theorem own_list {K : PySem.W.Frag} {m : Bool} {p D : Addr} {H : Hp} {xs : List V} {ds : List PyData} (h : DgAll K (wo (wo H p) D) m xs ds) : DgAll K (wo H p) m xs ds := h.ext fun _ _ e => wo_le e
theorem own_list0 {K : PySem.W.Frag} {m : Bool} {D : Addr} {H : Hp} {xs : List V} {ds : List PyData} (h : DgAll K (wo (wo H D) D) m xs ds) : DgAll K H m xs ds := h.ext fun _ _ e => wo_le (wo_le e)
/-- a decoder's parts as lists -/
def Dcd.stL (D : Dcd) : PyData := .list (D.st.map fun r => .list (r.map My.enD))
def Dcd.enL (D : Dcd) : PyData := .list (D.en.map wdD)
theorem Dcd.goodL {D : Dcd} (h : D.ok) : GoodD D (.int (D.sg : Nat)) D.stL D.enL :=
  ⟨h, rfl, rfl, fun r hr => by
    obtain ⟨x, _, rfl⟩ := List.mem_map.mp hr
    rfl, by show (D.st.map fun r => PyData.list (r.map My.enD)).map itsD = _; rw [List.map_map]; rfl, rfl, rfl⟩
theorem weight_all {α : Type} {f : α → PyData} {k : Nat} : ∀ l : List α, (∀ a ∈ l, (f a).weight ≤ k) → PyData.weightAll (l.map f) ≤ (k + 1) * l.length
  | [], _ => by simp [PyData.weightAll]
  | a :: l, h => by
    rw [List.map_cons]
    unfold PyData.weightAll
    have h1 := h a List.mem_cons_self
    have h2 := weight_all l fun b hb => h b (List.mem_cons_of_mem _ hb)
    rw [List.length_cons, Nat.mul_succ]; omega
theorem weight_stL {D : Dcd} (h : D.ok) : D.stL.weight ≤ 100000 := by
  have n40 := h.n40
  have s5 := h.s5
  unfold Dcd.stL
  rw [PyData.weight]
  refine Nat.le_trans (weight_all (k := 210) _ fun r hr => ?_) (by omega)
  rw [PyData.weight]
  obtain ⟨l, o⟩ := h.rows r hr
  refine Nat.le_trans (weight_all (k := 40) _ fun e he => (fit_enD (o e he) n40).w) (by omega)
theorem weight_enL {D : Dcd} (h : D.ok) : D.enL.weight ≤ 100000 := by
  have n40 := h.n40
  have le := h.ends
  unfold Dcd.enL
  rw [PyData.weight]
  refine Nat.le_trans (weight_all (k := 4) _ fun e he => (fit_wdD fun w q => h.words e he w q).w) (by omega)
/-- where a new instance is made, the data stand beside it -/
theorem made_dw {K : PySem.W.Frag} {H : Hp} {x dx : Addr} {o : HO} {C : Addr} {m : Bool} {v : V} {d : PyData} (hx : H x = none) (hdx : H dx = none) (h : Dg K H m v d) : Dw K x (L2.upd (L2.upd H dx o) x (.ins C dx [])) m v d := by
  refine h.ext fun b ob e => ?_
  have n1 : b ≠ x := fun z => by rw [z, hx] at e; cases e
  have n2 : b ≠ dx := fun z => by rw [z, hdx] at e; cases e
  rw [wo_ne n1, upd_ne n1, upd_ne n2]; exact e
theorem made_same {H H' : Hp} {x dx : Addr} {o : HO} {C : Addr} (hx : H x = none) (hdx : H dx = none) (k : Kp x (L2.upd (L2.upd H dx o) x (.ins C dx [])) H') : Same H H' := fun b ob e => by
  have n1 : b ≠ x := fun z => by rw [z, hx] at e; cases e
  have n2 : b ≠ dx := fun z => by rw [z, hdx] at e; cases e
  exact k b ob n1 (by rw [upd_ne n1, upd_ne n2]; exact e)
end My
namespace My
open PySem PySem.Spec PyProof.Rows L2
/-- a new tuple of known items, in a comprehension -/
theorem tup_new {K : PySem.W.Frag} {m : Bool} {p D t : Addr} {H : Hp} {xs : List V} {ds : List PyData} (eD : H D ≠ none) (ep : H p ≠ none) (ht : H t = none) (h : ∀ G, DgAll K G m xs ds) : Same H (L2.upd H t (.tup xs)) ∧ Dg K (wo (wo (L2.upd H t (.tup xs)) p) D) m (.ref t) (.tuple ds) := by
  have n1 : t ≠ D := fun z => eD (by rw [← z]; exact ht)
  have n2 : t ≠ p := fun z => ep (by rw [← z]; exact ht)
  exact ⟨Same.new (Same.refl _) ht, .tup (SqT.of (by rw [wo_ne n1, wo_ne n2]; exact upd_same)) (h _)⟩
end My

set_option Elab.async false
set_option linter.all false
set_option maxRecDepth 100000
set_option maxHeartbeats 4000000
/-! C(..) within a try: what its __init__ lets out is caught. -/
namespace L2
open PySem PySem.Spec PyProof.Rows
section
variable {X : Cx} {CX : CXT} {k : Nat} {f C : Addr} {fd : FuncData} {ps : List Str} {ds : List Value} {dvs : List V} {sp : Sp} {E : St → XK} {x : Str} {p pos : Pos} {e : Expr} {es : List Expr} {t : TA}
theorem run_makeS {pins : List (Addr × Obj)} {σ : St} {H : Hp} {s : Shared} {Q : VK} {us : List Value} {vs : List V} (M : Mk X.K C f) (F : FnOk X.prog X.w X.K X.mg X.base CX k f fd ps sp) (hr : Room (k + 1) X.A) (hb : Binds X.K fd ps ds) (hd : Vals dvs ds)
    (hx : PassesAt CX X σ (E σ)) (I : Inv X pins σ H s) (r : Vals vs us)
    (h : ∀ x dx, H x = none → H dx = none → dx ≠ x → sp (.ref x :: (vs ++ dvs)) (upd (upd H dx (.own x)) x (.ins C dx [])) (fun v H2 => v = .non ∧ Q (.ref x) H2) (E σ)) :
    wpAny (model X.prog X.w) X.A (call (.ref C) us) (EP X pins σ Q) X.xe s := by
  have hq := h (s.heap.objs.size + 1) s.heap.objs.size (I.hok.fresh (Nat.le_succ _)) (I.hok.fresh (Nat.le_refl _)) (Nat.ne_of_lt (Nat.lt_succ_self _))
  have I2 := Inv.made (C := C) I
  have r2 : Vals (V.ref (s.heap.objs.size + 1) :: (vs ++ dvs)) (Value.ref (s.heap.objs.size + 1) :: (us ++ ds)) := .cons rfl (r.append hd)
  have hl : (Value.ref (s.heap.objs.size + 1) :: us ++ ds).length = ps.length := by
    have e := r2.length
    rw [F.len _ _ _ _ hq] at e
    exact e.symm
  refine wpAny_call (make_map (f := f) I.kIn M.makes M.init (beq_iff_eq.mp M.fn) (codeAny_mono (F.run _ X.stack _ _ ⟨Value.ref (s.heap.objs.size + 1) :: us, []⟩ (Value.ref (s.heap.objs.size + 1) :: (us ++ ds)) _ _ (E σ) (hr.make C us [])
    (I2.env0.make C us []) (hb _ (Value.ref (s.heap.objs.size + 1) :: us) I2.kIn hl) r2 hq) fun r s' hq' => ?_))
  cases r with
  | error e => exact hx pins _ _ e s' I2 hq'
  | ok fl =>
    cases fl with
    | ret u =>
      obtain ⟨v, H', I3, rv, ev, q3⟩ := I2.after hq'
      subst ev
      exact ⟨rv, ⟨V.ref (s.heap.objs.size + 1), H', I3, rfl, q3⟩⟩
    | next => exact False.elim hq'
    | brk => exact False.elim hq'
    | cont => exact False.elim hq'
def tMakeS (C : Addr) (sp : Sp) (dvs : List V) (E : St → XK) (t : TA) : TE := fun σ H Q => t σ H fun vs H1 => ∀ x dx, H1 x = none → H1 dx = none → dx ≠ x →
  sp (.ref x :: (vs ++ dvs)) (upd (upd H1 dx (.own x)) x (.ins C dx [])) (fun v H2 => v = .non ∧ Q (.ref x) H2) (E σ)
theorem pe_makeS (M : Mk X.K C f) (F : FnOk X.prog X.w X.K X.mg X.base CX k f fd ps sp) (hr : Room (k + 1) X.A) (hg : Gl X x) (hm : X.mg x = some (.ref C)) (hb : Binds X.K fd ps ds) (hd : Vals dvs ds) (hx : ∀ σ, PassesAt CX X σ (E σ))
    (ha : PA X (e :: es) t) (hdb : (x == ("__debug__" : Str)) = false := by decide) (he : starEach (e :: es) X.env = (false, eval e X.env) :: starEach es X.env := by rfl) (hpl : (backTo pos (starEach es X.env)).any (·.1) = false := by rfl) :
    PE X (.Call (.Name x p) (e :: es) [] pos) (tMakeS C sp dvs E t) := by
  refine ⟨fun pins s σ H Q I h => ?_⟩
  refine wpAny_Call_Name_kw (ld_glob I hg hm ?_ hdb)
  refine PySem.W.callWith_K (h₀ := X.base) I.ok.mod.kin M.kp (thn (ha.run pos pins s σ H _ I h) fun us s1 ⟨vs, H1, I1, r, q⟩ => ⟨I1.kIn, ?_⟩) he hpl
  exact run_makeS M F hr hb hd (hx σ) I1 r q
end
end L2
namespace L2
open PySem PySem.Spec PyProof.Rows
theorem call_isi_K {X : Cx} {K : PySem.W.Frag} (e : X.K = K) : CallR X (.builtin "isinstance") (rIsi K) := by subst e; exact call_isi
theorem call_list_of_K {X : Cx} {K : PySem.W.Frag} (e : X.K = K) : CallR X (.type "list") (fun xs H Q => ∃ p ys, xs = [.ref p] ∧ (SqL K H p ys ∨ SqT K H p ys) ∧ ∀ l, H l = none → Q (.ref l) (upd H l (.lst ys))) := by subst e; exact call_list_of
theorem call_list_ofSK {X : Cx} {K : PySem.W.Frag} (e : X.K = K) : CallR X (.type "list") (fun xs H Q => ∃ p ys, xs = [.ref p] ∧ (SqL K H p ys ∨ SqT K H p ys) ∧ ∀ l, H l = none → (l == sysModules) = false → Q (.ref l) (upd H l (.lst ys))) := by subst e; exact call_list_ofS
/-- no list of one's own lies where the modules lie -/
def tLow (te : TE) : TE := fun σ H Q => te σ H fun v H' => H' sysModules = none → Q v H'
theorem pe_low {X : Cx} {base : Heap} {e : Expr} {te : TE} (hk : X.base = base) (hs : ∃ o, base.get? sysModules = some o) (h : PE X e te) : PE X e (tLow te) := by
  subst hk
  refine ⟨fun pins s σ H Q I hq => wpAny_mono (h.run pins s σ H _ I hq) (fun u s' hh => ?_) fun _ _ z => z⟩
  obtain ⟨v, H', I', r, q⟩ := hh
  obtain ⟨o, e⟩ := hs
  exact ⟨v, H', I', r, q (I'.bs _ _ e).2⟩
theorem low_ne {H : Hp} {a : Addr} (hs : H sysModules = none) (ha : H a ≠ none) : (a == sysModules) = false := beq_eq_false_iff_ne.mpr fun e => ha (by rw [e]; exact hs)
end L2

set_option Elab.async false
set_option linter.all false
set_option maxRecDepth 100000
set_option maxHeartbeats 4000000
/-! {k: v}, one pair, the key a tuple. -/
namespace L2
open PySem PySem.Spec PyProof.Rows
def tDispT1 (tk tv : TE) : TE := fun σ H Q => ∀ p, H p = none → tk σ (upd H p (.dT [])) fun x H1 => tv σ H1 fun y H2 => H2 p = some (.dT []) ∧ ∃ (b : Addr) (ks : List Key), x = .ref b ∧ H2 b = some (.tup (ks.map kV)) ∧ Q (.ref p) (upd H2 p (.dT [(ks, y)]))
theorem pe_dispT1 {X : Cx} {pos : Pos} {k v : Expr} {tk tv : TE} (hu : X.A.units + 1 < cLine) (hk : PE X k tk) (hv : PE X v tv) : PE X (.Dict [some k] [v] pos) (tDispT1 tk tv) := by
  refine ⟨fun pins s σ H Q I q => ?_⟩
  have hn := I.hok.fresh (Nat.le_refl s.heap.objs.size)
  have I1 := I.laid (a := s.heap.objs.size) (o := .dT []) (h' := s.heap.push { cls := .type "dict", data := .dict #[] }) (t' := s.toks) (fun _ _ q => Heap.get?_push_of_some _ q) (Nat.le_refl _) (dt_empty s.heap I.big)
  have hshape : (evalEachOpt [some k] X.env).zip ((evalEach [v] X.env).map fun v => do let x ← v; standAt pos; pure x) = (pairTrees [some k] [v] X.env pos).map fun p => (some p.1, p.2) := zip_pairTrees [some k] [v] X.env pos rfl rfl
  have hlen : (pairTrees [some k] [v] X.env pos).length = 1 := pairTrees_length [some k] [v] X.env pos rfl rfl
  have hne : pairTrees [some k] [v] X.env pos ≠ [] := fun e => by rw [e] at hlen; cases hlen
  rw [arm_eval_Dict, hshape, dictDisplay_pairs _ hne (by omega)]
  refine wpAny_bind (wpAny_standAt (wpAny_bind (wpAny_subDictH (knd := tupleKind (mixKind X.prog X.w)) (Q := fun d s' => wpAny (model X.prog X.w) X.A (pure (Value.ref d)) (EP X pins σ Q) X.xe s') (show X.A.units < cLine by omega) (by omega) ?_)))
  refine pairTrees_cons_walk (thn (hk.run pins _ σ _ _ I1 (q s.heap.objs.size hn)) fun u s1 ⟨x, H1, I1, rx, q1⟩ => thn (hv.run pins s1 σ H1 _ I1 q1) fun w2 s2 ⟨y, H2, I2, ry, e, b, ks, ex, eb, q2⟩ => pairTrees_nil_walk ?_)
  subst ex
  cases (show u = Value.ref b from rx)
  obtain ⟨z, hd, xs0, r0, dd⟩ := dt_of I2.hok e
  cases r0
  refine ⟨[(ks, b, w2)], ⟨rfl, rfl, key_of I2.hok eb, trivial⟩, dd, fun h' tk dd' hs => wpAny_pure ⟨.ref s.heap.objs.size, _, ?_, rfl, q2⟩⟩
  have he : ∃ q, h'.get? s.heap.objs.size = some q := let ⟨q, _, _, hq, _⟩ := dd'; ⟨q, hq⟩
  obtain ⟨o, es, ep, h1, h2, h3, h4, _, h5⟩ := dd'
  refine d_write I2 (by rw [e]; exact True.intro) hs he ⟨by show 1 ≤ sizeLine; decide, hd, [(ks, b, w2)], ?_, o, es, ep, h1, h2, h3, h4, h5⟩
  refine .cons ⟨rfl, ?_, ry⟩ .nil
  show upd H2 s.heap.objs.size (.dT [(ks, y)]) b = some (.tup (ks.map kV))
  rw [upd_ne (ne_of eb e (fun z => nomatch z))]
  exact eb
theorem pe_fldK {X : Cx} {K : PySem.W.Frag} {e : Expr} {f : Str} {pos : Pos} {ta : TE} (ek : X.K = K) (he : PE X e ta) (hb : attributeBase e f X.env (eval e X.env) = eval e X.env) : PE X (.Attribute e f pos) (tFld K ta f) := by subst ek; exact pe_fld he hb
end L2

set_option Elab.async false
set_option linter.all false
set_option maxRecDepth 100000
set_option maxHeartbeats 4000000
/-! [*d, ..], d a dict whose keys are tuples: the keys that were laid. -/
namespace My
open PySem PySem.Spec PyProof.Rows L2
theorem collect_src {prog : Program} {w : World} {A : Around} {E : Value → Shared → Prop} {s : Shared} {T : String} {r d : Addr} {n : Nat} {P : Nat → Value → Prop} {OK : Heap → Prop} {Q : List Value → Shared → Prop}
    (K : PySem.W.KdlSrc prog w T r d n P OK) (hh : A.handled = none) (ok : OK s.heap) (hn : n ≤ sizeLine)
    (q : ∀ h' tk (acc : Array Value), (∀ b o, s.heap.get? b = some o → h'.get? b = some o) → ItemsOf P acc n → Q acc.toList { s with heap := h', toks := tk }) : wpAny (model prog w) A (collect (.ref r)) Q E s := by
  have there := K.there _ ok
  unfold collect
  refine wpAny_bind (wpAny_runValue ?start)
  refine codeAny_builtin PySem.F.entry_proto_collect ?go
  rw [Around.under_plainId PySem.F.plain_proto_collect]
  show wpAny _ A.in1 (newList [] >>= fun z => again (.builtin "list.__iadd__" ⟨[z, .ref r], []⟩)) _ _ s
  refine wpAny_bind (wpAny_newObj_type ?made)
  refine wpAny_pure ⟨plainId_quiet PySem.F.plain_list_iadd _, ?add⟩
  refine codeAny_builtin PySem.F.entry_list_iadd ?more
  rw [Around.under_plainId PySem.F.plain_list_iadd]
  have new : (s.heap.push { cls := .type "list", data := .seq #[] }).get? s.heap.objs.size = some { cls := .type "list", data := .seq #[] } := Heap.get?_push_size _ rfl
  have old : OK (s.heap.push { cls := .type "list", data := .seq #[] }) := K.keep _ _ ok fun b _ o e => Heap.get?_push_of_some _ e
  show wpAny _ A.in1 (Builtin.List.listExtendWith (.ref s.heap.objs.size) (.ref r) (.ref s.heap.objs.size)) _ _ { s with heap := s.heap.push { cls := .type "list", data := .seq #[] } }
  refine PySem.W.kdl_extend (R := fun r s' => match r with | .ok (.ret v) => wpAny (model prog w) A (match v with | .ref a => (do match (← load a).data with | .seq xs _ => pure xs.toList | _ => unsupported "internal:collect") | _ => unsupported "internal:collect") Q E s' | .ok _ => False | .error e => E e s') (s := { s with heap := s.heap.push { cls := .type "list", data := .seq #[] } }) K hh old s.heap.objs.size (Nat.ne_of_gt there.1) (Nat.ne_of_gt there.2) _ _ new (fun h' tk acc c k hS it => ?_) hn
  show wpAny _ A (load s.heap.objs.size >>= _) _ _ { s with heap := h', toks := tk }
  exact wpAny_bind (wpAny_load hS (wpAny_pure (q h' tk acc (fun b o e => k b o (Nat.ne_of_lt (Heap.lt_size e)) (Heap.get?_push_of_some _ e)) it)))
section
variable {X : Cx} {pins : List (Addr × Obj)} {σ : L2.St} {H : Hp} {s : Shared}
theorem laid_keys {P : Program} {w : World} {es : Array DictEntry} {ks : List (List L2.Key × Addr × Value)} {acc : Array Value} (he : ∀ j : Nat, es[j]? = (ks[j]?).map (entryOfKey (tupleKind (mixKind P w)))) (n : acc.size = es.size)
    (it : ∀ (j : Nat) (v : Value), acc[j]? = some v → ∃ en : DictEntry, es[j]? = some en ∧ v = en.key) : acc.toList = (ks.map fun x => x.2.1).map Value.ref := by
  refine List.ext_getElem? fun j => ?_
  rw [Array.getElem?_toList, List.getElem?_map, List.getElem?_map]
  have hj := he j
  cases q : ks[j]? with
  | none =>
    rw [q] at hj
    have z : es.size ≤ j := Array.getElem?_eq_none_iff.mp hj
    rw [Array.getElem?_eq_none (by omega)]; rfl
  | some x =>
    rw [q] at hj
    obtain ⟨z, _⟩ := Array.getElem?_eq_some_iff.mp hj
    obtain ⟨en, h1, h2⟩ := it j _ (Array.getElem?_eq_getElem (show j < acc.size by omega))
    rw [Array.getElem?_eq_getElem (show j < acc.size by omega), h2]
    rw [hj] at h1
    have h1 := Option.some.inj h1
    rw [← h1]; rfl
theorem star_dT {d : Addr} {kvs : List (List L2.Key × V)} {E : Value → Shared → Prop} {Q : List Value → Shared → Prop} (hc : X.calm = true) (I : Inv X pins σ H s) (hd : Rd H d (.dT kvs)) (q : ∀ us bs s', Inv X pins σ H s' → IsKeys H kvs bs → Vals (bs.map V.ref) us → Q us s') :
    PySem.W.StarOf (model X.prog X.w) X.A E (.ref d) Q s := by
  obtain ⟨z, lo, ks, pr, o, es, ep, ho, hx, hdt, he, _⟩ := (show ObjOk X.prog X.w H s.heap d (.dT kvs) from hd.ok I.hok)
  have n1 : es.size = ks.length := size_of_entries he
  have n2 : kvs.length = ks.length := Paired.length pr
  have c : wpAny (model X.prog X.w) X.A (collect (.ref d)) Q E s := by
    refine collect_src (kdl_raw lo hx hdt) (I.ok.hd hc) ho (by omega) fun h' tk acc kp it => ?_
    refine q acc.toList (ks.map fun x => x.2.1) _ (I.kept (t' := tk) kp) (isKeys_of pr) ?_
    rw [laid_keys (fun j => entry_at he j) it.1 it.2]
    exact vals_refs _
  unfold PySem.W.StarOf notIterableAtAll
  exact wpAny_bind (wpAny_specialOf (T := "dict") ⟨o, ho, hx.1⟩ PySem.F.slot_dict_iter.lookup (wpAny_pure ⟨rfl, c⟩))
/-- *d, ..: the keys of a dict of tuples, as they were laid -/
def tStarT (te : TE) (t : TA) : TA := fun σ H Q => te σ H fun y H1 => ∃ d kvs, y = .ref d ∧ Rd H1 d (.dT kvs) ∧ ∀ bs, IsKeys H1 kvs bs → t σ H1 fun vs H2 => Q (bs.map V.ref ++ vs) H2
theorem pa_starT {e : Expr} {es : List Expr} {p : Pos} {te : TE} {t : TA} (hc : X.calm = true) (he : PE X e te) (hr : PA X es t) (hs : starEach (.Starred e p :: es) X.env = (true, eval e X.env) :: starEach es X.env := by rfl) : PA X (.Starred e p :: es) (tStarT te t) := by
  refine ⟨fun at_ pn s0 σ0 H0 R I0 h => ?_⟩
  refine PySem.W.items_star (thn (he.run pn s0 σ0 H0 _ I0 h) fun u s1 ⟨y, H1, I1, ry, d, kvs, e1, hd, k⟩ => ?_) hs
  subst e1
  cases (show u = Value.ref d from ry)
  refine star_dT hc I1 hd fun us bs s2 I2 ik rv => ?_
  exact thn (hr.run at_ pn s2 σ0 H1 _ I2 (k bs ik)) fun ws s3 ⟨vs, H3, I3, r3, q3⟩ => ⟨bs.map V.ref ++ vs, H3, I3, rv.append r3, q3⟩
end
end My

set_option Elab.async false
set_option linter.all false
set_option maxRecDepth 100000
set_option maxHeartbeats 4000000
/-! {k: v for ..}, the keys tuples. -/
namespace My
open PySem PySem.Spec PyProof.Rows L2
section
variable {X : Cx} {pins : List (Addr × Obj)} {σ : L2.St} {H : Hp} {s : Shared}
theorem put_dT {E : Value → Shared → Prop} {D b : Addr} {kvs : List (List L2.Key × V)} {k : List L2.Key} {v : V} {r : Value} {Q : Unit → Shared → Prop} (hu : X.A.units + 1 < cLine) (I : Inv X pins σ H s) (eD : H D = some (.dT kvs)) (eb : H b = some (.tup (k.map kV))) (lt : kvs.length < sizeLine)
    (rv : RelV v r) (q : ∀ s', Inv X pins σ (L2.upd H D (.dT (putK kvs k v))) s' → Q () s') : wpAny (model X.prog X.w) X.A (dictSet D (.ref b) r) Q E s := by
  obtain ⟨z, lo, xs, rel, dd⟩ := dt_of I.hok eD
  have n1 : xs.length ≤ sizeLine := by
    have := Paired.length rel
    omega
  have n2 := length_putK kvs k v
  refine wpAny_dictSet_heap (hsz := n1) ?room (key_of I.hok eb) dd fun h' dd' hs => q _ ?_
  case room => exact (show X.A.units < cLine by omega)
  obtain ⟨o, es, ep, h1, h2, h3, h4, _, h5⟩ := dd'
  refine d_write I (by rw [eD]; exact True.intro) hs ⟨o, h1⟩ ⟨by omega, lo, _, (rel.put k eb rv).keeps fun c ys ec => ?_, o, es, ep, h1, h2, h3, h4, h5⟩
  rw [upd_ne (ne_of ec eD nofun)]; exact ec
end
section
variable {X : Cx}
/-- {k: v for ..}: D the new dict, its keys tuples that are laid -/
def tDcT (wi : TI) (g : TG) (tt : TT) (tk tv : TE) (vs : List Nat) : TE := fun σ H Q => wi σ H fun J H1 => ∀ D, H1 D = none → ∃ W : Nat → Nat → Hp → Prop, (∃ m, W 0 m (L2.upd H1 D (.dT []))) ∧ ∀ i m G, W i m G →
  (J.stop i G ∧ Q (.ref D) G) ∨ (J.go i G ∧ ∃ N : Hp → Prop, (∀ G', N G' → ∃ m', m' < m ∧ W (i + 1) m' G') ∧ ∀ x G', J.yld i G x G' → g x (wipe σ vs) G' fun τ G2 => wipe τ vs = wipe σ vs ∧ tt τ G2 fun yes G3 =>
    if yes = true then tk τ G3 fun y G4 => tv τ G4 fun z G5 => ∃ kvs k b, y = .ref b ∧ G5 b = some (.tup (k.map kV)) ∧ G5 D = some (.dT kvs) ∧ kvs.length < sizeLine ∧ N (L2.upd G5 D (.dT (putK kvs k z))) else N G3)
theorem dcT_core {pins : List (Addr × Obj)} {s : Shared} {σ : L2.St} {H : Hp} {Q : VK} {kx vx tg iter : Expr} {ifs : List Expr} {scope : Scope} {own : List (Str × Nat)} {pos pos2 : Pos} {wi : TI} {g : TG} {tt : TT} {tk tv : TE} {use : Option (Value → Sem Unit)} {Qf : Value → Shared → Prop} (hu : X.A.units + 1 < cLine) (hc : X.calm = true) (hN : X.N.Nodup) (I : Inv X pins σ H s) (hi : PI X tg iter wi) (ok : BlkOk X.N X.env.scope scope own)
    (hg : ∀ (t : Shared) (G : Hp) (C : Addr) (cl : List (Str × Addr)) (fp : List Addr), PG (X.blk t G scope (compEnvC scope cl C X.env) fp) tg g)
    (ht : ∀ (t : Shared) (G : Hp) (C : Addr) (cl : List (Str × Addr)) (fp : List Addr), PTs (X.blk t G scope (compEnvC scope cl C X.env) fp) ifs tt)
    (hk : ∀ (t : Shared) (G : Hp) (C : Addr) (cl : List (Str × Addr)) (fp : List Addr), PE (X.blk t G scope (compEnvC scope cl C X.env) fp) kx tk)
    (hv : ∀ (t : Shared) (G : Hp) (C : Addr) (cl : List (Str × Addr)) (fp : List Addr), PE (X.blk t G scope (compEnvC scope cl C X.env) fp) vx tv)
    (hs : ∀ x, foldedSetIterable iter X.env x = pure x) (q0 : tDcT wi g tt tk tv (own.map (·.2)) σ H Q)
    (ret : ∀ D C s' m H', Inv X pins σ H' s' → Q (.ref D) H' → s'.heap.Ns C m → FpOk X pins H' C → compPost (model X.prog X.w) X.A X.xe use Qf (.ref D) C (.ok .next) s') :
    wpAny (model X.prog X.w) X.A (comprehension (.DictComp kx vx [⟨tg, iter, ifs, 0⟩] scope pos) scope X.env pos2 newDict false (eval iter X.env) use) Qf X.xe s := by
  have cells : ∀ y ∈ scope.names, y.2 = .free → ∃ c, X.env.cells.lookup y.1 = some c := fun y m e => (ok.free y m e).elim (fun z => I.ok.has _ (.inl z)) fun z => I.ok.has _ (.inr z)
  refine wpAny_comprehension_free (use := use) rfl hs (closure_ok cells) ok.kind (fun y m e => (by rw [ok.uniq y m, e])) (thn (hi.run pins s σ H _ I q0) fun _ s1 q1 => thn q1 fun _ s2 q2 => ?_)
  obtain ⟨it, fp, tn, J, H2, rfl, I2, T, st2, f2, q⟩ := q2
  refine wpAny_newObj_type (newEnv_comp ?_)
  obtain ⟨D, eD⟩ : ∃ D, D = s2.heap.objs.size := ⟨_, rfl⟩
  obtain ⟨W, ⟨m0, w0⟩, turn⟩ := q D (I2.hok.fresh (Nat.le_of_eq eD.symm))
  clear q
  obtain ⟨s3, e3⟩ : ∃ s3, s3 = ({ s2 with heap := s2.heap.push { cls := .type "dict", data := .dict #[] } } : Shared) := ⟨_, rfl⟩
  have grown : ∀ b o, s2.heap.get? b = some o → s3.heap.get? b = some o := fun b o e => by rw [e3]; exact Heap.get?_push_of_some _ e
  have more : s2.heap.objs.size < s3.heap.objs.size := by rw [e3, Heap.size_push]; exact Nat.lt_succ_self _
  have I3 : Inv X pins σ (L2.upd H2 D (.dT [])) s3 := by
    rw [e3, eD]
    exact I2.laid (t' := s2.toks) (fun _ _ e => Heap.get?_push_of_some _ e) (Nat.le_refl _) (dt_empty s2.heap I2.big)
  have below : ∀ b ∈ fp, b < s2.heap.objs.size := fun b m => (T.obj _ _ st2 b m).elim fun o z => Heap.lt_size z.1
  have f3 : ∀ b ∈ fp, FpOk X pins (L2.upd H2 D (.dT [])) b ∧ b < s3.heap.objs.size := fun b m => by
    have lt := below b m
    refine ⟨⟨?_, (f2 b m).2⟩, Nat.lt_trans lt more⟩
    rw [upd_ne (fun z => by rw [z, eD] at lt; exact Nat.lt_irrefl _ lt)]
    exact (f2 b m).1
  have none3 : ∀ b ∈ fp, (L2.upd H2 D (.dT [])) b = none := fun b m => (f3 b m).1.1
  have I4 := block_start I3 ok hN f3
  have st3 : tn 0 s3.heap := T.keep _ _ _ st2 fun b _ o e => grown b o e
  have pG := hg s3 (L2.upd H2 D (.dT [])) s3.heap.objs.size (cellsFrom (s3.heap.objs.size + 1) scope.names (cloFrom X.env.cells scope.names [])) fp
  have pT := ht s3 (L2.upd H2 D (.dT [])) s3.heap.objs.size (cellsFrom (s3.heap.objs.size + 1) scope.names (cloFrom X.env.cells scope.names [])) fp
  have pK := hk s3 (L2.upd H2 D (.dT [])) s3.heap.objs.size (cellsFrom (s3.heap.objs.size + 1) scope.names (cloFrom X.env.cells scope.names [])) fp
  have pV := hv s3 (L2.upd H2 D (.dT [])) s3.heap.objs.size (cellsFrom (s3.heap.objs.size + 1) scope.names (cloFrom X.env.cells scope.names [])) fp
  obtain ⟨ce, ece⟩ : ∃ ce, ce = compEnvC scope (cellsFrom (s3.heap.objs.size + 1) scope.names (cloFrom X.env.cells scope.names [])) s3.heap.objs.size X.env := ⟨_, rfl⟩
  obtain ⟨H3, eH3⟩ : ∃ H3, H3 = L2.upd H2 D (.dT []) := ⟨_, rfl⟩
  obtain ⟨s4, e4⟩ : ∃ s4, s4 = ({ s3 with heap := pushCells (s3.heap.push { cls := .type "dict", data := .dict #[] }) scope.names } : Shared) := ⟨_, rfl⟩
  have st4 : tn 0 s4.heap := T.keep _ _ _ st3 fun b _ o e => by rw [e4]; exact pushCells_keeps _ _ _ _ (Heap.get?_push_of_some _ e)
  rw [← ece, ← eH3] at pG pT pK pV
  rw [← ece, ← eH3, ← e4] at I4
  rw [← eH3] at I3 w0 none3 f3
  have loc : ce.locals = s3.heap.objs.size := by rw [ece]; rfl
  have still : ∀ {τ : L2.St} {G : Hp} {t : Shared}, Inv (X.blk s3 H3 scope ce fp) [] τ G t → (∀ b ∈ fp, G b = none) → ∀ b ∈ fp, FpOk (X.blk s3 H3 scope ce fp) [] G b := fun {τ G t} J' n' b m =>
    ⟨n' b m, (J'.ok.exf b m).1, J'.ok.exfs b m, .inl m, fun x c e => (J'.ok.exf b m).2 x c e, fun z hz => nomatch (show z ∈ ([] : List (Addr × Obj)) ++ [] from hz)⟩
  have loop : codeAny (model X.prog X.w) X.A (.compLoop (.DictComp kx vx [⟨tg, iter, ifs, 0⟩] scope pos) 0 (.ref it) (.ref D) ce) (compPost (model X.prog X.w) X.A X.xe use Qf (.ref D) s3.heap.objs.size) s4 := by
    refine compLoop_anyD (fun n t => ∃ i G, Inv (X.blk s3 H3 scope ce fp) [] (wipe σ (own.map (·.2))) G t ∧ tn i t.heap ∧ (∀ b ∈ fp, G b = none) ∧ W i n G) ?_ m0 ⟨0, H3, I4, st4, none3, w0⟩
    rintro n s5 ⟨i, H5, I5, st5, n5, w5⟩
    rcases turn i n H5 w5 with ⟨stop, qq⟩ | ⟨go, N, dec, step⟩
    · refine thnF (T.done (X.blk s3 H3 scope ce fp) rfl rfl rfl hc i [] s5 _ H5 (fun _ _ => False) I5 (still I5 n5) st5 stop) fun r s6 ⟨er, I6⟩ => ?_
      subst er
      have home : Inv X pins σ H5 s6 := I3.call' (ch := fp) I6.os I6.base I6.hok I6.bare fun b m => ⟨(f3 b m).1.2.2.2.1, (f3 b m).1.2.1, (f3 b m).1.2.2.2.2.1, (f3 b m).1.2.2.2.2.2⟩
      have free : H5 s3.heap.objs.size = none := by rw [← loc]; exact I6.free
      obtain ⟨m, ns, _⟩ := I6.loc
      have ns : s6.heap.Ns ce.locals m := ns
      rw [loc] at ns
      exact ret D s3.heap.objs.size s6 m H5 home qq ns (I3.fpOk (Nat.le_refl _) free)
    · refine thnF (T.item (X.blk s3 H3 scope ce fp) rfl rfl rfl hc i [] s5 _ H5 (fun _ _ => False) I5 (still I5 n5) st5 go) fun r s6 ⟨u, er, q6⟩ => ?_
      subst er
      refine thnF q6 fun _ s7 ⟨x, H7, I7, rx, yl, st7, n7⟩ => ?_
      have held := I7.pinned (still I7 n7) (T.obj _ _ st7)
      refine thnF (pG.run _ s7 _ H7 x u _ held rx (step x H7 yl)) fun _ s8 ⟨τ, H8, I8, ew, q8⟩ => ?_
      refine thnF (pT.run _ s8 τ H8 _ I8 q8) fun yes s9 ⟨H9, I9, q9⟩ => ?_
      have ended : ∀ {t : Shared} {G : Hp}, Inv (X.blk s3 H3 scope ce fp) ([] ++ pinsAt fp s7.heap) τ G t → N G → ∃ m, m < n ∧ ∃ i G, Inv (X.blk s3 H3 scope ce fp) [] (wipe σ (own.map (·.2))) G t ∧ tn i t.heap ∧ (∀ b ∈ fp, G b = none) ∧ W i m G := fun {t G} J' nx => by
        obtain ⟨m', lt, w'⟩ := dec G nx
        have here : ∀ b ∈ fp, ∀ ob, s7.heap.get? b = some ob → t.heap.get? b = some ob ∧ G b = none := fun b m ob e => by
          have z := J'.pin (b, ob) (List.mem_append_right _ (List.mem_append_right _ (mem_pinsAt m e)))
          exact ⟨z.1, z.2.1⟩
        have len : (wipe σ (own.map (·.2))).length = τ.length := by rw [← ew, wipe_length]
        refine ⟨m', lt, i + 1, G, (J'.unpinned (pins := [])).weak len (fun j v e => ?_), T.keep _ _ _ st7 (fun b m ob e => (here b m ob e).1), fun b m => ?_, w'⟩
        · rw [← ew] at e; exact (wipe_some e).1
        · obtain ⟨ob, e, _⟩ := T.obj _ _ st7 b m
          exact (here b m ob e).2
      cases yes with
      | false =>
        rw [if_neg Bool.false_ne_true] at q9 ⊢
        exact ended I9 q9
      | true =>
        rw [if_pos rfl] at q9 ⊢
        refine thnF (pK.run _ s9 τ H9 _ I9 q9) fun z1 sA ⟨y, HA, IA, ry, qA⟩ => ?_
        refine thnF (pV.run _ sA τ HA _ IA qA) fun z2 sB ⟨z, HB, IB, rz, kvs, k, b, ey, eb, eD', lt, nx⟩ => ?_
        subst ey
        cases (show z1 = Value.ref b from ry)
        exact put_dT (X := X.blk s3 H3 scope ce fp) hu IB eD' eb lt rz fun sC IC => ended IC nx
  have goal_ := codeAny_compStart_dict loop (T.self X.A 0 _ _ _ st4 loop)
  rw [e4, ece, e3, eD] at goal_
  rw [e3, eD] at loop
  exact goal_
theorem pe_dcT {kx vx tg iter : Expr} {ifs : List Expr} {scope : Scope} {own : List (Str × Nat)} {pos : Pos} {wi : TI} {g : TG} {tt : TT} {tk tv : TE} (hu : X.A.units + 1 < cLine) (hc : X.calm = true) (hN : X.N.Nodup) (hi : PI X tg iter wi) (ok : BlkOk X.N X.env.scope scope own)
    (hg : ∀ (t : Shared) (G : Hp) (C : Addr) (cl : List (Str × Addr)) (fp : List Addr), PG (X.blk t G scope (compEnvC scope cl C X.env) fp) tg g)
    (ht : ∀ (t : Shared) (G : Hp) (C : Addr) (cl : List (Str × Addr)) (fp : List Addr), PTs (X.blk t G scope (compEnvC scope cl C X.env) fp) ifs tt)
    (hk : ∀ (t : Shared) (G : Hp) (C : Addr) (cl : List (Str × Addr)) (fp : List Addr), PE (X.blk t G scope (compEnvC scope cl C X.env) fp) kx tk)
    (hv : ∀ (t : Shared) (G : Hp) (C : Addr) (cl : List (Str × Addr)) (fp : List Addr), PE (X.blk t G scope (compEnvC scope cl C X.env) fp) vx tv)
    (hs : ∀ x, foldedSetIterable iter X.env x = pure x := by intro _; rfl) : PE X (.DictComp kx vx [⟨tg, iter, ifs, 0⟩] scope pos) (tDcT wi g tt tk tv (own.map (·.2))) := by
  refine ⟨fun pins s σ H Q I q0 => ?_⟩
  rw [arm_eval_DictComp]
  refine dcT_core (use := none) (Qf := EP X pins σ Q) hu hc hN I hi ok hg ht hk hv hs q0 fun D C s6 m H5 home qq ns f => ⟨m, ns, fun h7 sb => ?_⟩
  obtain ⟨a0, a1, _, a3, a4, a5⟩ := f
  exact ⟨.ref D, H5, home.turned (t' := s6.toks) (fun b o hb e => (sb.2 b hb).trans e) a0 a1 a3 a4 a5, rfl, qq⟩
/-- y = {..}, on one row -/
theorem ps_setDcT {i : Nat} {y : Str} {py : Pos} {kx vx tg iter : Expr} {ifs : List Expr} {scope : Scope} {own : List (Str × Nat)} {pos spos : Pos} {wi : TI} {g : TG} {tt : TT} {tk tv : TE} (hu : X.A.units + 1 < cLine) (hc : X.calm = true) (hN : X.N.Nodup) (hy : X.N[i]? = some y) (hyl : X.env.scope.names.lookup y = some .local)
    (hsw : swapsWith (.DictComp kx vx [⟨tg, iter, ifs, 0⟩] scope pos) (some (.Name y py)) spos.line X.env = pure true) (hi : PI X tg iter wi) (ok : BlkOk X.N X.env.scope scope own)
    (hg : ∀ (t : Shared) (G : Hp) (C : Addr) (cl : List (Str × Addr)) (fp : List Addr), PG (X.blk t G scope (compEnvC scope cl C X.env) fp) tg g)
    (ht : ∀ (t : Shared) (G : Hp) (C : Addr) (cl : List (Str × Addr)) (fp : List Addr), PTs (X.blk t G scope (compEnvC scope cl C X.env) fp) ifs tt)
    (hk : ∀ (t : Shared) (G : Hp) (C : Addr) (cl : List (Str × Addr)) (fp : List Addr), PE (X.blk t G scope (compEnvC scope cl C X.env) fp) kx tk)
    (hv : ∀ (t : Shared) (G : Hp) (C : Addr) (cl : List (Str × Addr)) (fp : List Addr), PE (X.blk t G scope (compEnvC scope cl C X.env) fp) vx tv)
    (hs : ∀ x, foldedSetIterable iter X.env x = pure x := by intro _; rfl) : PS X (.Assign [.Name y py] (.DictComp kx vx [⟨tg, iter, ifs, 0⟩] scope pos) spos) (tAsg (tDcT wi g tt tk tv (own.map (·.2))) (gName i)) := by
  refine ⟨fun pins s σ H D I q0 => ?_⟩
  rw [exec_Assign_Name_used _ _ _ _ hsw]
  refine wpAny_bind (wpAny_standAt (wpAny_bind ?_))
  show wpAny _ X.A (do let _ ← comprehension (.DictComp kx vx [⟨tg, iter, ifs, 0⟩] scope pos) scope X.env (firstIterPos [⟨tg, iter, ifs, 0⟩] pos) newDict false (eval iter X.env) (some (assign (.Name y py) X.env))) _ _ s
  have q0 : tDcT wi g tt tk tv (own.map (·.2)) σ H (fun x H1 => gName i x σ H1 D.nx) := q0
  refine wpAny_bind (thn (dcT_core (Qf := fun _ t => SP X pins D .next t) hu hc hN I hi ok hg ht hk hv hs q0 fun L C s6 m H5 home qq ns f => ?_) fun _ _ z => wpAny_pure (wpAny_pure z))
  show wpAny _ _ (assign (.Name y py) X.env (.ref L)) _ _ _
  refine wpAny_assign_Name (store_ok2 (v := V.ref L) home hN hy (.inl hyl) rfl (fun s2 I2 ⟨a, sb, ha⟩ => ?_) (.inr hyl))
  obtain ⟨a0, a1, _, a3, a4, a5⟩ := f
  have other : C ≠ a := by
    rcases ha with z | z
    · rw [z]; exact a1
    · exact fun e => a4 y a z e.symm
  exact ⟨m, ns.sameBut sb other, fun h3 sb3 => ⟨_, H5, I2.turned (t' := s2.toks) (fun b o hb e => (sb3.2 b hb).trans e) a0 a1 a3 a4 a5, qq⟩⟩
theorem sw_dc {kx vx : Expr} {gs : List Comprehension} {scope : Scope} {pos py : Pos} {y : Str} {l : Nat} {env : Env} (hk : env.scope.kind = .function) (hy : env.scope.names.lookup y = some .local) (hl : (py.line == pos.line) = true)
    (ha : (scope.names.any fun (n, k) => n == y && (k == .local || k == .cell)) = false) : swapsWith (.DictComp kx vx gs scope pos) (some (.Name y py)) l env = pure true := by
  have hb : env.blockKind = .function := by unfold Env.blockKind; rw [hk]; rfl
  have e : env.kindOf y = some .local := hy
  unfold swapsWith
  simp only [hb, e, ha, Expr.pos, hl]
  rfl
end
end My
namespace My
open PySem PySem.Spec PyProof.Rows L2
/-- a dict comprehension over a list or a tuple -/
theorem dcT_sq {K : PySem.W.Frag} {a : Addr} {xs : List V} {g : TG} {tt : TT} {tk tv : TE} {vs : List Nat} {σ : L2.St} {H1 : Hp} {Qd : Addr → Hp → Prop} (hq : SqQ K H1 a xs)
    (h : ∀ D, H1 D = none → ∃ Pv : Nat → Hp → Prop, Pv 0 (L2.upd H1 D (.dT [])) ∧ (∀ i G, Pv i G → Same H1 G) ∧
      (∀ i x G, xs[i]? = some x → Pv i G → g x (wipe σ vs) G fun τ G2 => wipe τ vs = wipe σ vs ∧ tt τ G2 fun yes G3 =>
        if yes = true then tk τ G3 fun y G4 => tv τ G4 fun z G5 => ∃ kvs k b, y = .ref b ∧ G5 b = some (.tup (k.map kV)) ∧ G5 D = some (.dT kvs) ∧ kvs.length < sizeLine ∧ Pv (i + 1) (L2.upd G5 D (.dT (putK kvs k z))) else Pv (i + 1) G3) ∧ ∀ G, Pv xs.length G → Qd D G) :
    ((∃ xs, SqL K H1 a xs) ∧ ∀ D, H1 D = none → ∃ W : Nat → Nat → Hp → Prop, (∃ m, W 0 m (L2.upd H1 D (.dT []))) ∧ ∀ i m G, W i m G →
      ((Itl K a).stop i G ∧ Qd D G) ∨ ((Itl K a).go i G ∧ ∃ N : Hp → Prop, (∀ G', N G' → ∃ m', m' < m ∧ W (i + 1) m' G') ∧ ∀ x G', (Itl K a).yld i G x G' → g x (wipe σ vs) G' fun τ G2 => wipe τ vs = wipe σ vs ∧ tt τ G2 fun yes G3 =>
        if yes = true then tk τ G3 fun y G4 => tv τ G4 fun z G5 => ∃ kvs k b, y = .ref b ∧ G5 b = some (.tup (k.map kV)) ∧ G5 D = some (.dT kvs) ∧ kvs.length < sizeLine ∧ N (L2.upd G5 D (.dT (putK kvs k z))) else N G3)) ∨
    ((∃ xs, SqT K H1 a xs) ∧ ∀ D, H1 D = none → ∃ W : Nat → Nat → Hp → Prop, (∃ m, W 0 m (L2.upd H1 D (.dT []))) ∧ ∀ i m G, W i m G →
      ((Itt K a).stop i G ∧ Qd D G) ∨ ((Itt K a).go i G ∧ ∃ N : Hp → Prop, (∀ G', N G' → ∃ m', m' < m ∧ W (i + 1) m' G') ∧ ∀ x G', (Itt K a).yld i G x G' → g x (wipe σ vs) G' fun τ G2 => wipe τ vs = wipe σ vs ∧ tt τ G2 fun yes G3 =>
        if yes = true then tk τ G3 fun y G4 => tv τ G4 fun z G5 => ∃ kvs k b, y = .ref b ∧ G5 b = some (.tup (k.map kV)) ∧ G5 D = some (.dT kvs) ∧ kvs.length < sizeLine ∧ N (L2.upd G5 D (.dT (putK kvs k z))) else N G3)) := by
  have lt_of : ∀ {i : Nat} {x : V}, xs[i]? = some x → i < xs.length := fun e => (List.getElem?_eq_some_iff.mp e).1
  rcases hq with hq | hq
  · refine .inl ⟨⟨xs, hq⟩, fun D hD => ?_⟩
    obtain ⟨Pv, h0, hs, st, en⟩ := h D hD
    refine ⟨fun i m G => m = xs.length - i ∧ i ≤ xs.length ∧ Pv i G, ⟨_, rfl, Nat.zero_le _, h0⟩, ?_⟩
    rintro i m G ⟨rfl, le, p⟩
    have here := hq.ext (hs i G p)
    by_cases lt : i < xs.length
    · refine .inr ⟨⟨xs, xs[i], here, by simp [lt]⟩, Pv (i + 1), fun G' p' => ⟨xs.length - (i + 1), by omega, rfl, lt, p'⟩, fun x G' y => ?_⟩
      obtain ⟨e, y⟩ := y
      subst e
      exact st i x _ (y xs here) p
    · obtain rfl : i = xs.length := by omega
      exact .inl ⟨⟨xs, here, Nat.le_refl _⟩, en G p⟩
  · refine .inr ⟨⟨xs, hq⟩, fun D hD => ?_⟩
    obtain ⟨Pv, h0, hs, st, en⟩ := h D hD
    refine ⟨fun i m G => m = xs.length - i ∧ i ≤ xs.length ∧ Pv i G, ⟨_, rfl, Nat.zero_le _, h0⟩, ?_⟩
    rintro i m G ⟨rfl, le, p⟩
    have here := hq.ext (hs i G p)
    by_cases lt : i < xs.length
    · refine .inr ⟨⟨xs, xs[i], here, by simp [lt]⟩, Pv (i + 1), fun G' p' => ⟨xs.length - (i + 1), by omega, rfl, lt, p'⟩, fun x G' y => ?_⟩
      obtain ⟨e, y⟩ := y
      subst e
      exact st i x _ (y xs here) p
    · obtain rfl : i = xs.length := by omega
      exact .inl ⟨⟨xs, here, Nat.le_refl _⟩, en G p⟩
end My

set_option Elab.async false
set_option linter.all false
set_option maxRecDepth 100000
set_option maxHeartbeats 4000000
/-! Lists of data whose items are drawn with the box at p; decoders and lists that grow. -/
namespace My
open PySem PySem.Spec PyProof.Rows L2
theorem two_kp {H H2 : Hp} {p D : Addr} (k : Kp p H H2) : Same (wo (wo H p) D) (wo (wo H2 p) D) := fun b o e => by
  have n : b ≠ D := fun z => by rw [z, wo_at] at e; cases e
  rw [wo_ne n] at e ⊢
  exact k.wo b o e
/-- the list at D, new since H1: its items are data, the j-th as G j says; c draws so far, k more for each item -/
structure AcB (K : PySem.W.Frag) (m : Bool) (p : Addr) (H1 : Hp) (D : Addr) (c k : Nat) (G : Nat → PyData → Prop) (i : Nat) (H : Hp) : Prop where
  kp : Kp p H1 H
  box : BoxAt H p (c + k * i)
  its : ∃ acc es, H D = some (.lst acc) ∧ DgAll K (wo (wo H p) D) m acc es ∧ es.length = i ∧ ∀ j e, es[j]? = some e → G j e
section
variable {K : PySem.W.Frag} {m : Bool} {p D : Addr} {H1 H H2 : Hp} {c k i : Nat} {G : Nat → PyData → Prop}
theorem AcB.start (hD : H1 D = none) (hb : BoxAt H1 p c) : AcB K m p H1 D c k G 0 (L2.upd H1 D (.lst [])) :=
  ⟨(Kp.refl p H1).new hD, (hb.new hD).mono (by omega), [], [], upd_same, .nil, rfl, fun j e h => by cases h⟩
theorem AcB.ne (h : AcB K m p H1 D c k G i H) : H D ≠ none := by
  obtain ⟨acc, es, e, _⟩ := h.its
  rw [e]; exact fun z => by cases z
theorem AcB.is (h : AcB K m p H1 D c k G i H) : ∃ l, H D = some (HO.lst l) := by
  obtain ⟨acc, es, e, _⟩ := h.its
  exact ⟨acc, e⟩
theorem AcB.snoc {y : V} {d : PyData} (h : AcB K m p H1 D c k G i H) (hD : H1 D = none) (np : D ≠ p) (l : i ≤ 100000) (s : Kp p H H2) (hb : BoxAt H2 p (c + k * (i + 1))) (dy : Dg K (wo (wo H2 p) D) m y d) (g : G i d) :
    ∃ acc, H2 D = some (.lst acc) ∧ acc.length < sizeLine ∧ AcB K m p H1 D c k G (i + 1) (L2.upd H2 D (.lst (acc ++ [y]))) := by
  obtain ⟨acc, es, e, ha, le, hg⟩ := h.its
  refine ⟨acc, s _ _ np e, by rw [ha.len, le]; exact Nat.lt_of_le_of_lt l (by decide), (h.kp.trans s).free hD, hb.other np.symm, acc ++ [y], es ++ [d], upd_same, ?_, by rw [List.length_append, le]; rfl, fun j x hx => ?_⟩
  · rw [two_upd]
    exact (ha.ext (two_kp s)).append (.cons dy .nil)
  · by_cases q : j < es.length
    · rw [List.getElem?_append_left q] at hx
      exact hg j x hx
    · have ej : j = es.length := by
        have := (List.getElem?_eq_some_iff.mp hx).1
        rw [List.length_append] at this
        simp at this
        omega
      rw [ej, List.getElem?_concat_length] at hx
      injection hx with hx
      rw [← hx, ej, le]; exact g
end
/-- a comprehension over a range, its items drawn -/
theorem lc_range_box {K : PySem.W.Frag} {m : Bool} {p : Addr} {lo : Int} {n c k : Nat} {g : TG} {tt : TT} {te : TE} {vs : List Nat} {σ : L2.St} {H1 : Hp} {D : Addr} {Qd : Hp → Prop} (G : Nat → PyData → Prop) (hD : H1 D = none) (hb : BoxAt H1 p c) (hn : n ≤ 100000)
    (step : ∀ j H' (R : VK) (N : Hp → Prop), j < n → Kp p H1 H' → (∃ l, H' D = some (HO.lst l)) → BoxAt H' p (c + k * j) → (∀ y e H4, Kp p H' H4 → BoxAt H4 p (c + k * (j + 1)) → Dg K (wo (wo H4 p) D) m y e → G j e → R y H4) →
      g (.int (lo + j)) (wipe σ vs) H' fun σ2 H2 => wipe σ2 vs = wipe σ vs ∧ tt σ2 H2 fun b H3 => if b = true then te σ2 H3 R else N H3)
    (done : ∀ H' xs es, Kp p H1 H' → BoxAt H' p (c + k * n) → H' D = some (.lst xs) → DgAll K (wo (wo H' p) D) m xs es → es.length = n → (∀ j e, es[j]? = some e → G j e) → Qd H') :
    ∃ W : Nat → Nat → Hp → Prop, (∃ m, W 0 m (L2.upd H1 D (.lst []))) ∧ ∀ i m H, W i m H →
      ((Itr lo n).stop i H ∧ Qd H) ∨ ((Itr lo n).go i H ∧ ∃ Nx : Hp → Prop, (∀ H', Nx H' → ∃ m', m' < m ∧ W (i + 1) m' H') ∧ ∀ x H', (Itr lo n).yld i H x H' → g x (wipe σ vs) H' fun σ2 H2 => wipe σ2 vs = wipe σ vs ∧ tt σ2 H2 fun b H3 =>
        if b = true then te σ2 H3 fun y H4 => ∃ acc, H4 D = some (.lst acc) ∧ acc.length < sizeLine ∧ Nx (L2.upd H4 D (.lst (acc ++ [y]))) else Nx H3) := by
  have np : D ≠ p := (hb.ne hD).symm
  refine lc_range (lo := lo) (n := n) (fun i H' => AcB K m p H1 D c k G i H') (AcB.start hD hb) ?_ ?_
  · rintro i H' hi hA
    exact step i H' _ _ hi hA.kp hA.is hA.box fun y e H4 k4 b4 dy ge => hA.snoc hD np (by omega) k4 b4 dy ge
  · rintro H' ⟨k', b', acc, es, e, ha, le, hg⟩
    exact done H' acc es k' b' e ha le hg
/-- over a list of known items -/
theorem lc_list_box {K : PySem.W.Frag} {m : Bool} {p a : Addr} {c k : Nat} {xs : List V} {g : TG} {tt : TT} {te : TE} {vs : List Nat} {σ : L2.St} {H1 : Hp} {D : Addr} {Qd : Hp → Prop} (G : Nat → PyData → Prop) (hL : SqL K (wo H1 p) a xs) (hD : H1 D = none) (hb : BoxAt H1 p c) (hn : xs.length ≤ 100000)
    (step : ∀ j x H' (R : VK) (N : Hp → Prop), xs[j]? = some x → Kp p H1 H' → (∃ l, H' D = some (HO.lst l)) → BoxAt H' p (c + k * j) → (∀ y e H4, Kp p H' H4 → BoxAt H4 p (c + k * (j + 1)) → Dg K (wo (wo H4 p) D) m y e → G j e → R y H4) →
      g x (wipe σ vs) H' fun σ2 H2 => wipe σ2 vs = wipe σ vs ∧ tt σ2 H2 fun b H3 => if b = true then te σ2 H3 R else N H3)
    (done : ∀ H' ys es, Kp p H1 H' → BoxAt H' p (c + k * xs.length) → H' D = some (.lst ys) → DgAll K (wo (wo H' p) D) m ys es → es.length = xs.length → (∀ j e, es[j]? = some e → G j e) → Qd H') :
    ∃ W : Nat → Nat → Hp → Prop, (∃ m, W 0 m (L2.upd H1 D (.lst []))) ∧ ∀ i m H, W i m H →
      ((Itl K a).stop i H ∧ Qd H) ∨ ((Itl K a).go i H ∧ ∃ Nx : Hp → Prop, (∀ H', Nx H' → ∃ m', m' < m ∧ W (i + 1) m' H') ∧ ∀ x H', (Itl K a).yld i H x H' → g x (wipe σ vs) H' fun σ2 H2 => wipe σ2 vs = wipe σ vs ∧ tt σ2 H2 fun b H3 =>
        if b = true then te σ2 H3 fun y H4 => ∃ acc, H4 D = some (.lst acc) ∧ acc.length < sizeLine ∧ Nx (L2.upd H4 D (.lst (acc ++ [y]))) else Nx H3) := by
  have np : D ≠ p := (hb.ne hD).symm
  refine lc_list (K := K) (a := a) (xs := xs) (fun i H' => AcB K m p H1 D c k G i H') (AcB.start hD hb) (fun i H' _ h => (hL.ext h.kp.wo).ext (wo_same H' p)) ?_ ?_
  · rintro i x H' hx hA
    have hi := (List.getElem?_eq_some_iff.mp hx).1
    exact step i x H' _ _ hx hA.kp hA.is hA.box fun y e H4 k4 b4 dy ge => hA.snoc hD np (by omega) k4 b4 dy ge
  · rintro H' ⟨k', b', acc, es, e, ha, le, hg⟩
    exact done H' acc es k' b' e ha le hg
/-! data without lists stay where lists change -/
mutual
theorem dg_lfwo {K : PySem.W.Frag} {H : Hp} {m : Bool} {D : Addr} {l : List V} (eD : H D = some (.lst l)) : ∀ (d : PyData) (x : V), lfD d = true → Dg K H m x d → Dg K (wo H D) m x d
  | .none, _, _, h => by cases h; exact .non
  | .int _, _, _, h => by cases h; exact .int _
  | .str _, _, _, h => by cases h; exact .str _
  | .bool _, _, _, h => by cases h; exact .bl _
  | .list _, _, e, _ => by simp [lfD] at e
  | .dict _, _, e, _ => by simp [lfD] at e
  | .tuple ds, _, e, h => by
    have e' : lfAll ds = true := by simpa [lfD] using e
    cases h with
    | @tup a xs _ hs ha =>
      refine .tup ?_ (dg_lfwoAll eD ds _ e' ha)
      rcases hs with (hs | ⟨ob, hs⟩) | hs
      · have na : a ≠ D := fun z => by rw [z, eD] at hs; cases hs
        exact .inl (.inl (by rw [wo_ne na]; exact hs))
      · have na : a ≠ D := fun z => by rw [z, eD] at hs; cases hs
        exact .inl (.inr ⟨ob, by rw [wo_ne na]; exact hs⟩)
      · exact .inr hs
theorem dg_lfwoAll {K : PySem.W.Frag} {H : Hp} {m : Bool} {D : Addr} {l : List V} (eD : H D = some (.lst l)) : ∀ (ds : List PyData) (xs : List V), lfAll ds = true → DgAll K H m xs ds → DgAll K (wo H D) m xs ds
  | [], _, _, h => by cases h; exact .nil
  | d :: ds, _, e, h => by
    have e' : lfD d = true ∧ lfAll ds = true := by simpa [lfAll] using e
    cases h with
    | cons h1 h2 => exact .cons (dg_lfwo eD d _ e'.1 h1) (dg_lfwoAll eD ds _ e'.2 h2)
end
/-- a decoder holds no list -/
theorem DecAt.mut {K : PySem.W.Frag} {C : Addr} {H : Hp} {o M : Addr} {D : Dcd} {xs : List V} (h : DecAt K C H o D) (eM : H M = some (.lst xs)) : DecAt K C (wo H M) o D := by
  obtain ⟨⟨dx, Sa, Ea, e, h1, h2⟩, ok⟩ := h
  have no : o ≠ M := fun z => by rw [z, eM] at e; cases e
  exact ⟨⟨dx, Sa, Ea, by rw [wo_ne no]; exact e, dg_lfwo eM _ _ (lf_stD D) h1, dg_lfwo eM _ _ (lf_dEn D) h2⟩, ok⟩
theorem wo_updS {H : Hp} {M : Addr} {o : HO} : Same (wo H M) (L2.upd H M o) := fun b ob e => by
  have n : b ≠ M := fun z => by rw [z, wo_at] at e; cases e
  rw [wo_ne n] at e
  rw [upd_ne n]; exact e
theorem DecAt.kp {K : PySem.W.Frag} {C : Addr} {H H' : Hp} {o M : Addr} {D : Dcd} {xs : List V} (h : DecAt K C H o D) (eM : H M = some (.lst xs)) (k : Kp M H H') : DecAt K C H' o D := ((h.mut eM).ext k.wo).ext (wo_same H' M)
theorem box_lst {H : Hp} {p : Addr} {n : Nat} (h : BoxAt H p n) : ∃ xs, H p = some (HO.lst xs) := by
  obtain ⟨o, e, a, m, c, b, rfl, _⟩ := h
  exact ⟨_, e⟩
theorem DecAt.bx {K : PySem.W.Frag} {C : Addr} {H H' : Hp} {o p : Addr} {D : Dcd} {n : Nat} (h : DecAt K C H o D) (hb : BoxAt H p n) (k : Kp p H H') : DecAt K C H' o D := by
  obtain ⟨xs, e⟩ := box_lst hb
  exact h.kp e k
theorem dg_strs {K : PySem.W.Frag} {H : Hp} {m : Bool} : ∀ {xs : List V} {es : List PyData}, DgAll K H m xs es → (∀ e ∈ es, ∃ w, e = .str (S w) ∧ Low w ∧ w.length = 1) → ∃ t : List Nat, Low t ∧ t.length = es.length ∧ xs = t.map fun c => V.str (S [c])
  | _, _, .nil, _ => ⟨[], Low.nil, rfl, rfl⟩
  | _, _, .cons (d := d) h1 h2, g => by
    obtain ⟨t, lt, ln, e⟩ := dg_strs h2 fun e he => g e (List.mem_cons_of_mem _ he)
    obtain ⟨w, rfl, lw, l1⟩ := g d List.mem_cons_self
    match w, lw, l1 with
    | [c], lw, _ =>
      cases h1
      exact ⟨c :: t, fun x hx => by
        rcases List.mem_cons.mp hx with z | z
        · rw [z]; exact lw c List.mem_cons_self
        · exact lt x z, by rw [List.length_cons, List.length_cons, ln], by rw [e]; rfl⟩
theorem asg2 {te : TE} {g : TG} {D : Ends} {σ : L2.St} {H : Hp} (R : V → Hp → Prop) (h : ∀ Q' : VK, (∀ v H', R v H' → Q' v H') → te σ H Q') (rest : ∀ v H', R v H' → g v σ H' D.nx) : tAsg te g D σ H := h _ rest
theorem seq2 {te : TE} {g : TG} {s : TS} {D : Ends} {σ : L2.St} {H : Hp} (R : V → Hp → Prop) (h : ∀ Q' : VK, (∀ v H', R v H' → Q' v H') → te σ H Q') (rest : ∀ v H', R v H' → g v σ H' fun σ2 H2 => s D σ2 H2) : tSeq (tAsg te g) s D σ H := h _ rest
theorem sIx_m1 (n : Nat) : HT.sIx n n (some (-1)) = n - 1 := by
  unfold HT.sIx
  simp
  omega
theorem cut_last (l : List Nat) : cutS (S l) none (some (-1)) = S l.dropLast := by
  show S (((cs (S l)).drop (HT.sIx (S l).length 0 none)).take (HT.sIx (S l).length (S l).length (some (-1)) - HT.sIx (S l).length 0 none)) = _
  rw [S_tl, S_len, HT.sIx_none, sIx_m1, List.drop_zero, Nat.sub_zero, List.dropLast_eq_take]
end My

set_option Elab.async false
set_option linter.all false
set_option maxRecDepth 100000
set_option maxHeartbeats 4000000
/-! sorted(xs), xs a list of alike data (tuples of a text and numbers, of any lengths, too). -/
namespace My
open PySem PySem.Spec PyProof.Rows L2
/-- the items of xs, with what they are as data, in order -/
def srtD (xs : List V) (ds : List PyData) : List (V × PyData) := (xs.zip ds).mergeSort (PySem.W.dataLe false fun b => b.2)
def rSortedD (K : PySem.W.Frag) : List V → Hp → VK → Prop := fun vs H Q => ∃ (a : Addr) (xs : List V) (ds : List PyData), vs = [.ref a] ∧ SqL K H a xs ∧ DpAll K H xs ds ∧ PySem.W.AllAlike ds ∧ PySem.W.Sortable ds ∧ (∀ d ∈ ds, d.depth ≤ 60) ∧
  ∀ p, H p = none → Q (.ref p) (L2.upd H p (.lst ((srtD xs ds).map (·.1))))
theorem dpAll_len {K : PySem.W.Frag} {H : Hp} : ∀ {xs : List V} {ds : List PyData}, DpAll K H xs ds → xs.length = ds.length
  | _, _, .nil => rfl
  | _, _, .cons _ h => by rw [List.length_cons, List.length_cons, dpAll_len h]
section
variable {X : Cx} {pins : List (Addr × Obj)} {σ : L2.St} {H : Hp} {s : Shared}
theorem each_rel : ∀ {xs : List V} {ds : List PyData} {vs : List Value}, Vals xs vs → xs.length = ds.length → PySem.W.EachIs (fun v (b : V × PyData) => RelV b.1 v) vs (xs.zip ds)
  | [], [], _, .nil, _ => .nil
  | [], _ :: _, _, .nil, h => by cases h
  | x :: xs, [], _, .cons _ _, h => by cases h
  | x :: xs, d :: ds, _, .cons r rv, h => .cons r (each_rel rv (by simpa using h))
theorem each_reads (I : Inv X pins σ H s) : ∀ {xs : List V} {ds : List PyData} {vs : List Value}, Vals xs vs → DpAll X.K H xs ds → PySem.W.EachIs (fun v (b : V × PyData) => ∃ as, Reads s.heap v b.2 as) vs (xs.zip ds)
  | [], [], _, .nil, _ => .nil
  | x :: xs, d :: ds, _, .cons r rv, .cons h1 h2 => .cons (Dp.reads I d x _ h1 r) (each_reads I rv h2)
theorem vals_of_each : ∀ {vs : List Value} {bs : List (V × PyData)}, PySem.W.EachIs (fun v (b : V × PyData) => RelV b.1 v) vs bs → Vals (bs.map (·.1)) vs
  | _, _, .nil => .nil
  | _, _, .cons r h => .cons r (vals_of_each h)
theorem cr_sortedD (hu : X.A.units + 64 < cLine) : CallR X (.builtin "sorted") (rSortedD X.K) := by
  intro pins s σ H vs us Q I r h
  obtain ⟨a, xs, ds, rfl, hs, hd, hal, hk, hdp, q⟩ := h
  obtain ⟨its, rv, hl, hz⟩ := I.list hs
  obtain ⟨u, rfl, ru⟩ := vals1 r
  obtain rfl : u = Value.ref a := ru
  have hlen := dpAll_len hd
  have em : (xs.zip ds).map (fun b => b.2) = ds := by
    have := List.map_snd_zip (l₁ := xs) (l₂ := ds) (by omega)
    exact this
  have lz : (xs.zip ds).length = xs.length := by rw [List.length_zip, hlen, Nat.min_self]
  refine PySem.W.sorted_data (bs := xs.zip ds) (enc := fun b => b.2) (R := fun v (b : V × PyData) => RelV b.1 v) hl.isList (each_rel rv hlen) (each_reads I rv hd) (by rw [em]; exact hal) (by rw [em]; exact hk) (by rw [lz]; exact hz) (fun b hb => ?_) fun out ho eo => ?_
  · have : b.2 ∈ ds := by rw [← em]; exact List.mem_map.mpr ⟨b, hb, rfl⟩
    have := hdp _ this
    omega
  · obtain ⟨en, hen⟩ := sortedAll_at s.heap its out.toArray
    refine ⟨.ref (s.heap.objs.size + 1), L2.upd H (s.heap.objs.size + 1) (.lst ((srtD xs ds).map (·.1))), I.laid (t' := s.toks) (fun b o e => sortedAll_old e) (Nat.le_succ _) ⟨?_, out, en, vals_of_each eo, hen⟩, rfl, q _ (I.hok.fresh (Nat.le_succ _))⟩
    unfold srtD
    rw [List.length_map, List.length_mergeSort, lz]; exact hz
end
/-- what is sorted is what was there, in another order -/
theorem srtD_perm (xs : List V) (ds : List PyData) : (srtD xs ds).Perm (xs.zip ds) := List.mergeSort_perm _ _
end My

set_option Elab.async false
set_option linter.all false
set_option maxRecDepth 100000
set_option maxHeartbeats 4000000
/-! Steps of a passing: as keys, as data, in the heap. -/
namespace My
open PySem PySem.Spec PyProof.Rows L2
inductive Mv where
  | los (a : Int) | put (a : Int) | sam (a : Int) | tur (a b : Int)
  deriving DecidableEq
def Mv.key : Mv → List L2.Key
  | .los a => [.inr (Str.ofString "lost"), .inl a]
  | .put a => [.inr (Str.ofString "put"), .inl a]
  | .sam a => [.inr (Str.ofString "same"), .inl a]
  | .tur a b => [.inr (Str.ofString "turned"), .inl a, .inl b]
def Mv.dat : Mv → PyData
  | .los a => .tuple [.str (Str.ofString "lost"), .int a]
  | .put a => .tuple [.str (Str.ofString "put"), .int a]
  | .sam a => .tuple [.str (Str.ofString "same"), .int a]
  | .tur a b => .tuple [.str (Str.ofString "turned"), .int a, .int b]
theorem ne_ls : (Str.ofString "lost") ≠ Str.ofString "same" := by decide
theorem ne_ps : (Str.ofString "put") ≠ Str.ofString "same" := by decide
theorem ne_pl : (Str.ofString "put") ≠ Str.ofString "lost" := by decide
theorem ne_ts : (Str.ofString "turned") ≠ Str.ofString "same" := by decide
theorem ne_tl : (Str.ofString "turned") ≠ Str.ofString "lost" := by decide
theorem ne_tp : (Str.ofString "turned") ≠ Str.ofString "put" := by decide
theorem Mv.key_inj : ∀ {m n : Mv}, m.key = n.key → m = n := by
  intro m n h
  cases m <;> cases n <;> simp [Mv.key, ne_ls, ne_ps, ne_pl, ne_ts, ne_tl, ne_tp, Ne.symm ne_ls, Ne.symm ne_ps, Ne.symm ne_pl, Ne.symm ne_ts, Ne.symm ne_tl, Ne.symm ne_tp] at h ⊢ <;> first | exact h | skip
/-- the step that a datum is -/
def undM : PyData → Mv
  | .tuple [.str z, .int a] => if z = Str.ofString "lost" then .los a else if z = Str.ofString "put" then .put a else .sam a
  | .tuple [_, .int a, .int b] => .tur a b
  | _ => .sam 0
theorem undM_dat : ∀ m : Mv, undM m.dat = m
  | .los a => by show (if Str.ofString "lost" = Str.ofString "lost" then Mv.los a else if Str.ofString "lost" = Str.ofString "put" then Mv.put a else Mv.sam a) = _; exact if_pos rfl
  | .put a => by show (if Str.ofString "put" = Str.ofString "lost" then Mv.los a else if Str.ofString "put" = Str.ofString "put" then Mv.put a else Mv.sam a) = _; rw [if_neg ne_pl, if_pos rfl]
  | .sam a => by show (if Str.ofString "same" = Str.ofString "lost" then Mv.los a else if Str.ofString "same" = Str.ofString "put" then Mv.put a else Mv.sam a) = _; rw [if_neg (Ne.symm ne_ls), if_neg (Ne.symm ne_ps)]
  | .tur a b => rfl
def MvAt (H : Hp) (v : V) (m : Mv) : Prop := ∃ b, v = .ref b ∧ H b = some (.tup (m.key.map kV))
theorem MvAt.ext {H H' : Hp} (s : Same H H') {v : V} {m : Mv} (h : MvAt H v m) : MvAt H' v m := by
  obtain ⟨b, e, h⟩ := h; exact ⟨b, e, s _ _ h⟩
theorem mvs_ext {H H' : Hp} (s : Same H H') {vs : List V} {ms : List Mv} (h : Paired (MvAt H) vs ms) : Paired (MvAt H') vs ms := L2.Paired.mapP h fun _ _ h => h.ext s
theorem MvAt.dp {K : PySem.W.Frag} {H : Hp} {v : V} {m : Mv} (h : MvAt H v m) : Dp K H v m.dat := by
  obtain ⟨b, rfl, h⟩ := h
  cases m with
  | tur a b => exact .tup (.inl (.inl h)) (.cons (.str _) (.cons (.int _) (.cons (.int _) .nil)))
  | _ a => exact .tup (.inl (.inl h)) (.cons (.str _) (.cons (.int _) .nil))
theorem MvAt.dg {K : PySem.W.Frag} {H : Hp} {v : V} {m : Mv} {f : Bool} (h : MvAt H v m) : Dg K H f v m.dat := by
  obtain ⟨b, rfl, h⟩ := h
  cases m with
  | tur a b => exact .tup (.inl (.inl h)) (.cons (.str _) (.cons (.int _) (.cons (.int _) .nil)))
  | _ a => exact .tup (.inl (.inl h)) (.cons (.str _) (.cons (.int _) .nil))
theorem mvs_dp {K : PySem.W.Frag} {H : Hp} : ∀ {vs : List V} {ms : List Mv}, Paired (MvAt H) vs ms → DpAll K H vs (ms.map Mv.dat)
  | _, _, .nil => .nil
  | _, _, .cons h t => .cons h.dp (mvs_dp t)
theorem mvs_dg {K : PySem.W.Frag} {H : Hp} {f : Bool} : ∀ {vs : List V} {ms : List Mv}, Paired (MvAt H) vs ms → DgAll K H f vs (ms.map Mv.dat)
  | _, _, .nil => .nil
  | _, _, .cons h t => .cons h.dg (mvs_dg t)
theorem pr_len {α β : Type} {F : α → β → Prop} : ∀ {xs : List α} {ys : List β}, Paired F xs ys → xs.length = ys.length
  | _, _, .nil => rfl
  | _, _, .cons _ t => by rw [List.length_cons, List.length_cons, pr_len t]
theorem pr_get {α β : Type} {F : α → β → Prop} : ∀ {xs : List α} {ys : List β}, Paired F xs ys → ∀ {i : Nat} {x : α}, xs[i]? = some x → ∃ y, ys[i]? = some y ∧ F x y
  | _, _, .nil, i, x, h => by cases h
  | _, _, .cons h t, 0, x, e => by
    obtain rfl := Option.some.inj e
    exact ⟨_, rfl, h⟩
  | _, _, .cons h t, i + 1, x, e => pr_get t e
theorem pr_app {α β : Type} {F : α → β → Prop} : ∀ {xs : List α} {ys : List β} {xs' : List α} {ys' : List β}, Paired F xs ys → Paired F xs' ys' → Paired F (xs ++ xs') (ys ++ ys')
  | _, _, _, _, .nil, h => h
  | _, _, _, _, .cons h t, g => .cons h (pr_app t g)
theorem pr_zip {α β : Type} {F : α → β → Prop} : ∀ {xs : List α} {ys : List β}, Paired F xs ys → ∀ p ∈ xs.zip ys, F p.1 p.2
  | _, _, .nil => fun p h => by cases h
  | _, _, .cons h t => fun p hp => by
    rcases List.mem_cons.mp hp with e | e
    · rw [e]; exact h
    · exact pr_zip t p e
theorem mv_alike (ms : List Mv) : PySem.W.AllAlike (ms.map Mv.dat) := PySem.W.AllAlike.of fun m n => by
  cases m <;> cases n <;> rfl
theorem mv_sortable (ms : List Mv) : PySem.W.Sortable (ms.map Mv.dat) := .inl fun d hd => by
  obtain ⟨m, _, rfl⟩ := List.mem_map.mp hd
  cases m <;> exact ⟨_, _, rfl⟩
theorem mv_depth (m : Mv) : m.dat.depth ≤ 60 := by
  cases m <;> simp [Mv.dat, PyData.depth, PyData.depthAll]
/-- what is sorted, as steps -/
theorem mv_sorted {H : Hp} {xs : List V} {ms : List Mv} (h : Paired (MvAt H) xs ms) : ∃ ns : List Mv, Paired (MvAt H) ((srtD xs (ms.map Mv.dat)).map (·.1)) ns ∧ ns.Perm ms := by
  have hp := srtD_perm xs (ms.map Mv.dat)
  have hz : ∀ p ∈ srtD xs (ms.map Mv.dat), MvAt H p.1 (undM p.2) := fun p hm => by
    have hm := hp.mem_iff.mp hm
    have e : xs.zip (ms.map Mv.dat) = (xs.zip ms).map fun q => (q.1, q.2.dat) := by
      rw [List.zip_map_right]; rfl
    rw [e] at hm
    obtain ⟨q, hq, rfl⟩ := List.mem_map.mp hm
    show MvAt H q.1 (undM q.2.dat)
    rw [undM_dat]
    exact pr_zip h q hq
  refine ⟨(srtD xs (ms.map Mv.dat)).map fun p => undM p.2, ?_, ?_⟩
  · generalize srtD xs (ms.map Mv.dat) = l at hz
    induction l with
    | nil => exact .nil
    | cons p l ih => exact .cons (hz p List.mem_cons_self) (ih fun q hq => hz q (List.mem_cons_of_mem _ hq))
  · have h1 := hp.map fun p : V × PyData => undM p.2
    refine h1.trans (List.Perm.of_eq ?_)
    have l := pr_len h
    have e : (xs.zip (ms.map Mv.dat)).map (fun p : V × PyData => undM p.2) = ((xs.zip (ms.map Mv.dat)).map Prod.snd).map undM := by rw [List.map_map]; rfl
    rw [e, List.map_snd_zip (by rw [List.length_map]; omega), List.map_map]
    have e2 : (undM ∘ Mv.dat) = id := funext undM_dat
    rw [e2, List.map_id]
/-! ### the keys of a dict of steps -/
theorem put_keys {κ : Type} [DecidableEq κ] (kvs : List (κ × V)) (k : κ) (v : V) : ∀ j, j ∈ (putK kvs k v).map (·.1) ↔ j ∈ kvs.map (·.1) ∨ j = k := by
  intro j
  unfold putK
  split
  · rename_i h
    rw [List.map_map]
    have e : ((fun kv : κ × V => kv.1) ∘ fun kv => if kv.1 = k then (kv.1, v) else kv) = fun kv => kv.1 := funext fun kv => by
      show (if kv.1 = k then (kv.1, v) else kv).1 = kv.1
      split <;> rfl
    rw [e]
    refine ⟨.inl, fun z => z.elim id fun z => ?_⟩
    rw [z]
    obtain ⟨kv, hm, he⟩ := List.any_eq_true.mp h
    exact List.mem_map.mpr ⟨kv, hm, of_decide_eq_true he⟩
  · rw [List.map_append, List.mem_append]
    simp
/-- the keys of a dict, laid, when each is a step -/
theorem keys_mv {H : Hp} {P : Mv → Prop} : ∀ {kvs : List (List L2.Key × V)} {bs : List Addr}, IsKeys H kvs bs → (∀ k ∈ kvs.map (·.1), ∃ m, k = m.key ∧ P m) → ∃ ms : List Mv, Paired (MvAt H) (bs.map V.ref) ms ∧ kvs.map (·.1) = ms.map Mv.key ∧ ∀ m ∈ ms, P m
  | _, _, .nil, _ => ⟨[], .nil, rfl, fun _ h => by cases h⟩
  | _, _, .cons h t, hk => by
    obtain ⟨m, e, p⟩ := hk _ List.mem_cons_self
    obtain ⟨ms, h1, h2, h3⟩ := keys_mv t fun k hm => hk k (List.mem_cons_of_mem _ hm)
    refine ⟨m :: ms, .cons ⟨_, rfl, by rw [← e]; exact h⟩ h1, by rw [List.map_cons, List.map_cons, h2]; exact congrArg (· :: _) e, fun n hn => ?_⟩
    rcases List.mem_cons.mp hn with z | z
    · rw [z]; exact p
    · exact h3 n z
end My

set_option Elab.async false
set_option linter.all false
set_option maxRecDepth 100000
set_option maxHeartbeats 4000000
/-! Values that are drawn with the box at p: what an expression gives, whatever lists are under construction. -/
namespace My
open PySem PySem.Spec PyProof.Rows L2
/-- a draw below many; the box goes on -/
def spTake : Sp := fun vs H Q _ => ∃ (p : Addr) (n : Nat) (many : Int), vs = [.ref p, .int many] ∧ BoxAt H p n ∧ n < 1000000000 ∧ 0 < many ∧ many < 1000000 ∧
  ∀ (d : Nat) o, (d : Int) < many → BoxO (n + 1) o → Q (.int d) (upd H p o)
/-! ### the heap without the things that change -/
def woL (l : List Addr) (H : Hp) : Hp := fun b => if b ∈ l then none else H b
theorem woL_in {l : List Addr} {H : Hp} {b : Addr} (h : b ∈ l) : woL l H b = none := by unfold woL; rw [if_pos h]
theorem woL_out {l : List Addr} {H : Hp} {b : Addr} (h : b ∉ l) : woL l H b = H b := by unfold woL; rw [if_neg h]
theorem woL_nin {l : List Addr} {H : Hp} {b : Addr} {o : HO} (h : woL l H b = some o) : b ∉ l := fun z => by rw [woL_in z] at h; cases h
theorem woL_le {l : List Addr} {H : Hp} {b : Addr} {o : HO} (h : woL l H b = some o) : H b = some o := (woL_out (woL_nin h)).symm.trans h
theorem woL_same (l : List Addr) (H : Hp) : Same (woL l H) H := fun _ _ e => woL_le e
theorem woL_upd {l : List Addr} {H : Hp} {a : Addr} {o : HO} (h : a ∈ l) : woL l (L2.upd H a o) = woL l H := by
  funext b
  by_cases e : b ∈ l
  · rw [woL_in e, woL_in e]
  · rw [woL_out e, woL_out e, upd_ne (fun z => e (by rw [z]; exact h))]
theorem woL_kp {l : List Addr} {p : Addr} {H H' : Hp} (h : p ∈ l) (k : Kp p H H') : Same (woL l H) (woL l H') := fun b o e => by
  have n := woL_nin e
  rw [woL_out n]
  exact k b o (fun z => n (by rw [z]; exact h)) (woL_le e)
theorem woL_more {l : List Addr} {a : Addr} {H : Hp} : Same (woL (a :: l) H) (woL l H) := fun b o e => by
  have n := woL_nin e
  rw [woL_out (fun z => n (List.mem_cons_of_mem _ z))]
  exact woL_le e
theorem woL_one {p : Addr} {H : Hp} : woL [p] H = wo H p := by
  funext b
  by_cases e : b = p
  · rw [e, wo_at, woL_in (by simp)]
  · rw [wo_ne e, woL_out (by simpa using e)]
structure Vw (p : Addr) (V0 : Hp) (l : List Addr) (H : Hp) : Prop where
  pin : p ∈ l
  al : ∀ a ∈ l, H a ≠ none
  sm : Same V0 (woL l H)
section
variable {p : Addr} {V0 V1 : Hp} {l : List Addr} {H H' : Hp}
theorem Vw.here (v : Vw p V0 l H) : Vw p (woL l H) l H := ⟨v.pin, v.al, Same.refl _⟩
theorem Vw.sub (v : Vw p V0 l H) (s : Same V1 V0) : Vw p V1 l H := ⟨v.pin, v.al, s.trans v.sm⟩
theorem Vw.nin (v : Vw p V0 l H) {r : Addr} (h : H r = none) : r ∉ l := fun z => v.al r z h
theorem Vw.kp (v : Vw p V0 l H) (k : Kp p H H') {n : Nat} (b : BoxAt H' p n) : Vw p V0 l H' := ⟨v.pin, (fun a ha => by
  by_cases e : a = p
  · rw [e]; exact b.some
  · intro z
    cases h : H a with
    | none => exact v.al a ha h
    | some o => rw [k a o e h] at z; cases z), v.sm.trans (woL_kp v.pin k)⟩
theorem Vw.new (v : Vw p V0 l H) {r : Addr} (h : H r = none) (o : HO) : Vw p V0 l (L2.upd H r o) := ⟨v.pin, (fun a ha z => by
  have : a ≠ r := fun e => v.nin h (by rw [← e]; exact ha)
  rw [upd_ne this] at z
  exact v.al a ha z), fun b ob e => by
  have e := v.sm b ob e
  have n := woL_nin e
  rw [woL_out n, upd_ne (ne_of_none (woL_le e) h)]
  exact woL_le e⟩
theorem Vw.upd (v : Vw p V0 l H) {r : Addr} (h : r ∈ l) (o : HO) : Vw p V0 l (L2.upd H r o) := ⟨v.pin, (fun a ha z => by
  by_cases e : a = r
  · rw [e, upd_same] at z; cases z
  · rw [upd_ne e] at z; exact v.al a ha z), by rw [woL_upd h]; exact v.sm⟩
theorem Vw.push (v : Vw p V0 l H) {D : Addr} (h : H D = none) (o : HO) : Vw p V0 (D :: l) (L2.upd H D o) := ⟨List.mem_cons_of_mem _ v.pin, (fun a ha z => by
  by_cases e : a = D
  · rw [e, upd_same] at z; cases z
  · rw [upd_ne e] at z
    rcases List.mem_cons.mp ha with q | q
    · exact e q
    · exact v.al a q z), fun b ob e => by
  have e := v.sm b ob e
  have n := woL_nin e
  have nD : b ≠ D := ne_of_none (woL_le e) h
  rw [woL_out (by simp [nD, n]), upd_ne nD]
  exact woL_le e⟩
theorem Vw.drop {a : Addr} (v : Vw p V0 (a :: l) H) (h : p ∈ l) : Vw p V0 l H := ⟨h, fun b hb => v.al b (List.mem_cons_of_mem _ hb), v.sm.trans woL_more⟩
end
/-- the list at a, its items data -/
def LA (K : PySem.W.Frag) (V : Hp) (a : Addr) (ds : List PyData) : Prop := ∃ xs, V a = some (.lst xs) ∧ DgAll K V false xs ds
theorem LA.ext {K : PySem.W.Frag} {V V' : Hp} {a : Addr} {ds : List PyData} (h : LA K V a ds) (s : Same V V') : LA K V' a ds := by
  obtain ⟨xs, e, d⟩ := h
  exact ⟨xs, s _ _ e, d.ext s⟩
theorem LA.dg {K : PySem.W.Frag} {V : Hp} {a : Addr} {ds : List PyData} (h : LA K V a ds) : Dg K V false (.ref a) (.list ds) := by
  obtain ⟨xs, e, d⟩ := h
  exact .lst (SqL.of e) (fun z => by cases z) d
/-- the list at D, that grows -/
def LB (K : PySem.W.Frag) (l : List Addr) (D : Addr) (H : Hp) (es : List PyData) : Prop := ∃ acc, H D = some (.lst acc) ∧ DgAll K (woL l H) false acc es
section
variable {K : PySem.W.Frag} {p D : Addr} {l : List Addr} {H H' : Hp} {es : List PyData}
theorem LB.kp (h : LB K l D H es) (hp : p ∈ l) (n : D ≠ p) (k : Kp p H H') : LB K l D H' es := by
  obtain ⟨acc, e, d⟩ := h
  exact ⟨acc, k _ _ n e, d.ext (woL_kp hp k)⟩
theorem LB.upd (h : LB K l D H es) {a : Addr} {o : HO} (ha : a ∈ l) (n : D ≠ a) : LB K l D (L2.upd H a o) es := by
  obtain ⟨acc, e, d⟩ := h
  exact ⟨acc, by rw [upd_ne n]; exact e, by rw [woL_upd ha]; exact d⟩
theorem LB.new (h : LB K l D H es) {r : Addr} {o : HO} (hr : H r = none) (hl : r ∉ l) : LB K l D (L2.upd H r o) es := by
  obtain ⟨acc, e, d⟩ := h
  refine ⟨acc, by rw [upd_ne (ne_of_none e hr)]; exact e, d.ext fun b ob e => ?_⟩
  rw [woL_out (woL_nin e), upd_ne (ne_of_none (woL_le e) hr)]; exact woL_le e
theorem LB.push (h : LB K l D H es) {r : Addr} {o : HO} (hr : H r = none) : LB K (r :: l) D (L2.upd H r o) es := by
  obtain ⟨acc, e, d⟩ := h
  refine ⟨acc, by rw [upd_ne (ne_of_none e hr)]; exact e, d.ext fun b ob e => ?_⟩
  have n : b ≠ r := ne_of_none (woL_le e) hr
  rw [woL_out (by simp [n, woL_nin e]), upd_ne n]; exact woL_le e
theorem LB.less {r : Addr} (h : LB K (r :: l) D H es) : LB K l D H es := by
  obtain ⟨acc, e, d⟩ := h
  exact ⟨acc, e, d.ext woL_more⟩
theorem LB.start (hD : H D = none) : LB K (D :: l) D (L2.upd H D (.lst [])) [] := ⟨[], upd_same, .nil⟩
theorem LB.snoc (h : LB K l D H es) (hD : D ∈ l) {y : V} {d : PyData} (dy : Dg K (woL l H) false y d) {acc : List V} (e : H D = some (.lst acc)) : LB K l D (L2.upd H D (.lst (acc ++ [y]))) (es ++ [d]) := by
  obtain ⟨acc', e', da⟩ := h
  rw [e] at e'
  injection e' with e'
  injection e' with e'
  subst e'
  exact ⟨_, upd_same, by rw [woL_upd hD]; exact da.append (.cons dy .nil)⟩
theorem LB.done (h : LB K (D :: l) D H es) (n : D ∉ l) : LA K (woL l H) D es := by
  obtain ⟨acc, e, d⟩ := h
  exact ⟨acc, by rw [woL_out n]; exact e, d.ext woL_more⟩
end
/-! ### expressions -/
def EvB (K : PySem.W.Frag) (p : Addr) (V0 : Hp) (te : TE) (σ : L2.St) (k : Nat) (G : PyData → Prop) : Prop :=
  ∀ l H c, Vw p V0 l H → BoxAt H p c → c + k ≤ 900000000 → ∀ Q : VK, (∀ x d H', Kp p H H' → BoxAt H' p (c + k) → G d → Dg K (woL l H') false x d → Q x H') → te σ H Q
def EvN (p : Addr) (V0 : Hp) (te : TE) (σ : L2.St) (k : Nat) (P : Int → Prop) : Prop :=
  ∀ l H c, Vw p V0 l H → BoxAt H p c → c + k ≤ 900000000 → ∀ Q : VK, (∀ i H', Kp p H H' → BoxAt H' p (c + k) → P i → Q (.int i) H') → te σ H Q
def EvBs (K : PySem.W.Frag) (p : Addr) (V0 : Hp) (ta : TA) (σ : L2.St) (k n : Nat) (G : List PyData → Prop) : Prop :=
  ∀ l H c, Vw p V0 l H → BoxAt H p c → c + k ≤ 900000000 → ∀ Q : List V → Hp → Prop, (∀ xs ds H', Kp p H H' → BoxAt H' p (c + k) → ds.length = n → G ds → DgAll K (woL l H') false xs ds → Q xs H') → ta σ H Q
def EvL (K : PySem.W.Frag) (p : Addr) (V0 : Hp) (te : TE) (σ : L2.St) (k : Nat) (G : List PyData → Prop) : Prop :=
  ∀ l H c, Vw p V0 l H → BoxAt H p c → c + k ≤ 900000000 → ∀ Q : VK, (∀ a ds H', Kp p H H' → BoxAt H' p (c + k) → G ds → LA K (woL l H') a ds → Q (.ref a) H') → te σ H Q
/-- a list that is new -/
def EvF (K : PySem.W.Frag) (p : Addr) (V0 : Hp) (te : TE) (σ : L2.St) (k : Nat) (G : List PyData → Prop) : Prop :=
  ∀ l H c, Vw p V0 l H → BoxAt H p c → c + k ≤ 900000000 → ∀ Q : VK, (∀ a ds H', Kp p H H' → BoxAt H' p (c + k) → G ds → a ∉ l → H a = none → LB K (a :: l) a H' ds → Q (.ref a) H') → te σ H Q
def EvT (p : Addr) (V0 : Hp) (tt : TT) (σ : L2.St) (k : Nat) : Prop :=
  ∀ l H c, Vw p V0 l H → BoxAt H p c → c + k ≤ 900000000 → ∀ Q : Bool → Hp → Prop, (∀ b H', Kp p H H' → BoxAt H' p (c + k) → Q b H') → tt σ H Q
section
variable {K : PySem.W.Frag} {p : Addr} {V0 : Hp} {σ : L2.St} {k k1 k2 k3 n : Nat}
theorem EvB.mono {te : TE} {G G' : PyData → Prop} (h : EvB K p V0 te σ k G) (g : ∀ d, G d → G' d) : EvB K p V0 te σ k G' :=
  fun l H c v b hb Q q => h l H c v b hb Q fun x d H' k' b' g' dd => q x d H' k' b' (g d g') dd
theorem EvN.mono {te : TE} {G G' : Int → Prop} (h : EvN p V0 te σ k G) (g : ∀ d, G d → G' d) : EvN p V0 te σ k G' :=
  fun l H c v b hb Q q => h l H c v b hb Q fun i H' k' b' g' => q i H' k' b' (g i g')
theorem EvL.mono {te : TE} {G G' : List PyData → Prop} (h : EvL K p V0 te σ k G) (g : ∀ d, G d → G' d) : EvL K p V0 te σ k G' :=
  fun l H c v b hb Q q => h l H c v b hb Q fun x d H' k' b' g' dd => q x d H' k' b' (g d g') dd
theorem evB_c {x : V} {d : PyData} (h : ∀ G, Dg K G false x d) : EvB K p V0 (tC x) σ 0 (fun e => e = d) := fun l H c v b hb Q q => q x d H (Kp.refl p H) b rfl (h _)
theorem evB_var {i : Nat} {x : V} {d : PyData} (e : σ[i]? = some (some x)) (h : Dg K V0 false x d) : EvB K p V0 (tVar i) σ 0 (fun e => e = d) :=
  fun l H c v b hb Q q => ⟨x, e, q x d H (Kp.refl p H) b rfl (h.ext v.sm)⟩
theorem evN_c (i : Int) : EvN p V0 (tC (.int i)) σ 0 (fun j => j = i) := fun l H c v b hb Q q => q i H (Kp.refl p H) b rfl
theorem evN_var {i : Nat} {j : Int} (e : σ[i]? = some (some (.int j))) : EvN p V0 (tVar i) σ 0 (fun x => x = j) := fun l H c v b hb Q q => ⟨_, e, q j H (Kp.refl p H) b rfl⟩
theorem evB_I {te : TE} {P : Int → Prop} (h : EvN p V0 te σ k P) : EvB K p V0 te σ k (fun d => ∃ i, d = .int i ∧ P i) :=
  fun l H c v b hb Q q => h l H c v b hb Q fun i H' k' b' g' => q (.int i) (.int i) H' k' b' ⟨i, rfl, g'⟩ (.int i)
theorem evN_B {te : TE} {G : PyData → Prop} {P : Int → Prop} (h : EvB K p V0 te σ k G) (g : ∀ d, G d → ∃ i, d = .int i ∧ P i) : EvN p V0 te σ k P :=
  fun l H c v b hb Q q => h l H c v b hb Q fun x d H' k' b' g' dd => by
    obtain ⟨i, rfl, pi⟩ := g d g'
    cases dd
    exact q i H' k' b' pi
theorem evN_op {ta tb : TE} {P R : Int → Prop} {g : Int → Int → Int} (ha : EvN p V0 ta σ k1 P) (hb : EvN p V0 tb σ k2 R) : EvN p V0 (tOp (rI0 fun i j => .int (g i j)) ta tb) σ (k1 + k2) (fun x => ∃ i j, P i ∧ R j ∧ x = g i j) :=
  fun l H c v b hB Q q => ha l H c v b (by omega) _ fun i H1 kp1 b1 pi => hb l H1 (c + k1) (v.kp kp1 b1) b1 (by omega) _ fun j H2 kp2 b2 rj =>
    ⟨i, j, rfl, rfl, q _ _ (kp1.trans kp2) (by rw [← Nat.add_assoc]; exact b2) ⟨i, j, pi, rj, rfl⟩⟩
theorem evN_opC {ta tb : TE} {P R : Int → Prop} {C : Int → Int → Prop} {g : Int → Int → Int} (ha : EvN p V0 ta σ k1 P) (hb : EvN p V0 tb σ k2 R) (cc : ∀ i j, P i → R j → C i j) : EvN p V0 (tOp (rI C fun i j => .int (g i j)) ta tb) σ (k1 + k2) (fun x => ∃ i j, P i ∧ R j ∧ x = g i j) :=
  fun l H c v b hB Q q => ha l H c v b (by omega) _ fun i H1 kp1 b1 pi => hb l H1 (c + k1) (v.kp kp1 b1) b1 (by omega) _ fun j H2 kp2 b2 rj =>
    ⟨i, j, rfl, rfl, cc i j pi rj, q _ _ (kp1.trans kp2) (by rw [← Nat.add_assoc]; exact b2) ⟨i, j, pi, rj, rfl⟩⟩
theorem evN_opV {ta tb : TE} {a b : Int} {g : Int → Int → Int} (ha : EvN p V0 ta σ k1 (fun x => x = a)) (hb : EvN p V0 tb σ k2 (fun x => x = b)) : EvN p V0 (tOp (rI0 fun i j => .int (g i j)) ta tb) σ (k1 + k2) (fun x => x = g a b) :=
  (evN_op ha hb).mono fun x ⟨i, j, h1, h2, h3⟩ => by rw [h3, h1, h2]
theorem evN_opCV {ta tb : TE} {a b : Int} {C : Int → Int → Prop} {g : Int → Int → Int} (ha : EvN p V0 ta σ k1 (fun x => x = a)) (hb : EvN p V0 tb σ k2 (fun x => x = b)) (cc : C a b) : EvN p V0 (tOp (rI C fun i j => .int (g i j)) ta tb) σ (k1 + k2) (fun x => x = g a b) :=
  (evN_opC ha hb fun i j h1 h2 => by rw [h1, h2]; exact cc).mono fun x ⟨i, j, h1, h2, h3⟩ => by rw [h3, h1, h2]
theorem evT_eq {ta tb : TE} {P R : Int → Prop} (ha : EvN p V0 ta σ k1 P) (hb : EvN p V0 tb σ k2 R) : EvT p V0 (tTest (tOp rEq ta tb)) σ (k1 + k2) :=
  fun l H c v b hB Q q => ha l H c v b (by omega) _ fun i H1 kp1 b1 pi => hb l H1 (c + k1) (v.kp kp1 b1) b1 (by omega) _ fun j H2 kp2 b2 rj => ⟨rfl, _, rfl, q _ _ (kp1.trans kp2) (by rw [← Nat.add_assoc]; exact b2)⟩
theorem evT_bl {i : Nat} {x : Bool} (e : σ[i]? = some (some (.bl x))) : EvT p V0 (tB (tVar i)) σ 0 := fun l H c v b hB Q q => ⟨_, e, _, rfl, q x H (Kp.refl p H) b⟩
theorem evT_not {t : TT} (h : EvT p V0 t σ k) : EvT p V0 (tNot t) σ k := fun l H c v b hB Q q => h l H c v b hB _ fun x H1 k1 b1 => q _ H1 k1 b1
theorem evT_and {t u : TT} (h : EvT p V0 t σ k1) (g : EvT p V0 u σ k2) : EvT p V0 (tAnd t u) σ (k1 + k2) := fun l H c v b hB Q q => h l H c v b (by omega) _ fun x H1 kp1 b1 => by
  cases x with
  | true => exact iteT (g l H1 (c + k1) (v.kp kp1 b1) b1 (by omega) _ fun y H2 kp2 b2 => q y H2 (kp1.trans kp2) (by rw [← Nat.add_assoc]; exact b2))
  | false => exact iteF (q false H1 kp1 (b1.mono (by omega)))
theorem evN_int {te : TE} {P : Int → Prop} (h : EvN p V0 te σ k P) : EvN p V0 (tCB (fun xs H Q => (∃ i, xs = [.int i] ∧ Q (.int i) H) ∨ ∃ k, xs = [.bl k] ∧ Q (.int (if k then 1 else 0)) H) (tCons te tNil)) σ k P :=
  fun l H c v b hB Q q => h l H c v b hB _ fun i H1 kp1 b1 pi => .inl ⟨i, rfl, q i H1 kp1 b1 pi⟩
theorem evN_take {b : Nat} {m : Int} {te : TE} (e : σ[b]? = some (some (.ref p))) (h : EvN p V0 te σ k (fun x => x = m)) (m0 : 0 < m) (m1 : m < 1000000) : EvN p V0 (tCall spTake [] E0 (tCons (tVar b) (tCons te tNil))) σ (k + 1) (fun i => 0 ≤ i ∧ i < m) :=
  fun l H c v hb hB Q q => ⟨_, e, h l H c v hb (by omega) _ fun i H1 kp1 b1 pi => by
    subst pi
    exact ⟨p, _, _, rfl, b1, by omega, m0, m1, fun d o hd ho => q _ _ kp1.upd ho.at ⟨by omega, hd⟩⟩⟩
theorem evN_takeC {b : Nat} (m : Int) (e : σ[b]? = some (some (.ref p))) (m0 : 0 < m) (m1 : m < 1000000) : EvN p V0 (tCall spTake [] E0 (tCons (tVar b) (tCons (tC (.int m)) tNil))) σ 1 (fun i => 0 ≤ i ∧ i < m) :=
  fun l H c v hb hB Q q => ⟨_, e, p, c, m, rfl, hb, by omega, m0, m1, fun d o hd ho => q _ _ ((Kp.refl p H).upd) ho.at ⟨by omega, hd⟩⟩
theorem evBs_nil : EvBs K p V0 tNil σ 0 0 (fun ds => ds = []) := fun l H c v b hb Q q => q [] [] H (Kp.refl p H) b rfl rfl .nil
theorem evBs_cons {te : TE} {ta : TA} {G : PyData → Prop} {Gs : List PyData → Prop} (h : EvB K p V0 te σ k1 G) (t : EvBs K p V0 ta σ k2 n Gs) : EvBs K p V0 (tCons te ta) σ (k1 + k2) (n + 1) (fun ds => ∃ d es, ds = d :: es ∧ G d ∧ Gs es) :=
  fun l H c v b hB Q q => h l H c v b (by omega) _ fun x d H1 kp1 b1 g dd => t l H1 (c + k1) (v.kp kp1 b1) b1 (by omega) _ fun xs ds H2 kp2 b2 le gs dds =>
    q _ (d :: ds) _ (kp1.trans kp2) (by rw [← Nat.add_assoc]; exact b2) (by rw [List.length_cons, le]) ⟨d, ds, rfl, g, gs⟩ (.cons (dd.ext (woL_kp v.pin kp2)) dds)
theorem new_sm {l : List Addr} {H : Hp} {r : Addr} {o : HO} (h : H r = none) : Same (woL l H) (woL l (L2.upd H r o)) := fun b ob e => by
  rw [woL_out (woL_nin e), upd_ne (ne_of_none (woL_le e) h)]; exact woL_le e
theorem evB_tup {ta : TA} {Gs : List PyData → Prop} (h : EvBs K p V0 ta σ k n Gs) (hn : n ≤ 1000 := by decide) : EvB K p V0 (tTup ta) σ k (fun d => ∃ ds, d = .tuple ds ∧ Gs ds) :=
  fun l H c v b hB Q q => h l H c v b hB _ fun xs ds H1 kp1 b1 le gs dds => ⟨by rw [dds.len, le]; exact Nat.le_trans hn (by decide), fun r hr =>
    q _ _ _ (kp1.new hr) (b1.new hr) ⟨ds, rfl, gs⟩ (.tup (SqT.of (by rw [woL_out ((v.kp kp1 b1).nin hr)]; exact upd_same)) (dds.ext (new_sm hr)))⟩
theorem kp_none {H H' : Hp} {r : Addr} (k : Kp p H H') (n : r ≠ p) (h : H' r = none) : H r = none := by
  cases e : H r with
  | none => rfl
  | some o => rw [k r o n e] at h; cases h
theorem evL_F {te : TE} {G : List PyData → Prop} (h : EvF K p V0 te σ k G) : EvL K p V0 te σ k G :=
  fun l H c v b hb Q q => h l H c v b hb Q fun x d H' k' b' g' n _ lb => q x d H' k' b' g' (lb.done n)
theorem EvF.mono {te : TE} {G G' : List PyData → Prop} (h : EvF K p V0 te σ k G) (g : ∀ d, G d → G' d) : EvF K p V0 te σ k G' :=
  fun l H c v b hb Q q => h l H c v b hb Q fun x d H' k' b' g' n n' dd => q x d H' k' b' (g d g') n n' dd
theorem lb_new {l : List Addr} {H : Hp} {r : Addr} {xs : List V} {ds : List PyData} (h : H r = none) (d : DgAll K (woL l H) false xs ds) : LB K (r :: l) r (L2.upd H r (.lst xs)) ds := by
  refine ⟨xs, upd_same, d.ext fun b ob e => ?_⟩
  have n : b ≠ r := ne_of_none (woL_le e) h
  rw [woL_out (by simp [n, woL_nin e]), upd_ne n]; exact woL_le e
theorem evF_lst {ta : TA} {Gs : List PyData → Prop} (h : EvBs K p V0 ta σ k n Gs) (hn : n ≤ 1000 := by decide) : EvF K p V0 (tLst ta) σ k (fun ds => ds.length = n ∧ Gs ds) :=
  fun l H c v b hB Q q => h l H c v b hB _ fun xs ds H1 kp1 b1 le gs dds => ⟨by rw [dds.len, le]; exact Nat.le_trans hn (by decide), fun r hr =>
    q _ _ _ (kp1.new hr) (b1.new hr) ⟨le, gs⟩ ((v.kp kp1 b1).nin hr) (kp_none kp1 (b1.ne hr).symm hr) (lb_new hr dds)⟩
theorem evL_var {i : Nat} {a : Addr} {ds : List PyData} (e : σ[i]? = some (some (.ref a))) (h : LA K V0 a ds) : EvL K p V0 (tVar i) σ 0 (fun es => es = ds) :=
  fun l H c v b hb Q q => ⟨_, e, q a ds H (Kp.refl p H) b rfl (h.ext v.sm)⟩
theorem evB_L {te : TE} {G : List PyData → Prop} (h : EvL K p V0 te σ k G) : EvB K p V0 te σ k (fun d => ∃ ds, d = .list ds ∧ G ds) :=
  fun l H c v b hB Q q => h l H c v b hB Q fun a ds H1 kp1 b1 g la => q _ _ _ kp1 b1 ⟨ds, rfl, g⟩ la.dg
theorem evF_cat {ta tb : TE} {P R : List PyData → Prop} (ha : EvL K p V0 ta σ k1 P) (hb : EvL K p V0 tb σ k2 R) (hl : ∀ a b, P a → R b → a.length + b.length ≤ 100000) : EvF K p V0 (tOp rCat ta tb) σ (k1 + k2) (fun ds => ∃ a b, P a ∧ R b ∧ ds = a ++ b) :=
  fun l H c v b hB Q q => ha l H c v b (by omega) _ fun x ds H1 kp1 b1 pd la => hb l H1 (c + k1) (v.kp kp1 b1) b1 (by omega) _ fun y es H2 kp2 b2 re lb => by
    obtain ⟨xs, ex, dx⟩ := la.ext (woL_kp v.pin kp2)
    obtain ⟨ys, ey, dy⟩ := lb
    have v2 := (v.kp kp1 b1).kp kp2 b2
    refine ⟨x, y, xs, ys, rfl, rfl, woL_le ex, woL_le ey, by rw [dx.len, dy.len]; exact Nat.le_trans (hl _ _ pd re) (by decide), fun r hr => ?_⟩
    exact q _ (ds ++ es) _ ((kp1.trans kp2).new hr) (by rw [← Nat.add_assoc]; exact b2.new hr) ⟨ds, es, pd, re, rfl⟩ (v2.nin hr) (kp_none (kp1.trans kp2) (b2.ne hr).symm hr) (lb_new hr (dx.append dy))
theorem dgAll_rep {K : PySem.W.Frag} {H : Hp} {xs : List V} {ds : List PyData} (h : DgAll K H false xs ds) : ∀ m : Nat, DgAll K H false (List.replicate m xs).flatten (List.replicate m ds).flatten
  | 0 => .nil
  | m + 1 => by rw [List.replicate_succ, List.replicate_succ, List.flatten_cons, List.flatten_cons]; exact h.append (dgAll_rep h m)
theorem evF_rep {ta tb : TE} {P : List PyData → Prop} {R : Int → Prop} (ha : EvL K p V0 ta σ k1 P) (hb : EvN p V0 tb σ k2 R) (hl : ∀ a i, P a → R i → a.length * i.toNat ≤ 100000 ∧ i ≤ 100000 ∧ -100000 ≤ i) : EvF K p V0 (tOp rRep ta tb) σ (k1 + k2) (fun ds => ∃ a i, P a ∧ R i ∧ ds = (List.replicate i.toNat a).flatten) :=
  fun l H c v b hB Q q => ha l H c v b (by omega) _ fun x ds H1 kp1 b1 pd la => hb l H1 (c + k1) (v.kp kp1 b1) b1 (by omega) _ fun i H2 kp2 b2 re => by
    obtain ⟨xs, ex, dx⟩ := la.ext (woL_kp v.pin kp2)
    have v2 := (v.kp kp1 b1).kp kp2 b2
    obtain ⟨h1, h2, h3⟩ := hl _ _ pd re
    refine ⟨x, i, xs, rfl, rfl, woL_le ex, by omega, by omega, by rw [dx.len]; exact Nat.le_trans h1 (by decide), fun r hr => ?_⟩
    exact q _ _ _ ((kp1.trans kp2).new hr) (by rw [← Nat.add_assoc]; exact b2.new hr) ⟨ds, i, pd, re, rfl⟩ (v2.nin hr) (kp_none (kp1.trans kp2) (b2.ne hr).symm hr) (lb_new hr (dgAll_rep dx i.toNat))
/-- an item of a list -/
theorem evB_ix {ta tb : TE} {P : List PyData → Prop} {R : Int → Prop} (ha : EvL K p V0 ta σ k1 P) (hb : EvN p V0 tb σ k2 R) (hl : ∀ a i, P a → R i → 0 ≤ i ∧ i.toNat < a.length) : EvB K p V0 (tOp (rIxL K) ta tb) σ (k1 + k2) (fun d => ∃ a i, P a ∧ R i ∧ a[i.toNat]? = some d) :=
  fun l H c v b hB Q q => ha l H c v b (by omega) _ fun x ds H1 kp1 b1 pd la => hb l H1 (c + k1) (v.kp kp1 b1) b1 (by omega) _ fun i H2 kp2 b2 re => by
    obtain ⟨xs, ex, dx⟩ := la.ext (woL_kp v.pin kp2)
    obtain ⟨h1, h2⟩ := hl _ _ pd re
    obtain ⟨y, d, ey, ed, dy⟩ := dx.nth h2
    exact ⟨x, xs, i, y, rfl, rfl, SqL.of (woL_le ex), by rw [show i = ((i.toNat : Nat) : Int) by omega]; exact atI_nat ey, q y d H2 (kp1.trans kp2) (by rw [← Nat.add_assoc]; exact b2) ⟨ds, i, pd, re, ed⟩ dy⟩
theorem evB_ixD {ta tb : TE} {P : PyData → Prop} {R : Int → Prop} (ha : EvB K p V0 ta σ k1 P) (hb : EvN p V0 tb σ k2 R) (hl : ∀ d i, P d → R i → ∃ ds, d = .list ds ∧ 0 ≤ i ∧ i.toNat < ds.length) : EvB K p V0 (tOp (rIxL K) ta tb) σ (k1 + k2) (fun d => ∃ a i, P (.list a) ∧ R i ∧ a[i.toNat]? = some d) :=
  fun l H c v b hB Q q => ha l H c v b (by omega) _ fun x dx H1 kp1 b1 pd la => hb l H1 (c + k1) (v.kp kp1 b1) b1 (by omega) _ fun i H2 kp2 b2 re => by
    obtain ⟨ds, rfl, h1, h2⟩ := hl _ _ pd re
    obtain ⟨a, xs, rfl, ex, _, dxs⟩ := (la.ext (woL_kp v.pin kp2)).lst_of
    obtain ⟨y, d, ey, ed, dy⟩ := dxs.nth h2
    exact ⟨a, xs, i, y, rfl, rfl, ex.ext (woL_same l H2), by rw [show i = ((i.toNat : Nat) : Int) by omega]; exact atI_nat ey, q y d H2 (kp1.trans kp2) (by rw [← Nat.add_assoc]; exact b2) ⟨ds, i, pd, re, ed⟩ dy⟩
/-- one of a menu -/
theorem evB_menu {b : Nat} {ta : TA} {Gs : List PyData → Prop} (e : σ[b]? = some (some (.ref p))) (h : EvBs K p V0 ta σ k n Gs) (h0 : 0 < n := by decide) (hn : n ≤ 1000 := by decide) :
    EvB K p V0 (tOp (rIxL K) (tLst ta) (tCall spTake [] E0 (tCons (tVar b) (tCons (tC (.int (n : Nat))) tNil)))) σ (k + 1) (fun d => ∃ ds, Gs ds ∧ d ∈ ds) :=
  (evB_ix (evL_F (evF_lst h hn)) (evN_takeC (n : Int) e (by omega) (by omega)) (fun a i ha hi => by
    have h1 : a.length = n := ha.1
    exact ⟨hi.1, by have := hi.2; omega⟩)).mono fun d ⟨a, i, h1, h2, h3⟩ => ⟨a, h1.2, List.mem_of_getElem? h3⟩
theorem evB_if {tt : TT} {ta tb : TE} {P R : PyData → Prop} (ht : EvT p V0 tt σ k1) (ha : EvB K p V0 ta σ k2 P) (hb : EvB K p V0 tb σ k3 R) : EvB K p V0 (tIf tt ta tb) σ (k1 + k2 + k3) (fun d => P d ∨ R d) :=
  fun l H c v b hB Q q => ht l H c v b (by omega) _ fun t H1 kp1 b1 => by
    cases t with
    | true => exact iteT (ha l H1 (c + k1) (v.kp kp1 b1) b1 (by omega) _ fun x d H2 kp2 b2 g dd => q x d H2 (kp1.trans kp2) (b2.mono (by omega)) (.inl g) dd)
    | false => exact iteF (hb l H1 (c + k1) (v.kp kp1 b1) b1 (by omega) _ fun x d H2 kp2 b2 g dd => q x d H2 (kp1.trans kp2) (b2.mono (by omega)) (.inr g) dd)
/-- over a range -/
theorem evF_lc {tn te : TE} {i m : Nat} {vs : List Nat} {G : Nat → PyData → Prop} (hn : EvN p V0 tn σ k1 (fun x => x = (m : Nat))) (hm : m ≤ 10000) (hw : ∀ x, wipe ((wipe σ vs).set i x) vs = wipe σ vs)
    (h : ∀ j, j < m → ∀ V1, Same V0 V1 → EvB K p V1 te ((wipe σ vs).set i (some (.int ((0 : Int) + (j : Nat))))) k2 (G j)) : EvF K p V0 (tLc (iRng1 (tCons tn tNil)) (gName i) tYes te vs) σ (k1 + k2 * m) (fun ds => ds.length = m ∧ ∀ j e, ds[j]? = some e → G j e) :=
  fun l H c v b hB Q q => hn l H c v b (by omega) _ fun x H1 kp1 b1 ex => by
    subst ex
    have v1 := v.kp kp1 b1
    refine ⟨(m : Int), rfl, by omega, by omega, fun D hD => ?_⟩
    rw [Int.toNat_natCast]
    have nD : D ≠ p := (b1.ne hD).symm
    have nl : D ∉ l := v1.nin hD
    refine lc_range (lo := 0) (n := m) (fun j H' => Vw p V0 (D :: l) H' ∧ Kp p H H' ∧ BoxAt H' p (c + k1 + k2 * j) ∧ ∃ es, LB K (D :: l) D H' es ∧ es.length = j ∧ ∀ i e, es[i]? = some e → G i e) ⟨v1.push hD _, kp1.new hD, (b1.new hD).mono (by omega), [], LB.start hD, rfl, fun i e z => by cases z⟩ ?_ ?_
    · rintro j H2 hj ⟨v2, kp2, b2, es, lb, le, hg⟩
      have mj : k2 * (j + 1) ≤ k2 * m := Nat.mul_le_mul_left _ (by omega)
      refine ⟨hw _, tYesT ?_⟩
      refine h j hj V0 (Same.refl _) (D :: l) H2 _ v2 b2 (by rw [Nat.mul_succ] at mj; omega) _ fun y d H3 kp3 b3 g dd => ?_
      have lb3 := lb.kp v2.pin nD kp3
      obtain ⟨acc, ea, da⟩ := id lb3
      have v3 := v2.kp kp3 b3
      refine ⟨acc, ea, by rw [da.len, le]; exact Nat.lt_of_le_of_lt (by omega : j ≤ 10000) (by decide), v3.upd (List.mem_cons_self) _, (kp2.trans kp3).free ?_, (b3.other nD.symm).mono (by rw [Nat.mul_succ]; omega), es ++ [d], lb3.snoc List.mem_cons_self dd ea, by rw [List.length_append, le]; rfl, fun i e z => ?_⟩
      · cases hh : H D with
        | none => rfl
        | some o => rw [kp1 D o nD hh] at hD; cases hD
      · by_cases qi : i < es.length
        · rw [List.getElem?_append_left qi] at z; exact hg i e z
        · have ei : i = es.length := by
            have := (List.getElem?_eq_some_iff.mp z).1
            rw [List.length_append] at this
            simp at this
            omega
          rw [ei, List.getElem?_concat_length] at z
          injection z with z
          rw [← z, ei, le]; exact g
    · rintro H2 ⟨v2, kp2, b2, es, lb, le, hg⟩
      exact q D es H2 kp2 (by rw [← Nat.add_assoc]; exact b2) ⟨le, hg⟩ nl (kp_none kp1 nD hD) lb
end
/-- over a list that stands -/
theorem evF_lcL {K : PySem.W.Frag} {p : Addr} {V0 : Hp} {σ : L2.St} {k2 : Nat} {te : TE} {i j : Nat} {a : Addr} {vs : List Nat} {ds : List PyData} {G : PyData → Prop} (e : σ[i]? = some (some (.ref a))) (la : LA K V0 a ds) (hm : ds.length ≤ 10000) (hw : ∀ x, wipe ((wipe σ vs).set j x) vs = wipe σ vs)
    (h : ∀ (q : Nat) (x : V) (d : PyData), ds[q]? = some d → ∀ V1, Same V0 V1 → Dg K V1 false x d → EvB K p V1 te ((wipe σ vs).set j (some x)) k2 G) : EvF K p V0 (tLc (iList K (tVar i)) (gName j) tYes te vs) σ (k2 * ds.length) (fun es => es.length = ds.length ∧ ∀ d ∈ es, G d) :=
  fun l H c v b hb Q q => by
    obtain ⟨xs, ea, da⟩ := la.ext v.sm
    refine ⟨_, e, a, rfl, ⟨xs, SqL.of (woL_le ea)⟩, fun D hD => ?_⟩
    have nD : D ≠ p := (b.ne hD).symm
    have nl : D ∉ l := v.nin hD
    have lx := da.len
    refine lc_list (K := K) (a := a) (xs := xs) (fun j H' => Vw p (woL l H) (D :: l) H' ∧ Kp p H H' ∧ BoxAt H' p (c + k2 * j) ∧ ∃ es, LB K (D :: l) D H' es ∧ es.length = j ∧ ∀ e ∈ es, G e) ⟨v.here.push hD _, (Kp.refl p H).new hD, (b.new hD).mono (by omega), [], LB.start hD, rfl, fun e z => by cases z⟩ (fun j H' _ h => SqL.of (woL_le (h.1.sm _ _ ea))) ?_ ?_
    · rintro q' x H2 hx ⟨v2, kp2, b2, es, lb, le, hg⟩
      have hq : q' < ds.length := by rw [← lx]; exact (List.getElem?_eq_some_iff.mp hx).1
      obtain ⟨d, ed, dx⟩ := da.at q' x hx
      have mj : k2 * (q' + 1) ≤ k2 * ds.length := Nat.mul_le_mul_left _ (by omega)
      refine ⟨hw _, tYesT ?_⟩
      refine h q' x d ed (woL l H) v.sm dx (D :: l) H2 _ v2 b2 (by rw [Nat.mul_succ] at mj; omega) _ fun y d' H3 kp3 b3 g dd => ?_
      have lb3 := lb.kp v2.pin nD kp3
      obtain ⟨acc, ea3, da3⟩ := id lb3
      have v3 := v2.kp kp3 b3
      refine ⟨acc, ea3, by rw [da3.len, le]; exact Nat.lt_of_le_of_lt (by omega : q' ≤ 10000) (by decide), v3.upd (List.mem_cons_self) _, (kp2.trans kp3).free hD, (b3.other nD.symm).mono (by rw [Nat.mul_succ]; omega), es ++ [d'], lb3.snoc List.mem_cons_self dd ea3, by rw [List.length_append, le]; rfl, fun e z => ?_⟩
      rcases List.mem_append.mp z with z | z
      · exact hg e z
      · rw [List.mem_singleton.mp z]; exact g
    · rintro H2 ⟨v2, kp2, b2, es, lb, le, hg⟩
      exact q D es H2 kp2 (by rw [← lx]; exact b2) ⟨by rw [le, lx], hg⟩ nl hD lb
theorem woL_fresh {l : List Addr} {p R : Addr} {H H' : Hp} (h : p ∈ l) (k : Kp p H H') (hR : H R = none) : Same (woL l H) (woL (R :: l) H') := fun b o e => by
  have n := woL_nin e
  have nR : b ≠ R := ne_of_none (woL_le e) hR
  rw [woL_out (by simp [n, nR])]
  exact k b o (fun z => n (by rw [z]; exact h)) (woL_le e)
theorem LB.fresh {K : PySem.W.Frag} {l : List Addr} {p D R : Addr} {H H' : Hp} {es : List PyData} (lb : LB K l D H es) (h : p ∈ l) (n : D ≠ p) (k : Kp p H H') (hR : H R = none) : LB K (R :: l) D H' es := by
  obtain ⟨acc, e, d⟩ := lb
  exact ⟨acc, k _ _ n e, d.ext (woL_fresh h k hR)⟩
theorem evN_len {K : PySem.W.Frag} {p : Addr} {V0 : Hp} {σ : L2.St} {i : Nat} {x : V} {ds : List PyData} (e : σ[i]? = some (some x)) (h : Dg K V0 false x (.list ds)) :
    EvN p V0 (tCB (fun xs H Q => ∃ p ys, xs = [.ref p] ∧ (SqL K H p ys ∨ SqT K H p ys) ∧ Q (.int ys.length) H) (tCons (tVar i) tNil)) σ 0 (fun x => x = (ds.length : Nat)) :=
  fun l H c v b hB Q q => by
    obtain ⟨a, ys, rfl, hs, _, hd⟩ := (h.ext v.sm).lst_of
    exact ⟨_, e, a, ys, rfl, .inl (hs.ext (woL_same l H)), by rw [hd.len]; exact q _ H (Kp.refl p H) b rfl⟩
/-! ### words, entries, rows -/
def LN (n : Nat) (G : PyData → Prop) (ds : List PyData) : Prop := ds.length = n ∧ ∀ d ∈ ds, G d
def WordD (d : PyData) : Prop := ∃ w, d = .str (S w) ∧ okW w
def EndD (d : PyData) : Prop := ∃ q : Option (List Nat), d = wdD q ∧ ∀ w, q = some w → okW w
def EntD (n : Nat) (d : PyData) : Prop := ∃ e : Ent, d = My.enD e ∧ okE n e
def RowD (sg n : Nat) (d : PyData) : Prop := ∃ r : List Ent, d = .list (r.map My.enD) ∧ r.length = sg ∧ ∀ e ∈ r, okE n e
def EvBA (K : PySem.W.Frag) (p : Addr) (V0 : Hp) (ta : TA) (σ : L2.St) (k n : Nat) (G : PyData → Prop) : Prop := EvBs K p V0 ta σ k n (fun ds => ∀ d ∈ ds, G d)
section
variable {K : PySem.W.Frag} {p : Addr} {V0 : Hp} {σ : L2.St} {k k1 k2 k3 n m : Nat} {G : PyData → Prop}
theorem evBA_nil : EvBA K p V0 tNil σ 0 0 G := fun l H c v b hb Q q => q [] [] H (Kp.refl p H) b rfl (fun d h => by cases h) .nil
theorem evBA_cons {te : TE} {ta : TA} (h : EvB K p V0 te σ k1 G) (t : EvBA K p V0 ta σ k2 n G) : EvBA K p V0 (tCons te ta) σ (k1 + k2) (n + 1) G :=
  fun l H c v b hB Q q => evBs_cons h t l H c v b hB Q fun xs ds H' kp' b' le ⟨d, es, e, g, gs⟩ dd => q xs ds H' kp' b' le (by
    rw [e]; intro x hx
    rcases List.mem_cons.mp hx with z | z
    · rw [z]; exact g
    · exact gs x z) dd
theorem evB_menuA {b : Nat} {ta : TA} (e : σ[b]? = some (some (.ref p))) (h : EvBA K p V0 ta σ k n G) (h0 : 0 < n := by decide) (hn : n ≤ 1000 := by decide) :
    EvB K p V0 (tOp (rIxL K) (tLst ta) (tCall spTake [] E0 (tCons (tVar b) (tCons (tC (.int (n : Nat))) tNil)))) σ (k + 1) G :=
  (evB_menu e h h0 hn).mono fun d ⟨ds, h1, h2⟩ => h1 d h2
theorem evF_lstA {ta : TA} (h : EvBA K p V0 ta σ k n G) (hn : n ≤ 1000 := by decide) : EvF K p V0 (tLst ta) σ k (LN n G) := evF_lst h hn
theorem evF_catA {ta tb : TE} {n1 n2 : Nat} (ha : EvL K p V0 ta σ k1 (LN n1 G)) (hb : EvL K p V0 tb σ k2 (LN n2 G)) (hl : n1 + n2 ≤ 100000) : EvF K p V0 (tOp rCat ta tb) σ (k1 + k2) (LN (n1 + n2) G) :=
  (evF_cat ha hb fun a b x y => by rw [x.1, y.1]; exact hl).mono fun d ⟨a, b, x, y, e⟩ => ⟨by rw [e, List.length_append, x.1, y.1], fun d' hd => by
    rw [e] at hd
    exact (List.mem_append.mp hd).elim (x.2 d') (y.2 d')⟩
theorem evF_catN {ta tb : TE} {n n1 n2 : Nat} (ha : EvL K p V0 ta σ k1 (LN n1 G)) (hb : EvL K p V0 tb σ k2 (LN n2 G)) (hl : n1 + n2 ≤ 100000) (hn : n = n1 + n2 := by omega) : EvF K p V0 (tOp rCat ta tb) σ (k1 + k2) (LN n G) := by
  subst hn
  exact evF_catA ha hb hl
theorem evF_repA {ta tb : TE} {n1 n2 : Nat} (ha : EvL K p V0 ta σ k1 (LN n1 G)) (hb : EvN p V0 tb σ k2 (fun x => x = (n2 : Nat))) (hl : n1 * n2 ≤ 100000) (h2 : n2 ≤ 100000) : EvF K p V0 (tOp rRep ta tb) σ (k1 + k2) (LN (n1 * n2) G) :=
  (evF_rep ha hb fun a i x y => by subst y; rw [x.1, Int.toNat_natCast]; exact ⟨hl, by omega, by omega⟩).mono fun d ⟨a, i, x, y, e⟩ => by
    subst y
    rw [Int.toNat_natCast] at e
    subst e
    refine ⟨?_, fun d' hd => ?_⟩
    · rw [List.length_flatten, List.map_replicate, List.sum_replicate_nat, x.1, Nat.mul_comm]
    · obtain ⟨l, hl, hd⟩ := List.mem_flatten.mp hd
      rw [List.eq_of_mem_replicate hl] at hd
      exact x.2 d' hd
theorem evF_lcA {tn te : TE} {i m : Nat} {vs : List Nat} (hn : EvN p V0 tn σ k1 (fun x => x = (m : Nat))) (hm : m ≤ 10000) (hw : ∀ x, wipe ((wipe σ vs).set i x) vs = wipe σ vs)
    (h : ∀ j, j < m → ∀ V1, Same V0 V1 → EvB K p V1 te ((wipe σ vs).set i (some (.int ((0 : Int) + (j : Nat))))) k2 G) : EvF K p V0 (tLc (iRng1 (tCons tn tNil)) (gName i) tYes te vs) σ (k1 + k2 * m) (LN m G) :=
  (evF_lc (G := fun _ => G) hn hm hw h).mono fun ds ⟨e, g⟩ => ⟨e, fun d hd => by
    obtain ⟨j, hj⟩ := List.getElem?_of_mem hd
    exact g j d hj⟩
theorem evB_wordC {z : Str} (h : isWd (.str z) = true) : EvB K p V0 (tC (.str z)) σ 0 WordD := (evB_c fun _ => .str z).mono fun d e => by
  obtain ⟨w, ew, ow⟩ := isWd_str h
  exact ⟨w, by rw [e, ew], ow⟩
theorem evB_endN : EvB K p V0 (tC .non) σ 0 EndD := (evB_c fun _ => .non).mono fun d e => ⟨none, e, fun w z => by cases z⟩
theorem evB_endW {te : TE} (h : EvB K p V0 te σ k WordD) : EvB K p V0 te σ k EndD := h.mono fun d ⟨w, e, o⟩ => ⟨some w, e, fun w' z => by injection z with z; rw [← z]; exact o⟩
theorem evB_entN : EvB K p V0 (tC .non) σ 0 (EntD n) := (evB_c fun _ => .non).mono fun d e => ⟨none, e, fun g w z => by cases z⟩
theorem evB_entT {ta tb : TE} (hi : EvN p V0 ta σ k1 (fun i => 0 ≤ i ∧ i < (n : Nat))) (hw : EvB K p V0 tb σ k2 WordD) : EvB K p V0 (tTup (tCons ta (tCons tb tNil))) σ (k1 + (k2 + 0)) (EntD n) :=
  (evB_tup (evBs_cons (evB_I hi) (evBs_cons hw evBs_nil))).mono fun d ⟨ds, e, d1, es, e1, ⟨i, e2, h1, h2⟩, d2, es2, e3, ⟨w, e4, ow⟩, e5⟩ => by
    subst e e1 e2 e3 e4 e5
    refine ⟨some (i.toNat, w), ?_, fun g w' z => ?_⟩
    · show PyData.tuple [.int i, .str (S w)] = .tuple [.int ((i.toNat : Nat) : Int), .str (S w)]
      rw [Int.toNat_of_nonneg h1]
    · injection z with z
      injection z with z1 z2
      rw [← z1, ← z2]
      exact ⟨by omega, ow⟩
theorem ents_of : ∀ {ds : List PyData}, (∀ d ∈ ds, EntD n d) → ∃ r : List Ent, ds = r.map My.enD ∧ r.length = ds.length ∧ ∀ e ∈ r, okE n e
  | [], _ => ⟨[], rfl, rfl, fun e h => by cases h⟩
  | d :: ds, h => by
    obtain ⟨r, e1, e2, e3⟩ := ents_of fun x hx => h x (List.mem_cons_of_mem _ hx)
    obtain ⟨e, rfl, oe⟩ := h d List.mem_cons_self
    refine ⟨e :: r, by rw [List.map_cons, e1], by rw [List.length_cons, List.length_cons, e2], fun x hx => ?_⟩
    rcases List.mem_cons.mp hx with z | z
    · rw [z]; exact oe
    · exact e3 x z
theorem rowD_of {ds : List PyData} (h : LN m (EntD n) ds) : RowD m n (.list ds) := by
  obtain ⟨r, e1, e2, e3⟩ := ents_of h.2
  exact ⟨r, by rw [e1], by rw [e2, h.1], e3⟩
theorem evB_rowL {te : TE} (h : EvL K p V0 te σ k (LN m (EntD n))) : EvB K p V0 te σ k (RowD m n) := (evB_L h).mono fun d ⟨ds, e, g⟩ => by rw [e]; exact rowD_of g
theorem evB_rowI {ta tb : TE} (ha : EvB K p V0 ta σ k1 (RowD m n)) (hb : EvN p V0 tb σ k2 (fun x => 0 ≤ x ∧ x < (m : Nat))) : EvB K p V0 (tOp (rIxL K) ta tb) σ (k1 + k2) (EntD n) :=
  (evB_ixD ha hb fun d i ⟨r, e, l, _⟩ h => ⟨_, e, h.1, by rw [List.length_map, l]; have := h.2; omega⟩).mono fun d ⟨a, i, ⟨r, e, l, o⟩, h, z⟩ => by
    injection e with e
    rw [e, List.getElem?_map] at z
    cases hh : r[i.toNat]? with
    | none => rw [hh] at z; cases z
    | some q =>
      rw [hh] at z
      have z := Option.some.inj z
      exact ⟨q, z.symm, o q (List.mem_of_getElem? hh)⟩
abbrev EndsD (n : Nat) (d : PyData) : Prop := ∃ ds, d = .list ds ∧ LN n EndD ds
theorem evB_endsL {te : TE} (h : EvL K p V0 te σ k (LN n EndD)) : EvB K p V0 te σ k (EndsD n) := evB_L h
abbrev NumD (n : Int) (d : PyData) : Prop := ∃ i, d = .int i ∧ 0 ≤ i ∧ i < n
abbrev BoolD (d : PyData) : Prop := ∃ b, d = .bool b
theorem evB_eq {ta tb : TE} {P R : Int → Prop} (ha : EvN p V0 ta σ k1 P) (hb : EvN p V0 tb σ k2 R) : EvB K p V0 (tOp rEq ta tb) σ (k1 + k2) BoolD :=
  fun l H c v b hB Q q => ha l H c v b (by omega) _ fun i H1 kp1 b1 pi => hb l H1 (c + k1) (v.kp kp1 b1) b1 (by omega) _ fun j H2 kp2 b2 rj => ⟨rfl, q _ _ _ (kp1.trans kp2) (by rw [← Nat.add_assoc]; exact b2) ⟨_, rfl⟩ (.bl _)⟩
theorem evB_ixLN {i j : Nat} {x : V} {y : Int} {ds : List PyData} (e : σ[i]? = some (some x)) (dx : Dg K V0 false x (.list ds)) (g : LN m G ds) (e2 : σ[j]? = some (some (.int y))) (h : 0 ≤ y ∧ y < (m : Nat)) : EvB K p V0 (tOp (rIxL K) (tVar i) (tVar j)) σ 0 G :=
  (evB_ixD (evB_var e dx) (evN_var e2) (fun d i hd hi => ⟨ds, hd, by rw [hi]; exact h.1, by rw [hi, g.1]; have := h.2; omega⟩)).mono fun d ⟨a, i, ea, hi, z⟩ => by
    injection ea with ea
    subst ea
    exact g.2 d (List.mem_of_getElem? z)
theorem evB_ixLC {i : Nat} {x : V} {y : Int} {ds : List PyData} (e : σ[i]? = some (some x)) (dx : Dg K V0 false x (.list ds)) (g : LN m G ds) (h : 0 ≤ y ∧ y < (m : Nat)) : EvB K p V0 (tOp (rIxL K) (tVar i) (tC (.int y))) σ 0 G :=
  (evB_ixD (evB_var e dx) (evN_c y) (fun d i hd hi => ⟨ds, hd, by rw [hi]; exact h.1, by rw [hi, g.1]; have := h.2; omega⟩)).mono fun d ⟨a, i, ea, hi, z⟩ => by
    injection ea with ea
    subst ea
    exact g.2 d (List.mem_of_getElem? z)
theorem evN_num {te : TE} {n : Int} (h : EvB K p V0 te σ k (NumD n)) : EvN p V0 te σ k (fun x => 0 ≤ x ∧ x < n) := evN_B h fun d z => z
theorem evT_B {te : TE} (h : EvB K p V0 te σ k BoolD) : EvT p V0 (tB te) σ k := fun l H c v b hB Q q => h l H c v b hB _ fun x d H1 k1 b1 ⟨t, e⟩ dd => by
  subst e
  cases dd
  exact ⟨t, rfl, q t H1 k1 b1⟩
/-- a menu of lists -/
def EvLs (K : PySem.W.Frag) (p : Addr) (V0 : Hp) (ta : TA) (σ : L2.St) (k n : Nat) (G : List PyData → Prop) : Prop :=
  ∀ l H c, Vw p V0 l H → BoxAt H p c → c + k ≤ 900000000 → ∀ Q : List V → Hp → Prop, (∀ xs H', Kp p H H' → BoxAt H' p (c + k) → xs.length = n → (∀ x ∈ xs, ∃ a ds, x = .ref a ∧ LA K (woL l H') a ds ∧ G ds) → Q xs H') → ta σ H Q
theorem evLs_nil {G : List PyData → Prop} : EvLs K p V0 tNil σ 0 0 G := fun l H c v b hb Q q => q [] H (Kp.refl p H) b rfl fun x h => by cases h
theorem evLs_cons {te : TE} {ta : TA} {G : List PyData → Prop} (h : EvL K p V0 te σ k1 G) (t : EvLs K p V0 ta σ k2 n G) : EvLs K p V0 (tCons te ta) σ (k1 + k2) (n + 1) G :=
  fun l H c v b hB Q q => h l H c v b (by omega) _ fun a ds H1 kp1 b1 g la => t l H1 (c + k1) (v.kp kp1 b1) b1 (by omega) _ fun xs H2 kp2 b2 le gs =>
    q _ _ (kp1.trans kp2) (by rw [← Nat.add_assoc]; exact b2) (by rw [List.length_cons, le]) fun x hx => by
      rcases List.mem_cons.mp hx with z | z
      · exact ⟨a, ds, z, la.ext (woL_kp v.pin kp2), g⟩
      · exact gs x z
theorem evL_menu {b : Nat} {ta : TA} {G : List PyData → Prop} (e : σ[b]? = some (some (.ref p))) (h : EvLs K p V0 ta σ k n G) (h0 : 0 < n := by decide) (hn : n ≤ 1000 := by decide) :
    EvL K p V0 (tOp (rIxL K) (tLst ta) (tCall spTake [] E0 (tCons (tVar b) (tCons (tC (.int (n : Nat))) tNil)))) σ (k + 1) G :=
  fun l H c v hb hB Q q => h l H c v hb (by omega) _ fun xs H1 kp1 b1 le gs => by
    have v1 := v.kp kp1 b1
    refine ⟨by rw [le]; exact Nat.le_trans hn (by decide), fun M hM => ⟨_, e, p, c + k, (n : Int), rfl, b1.new hM, by omega, by omega, by omega, fun d o hd ho => ?_⟩⟩
    have nM : M ≠ p := (b1.ne hM).symm
    have hd' : d < xs.length := by omega
    obtain ⟨a, ds, ex, la, g⟩ := gs xs[d] (List.getElem_mem hd')
    have k2 : Kp p H1 (upd (upd H1 M (.lst xs)) p o) := ((Kp.refl p H1).new hM).upd
    refine ⟨M, xs, (d : Int), xs[d], rfl, rfl, SqL.of (by rw [upd_ne nM]; exact upd_same), atI_nat (List.getElem?_eq_getElem hd'), ?_⟩
    rw [ex]
    exact q a ds _ (kp1.trans k2) ho.at g (la.ext (woL_kp v.pin k2))
theorem evN_lt (i : Int) (h : 0 ≤ i ∧ i < (n : Nat)) : EvN p V0 (tC (.int i)) σ 0 (fun x => 0 ≤ x ∧ x < (n : Nat)) := (evN_c i).mono fun x e => by rw [e]; exact h
theorem evN_vlt {i : Nat} {j : Int} (e : σ[i]? = some (some (.int j))) (h : 0 ≤ j ∧ j < (n : Nat)) : EvN p V0 (tVar i) σ 0 (fun x => 0 ≤ x ∧ x < (n : Nat)) := (evN_var e).mono fun x e => by rw [e]; exact h
end
/-- rows and ends are a decoder's -/
theorem dcd_of {sg n : Nat} {es fs : List PyData} (h1 : LN n (RowD sg n) es) (h2 : LN n EndD fs) (s1 : 1 ≤ sg) (s5 : sg ≤ 5) (n1 : 1 ≤ n) (n40 : n ≤ 40) : ∃ D : Dcd, D.ok ∧ D.sg = sg ∧ D.st.length = n ∧ D.stL = .list es ∧ D.enL = .list fs := by
  have a1 : ∀ {ds : List PyData}, (∀ d ∈ ds, RowD sg n d) → ∃ st : List (List Ent), ds = st.map (fun r => .list (r.map My.enD)) ∧ st.length = ds.length ∧ ∀ r ∈ st, r.length = sg ∧ ∀ e ∈ r, okE n e := by
    intro ds
    induction ds with
    | nil => exact fun _ => ⟨[], rfl, rfl, fun e h => by cases h⟩
    | cons d ds ih =>
      intro h
      obtain ⟨r, e1, e2, e3⟩ := ih fun x hx => h x (List.mem_cons_of_mem _ hx)
      obtain ⟨e, rfl, oe⟩ := h d List.mem_cons_self
      refine ⟨e :: r, by rw [List.map_cons, e1], by rw [List.length_cons, List.length_cons, e2], fun x hx => ?_⟩
      rcases List.mem_cons.mp hx with z | z
      · rw [z]; exact oe
      · exact e3 x z
  have a2 : ∀ {ds : List PyData}, (∀ d ∈ ds, EndD d) → ∃ en : List (Option (List Nat)), ds = en.map wdD ∧ en.length = ds.length ∧ ∀ r ∈ en, ∀ w, r = some w → okW w := by
    intro ds
    induction ds with
    | nil => exact fun _ => ⟨[], rfl, rfl, fun e h => by cases h⟩
    | cons d ds ih =>
      intro h
      obtain ⟨r, e1, e2, e3⟩ := ih fun x hx => h x (List.mem_cons_of_mem _ hx)
      obtain ⟨e, rfl, oe⟩ := h d List.mem_cons_self
      refine ⟨e :: r, by rw [List.map_cons, e1], by rw [List.length_cons, List.length_cons, e2], fun x hx => ?_⟩
      rcases List.mem_cons.mp hx with z | z
      · rw [z]; exact oe
      · exact e3 x z
  obtain ⟨st, e1, e2, e3⟩ := a1 h1.2
  obtain ⟨en, f1, f2, f3⟩ := a2 h2.2
  have ls : st.length = n := by rw [e2, h1.1]
  have le : en.length = n := by rw [f2, h2.1]
  refine ⟨⟨sg, st, en⟩, ⟨s1, s5, by show 1 ≤ st.length; omega, by show st.length ≤ 40; omega, fun r hr => ⟨(e3 r hr).1, by show ∀ e ∈ r, okE st.length e; rw [ls]; exact (e3 r hr).2⟩, by show en.length = st.length; omega, fun e he => f3 e he⟩, rfl, ls, ?_, ?_⟩
  · unfold Dcd.stL; rw [e1]
  · unfold Dcd.enL; rw [f1]
/-- at a statement -/
theorem EvB.at_ {K : PySem.W.Frag} {p : Addr} {l : List Addr} {H : Hp} {te : TE} {σ : L2.St} {k c : Nat} {G : PyData → Prop} (h : EvB K p (woL l H) te σ k G) (v : Vw p (woL l H) l H) (b : BoxAt H p c) (hb : c + k ≤ 900000000) {Q : VK}
    (q : ∀ x d H', Kp p H H' → BoxAt H' p (c + k) → Vw p (woL l H') l H' → G d → Dg K (woL l H') false x d → Q x H') : te σ H Q :=
  h l H c v b hb Q fun x d H' k' b' g dd => q x d H' k' b' (v.kp k' b').here g dd
theorem EvN.at_ {p : Addr} {l : List Addr} {H : Hp} {te : TE} {σ : L2.St} {k c : Nat} {G : Int → Prop} (h : EvN p (woL l H) te σ k G) (v : Vw p (woL l H) l H) (b : BoxAt H p c) (hb : c + k ≤ 900000000) {Q : VK}
    (q : ∀ i H', Kp p H H' → BoxAt H' p (c + k) → Vw p (woL l H') l H' → G i → Q (.int i) H') : te σ H Q :=
  h l H c v b hb Q fun x H' k' b' g => q x H' k' b' (v.kp k' b').here g
theorem EvF.at_ {K : PySem.W.Frag} {p : Addr} {l : List Addr} {H : Hp} {te : TE} {σ : L2.St} {k c : Nat} {G : List PyData → Prop} (h : EvF K p (woL l H) te σ k G) (v : Vw p (woL l H) l H) (b : BoxAt H p c) (hb : c + k ≤ 900000000) {Q : VK}
    (q : ∀ a ds H', Kp p H H' → BoxAt H' p (c + k) → Vw p (woL (a :: l) H') (a :: l) H' → G ds → a ∉ l → H a = none → LB K (a :: l) a H' ds → Q (.ref a) H') : te σ H Q :=
  h l H c v b hb Q fun x d H' k' b' g n n' dd => q x d H' k' b' ⟨List.mem_cons_of_mem _ v.pin, fun b hb => by
    rcases List.mem_cons.mp hb with z | z
    · rw [z]; obtain ⟨acc, e, _⟩ := dd; rw [e]; exact fun z => by cases z
    · exact (v.kp k' b').al b z, Same.refl _⟩ g n n' dd
theorem EvL.at_ {K : PySem.W.Frag} {p : Addr} {l : List Addr} {H : Hp} {te : TE} {σ : L2.St} {k c : Nat} {G : List PyData → Prop} (h : EvL K p (woL l H) te σ k G) (v : Vw p (woL l H) l H) (b : BoxAt H p c) (hb : c + k ≤ 900000000) {Q : VK}
    (q : ∀ a ds H', Kp p H H' → BoxAt H' p (c + k) → Vw p (woL l H') l H' → G ds → LA K (woL l H') a ds → Q (.ref a) H') : te σ H Q :=
  h l H c v b hb Q fun x d H' k' b' g dd => q x d H' k' b' (v.kp k' b').here g dd
/-- what is appended to the list at S -/
theorem app_at {K : PySem.W.Frag} {p S : Addr} {l : List Addr} {H : Hp} {te : TE} {σ : L2.St} {k c i : Nat} {G : PyData → Prop} {es : List PyData} {D : Ends} (h : EvB K p (woL l H) te σ k G) (v : Vw p (woL l H) l H) (b : BoxAt H p c) (hb : c + k ≤ 900000000)
    (e : σ[i]? = some (some (.ref S))) (lb : LB K l S H es) (hS : S ∈ l) (nS : S ≠ p) (le : es.length ≤ 100000)
    (q : ∀ d H', G d → LB K l S H' (es ++ [d]) → Vw p (woL l H') l H' → BoxAt H' p (c + k) → Same (woL l H) (woL l H') → (∀ D fs, D ≠ p → D ≠ S → LB K l D H fs → LB K l D H' fs) → (∀ H0, H0 S = none → Kp p H0 H → Kp p H0 H') → D.nx σ H') :
    tDrop (tBM K "list" rAppend (tVar i) (tCons te tNil)) D σ H := by
  obtain ⟨acc0, e0, _⟩ := id lb
  refine ⟨_, e, .inl ⟨rfl, _, SqL.of e0⟩, h l H c v b hb _ fun y d H2 k2 b2 g dd => ?_⟩
  have lb2 := lb.kp v.pin nS k2
  obtain ⟨acc, ea, da⟩ := id lb2
  have v2 := v.kp k2 b2
  refine ⟨S, acc, y, rfl, rfl, ea, by rw [da.len]; exact Nat.lt_of_le_of_lt le (by decide), q d _ g (lb2.snoc hS dd ea) (v2.upd hS _).here (b2.other nS.symm) ?_ (fun D fs n1 n2 lD => (lD.kp v.pin n1 k2).upd hS n2) fun H0 h0 k0 => (k0.trans k2).free h0⟩
  rw [woL_upd hS]; exact woL_kp v.pin k2
theorem Vw.box {p : Addr} {H : Hp} {c : Nat} (h : BoxAt H p c) : Vw p (woL [p] H) [p] H := ⟨List.mem_cons_self, fun a ha => by rw [List.mem_singleton.mp ha]; exact h.some, Same.refl _⟩
theorem LN.snoc {n m : Nat} {G : PyData → Prop} {es : List PyData} {d : PyData} (h : LN n G es) (g : G d) (e : m = n + 1) : LN m G (es ++ [d]) := ⟨by rw [List.length_append, h.1, e]; rfl, fun x hx => by
  rcases List.mem_append.mp hx with z | z
  · exact h.2 x z
  · rw [List.mem_singleton.mp z]; exact g⟩
end My

set_option Elab.async false
set_option linter.all false
set_option maxRecDepth 100000
set_option maxHeartbeats 4000000
/-! A search with a stack: what it has met, what it is to look at. -/
namespace My
section
variable {α : Type} {μ : Type}
inductive Rch (f : μ → α → α) (ms : List μ) (s0 : α) : α → Prop
  | start : Rch f ms s0 s0
  | step {x : α} {m : μ} : Rch f ms s0 x → m ∈ ms → Rch f ms s0 (f m x)
structure Srch (f : μ → α → α) (ms : List μ) (s0 : α) (good : α → Bool) (known stack : List α) : Prop where
  nd : known.Nodup
  r : ∀ x ∈ known, Rch f ms s0 x
  s : s0 ∈ known
  st : ∀ x ∈ stack, x ∈ known
  dn : ∀ x ∈ known, x ∈ stack ∨ (good x = true ∧ ∀ m ∈ ms, f m x ∈ known)
structure SrchAt (f : μ → α → α) (ms : List μ) (s0 : α) (good : α → Bool) (x : α) (i : Nat) (known stack : List α) : Prop where
  nd : known.Nodup
  r : ∀ y ∈ known, Rch f ms s0 y
  s : s0 ∈ known
  st : ∀ y ∈ stack, y ∈ known
  dn : ∀ y ∈ known, y ∈ stack ∨ (good y = true ∧ ∀ m ∈ ms, f m y ∈ known) ∨ y = x
  xin : x ∈ known
  g : good x = true
  pre : ∀ m ∈ ms.take i, f m x ∈ known
variable {f : μ → α → α} {ms : List μ} {s0 : α} {good : α → Bool} {known stack : List α} {x : α} {i : Nat}
theorem Srch.start : Srch f ms s0 good [s0] [s0] where
  nd := by simp
  r := fun x h => by rw [List.mem_singleton.mp h]; exact .start
  s := by simp
  st := fun x h => h
  dn := fun x h => .inl h
theorem Srch.pop (h : Srch f ms s0 good known (stack ++ [x])) (g : good x = true) : SrchAt f ms s0 good x 0 known stack where
  nd := h.nd
  r := h.r
  s := h.s
  st := fun y hy => h.st y (List.mem_append_left _ hy)
  dn := fun y hy => by
    rcases h.dn y hy with z | z
    · rcases List.mem_append.mp z with z | z
      · exact .inl z
      · exact .inr (.inr (List.mem_singleton.mp z))
    · exact .inr (.inl z)
  xin := h.st x (List.mem_append_right _ (by simp))
  g := g
  pre := fun m hm => by simp at hm
theorem Srch.bad (h : Srch f ms s0 good known (stack ++ [x])) (g : good x = false) : ¬ ∀ y, Rch f ms s0 y → good y = true := fun z => by
  have := z x (h.r x (h.st x (List.mem_append_right _ (by simp))))
  rw [g] at this; cases this
theorem SrchAt.old {m : μ} (h : SrchAt f ms s0 good x i known stack) (e : ms[i]? = some m) (k : f m x ∈ known) : SrchAt f ms s0 good x (i + 1) known stack where
  nd := h.nd
  r := h.r
  s := h.s
  st := h.st
  dn := h.dn
  xin := h.xin
  g := h.g
  pre := fun n hn => by
    rw [List.take_add_one, e] at hn
    rcases List.mem_append.mp hn with z | z
    · exact h.pre n z
    · have : n = m := by simpa using z
      rw [this]; exact k
theorem SrchAt.new {m : μ} (h : SrchAt f ms s0 good x i known stack) (e : ms[i]? = some m) (k : ¬ f m x ∈ known) : SrchAt f ms s0 good x (i + 1) (known ++ [f m x]) (stack ++ [f m x]) where
  nd := by
    refine List.nodup_append.mpr ⟨h.nd, by simp, fun a ha b hb => ?_⟩
    rw [List.mem_singleton.mp hb]
    rintro rfl
    exact k ha
  r := fun y hy => by
    rcases List.mem_append.mp hy with z | z
    · exact h.r y z
    · rw [List.mem_singleton.mp z]
      exact .step (h.r x h.xin) (List.mem_of_getElem? e)
  s := List.mem_append_left _ h.s
  st := fun y hy => by
    rcases List.mem_append.mp hy with z | z
    · exact List.mem_append_left _ (h.st y z)
    · exact List.mem_append_right _ z
  dn := fun y hy => by
    rcases List.mem_append.mp hy with z | z
    · rcases h.dn y z with q | q | q
      · exact .inl (List.mem_append_left _ q)
      · exact .inr (.inl ⟨q.1, fun n hn => List.mem_append_left _ (q.2 n hn)⟩)
      · exact .inr (.inr q)
    · exact .inl (List.mem_append_right _ z)
  xin := List.mem_append_left _ h.xin
  g := h.g
  pre := fun n hn => by
    rw [List.take_add_one, e] at hn
    rcases List.mem_append.mp hn with z | z
    · exact List.mem_append_left _ (h.pre n z)
    · have : n = m := by simpa using z
      rw [this]; exact List.mem_append_right _ (by simp)
theorem SrchAt.done (h : SrchAt f ms s0 good x ms.length known stack) : Srch f ms s0 good known stack where
  nd := h.nd
  r := h.r
  s := h.s
  st := h.st
  dn := fun y hy => by
    rcases h.dn y hy with q | q | q
    · exact .inl q
    · exact .inr q
    · refine .inr ?_
      rw [q]
      exact ⟨h.g, fun m hm => h.pre m (by rw [List.take_length]; exact hm)⟩
theorem Srch.steady (h : Srch f ms s0 good known []) : ∀ y, Rch f ms s0 y → good y = true := by
  have key : ∀ y, Rch f ms s0 y → y ∈ known := fun y r => by
    induction r with
    | start => exact h.s
    | step r hm ih =>
      rcases h.dn _ ih with z | z
      · cases z
      · exact z.2 _ hm
  intro y r
  rcases h.dn y (key y r) with z | z
  · cases z
  · exact z.1
/-- reaching asks only which moves there are, not how often and in which order -/
theorem Rch.mono {ν : Type} {g : ν → α → α} {ns : List ν} (k : ∀ m ∈ ms, ∃ n ∈ ns, g n = f m) : ∀ {y : α}, Rch f ms s0 y → Rch g ns s0 y := by
  intro y r
  induction r with
  | start => exact .start
  | step r hm ih =>
    obtain ⟨n, hn, e⟩ := k _ hm
    rw [← e]
    exact .step ih hn
theorem nodup_bound : ∀ (n : Nat) (l : List Nat), l.Nodup → (∀ a ∈ l, a < n) → l.length ≤ n
  | 0, l, _, h => by
    cases l with
    | nil => exact Nat.le_refl _
    | cons a l => exact absurd (h a List.mem_cons_self) (Nat.not_lt_zero _)
  | n + 1, l, nd, h => by
    have h1 : (l.filter (· ≠ n)).length ≤ n := nodup_bound n _ (nd.filter _) fun a ha => by
      have := List.mem_filter.mp ha
      have h2 := h a this.1
      have h3 : a ≠ n := by simpa using this.2
      omega
    have h2 : l.length ≤ (l.filter (· ≠ n)).length + 1 := by
      clear h1 h
      induction l with
      | nil => simp
      | cons a l ih =>
        have nd' := List.nodup_cons.mp nd
        by_cases e : a = n
        · have : (l.filter (· ≠ n)) = l := List.filter_eq_self.mpr fun b hb => by
            have : b ≠ n := fun z => nd'.1 (by rw [e, ← z]; exact hb)
            simpa using this
          rw [List.filter_cons_of_neg (by simpa using e), this, List.length_cons]
          exact Nat.le_refl _
        · rw [List.filter_cons_of_pos (by simpa using e), List.length_cons, List.length_cons]
          have := ih nd'.2
          omega
    omega
theorem nodup_code {c : α → Nat} {n : Nat} {l : List α} (nd : l.Nodup) (inj : ∀ a ∈ l, ∀ b ∈ l, c a = c b → a = b) (h : ∀ a ∈ l, c a < n) : l.length ≤ n := by
  have nd' : (l.map c).Nodup := by
    clear h
    induction l with
    | nil => simp
    | cons a l ih =>
      have q := List.nodup_cons.mp nd
      rw [List.map_cons, List.nodup_cons]
      refine ⟨fun z => ?_, ih q.2 fun x hx y hy => inj x (List.mem_cons_of_mem _ hx) y (List.mem_cons_of_mem _ hy)⟩
      obtain ⟨b, hb, e⟩ := List.mem_map.mp z
      have := inj b (List.mem_cons_of_mem _ hb) a List.mem_cons_self e
      exact q.1 (by rw [← this]; exact hb)
  have := nodup_bound n (l.map c) nd' fun a ha => by
    obtain ⟨b, hb, rfl⟩ := List.mem_map.mp ha
    exact h b hb
  rwa [List.length_map] at this
end
end My

set_option Elab.async false
set_option linter.all false
set_option maxRecDepth 100000
set_option maxHeartbeats 4000000
/-! What a suite of a try asks, said with its own K. -/
namespace My
open PySem PySem.Spec PyProof.Rows L2
theorem pi_tupK {X : Cx} {K : PySem.W.Frag} (ek : X.K = K) {tg l : Expr} {tl : TE} (hl : PE X l tl) : PI X tg l (iTup K tl) := by subst ek; exact pi_tup hl
theorem op_in_seqK {X : Cx} {K : PySem.W.Frag} (e : X.K = K) : OpR X (compareOp .In) (rIn K false) := by subst e; exact op_in_seq
theorem op_notIn_seqK {X : Cx} {K : PySem.W.Frag} (e : X.K = K) : OpR X (compareOp .NotIn) (rIn K true) := by subst e; exact op_notIn_seq
theorem call_reprGK {X : Cx} {K : PySem.W.Frag} (e : X.K = K) (hc : X.A.guards = some []) (hu : X.A.units + 64 < cLine) : CallR X (.builtin "repr") (rReprG K) := by subst e; exact call_reprG hc hu
theorem pe_bm_K {X : Cx} {K : PySem.W.Frag} (ek : X.K = K) {o e : Expr} {es : List Expr} {to : TE} {t : TA} {name : Str} {apos cpos : Pos} {T id : String} {r : V → List V → Hp → VK → Prop} (pa : PlainAttrs T) (slot : Slot T name id) (hty : typeOf (.builtin id) = pure (.type "method_descriptor")) (hm : MtR X id r) (ho : PE X o to) (ha : PA X (e :: es) t)
    (hbase : attributeBase o name X.env (eval o X.env) = eval o X.env := by rfl)
    (hfew : ((backTo cpos (starEach (e :: es) X.env)).all (fun x => !x.1) && (backToKw cpos (keywordEach [] X.env)).all (fun x => x.1.isSome)
      && decide ((e :: es).length + ([] : List Keyword).length + (if ([] : List Keyword).isEmpty then 0 else 1) < 30)) = true := by rfl)
    (hline : (apos.endLine == cpos.line) = true := by rfl) (hs : starEach (e :: es) X.env = (false, eval e X.env) :: starEach es X.env := by rfl) (hplain : (backTo cpos (starEach es X.env)).any (·.1) = false := by rfl) :
    PE X (.Call (.Attribute o name apos) (e :: es) [] cpos) (tBM K T r to t) := by
  subst ek; exact pe_bm pa slot hty hm ho ha hbase hfew hline hs hplain
end My

set_option Elab.async false
set_option linter.all false
set_option maxRecDepth 100000
set_option maxHeartbeats 4000000
/-! for i, x in enumerate(t), t a tuple. -/
namespace My
open PySem PySem.Spec PyProof.Rows L2
theorem enew_one {v : Value} {ob : Obj} {Fh : Heap → Prop} (Bg : Begins v ob Fh) : Meets (Builtin.«enumerate.__new__» ⟨[.type "enumerate", v], []⟩) (fun _ R sh => Fh sh.heap ∧
    R (.ok (.ret (.ref (sh.heap.push ob).objs.size))) { sh with heap := (sh.heap.push ob).push { cls := .type "enumerate", data := .fields #[.none, .bool false, .ref sh.heap.objs.size, rawInt 0, .none, .none] } }) :=
  .of_wp fun prog w A R sh hh => by
    obtain ⟨hp, gg, dr, tk, os⟩ := sh
    obtain ⟨hb, hr⟩ := hh
    have sube := sub_enumerate
    have step : ∀ {A' : Around} {E : Value → Shared → Prop} {Q : Value → Shared → Prop}, Q (.ref hp.objs.size) ⟨hp.push ob, gg, dr, tk, os⟩ → wpAny (model prog w) A' (pyIter v) Q E ⟨hp, gg, dr, tk, os⟩ := fun q => Bg.iter prog w _ _ ⟨hp, gg, dr, tk, os⟩ _ hb q
    wp_walk using step
    refine wpAny_stack_any fun stk => wpAny_pure ?_
    split
    · rename_i cc _ _ _ _ _
      cases (cc == Value.type "enumerate") <;> (wp_walk using step; exact ⟨_, rfl, hr⟩)
    · wp_walk using step
      exact ⟨_, rfl, hr⟩
theorem enum_one {prog : Program} {w : World} {A : Around} {E : Value → Shared → Prop} {s : Shared} {v : Value} {ob : Obj} {Fh : Heap → Prop} {Q : Value → Shared → Prop} (Bg : Begins v ob Fh) (hb : Fh s.heap)
    (h : ∀ h', IsEnum h' (s.heap.objs.size + 1) s.heap.objs.size 0 .none → h'.get? s.heap.objs.size = some ob → h'.objs.size = s.heap.objs.size + 2 → (∀ b o, s.heap.get? b = some o → h'.get? b = some o) → Q (.ref (s.heap.objs.size + 1)) { s with heap := h' }) :
    wpAny (model prog w) A (call (.type "enumerate") [v]) Q E s := by
  refine callType_new F.called_enumerate (by decide) (F.typeCall_enumerate_1 v) (F.newCall_enumerate_1 v) (fun x => F.args_object_init_2 x v) F.entry_enumerate_new (enew_one Bg) ⟨hb, ?_⟩
  have sz : (s.heap.push ob).objs.size = s.heap.objs.size + 1 := Heap.size_push ..
  show _ ∧ _
  rw [sz]
  have ise : IsEnum ((s.heap.push ob).push { cls := .type "enumerate", data := .fields #[.none, .bool false, .ref s.heap.objs.size, rawInt 0, .none, .none] }) (s.heap.objs.size + 1) s.heap.objs.size 0 .none := by
    have at_ := Heap.get?_push_size (s.heap.push ob) (o := { cls := .type "enumerate", data := .fields #[.none, .bool false, .ref s.heap.objs.size, rawInt 0, .none, .none] }) rfl
    rw [sz] at at_; exact at_
  exact ⟨⟨_, ise, rfl⟩, h _ ise (Heap.get?_push_of_some _ (Heap.get?_push_size _ Bg.free)) (by rw [Heap.size_push, sz]) fun b o x => Heap.get?_push_of_some _ (Heap.get?_push_of_some _ x)⟩
/-- the tuple at a, each item in a new pair -/
def IteT (K : PySem.W.Frag) (a : Addr) : It :=
  ⟨fun i H => ∃ (xs : List V) (x : V), SqT K H a xs ∧ xs[i]? = some x, fun i H v H' => ∃ T x, v = .ref T ∧ H T = none ∧ H' = L2.upd H T (.tup [.int (i : Nat), x]) ∧ ∀ xs, SqT K H a xs → xs[i]? = some x, fun i H => ∃ xs : List V, SqT K H a xs ∧ xs.length = i⟩
theorem cls_ne {h : Heap} {a b : Addr} {o o' : Obj} {c c' : Value} (e : h.get? a = some o) (e' : h.get? b = some o') (hc : o.cls = c) (hc' : o'.cls = c') (n : c ≠ c') : a ≠ b := fun z => by
  subst z
  rw [e] at e'
  injection e' with e'
  exact n (by rw [← hc, ← hc', e'])
theorem turn_enumT {P : Program} {w : World} {K : PySem.W.Frag} {elts : List Expr} {kk : Nat} {tpos : Pos} (a e it : Addr) :
    Turn P w K (.Tuple elts kk tpos) (IteT K a) [e, it] e (fun i h => (∃ old, IsEnum h e it ((i : Nat) : Int) old) ∧ h.IsTupleIter it a i ∧ e ≠ it) where
  mem := by simp
  obj := fun i h st b mb => by
    obtain ⟨⟨old, ee⟩, ⟨o, eo, co, do_⟩, _⟩ := st
    rcases List.mem_cons.mp mb with z | z
    · rw [z]; exact ⟨_, ee, fun v q => nomatch q⟩
    · rw [List.mem_singleton.mp z]; exact ⟨o, eo, fun v q => by rw [do_] at q; cases q⟩
  keep := fun i h h' st kp => let ⟨⟨old, ee⟩, ti, ne⟩ := st; ⟨⟨old, kp e (by simp) _ ee⟩, ti.at fun o q => kp it (by simp) o q, ne⟩
  item := by
    intro X hP hw hK hc i pins s σ H E I hf st hg
    subst hP hw hK
    obtain ⟨⟨old, ee⟩, ti, ne⟩ := st
    obtain ⟨xs, x, hq, hx⟩ := hg
    obtain ⟨its, rv, p, hz⟩ := I.tuple hq
    obtain ⟨u, hu, ru⟩ := rv.get hx
    obtain ⟨ot, et, ct, nt, dt⟩ := (show s.heap.IsTuple a its.toArray from p)
    obtain ⟨oi, ei, ci, di⟩ := id ti
    have nai : a ≠ it := cls_ne et ei ct ci (by decide)
    have nea : e ≠ a := cls_ne ee et rfl ct (by simp)
    have le : e < s.heap.objs.size := Heap.lt_size ee
    have li : it < s.heap.objs.size := Heap.lt_size ei
    refine wpAny_pyNext_enum_itemD (Draws.tuple (A := X.A.in1) (I.ok.hd hc) it a nai its.toArray) ee ⟨ti, p⟩ (by have := (List.getElem?_eq_some_iff.mp hu).1; simpa using this) ne (by simp [ne, nea]) fun y h' tk py io st' hT hsz kp => ?_
    have ey : y = u := by
      have : its[i]? = some y := by simpa using py
      rw [hu] at this
      exact (Option.some.inj this).symm
    subst ey
    refine ⟨_, rfl, wpAny_letOwnedTupleGo_enum (s := { s with heap := h', toks := tk + 1 }) io fun h2 ie sb => ?_⟩
    have hT2 : h2.get? s.heap.objs.size = some { cls := .type "tuple", data := .seq #[.int i tk, y] } := (sb.2 _ (Nat.ne_of_gt le)).trans hT
    have fresh : ObjOk X.prog X.w (L2.upd H s.heap.objs.size (.tup [.int (i : Nat), x])) h2 s.heap.objs.size (.tup [.int (i : Nat), x]) :=
      ⟨by show 2 ≤ sizeLine; decide, [.int i tk, y], .cons ⟨_, rfl⟩ (.cons ru .nil), ⟨_, hT2, rfl, _, rfl⟩⟩
    have I1 : Inv X pins σ (L2.upd H s.heap.objs.size (.tup [.int (i : Nat), x])) { s with heap := h2, toks := tk + 1 } :=
      I.turnedNew (ch := [e, it]) (fun b ob nb q => (sb.2 b (fun z => nb (by simp [z]))).trans (kp b ob (fun z => nb (by simp [z])) (fun z => nb (by simp [z])) q)) hf (Nat.le_refl _) fresh
    refine ⟨.ref s.heap.objs.size, _, I1, rfl, ⟨_, x, rfl, I.hok.fresh (Nat.le_refl _), rfl, fun ys hy => by rw [I.tuple_inj hy hq]; exact hx⟩, ⟨⟨y, ?_⟩, st'.1.at fun o q => (sb.2 it (Ne.symm ne)).trans q, ne⟩, fun b mb => ?_⟩
    · rw [show ((i + 1 : Nat) : Int) = (i : Int) + 1 by omega]; exact ie
    · have lb : b < s.heap.objs.size := by
        rcases List.mem_cons.mp mb with z | z
        · rw [z]; exact le
        · rw [List.mem_singleton.mp z]; exact li
      rw [upd_ne (Nat.ne_of_lt lb)]
      exact (hf b mb).1
  done := by
    intro X hP hw hK hc i pins s σ H E I hf st hg
    subst hP hw hK
    obtain ⟨⟨old, ee⟩, ti, ne⟩ := st
    obtain ⟨xs, hq, hx⟩ := hg
    obtain ⟨its, rv, p, hz⟩ := I.tuple hq
    obtain ⟨f0, f1, f2, f3, f4, f5⟩ := hf it (by simp)
    have hl := rv.length
    obtain ⟨ot, et, ct, nt, dt⟩ := (show s.heap.IsTuple a its.toArray from p)
    obtain ⟨oi, ei, ci, di⟩ := id ti
    have nai : a ≠ it := cls_ne et ei ct ci (by decide)
    subst hx
    rw [hl] at ti ee
    exact wpAny_pyNext_enum_endD (Draws.tuple (A := X.A.in1) (I.ok.hd hc) it a nai its.toArray) ee ⟨by simpa using ti, p⟩ fun h' eb => ⟨rfl, I.turned (t' := s.toks) (fun b o nb q => eb b o nb q) f0 f1 f3 f4 f5⟩
  self := fun A i s Q E st h => let ⟨⟨_, ee⟩, _⟩ := st; wpAny_pyIter_enum ee h
def iEnumT (K : PySem.W.Frag) (ta : TA) : TI := fun σ H R => ta σ H fun vs H1 => ∃ a xs, vs = [.ref a] ∧ SqT K H1 a xs ∧ R (IteT K a) H1
theorem pi_enumT {X : Cx} {e : Expr} {ta : TA} {p pos tpos : Pos} {elts : List Expr} {kk : Nat} (hg : Gl X "enumerate") (hm : X.mg "enumerate" = none) (ha : PA X [e] ta) (hs : starEach [e] X.env = [(false, eval e X.env)] := by rfl) :
    PI X (.Tuple elts kk tpos) (.Call (.Name "enumerate" p) [e] [] pos) (iEnumT X.K ta) := by
  refine ⟨fun pins s σ H R I h => ?_⟩
  refine Call_ (ld_blt I hg hm boot_enumerate (PyProof.Rows.callWith_type1 (thn (ha.run pos pins s σ H _ I h) fun us s1 ⟨vs, H1, I1, r1, a, xs, ex, hq, q⟩ => ?_) hs rfl))
  subst ex
  obtain ⟨u, rfl, ru⟩ := vals1 r1
  cases (show u = Value.ref a from ru)
  obtain ⟨its, rv, p', hz⟩ := I1.tuple hq
  refine enum_one (begins_tuple a its.toArray) p' fun h' ie ito sz kp => wpAny_pyIter_enum ie ?_
  have I2 : Inv X pins σ H1 { s1 with heap := h' } := I1.kept (t' := s1.toks) kp
  refine ⟨s1.heap.objs.size + 1, [s1.heap.objs.size + 1, s1.heap.objs.size], _, _, H1, rfl, I2, turn_enumT a (s1.heap.objs.size + 1) s1.heap.objs.size, ⟨⟨.none, ie⟩, ⟨_, ito, rfl, rfl⟩, Nat.succ_ne_self _⟩, fun b mb => ?_, q⟩
  have lb : s1.heap.objs.size ≤ b := by
    rcases List.mem_cons.mp mb with z | z
    · rw [z]; exact Nat.le_add_right _ _
    · rw [List.mem_singleton.mp z]; exact Nat.le_refl _
  exact I1.fpOk lb (I1.hok.fresh lb)
/-- over a tuple that stands -/
theorem for_enumT {K : PySem.W.Frag} {a : Addr} {xs : List V} {g : TG} {tb : TS} {D : Ends} {σ : L2.St} {H : Hp} (Pv : Nat → L2.St → Hp → Prop) (h0 : Pv 0 σ H) (hl : ∀ i σ H, Pv i σ H → SqT K H a xs)
    (st : ∀ i x σ H t, xs[i]? = some x → Pv i σ H → H t = none → g (.ref t) σ (L2.upd H t (.tup [.int (i : Nat), x])) fun σ2 H2 => tb { D with nx := Pv (i + 1), ct := Pv (i + 1), bk := D.nx } σ2 H2) (hd : ∀ σ H, Pv xs.length σ H → D.nx σ H) :
    ∃ W : Nat → Nat → L2.St → Hp → Prop, (∃ m, W 0 m σ H) ∧ ∀ i m σ H, W i m σ H →
      ((IteT K a).stop i H ∧ D.nx σ H) ∨ ((IteT K a).go i H ∧ ∃ N : L2.St → Hp → Prop, (∀ σ' H', N σ' H' → ∃ m', m' < m ∧ W (i + 1) m' σ' H') ∧ ∀ x H', (IteT K a).yld i H x H' → g x σ H' fun σ2 H2 => tb { D with nx := N, ct := N, bk := D.nx } σ2 H2) := by
  refine ⟨fun i m σ H => m = xs.length - i ∧ i ≤ xs.length ∧ Pv i σ H, ⟨_, rfl, Nat.zero_le _, h0⟩, ?_⟩
  rintro i m σ H ⟨rfl, le, p⟩
  have here := hl i σ H p
  by_cases lt : i < xs.length
  · refine .inr ⟨⟨xs, xs[i], here, by simp [lt]⟩, Pv (i + 1), fun σ' H' p' => ⟨xs.length - (i + 1), by omega, rfl, lt, p'⟩, fun v H' y => ?_⟩
    obtain ⟨t, x, rfl, ht, rfl, hx⟩ := y
    exact st i x σ H t (hx xs here) p ht
  · obtain rfl : i = xs.length := by omega
    exact .inl ⟨⟨xs, here, rfl⟩, hd σ H p⟩
theorem for_enumL {K : PySem.W.Frag} {a : Addr} {xs : List V} {g : TG} {tb : TS} {D : Ends} {σ : L2.St} {H : Hp} (Pv : Nat → L2.St → Hp → Prop) (h0 : Pv 0 σ H) (hl : ∀ i σ H, Pv i σ H → SqL K H a xs)
    (st : ∀ i x σ H t, xs[i]? = some x → Pv i σ H → H t = none → g (.ref t) σ (L2.upd H t (.tup [.int (i : Nat), x])) fun σ2 H2 => tb { D with nx := Pv (i + 1), ct := Pv (i + 1), bk := D.nx } σ2 H2) (hd : ∀ σ H, Pv xs.length σ H → D.nx σ H) :
    ∃ W : Nat → Nat → L2.St → Hp → Prop, (∃ m, W 0 m σ H) ∧ ∀ i m σ H, W i m σ H →
      ((Ite K a).stop i H ∧ D.nx σ H) ∨ ((Ite K a).go i H ∧ ∃ N : L2.St → Hp → Prop, (∀ σ' H', N σ' H' → ∃ m', m' < m ∧ W (i + 1) m' σ' H') ∧ ∀ x H', (Ite K a).yld i H x H' → g x σ H' fun σ2 H2 => tb { D with nx := N, ct := N, bk := D.nx } σ2 H2) := by
  refine ⟨fun i m σ H => m = xs.length - i ∧ i ≤ xs.length ∧ Pv i σ H, ⟨_, rfl, Nat.zero_le _, h0⟩, ?_⟩
  rintro i m σ H ⟨rfl, le, p⟩
  have here := hl i σ H p
  by_cases lt : i < xs.length
  · refine .inr ⟨⟨xs, xs[i], here, by simp [lt]⟩, Pv (i + 1), fun σ' H' p' => ⟨xs.length - (i + 1), by omega, rfl, lt, p'⟩, fun v H' y => ?_⟩
    obtain ⟨t, x, rfl, ht, rfl, hx⟩ := y
    exact st i x σ H t (hx xs here) p ht
  · obtain rfl : i = xs.length := by omega
    exact .inl ⟨⟨xs, here, Nat.le_refl _⟩, hd σ H p⟩
end My

set_option Elab.async false
set_option linter.all false
set_option maxRecDepth 100000
set_option maxHeartbeats 4000000
/-! x == x, the very same value: a list, a tuple, an empty dict or a plain value. -/
namespace SmQ
open PySem PySem.Spec PyProof.Rows PySem.Builtin
open AutoSeq1 (wpAny_loadPart')
open PySem.SeqAt MeetsSeq
theorem pairs_same {M : Model} {A : Around} {E : Value → Shared → Prop} {s : Shared} {l : Addr} {n : Nat} {dd : Option Addr} {sl : Array (Option Value)} {id : String} {Q : Bool → Shared → Prop} (hns : (l == sysModules) = false)
    (hl : s.heap.get? l = some { cls := .type "dict", dict := dd, data := .dict #[] n, slots := sl }) (h : Q true s) : wpAny M A (Dict.samePairs id l l) Q E s := by
  unfold Dict.samePairs
  simp only [Std.Legacy.Range.forIn_eq_forIn_range']
  wp_walk using wpAny_load hl, wpAny_loadPart' hl
  exact h
theorem dict_same (l : Addr) (n : Nat) (dd : Option Addr) (sl : Array (Option Value)) (hns : (l == sysModules) = false) :
    Meets (Builtin.«dict.__eq__» ⟨[.ref l, .ref l], []⟩) (fun _ R s => s.heap.get? l = some { cls := .type "dict", dict := dd, data := .dict #[] n, slots := sl } ∧ R (.ok (.ret (.bool true))) s) :=
  .of_wp fun prog w A R s h => by
    obtain ⟨hp, g, d, tk, os⟩ := s; obtain ⟨hl, h⟩ := h
    have f1 := F.sub_dict_dict
    wp_walk using wpAny_load hl, wpAny_loadPart' hl, pairs_same hns hl
    exact ⟨_, rfl, h⟩
end SmQ
namespace L2
open PySem PySem.Spec PyProof.Rows
/-- what may be held against itself -/
inductive Sm (K : PySem.W.Frag) (H : Hp) : V → Prop
  | non : Sm K H .non
  | bl (b : Bool) : Sm K H (.bl b)
  | int (i : Int) : Sm K H (.int i)
  | str (z : Str) : Sm K H (.str z)
  | tup {a : Addr} {xs : List V} : SqT K H a xs → Sm K H (.ref a)
  | lst {a : Addr} {xs : List V} : SqL K H a xs → Sm K H (.ref a)
  | emp {a : Addr} : H a = some (.dK []) → Sm K H (.ref a)
def rEqSm (K : PySem.W.Frag) : R2 := fun x y H Q => x = y ∧ Sm K H x ∧ Q (.bl true) H
section
variable {X : Cx}
theorem op_eqSm (hu : X.A.units + 64 < cLine) : OpR X (compareOp .Eq) (rEqSm X.K) := by
  intro pins s σ H x y v u Q I rx ry h
  obtain ⟨rfl, sm, q⟩ := h
  have hu' : X.A.units < cLine := by omega
  cases sm with
  | non => exact op_eq pins s σ H .non .non _ _ Q I rx ry ⟨rfl, by rw [decide_eq_true rfl]; exact q⟩
  | bl b => exact op_eq pins s σ H (.bl b) (.bl b) _ _ Q I rx ry ⟨rfl, by rw [decide_eq_true rfl]; exact q⟩
  | int i => exact op_eq pins s σ H (.int i) (.int i) _ _ Q I rx ry ⟨rfl, by rw [decide_eq_true rfl]; exact q⟩
  | str y => exact op_eq pins s σ H (.str y) (.str y) _ _ Q I rx ry ⟨rfl, by rw [decide_eq_true rfl]; exact q⟩
  | lst h1 =>
    obtain rfl : v = Value.ref _ := rx
    obtain rfl : u = Value.ref _ := ry
    obtain ⟨its, rv, L1, _⟩ := I.list h1
    have L1 := L1.isList
    have := PySem.SeqAt.RcAt.lists (e := fun _ => true) L1 L1 rfl hu' (fun j _ _ => PySem.SeqAt.EqAt.same _)
    refine this X.prog X.w _ _ ⟨.bl _, H, I, rfl, ?_⟩
    rw [List.all_eq_true.mpr (fun _ _ => rfl)]; exact q
  | tup h1 =>
    obtain rfl : v = Value.ref _ := rx
    obtain rfl : u = Value.ref _ := ry
    obtain ⟨its, rv, L1, _⟩ := I.tuple h1
    have := PySem.SeqAt.RcAt.tuples (e := fun _ => true) L1 L1 hu' (fun j _ _ => PySem.SeqAt.EqAt.same _)
    refine this X.prog X.w _ _ ⟨.bl _, H, I, rfl, ?_⟩
    rw [List.all_eq_true.mpr (fun _ _ => rfl), Bool.true_and, beq_self_eq_true]; exact q
  | @emp a ha =>
    obtain rfl : v = Value.ref _ := rx
    obtain rfl : u = Value.ref _ := ry
    obtain ⟨_, hsys, vs, hkv, od, es, ep, hget, hcl, hdat, hko, hps, _⟩ : ObjOk X.prog X.w H s.heap a (.dK []) := I.hok a _ ha
    cases hkv
    have he : es.toList = [] := by
      generalize es.toList = l at hps
      cases hps; rfl
    have he : es = #[] := by cases es; simp at he; rw [he]
    subst he
    obtain ⟨oc, odd, odt, osl⟩ := od
    obtain ⟨hc1, hc2⟩ := hcl
    simp only at hc1 hdat
    subst hc1 hdat
    exact richCompare_meets_room (op := .Eq) ⟨_, hget, rfl⟩ ⟨_, hget, rfl⟩ F.slot_dict_eq F.entry_dict_eq (F.args_dict_eq_2 _ _) (SmQ.dict_same a _ _ _ hsys)
      ⟨hget, show Value.bool true ≠ Value.notImplemented ∧ _ from ⟨(fun x => nomatch x), .bl true, H, I, rfl, q⟩⟩ hu'
end
end L2
namespace L2
open PySem PySem.Spec PyProof.Rows
theorem Sm.ext {K : PySem.W.Frag} {H H' : Hp} {x : V} (h : Sm K H x) (s : ∀ b o, H b = some o → H' b = some o) : Sm K H' x := by
  cases h with
  | non => exact .non
  | bl b => exact .bl b
  | int i => exact .int i
  | str z => exact .str z
  | tup h => exact .tup (h.ext s)
  | lst h => exact .lst (h.ext s)
  | emp h => exact .emp (s _ _ h)
end L2

set_option Elab.async false
set_option linter.all false
set_option maxRecDepth 100000
set_option maxHeartbeats 2000000
namespace My
open PySem PySem.Spec PyProof.Rows L2
def topS (i : Nat) : Stmt := PySem.Challenge.pw_spoiltline_k02_lines_and_what_is_written.main.body.getD i (.Pass ⟨0, 0, 0, 0⟩)
abbrev s_is_integer : Stmt := topS 3
abbrev N_is_integer : List Str := ["value"]
theorem sc_is_integer : FnScope N_is_integer ["value"] (defScope s_is_integer) := ⟨rfl, rfl, rfl, by decide +kernel, rfl, by decide +kernel, by decide +kernel⟩
abbrev s_is_count : Stmt := topS 4
abbrev N_is_count : List Str := ["value"]
theorem sc_is_count : FnScope N_is_count ["value"] (defScope s_is_count) := ⟨rfl, rfl, rfl, by decide +kernel, rfl, by decide +kernel, by decide +kernel⟩
abbrev s_is_list : Stmt := topS 5
abbrev N_is_list : List Str := ["value"]
theorem sc_is_list : FnScope N_is_list ["value"] (defScope s_is_list) := ⟨rfl, rfl, rfl, by decide +kernel, rfl, by decide +kernel, by decide +kernel⟩
abbrev s_is_text : Stmt := topS 6
abbrev N_is_text : List Str := ["value"]
theorem sc_is_text : FnScope N_is_text ["value"] (defScope s_is_text) := ⟨rfl, rfl, rfl, by decide +kernel, rfl, by decide +kernel, by decide +kernel⟩
abbrev s_is_word : Stmt := topS 7
abbrev N_is_word : List Str := ["value"]
theorem sc_is_word : FnScope N_is_word ["value"] (defScope s_is_word) := ⟨rfl, rfl, rfl, by decide +kernel, rfl, by decide +kernel, by decide +kernel⟩
abbrev s_is_number_of_signs : Stmt := topS 8
abbrev N_is_number_of_signs : List Str := ["value"]
theorem sc_is_number_of_signs : FnScope N_is_number_of_signs ["value"] (defScope s_is_number_of_signs) := ⟨rfl, rfl, rfl, by decide +kernel, rfl, by decide +kernel, by decide +kernel⟩
abbrev s_is_below : Stmt := topS 9
abbrev N_is_below : List Str := ["value", "limit"]
theorem sc_is_below : FnScope N_is_below ["value", "limit"] (defScope s_is_below) := ⟨rfl, rfl, rfl, by decide +kernel, rfl, by decide +kernel, by decide +kernel⟩
abbrev s_is_line : Stmt := topS 10
abbrev N_is_line : List Str := ["value", "signs", "sign"]
theorem sc_is_line : FnScope N_is_line ["value", "signs"] (defScope s_is_line) := ⟨rfl, rfl, rfl, by decide +kernel, rfl, by decide +kernel, by decide +kernel⟩
abbrev s_are_steps : Stmt := topS 21
abbrev N_are_steps : List Str := ["value", "signs", "row"]
theorem sc_are_steps : FnScope N_are_steps ["value", "signs"] (defScope s_are_steps) := ⟨rfl, rfl, rfl, by decide +kernel, rfl, by decide +kernel, by decide +kernel⟩
abbrev s_are_entries : Stmt := topS 22
abbrev N_are_entries : List Str := ["value", "signs", "states", "entry"]
theorem sc_are_entries : FnScope N_are_entries ["value", "signs", "states"] (defScope s_are_entries) := ⟨rfl, rfl, rfl, by decide +kernel, rfl, by decide +kernel, by decide +kernel⟩
abbrev s_is_step : Stmt := topS 23
abbrev N_is_step : List Str := ["value", "states"]
theorem sc_is_step : FnScope N_is_step ["value", "states"] (defScope s_is_step) := ⟨rfl, rfl, rfl, by decide +kernel, rfl, by decide +kernel, by decide +kernel⟩
abbrev s_are_ends : Stmt := topS 24
abbrev N_are_ends : List Str := ["value", "states", "end"]
theorem sc_are_ends : FnScope N_are_ends ["value", "states"] (defScope s_are_ends) := ⟨rfl, rfl, rfl, by decide +kernel, rfl, by decide +kernel, by decide +kernel⟩
abbrev s_states_met : Stmt := topS 25
abbrev N_states_met : List Str := ["ahead", "starts", "met", "state", "waiting", "goal"]
theorem sc_states_met : FnScope N_states_met ["ahead", "starts"] (defScope s_states_met) := ⟨rfl, rfl, rfl, by decide +kernel, rfl, by decide +kernel, by decide +kernel⟩
abbrev s_turned_round : Stmt := topS 26
abbrev N_turned_round : List Str := ["ahead", "behind", "_", "start", "goals", "goal"]
theorem sc_turned_round : FnScope N_turned_round ["ahead"] (defScope s_turned_round) := ⟨rfl, rfl, rfl, by decide +kernel, rfl, by decide +kernel, by decide +kernel⟩
abbrev s_shortest_line : Stmt := topS 27
abbrev N_shortest_line : List Str := ["decoder", "lines", "newest", "state"]
theorem sc_shortest_line : FnScope N_shortest_line ["decoder"] (defScope s_shortest_line) := ⟨rfl, rfl, rfl, by decide +kernel, rfl, by decide +kernel, by decide +kernel⟩
abbrev s_one_sign_on : Stmt := topS 28
abbrev N_one_sign_on : List Str := ["decoder", "lines", "newest", "found", "state", "sign", "entry"]
theorem sc_one_sign_on : FnScope N_one_sign_on ["decoder", "lines", "newest"] (defScope s_one_sign_on) := ⟨rfl, rfl, rfl, by decide +kernel, rfl, by decide +kernel, by decide +kernel⟩
abbrev s_law_cell : Stmt := topS 30
abbrev N_law_cell : List Str := ["script", "k"]
theorem sc_law_cell : FnScope N_law_cell ["script", "k"] (defScope s_law_cell) := ⟨rfl, rfl, rfl, by decide +kernel, rfl, by decide +kernel, by decide +kernel⟩
abbrev s_law_box : Stmt := topS 31
abbrev N_law_box : List Str := ["great"]
theorem sc_law_box : FnScope N_law_box ["great"] (defScope s_law_box) := ⟨rfl, rfl, rfl, by decide +kernel, rfl, by decide +kernel, by decide +kernel⟩
abbrev s_law_take : Stmt := topS 32
abbrev N_law_take : List Str := ["box", "many", "digit", "mixed"]
theorem sc_law_take : FnScope N_law_take ["box", "many"] (defScope s_law_take) := ⟨rfl, rfl, rfl, by decide +kernel, rfl, by decide +kernel, by decide +kernel⟩
abbrev s_law_word : Stmt := topS 33
abbrev N_law_word : List Str := ["box"]
theorem sc_law_word : FnScope N_law_word ["box"] (defScope s_law_word) := ⟨rfl, rfl, rfl, by decide +kernel, rfl, by decide +kernel, by decide +kernel⟩
abbrev s_law_goal : Stmt := topS 34
abbrev N_law_goal : List Str := ["box", "state", "states", "way", "goal"]
theorem sc_law_goal : FnScope N_law_goal ["box", "state", "states", "way"] (defScope s_law_goal) := ⟨rfl, rfl, rfl, by decide +kernel, rfl, by decide +kernel, by decide +kernel⟩
abbrev s_law_drawn : Stmt := topS 35
abbrev N_law_drawn : List Str := ["box", "signs", "states", "way", "steps", "ends", "state", "row", "onward", "a", "entry"]
theorem sc_law_drawn : FnScope N_law_drawn ["box"] (defScope s_law_drawn) := ⟨rfl, rfl, rfl, by decide +kernel, rfl, by decide +kernel, by decide +kernel⟩
abbrev s_law_run : Stmt := topS 36
abbrev N_law_run : List Str := ["plain", "line", "state", "text", "a", "entry"]
theorem sc_law_run : FnScope N_law_run ["plain", "line"] (defScope s_law_run) := ⟨rfl, rfl, rfl, by decide +kernel, rfl, by decide +kernel, by decide +kernel⟩
abbrev s_law_written : Stmt := topS 37
abbrev N_law_written : List Str := ["plain", "line", "behind"]
theorem sc_law_written : FnScope N_law_written ["plain", "line"] (defScope s_law_written) := ⟨rfl, rfl, rfl, by decide +kernel, rfl, by decide +kernel, by decide +kernel⟩
abbrev s_law_lengths : Stmt := topS 38
abbrev N_law_lengths : List Str := ["plain", "start", "found", "layer", "turn", "fresh", "state", "entry"]
theorem sc_law_lengths : FnScope N_law_lengths ["plain", "start"] (defScope s_law_lengths) := ⟨rfl, rfl, rfl, by decide +kernel, rfl, by decide +kernel, by decide +kernel⟩
abbrev s_law_trimmed : Stmt := topS 39
abbrev N_law_trimmed : List Str := ["plain", "ahead", "found", "state", "ending", "goal"]
theorem sc_law_trimmed : FnScope N_law_trimmed ["plain"] (defScope s_law_trimmed) := ⟨rfl, rfl, rfl, by decide +kernel, rfl, by decide +kernel, by decide +kernel⟩
abbrev s_law_least : Stmt := topS 40
abbrev N_law_least : List Str := ["plain", "ahead", "some", "state"]
theorem sc_law_least : FnScope N_law_least ["plain"] (defScope s_law_least) := ⟨rfl, rfl, rfl, by decide +kernel, rfl, by decide +kernel, by decide +kernel⟩
abbrev s_law_line : Stmt := topS 41
abbrev N_law_line : List Str := ["box", "plain", "state", "line", "turn", "some", "a", "stray", "entry"]
theorem sc_law_line : FnScope N_law_line ["box", "plain"] (defScope s_law_line) := ⟨rfl, rfl, rfl, by decide +kernel, rfl, by decide +kernel, by decide +kernel⟩
abbrev s_law_line_right : Stmt := topS 42
abbrev N_law_line_right : List Str := ["made", "plain", "line", "first", "behind", "due", "text", "state"]
theorem sc_law_line_right : FnScope N_law_line_right ["made", "plain", "line", "first"] (defScope s_law_line_right) := ⟨rfl, rfl, rfl, by decide +kernel, rfl, by decide +kernel, by decide +kernel⟩
abbrev s_law_met : Stmt := topS 43
abbrev N_law_met : List Str := ["made", "which", "value", "e"]
theorem sc_law_met : FnScope N_law_met ["made", "which", "value"] (defScope s_law_met) := ⟨rfl, rfl, rfl, by decide +kernel, rfl, by decide +kernel, by decide +kernel⟩
abbrev s_law_refused_right : Stmt := topS 44
abbrev N_law_refused_right : List Str := ["box", "made", "plain", "line", "at", "odd", "bad", "value", "which", "given", "told", "other"]
theorem sc_law_refused_right : FnScope N_law_refused_right ["box", "made", "plain", "line"] (defScope s_law_refused_right) := ⟨rfl, rfl, rfl, by decide +kernel, rfl, by decide +kernel, by decide +kernel⟩
abbrev s_law_shortest_right : Stmt := topS 45
abbrev N_law_shortest_right : List Str := ["made", "plain", "least", "line", "a"]
theorem sc_law_shortest_right : FnScope N_law_shortest_right ["made", "plain"] (defScope s_law_shortest_right) := ⟨rfl, rfl, rfl, by decide +kernel, rfl, by decide +kernel, by decide +kernel⟩
abbrev s_law_right : Stmt := topS 46
abbrev N_law_right : List Str := ["box", "some", "pair", "plain", "kept", "turn", "line", "k"]
theorem sc_law_right : FnScope N_law_right ["box"] (defScope s_law_right) := ⟨rfl, rfl, rfl, by decide +kernel, rfl, by decide +kernel, by decide +kernel⟩
abbrev s_law : Stmt := topS 47
abbrev N_law : List Str := ["script", "k"]
theorem sc_law : FnScope N_law ["script"] (defScope s_law) := ⟨rfl, rfl, rfl, by decide +kernel, rfl, by decide +kernel, by decide +kernel⟩
abbrev s_Decoder_init : Stmt := inClass (topS 20) 0
abbrev N_Decoder_init : List Str := ["self", "signs", "steps", "ends", "row"]
theorem sc_Decoder_init : FnScope N_Decoder_init ["self", "signs", "steps", "ends"] (defScope s_Decoder_init) := ⟨rfl, rfl, rfl, by decide +kernel, rfl, by decide +kernel, by decide +kernel⟩
abbrev s_Decoder_eq : Stmt := inClass (topS 20) 1
abbrev N_Decoder_eq : List Str := ["self", "other"]
theorem sc_Decoder_eq : FnScope N_Decoder_eq ["self", "other"] (defScope s_Decoder_eq) := ⟨rfl, rfl, rfl, by decide +kernel, rfl, by decide +kernel, by decide +kernel⟩
abbrev s_Decoder_written : Stmt := inClass (topS 20) 2
abbrev N_Decoder_written : List Str := ["self", "line", "state", "words", "sign", "entry", "word"]
theorem sc_Decoder_written : FnScope N_Decoder_written ["self", "line"] (defScope s_Decoder_written) := ⟨rfl, rfl, rfl, by decide +kernel, rfl, by decide +kernel, by decide +kernel⟩
abbrev s_Decoder_state_after : Stmt := inClass (topS 20) 3
abbrev N_Decoder_state_after : List Str := ["self", "line", "state", "sign", "entry"]
theorem sc_Decoder_state_after : FnScope N_Decoder_state_after ["self", "line"] (defScope s_Decoder_state_after) := ⟨rfl, rfl, rfl, by decide +kernel, rfl, by decide +kernel, by decide +kernel⟩
abbrev s_Decoder_trimmed : Stmt := inClass (topS 20) 4
abbrev N_Decoder_trimmed : List Str := ["self", "ahead", "entry", "row", "met", "ending", "state", "leading"]
theorem sc_Decoder_trimmed : FnScope N_Decoder_trimmed ["self"] (defScope s_Decoder_trimmed) := ⟨rfl, rfl, rfl, by decide +kernel, rfl, by decide +kernel, by decide +kernel⟩
structure Txt (K : PySem.W.Frag) (mg : Str → Option Value) where
  f_is_integer : Addr
  fd_is_integer : FuncData
  F_is_integer : Fun K "is_integer" "is_integer" s_is_integer f_is_integer fd_is_integer
  b_is_integer : Binds K fd_is_integer ["value"] []
  g_is_integer : mg "is_integer" = some (.ref f_is_integer)
  f_is_count : Addr
  fd_is_count : FuncData
  F_is_count : Fun K "is_count" "is_count" s_is_count f_is_count fd_is_count
  b_is_count : Binds K fd_is_count ["value"] []
  g_is_count : mg "is_count" = some (.ref f_is_count)
  f_is_list : Addr
  fd_is_list : FuncData
  F_is_list : Fun K "is_list" "is_list" s_is_list f_is_list fd_is_list
  b_is_list : Binds K fd_is_list ["value"] []
  g_is_list : mg "is_list" = some (.ref f_is_list)
  f_is_text : Addr
  fd_is_text : FuncData
  F_is_text : Fun K "is_text" "is_text" s_is_text f_is_text fd_is_text
  b_is_text : Binds K fd_is_text ["value"] []
  g_is_text : mg "is_text" = some (.ref f_is_text)
  f_is_word : Addr
  fd_is_word : FuncData
  F_is_word : Fun K "is_word" "is_word" s_is_word f_is_word fd_is_word
  b_is_word : Binds K fd_is_word ["value"] []
  g_is_word : mg "is_word" = some (.ref f_is_word)
  f_is_number_of_signs : Addr
  fd_is_number_of_signs : FuncData
  F_is_number_of_signs : Fun K "is_number_of_signs" "is_number_of_signs" s_is_number_of_signs f_is_number_of_signs fd_is_number_of_signs
  b_is_number_of_signs : Binds K fd_is_number_of_signs ["value"] []
  g_is_number_of_signs : mg "is_number_of_signs" = some (.ref f_is_number_of_signs)
  f_is_below : Addr
  fd_is_below : FuncData
  F_is_below : Fun K "is_below" "is_below" s_is_below f_is_below fd_is_below
  b_is_below : Binds K fd_is_below ["value", "limit"] []
  g_is_below : mg "is_below" = some (.ref f_is_below)
  f_is_line : Addr
  fd_is_line : FuncData
  F_is_line : Fun K "is_line" "is_line" s_is_line f_is_line fd_is_line
  b_is_line : Binds K fd_is_line ["value", "signs"] []
  g_is_line : mg "is_line" = some (.ref f_is_line)
  f_are_steps : Addr
  fd_are_steps : FuncData
  F_are_steps : Fun K "are_steps" "are_steps" s_are_steps f_are_steps fd_are_steps
  b_are_steps : Binds K fd_are_steps ["value", "signs"] []
  g_are_steps : mg "are_steps" = some (.ref f_are_steps)
  f_are_entries : Addr
  fd_are_entries : FuncData
  F_are_entries : Fun K "are_entries" "are_entries" s_are_entries f_are_entries fd_are_entries
  b_are_entries : Binds K fd_are_entries ["value", "signs", "states"] []
  g_are_entries : mg "are_entries" = some (.ref f_are_entries)
  f_is_step : Addr
  fd_is_step : FuncData
  F_is_step : Fun K "is_step" "is_step" s_is_step f_is_step fd_is_step
  b_is_step : Binds K fd_is_step ["value", "states"] []
  g_is_step : mg "is_step" = some (.ref f_is_step)
  f_are_ends : Addr
  fd_are_ends : FuncData
  F_are_ends : Fun K "are_ends" "are_ends" s_are_ends f_are_ends fd_are_ends
  b_are_ends : Binds K fd_are_ends ["value", "states"] []
  g_are_ends : mg "are_ends" = some (.ref f_are_ends)
  f_states_met : Addr
  fd_states_met : FuncData
  F_states_met : Fun K "states_met" "states_met" s_states_met f_states_met fd_states_met
  b_states_met : Binds K fd_states_met ["ahead", "starts"] []
  g_states_met : mg "states_met" = some (.ref f_states_met)
  f_turned_round : Addr
  fd_turned_round : FuncData
  F_turned_round : Fun K "turned_round" "turned_round" s_turned_round f_turned_round fd_turned_round
  b_turned_round : Binds K fd_turned_round ["ahead"] []
  g_turned_round : mg "turned_round" = some (.ref f_turned_round)
  f_shortest_line : Addr
  fd_shortest_line : FuncData
  F_shortest_line : Fun K "shortest_line" "shortest_line" s_shortest_line f_shortest_line fd_shortest_line
  b_shortest_line : Binds K fd_shortest_line ["decoder"] []
  g_shortest_line : mg "shortest_line" = some (.ref f_shortest_line)
  f_one_sign_on : Addr
  fd_one_sign_on : FuncData
  F_one_sign_on : Fun K "one_sign_on" "one_sign_on" s_one_sign_on f_one_sign_on fd_one_sign_on
  b_one_sign_on : Binds K fd_one_sign_on ["decoder", "lines", "newest"] []
  g_one_sign_on : mg "one_sign_on" = some (.ref f_one_sign_on)
  f_law_cell : Addr
  fd_law_cell : FuncData
  F_law_cell : Fun K "_law_cell" "_law_cell" s_law_cell f_law_cell fd_law_cell
  b_law_cell : Binds K fd_law_cell ["script", "k"] []
  g_law_cell : mg "_law_cell" = some (.ref f_law_cell)
  f_law_box : Addr
  fd_law_box : FuncData
  F_law_box : Fun K "_law_box" "_law_box" s_law_box f_law_box fd_law_box
  b_law_box : Binds K fd_law_box ["great"] []
  g_law_box : mg "_law_box" = some (.ref f_law_box)
  f_law_take : Addr
  fd_law_take : FuncData
  F_law_take : Fun K "_law_take" "_law_take" s_law_take f_law_take fd_law_take
  b_law_take : Binds K fd_law_take ["box", "many"] []
  g_law_take : mg "_law_take" = some (.ref f_law_take)
  f_law_word : Addr
  fd_law_word : FuncData
  F_law_word : Fun K "_law_word" "_law_word" s_law_word f_law_word fd_law_word
  b_law_word : Binds K fd_law_word ["box"] []
  g_law_word : mg "_law_word" = some (.ref f_law_word)
  f_law_goal : Addr
  fd_law_goal : FuncData
  F_law_goal : Fun K "_law_goal" "_law_goal" s_law_goal f_law_goal fd_law_goal
  b_law_goal : Binds K fd_law_goal ["box", "state", "states", "way"] []
  g_law_goal : mg "_law_goal" = some (.ref f_law_goal)
  f_law_drawn : Addr
  fd_law_drawn : FuncData
  F_law_drawn : Fun K "_law_drawn" "_law_drawn" s_law_drawn f_law_drawn fd_law_drawn
  b_law_drawn : Binds K fd_law_drawn ["box"] []
  g_law_drawn : mg "_law_drawn" = some (.ref f_law_drawn)
  f_law_run : Addr
  fd_law_run : FuncData
  F_law_run : Fun K "_law_run" "_law_run" s_law_run f_law_run fd_law_run
  b_law_run : Binds K fd_law_run ["plain", "line"] []
  g_law_run : mg "_law_run" = some (.ref f_law_run)
  f_law_written : Addr
  fd_law_written : FuncData
  F_law_written : Fun K "_law_written" "_law_written" s_law_written f_law_written fd_law_written
  b_law_written : Binds K fd_law_written ["plain", "line"] []
  g_law_written : mg "_law_written" = some (.ref f_law_written)
  f_law_lengths : Addr
  fd_law_lengths : FuncData
  F_law_lengths : Fun K "_law_lengths" "_law_lengths" s_law_lengths f_law_lengths fd_law_lengths
  b_law_lengths : Binds K fd_law_lengths ["plain", "start"] []
  g_law_lengths : mg "_law_lengths" = some (.ref f_law_lengths)
  f_law_trimmed : Addr
  fd_law_trimmed : FuncData
  F_law_trimmed : Fun K "_law_trimmed" "_law_trimmed" s_law_trimmed f_law_trimmed fd_law_trimmed
  b_law_trimmed : Binds K fd_law_trimmed ["plain"] []
  g_law_trimmed : mg "_law_trimmed" = some (.ref f_law_trimmed)
  f_law_least : Addr
  fd_law_least : FuncData
  F_law_least : Fun K "_law_least" "_law_least" s_law_least f_law_least fd_law_least
  b_law_least : Binds K fd_law_least ["plain"] []
  g_law_least : mg "_law_least" = some (.ref f_law_least)
  f_law_line : Addr
  fd_law_line : FuncData
  F_law_line : Fun K "_law_line" "_law_line" s_law_line f_law_line fd_law_line
  b_law_line : Binds K fd_law_line ["box", "plain"] []
  g_law_line : mg "_law_line" = some (.ref f_law_line)
  f_law_line_right : Addr
  fd_law_line_right : FuncData
  F_law_line_right : Fun K "_law_line_right" "_law_line_right" s_law_line_right f_law_line_right fd_law_line_right
  b_law_line_right : Binds K fd_law_line_right ["made", "plain", "line", "first"] []
  g_law_line_right : mg "_law_line_right" = some (.ref f_law_line_right)
  f_law_met : Addr
  fd_law_met : FuncData
  F_law_met : Fun K "_law_met" "_law_met" s_law_met f_law_met fd_law_met
  b_law_met : Binds K fd_law_met ["made", "which", "value"] []
  g_law_met : mg "_law_met" = some (.ref f_law_met)
  f_law_refused_right : Addr
  fd_law_refused_right : FuncData
  F_law_refused_right : Fun K "_law_refused_right" "_law_refused_right" s_law_refused_right f_law_refused_right fd_law_refused_right
  b_law_refused_right : Binds K fd_law_refused_right ["box", "made", "plain", "line"] []
  g_law_refused_right : mg "_law_refused_right" = some (.ref f_law_refused_right)
  f_law_shortest_right : Addr
  fd_law_shortest_right : FuncData
  F_law_shortest_right : Fun K "_law_shortest_right" "_law_shortest_right" s_law_shortest_right f_law_shortest_right fd_law_shortest_right
  b_law_shortest_right : Binds K fd_law_shortest_right ["made", "plain"] []
  g_law_shortest_right : mg "_law_shortest_right" = some (.ref f_law_shortest_right)
  f_law_right : Addr
  fd_law_right : FuncData
  F_law_right : Fun K "_law_right" "_law_right" s_law_right f_law_right fd_law_right
  b_law_right : Binds K fd_law_right ["box"] []
  g_law_right : mg "_law_right" = some (.ref f_law_right)
  f_law : Addr
  fd_law : FuncData
  F_law : Fun K "law" "law" s_law f_law fd_law
  b_law : Binds K fd_law ["script"] []
  g_law : mg "law" = some (.ref f_law)
  C_Decoder : Addr
  f_Decoder_init : Addr
  fd_Decoder_init : FuncData
  F_Decoder_init : Fun K "__init__" "Decoder.__init__" s_Decoder_init f_Decoder_init fd_Decoder_init
  b_Decoder_init : Binds K fd_Decoder_init ["self", "signs", "steps", "ends"] []
  f_Decoder_eq : Addr
  fd_Decoder_eq : FuncData
  F_Decoder_eq : Fun K "__eq__" "Decoder.__eq__" s_Decoder_eq f_Decoder_eq fd_Decoder_eq
  b_Decoder_eq : Binds K fd_Decoder_eq ["self", "other"] []
  f_Decoder_written : Addr
  fd_Decoder_written : FuncData
  F_Decoder_written : Fun K "written" "Decoder.written" s_Decoder_written f_Decoder_written fd_Decoder_written
  b_Decoder_written : Binds K fd_Decoder_written ["self", "line"] []
  m_Decoder_written : Meth K C_Decoder "written" f_Decoder_written
  f_Decoder_state_after : Addr
  fd_Decoder_state_after : FuncData
  F_Decoder_state_after : Fun K "state_after" "Decoder.state_after" s_Decoder_state_after f_Decoder_state_after fd_Decoder_state_after
  b_Decoder_state_after : Binds K fd_Decoder_state_after ["self", "line"] []
  m_Decoder_state_after : Meth K C_Decoder "state_after" f_Decoder_state_after
  f_Decoder_trimmed : Addr
  fd_Decoder_trimmed : FuncData
  F_Decoder_trimmed : Fun K "trimmed" "Decoder.trimmed" s_Decoder_trimmed f_Decoder_trimmed fd_Decoder_trimmed
  b_Decoder_trimmed : Binds K fd_Decoder_trimmed ["self"] []
  m_Decoder_trimmed : Meth K C_Decoder "trimmed" f_Decoder_trimmed
  z_abs : mg "abs" = none
  z_all : mg "all" = none
  z_bool : mg "bool" = none
  z_enumerate : mg "enumerate" = none
  z_int : mg "int" = none
  z_isinstance : mg "isinstance" = none
  z_len : mg "len" = none
  z_list : mg "list" = none
  z_max : mg "max" = none
  z_min : mg "min" = none
  z_range : mg "range" = none
  z_repr : mg "repr" = none
  z_sorted : mg "sorted" = none
  z_str : mg "str" = none
  z_sum : mg "sum" = none
  z_tuple : mg "tuple" = none
  g_Decoder : mg "Decoder" = some (.ref C_Decoder)
  cl_Decoder : Cls K C_Decoder
  mk_Decoder : Mk K C_Decoder f_Decoder_init
  oe_Decoder : OEq K C_Decoder f_Decoder_eq
  na_Decoder_signs : NoAttr K C_Decoder "signs"
  na_Decoder_states : NoAttr K C_Decoder "states"
  na_Decoder_steps : NoAttr K C_Decoder "steps"
  na_Decoder_ends : NoAttr K C_Decoder "ends"
  ii_Decoder : PySem.W.isClsIn K C_Decoder = true
  it_Decoder : PySem.W.typeIn K (.ref C_Decoder) = some (.type "type")
  is_Decoder : PySem.W.subIn K (.ref C_Decoder) (.ref C_Decoder) = some true
  t_MOST_SIGNS : Tok
  c_MOST_SIGNS : mg "MOST_SIGNS" = some (.int (5) t_MOST_SIGNS)
  t_MOST_LETTERS : Tok
  c_MOST_LETTERS : mg "MOST_LETTERS" = some (.int (3) t_MOST_LETTERS)
  t_MOST_STATES : Tok
  c_MOST_STATES : mg "MOST_STATES" = some (.int (40) t_MOST_STATES)
  C_InvalidDecoder : Addr
  i_InvalidDecoder : Addr
  e_InvalidDecoder : ErrX.ETxt K mg "InvalidDecoder" "InvalidDecoder.__init__" C_InvalidDecoder i_InvalidDecoder
  x_InvalidDecoder : PySem.W.exmOne K (.ref C_InvalidDecoder) (.ref C_InvalidDecoder) = some true
  C_InvalidEnds : Addr
  i_InvalidEnds : Addr
  e_InvalidEnds : ErrX.ETxt K mg "InvalidEnds" "InvalidEnds.__init__" C_InvalidEnds i_InvalidEnds
  x_InvalidEnds : PySem.W.exmOne K (.ref C_InvalidEnds) (.ref C_InvalidEnds) = some true
  C_InvalidLine : Addr
  i_InvalidLine : Addr
  e_InvalidLine : ErrX.ETxt K mg "InvalidLine" "InvalidLine.__init__" C_InvalidLine i_InvalidLine
  x_InvalidLine : PySem.W.exmOne K (.ref C_InvalidLine) (.ref C_InvalidLine) = some true
  C_InvalidSigns : Addr
  i_InvalidSigns : Addr
  e_InvalidSigns : ErrX.ETxt K mg "InvalidSigns" "InvalidSigns.__init__" C_InvalidSigns i_InvalidSigns
  x_InvalidSigns : PySem.W.exmOne K (.ref C_InvalidSigns) (.ref C_InvalidSigns) = some true
  C_InvalidSteps : Addr
  i_InvalidSteps : Addr
  e_InvalidSteps : ErrX.ETxt K mg "InvalidSteps" "InvalidSteps.__init__" C_InvalidSteps i_InvalidSteps
  x_InvalidSteps : PySem.W.exmOne K (.ref C_InvalidSteps) (.ref C_InvalidSteps) = some true
  no_InvalidDecoder_InvalidEnds : PySem.W.exmOne K (.ref C_InvalidDecoder) (.ref C_InvalidEnds) = some false
  no_InvalidDecoder_InvalidLine : PySem.W.exmOne K (.ref C_InvalidDecoder) (.ref C_InvalidLine) = some false
  no_InvalidDecoder_InvalidSigns : PySem.W.exmOne K (.ref C_InvalidDecoder) (.ref C_InvalidSigns) = some false
  no_InvalidDecoder_InvalidSteps : PySem.W.exmOne K (.ref C_InvalidDecoder) (.ref C_InvalidSteps) = some false
  no_InvalidEnds_InvalidDecoder : PySem.W.exmOne K (.ref C_InvalidEnds) (.ref C_InvalidDecoder) = some false
  no_InvalidEnds_InvalidLine : PySem.W.exmOne K (.ref C_InvalidEnds) (.ref C_InvalidLine) = some false
  no_InvalidEnds_InvalidSigns : PySem.W.exmOne K (.ref C_InvalidEnds) (.ref C_InvalidSigns) = some false
  no_InvalidEnds_InvalidSteps : PySem.W.exmOne K (.ref C_InvalidEnds) (.ref C_InvalidSteps) = some false
  no_InvalidLine_InvalidDecoder : PySem.W.exmOne K (.ref C_InvalidLine) (.ref C_InvalidDecoder) = some false
  no_InvalidLine_InvalidEnds : PySem.W.exmOne K (.ref C_InvalidLine) (.ref C_InvalidEnds) = some false
  no_InvalidLine_InvalidSigns : PySem.W.exmOne K (.ref C_InvalidLine) (.ref C_InvalidSigns) = some false
  no_InvalidLine_InvalidSteps : PySem.W.exmOne K (.ref C_InvalidLine) (.ref C_InvalidSteps) = some false
  no_InvalidSigns_InvalidDecoder : PySem.W.exmOne K (.ref C_InvalidSigns) (.ref C_InvalidDecoder) = some false
  no_InvalidSigns_InvalidEnds : PySem.W.exmOne K (.ref C_InvalidSigns) (.ref C_InvalidEnds) = some false
  no_InvalidSigns_InvalidLine : PySem.W.exmOne K (.ref C_InvalidSigns) (.ref C_InvalidLine) = some false
  no_InvalidSigns_InvalidSteps : PySem.W.exmOne K (.ref C_InvalidSigns) (.ref C_InvalidSteps) = some false
  no_InvalidSteps_InvalidDecoder : PySem.W.exmOne K (.ref C_InvalidSteps) (.ref C_InvalidDecoder) = some false
  no_InvalidSteps_InvalidEnds : PySem.W.exmOne K (.ref C_InvalidSteps) (.ref C_InvalidEnds) = some false
  no_InvalidSteps_InvalidLine : PySem.W.exmOne K (.ref C_InvalidSteps) (.ref C_InvalidLine) = some false
  no_InvalidSteps_InvalidSigns : PySem.W.exmOne K (.ref C_InvalidSteps) (.ref C_InvalidSigns) = some false
end My

set_option Elab.async false
set_option linter.all false
set_option maxRecDepth 100000
set_option maxHeartbeats 8000000
namespace My
open PySem PySem.Spec PyProof.Rows L2
section
variable {P : Program} {w : World} {K : PySem.W.Frag} {mg : Str → Option Value} {base : Heap}
def spD (K : PySem.W.Frag) (f : PyData → Bool) : Sp := fun vs H Q _ => ∃ x d m, vs = [x] ∧ Dg K H m x d ∧ Q (.bl (f d)) H
def spDn (K : PySem.W.Frag) (f : Int → PyData → Bool) : Sp := fun vs H Q _ => ∃ x d m n, vs = [x, .int n] ∧ Dg K H m x d ∧ Q (.bl (f n d)) H
def spDw (K : PySem.W.Frag) (f : PyData → Bool) : Sp := fun vs H Q _ => ∃ x d m, vs = [x] ∧ Dg K H m x d ∧ d.weight ≤ 100000 ∧ Q (.bl (f d)) H
def spDnw (K : PySem.W.Frag) (f : Int → PyData → Bool) : Sp := fun vs H Q _ => ∃ x d m n, vs = [x, .int n] ∧ Dg K H m x d ∧ d.weight ≤ 100000 ∧ Q (.bl (f n d)) H
def spDns (K : PySem.W.Frag) (f : Int → PyData → Bool) : Sp := fun vs H Q _ => ∃ x d m n, vs = [x, .int n] ∧ Dg K H m x d ∧ d.weight ≤ 100000 ∧ ∀ H', Same H H' → Q (.bl (f n d)) H'
theorem all_id {f : PyData → Bool} (l : List PyData) : (l.map f).all id = l.all f := by rw [List.all_map]; rfl
theorem ok_is_integer (T : Txt K mg) : FnOk P w K mg base CX0 1 T.f_is_integer T.fd_is_integer ["value"] (spD K isI) := by
  refine T.F_is_integer.ok sc_is_integer (fun vs H Q E h => ?_) (fun cdv A outer s H vs Q E hr h => ?_)
  · obtain ⟨x, d, m, rfl, _⟩ := h; rfl
  · obtain ⟨x, d, m, rfl, hd, q⟩ := h
    refine ⟨_, (pss_one (ps_ret (pe_and (pe_callB call_isi (by rfl) T.z_isinstance (by decide +kernel) (pa_cons (pv 0) (pa_cons (pe_bltn (v := .ty "int") (u := .type "int") (by rfl) T.z_int (by decide +kernel) rfl) pa_nil))) (pe_one (pe_not (pe_callB call_isi (by rfl) T.z_isinstance (by decide +kernel) (pa_cons (pv 0) (pa_cons (pe_bltn (v := .ty "bool") (u := .type "bool") (by rfl) T.z_bool (by decide +kernel) rfl) pa_nil)))))))), ?_⟩
    have e : (isNumD d && !isBlD d) = isI d := by cases d <;> rfl
    rw [← e] at q
    refine ⟨_, rfl, _, _, _, _, isNumD d, rfl, .ty _, hd.ty, kit_numD d, _, rfl, ?_⟩
    cases h1 : isNumD d with
    | false => rw [h1] at q; exact iteF q
    | true =>
      rw [h1, Bool.true_and] at q
      exact iteT ⟨_, rfl, _, _, _, _, isBlD d, rfl, .ty _, hd.ty, kit_blD d, _, rfl, q⟩
theorem ok_is_count (T : Txt K mg) : FnOk P w K mg base CX0 2 T.f_is_count T.fd_is_count ["value"] (spD K isCn) := by
  refine T.F_is_count.ok sc_is_count (fun vs H Q E h => ?_) (fun cdv A outer s H vs Q E hr h => ?_)
  · obtain ⟨x, d, m, rfl, _⟩ := h; rfl
  · obtain ⟨x, d, m, rfl, hd, q⟩ := h
    refine ⟨_, (pss_one (ps_ret (pe_and (pe_call (ok_is_integer T) (hr.mono (by decide)) rfl T.g_is_integer T.F_is_integer.kp T.b_is_integer .nil pass0 (pa_cons (pv 0) pa_nil)) (pe_one (pe_cmpR op_ge (pv 0) pe_int (nomark _)))))), ?_⟩
    refine ⟨_, rfl, x, d, m, rfl, hd, _, rfl, ?_⟩
    cases d with
    | int i =>
      obtain rfl := hd.int_of
      exact iteT ⟨_, rfl, _, _, rfl, rfl, q⟩
    | _ => exact iteF q
theorem ok_is_list (T : Txt K mg) : FnOk P w K mg base CX0 1 T.f_is_list T.fd_is_list ["value"] (fun vs H Q _ => ∃ x d m, vs = [x] ∧ Dg K H m x d ∧ ∀ H', Same H H' → Q (.bl (isSqD d)) H') := by
  refine T.F_is_list.ok sc_is_list (fun vs H Q E h => ?_) (fun cdv A outer s H vs Q E hr h => ?_)
  · obtain ⟨x, d, m, rfl, _⟩ := h; rfl
  · obtain ⟨x, d, m, rfl, hd, q⟩ := h
    refine ⟨_, (pss_one (ps_ret (pe_callB call_isiT (by rfl) T.z_isinstance (by decide +kernel) (pa_cons (pv 0) (pa_cons (pe_tup (pa_cons (pe_bltn (v := .ty "list") (u := .type "list") (by rfl) T.z_list (by decide +kernel) rfl) (pa_cons (pe_bltn (v := .ty "tuple") (u := .type "tuple") (by rfl) T.z_tuple (by decide +kernel) rfl) pa_nil))) pa_nil))))), ?_⟩
    exact ⟨_, rfl, (by show 2 ≤ sizeLine; decide), fun tp htp => ⟨_, tp, _, _, [.type "list", .type "tuple"], isSqD d, rfl, upd_same, .cons (.ty _) (.cons (.ty _) .nil), (hd.ext (Same.new (Same.refl H) htp)).ty, kit_sqD d, q _ (Same.new (Same.refl H) htp)⟩⟩
theorem ok_is_number_of_signs (T : Txt K mg) : FnOk P w K mg base CX0 2 T.f_is_number_of_signs T.fd_is_number_of_signs ["value"] (spD K isSg) := by
  refine T.F_is_number_of_signs.ok sc_is_number_of_signs (fun vs H Q E h => ?_) (fun cdv A outer s H vs Q E hr h => ?_)
  · obtain ⟨x, d, m, rfl, _⟩ := h; rfl
  · obtain ⟨x, d, m, rfl, hd, q⟩ := h
    refine ⟨_, (pss_one (ps_ret (pe_and (pe_call (ok_is_integer T) (hr.mono (by decide)) rfl T.g_is_integer T.F_is_integer.kp T.b_is_integer .nil pass0 (pa_cons (pv 0) pa_nil)) (pe_one (pe_chain op_le op_le pe_int (pv 0) (pe_glob (v := .int (5)) rfl T.c_MOST_SIGNS ⟨_, rfl⟩)))))), ?_⟩
    refine ⟨_, rfl, x, d, m, rfl, hd, _, rfl, ?_⟩
    cases d with
    | int i =>
      obtain rfl := hd.int_of
      refine iteT ⟨_, rfl, _, _, rfl, rfl, _, rfl, ?_⟩
      have q' : Q (.bl (decide (1 ≤ i) && decide (i ≤ 5))) H := q
      refine ite2 (fun c => ?_) (fun c => ?_)
      · rw [c, Bool.true_and] at q'
        exact ⟨_, _, rfl, rfl, q'⟩
      · rw [Bool.not_eq_true] at c
        rw [c, Bool.false_and] at q'
        exact q'
    | _ => exact iteF q
theorem ok_is_below (T : Txt K mg) : FnOk P w K mg base CX0 3 T.f_is_below T.fd_is_below ["value", "limit"] (spDn K isBe) := by
  refine T.F_is_below.ok sc_is_below (fun vs H Q E h => ?_) (fun cdv A outer s H vs Q E hr h => ?_)
  · obtain ⟨x, d, m, n, rfl, _⟩ := h; rfl
  · obtain ⟨x, d, m, n, rfl, hd, q⟩ := h
    refine ⟨_, (pss_one (ps_ret (pe_and (pe_call (ok_is_count T) (hr.mono (by decide)) rfl T.g_is_count T.F_is_count.kp T.b_is_count .nil pass0 (pa_cons (pv 0) pa_nil)) (pe_one (pe_cmpR op_lt (pv 0) (pv 1) (nomark _)))))), ?_⟩
    refine ⟨_, rfl, x, d, m, rfl, hd, _, rfl, ?_⟩
    cases d with
    | int i =>
      obtain rfl := hd.int_of
      have q' : Q (.bl (decide (0 ≤ i) && decide (i < n))) H := q
      show if decide (0 ≤ i) = true then _ else _
      refine ite2 (fun c => ?_) (fun c => ?_)
      · rw [c, Bool.true_and] at q'
        exact ⟨_, rfl, _, rfl, _, _, rfl, rfl, q'⟩
      · rw [Bool.not_eq_true] at c
        rw [c, Bool.false_and] at q'
        exact q'
    | _ => exact iteF q
theorem ok_is_text (T : Txt K mg) : FnOk P w K mg base CX0 1 T.f_is_text T.fd_is_text ["value"] (spD K isTx) := by
  refine T.F_is_text.ok sc_is_text (fun vs H Q E h => ?_) (fun cdv A outer s H vs Q E hr h => ?_)
  · obtain ⟨x, d, m, rfl, _⟩ := h; rfl
  · obtain ⟨x, d, m, rfl, hd, q⟩ := h
    refine ⟨_, (pss_cons (ps_if (pt_not (pt_val (pe_callB call_isi (by rfl) T.z_isinstance (by decide +kernel) (pa_cons (pv 0) (pa_cons (pe_bltn (v := .ty "str") (u := .type "str") (by rfl) T.z_str (by decide +kernel) rfl) pa_nil))))) (pss_one (ps_ret pe_bl)) pss_nil)
      (pss_one (ps_ret (pe_or (pe_cmpR op_eq (pv 0) pe_str (nomark _)) (pe_one (pe_and (pe_bm0 PySem.F.plainAttrs_str PySem.F.slot_str_isascii PySem.F.type_str_isascii mt_isascii (pv 0)) (pe_and (pe_bm0 PySem.F.plainAttrs_str PySem.F.slot_str_isalpha PySem.F.type_str_isalpha mt_isalpha (pv 0)) (pe_one (pe_bm0 PySem.F.plainAttrs_str PySem.F.slot_str_islower PySem.F.type_str_islower mt_islower (pv 0)))))))))), ?_⟩
    refine ⟨_, rfl, _, _, _, _, isStrD d, rfl, .ty _, hd.ty, kit_strD d, _, rfl, ?_⟩
    cases d with
    | str z =>
      obtain rfl := hd.str_of
      have q : Q (.bl (isT z)) H := q
      refine iteF ⟨_, rfl, rfl, _, rfl, ?_⟩
      have e := istext_eq z
      cases h0 : decide (V.str z = V.str (Str.ofString "")) with
      | true =>
        rw [h0, Bool.true_or] at e
        refine iteT ?_
        unfold isT at q
        rw [← e] at q
        exact q
      | false =>
        rw [h0, Bool.false_or] at e
        have e2 : (Txt.isascii z && (Txt.isalpha z && Txt.islower z)) = isT z := by rw [← Bool.and_assoc]; exact e
        refine iteF ⟨_, rfl, rfl, z, rfl, rfl, trivial, _, rfl, ?_⟩
        cases h1 : Txt.isascii z with
        | false => rw [h1] at e2; rw [← e2] at q; exact iteF q
        | true =>
          rw [h1, Bool.true_and] at e2
          refine iteT ⟨_, rfl, rfl, z, rfl, rfl, trivial, _, rfl, ?_⟩
          cases h2 : Txt.isalpha z with
          | false => rw [h2] at e2; rw [← e2] at q; exact iteF q
          | true =>
            rw [h2, Bool.true_and] at e2
            rw [← e2] at q
            exact iteT ⟨_, rfl, rfl, z, rfl, rfl, trivial, q⟩
    | _ => exact iteT q
theorem ok_is_word (T : Txt K mg) : FnOk P w K mg base CX0 2 T.f_is_word T.fd_is_word ["value"] (spDw K isWd) := by
  refine T.F_is_word.ok sc_is_word (fun vs H Q E h => ?_) (fun cdv A outer s H vs Q E hr h => ?_)
  · obtain ⟨x, d, m, rfl, _⟩ := h; rfl
  · obtain ⟨x, d, m, rfl, hd, hw, q⟩ := h
    refine ⟨_, (pss_one (ps_ret (pe_and (pe_call (ok_is_text T) (hr.mono (by decide)) rfl T.g_is_text T.F_is_text.kp T.b_is_text .nil pass0 (pa_cons (pv 0) pa_nil)) (pe_one (pe_cmpR op_le (pe_callB call_len_str (by rfl) T.z_len (by decide +kernel) (pa_cons (pv 0) pa_nil)) (pe_glob (v := .int (3)) rfl T.c_MOST_LETTERS ⟨_, rfl⟩) (nomark _)))))), ?_⟩
    refine ⟨_, rfl, x, d, m, rfl, hd, _, rfl, ?_⟩
    cases d with
    | str z =>
      obtain rfl := hd.str_of
      have q' : Q (.bl (isT z && decide ((z.length : Int) ≤ 3))) H := q
      have hz : z.length ≤ sizeLine := by
        rw [PyData.weight] at hw
        exact Nat.le_trans hw (by decide)
      show if isT z = true then _ else _
      refine ite2 (fun c => ?_) (fun c => ?_)
      · rw [c, Bool.true_and] at q'
        exact ⟨_, rfl, z, rfl, hz, _, _, rfl, rfl, q'⟩
      · rw [Bool.not_eq_true] at c
        rw [c, Bool.false_and] at q'
        exact q'
    | _ => exact iteF q
theorem ok_is_step (T : Txt K mg) : FnOk P w K mg base CX0 4 T.f_is_step T.fd_is_step ["value", "states"] (spDnw K isStp) := by
  refine T.F_is_step.ok sc_is_step (fun vs H Q E h => ?_) (fun cdv A outer s H vs Q E hr h => ?_)
  · obtain ⟨x, d, m, n, rfl, _⟩ := h; rfl
  · obtain ⟨x, d, m, n, rfl, hd, hw, q⟩ := h
    refine ⟨_, (pss_cons (ps_if (PW.pt (pw_or (pt_not (pt_val (pe_callB call_isi (by rfl) T.z_isinstance (by decide +kernel) (pa_cons (pv 0) (pa_cons (pe_bltn (v := .ty "tuple") (u := .type "tuple") (by rfl) T.z_tuple (by decide +kernel) rfl) pa_nil))))) (pw_or1 (pt_cmpR op_ne (pe_callB call_len_seq (by rfl) T.z_len (by decide +kernel) (pa_cons (pv 0) pa_nil)) pe_int (nomark _))))) (pss_one (ps_ret pe_bl)) pss_nil)
      (pss_one (ps_ret (pe_and (pe_call (ok_is_below T) (hr.mono (by decide)) rfl T.g_is_below T.F_is_below.kp T.b_is_below .nil pass0 (pa_cons (pe_ix ix_tup (pv 0) pe_int (fun _ _ => rfl)) (pa_cons (pv 1) pa_nil))) (pe_one (pe_call (ok_is_word T) (hr.mono (by decide)) rfl T.g_is_word T.F_is_word.kp T.b_is_word .nil pass0 (pa_cons (pe_ix ix_tup (pv 0) pe_int (fun _ _ => rfl)) pa_nil))))))), ?_⟩
    refine ⟨_, rfl, _, _, _, _, isTupD d, rfl, .ty _, hd.ty, kit_tupD d, _, rfl, ?_⟩
    cases d with
    | tuple ds =>
      obtain ⟨a, xs, rfl, hs, ha⟩ := hd.tup_of
      have wt := (weight_its (d := .tuple ds)).2
      refine iteF ⟨_, rfl, a, xs, rfl, .inr hs, rfl, _, rfl, ?_⟩
      have hl := ha.len
      match ds, ha, q, hl, wt, hw with
      | [a1, b1], ha, q, hl, wt, hw =>
        rw [decide_eq_true (show V.int (xs.length : Int) = V.int 2 by rw [hl]; rfl)]
        obtain ⟨x0, ys, rfl, h0, ht⟩ := ha.cons_of
        obtain ⟨x1, zs, rfl, h1, ht'⟩ := ht.cons_of
        refine iteF ⟨_, rfl, a, _, _, _, rfl, rfl, hs, atI_nat (j := 0) rfl, _, rfl, x0, a1, m, n, rfl, h0, _, rfl, ?_⟩
        have q' : Q (.bl (isBe n a1 && isWd b1)) H := q
        show if isBe n a1 = true then _ else _
        refine ite2 (fun c => ?_) (fun c => ?_)
        · rw [c, Bool.true_and] at q'
          exact ⟨_, rfl, a, _, _, _, rfl, rfl, hs, atI_nat (j := 1) rfl, x1, b1, m, rfl, h1, Nat.le_trans (wt b1 (by show b1 ∈ [a1, b1]; simp)) hw, q'⟩
        · rw [Bool.not_eq_true] at c
          rw [c, Bool.false_and] at q'
          exact q'
      | [], ha, q, hl, _, _ =>
        rw [decide_eq_false (show ¬ V.int (xs.length : Int) = V.int 2 by rw [hl]; simp)]
        exact iteT q
      | [a1], ha, q, hl, _, _ =>
        rw [decide_eq_false (show ¬ V.int (xs.length : Int) = V.int 2 by rw [hl]; simp)]
        exact iteT q
      | a1 :: b1 :: c1 :: r, ha, q, hl, _, _ =>
        rw [decide_eq_false (show ¬ V.int (xs.length : Int) = V.int 2 from fun z => by have := V.int.inj z; rw [hl, List.length_cons, List.length_cons, List.length_cons] at this; omega)]
        exact iteT q
    | _ => exact iteT (iteT q)
theorem dg_non {K : PySem.W.Frag} {H : Hp} {m : Bool} {x : V} {d : PyData} (h : Dg K H m x d) : decide (x = .non) = isNn d := by
  cases h <;> simp [isNn]
theorem ok_are_entries (T : Txt K mg) : FnOk P w K mg base CX0 5 T.f_are_entries T.fd_are_entries ["value", "signs", "states"] (fun vs H Q _ => ∃ x d m k n, vs = [x, .int k, .int n] ∧ Dg K H m x d ∧ d.weight ≤ 100000 ∧ ∀ H', Same H H' → Q (.bl (entB k n d)) H') := by
  refine T.F_are_entries.ok sc_are_entries (fun vs H Q E h => ?_) (fun cdv A outer s H vs Q E hr h => ?_)
  · obtain ⟨x, d, m, k, n, rfl, _⟩ := h; rfl
  · obtain ⟨x, d, m, k, n, rfl, hd, hw, q⟩ := h
    refine ⟨_, (pss_cons (ps_if (PW.pt (pw_or (pt_not (pt_val (pe_call (ok_is_list T) (hr.mono (by decide)) rfl T.g_is_list T.F_is_list.kp T.b_is_list .nil pass0 (pa_cons (pv 0) pa_nil)))) (pw_or1 (pt_cmpR op_ne (pe_callB call_len_seq (by rfl) T.z_len (by decide +kernel) (pa_cons (pv 0) pa_nil)) (pv 1) (nomark _))))) (pss_one (ps_ret pe_bl)) pss_nil)
      (pss_one (ps_ret (pe_callB (cr_all rfl) (by rfl) T.z_all (by decide +kernel) (pa_cons (pe_lc (own := [("entry", 3)]) (g := gName 3) (by rfl) sc_are_entries.nd (pi_sq (pv 0)) (blkOk_by (own := [("entry", 3)]) (N := N_are_entries) (sc := defScope s_are_entries) (by decide +kernel)) (fun _ _ _ _ _ => pg_name (i := 3) sc_are_entries.nd rfl (Or.inl rfl)) (fun _ _ _ _ _ => pts_nil) (fun _ _ _ _ _ => (pe_or (pe_cmp (pc_isN (pv 3)) rfl) (pe_one (pe_call (ok_is_step T) (hr.mono (by decide)) rfl T.g_is_step T.F_is_step.kp T.b_is_step .nil pass0 (pa_cons (pv 3) (pa_cons (pv 2) pa_nil))))))) pa_nil))))), ?_⟩
    refine ⟨_, rfl, x, d, m, rfl, hd, fun H1 s1 => ⟨_, rfl, ?_⟩⟩
    have q' : ∀ H', Same H H' → Q (.bl (isSqD d && (decide (((itsD d).length : Int) = k) && (itsD d).all (isEn n)))) H' := q
    obtain ⟨hlen, hwt⟩ := weight_its (d := d)
    cases hf : isSqD d with
    | false => rw [hf] at q'; exact iteT (iteT (q' _ s1))
    | true =>
      rw [hf, Bool.true_and] at q'
      obtain ⟨a, ys, rfl, hq, hes⟩ := (hd.ext s1).lst_q (sq_its hf)
      generalize itsD d = es at *
      have le := hes.len
      refine iteF ⟨_, rfl, a, ys, rfl, hq, _, rfl, rfl, _, rfl, ?_⟩
      by_cases c : (es.length : Int) = k
      · rw [decide_eq_true (show V.int (ys.length : Int) = V.int k by rw [le, c])]
        rw [decide_eq_true c, Bool.true_and] at q'
        refine iteF ⟨_, rfl, a, rfl, lc_sq hq fun D hD => ⟨fun i H' => Same H1 H' ∧ H' D = some (.lst (((es.take i).map (isEn n)).map V.bl)), ⟨Same.new (Same.refl _) hD, upd_same⟩, fun i H' h => h.1, ?_, ?_⟩⟩
        · rintro i x H' hx ⟨s', e'⟩
          obtain ⟨d', hd', dx⟩ := hes.at i x hx
          have hm : d' ∈ es := List.mem_of_getElem? hd'
          refine ⟨rfl, tYesT ?_⟩
          have fin : ∀ H2, Same H' H2 → ∃ acc, H2 D = some (.lst acc) ∧ acc.length < sizeLine ∧ Same H1 (upd H2 D (.lst (acc ++ [.bl (isEn n d')]))) ∧ (upd H2 D (.lst (acc ++ [.bl (isEn n d')]))) D = some (.lst (((es.take (i + 1)).map (isEn n)).map V.bl)) := fun H2 s2 => by
            refine ⟨_, s2 _ _ e', ?_, fun b o e => ?_, ?_⟩
            · rw [List.length_map, List.length_map]
              exact Nat.lt_of_le_of_lt (List.length_take_le' _ _) (Nat.lt_of_le_of_lt (by omega : es.length ≤ 100000) (by decide))
            · rw [upd_ne (ne_of_none e hD)]; exact s2 _ _ (s' b o e)
            · rw [upd_same, List.take_add_one, hd', List.map_append, List.map_append]; rfl
          have dn := dg_non dx
          refine ⟨_, rfl, _, rfl, ?_⟩
          rw [dn]
          unfold isEn at fin
          cases hn : isNn d' with
          | true => rw [hn] at fin; exact iteT (fin H' (Same.refl _))
          | false =>
            rw [hn] at fin
            exact iteF ⟨_, rfl, _, rfl, x, d', m, n, rfl, dx.ext s', Nat.le_trans (hwt d' hm) hw, fin H' (Same.refl _)⟩
        · rintro H2 ⟨s', e'⟩
          rw [le, List.take_length] at e'
          refine ⟨D, _, rfl, SqL.of e', ?_⟩
          rw [all_id]
          exact q' _ (s1.trans s')
      · rw [decide_eq_false (show ¬ V.int (ys.length : Int) = V.int k from fun z => c (by rw [← le]; exact V.int.inj z))]
        rw [decide_eq_false c, Bool.false_and] at q'
        exact iteT (q' _ s1)
theorem ok_are_steps (T : Txt K mg) : FnOk P w K mg base CX0 6 T.f_are_steps T.fd_are_steps ["value", "signs"] (spDns K stepsB) := by
  refine T.F_are_steps.ok sc_are_steps (fun vs H Q E h => ?_) (fun cdv A outer s H vs Q E hr h => ?_)
  · obtain ⟨x, d, m, n, rfl, _⟩ := h; rfl
  · obtain ⟨x, d, m, n, rfl, hd, hw, q⟩ := h
    refine ⟨_, (pss_cons (ps_if (PW.pt (pw_or (pt_not (pt_val (pe_call (ok_is_list T) (hr.mono (by decide)) rfl T.g_is_list T.F_is_list.kp T.b_is_list .nil pass0 (pa_cons (pv 0) pa_nil)))) (pw_or1 (pt_not (pt_chain op_le op_le pe_int (pe_callB call_len_seq (by rfl) T.z_len (by decide +kernel) (pa_cons (pv 0) pa_nil)) (pe_glob (v := .int (40)) rfl T.c_MOST_STATES ⟨_, rfl⟩)))))) (pss_one (ps_ret pe_bl)) pss_nil)
      (pss_one (ps_ret (pe_callB (cr_all rfl) (by rfl) T.z_all (by decide +kernel) (pa_cons (pe_lc (own := [("row", 2)]) (g := gName 2) (by rfl) sc_are_steps.nd (pi_sq (pv 0)) (blkOk_by (own := [("row", 2)]) (N := N_are_steps) (sc := defScope s_are_steps) (by decide +kernel)) (fun _ _ _ _ _ => pg_name (i := 2) sc_are_steps.nd rfl (Or.inl rfl)) (fun _ _ _ _ _ => pts_nil) (fun _ _ _ _ _ => (pe_call (ok_are_entries T) (hr.mono (by decide)) rfl T.g_are_entries T.F_are_entries.kp T.b_are_entries .nil pass0 (pa_cons (pv 2) (pa_cons (pv 1) (pa_cons (pe_callB (call_len_seqK (K := K) rfl) (by rfl) T.z_len (by decide +kernel) (pa_cons (pv 0) pa_nil)) pa_nil)))))) pa_nil))))), ?_⟩
    refine ⟨_, rfl, x, d, m, rfl, hd, fun H1 s1 => ⟨_, rfl, ?_⟩⟩
    have q' : ∀ H', Same H H' → Q (.bl (isSqD d && ((decide (1 ≤ ((itsD d).length : Int)) && decide (((itsD d).length : Int) ≤ 40)) && (itsD d).all (entB n ((itsD d).length : Int))))) H' := q
    obtain ⟨hlen, hwt⟩ := weight_its (d := d)
    cases hf : isSqD d with
    | false => rw [hf] at q'; exact iteT (iteT (q' _ s1))
    | true =>
      rw [hf, Bool.true_and] at q'
      obtain ⟨a, ys, rfl, hq, hes⟩ := (hd.ext s1).lst_q (sq_its hf)
      generalize itsD d = es at *
      have le := hes.len
      refine iteF ⟨_, rfl, a, ys, rfl, hq, _, _, rfl, rfl, _, rfl, ?_⟩
      refine ite2 (fun c1 => ?_) (fun c1 => ?_)
      · have c1' : (1 : Int) ≤ (ys.length : Int) := of_decide_eq_true c1
        refine ⟨_, _, rfl, rfl, _, rfl, ?_⟩
        show if (!decide ((ys.length : Int) ≤ 40)) = true then _ else _
        rw [decide_eq_true (show (1 : Int) ≤ (es.length : Int) by omega), Bool.true_and] at q'
        cases c2 : decide ((ys.length : Int) ≤ 40) with
        | false =>
          rw [← le, c2, Bool.false_and] at q'
          exact iteT (q' _ s1)
        | true =>
          rw [← le, c2, Bool.true_and, le] at q'
          refine iteF ⟨_, rfl, a, rfl, lc_sq hq fun D hD => ⟨fun i H' => Same H1 H' ∧ H' D = some (.lst (((es.take i).map (entB n (es.length : Int))).map V.bl)), ⟨Same.new (Same.refl _) hD, upd_same⟩, fun i H' h => h.1, ?_, ?_⟩⟩
          · rintro i x H' hx ⟨s', e'⟩
            obtain ⟨d', hd', dx⟩ := hes.at i x hx
            have hm : d' ∈ es := List.mem_of_getElem? hd'
            refine ⟨rfl, tYesT ⟨_, rfl, _, rfl, _, rfl, a, ys, rfl, hq.same s', x, d', m, n, (ys.length : Int), rfl, dx.ext s', Nat.le_trans (hwt d' hm) hw, fun H2 s2 => ⟨_, s2 _ _ e', ?_, fun b o e => ?_, ?_⟩⟩⟩
            · rw [List.length_map, List.length_map]
              exact Nat.lt_of_le_of_lt (List.length_take_le' _ _) (Nat.lt_of_le_of_lt (by omega : es.length ≤ 100000) (by decide))
            · rw [upd_ne (ne_of_none e hD)]; exact s2 _ _ (s' b o e)
            · rw [upd_same, List.take_add_one, hd', List.map_append, List.map_append, le]; rfl
          · rintro H2 ⟨s', e'⟩
            rw [le, List.take_length] at e'
            refine ⟨D, _, rfl, SqL.of e', ?_⟩
            rw [all_id]
            exact q' _ (s1.trans s')
      · have c1' : ¬ (1 : Int) ≤ (ys.length : Int) := fun z => c1 (decide_eq_true z)
        rw [decide_eq_false (show ¬ (1 : Int) ≤ (es.length : Int) by omega), Bool.false_and, Bool.false_and] at q'
        exact ⟨_, rfl, iteT (q' _ s1)⟩
theorem ok_are_ends (T : Txt K mg) : FnOk P w K mg base CX0 3 T.f_are_ends T.fd_are_ends ["value", "states"] (spDns K endsB) := by
  refine T.F_are_ends.ok sc_are_ends (fun vs H Q E h => ?_) (fun cdv A outer s H vs Q E hr h => ?_)
  · obtain ⟨x, d, m, n, rfl, _⟩ := h; rfl
  · obtain ⟨x, d, m, n, rfl, hd, hw, q⟩ := h
    refine ⟨_, (pss_cons (ps_if (PW.pt (pw_or (pt_not (pt_val (pe_call (ok_is_list T) (hr.mono (by decide)) rfl T.g_is_list T.F_is_list.kp T.b_is_list .nil pass0 (pa_cons (pv 0) pa_nil)))) (pw_or1 (pt_cmpR op_ne (pe_callB call_len_seq (by rfl) T.z_len (by decide +kernel) (pa_cons (pv 0) pa_nil)) (pv 1) (nomark _))))) (pss_one (ps_ret pe_bl)) pss_nil)
      (pss_one (ps_ret (pe_callB (cr_all rfl) (by rfl) T.z_all (by decide +kernel) (pa_cons (pe_lc (own := [("end", 2)]) (g := gName 2) (by rfl) sc_are_ends.nd (pi_sq (pv 0)) (blkOk_by (own := [("end", 2)]) (N := N_are_ends) (sc := defScope s_are_ends) (by decide +kernel)) (fun _ _ _ _ _ => pg_name (i := 2) sc_are_ends.nd rfl (Or.inl rfl)) (fun _ _ _ _ _ => pts_nil) (fun _ _ _ _ _ => (pe_or (pe_cmp (pc_isN (pv 2)) rfl) (pe_one (pe_call (ok_is_word T) (hr.mono (by decide)) rfl T.g_is_word T.F_is_word.kp T.b_is_word .nil pass0 (pa_cons (pv 2) pa_nil)))))) pa_nil))))), ?_⟩
    refine ⟨_, rfl, x, d, m, rfl, hd, fun H1 s1 => ⟨_, rfl, ?_⟩⟩
    have q' : ∀ H', Same H H' → Q (.bl (isSqD d && (decide (((itsD d).length : Int) = n) && (itsD d).all endB))) H' := q
    obtain ⟨hlen, hwt⟩ := weight_its (d := d)
    cases hf : isSqD d with
    | false => rw [hf] at q'; exact iteT (iteT (q' _ s1))
    | true =>
      rw [hf, Bool.true_and] at q'
      obtain ⟨a, ys, rfl, hq, hes⟩ := (hd.ext s1).lst_q (sq_its hf)
      generalize itsD d = es at *
      have le := hes.len
      refine iteF ⟨_, rfl, a, ys, rfl, hq, _, rfl, rfl, _, rfl, ?_⟩
      by_cases c : (es.length : Int) = n
      · rw [decide_eq_true (show V.int (ys.length : Int) = V.int n by rw [le, c])]
        rw [decide_eq_true c, Bool.true_and] at q'
        refine iteF ⟨_, rfl, a, rfl, lc_sq hq fun D hD => ⟨fun i H' => Same H1 H' ∧ H' D = some (.lst (((es.take i).map endB).map V.bl)), ⟨Same.new (Same.refl _) hD, upd_same⟩, fun i H' h => h.1, ?_, ?_⟩⟩
        · rintro i x H' hx ⟨s', e'⟩
          obtain ⟨d', hd', dx⟩ := hes.at i x hx
          have hm : d' ∈ es := List.mem_of_getElem? hd'
          refine ⟨rfl, tYesT ?_⟩
          have fin : ∀ H2, Same H' H2 → ∃ acc, H2 D = some (.lst acc) ∧ acc.length < sizeLine ∧ Same H1 (upd H2 D (.lst (acc ++ [.bl (endB d')]))) ∧ (upd H2 D (.lst (acc ++ [.bl (endB d')]))) D = some (.lst (((es.take (i + 1)).map endB).map V.bl)) := fun H2 s2 => by
            refine ⟨_, s2 _ _ e', ?_, fun b o e => ?_, ?_⟩
            · rw [List.length_map, List.length_map]
              exact Nat.lt_of_le_of_lt (List.length_take_le' _ _) (Nat.lt_of_le_of_lt (by omega : es.length ≤ 100000) (by decide))
            · rw [upd_ne (ne_of_none e hD)]; exact s2 _ _ (s' b o e)
            · rw [upd_same, List.take_add_one, hd', List.map_append, List.map_append]; rfl
          have dn := dg_non dx
          refine ⟨_, rfl, _, rfl, ?_⟩
          rw [dn]
          unfold endB at fin
          cases hn : isNn d' with
          | true => rw [hn] at fin; exact iteT (fin H' (Same.refl _))
          | false =>
            rw [hn] at fin
            exact iteF ⟨_, rfl, x, d', m, rfl, dx.ext s', Nat.le_trans (hwt d' hm) hw, fin H' (Same.refl _)⟩
        · rintro H2 ⟨s', e'⟩
          rw [le, List.take_length] at e'
          refine ⟨D, _, rfl, SqL.of e', ?_⟩
          rw [all_id]
          exact q' _ (s1.trans s')
      · rw [decide_eq_false (show ¬ V.int (ys.length : Int) = V.int n from fun z => c (by rw [← le]; exact V.int.inj z))]
        rw [decide_eq_false c, Bool.false_and] at q'
        exact iteT (q' _ s1)
theorem ok_is_line (T : Txt K mg) : FnOk P w K mg base CX0 4 T.f_is_line T.fd_is_line ["value", "signs"] (spDns K isLn) := by
  refine T.F_is_line.ok sc_is_line (fun vs H Q E h => ?_) (fun cdv A outer s H vs Q E hr h => ?_)
  · obtain ⟨x, d, m, n, rfl, _⟩ := h; rfl
  · obtain ⟨x, d, m, n, rfl, hd, hw, q⟩ := h
    refine ⟨_, (pss_one (ps_ret (pe_and (pe_callB call_isi (by rfl) T.z_isinstance (by decide +kernel) (pa_cons (pv 0) (pa_cons (pe_bltn (v := .ty "tuple") (u := .type "tuple") (by rfl) T.z_tuple (by decide +kernel) rfl) pa_nil))) (pe_one (pe_callB (cr_all rfl) (by rfl) T.z_all (by decide +kernel) (pa_cons (pe_lc (own := [("sign", 2)]) (g := gName 2) (by rfl) sc_is_line.nd (pi_tup (pv 0)) (blkOk_by (own := [("sign", 2)]) (N := N_is_line) (sc := defScope s_is_line) (by decide +kernel)) (fun _ _ _ _ _ => pg_name (i := 2) sc_is_line.nd rfl (Or.inl rfl)) (fun _ _ _ _ _ => pts_nil) (fun _ _ _ _ _ => (pe_call (ok_is_below T) (hr.mono (by decide)) rfl T.g_is_below T.F_is_below.kp T.b_is_below .nil pass0 (pa_cons (pv 2) (pa_cons (pv 1) pa_nil))))) pa_nil)))))), ?_⟩
    refine ⟨_, rfl, _, _, _, _, isTupD d, rfl, .ty _, hd.ty, kit_tupD d, _, rfl, ?_⟩
    cases d with
    | tuple es =>
      obtain ⟨a, ys, rfl, hs, hes⟩ := hd.tup_of
      obtain ⟨hlen, hwt⟩ := weight_its (d := .tuple es)
      have hlen : es.length ≤ _ := hlen
      have le := hes.len
      refine iteT ⟨_, rfl, a, rfl, ⟨_, hs⟩, fun D hD => ?_⟩
      refine lc_tup (K := K) (a := a) (xs := ys) (fun i H' => Same H H' ∧ H' D = some (.lst (((es.take i).map (isBe n)).map V.bl))) ⟨Same.new (Same.refl _) hD, upd_same⟩ (fun i H' _ h => hs.ext h.1) ?_ ?_
      · rintro i x H' hx ⟨s', e'⟩
        obtain ⟨d', hd', dx⟩ := hes.at i x hx
        refine ⟨rfl, tYesT ⟨_, rfl, _, rfl, x, d', m, n, rfl, dx.ext s', _, e', ?_, fun b o e => ?_, ?_⟩⟩
        · rw [List.length_map, List.length_map]
          exact Nat.lt_of_le_of_lt (List.length_take_le' _ _) (Nat.lt_of_le_of_lt (by omega : es.length ≤ 100000) (by decide))
        · rw [upd_ne (ne_of_none e hD)]; exact s' b o e
        · rw [upd_same, List.take_add_one, hd', List.map_append, List.map_append]; rfl
      · rintro H2 ⟨s', e'⟩
        rw [le, List.take_length] at e'
        refine ⟨D, _, rfl, SqL.of e', ?_⟩
        rw [all_id]
        exact q _ s'
    | _ => exact iteF (q _ (Same.refl _))
def spInit (T : Txt K mg) : Sp := fun vs H Q E => ∃ p dx x1 x2 x3 d1 d2 d3 m1 m2 m3, vs = [.ref p, x1, x2, x3] ∧ H p = some (.ins T.C_Decoder dx []) ∧ Dw K p H m1 x1 d1 ∧ Dw K p H m2 x2 d2 ∧ Dw K p H m3 x3 d3 ∧ d2.weight ≤ 100000 ∧ d3.weight ≤ 100000 ∧
  ((isSg d1 = false ∧ Bad T.C_InvalidSigns H x1 E) ∨ (isSg d1 = true ∧ stepsB (numD d1) d2 = false ∧ Bad T.C_InvalidSteps H x2 E) ∨ (isSg d1 = true ∧ stepsB (numD d1) d2 = true ∧ endsB ((itsD d2).length : Int) d3 = false ∧ Bad T.C_InvalidEnds H x3 E) ∨
   ∃ D, GoodD D d1 d2 d3 ∧ ∀ H', Kp p H H' → DecAt K T.C_Decoder H' p D → Q .non H')
theorem ok_Decoder_init (T : Txt K mg) : FnOk P w K mg base (L2.CX P w) 7 T.f_Decoder_init T.fd_Decoder_init ["self", "signs", "steps", "ends"] (spInit T) := by
  refine T.F_Decoder_init.okX sc_Decoder_init (fun vs H Q E h => ?_) (fun cdv A outer s H vs Q E hr h => ?_)
  · obtain ⟨p, dx, x1, x2, x3, d1, d2, d3, m1, m2, m3, rfl, _⟩ := h; rfl
  · obtain ⟨p, dx, x1, x2, x3, d1, d2, d3, m1, m2, m3, rfl, hp, h1, h2, h3, w2, w3, hh⟩ := h
    refine ⟨_, (pss_cons (ps_if (pt_not (pt_val (pe_call (ok_is_number_of_signs T) (hr.mono (by decide)) rfl T.g_is_number_of_signs T.F_is_number_of_signs.kp T.b_is_number_of_signs .nil pass0 (pa_cons (pv 1) pa_nil)))) (pss_one (ps_raiseE rfl T.e_InvalidSigns hr (takes_of rfl rfl rfl rfl) (pa_cons (pv 1) pa_nil))) pss_nil)
      (pss_cons (ps_if (pt_not (pt_val (pe_call (ok_are_steps T) (hr.mono (by decide)) rfl T.g_are_steps T.F_are_steps.kp T.b_are_steps .nil pass0 (pa_cons (pv 2) (pa_cons (pv 1) pa_nil))))) (pss_one (ps_raiseE rfl T.e_InvalidSteps hr (takes_of rfl rfl rfl rfl) (pa_cons (pv 2) pa_nil))) pss_nil)
      (pss_cons (ps_if (pt_not (pt_val (pe_call (ok_are_ends T) (hr.mono (by decide)) rfl T.g_are_ends T.F_are_ends.kp T.b_are_ends .nil pass0 (pa_cons (pv 3) (pa_cons (pe_callB call_len_seq (by rfl) T.z_len (by decide +kernel) (pa_cons (pv 2) pa_nil)) pa_nil))))) (pss_one (ps_raiseE rfl T.e_InvalidEnds hr (takes_of rfl rfl rfl rfl) (pa_cons (pv 3) pa_nil))) pss_nil)
      (pss_cons (ps_fld (pv 0) (pv 1) rfl)
      (pss_cons (ps_fld (pv 0) (pe_callB call_len_seq (by rfl) T.z_len (by decide +kernel) (pa_cons (pv 2) pa_nil)) rfl)
      (pss_cons (ps_fld (pv 0) (pe_callTy call_tuple_of (by rfl) T.z_tuple (by decide +kernel) (pa_cons (pe_lc (own := [("row", 4)]) (g := gName 4) (by rfl) sc_Decoder_init.nd (pi_sq (pv 2)) (blkOk_by (own := [("row", 4)]) (N := N_Decoder_init) (sc := defScope s_Decoder_init) (by decide +kernel)) (fun _ _ _ _ _ => pg_name (i := 4) sc_Decoder_init.nd rfl (Or.inl rfl)) (fun _ _ _ _ _ => pts_nil) (fun _ _ _ _ _ => (pe_callTy (call_tuple_ofK (K := K) rfl) (by rfl) T.z_tuple (by decide +kernel) (pa_cons (pv 4) pa_nil)))) pa_nil)) rfl)
      (pss_one (ps_fld (pv 0) (pe_callTy call_tuple_of (by rfl) T.z_tuple (by decide +kernel) (pa_cons (pv 3) pa_nil)) rfl)))))))), ?_⟩
    have g1 : isSg d1 = false → Bad T.C_InvalidSigns H x1 E := fun z => by
      rcases hh with h | h | h | h
      · exact h.2
      · rw [z] at h; cases h.1
      · rw [z] at h; cases h.1
      · obtain ⟨D, g, _⟩ := h; rw [g.sg] at z; cases z
    have g2 : isSg d1 = true → stepsB (numD d1) d2 = false → Bad T.C_InvalidSteps H x2 E := fun z0 z => by
      rcases hh with h | h | h | h
      · rw [h.1] at z0; cases z0
      · exact h.2.2
      · rw [z] at h; cases h.2.1
      · obtain ⟨D, g, _⟩ := h
        have := g.steps
        rw [g.e1] at z
        rw [show numD (.int (D.sg : Nat)) = ((D.sg : Nat) : Int) from rfl, this] at z; cases z
    have g3 : isSg d1 = true → stepsB (numD d1) d2 = true → endsB ((itsD d2).length : Int) d3 = false → Bad T.C_InvalidEnds H x3 E := fun z0 z1 z => by
      rcases hh with h | h | h | h
      · rw [h.1] at z0; cases z0
      · rw [h.2.1] at z1; cases z1
      · exact h.2.2.2
      · obtain ⟨D, g, _⟩ := h
        rw [g.ends] at z; cases z
    have raise_ : ∀ {C : Addr} {x : V} {H' : Hp}, Bad C H x E → Same H H' → ∀ d, H' d = none → E (.ref C) (some d) (upd H' d (.xd (gvn x))) := fun kb s d hd =>
      kb d _ (Same.new s hd) (s.free hd) upd_same
    refine ⟨_, rfl, x1, d1, m1, rfl, h1.dg, _, rfl, ?_⟩
    cases c1 : isSg d1 with
    | false =>
      exact iteT ⟨_, rfl, x1, rfl, fun d hd => raise_ (g1 c1) (Same.refl _) d hd⟩
    | true =>
    obtain ⟨i, rfl⟩ : ∃ i, d1 = .int i := by cases d1 <;> first | exact ⟨_, rfl⟩ | cases c1
    obtain rfl := h1.int_of
    refine iteF ⟨_, rfl, _, rfl, x2, d2, m2, i, rfl, h2.dg, w2, fun H1 s1 => ⟨_, rfl, ?_⟩⟩
    cases c2 : stepsB i d2 with
    | false =>
      exact iteT ⟨_, rfl, x2, rfl, fun d hd => raise_ (g2 c1 c2) s1 d hd⟩
    | true =>
    have c2' := c2
    unfold stepsB at c2'
    rw [Bool.and_eq_true] at c2'
    have hsq := c2'.1
    have k1 : Kp p H H1 := Kp.of s1
    obtain ⟨a, ys, rfl, hq, hes⟩ := (h2.kp k1).lst_q (sq_its hsq)
    have le := hes.len
    have hq1 : SqQ K H1 a ys := hq.same (wo_same H1 p)
    refine iteF ⟨_, rfl, _, rfl, a, ys, rfl, hq1, x3, d3, m3, (ys.length : Int), rfl, (h3.kp k1).dg, w3, fun H2 s2 => ⟨_, rfl, ?_⟩⟩
    have s12 := s1.trans s2
    rw [le]
    cases c3 : endsB ((itsD d2).length : Int) d3 with
    | false =>
      exact iteT ⟨_, rfl, x3, rfl, fun d hd => raise_ (g3 c1 c2 c3) s12 d hd⟩
    | true =>
    obtain ⟨D, good, kQ⟩ : ∃ D, GoodD D (.int i) d2 d3 ∧ ∀ H', Kp p H H' → DecAt K T.C_Decoder H' p D → Q .non H' := by
      rcases hh with h | h | h | h
      · rw [h.1] at c1; cases c1
      · have := h.2.1; rw [show numD (.int i) = i from rfl, c2] at this; cases this
      · have := h.2.2.1; rw [c3] at this; cases this
      · exact h
    have ei : i = (D.sg : Nat) := by have := good.e1; injection this
    have l2 := good.len2
    have n40 := good.ok.n40
    have hp2 : H2 p = some (.ins T.C_Decoder dx []) := s12 _ _ hp
    have k2 : Kp p H H2 := Kp.of s12
    have lt0 : ∀ n : Nat, n ≤ 10 → n < 1000 := fun n h => by omega
    refine iteF ⟨_, rfl, _, rfl, p, T.C_Decoder, dx, _, rfl, hp2, T.cl_Decoder, T.na_Decoder_signs, (by show 0 < 1000; omega), ?_⟩
    have hq3 : SqQ K (upd H2 p (.ins T.C_Decoder dx (putF "signs" (.int i) []))) a ys := (hq.same ((Kp.of s2).wo.trans (by rw [← wo_upd (H := H2) (p := p) (o := .ins T.C_Decoder dx (putF "signs" (.int i) []))]; exact Same.refl _))).same (wo_same _ p)
    refine ⟨_, rfl, a, ys, rfl, hq3, _, rfl, p, T.C_Decoder, dx, _, rfl, upd_same, T.cl_Decoder, T.na_Decoder_states, (by show 1 < 1000; omega), ?_⟩
    rw [upd_upd]
    have k3 : Kp p H2 (upd H2 p (.ins T.C_Decoder dx (putF "states" (.int (ys.length : Int)) (putF "signs" (.int i) [])))) := (Kp.refl p H2).upd
    have e3 : (upd H2 p (.ins T.C_Decoder dx (putF "states" (.int (ys.length : Int)) (putF "signs" (.int i) [])))) p = some (.ins T.C_Decoder dx (putF "states" (.int (ys.length : Int)) (putF "signs" (.int i) []))) := upd_same
    generalize upd H2 p (.ins T.C_Decoder dx (putF "states" (.int (ys.length : Int)) (putF "signs" (.int i) []))) = H3 at k3 e3 ⊢
    have kH3 := k2.trans k3
    have hq4 : SqQ K H3 a ys := (hq.same ((Kp.of s2).wo.trans k3.wo)).same (wo_same H3 p)
    have he4 : DgAll K (wo H3 p) m2 ys (itsD d2) := hes.ext ((Kp.of s2).wo.trans k3.wo)
    dsimp only [L2.tSeq]
    unfold L2.sFld
    refine rows_tup (A := Unit) (p := p) (a := a) (i := 4) rfl rfl (fun R h => ⟨_, rfl, h⟩) hq4 he4 good.r2 (by omega) (by rw [e3]; exact fun z => by cases z) (fun _ => rfl) (fun _ => rfl) (fun r zs H4 s4 er nr hz => ?_)
    have e4 := s4 _ _ e3
    refine ⟨_, rfl, p, T.C_Decoder, dx, _, rfl, e4, T.cl_Decoder, T.na_Decoder_steps, (by show 2 < 1000; omega), ?_⟩
    have st4 : Dg K (wo H4 p) false (.ref r) D.stD := by
      refine dg_lf _ _ (lf_stD D) ?_ (m := m2)
      rw [← good.tup]
      exact .tup (SqT.of (by rw [wo_ne nr]; exact er)) hz
    have k4 : Kp p H3 H4 := Kp.of s4
    have hd4 : Dg K (wo H4 p) m3 x3 d3 := h3.kp (kH3.trans k4)
    obtain ⟨b, zs3, rfl, hq3', hes3⟩ := hd4.lst_q (sq_its good.s3)
    have k5 : Kp p H4 (upd H4 p (.ins T.C_Decoder dx (putF "steps" (.ref r) (putF "states" (.int (ys.length : Int)) (putF "signs" (.int i) []))))) := (Kp.refl p H4).upd
    have e5 : (upd H4 p (.ins T.C_Decoder dx (putF "steps" (.ref r) (putF "states" (.int (ys.length : Int)) (putF "signs" (.int i) []))))) p = some (.ins T.C_Decoder dx (putF "steps" (.ref r) (putF "states" (.int (ys.length : Int)) (putF "signs" (.int i) [])))) := upd_same
    generalize upd H4 p (.ins T.C_Decoder dx (putF "steps" (.ref r) (putF "states" (.int (ys.length : Int)) (putF "signs" (.int i) [])))) = H5 at k5 e5 ⊢
    have fin : ∀ t H6, Same H5 H6 → H6 p = some (.ins T.C_Decoder dx (putF "steps" (.ref r) (putF "states" (.int (ys.length : Int)) (putF "signs" (.int i) [])))) → Dg K (wo H6 p) m3 (.ref t) (.tuple (itsD d3)) →
        tVar 0 (L2.start N_Decoder_init [V.ref p, V.int i, V.ref a, V.ref b]) H6 fun x H2 => ∃ a C dx fs, x = V.ref a ∧ H2 a = some (HO.ins C dx fs) ∧ Cls K C ∧ NoAttr K C (Str.ofString "ends") ∧ fs.length < 1000 ∧ Q .non (upd H2 a (HO.ins C dx (putF (Str.ofString "ends") (.ref t) fs))) := fun t H6 s6 e6 ht => by
      refine ⟨_, rfl, p, T.C_Decoder, dx, _, rfl, e6, T.cl_Decoder, T.na_Decoder_ends, (by show 3 < 1000; omega), ?_⟩
      have k6 : Kp p H6 (upd H6 p (.ins T.C_Decoder dx (putF (Str.ofString "ends") (.ref t) (putF "steps" (.ref r) (putF "states" (.int (ys.length : Int)) (putF "signs" (.int i) [])))))) := (Kp.refl p H6).upd
      have ka : Kp p H4 (upd H6 p (.ins T.C_Decoder dx (putF (Str.ofString "ends") (.ref t) (putF "steps" (.ref r) (putF "states" (.int (ys.length : Int)) (putF "signs" (.int i) [])))))) := (k5.trans (Kp.of s6)).trans k6
      refine kQ _ ((kH3.trans k4).trans ka) ⟨⟨dx, r, t, ?_, (st4.ext ka.wo).ext (wo_same _ p), ?_⟩, good.ok⟩
      · rw [upd_same, ei, le, l2]; rfl
      · have : Dg K (wo H6 p) false (.ref t) D.enD := by
          refine dg_lf _ _ (lf_dEn D) ?_ (m := m3)
          rw [← good.tupE]; exact ht
        exact (this.ext k6.wo).ext (wo_same _ p)
    have hq5 : SqQ K H5 b zs3 := (hq3'.same k5.wo).same (wo_same H5 p)
    have hes5 : DgAll K (wo H5 p) m3 zs3 (itsD d3) := hes3.ext k5.wo
    rcases hq3' with hq6 | hq6
    · refine ⟨_, rfl, b, zs3, rfl, .inl ⟨(hq6.ext k5.wo).ext (wo_same H5 p), fun t ht => ?_⟩⟩
      have nt : t ≠ p := fun z => by rw [z, e5] at ht; cases ht
      have s6 : Same H5 (upd H5 t (.tup zs3)) := Same.new (Same.refl _) ht
      exact fin t _ s6 (s6 _ _ e5) (.tup (SqT.of (by rw [wo_ne nt]; exact upd_same)) (hes5.ext (Kp.of s6).wo))
    · exact ⟨_, rfl, b, zs3, rfl, .inr ⟨(hq6.ext k5.wo).ext (wo_same H5 p), fin b H5 (Same.refl _) e5 (.tup (hq6.ext k5.wo) hes5)⟩⟩
def spDeq (T : Txt K mg) : Sp := fun vs H Q _ => ∃ p y D, vs = [.ref p, y] ∧ DecAt K T.C_Decoder H p D ∧ ((∃ q D', y = .ref q ∧ DecAt K T.C_Decoder H q D' ∧ Q (.bl (decide (D = D'))) H) ∨ (∃ d m, Dg K H m y d ∧ Q (.bl false) H) ∨ (∃ t, TyX K H y t ∧ PySem.W.kitOne K t (.ref T.C_Decoder) = some false ∧ Q (.bl false) H))
theorem ok_Decoder_eq (T : Txt K mg) : FnOk P w K mg base CX0 1 T.f_Decoder_eq T.fd_Decoder_eq ["self", "other"] (spDeq T) := by
  refine T.F_Decoder_eq.ok sc_Decoder_eq (fun vs H Q E h => ?_) (fun cdv A outer s H vs Q E hr h => ?_)
  · obtain ⟨p, y, D, rfl, _⟩ := h; rfl
  · obtain ⟨p, y, D, rfl, ⟨⟨dx, Sa, Ea, ep, hs, he⟩, ok⟩, hh⟩ := h
    refine ⟨_, (pss_one (ps_ret (pe_and (pe_callB call_isi (by rfl) T.z_isinstance (by decide +kernel) (pa_cons (pv 1) (pa_cons (pe_glob (v := .ref T.C_Decoder) rfl T.g_Decoder rfl) pa_nil))) (pe_and (pe_cmpR op_eq (pe_fld (pv 0) rfl) (pe_fld (pv 1) rfl) (nomark _)) (pe_and (pe_cmpR (op_eqD (un64 hr)) (pe_fld (pv 0) rfl) (pe_fld (pv 1) rfl) (nomark _)) (pe_one (pe_cmpR (op_eqD (un64 hr)) (pe_fld (pv 0) rfl) (pe_fld (pv 1) rfl) (nomark _)))))))), ?_⟩
    rcases hh with ⟨q, D', rfl, ⟨⟨dy, Sb, Eb, eq, hs', he'⟩, ok'⟩, kQ⟩ | ⟨d, m, hd, kQ⟩ | ⟨t, ht, hk, kQ⟩
    · refine ⟨_, rfl, _, _, _, _, true, rfl, .own _, T.oe_Decoder.ty eq, kit_same, _, rfl, iteT ?_⟩
      have e : decide (D = D') = (decide (D.sg = D'.sg) && (decide (D.st = D'.st) && decide (D.en = D'.en))) := by
        rw [Bool.eq_iff_iff]; simp [dcd_eq]
      rw [e] at kQ
      refine ⟨_, rfl, p, _, dx, _, _, rfl, ep, T.cl_Decoder, T.na_Decoder_signs, dfs_signs, _, rfl, q, _, dy, _, _, rfl, eq, T.cl_Decoder, T.na_Decoder_signs, dfs_signs, rfl, _, rfl, ?_⟩
      have e1 : decide (V.int (D.sg : Nat) = V.int (D'.sg : Nat)) = decide (D.sg = D'.sg) := by
        rw [Bool.eq_iff_iff, decide_eq_true_eq, decide_eq_true_eq]
        exact ⟨fun z => by have := V.int.inj z; omega, fun z => by rw [z]⟩
      rw [e1]
      cases c1 : decide (D.sg = D'.sg) with
      | false => rw [c1, Bool.false_and] at kQ; exact iteF kQ
      | true =>
        rw [c1, Bool.true_and] at kQ
        refine iteT ⟨_, rfl, p, _, dx, _, _, rfl, ep, T.cl_Decoder, T.na_Decoder_steps, dfs_steps, _, rfl, q, _, dy, _, _, rfl, eq, T.cl_Decoder, T.na_Decoder_steps, dfs_steps, D.stD, D'.stD, dg_dp _ _ hs, dg_dp _ _ hs', shaped_stD ok, shaped_stD ok', _, rfl, ?_⟩
        rw [eqv_stD]
        cases c2 : decide (D.st = D'.st) with
        | false => rw [c2, Bool.false_and] at kQ; exact iteF kQ
        | true =>
          rw [c2, Bool.true_and] at kQ
          refine iteT ⟨_, rfl, p, _, dx, _, _, rfl, ep, T.cl_Decoder, T.na_Decoder_ends, dfs_ends, _, rfl, q, _, dy, _, _, rfl, eq, T.cl_Decoder, T.na_Decoder_ends, dfs_ends, D.enD, D'.enD, dg_dp _ _ he, dg_dp _ _ he', shaped_dEn ok, shaped_dEn ok', ?_⟩
          rw [eqv_dEn]
          exact kQ
    · exact ⟨_, rfl, _, _, _, _, false, rfl, .own _, hd.ty, kit_ownD T.ii_Decoder T.it_Decoder d, _, rfl, iteF kQ⟩
    · exact ⟨_, rfl, _, _, _, _, false, rfl, .own _, ht, hk, _, rfl, iteF kQ⟩
end
end My

set_option Elab.async false
set_option linter.all false
set_option maxRecDepth 100000
set_option maxHeartbeats 8000000
namespace My
open PySem PySem.Spec PyProof.Rows L2
section
variable {P : Program} {w : World} {K : PySem.W.Frag} {mg : Str → Option Value} {base : Heap}
theorem dg_row {K : PySem.W.Frag} {H : Hp} {Sa : Addr} {D : Dcd} (ok : D.ok) (h : Dg K H false (.ref Sa) D.stD) {s : Nat} (hs : s < D.st.length) : ∃ xs r zs, SqT K H Sa xs ∧ xs[s]? = some (.ref r) ∧ SqT K H r zs ∧
    ∀ a, a < D.sg → ∃ e, zs[a]? = some e ∧ Dg K H false e (enD (D.at s a)) := by
  obtain ⟨a, xs, e, hx, ha⟩ := h.tup_of
  injection e with e
  subst e
  obtain ⟨x, d, ex, ed, dx⟩ := ha.nth (i := s) (by rw [List.length_map]; exact hs)
  rw [List.getElem?_map, List.getElem?_eq_getElem hs] at ed
  have ed := Option.some.inj ed
  subst ed
  obtain ⟨r, zs, rfl, hz, hzs⟩ := dx.tup_of
  refine ⟨xs, r, zs, hx, ex, hz, fun a ha => ?_⟩
  have lr := (ok.rows _ (List.getElem_mem hs)).1
  obtain ⟨e, de, ee, ede, dge⟩ := hzs.nth (i := a) (by rw [List.length_map, lr]; exact ha)
  rw [List.getElem?_map, List.getElem?_eq_getElem (by rw [lr]; exact ha)] at ede
  have ede := Option.some.inj ede
  subst ede
  refine ⟨e, ee, ?_⟩
  unfold Dcd.at
  rw [List.getD_eq_getElem?_getD, List.getD_eq_getElem?_getD, List.getElem?_eq_getElem hs]
  show Dg K H false e (enD ((D.st[s])[a]?.getD none))
  rw [List.getElem?_eq_getElem (by rw [lr]; exact ha)]
  exact dge
theorem dg_end {K : PySem.W.Frag} {H : Hp} {Ea : Addr} {D : Dcd} (ok : D.ok) (h : Dg K H false (.ref Ea) D.enD) {s : Nat} (hs : s < D.st.length) : ∃ xs e, SqT K H Ea xs ∧ xs[s]? = some e ∧ Dg K H false e (wdD (D.en.getD s none)) := by
  obtain ⟨a, xs, e, hx, ha⟩ := h.tup_of
  injection e with e
  subst e
  have hs' : s < D.en.length := by rw [ok.ends]; exact hs
  obtain ⟨x, d, ex, ed, dx⟩ := ha.nth (i := s) (by rw [List.length_map]; exact hs')
  rw [List.getElem?_map, List.getElem?_eq_getElem hs'] at ed
  have ed := Option.some.inj ed
  subst ed
  exact ⟨xs, x, hx, ex, by rw [List.getD_eq_getElem?_getD, List.getElem?_eq_getElem hs']; exact dx⟩
def txV : Option (List Nat) → V | none => .non | some u => .str (S u)
def spWri (T : Txt K mg) : Sp := fun vs H Q E => ∃ p x D d m, vs = [.ref p, x] ∧ DecAt K T.C_Decoder H p D ∧ Dg K H m x d ∧ d.weight ≤ 100000 ∧
  ((isLn (D.sg : Nat) d = false ∧ Bad T.C_InvalidLine H x E) ∨ ∃ l : List Nat, d = lnD l ∧ (∀ a ∈ l, a < D.sg) ∧ ∀ H', Same H H' → Q (txV (D.wr l)) H')
theorem ok_Decoder_written (T : Txt K mg) : FnOk P w K mg base (L2.CX P w) 5 T.f_Decoder_written T.fd_Decoder_written ["self", "line"] (spWri T) := by
  refine T.F_Decoder_written.okX sc_Decoder_written (fun vs H Q E h => ?_) (fun cdv A outer s H vs Q E hr h => ?_)
  · obtain ⟨p, x, D, d, m, rfl, _⟩ := h; rfl
  · obtain ⟨p, x, D, d, m, rfl, ⟨⟨dx, Sa, Ea, ep, hs, he⟩, ok⟩, hd, hw, hh⟩ := h
    refine ⟨_, (pss_cons (ps_if (pt_not (pt_val (pe_call (ok_is_line T) (hr.mono (by decide)) rfl T.g_is_line T.F_is_line.kp T.b_is_line .nil pass0 (pa_cons (pv 1) (pa_cons (pe_fld (pv 0) rfl) pa_nil))))) (pss_one (ps_raiseE rfl T.e_InvalidLine hr (takes_of rfl rfl rfl rfl) (pa_cons (pv 1) pa_nil))) pss_nil)
      (pss_cons (ps_set (i := 2) sc_Decoder_written.nd rfl (Or.inl rfl) pe_int)
      (pss_cons (ps_set (i := 3) sc_Decoder_written.nd rfl (Or.inl rfl) (pe_lst pa_nil))
      (pss_cons (ps_for (passes_of rfl) rfl (pi_tup (pv 1)) (pg_name (i := 4) sc_Decoder_written.nd rfl (Or.inl rfl)) (pss_cons (ps_set (i := 5) sc_Decoder_written.nd rfl (Or.inl rfl) (pe_ix ix_tup (pe_ix ix_tup (pe_fld (pv 0) rfl) (pv 2) (fun _ _ => rfl)) (pv 4) (fun _ _ => rfl)))
      (pss_cons (ps_if (pt_cmp (pc_isN (pv 5))) (pss_one (ps_ret pe_non)) pss_nil)
      (pss_cons (ps_asg (pv 5) (pg_tup rfl (pgs_cons (pg_name (i := 2) sc_Decoder_written.nd rfl (Or.inl rfl)) (pgs_cons (pg_name (i := 6) sc_Decoder_written.nd rfl (Or.inl rfl)) pgs_nil))))
      (pss_one (ps_expr (pe_bm PySem.F.plainAttrs_list PySem.F.slot_list_append PySem.F.type_list_append mt_append (pv 3) (pa_cons (pv 6) pa_nil))))))))
      (pss_cons (ps_if (pt_cmp (pc_isN (pe_ix ix_tup (pe_fld (pv 0) rfl) (pv 2) (fun _ _ => rfl)))) (pss_one (ps_ret pe_non)) pss_nil)
      (pss_cons (ps_expr (pe_bm PySem.F.plainAttrs_list PySem.F.slot_list_append PySem.F.type_list_append mt_append (pv 3) (pa_cons (pe_ix ix_tup (pe_fld (pv 0) rfl) (pv 2) (fun _ _ => rfl)) pa_nil)))
      (pss_one (ps_ret (pe_bm PySem.F.plainAttrs_str PySem.F.slot_str_join PySem.F.type_str_join mt_join pe_str (pa_cons (pv 3) pa_nil)))))))))), ?_⟩
    refine ⟨_, rfl, _, rfl, p, _, dx, _, _, rfl, ep, T.cl_Decoder, T.na_Decoder_signs, dfs_signs, x, d, m, _, rfl, hd, hw, fun H1 s1 => ⟨_, rfl, ?_⟩⟩
    rcases hh with ⟨hf, kB⟩ | ⟨l, rfl, hl, kQ⟩
    · rw [hf]
      exact iteT ⟨_, rfl, x, rfl, fun d' hd' => kB d' _ (Same.new s1 hd') (s1.free hd') upd_same⟩
    rw [isLn_of hl]
    obtain ⟨a, xs, rfl, hx, hxs⟩ := (hd.ext s1).tup_of
    have lx := hxs.len
    rw [List.length_map] at lx
    have hlen : l.length ≤ 100000 := by
      have := (weight_its (d := lnD l)).1
      rw [show itsD (lnD l) = l.map fun (a : Nat) => PyData.int a from rfl, List.length_map] at this
      omega
    refine iteF ⟨(by show 0 ≤ sizeLine; decide), fun L hL => ?_⟩
    have s2 : Same H1 (upd H1 L (.lst [])) := Same.new (Same.refl _) hL
    have eL : (upd H1 L (.lst [])) L = some (.lst []) := upd_same
    have hLH : H L = none := s1.free hL
    generalize upd H1 L (.lst []) = H2 at s2 eL ⊢
    have s02 := s1.trans s2
    have at_ : ∀ {i : Nat} {x : V}, xs[i]? = some x → ∃ b : Nat, l[i]? = some b ∧ x = .int (b : Nat) := fun {i x} h => by
      obtain ⟨d, e, dx⟩ := hxs.at i x h
      rw [List.getElem?_map] at e
      cases q : l[i]? with
      | none => rw [q] at e; cases e
      | some b =>
        rw [q] at e
        have e := Option.some.inj e
        subst e
        exact ⟨b, rfl, dx.int_of⟩
    refine ⟨_, rfl, a, rfl, ⟨_, hx.ext s2⟩, for_tup (K := K) (a := a) (xs := xs) (fun i σ H' => ∃ (s : Nat) (ws : List (List Nat)) (x4 x5 x6 : Option V), σ = [some (.ref p), some (.ref a), some (.int (s : Nat)), some (.ref L), x4, x5, x6] ∧ Same H1 H' ∧ H' L = some (.lst ((ws.map S).map V.str)) ∧ D.go 0 (l.take i) = some (s, ws.flatten) ∧ ws.length ≤ i ∧ s < D.st.length)
      ⟨0, [], _, _, _, rfl, s2, eL, rfl, Nat.le_refl _, ok.n1⟩ (fun i σ H' _ ⟨_, _, _, _, _, _, s', _⟩ => hx.ext s') ?_ ?_⟩
    · rintro i x σ H' hxi ⟨s, ws, x4, x5, x6, rfl, s', e', hgo, hle, hst⟩
      obtain ⟨b, hb, rfl⟩ := at_ hxi
      have hbl := hl b (List.mem_of_getElem? hb)
      have s'' : Same H H' := s1.trans s'
      obtain ⟨rows, r, zs, hr1, hr2, hz, hent⟩ := dg_row ok (hs.ext s'') hst
      obtain ⟨ev, he1, he2⟩ := hent b hbl
      have step := D.go_snoc (l.take i) 0 b
      rw [← take_snoc hb, hgo] at step
      have step : D.go 0 (l.take (i + 1)) = (D.at s b).map fun (q : Nat × List Nat) => (q.1, ws.flatten ++ q.2) := step
      have oe : okE D.st.length (D.at s b) := ok.at
      have hi : i < l.length := (List.getElem?_eq_some_iff.mp hb).1
      refine ⟨_, rfl, p, _, dx, _, _, rfl, s'' _ _ ep, T.cl_Decoder, T.na_Decoder_steps, dfs_steps, _, rfl, Sa, _, _, _, rfl, rfl, hr1, atI_nat hr2, _, rfl, r, _, _, _, rfl, rfl, hz, atI_nat he1, ?_⟩
      refine ⟨_, rfl, _, rfl, ?_⟩
      cases hat : D.at s b with
      | none =>
        rw [hat] at he2 step
        have ev0 : ev = .non := by cases he2; rfl
        subst ev0
        have q0 := kQ H' s''
        rw [D.wr_none step] at q0
        exact iteT q0
      | some gw =>
        obtain ⟨g, w⟩ := gw
        rw [hat] at he2 step
        have step : D.go 0 (l.take (i + 1)) = some (g, ws.flatten ++ w) := step
        obtain ⟨og, ow⟩ := oe g w hat
        obtain ⟨t, us, rfl, ht, hus⟩ := he2.tup_of
        obtain ⟨y0, vs1, rfl, hy0, hv1⟩ := hus.cons_of
        obtain ⟨y1, vs2, rfl, hy1, hv2⟩ := hv1.cons_of
        obtain rfl := hv2.nil_of
        obtain rfl := hy0.int_of
        obtain rfl := hy1.str_of
        refine iteF ⟨_, rfl, t, _, rfl, ht, rfl, _, _, rfl, _, _, rfl, rfl, ?_⟩
        refine ⟨_, rfl, .inl ⟨rfl, _, SqL.of e'⟩, _, rfl, L, _, _, rfl, rfl, e', ?_, ?_⟩
        · rw [List.length_map, List.length_map]; exact Nat.lt_of_le_of_lt (by omega : ws.length ≤ 100000) (by decide)
        · refine ⟨g, ws ++ [w], _, _, _, rfl, fun bb o e => by rw [upd_ne (ne_of_none e hL)]; exact s' bb o e, ?_, ?_, ?_, og⟩
          · rw [upd_same, List.map_append, List.map_append]; rfl
          · rw [step, List.flatten_append]; simp
          · rw [List.length_append]; simp; omega
    · rintro σ H' ⟨s, ws, x4, x5, x6, rfl, s', e', hgo, hle, hst⟩
      have s'' : Same H H' := s1.trans s'
      rw [lx, List.take_length] at hgo
      obtain ⟨exs, ev, hx1, hx2, hx3⟩ := dg_end ok (he.ext s'') hst
      have fld : (∀ R : VK, R ev H' → tOp (rIxT K) (tFld K (tVar 0) (Str.ofString "ends")) (tVar 2) [some (.ref p), some (.ref a), some (.int (s : Nat)), some (.ref L), x4, x5, x6] H' R) := fun R h =>
        ⟨_, rfl, p, _, dx, _, _, rfl, s'' _ _ ep, T.cl_Decoder, T.na_Decoder_ends, dfs_ends, _, rfl, Ea, _, _, _, rfl, rfl, hx1, atI_nat hx2, h⟩
      have q0 := kQ
      unfold Dcd.wr at q0
      rw [hgo] at q0
      have q0 : ∀ H2, Same H H2 → Q (txV ((D.en.getD s none).map fun w => ws.flatten ++ w)) H2 := q0
      refine fld _ ⟨_, rfl, ?_⟩
      cases hen : D.en.getD s none with
      | none =>
        rw [hen] at hx3 q0
        have ev0 : ev = .non := by cases hx3; rfl
        subst ev0
        exact iteT (q0 H' s'')
      | some w =>
        rw [hen] at hx3 q0
        have ow := ok.end_ hen
        have ev0 : ev = .str (S w) := hx3.str_of
        subst ev0
        have ⟨_, _, lu⟩ := ok.go l 0 s _ ok.n1 hgo
        refine iteF ⟨_, rfl, .inl ⟨rfl, _, SqL.of e'⟩, fld _ ⟨L, _, _, rfl, rfl, e', ?_, ?_⟩⟩
        · rw [List.length_map, List.length_map]; exact Nat.lt_of_le_of_lt (by omega : ws.length ≤ 100000) (by decide)
        · have eU : (upd H' L (.lst ((ws.map S).map V.str ++ [.str (S w)]))) L = some (.lst (((ws ++ [w]).map S).map V.str)) := by rw [upd_same, List.map_append, List.map_append]; rfl
          have sU : Same H (upd H' L (.lst ((ws.map S).map V.str ++ [.str (S w)]))) := fun bb o e => by rw [upd_ne (ne_of_none e hLH)]; exact s'' bb o e
          generalize upd H' L (.lst ((ws.map S).map V.str ++ [.str (S w)])) = H5 at eU sU ⊢
          refine ⟨rfl, _, rfl, _, L, (ws ++ [w]).map S, rfl, rfl, .inl (SqL.of eU), ?_, ?_⟩
          · rw [sum_words, List.flatten_append, List.length_append]
            rw [show [w].flatten = w by simp]
            show _ + ((ws ++ [w]).map S).length * 0 ≤ _
            have := ow.2
            omega
          · rw [join_words, List.flatten_append]
            have := q0 H5 sU
            simpa [txV] using this
end
end My

set_option Elab.async false
set_option linter.all false
set_option maxRecDepth 100000
set_option maxHeartbeats 8000000
namespace My
open PySem PySem.Spec PyProof.Rows L2
/-! ### states, the rejected one among them -/
abbrev Sta := Option Nat
def stV : Sta → V | none => .int (-1) | some s => .int (s : Nat)
def stN : Sta → Int | none => -1 | some s => (s : Nat)
theorem stV_eq (s : Sta) : stV s = .int (stN s) := by cases s <;> rfl
theorem stN_inj {s t : Sta} (h : stN s = stN t) : s = t := by
  cases s with
  | none => cases t with
    | none => rfl
    | some b => have h' : (-1 : Int) = (b : Nat) := h; omega
  | some a => cases t with
    | none => have h' : ((a : Nat) : Int) = -1 := h; omega
    | some b => have h' : ((a : Nat) : Int) = (b : Nat) := h; rw [show a = b by omega]
def okS (D : Dcd) (s : Sta) : Prop := ∀ q, s = some q → q < D.st.length
def Dcd.acc (D : Dcd) : Sta → Bool | none => false | some s => (D.en.getD s none).isSome
def Dcd.beh (D : Dcd) : Sta → Nat → Sta | none, _ => none | some s, a => (D.at s a).map (·.1)
theorem Dcd.beh_ok {D : Dcd} (ok : D.ok) {s : Sta} {a : Nat} : okS D (D.beh s a) := by
  intro q e
  cases s with
  | none => cases e
  | some s =>
    have e : (D.at s a).map (·.1) = some q := e
    cases he : D.at s a with
    | none => rw [he] at e; cases e
    | some p =>
      rw [he] at e
      injection e with e
      obtain ⟨g, w⟩ := p
      have e : g = q := e
      subst e
      exact (ok.at g w he).1
/-- a state or a sign, none among them -/
def onV : Option Nat → V | none => .non | some s => .int (s : Nat)
/-- the state behind a line -/
def Dcd.aft (D : Dcd) (l : List Nat) : Option Nat := (D.go 0 l).map (·.1)
section
variable {P : Program} {w : World} {K : PySem.W.Frag} {mg : Str → Option Value} {base : Heap}
theorem ok_Decoder_state_after (T : Txt K mg) : FnOk P w K mg base (L2.CX P w) 5 T.f_Decoder_state_after T.fd_Decoder_state_after ["self", "line"] (fun vs H Q E => ∃ p x D d m, vs = [.ref p, x] ∧ DecAt K T.C_Decoder H p D ∧ Dg K H m x d ∧ d.weight ≤ 100000 ∧
    ((isLn (D.sg : Nat) d = false ∧ Bad T.C_InvalidLine H x E) ∨ ∃ l : List Nat, d = lnD l ∧ (∀ a ∈ l, a < D.sg) ∧ ∀ H', Same H H' → Q (onV (D.aft l)) H')) := by
  refine T.F_Decoder_state_after.okX sc_Decoder_state_after (fun vs H Q E h => ?_) (fun cdv A outer s H vs Q E hr h => ?_)
  · obtain ⟨p, x, D, d, m, rfl, _⟩ := h; rfl
  · obtain ⟨p, x, D, d, m, rfl, ⟨⟨dx, Sa, Ea, ep, hs, he⟩, ok⟩, hd, hw, hh⟩ := h
    refine ⟨_, (pss_cons (ps_if (pt_not (pt_val (pe_call (ok_is_line T) (hr.mono (by decide)) rfl T.g_is_line T.F_is_line.kp T.b_is_line .nil pass0 (pa_cons (pv 1) (pa_cons (pe_fld (pv 0) rfl) pa_nil))))) (pss_one (ps_raiseE rfl T.e_InvalidLine hr (takes_of rfl rfl rfl rfl) (pa_cons (pv 1) pa_nil))) pss_nil)
      (pss_cons (ps_set (i := 2) sc_Decoder_state_after.nd rfl (Or.inl rfl) pe_int)
      (pss_cons (ps_for (passes_of rfl) rfl (pi_tup (pv 1)) (pg_name (i := 3) sc_Decoder_state_after.nd rfl (Or.inl rfl)) (pss_cons (ps_set (i := 4) sc_Decoder_state_after.nd rfl (Or.inl rfl) (pe_ix ix_tup (pe_ix ix_tup (pe_fld (pv 0) rfl) (pv 2) (fun _ _ => rfl)) (pv 3) (fun _ _ => rfl)))
      (pss_cons (ps_if (pt_cmp (pc_isN (pv 4))) (pss_one (ps_ret pe_non)) pss_nil)
      (pss_one (ps_set (i := 2) sc_Decoder_state_after.nd rfl (Or.inl rfl) (pe_ix ix_tup (pv 4) pe_int (fun _ _ => rfl)))))))
      (pss_one (ps_ret (pv 2)))))), ?_⟩
    refine ⟨_, rfl, _, rfl, p, _, dx, _, _, rfl, ep, T.cl_Decoder, T.na_Decoder_signs, dfs_signs, x, d, m, _, rfl, hd, hw, fun H1 s1 => ⟨_, rfl, ?_⟩⟩
    rcases hh with ⟨hf, kB⟩ | ⟨l, rfl, hl, kQ⟩
    · rw [hf]
      exact iteT ⟨_, rfl, x, rfl, fun d' hd' => kB d' _ (Same.new s1 hd') (s1.free hd') upd_same⟩
    rw [isLn_of hl]
    obtain ⟨a, xs, rfl, hx, hxs⟩ := (hd.ext s1).tup_of
    have lx := hxs.len
    rw [List.length_map] at lx
    have at_ : ∀ {i : Nat} {x : V}, xs[i]? = some x → ∃ b : Nat, l[i]? = some b ∧ x = .int (b : Nat) := fun {i x} h => by
      obtain ⟨d, e, dx⟩ := hxs.at i x h
      rw [List.getElem?_map] at e
      cases q : l[i]? with
      | none => rw [q] at e; cases e
      | some b =>
        rw [q] at e
        have e := Option.some.inj e
        subst e
        exact ⟨b, rfl, dx.int_of⟩
    refine iteF ⟨_, rfl, a, rfl, ⟨_, hx⟩, for_tup (K := K) (a := a) (xs := xs) (fun i σ H' => ∃ (s : Nat) (ws : List Nat) (x3 x4 : Option V), σ = [some (.ref p), some (.ref a), some (.int (s : Nat)), x3, x4] ∧ Same H1 H' ∧ D.go 0 (l.take i) = some (s, ws) ∧ s < D.st.length)
      ⟨0, [], _, _, rfl, Same.refl _, rfl, ok.n1⟩ (fun i σ H' _ ⟨_, _, _, _, _, s', _⟩ => hx.ext s') ?_ ?_⟩
    · rintro i x σ H' hxi ⟨s, ws, x3, x4, rfl, s', hgo, hst⟩
      obtain ⟨b, hb, rfl⟩ := at_ hxi
      have hbl := hl b (List.mem_of_getElem? hb)
      have s'' : Same H H' := s1.trans s'
      obtain ⟨rows, r, zs, hr1, hr2, hz, hent⟩ := dg_row ok (hs.ext s'') hst
      obtain ⟨ev, he1, he2⟩ := hent b hbl
      have step := D.go_snoc (l.take i) 0 b
      rw [← take_snoc hb, hgo] at step
      have step : D.go 0 (l.take (i + 1)) = (D.at s b).map fun (q : Nat × List Nat) => (q.1, ws ++ q.2) := step
      have oe : okE D.st.length (D.at s b) := ok.at
      refine ⟨_, rfl, p, _, dx, _, _, rfl, s'' _ _ ep, T.cl_Decoder, T.na_Decoder_steps, dfs_steps, _, rfl, Sa, _, _, _, rfl, rfl, hr1, atI_nat hr2, _, rfl, r, _, _, _, rfl, rfl, hz, atI_nat he1, ?_⟩
      refine ⟨_, rfl, _, rfl, ?_⟩
      cases hat : D.at s b with
      | none =>
        rw [hat] at he2 step
        have ev0 : ev = .non := by cases he2; rfl
        subst ev0
        have q0 := kQ H' s''
        have : D.aft l = none := by
          unfold Dcd.aft
          rw [D.go_none step]; rfl
        rw [this] at q0
        exact iteT q0
      | some gw =>
        obtain ⟨g, w⟩ := gw
        rw [hat] at he2 step
        have step : D.go 0 (l.take (i + 1)) = some (g, ws ++ w) := step
        obtain ⟨og, ow⟩ := oe g w hat
        obtain ⟨t, us, rfl, ht, hus⟩ := he2.tup_of
        obtain ⟨y0, vs1, rfl, hy0, hv1⟩ := hus.cons_of
        obtain rfl := hy0.int_of
        exact iteF ⟨_, rfl, t, _, _, _, rfl, rfl, ht, atI_nat (j := 0) rfl, g, ws ++ w, _, _, rfl, s', step, og⟩
    · rintro σ H' ⟨s, ws, x3, x4, rfl, s', hgo, hst⟩
      rw [lx, List.take_length] at hgo
      have q0 := kQ H' (s1.trans s')
      have : D.aft l = some s := by unfold Dcd.aft; rw [hgo]; rfl
      rw [this] at q0
      exact ⟨_, rfl, q0⟩
end
end My

set_option Elab.async false
set_option linter.all false
set_option maxRecDepth 100000
set_option maxHeartbeats 4000000
/-! Which states are met from some states: marks, and a stack. -/
namespace My
open PySem PySem.Spec PyProof.Rows L2
inductive RchG (gs : Nat → List Nat) (st : List Nat) : Nat → Prop
  | start {s : Nat} : s ∈ st → RchG gs st s
  | step {s t : Nat} : RchG gs st s → t ∈ gs s → RchG gs st t
def cntF (m : Nat → Bool) (n : Nat) : Nat := ((List.range n).filter fun s => !m s).length
def mark (m : Nat → Bool) (g : Nat) : Nat → Bool := fun s => decide (s = g) || m s
theorem cnt_mark {m : Nat → Bool} {g : Nat} : ∀ {n : Nat}, g < n → m g = false → cntF (mark m g) n + 1 = cntF m n
  | 0, h, _ => absurd h (Nat.not_lt_zero _)
  | n + 1, h, hm => by
    unfold cntF
    rw [List.range_succ, List.filter_append, List.filter_append, List.length_append, List.length_append]
    by_cases e : g = n
    · subst e
      have h1 : (List.range g).filter (fun s => !mark m g s) = (List.range g).filter (fun s => !m s) := List.filter_congr fun s hs => by
        have : s ≠ g := Nat.ne_of_lt (List.mem_range.mp hs)
        unfold mark
        rw [decide_eq_false this, Bool.false_or]
      rw [h1]
      have h2 : mark m g g = true := by unfold mark; rw [decide_eq_true rfl]; rfl
      simp [h2, hm]
    · have ih := cnt_mark (m := m) (g := g) (n := n) (by omega) hm
      unfold cntF at ih
      have h2 : mark m g n = m n := by unfold mark; rw [decide_eq_false (fun z => e z.symm), Bool.false_or]
      have h3 : ([n].filter fun s => !mark m g s) = [n].filter fun s => !m s := List.filter_congr fun s hs => by rw [List.mem_singleton.mp hs, h2]
      rw [h3]
      omega
theorem cnt_le (m : Nat → Bool) (n : Nat) : cntF m n ≤ n := by
  have := List.length_filter_le (fun s => !m s) (List.range n)
  rw [List.length_range] at this
  exact this
def marks (m : Nat → Bool) (n : Nat) : List V := (List.range n).map fun s => V.bl (m s)
theorem marks_at {m : Nat → Bool} {n s : Nat} (h : s < n) : (marks m n)[s]? = some (.bl (m s)) := by
  unfold marks
  rw [List.getElem?_map, List.getElem?_range h]; rfl
theorem marks_len {m : Nat → Bool} {n : Nat} : (marks m n).length = n := by unfold marks; rw [List.length_map, List.length_range]
theorem marks_set {m : Nat → Bool} {n g : Nat} : (marks m n).set g (.bl true) = marks (mark m g) n := by
  refine List.ext_getElem? fun i => ?_
  rw [List.getElem?_set]
  by_cases e : g = i
  · subst e
    rw [if_pos rfl, marks_len]
    by_cases l : g < n
    · rw [if_pos l, marks_at l]
      unfold mark
      rw [decide_eq_true rfl]; rfl
    · rw [if_neg l, List.getElem?_eq_none (by rw [marks_len]; omega)]
  · rw [if_neg e]
    by_cases l : i < n
    · rw [marks_at l, marks_at l]
      unfold mark
      rw [decide_eq_false (fun z => e z.symm), Bool.false_or]
    · rw [List.getElem?_eq_none (by rw [marks_len]; omega), List.getElem?_eq_none (by rw [marks_len]; omega)]
/-- between turns -/
structure MetI (gs : Nat → List Nat) (st : List Nat) (m : Nat → Bool) (wt : List Nat) : Prop where
  s : ∀ x ∈ st, m x = true
  r : ∀ x, m x = true → RchG gs st x
  w : ∀ x ∈ wt, m x = true
  d : ∀ x, m x = true → x ∈ wt ∨ ∀ g ∈ gs x, m g = true
/-- while x is looked at -/
structure MetA (gs : Nat → List Nat) (st : List Nat) (x i : Nat) (m : Nat → Bool) (wt : List Nat) : Prop where
  s : ∀ y ∈ st, m y = true
  r : ∀ y, m y = true → RchG gs st y
  w : ∀ y ∈ wt, m y = true
  d : ∀ y, m y = true → y ∈ wt ∨ (∀ g ∈ gs y, m g = true) ∨ y = x
  xm : m x = true
  pre : ∀ g ∈ (gs x).take i, m g = true
section
variable {gs : Nat → List Nat} {st : List Nat} {m : Nat → Bool} {wt : List Nat} {x i : Nat}
theorem MetI.start {f : Nat → Bool} (h : ∀ x, f x = true ↔ x ∈ st) : MetI gs st f st :=
  ⟨fun x hx => (h x).mpr hx, fun x hx => .start ((h x).mp hx), fun x hx => (h x).mpr hx, fun x hx => .inl ((h x).mp hx)⟩
theorem MetI.pop (h : MetI gs st m (wt ++ [x])) : MetA gs st x 0 m wt :=
  ⟨h.s, h.r, fun y hy => h.w y (List.mem_append_left _ hy), fun y hy => by
    rcases h.d y hy with z | z
    · rcases List.mem_append.mp z with z | z
      · exact .inl z
      · exact .inr (.inr (List.mem_singleton.mp z))
    · exact .inr (.inl z), h.w x (List.mem_append_right _ (by simp)), fun g hg => by simp at hg⟩
theorem MetA.old {g : Nat} (h : MetA gs st x i m wt) (e : (gs x)[i]? = some g) (hm : m g = true) : MetA gs st x (i + 1) m wt :=
  ⟨h.s, h.r, h.w, h.d, h.xm, fun y hy => by
    rw [List.take_add_one, e] at hy
    rcases List.mem_append.mp hy with z | z
    · exact h.pre y z
    · have : y = g := by simpa using z
      rw [this]; exact hm⟩
theorem mark_of {g y : Nat} : mark m g y = true ↔ y = g ∨ m y = true := by
  unfold mark
  rw [Bool.or_eq_true, decide_eq_true_eq]
theorem MetA.new {g : Nat} (h : MetA gs st x i m wt) (e : (gs x)[i]? = some g) : MetA gs st x (i + 1) (mark m g) (wt ++ [g]) :=
  ⟨fun y hy => mark_of.mpr (.inr (h.s y hy)), fun y hy => by
    rcases mark_of.mp hy with z | z
    · rw [z]; exact .step (h.r x h.xm) (List.mem_of_getElem? e)
    · exact h.r y z, fun y hy => by
    rcases List.mem_append.mp hy with z | z
    · exact mark_of.mpr (.inr (h.w y z))
    · exact mark_of.mpr (.inl (List.mem_singleton.mp z)), fun y hy => by
    rcases mark_of.mp hy with z | z
    · exact .inl (List.mem_append_right _ (by simp [z]))
    · rcases h.d y z with q | q | q
      · exact .inl (List.mem_append_left _ q)
      · exact .inr (.inl fun g' hg' => mark_of.mpr (.inr (q g' hg')))
      · exact .inr (.inr q), mark_of.mpr (.inr h.xm), fun y hy => by
    rw [List.take_add_one, e] at hy
    rcases List.mem_append.mp hy with z | z
    · exact mark_of.mpr (.inr (h.pre y z))
    · have : y = g := by simpa using z
      exact mark_of.mpr (.inl this)⟩
theorem MetA.done (h : MetA gs st x (gs x).length m wt) : MetI gs st m wt :=
  ⟨h.s, h.r, h.w, fun y hy => by
    rcases h.d y hy with q | q | q
    · exact .inl q
    · exact .inr q
    · rw [q]; exact .inr fun g hg => h.pre g (by rw [List.take_length]; exact hg)⟩
theorem MetI.all (h : MetI gs st m []) : ∀ x, m x = true ↔ RchG gs st x := fun x => ⟨h.r x, fun r => by
  induction r with
  | start hs => exact h.s _ hs
  | step r hg ih =>
    rcases h.d _ ih with z | z
    · cases z
    · exact z _ hg⟩
end
/-! ### lists of lists of numbers -/
def nmV (g : List Nat) : List V := g.map fun (a : Nat) => V.int a
def LLn (H : Hp) (a : Addr) (gs : List (List Nat)) : Prop := ∃ rs, H a = some (.lst rs) ∧ Paired (fun v (g : List Nat) => ∃ r, v = .ref r ∧ H r = some (.lst (nmV g))) rs gs
theorem LLn.ext {H H' : Hp} {a : Addr} {gs : List (List Nat)} (h : LLn H a gs) (s : Same H H') : LLn H' a gs := by
  obtain ⟨rs, e, p⟩ := h
  exact ⟨rs, s _ _ e, L2.Paired.mapP p fun _ _ ⟨r, e1, e2⟩ => ⟨r, e1, s _ _ e2⟩⟩
theorem LLn.at_ {H : Hp} {a : Addr} {gs : List (List Nat)} (h : LLn H a gs) {s : Nat} (hs : s < gs.length) : ∃ rs r, H a = some (.lst rs) ∧ rs[s]? = some (.ref r) ∧ H r = some (.lst (nmV (gs.getD s []))) := by
  obtain ⟨rs, e, p⟩ := h
  have l := pr_len p
  obtain ⟨g, hg, r, e1, e2⟩ := pr_get p (List.getElem?_eq_getElem (show s < rs.length by omega))
  refine ⟨rs, r, e, by rw [List.getElem?_eq_getElem (show s < rs.length by omega), e1], ?_⟩
  rw [List.getD_eq_getElem?_getD, hg]; exact e2
theorem inV_nm (s : Nat) (st : List Nat) : inV (.int (s : Nat)) (nmV st) = decide (s ∈ st) := by
  unfold inV nmV
  rw [List.any_map]
  induction st with
  | nil => rfl
  | cons a st ih =>
    rw [List.any_cons, ih]
    have : ((fun y => eqV y (V.int (s : Nat))) ∘ fun (a : Nat) => V.int (a : Nat)) a = decide (a = s) := by
      show ((a : Int) == (s : Int)) = _
      rw [Bool.eq_iff_iff]; simp
      omega
    rw [this, Bool.eq_iff_iff]
    simp only [Bool.or_eq_true, decide_eq_true_eq, List.mem_cons]
    constructor
    · rintro (h | h)
      · exact .inl h.symm
      · exact .inr h
    · rintro (h | h)
      · exact .inl h.symm
      · exact .inr h
theorem flat_nm (st : List Nat) : (nmV st).all flatV = true := by
  unfold nmV
  rw [List.all_map]
  exact List.all_eq_true.mpr fun x _ => rfl
theorem nm_app (a b : List Nat) : nmV (a ++ b) = nmV a ++ nmV b := by unfold nmV; rw [List.map_append]
theorem nm_len (a : List Nat) : (nmV a).length = a.length := by unfold nmV; rw [List.length_map]
theorem nm_at {a : List Nat} {i : Nat} {x : V} (h : (nmV a)[i]? = some x) : ∃ g, a[i]? = some g ∧ x = .int (g : Nat) := by
  unfold nmV at h
  rw [List.getElem?_map] at h
  cases q : a[i]? with
  | none => rw [q] at h; cases h
  | some g => rw [q] at h; exact ⟨g, rfl, (Option.some.inj h).symm⟩
theorem getD_mem {gs : List (List Nat)} {s g : Nat} {n : Nat} (og : ∀ g ∈ gs, ∀ y ∈ g, y < n) (h : g ∈ gs.getD s []) : g < n := by
  rw [List.getD_eq_getElem?_getD] at h
  cases q : gs[s]? with
  | none => rw [q] at h; cases h
  | some r => rw [q] at h; exact og r (List.mem_of_getElem? q) g h
end My

set_option Elab.async false
set_option linter.all false
set_option maxRecDepth 100000
set_option maxHeartbeats 8000000
namespace My
open PySem PySem.Spec PyProof.Rows L2
section
variable {P : Program} {w : World} {K : PySem.W.Frag} {mg : Str → Option Value} {base : Heap}
theorem ok_states_met (T : Txt K mg) : FnOk P w K mg base CX0 1 T.f_states_met T.fd_states_met ["ahead", "starts"] (fun vs H Q _ => ∃ a b gs, ∃ st : List Nat, vs = [.ref a, .ref b] ∧ LLn H a gs ∧ gs.length ≤ 1000 ∧ (∀ g ∈ gs, ∀ y ∈ g, y < gs.length) ∧ H b = some (.lst (nmV st)) ∧ (∀ y ∈ st, y < gs.length) ∧ st.length ≤ 1000 ∧
    ∀ p m H', Same H H' → H p = none → H' p = some (.lst (marks m gs.length)) → (∀ x, m x = true ↔ RchG (fun s => gs.getD s []) st x) → Q (.ref p) H') := by
  refine T.F_states_met.ok sc_states_met (fun vs H Q E h => ?_) (fun cdv A outer s0 H vs Q E hr h => ?_)
  · obtain ⟨a, b, gs, st, rfl, _⟩ := h; rfl
  · obtain ⟨a, b, gs, st, rfl, hl, lg, og, hb, ob, lb, kQ⟩ := h
    refine ⟨_, (pss_cons (ps_setLc (i := 2) (own := [("state", 3)]) (g := gName 3) (by rfl) sc_states_met.nd rfl rfl (sw_true rfl rfl rfl (by decide +kernel)) (pi_range1 rfl T.z_range (pa_cons (pe_callB call_len_seq (by rfl) T.z_len (by decide +kernel) (pa_cons (pv 0) pa_nil)) pa_nil)) (blkOk_by (own := [("state", 3)]) (N := N_states_met) (sc := defScope s_states_met) (by decide +kernel)) (fun _ _ _ _ _ => pg_name (i := 3) sc_states_met.nd rfl (Or.inl rfl)) (fun _ _ _ _ _ => pts_nil) (fun _ _ _ _ _ => (pe_cmpR (op_in_seqK (K := K) rfl) (pv 3) (pv 1) (by rfl))))
      (pss_cons (ps_set (i := 4) sc_states_met.nd rfl (Or.inl rfl) (pe_callTy call_list_of (by rfl) T.z_list (by decide +kernel) (pa_cons (pv 1) pa_nil)))
      (pss_cons (ps_while PassesOwn.never (pt_truth (pv 4) (fun _ => rfl)) (pss_cons (ps_set (i := 3) sc_states_met.nd rfl (Or.inl rfl) (pe_bm0 PySem.F.plainAttrs_list PySem.F.slot_list_pop PySem.F.type_list_pop mt_pop (pv 4)))
      (pss_one (ps_for PassesOwn.never rfl (pi_list (pe_ix ix_list (pv 0) (pv 3) (fun _ _ => rfl))) (pg_name (i := 5) sc_states_met.nd rfl (Or.inl rfl)) (pss_one (ps_if (pt_not (pt_val (pe_ix ix_list (pv 2) (pv 5) (fun _ _ => rfl)))) (pss_cons (ps_asg pe_bl (pg_sub (pv 2) (pv 5) set_list))
      (pss_one (ps_expr (pe_bm PySem.F.plainAttrs_list PySem.F.slot_list_append PySem.F.type_list_append mt_append (pv 4) (pa_cons (pv 5) pa_nil))))) pss_nil))))))
      (pss_one (ps_ret (pv 2)))))), ?_⟩
    obtain ⟨rs, ea, pr⟩ := id hl
    have lr := pr_len pr
    refine ⟨_, rfl, a, rs, rfl, .inl (SqL.of ea), (rs.length : Int), rfl, by omega, by omega, fun M hM => ?_⟩
    rw [Int.toNat_natCast, lr]
    refine lc_range (lo := 0) (n := gs.length) (fun i H' => Same H H' ∧ H' M = some (.lst ((List.range i).map fun s : Nat => V.bl (decide (s ∈ st))))) ⟨Same.new (Same.refl _) hM, upd_same⟩ ?_ ?_
    · rintro i H1 hi ⟨s1, e1⟩
      refine ⟨rfl, tYesT ⟨_, rfl, _, rfl, b, nmV st, rfl, .inl (SqL.of (s1 _ _ hb)), ?_⟩⟩
      refine ⟨rfl, flat_nm st, ?_⟩
      rw [if_neg Bool.false_ne_true, Int.zero_add, inV_nm]
      refine ⟨_, e1, ?_, fun b' o e => ?_, ?_⟩
      · rw [List.length_map, List.length_range]; exact Nat.lt_of_le_of_lt (by omega : i ≤ 1000) (by decide)
      · rw [upd_ne (ne_of_none e hM)]; exact s1 _ _ e
      · rw [upd_same, List.range_succ, List.map_append]; rfl
    rintro H1 ⟨s1, e1⟩
    try dsimp only [L2.gName, L2.tSeq, L2.tAsg]
    refine ⟨_, rfl, b, nmV st, rfl, .inl (SqL.of (s1 _ _ hb)), fun Wt hW => ?_⟩
    obtain ⟨G, eG⟩ : ∃ G : Nat → List Nat, G = fun s => gs.getD s [] := ⟨_, rfl⟩
    rw [← eG] at kQ
    have oG : ∀ s, ∀ g ∈ G s, g < gs.length := fun s g hg => by rw [eG] at hg; exact getD_mem og hg
    have nMW : M ≠ Wt := fun e => by rw [e, hW] at e1; cases e1
    have hWH : H Wt = none := s1.free hW
    have s2 : Same H (upd H1 Wt (.lst (nmV st))) := Same.new s1 hW
    have e2 : (upd H1 Wt (.lst (nmV st))) Wt = some (.lst (nmV st)) := upd_same
    have e1' : (upd H1 Wt (.lst (nmV st))) M = some (.lst (marks (fun s => decide (s ∈ st)) gs.length)) := by rw [upd_ne nMW]; exact e1
    generalize upd H1 Wt (.lst (nmV st)) = H2 at s2 e2 e1' ⊢
    have c0 := cnt_le (fun s => decide (s ∈ st)) gs.length
    refine ⟨fun k σ H' => ∃ m wt x3 x5, σ = [some (.ref a), some (.ref b), some (.ref M), x3, some (.ref Wt), x5] ∧ Same H H' ∧ H' M = some (.lst (marks m gs.length)) ∧ H' Wt = some (.lst (nmV wt)) ∧ (∀ y ∈ wt, y < gs.length) ∧ MetI G st m wt ∧ k = 2 * cntF m gs.length + wt.length ∧ k ≤ 3000,
      ⟨_, fun s => decide (s ∈ st), st, _, _, rfl, s2, e1', e2, ob, MetI.start fun x => decide_eq_true_iff, rfl, by omega⟩, ?_⟩
    clear e1 e1' s1 s2 e2 hW
    rintro k σ H3 ⟨m, wt, x3, x5, rfl, s3, eM, eW, ow, mi, rfl, k3⟩
    refine ⟨_, rfl, _, .inl ⟨nmV wt, SqL.of eW, rfl⟩, ?_⟩
    by_cases ne : wt = []
    · subst ne
      refine iteF ⟨_, rfl, ?_⟩
      exact kQ M m H3 s3 hM eM mi.all
    obtain ⟨wt, x, rfl⟩ : ∃ w x, wt = w ++ [x] := ⟨wt.dropLast, wt.getLast ne, (List.dropLast_concat_getLast ne).symm⟩
    rw [show (!(nmV (wt ++ [x])).isEmpty) = true by unfold nmV; rw [List.map_append]; simp]
    rw [List.length_append, List.length_singleton] at k3
    have hx : x < gs.length := ow x (by simp)
    refine iteT ⟨fun σ' H' => ∃ k', k' < 2 * cntF m gs.length + (wt ++ [x]).length ∧ ∃ m wt x3 x5, σ' = [some (.ref a), some (.ref b), some (.ref M), x3, some (.ref Wt), x5] ∧ Same H H' ∧ H' M = some (.lst (marks m gs.length)) ∧ H' Wt = some (.lst (nmV wt)) ∧ (∀ y ∈ wt, y < gs.length) ∧ MetI G st m wt ∧ k' = 2 * cntF m gs.length + wt.length ∧ k' ≤ 3000, fun σ' H' z => z, ?_⟩
    have el : (nmV (wt ++ [x]))[(nmV (wt ++ [x])).length - 1]? = some (.int (x : Nat)) := by rw [nm_len, nm_app, List.length_append, List.length_singleton, Nat.add_sub_cancel, List.getElem?_append_right (by rw [nm_len]; omega), nm_len, Nat.sub_self]; rfl
    refine ⟨_, rfl, .inl ⟨rfl, _, SqL.of eW⟩, Wt, _, _, rfl, rfl, eW, el, ?_⟩
    have ed : (nmV (wt ++ [x])).dropLast = nmV wt := by rw [nm_app]; exact List.dropLast_concat
    rw [ed]
    have s4 : Same H (upd H3 Wt (.lst (nmV wt))) := fun b' o e => by rw [upd_ne (ne_of_none e hWH)]; exact s3 _ _ e
    have eM4 : (upd H3 Wt (.lst (nmV wt))) M = some (.lst (marks m gs.length)) := by rw [upd_ne nMW]; exact eM
    have eW4 : (upd H3 Wt (.lst (nmV wt))) Wt = some (.lst (nmV wt)) := upd_same
    generalize upd H3 Wt (.lst (nmV wt)) = H4 at s4 eM4 eW4 ⊢
    obtain ⟨rs', r, ea', er', err⟩ := hl.at_ hx
    have gx : gs.getD x [] = G x := by rw [eG]
    rw [gx] at err
    try dsimp only [L2.gName]
    refine ⟨_, rfl, _, rfl, a, rs', (x : Nat), _, rfl, rfl, SqL.of (s4 _ _ ea'), atI_nat er', r, rfl, ⟨_, SqL.of (s4 _ _ err)⟩, for_list (K := K) (a := r) (xs := nmV (G x)) (fun i σ H' => ∃ m' wt' x5, σ = [some (.ref a), some (.ref b), some (.ref M), some (.int (x : Nat)), some (.ref Wt), x5] ∧ Same H H' ∧ H' M = some (.lst (marks m' gs.length)) ∧ H' Wt = some (.lst (nmV wt')) ∧ (∀ y ∈ wt', y < gs.length) ∧ MetA G st x i m' wt' ∧ 2 * cntF m' gs.length + wt'.length ≤ 2 * cntF m gs.length + wt.length)
      ⟨m, wt, _, rfl, s4, eM4, eW4, fun y hy => ow y (List.mem_append_left _ hy), mi.pop, Nat.le_refl _⟩ (fun i σ H' _ ⟨_, _, _, _, s, _⟩ => SqL.of (s _ _ err)) ?_ ?_⟩
    · rintro i v σ H5 hv ⟨m', wt', x5', rfl, s5, eM5, eW5, ow5, ma, le5⟩
      obtain ⟨g, hg, rfl⟩ := nm_at hv
      have hgl : g < gs.length := oG x g (List.mem_of_getElem? hg)
      try dsimp only [L2.gName]
      refine ⟨_, rfl, _, rfl, M, _, (g : Nat), _, rfl, rfl, SqL.of eM5, atI_nat (marks_at hgl), _, rfl, ?_⟩
      cases hm : m' g with
      | true => exact iteF ⟨m', wt', _, rfl, s5, eM5, eW5, ow5, ma.old hg hm, le5⟩
      | false =>
        have cm := cnt_mark hgl hm
        refine iteT ⟨_, rfl, _, rfl, M, _, (g : Nat), g, rfl, rfl, eM5, ?_, ?_⟩
        · unfold ixN
          rw [if_pos (by omega), marks_len, if_pos (by omega)]; simp
        rw [marks_set]
        have s6 : Same H (upd H5 M (.lst (marks (mark m' g) gs.length))) := fun b' o e => by rw [upd_ne (ne_of_none e hM)]; exact s5 _ _ e
        have eM6 : (upd H5 M (.lst (marks (mark m' g) gs.length))) M = some (.lst (marks (mark m' g) gs.length)) := upd_same
        have eW6 : (upd H5 M (.lst (marks (mark m' g) gs.length))) Wt = some (.lst (nmV wt')) := by rw [upd_ne (Ne.symm nMW)]; exact eW5
        generalize upd H5 M (.lst (marks (mark m' g) gs.length)) = H6 at s6 eM6 eW6 ⊢
        refine ⟨_, rfl, .inl ⟨rfl, _, SqL.of eW6⟩, _, rfl, Wt, _, _, rfl, rfl, eW6, ?_, mark m' g, wt' ++ [g], _, rfl, fun b' o e => by rw [upd_ne (ne_of_none e hWH)]; exact s6 _ _ e, by rw [upd_ne nMW]; exact eM6, by rw [upd_same, nm_app]; rfl, fun y hy => ?_, ma.new hg, ?_⟩
        · rw [nm_len]; exact Nat.lt_of_le_of_lt (by omega : wt'.length ≤ 3000) (by decide)
        · rcases List.mem_append.mp hy with z | z
          · exact ow5 y z
          · rw [List.mem_singleton.mp z]; exact hgl
        · rw [List.length_append, List.length_singleton]; omega
    · rintro σ H5 ⟨m', wt', x5', rfl, s5, eM5, eW5, ow5, ma, le5⟩
      rw [nm_len] at ma
      exact ⟨_, by rw [List.length_append, List.length_singleton]; omega, m', wt', _, _, rfl, s5, eM5, eW5, ow5, ma.done, rfl, by omega⟩
end
end My

set_option Elab.async false
set_option linter.all false
set_option maxRecDepth 100000
set_option maxHeartbeats 8000000
namespace My
open PySem PySem.Spec PyProof.Rows L2
/-- rows of numbers that grow -/
structure RowsN (H : Hp) (B : Addr) (rs : List Addr) (f : Nat → List Nat) : Prop where
  e : H B = some (.lst (rs.map V.ref))
  nd : rs.Nodup
  nB : B ∉ rs
  row : ∀ t r, rs[t]? = some r → H r = some (.lst (nmV (f t)))
theorem RowsN.new {H : Hp} {B b : Addr} {rs : List Addr} {f : Nat → List Nat} {o : HO} (h : RowsN H B rs f) (hb : H b = none) : RowsN (upd H b o) B rs f :=
  ⟨by rw [upd_ne (ne_of_none h.e hb)]; exact h.e, h.nd, h.nB, fun t r e => by rw [upd_ne (ne_of_none (h.row t r e) hb)]; exact h.row t r e⟩
def addF (f : Nat → List Nat) (g s : Nat) : Nat → List Nat := fun t => if t = g then f t ++ [s] else f t
theorem RowsN.add {H : Hp} {B r : Addr} {rs : List Addr} {f : Nat → List Nat} (h : RowsN H B rs f) {g s : Nat} (hr : rs[g]? = some r) : RowsN (upd H r (.lst (nmV (f g) ++ [.int (s : Nat)]))) B rs (addF f g s) := by
  have nr : B ≠ r := fun z => h.nB (by rw [z]; exact List.mem_of_getElem? hr)
  refine ⟨by rw [upd_ne nr]; exact h.e, h.nd, h.nB, fun t r' e => ?_⟩
  unfold addF
  by_cases c : t = g
  · subst c
    rw [hr] at e
    obtain rfl := Option.some.inj e
    rw [if_pos rfl, upd_same, nm_app]; rfl
  · have : r' ≠ r := fun z => by
      subst z
      have h1 := (List.getElem?_eq_some_iff.mp e)
      have h2 := (List.getElem?_eq_some_iff.mp hr)
      obtain ⟨l1, e1⟩ := h1
      obtain ⟨l2, e2⟩ := h2
      exact c ((List.getElem_inj h.nd).mp (e1.trans e2.symm))
    rw [if_neg c, upd_ne this]; exact h.row t r' e
section
variable {P : Program} {w : World} {K : PySem.W.Frag} {mg : Str → Option Value} {base : Heap}
theorem ok_turned_round (T : Txt K mg) : FnOk P w K mg base CX0 1 T.f_turned_round T.fd_turned_round ["ahead"] (fun vs H Q _ => ∃ a gs, vs = [.ref a] ∧ LLn H a gs ∧ gs.length ≤ 100 ∧ (∀ g ∈ gs, g.length ≤ 100 ∧ ∀ y ∈ g, y < gs.length) ∧
    ∀ p bs H', Same H H' → LLn H' p bs → bs.length = gs.length → (∀ t s, t < gs.length → (s ∈ bs.getD t [] ↔ t ∈ gs.getD s [])) → Q (.ref p) H') := by
  refine T.F_turned_round.ok sc_turned_round (fun vs H Q E h => ?_) (fun cdv A outer s0 H vs Q E hr h => ?_)
  · obtain ⟨a, gs, rfl, _⟩ := h; rfl
  · obtain ⟨a, gs, rfl, hl, lg, og, kQ⟩ := h
    refine ⟨_, (pss_cons (ps_setLc (i := 1) (own := [("_", 2)]) (g := gName 2) (by rfl) sc_turned_round.nd rfl rfl (sw_true rfl rfl rfl (by decide +kernel)) (pi_list (pv 0)) (blkOk_by (own := [("_", 2)]) (N := N_turned_round) (sc := defScope s_turned_round) (by decide +kernel)) (fun _ _ _ _ _ => pg_name (i := 2) sc_turned_round.nd rfl (Or.inl rfl)) (fun _ _ _ _ _ => pts_nil) (fun _ _ _ _ _ => (pe_lst pa_nil)))
      (pss_cons (ps_for PassesOwn.never rfl (pi_enum rfl T.z_enumerate (pa_cons (pv 0) pa_nil)) (pg_tup rfl (pgs_cons (pg_name (i := 3) sc_turned_round.nd rfl (Or.inl rfl)) (pgs_cons (pg_name (i := 4) sc_turned_round.nd rfl (Or.inl rfl)) pgs_nil))) (pss_one (ps_for PassesOwn.never rfl (pi_list (pv 4)) (pg_name (i := 5) sc_turned_round.nd rfl (Or.inl rfl)) (pss_one (ps_expr (pe_bm PySem.F.plainAttrs_list PySem.F.slot_list_append PySem.F.type_list_append mt_append (pe_ix ix_list (pv 1) (pv 5) (fun _ _ => rfl)) (pa_cons (pv 3) pa_nil)))))))
      (pss_one (ps_ret (pv 1))))), ?_⟩
    obtain ⟨rs0, ea, pr⟩ := id hl
    have lr := pr_len pr
    refine ⟨_, rfl, a, rfl, ⟨rs0, SqL.of ea⟩, fun B hB => ?_⟩
    refine lc_list (K := K) (a := a) (xs := rs0) (fun i H' => Same H H' ∧ ∃ rs : List Addr, RowsN H' B rs (fun _ => []) ∧ rs.length = i ∧ ∀ r ∈ rs, H r = none) ⟨Same.new (Same.refl _) hB, [], ⟨upd_same, List.nodup_nil, List.not_mem_nil, fun t r e => by cases e⟩, rfl, fun r h => by cases h⟩ (fun i H' _ h => SqL.of (h.1 _ _ ea)) ?_ ?_
    · rintro i x H1 hx ⟨s1, rs, hR, li, fr⟩
      have hi := (List.getElem?_eq_some_iff.mp hx).1
      refine ⟨rfl, tYesT ⟨(by show 0 ≤ sizeLine; decide), fun r hr' => ?_⟩⟩
      have nrB : r ≠ B := fun z => by rw [z, hR.e] at hr'; cases hr'
      have nrs : r ∉ rs := fun z => by
        obtain ⟨t, ht⟩ := List.getElem?_of_mem z
        rw [hR.row t r ht] at hr'; cases hr'
      have hR2 := hR.new hr' (o := .lst [])
      refine ⟨_, hR2.e, ?_, fun b o e => ?_, rs ++ [r], ⟨by rw [upd_same, List.map_append]; rfl, ?_, ?_, fun t r' e => ?_⟩, by rw [List.length_append, li]; rfl, fun r' hr2 => ?_⟩
      · rw [List.length_map, li]; exact Nat.lt_of_le_of_lt (by omega : i ≤ 100) (by decide)
      · rw [upd_ne (ne_of_none e hB), upd_ne (ne_of_none (s1 _ _ e) hr')]; exact s1 _ _ e
      · exact List.nodup_append.mpr ⟨hR.nd, by simp, fun x hx y hy z => nrs (by rw [← List.mem_singleton.mp hy, ← z]; exact hx)⟩
      · intro z
        rcases List.mem_append.mp z with z | z
        · exact hR.nB z
        · exact nrB (List.mem_singleton.mp z).symm
      · have ne : r' ≠ B := fun z => by
          rcases List.mem_append.mp (List.mem_of_getElem? e) with q | q
          · exact hR.nB (by rw [← z]; exact q)
          · exact nrB (by rw [← List.mem_singleton.mp q]; exact z)
        rw [upd_ne ne]
        by_cases ht : t < rs.length
        · rw [List.getElem?_append_left ht] at e
          exact hR2.row t r' e
        · have et : t = rs.length := by
            have := (List.getElem?_eq_some_iff.mp e).1
            rw [List.length_append, List.length_singleton] at this
            omega
          rw [et, List.getElem?_concat_length] at e
          obtain rfl := Option.some.inj e
          exact upd_same
      · rcases List.mem_append.mp hr2 with z | z
        · exact fr r' z
        · rw [List.mem_singleton.mp z]; exact s1.free hr'
    rintro H1 ⟨s1, rs, hR, li, fr⟩
    rw [lr] at li
    have frm : ∀ {r t : Nat}, rs[t]? = some r → H r = none := fun h => fr _ (List.mem_of_getElem? h)
    try dsimp only [L2.gName]
    refine ⟨_, rfl, a, rs0, rfl, SqL.of (s1 _ _ ea), for_enumL (K := K) (a := a) (xs := rs0) (fun i σ H' => ∃ x2 x3 x4 x5 f, σ = [some (.ref a), some (.ref B), x2, x3, x4, x5] ∧ Same H H' ∧ RowsN H' B rs f ∧ (∀ t, (f t).length ≤ 100 * i) ∧ ∀ t s, s ∈ f t ↔ s < i ∧ t ∈ gs.getD s [])
      ⟨_, _, _, _, _, rfl, s1, hR, fun t => Nat.zero_le _, fun t s => ⟨fun h => by (cases h), fun h => absurd h.1 (Nat.not_lt_zero _)⟩⟩ (fun i σ H' ⟨_, _, _, _, _, _, s, _⟩ => SqL.of (s _ _ ea)) ?_ ?_⟩
    · rintro i x σ H2 t hx ⟨x2, x3, x4, x5, f, rfl, s2, hR2, lf, hf⟩ ht
      obtain ⟨g, hg, r, rfl, er⟩ := pr_get pr hx
      have og' := og g (List.mem_of_getElem? hg)
      have gd : gs.getD i [] = g := by rw [List.getD_eq_getElem?_getD, hg]; rfl
      have s3 := Same.new s2 ht (o := .tup [.int (i : Nat), .ref r])
      have hR3 := hR2.new ht (o := .tup [.int (i : Nat), .ref r])
      have et : (upd H2 t (.tup [.int (i : Nat), .ref r])) t = some (.tup [.int (i : Nat), .ref r]) := upd_same
      generalize upd H2 t (.tup [.int (i : Nat), .ref r]) = H3 at s3 hR3 et ⊢
      refine ⟨t, _, rfl, .inl (.inl et), rfl, _, _, rfl, _, _, rfl, rfl, ?_⟩
      refine ⟨_, rfl, r, rfl, ⟨_, SqL.of (s3 _ _ er)⟩, for_list (K := K) (a := r) (xs := nmV g) (fun j σ H' => ∃ x5 f, σ = [some (.ref a), some (.ref B), x2, some (.int (i : Nat)), some (.ref r), x5] ∧ Same H H' ∧ RowsN H' B rs f ∧ (∀ t, (f t).length ≤ 100 * i + j) ∧ ∀ t s, s ∈ f t ↔ (s < i ∧ t ∈ gs.getD s []) ∨ (s = i ∧ t ∈ g.take j))
        ⟨_, f, rfl, s3, hR3, lf, fun t s => by rw [hf]; simp⟩ (fun j σ H' _ ⟨_, _, _, s, _⟩ => SqL.of (s _ _ er)) ?_ ?_⟩
      · rintro j v σ H4 hv ⟨x5, f, rfl, s4, hR4, lf4, hf4⟩
        obtain ⟨y, hy, rfl⟩ := nm_at hv
        have ly : y < rs.length := by rw [li]; exact og'.2 y (List.mem_of_getElem? hy)
        have lj : j < g.length := (List.getElem?_eq_some_iff.mp hy).1
        have hry : rs[y]? = some rs[y] := List.getElem?_eq_getElem ly
        have ery := hR4.row y _ hry
        have hrH := frm hry
        try dsimp only [L2.gName]
        refine ⟨_, rfl, _, rfl, B, _, (y : Nat), .ref rs[y], rfl, rfl, SqL.of hR4.e, atI_nat (by rw [List.getElem?_map, hry]; rfl), .inl ⟨rfl, _, SqL.of ery⟩, _, rfl, rs[y], _, _, rfl, rfl, ery, ?_, _, addF f y i, rfl, fun b o e => by rw [upd_ne (ne_of_none e hrH)]; exact s4 _ _ e, hR4.add hry, fun t => ?_, fun t s => ?_⟩
        · have := lf4 y
          have : i < rs0.length := (List.getElem?_eq_some_iff.mp hx).1
          rw [nm_len]; exact Nat.lt_of_le_of_lt (by omega : (f y).length ≤ 20000) (by decide)
        · have := lf4 t
          unfold addF
          split
          · rw [List.length_append, List.length_singleton]; omega
          · omega
        · unfold addF
          rw [List.take_add_one, hy]
          by_cases c : t = y
          · subst c
            rw [if_pos rfl, List.mem_append, hf4, List.mem_singleton]
            constructor
            · rintro ((z | z) | z)
              · exact .inl z
              · exact .inr ⟨z.1, List.mem_append_left _ z.2⟩
              · exact .inr ⟨z, List.mem_append_right _ (by simp)⟩
            · rintro (z | z)
              · exact .inl (.inl z)
              · exact .inr z.1
          · rw [if_neg c, hf4]
            constructor
            · rintro (z | z)
              · exact .inl z
              · exact .inr ⟨z.1, List.mem_append_left _ z.2⟩
            · rintro (z | z)
              · exact .inl z
              · rcases List.mem_append.mp z.2 with q | q
                · exact .inr ⟨z.1, q⟩
                · exact absurd (by simpa using q) c
      · rintro σ H4 ⟨x5, f, rfl, s4, hR4, lf4, hf4⟩
        rw [nm_len] at lf4 hf4
        refine ⟨_, _, _, _, f, rfl, s4, hR4, fun t => by have := lf4 t; have := og'.1; omega, fun t s => ?_⟩
        rw [hf4, List.take_length]
        constructor
        · rintro (z | z)
          · exact ⟨by omega, z.2⟩
          · exact ⟨by omega, by rw [z.1, gd]; exact z.2⟩
        · rintro ⟨h1, h2⟩
          by_cases c : s = i
          · subst c; exact .inr ⟨rfl, by rw [← gd]; exact h2⟩
          · exact .inl ⟨by omega, h2⟩
    · rintro σ H2 ⟨x2, x3, x4, x5, f, rfl, s2, hR2, lf, hf⟩
      rw [lr] at hf
      have gz : ∀ s t, t ∈ gs.getD s [] → s < gs.length := fun s t h => by
        rcases Nat.lt_or_ge s gs.length with z | z
        · exact z
        · rw [List.getD_eq_getElem?_getD, List.getElem?_eq_none z] at h; cases h
      refine ⟨_, rfl, kQ B ((List.range gs.length).map f) H2 s2 ⟨_, hR2.e, ?_⟩ (by rw [List.length_map, List.length_range]) fun t s ht => ?_⟩
      · have : ∀ (n : Nat) (rs : List Addr) (k : Nat), rs.length = n → (∀ t r, rs[t]? = some r → H2 r = some (.lst (nmV (f (k + t))))) → Paired (fun v (g : List Nat) => ∃ r, v = V.ref r ∧ H2 r = some (.lst (nmV g))) (rs.map V.ref) ((List.range n).map fun t => f (k + t)) := by
          intro n
          induction n with
          | zero => intro rs k l _; rw [List.length_eq_zero_iff.mp l]; exact .nil
          | succ n ih =>
            intro rs k l h
            cases rs with
            | nil => cases l
            | cons r rs =>
              rw [List.range_succ_eq_map, List.map_cons, List.map_cons, List.map_map]
              refine .cons ⟨r, rfl, by rw [Nat.add_zero]; exact h 0 r rfl⟩ ?_
              have := ih rs (k + 1) (by simpa using l) fun t r' e => by
                have := h (t + 1) r' e
                rw [show k + 1 + t = k + (t + 1) by omega]; exact this
              have e : ((fun t => f (k + t)) ∘ Nat.succ) = fun t => f (k + 1 + t) := funext fun t => by show f (k + (t + 1)) = _; rw [show k + (t + 1) = k + 1 + t by omega]
              rw [e]; exact this
        have := this gs.length rs 0 li fun t r e => by rw [Nat.zero_add]; exact hR2.row t r e
        simpa using this
      · rw [List.getD_eq_getElem?_getD, List.getElem?_map, List.getElem?_range ht]
        show s ∈ f t ↔ _
        rw [hf]
        exact ⟨fun z => z.2, fun z => ⟨gz s t z, z⟩⟩
end
end My

set_option Elab.async false
set_option linter.all false
set_option maxRecDepth 100000
set_option maxHeartbeats 4000000
/-! States met layer by layer: distances, and the searches that find them. -/
namespace My
open PySem PySem.Spec PyProof.Rows L2
inductive Wk (gs : Nat → List Nat) (a : Nat) : Nat → Nat → Prop
  | nil : Wk gs a 0 a
  | step {k s t : Nat} : Wk gs a k s → t ∈ gs s → Wk gs a (k + 1) t
/-- the distance of s from a is k -/
def Ds (gs : Nat → List Nat) (a s k : Nat) : Prop := Wk gs a k s ∧ ∀ j, j < k → ¬ Wk gs a j s
section
variable {gs : Nat → List Nat} {a : Nat}
theorem wk_rch {s : Nat} : RchG gs [a] s ↔ ∃ k, Wk gs a k s := by
  constructor
  · intro h
    induction h with
    | start h' => exact ⟨0, by rw [List.mem_singleton.mp h']; exact .nil⟩
    | step _ ht ih => obtain ⟨k, w⟩ := ih; exact ⟨k + 1, .step w ht⟩
  · rintro ⟨k, w⟩
    induction w with
    | nil => exact .start (by simp)
    | step _ ht ih => exact .step ih ht
theorem ds_of {s : Nat} : ∀ {k : Nat}, Wk gs a k s → ∃ d, d ≤ k ∧ Ds gs a s d := by
  intro k
  induction k using Nat.strongRecOn with
  | ind k ih =>
    intro w
    by_cases h : ∃ j, j < k ∧ Wk gs a j s
    · obtain ⟨j, l, w'⟩ := h
      obtain ⟨d, ld, hd⟩ := ih j l w'
      exact ⟨d, by omega, hd⟩
    · exact ⟨k, Nat.le_refl _, w, fun j l w' => h ⟨j, l, w'⟩⟩
theorem ds_rch {s : Nat} : RchG gs [a] s ↔ ∃ d, Ds gs a s d := by
  rw [wk_rch]
  exact ⟨fun ⟨k, w⟩ => let ⟨d, _, h⟩ := ds_of w; ⟨d, h⟩, fun ⟨d, h⟩ => ⟨d, h.1⟩⟩
theorem Ds.uniq {s d d' : Nat} (h : Ds gs a s d) (h' : Ds gs a s d') : d = d' := by
  rcases Nat.lt_trichotomy d d' with l | l | l
  · exact absurd h.1 (h'.2 _ l)
  · exact l
  · exact absurd h'.1 (h.2 _ l)
theorem Ds.pred {t k : Nat} (h : Ds gs a t (k + 1)) : ∃ s, Ds gs a s k ∧ t ∈ gs s := by
  obtain ⟨w, mn⟩ := h
  cases w with
  | step w ht => exact ⟨_, ⟨w, fun j l w' => mn (j + 1) (by omega) (.step w' ht)⟩, ht⟩
theorem ds_none {k : Nat} (h : ∀ s, ¬ Ds gs a s k) : ∀ i s, ¬ Ds gs a s (k + i)
  | 0, s => h s
  | i + 1, s => fun z => by obtain ⟨t, ht, _⟩ := z.pred; exact ds_none h i t ht
structure LayA (gs : Nat → List Nat) (a k : Nat) (dom : Nat → Option Nat) (ly : List Nat) : Prop where
  dm : ∀ s d, dom s = some d ↔ (Ds gs a s d ∧ d ≤ k)
  ly : ∀ s, s ∈ ly ↔ Ds gs a s k
structure MidA (gs : Nat → List Nat) (a k : Nat) (dom : Nat → Option Nat) (fresh dn : List Nat) : Prop where
  dm : ∀ s d, dom s = some d ↔ (Ds gs a s d ∧ d ≤ k) ∨ (s ∈ fresh ∧ d = k + 1)
  fr : ∀ s ∈ fresh, Ds gs a s (k + 1)
  dn : ∀ t ∈ dn, (dom t).isSome = true
theorem LayA.start {dom : Nat → Option Nat} (h : ∀ s, dom s = if s = a then some 0 else none) : LayA gs a 0 dom [a] := by
  have d0 : Ds gs a a 0 := ⟨.nil, fun j l => absurd l (Nat.not_lt_zero _)⟩
  have q : ∀ s, Ds gs a s 0 → s = a := fun s h => by obtain ⟨w, _⟩ := h; cases w; rfl
  refine ⟨fun s d => ?_, fun s => ?_⟩
  · rw [h]
    by_cases e : s = a
    · subst e
      rw [if_pos rfl]
      constructor
      · intro z; cases z; exact ⟨d0, Nat.le_refl _⟩
      · rintro ⟨_, l⟩
        rw [Nat.le_zero.mp l]
    · rw [if_neg e]
      constructor
      · intro z; cases z
      · rintro ⟨z, l⟩
        rw [Nat.le_zero.mp l] at z
        exact absurd (q s z) e
  · rw [List.mem_singleton]
    exact ⟨fun e => by rw [e]; exact d0, q s⟩
theorem LayA.mid {k : Nat} {dom : Nat → Option Nat} {ly : List Nat} (h : LayA gs a k dom ly) : MidA gs a k dom [] [] :=
  ⟨fun s d => by rw [h.dm]; simp, fun _ z => (nomatch z), fun _ z => (nomatch z)⟩
theorem MidA.old {k t : Nat} {dom : Nat → Option Nat} {fresh dn : List Nat} (h : MidA gs a k dom fresh dn) (ht : (dom t).isSome = true) : MidA gs a k dom fresh (dn ++ [t]) :=
  ⟨h.dm, h.fr, fun u hu => by
    rcases List.mem_append.mp hu with z | z
    · exact h.dn u z
    · rw [List.mem_singleton.mp z]; exact ht⟩
theorem MidA.new {k s t : Nat} {dom dom' : Nat → Option Nat} {fresh dn : List Nat} (h : MidA gs a k dom fresh dn) (ht : dom t = none) (hs : Ds gs a s k) (hg : t ∈ gs s) (hd : ∀ u, dom' u = if u = t then some (k + 1) else dom u) : MidA gs a k dom' (fresh ++ [t]) (dn ++ [t]) := by
  have dt : Ds gs a t (k + 1) := by
    obtain ⟨d, ld, h'⟩ := ds_of (Wk.step hs.1 hg)
    rcases Nat.lt_or_ge d (k + 1) with l | l
    · have := (h.dm t d).mpr (.inl ⟨h', by omega⟩)
      rw [ht] at this; cases this
    · obtain rfl : d = k + 1 := by omega
      exact h'
  refine ⟨fun u d => ?_, fun u hu => ?_, fun u hu => ?_⟩
  · rw [hd]
    by_cases e : u = t
    · subst e
      rw [if_pos rfl]
      constructor
      · intro z
        exact .inr ⟨by simp, (Option.some.inj z).symm⟩
      · rintro (⟨z, l⟩ | ⟨_, l⟩)
        · have := dt.uniq z; omega
        · rw [l]
    · rw [if_neg e, h.dm]
      simp [e]
  · rcases List.mem_append.mp hu with z | z
    · exact h.fr u z
    · rw [List.mem_singleton.mp z]; exact dt
  · rw [hd]
    by_cases e : u = t
    · rw [if_pos e]; rfl
    · rw [if_neg e]
      rcases List.mem_append.mp hu with z | z
      · exact h.dn u z
      · exact absurd (List.mem_singleton.mp z) e
theorem MidA.done {k : Nat} {dom : Nat → Option Nat} {fresh dn : List Nat} (h : MidA gs a k dom fresh dn) (all : ∀ s, Ds gs a s k → ∀ t ∈ gs s, t ∈ dn) : LayA gs a (k + 1) dom fresh := by
  have key : ∀ t, Ds gs a t (k + 1) → t ∈ fresh := fun t ht => by
    obtain ⟨s, hs, hg⟩ := ht.pred
    have := h.dn t (all s hs t hg)
    obtain ⟨d, hd⟩ := Option.isSome_iff_exists.mp this
    rcases (h.dm t d).mp hd with ⟨z, l⟩ | ⟨z, _⟩
    · have := ht.uniq z; omega
    · exact z
  refine ⟨fun s d => ?_, fun s => ⟨h.fr s, key s⟩⟩
  rw [h.dm]
  constructor
  · rintro (⟨z, l⟩ | ⟨z, l⟩)
    · exact ⟨z, by omega⟩
    · rw [l]; exact ⟨h.fr s z, Nat.le_refl _⟩
  · rintro ⟨z, l⟩
    rcases Nat.lt_or_ge d (k + 1) with l' | l'
    · exact .inl ⟨z, by omega⟩
    · obtain rfl : d = k + 1 := by omega
      exact .inr ⟨key s z, rfl⟩
end
/-! ### the search, purely -/
section
variable {α : Type}
abbrev BfQ (α : Type) := List (Nat × α) × List Nat
def bf1 (val : List (Nat × α) → Nat → Nat → α) (s : Nat) (q : BfQ α) (ea : Option (Nat × List Nat) × Nat) : BfQ α :=
  match ea.1 with
  | none => q
  | some (g, _) => if (q.1.lookup g).isSome = true then q else (q.1 ++ [(g, val q.1 s ea.2)], q.2 ++ [g])
def bfR (val : List (Nat × α) → Nat → Nat → α) (st : List (List (Option (Nat × List Nat)))) (q : BfQ α) (s : Nat) : BfQ α := (st.getD s []).zipIdx.foldl (bf1 val s) q
def bfL (val : List (Nat × α) → Nat → Nat → α) (st : List (List (Option (Nat × List Nat)))) (m : List (Nat × α)) (ly : List Nat) : BfQ α := ly.foldl (bfR val st) (m, [])
theorem look_snoc {m : List (Nat × α)} {t : Nat} {x : α} (h : m.lookup t = none) (u : Nat) : (m ++ [(t, x)]).lookup u = if u = t then some x else m.lookup u := by
  rw [List.lookup_append]
  by_cases e : u = t
  · subst e
    rw [if_pos rfl, h]
    simp [List.lookup]
  · rw [if_neg e]
    have : List.lookup u [(t, x)] = none := by
      simp [List.lookup, beq_eq_false_iff_ne.mpr e]
    rw [this, Option.or_none]
theorem look_mem {m : List (Nat × α)} {t : Nat} {x : α} (h : m.lookup t = some x) : (t, x) ∈ m := by
  induction m with
  | nil => cases h
  | cons p m ih =>
    obtain ⟨b, y⟩ := p
    rw [List.lookup_cons] at h
    by_cases e : t = b
    · subst e
      rw [beq_self_eq_true] at h
      cases h; exact List.mem_cons_self
    · rw [beq_eq_false_iff_ne.mpr e] at h
      exact List.mem_cons_of_mem _ (ih h)
theorem foldl_take {β γ : Type} (f : β → γ → β) (b : β) {l : List γ} {i : Nat} {x : γ} (h : l[i]? = some x) : (l.take (i + 1)).foldl f b = f ((l.take i).foldl f b) x := by
  rw [List.take_add_one, h, List.foldl_append]; rfl
/-- what a search keeps: how many it has found, where they lie, what they hold -/
structure Fnd (n : Nat) (G : Nat → α → Prop) (m : List (Nat × α)) (fresh : List Nat) : Prop where
  sz : m.length + cntF (fun s => (m.lookup s).isSome) n = n
  lt : ∀ s x, m.lookup s = some x → s < n
  gd : ∀ s x, m.lookup s = some x → G s x
  fr : ∀ s ∈ fresh, (m.lookup s).isSome = true
  fl : fresh.length ≤ m.length
theorem Fnd.len {n : Nat} {G : Nat → α → Prop} {m : List (Nat × α)} {fresh : List Nat} (h : Fnd n G m fresh) : m.length ≤ n := by have := h.sz; omega
theorem Fnd.one {n a : Nat} {G : Nat → α → Prop} {x : α} (h : a < n) (g : G a x) : Fnd n G [(a, x)] [a] := by
  have e : ∀ s, List.lookup s [(a, x)] = if s = a then some x else none := fun s => by
    have := look_snoc (m := []) (t := a) (x := x) rfl s
    exact this
  refine ⟨?_, fun s y hs => ?_, fun s y hs => ?_, fun s hs => ?_, Nat.le_refl _⟩
  · have h1 := cnt_mark (m := fun _ => false) h rfl
    have h2 : (fun s => (List.lookup s [(a, x)]).isSome) = mark (fun _ => false) a := funext fun s => by
      show (List.lookup s [(a, x)]).isSome = _
      rw [e]; unfold mark
      by_cases c : s = a
      · rw [if_pos c, decide_eq_true c]; rfl
      · rw [if_neg c, decide_eq_false c]; rfl
    have h3 : cntF (fun _ => false) n = n := by
      unfold cntF
      have : (List.range n).filter (fun s => !(fun _ : Nat => false) s) = List.range n := List.filter_eq_self.mpr fun _ _ => rfl
      rw [this, List.length_range]
    rw [h2]
    show 1 + _ = n
    omega
  · rw [e] at hs
    by_cases c : s = a
    · rw [c]; exact h
    · rw [if_neg c] at hs; cases hs
  · rw [e] at hs
    by_cases c : s = a
    · rw [if_pos c] at hs; cases hs; rw [c]; exact g
    · rw [if_neg c] at hs; cases hs
  · rw [List.mem_singleton.mp hs, e, if_pos rfl]; rfl
theorem Fnd.put {n t : Nat} {G : Nat → α → Prop} {m : List (Nat × α)} {fresh : List Nat} {x : α} (h : Fnd n G m fresh) (ht : t < n) (no : m.lookup t = none) (g : G t x) : Fnd n G (m ++ [(t, x)]) (fresh ++ [t]) := by
  have e := look_snoc (x := x) no
  refine ⟨?_, fun s y hs => ?_, fun s y hs => ?_, fun s hs => ?_, by rw [List.length_append, List.length_append]; have := h.fl; simp; omega⟩
  · have h1 := cnt_mark (m := fun s => (m.lookup s).isSome) ht (by show (m.lookup t).isSome = false; rw [no]; rfl)
    have h2 : (fun s => ((m ++ [(t, x)]).lookup s).isSome) = mark (fun s => (m.lookup s).isSome) t := funext fun s => by
      show ((m ++ [(t, x)]).lookup s).isSome = _
      rw [e]; unfold mark
      by_cases c : s = t
      · rw [if_pos c, decide_eq_true c]; rfl
      · rw [if_neg c, decide_eq_false c]; rfl
    rw [h2, List.length_append]
    have := h.sz
    show m.length + 1 + _ = n
    omega
  · rw [e] at hs
    by_cases c : s = t
    · rw [c]; exact ht
    · rw [if_neg c] at hs; exact h.lt s y hs
  · rw [e] at hs
    by_cases c : s = t
    · rw [if_pos c] at hs; cases hs; rw [c]; exact g
    · rw [if_neg c] at hs; exact h.gd s y hs
  · rw [e]
    by_cases c : s = t
    · rw [if_pos c]; rfl
    · rw [if_neg c]
      rcases List.mem_append.mp hs with z | z
      · exact h.fr s z
      · exact absurd (List.mem_singleton.mp z) c
theorem Fnd.drop {n : Nat} {G : Nat → α → Prop} {m : List (Nat × α)} {fresh : List Nat} (h : Fnd n G m fresh) : Fnd n G m [] := ⟨h.sz, h.lt, h.gd, fun _ z => (nomatch z), Nat.zero_le _⟩
end
/-- where a row leads -/
def goE (r : List (Option (Nat × List Nat))) : List Nat := r.filterMap fun e => e.map (·.1)
theorem goE_snoc {r : List (Option (Nat × List Nat))} {j : Nat} {e : Option (Nat × List Nat)} (h : r[j]? = some e) : goE (r.take (j + 1)) = goE (r.take j) ++ goE [e] := by
  rw [List.take_add_one, h]
  unfold goE
  rw [List.filterMap_append]; rfl
theorem goE_mem {r : List (Option (Nat × List Nat))} {g : Nat} {w : List Nat} (h : some (g, w) ∈ r) : g ∈ goE r := List.mem_filterMap.mpr ⟨_, h, rfl⟩
section
variable {α : Type} {val : List (Nat × α) → Nat → Nat → α} {st : List (List (Option (Nat × List Nat)))} {n a k : Nat} {G : Nat → α → Prop} {len : α → Nat}
structure Bf (st : List (List (Option (Nat × List Nat)))) (n : Nat) (G : Nat → α → Prop) (len : α → Nat) (a k : Nat) (q : BfQ α) (dn : List Nat) : Prop where
  fnd : Fnd n G q.1 q.2
  mid : MidA (fun s => goE (st.getD s [])) a k (fun s => (q.1.lookup s).map len) q.2 dn
structure BfLay (st : List (List (Option (Nat × List Nat)))) (n : Nat) (G : Nat → α → Prop) (len : α → Nat) (a k : Nat) (q : BfQ α) : Prop where
  fnd : Fnd n G q.1 q.2
  lay : LayA (fun s => goE (st.getD s [])) a k (fun s => (q.1.lookup s).map len) q.2
theorem BfLay.start {x : α} (h : a < n) (g : G a x) (l : len x = 0) : BfLay st n G len a 0 ([(a, x)], [a]) :=
  ⟨Fnd.one h g, LayA.start fun s => by
    show (List.lookup s [(a, x)]).map len = _
    rw [show List.lookup s [(a, x)] = if s = a then some x else none from look_snoc (m := []) (t := a) (x := x) rfl s]
    by_cases c : s = a
    · rw [if_pos c, if_pos c]; exact congrArg some l
    · rw [if_neg c, if_neg c]; rfl⟩
theorem BfLay.mid {q : BfQ α} (h : BfLay st n G len a k q) : Bf st n G len a k (q.1, []) [] := ⟨h.fnd.drop, h.lay.mid⟩
theorem Bf.look {q : BfQ α} {dn : List Nat} {s : Nat} (h : Bf st n G len a k q dn) (hs : Ds (fun s => goE (st.getD s [])) a s k) : ∃ x, q.1.lookup s = some x ∧ len x = k ∧ G s x := by
  have := (h.mid.dm s k).mpr (.inl ⟨hs, Nat.le_refl _⟩)
  cases e : q.1.lookup s with
  | none => rw [e] at this; cases this
  | some x => rw [e] at this; exact ⟨x, rfl, Option.some.inj this, h.fnd.gd _ _ e⟩
/-- an entry -/
theorem Bf.step {q : BfQ α} {dn : List Nat} {s j : Nat} {e : Option (Nat × List Nat)} (h : Bf st n G len a k q dn) (hs : Ds (fun s => goE (st.getD s [])) a s k) (he : (st.getD s [])[j]? = some e)
    (hv : ∀ x g w, q.1.lookup s = some x → G s x → len x = k → e = some (g, w) → g < n ∧ G g (val q.1 s j) ∧ len (val q.1 s j) = k + 1) :
    Bf st n G len a k (bf1 val s q (e, j)) (dn ++ goE [e]) := by
  obtain ⟨x, hx, lx, gx⟩ := h.look hs
  cases e with
  | none =>
    have : dn ++ goE [none] = dn := by simp [goE]
    rw [this]; exact h
  | some p =>
    obtain ⟨g, w⟩ := p
    have eg : goE [some (g, w)] = [g] := rfl
    rw [eg]
    obtain ⟨h1, h2, h3⟩ := hv x g w hx gx lx rfl
    show Bf st n G len a k (if (q.1.lookup g).isSome = true then q else (q.1 ++ [(g, val q.1 s j)], q.2 ++ [g])) _
    by_cases c : (q.1.lookup g).isSome = true
    · rw [if_pos c]
      exact ⟨h.fnd, h.mid.old (by show ((q.1.lookup g).map len).isSome = true; rw [Option.isSome_map]; exact c)⟩
    · rw [if_neg c]
      have no : q.1.lookup g = none := by
        cases z : q.1.lookup g with
        | none => rfl
        | some y => rw [z] at c; exact absurd rfl c
      refine ⟨h.fnd.put h1 no h2, h.mid.new (s := s) (by show (q.1.lookup g).map len = none; rw [no]; rfl) hs (goE_mem (List.mem_of_getElem? he)) fun u => ?_⟩
      show ((q.1 ++ [(g, val q.1 s j)]).lookup u).map len = _
      rw [look_snoc no]
      by_cases z : u = g
      · rw [if_pos z, if_pos z]; exact congrArg some h3
      · rw [if_neg z, if_neg z]
/-- a layer done -/
theorem Bf.done {q : BfQ α} {ly : List Nat} {q0 : BfQ α} (h : Bf st n G len a k q (ly.flatMap fun s => goE (st.getD s []))) (hl : ∀ s, s ∈ ly ↔ Ds (fun s => goE (st.getD s [])) a s k) : BfLay st n G len a (k + 1) q :=
  ⟨h.fnd, h.mid.done fun s hs t ht => List.mem_flatMap.mpr ⟨s, (hl s).mpr hs, ht⟩⟩
end
section
variable {α : Type} {val : List (Nat × α) → Nat → Nat → α} {st : List (List (Option (Nat × List Nat)))}
theorem bf1_len (s : Nat) (q : BfQ α) (ea : Option (Nat × List Nat) × Nat) : (bf1 val s q ea).1.length + q.2.length = q.1.length + (bf1 val s q ea).2.length := by
  unfold bf1
  split
  · rfl
  · split
    · rfl
    · simp; omega
theorem fold_len {γ : Type} {f : BfQ α → γ → BfQ α} (hf : ∀ q x, (f q x).1.length + q.2.length = q.1.length + (f q x).2.length) : ∀ (l : List γ) (q : BfQ α), (l.foldl f q).1.length + q.2.length = q.1.length + (l.foldl f q).2.length
  | [], q => rfl
  | x :: l, q => by
    rw [List.foldl_cons]
    have h1 := fold_len hf l (f q x)
    have h2 := hf q x
    omega
theorem bfL_len (m : List (Nat × α)) (ly : List Nat) : (bfL val st m ly).1.length = m.length + (bfL val st m ly).2.length :=
  fold_len (fun q s => fold_len (bf1_len s) _ q) ly (m, [])
end
/-! ### a dict of numbers on the heap -/
def DcN {α : Type} (F : V → α → Prop) (H : Hp) (b : Addr) (m : List (Nat × α)) : Prop := ∃ kvs : List (Key × V), H b = some (.dK kvs) ∧ Paired (fun (kv : Key × V) (e : Nat × α) => kv.1 = .inl (e.1 : Nat) ∧ F kv.2 e.2) kvs m
section
variable {α : Type} {F : V → α → Prop}
theorem pr_look {kvs : List (Key × V)} {m : List (Nat × α)} (h : Paired (fun (kv : Key × V) (e : Nat × α) => kv.1 = .inl (e.1 : Nat) ∧ F kv.2 e.2) kvs m) (s : Nat) :
    (m.lookup s = none ∧ valV kvs (.inl (s : Nat)) = none) ∨ ∃ x v, m.lookup s = some x ∧ valV kvs (.inl (s : Nat)) = some v ∧ F v x := by
  induction h with
  | nil => exact .inl ⟨rfl, rfl⟩
  | @cons kv e kvs m r _ ih =>
    obtain ⟨r1, r2⟩ := r
    obtain ⟨t, x⟩ := e
    rw [List.lookup_cons]
    by_cases c : s = t
    · subst c
      rw [beq_self_eq_true, valV_pos r1]
      exact .inr ⟨x, kv.2, rfl, rfl, r2⟩
    · rw [beq_eq_false_iff_ne.mpr c, valV_neg (by rw [r1]; intro z; exact c (by have := Sum.inl.inj z; omega))]
      exact ih
theorem DcN.put {H : Hp} {b : Addr} {m : List (Nat × α)} {t : Nat} {x : α} {v : V} (h : DcN F H b m) (no : m.lookup t = none) (hv : F v x) (hl : m.length ≤ 100000) : ∃ H', DPut H b (.int (t : Nat)) v H' ∧ (∀ c, c ≠ b → H' c = H c) ∧ DcN F H' b (m ++ [(t, x)]) := by
  obtain ⟨kvs, e, p⟩ := h
  have nv : valV kvs (.inl (t : Nat)) = none := by
    rcases pr_look p t with ⟨_, z⟩ | ⟨x, v, z, _⟩
    · exact z
    · rw [no] at z; cases z
  refine ⟨_, DPut.k (k := .inl (t : Nat)) e (by rw [pr_len p]; exact Nat.lt_of_le_of_lt hl (by decide)), fun c hc => upd_ne hc, ?_⟩
  refine ⟨_, upd_same, ?_⟩
  rw [putK_new _ nv]
  exact pr_app p (.cons ⟨rfl, hv⟩ .nil)
theorem DcN.get {H : Hp} {b : Addr} {m : List (Nat × α)} (h : DcN F H b m) (s : Nat) : (m.lookup s = none ∧ DGet H b (.int (s : Nat)) none) ∨ ∃ x v, m.lookup s = some x ∧ DGet H b (.int (s : Nat)) (some v) ∧ F v x := by
  obtain ⟨kvs, e, p⟩ := h
  have d := DGet.k (k := (.inl (s : Nat) : Key)) e
  rcases pr_look p s with ⟨z, y⟩ | ⟨x, v, z, y, f⟩
  · rw [y] at d; exact .inl ⟨z, d⟩
  · rw [y] at d; exact .inr ⟨x, v, z, d, f⟩
theorem DcN.mono {F' : V → α → Prop} {H H' : Hp} {b : Addr} {m : List (Nat × α)} (h : DcN F H b m) (e : H' b = H b) (f : ∀ v x, F v x → F' v x) : DcN F' H' b m := by
  obtain ⟨kvs, e', p⟩ := h
  exact ⟨kvs, e.trans e', L2.Paired.mapP p fun _ _ r => ⟨r.1, f _ _ r.2⟩⟩
end
end My

set_option Elab.async false
set_option linter.all false
set_option maxRecDepth 100000
set_option maxHeartbeats 8000000
namespace My
open PySem PySem.Spec PyProof.Rows L2
def Dcd.ahd (D : Dcd) (s : Nat) : List Nat := goE (D.st.getD s [])
def Dcd.endd (D : Dcd) (s : Nat) : Bool := (D.en.getD s none).isSome
theorem rch_trans {gs : Nat → List Nat} {x y z : Nat} (h : RchG gs [x] y) (g : RchG gs [y] z) : RchG gs [x] z := by
  induction g with
  | start h' => rw [List.mem_singleton.mp h']; exact h
  | step _ ht ih => exact .step ih ht
theorem rch_back {gs bs : Nat → List Nat} {n : Nat} {en : List Nat} (on : ∀ s, ∀ t ∈ gs s, t < n) (bk : ∀ t s, t < n → (s ∈ bs t ↔ t ∈ gs s)) (bz : ∀ t s, s ∈ bs t → t < n) (x : Nat) : RchG bs en x ↔ ∃ t ∈ en, RchG gs [x] t := by
  constructor
  · intro h
    induction h with
    | start hs => exact ⟨_, hs, .start (by simp)⟩
    | step _ ht ih =>
      obtain ⟨t, h1, h2⟩ := ih
      have := (bk _ _ (bz _ _ ht)).mp ht
      exact ⟨t, h1, rch_trans (.step (.start (by simp)) this) h2⟩
  · rintro ⟨t, h1, h2⟩
    have key : ∀ y, RchG gs [x] y → RchG bs en y → RchG bs en x := by
      intro y hy
      induction hy with
      | start h' => rw [List.mem_singleton.mp h']; exact id
      | step _ ht ih => exact fun z => ih (.step z ((bk _ _ (on _ _ ht)).mpr ht))
    exact key t h2 (.start h1)
section
variable {P : Program} {w : World} {K : PySem.W.Frag} {mg : Str → Option Value} {base : Heap}
theorem ok_Decoder_trimmed (T : Txt K mg) : FnOk P w K mg base CX0 2 T.f_Decoder_trimmed T.fd_Decoder_trimmed ["self"] (fun vs H Q _ => ∃ p D, vs = [.ref p] ∧ DecAt K T.C_Decoder H p D ∧
    ∀ r f H', Same H H' → H r = none → H' r = some (.tup (marks f D.st.length)) → (∀ s, s < D.st.length → (f s = true ↔ RchG D.ahd [0] s ∧ ∃ t, D.endd t = true ∧ RchG D.ahd [s] t)) → Q (.ref r) H') := by
  refine T.F_Decoder_trimmed.ok sc_Decoder_trimmed (fun vs H Q E h => ?_) (fun cdv A outer s0 H vs Q E hr h => ?_)
  · obtain ⟨p, D, rfl, _⟩ := h; rfl
  · obtain ⟨p, D, rfl, dec, kQ⟩ := h
    obtain ⟨⟨dx, Sa, Ea, ep, hs, he⟩, ok⟩ := id dec
    refine ⟨_, (pss_cons (ps_setLc (i := 1) (own := [("row", 3)]) (g := gName 3) (by rfl) sc_Decoder_trimmed.nd rfl rfl (sw_true rfl rfl rfl (by decide +kernel)) (pi_tup (pe_fld (pv 0) rfl)) (blkOk_by (own := [("row", 3)]) (N := N_Decoder_trimmed) (sc := defScope s_Decoder_trimmed) (by decide +kernel)) (fun _ _ _ _ _ => pg_name (i := 3) sc_Decoder_trimmed.nd rfl (Or.inl rfl)) (fun _ _ _ _ _ => pts_nil) (fun _ _ _ _ _ => (pe_lc (own := [("entry", 2)]) (g := gName 2) (by rfl) sc_Decoder_trimmed.nd (pi_tupK (K := K) rfl (pv 3)) (blkOk_by (own := [("entry", 2)]) (N := N_Decoder_trimmed) (sc := relS _ (defScope s_Decoder_trimmed)) (by decide +kernel)) (fun _ _ _ _ _ => pg_name (i := 2) sc_Decoder_trimmed.nd rfl (Or.inl rfl)) (fun _ _ _ _ _ => (pts_one (pt_cmp (pc_notN (pv 2))))) (fun _ _ _ _ _ => (pe_ix (ix_tupK (K := K) rfl) (pv 2) pe_int (fun _ _ => rfl))))))
      (pss_cons (ps_set (i := 4) sc_Decoder_trimmed.nd rfl (Or.inr rfl) (pe_call (ok_states_met T) (hr.mono (by decide)) rfl T.g_states_met T.F_states_met.kp T.b_states_met .nil pass0 (pa_cons (pv 1) (pa_cons (pe_lst (pa_cons pe_int pa_nil)) pa_nil))))
      (pss_cons (ps_setLc (i := 5) (own := [("state", 6)]) (g := gName 6) (by rfl) sc_Decoder_trimmed.nd rfl rfl (sw_true rfl rfl rfl (by decide +kernel)) (pi_range1 rfl T.z_range (pa_cons (pe_fld (pv 0) rfl) pa_nil)) (blkOk_by (own := [("state", 6)]) (N := N_Decoder_trimmed) (sc := defScope s_Decoder_trimmed) (by decide +kernel)) (fun _ _ _ _ _ => pg_name (i := 6) sc_Decoder_trimmed.nd rfl (Or.inl rfl)) (fun _ _ _ _ _ => (pts_one (pt_cmp (pc_notN (pe_ix (ix_tupK (K := K) rfl) (pe_fldK (K := K) rfl (pv 0) rfl) (pv 6) (fun _ _ => rfl)))))) (fun _ _ _ _ _ => (pv 6)))
      (pss_cons (ps_set (i := 7) sc_Decoder_trimmed.nd rfl (Or.inr rfl) (pe_call (ok_states_met T) (hr.mono (by decide)) rfl T.g_states_met T.F_states_met.kp T.b_states_met .nil pass0 (pa_cons (pe_call (ok_turned_round T) (hr.mono (by decide)) rfl T.g_turned_round T.F_turned_round.kp T.b_turned_round .nil pass0 (pa_cons (pv 1) pa_nil)) (pa_cons (pv 5) pa_nil))))
      (pss_one (ps_ret (pe_callTy call_tuple_of (by rfl) T.z_tuple (by decide +kernel) (pa_cons (pe_lc (own := [("state", 6)]) (g := gName 6) (by rfl) sc_Decoder_trimmed.nd (pi_range1 rfl T.z_range (pa_cons (pe_fld (pv 0) rfl) pa_nil)) (blkOk_by (own := [("state", 6)]) (N := N_Decoder_trimmed) (sc := defScope s_Decoder_trimmed) (by decide +kernel)) (fun _ _ _ _ _ => pg_name (i := 6) sc_Decoder_trimmed.nd rfl (Or.inl rfl)) (fun _ _ _ _ _ => pts_nil) (fun _ _ _ _ _ => (pe_and (pe_ix (ix_listK (K := K) rfl) (pv 4) (pv 6) (fun _ _ => rfl)) (pe_one (pe_ix (ix_listK (K := K) rfl) (pv 7) (pv 6) (fun _ _ => rfl)))))) pa_nil)))))))), ?_⟩
    obtain ⟨a, xs, ea, hx, hxs⟩ := hs.tup_of
    injection ea with ea
    subst ea
    refine ⟨_, rfl, p, _, dx, _, _, rfl, ep, T.cl_Decoder, T.na_Decoder_steps, dfs_steps, Sa, rfl, ⟨xs, hx⟩, fun L hL => ?_⟩
    have lx := hxs.len
    rw [List.length_map] at lx
    have n40 := ok.n40
    have n1 := ok.n1
    refine lc_tup (K := K) (a := Sa) (xs := xs) (fun i H' => Same H H' ∧ ∃ rs, H' L = some (.lst rs) ∧ Paired (fun v (g : List Nat) => ∃ r, v = V.ref r ∧ r ≠ L ∧ H' r = some (.lst (nmV g))) rs ((D.st.take i).map goE)) ⟨Same.new (Same.refl _) hL, [], upd_same, .nil⟩ (fun i H' _ h => hx.ext h.1) ?_ ?_
    · rintro i x H1 hxi ⟨s1, rs, eL, pr⟩
      obtain ⟨d, ed, dd⟩ := hxs.at i x hxi
      rw [List.getElem?_map] at ed
      obtain ⟨row, hrow, rfl⟩ : ∃ row, D.st[i]? = some row ∧ d = .tuple (row.map enD) := by
        cases q : D.st[i]? with
        | none => rw [q] at ed; cases ed
        | some b => rw [q] at ed; exact ⟨b, rfl, (Option.some.inj ed).symm⟩
      have orow := ok.rows row (List.mem_of_getElem? hrow)
      obtain ⟨r, ys, rfl, hy, hys⟩ := (dd.ext s1).tup_of
      have ly := hys.len
      rw [List.length_map] at ly
      have s5 := ok.s5
      have hi : i < D.st.length := by rw [← lx]; exact (List.getElem?_eq_some_iff.mp hxi).1
      refine ⟨rfl, tYesT ⟨_, rfl, r, rfl, ⟨_, hy⟩, fun M hM => ?_⟩⟩
      have nLM : L ≠ M := fun e => by rw [e, hM] at eL; cases eL
      refine lc_tup (K := K) (a := r) (xs := ys) (fun j H' => Same H1 H' ∧ H' M = some (.lst (nmV (goE (row.take j))))) ⟨Same.new (Same.refl _) hM, upd_same⟩ (fun i H' _ h => hy.ext h.1) ?_ ?_
      · rintro j x H2 hyj ⟨s2, e2⟩
        obtain ⟨d, ed, dx⟩ := hys.at j x hyj
        rw [List.getElem?_map] at ed
        obtain ⟨e, he', rfl⟩ : ∃ e, row[j]? = some e ∧ d = My.enD e := by
          cases q : row[j]? with
          | none => rw [q] at ed; cases ed
          | some b => rw [q] at ed; exact ⟨b, rfl, (Option.some.inj ed).symm⟩
        have tk : goE (row.take (j + 1)) = goE (row.take j) ++ goE [e] := by
          rw [List.take_add_one, he']
          unfold goE
          rw [List.filterMap_append]; rfl
        cases e with
        | none =>
          have : x = .non := by cases dx; rfl
          subst this
          refine ⟨rfl, _, rfl, _, rfl, ?_⟩
          refine iteF ⟨s2, ?_⟩
          rw [tk]; simpa [goE] using e2
        | some q =>
          obtain ⟨g, wd⟩ := q
          obtain ⟨b, zs, rfl, hz, hzs⟩ := dx.tup_of
          refine ⟨rfl, _, rfl, _, rfl, ?_⟩
          have hg : zs[0]? = some (.int (g : Nat)) := by
            cases hzs with
            | cons h _ => cases h; rfl
          refine iteT ⟨_, rfl, b, _, (0 : Nat), _, rfl, rfl, hz.ext s2, atI_nat hg, _, e2, ?_, fun b' o e => ?_, ?_⟩
          · rw [nm_len]
            exact Nat.lt_of_le_of_lt (Nat.le_trans (List.length_filterMap_le _ _) (Nat.le_trans (List.length_take_le' _ _) (by omega : row.length ≤ 5))) (by decide)
          · rw [upd_ne (ne_of_none e hM)]; exact s2 _ _ e
          · rw [upd_same, tk, nm_app]; rfl
      · rintro H2 ⟨s2, e2⟩
        rw [ly, List.take_length] at e2
        refine ⟨rs, s2 _ _ eL, ?_, fun b' o e => ?_, rs ++ [.ref M], upd_same, ?_⟩
        · rw [pr_len pr, List.length_map]
          exact Nat.lt_of_le_of_lt (Nat.le_trans (List.length_take_le' _ _) n40) (by decide)
        · rw [upd_ne (ne_of_none e hL)]; exact s2 _ _ (s1 _ _ e)
        · rw [List.take_add_one, hrow, List.map_append]
          refine pr_app (L2.Paired.mapP pr fun v g ⟨r, h1, h2, h3⟩ => ⟨r, h1, h2, by rw [upd_ne h2]; exact s2 _ _ h3⟩) (.cons ⟨M, rfl, Ne.symm nLM, by rw [upd_ne (Ne.symm nLM)]; exact e2⟩ .nil)
    rintro H1 ⟨s1, rs, eL, pr⟩
    rw [lx, List.take_length] at pr
    have hl : LLn H1 L (D.st.map goE) := ⟨rs, eL, L2.Paired.mapP pr fun v g ⟨r, h1, _, h3⟩ => ⟨r, h1, h3⟩⟩
    have lG : (D.st.map goE).length = D.st.length := List.length_map ..
    have eG : ∀ s, (D.st.map goE).getD s [] = D.ahd s := fun s => by
      unfold Dcd.ahd
      rw [List.getD_eq_getElem?_getD, List.getD_eq_getElem?_getD, List.getElem?_map]
      cases D.st[s]? <;> rfl
    have oG : ∀ g ∈ D.st.map goE, g.length ≤ 100 ∧ ∀ y ∈ g, y < (D.st.map goE).length := fun g hg => by
      obtain ⟨row, hr, rfl⟩ := List.mem_map.mp hg
      obtain ⟨o1, o2⟩ := ok.rows row hr
      have s5 := ok.s5
      refine ⟨Nat.le_trans (List.length_filterMap_le _ _) (by omega), fun y hy => ?_⟩
      unfold goE at hy
      obtain ⟨e, he, h⟩ := List.mem_filterMap.mp hy
      cases e with
      | none => cases h
      | some q =>
        obtain ⟨g, w⟩ := q
        have := Option.some.inj h
        subst this
        rw [lG]; exact (o2 _ he _ _ rfl).1
    clear pr eL
    try dsimp only [L2.gName, L2.tSeq, L2.tAsg]
    refine ⟨_, rfl, ?_⟩
    refine ⟨by decide, fun Z hZ => ⟨L, Z, D.st.map goE, [0], rfl, hl.ext (Same.new (Same.refl _) hZ), by rw [lG]; omega, fun g hg => (oG g hg).2, upd_same, fun y hy => by rw [List.mem_singleton.mp hy, lG]; omega, by decide, fun M1 m1 H3 s3 hM1 e3 h3 => ?_⟩⟩
    have s3 : Same H1 H3 := (Same.new (Same.refl _) hZ).trans s3
    have s3' : Same H H3 := s1.trans s3
    refine ⟨_, rfl, p, _, dx, _, _, rfl, s3' _ _ ep, T.cl_Decoder, T.na_Decoder_states, dfs_states, _, rfl, by omega, by omega, fun M2 hM2 => ?_⟩
    rw [Int.toNat_natCast]
    refine lc_range (lo := 0) (n := D.st.length) (fun i H' => Same H3 H' ∧ H' M2 = some (.lst (nmV ((List.range i).filter D.endd)))) ⟨Same.new (Same.refl _) hM2, upd_same⟩ ?_ ?_
    · rintro i H4 hi ⟨s4, e4⟩
      obtain ⟨zs, e, hz, hze, dze⟩ := dg_end ok (he.ext (s3'.trans s4)) hi
      rw [Int.zero_add]
      have rs' : (List.range (i + 1)).filter D.endd = (List.range i).filter D.endd ++ [i].filter D.endd := by rw [List.range_succ, List.filter_append]
      refine ⟨rfl, _, rfl, p, _, dx, _, _, rfl, s4 _ _ (s3' _ _ ep), T.cl_Decoder, T.na_Decoder_ends, dfs_ends, _, rfl, Ea, zs, (i : Nat), _, rfl, rfl, hz, atI_nat hze, ?_⟩
      cases hen : D.en.getD i none with
      | none =>
        have : D.endd i = false := by unfold Dcd.endd; rw [hen]; rfl
        rw [hen] at dze
        have : e = .non := by cases dze; rfl
        subst this
        refine ⟨_, rfl, iteF ⟨s4, ?_⟩⟩
        rw [rs', List.filter_cons, if_neg (by simp [*])]; simpa using e4
      | some wd =>
        have hE : D.endd i = true := by unfold Dcd.endd; rw [hen]; rfl
        rw [hen] at dze
        have : decide (e = .non) = false := by cases dze; rfl
        refine ⟨_, rfl, ?_⟩
        rw [this]
        refine iteT ⟨_, rfl, _, e4, ?_, fun b' o e => ?_, ?_⟩
        · rw [nm_len]
          exact Nat.lt_of_le_of_lt (Nat.le_trans (List.length_filter_le _ _) (by rw [List.length_range]; omega : _ ≤ 40)) (by decide)
        · rw [upd_ne (ne_of_none e hM2)]; exact s4 _ _ e
        · rw [upd_same, rs', List.filter_cons, if_pos hE, nm_app]; rfl
    rintro H4 ⟨s4, e4⟩
    refine ⟨_, rfl, L, D.st.map goE, rfl, hl.ext (s3.trans s4), by rw [lG]; omega, oG, fun B bs H5 s5 lB hB hbs => ?_⟩
    try dsimp only [L2.gName, L2.tSeq, L2.tAsg]
    have oE : ∀ y ∈ (List.range D.st.length).filter D.endd, y < D.st.length := fun y hy => List.mem_range.mp (List.mem_filter.mp hy).1
    have lE : ((List.range D.st.length).filter D.endd).length ≤ 40 := Nat.le_trans (List.length_filter_le _ _) (by rw [List.length_range]; exact n40)
    have lbs : bs.length = D.st.length := by rw [hB, lG]
    have bz : ∀ t s, s ∈ bs.getD t [] → t < D.st.length := fun t s h => by
      rcases Nat.lt_or_ge t bs.length with z | z
      · omega
      · rw [List.getD_eq_getElem?_getD, List.getElem?_eq_none z] at h; cases h
    have oA : ∀ s, ∀ t ∈ D.ahd s, t < D.st.length := fun s t h => by
      rw [← eG] at h
      rw [← lG]
      exact getD_mem (fun g hg => (oG g hg).2) h
    have zA : ∀ s t, t ∈ D.ahd s → s < D.st.length := fun s t h => by
      rcases Nat.lt_or_ge s D.st.length with z | z
      · exact z
      · unfold Dcd.ahd at h
        rw [List.getD_eq_getElem?_getD, List.getElem?_eq_none z] at h; cases h
    have oB : ∀ g ∈ bs, ∀ y ∈ g, y < bs.length := fun g hg y hy => by
      obtain ⟨t, ht, rfl⟩ := List.getElem_of_mem hg
      have q := (hbs t y (by rw [lG, ← lbs]; exact ht)).mp (by rw [List.getD_eq_getElem?_getD, List.getElem?_eq_getElem ht]; exact hy)
      rw [eG] at q
      rw [lbs]; exact zA _ _ q
    refine ⟨_, rfl, B, M2, bs, _, rfl, lB, by omega, oB, s5 _ _ e4, fun y hy => by rw [lbs]; exact oE y hy, by omega, fun M3 m3 H6 s6 hM3 e6 h6 => ?_⟩
    have t6 : Same H3 H6 := (s4.trans s5).trans s6
    have t0 : Same H H6 := s3'.trans t6
    refine ⟨_, rfl, p, _, dx, _, _, rfl, t0 _ _ ep, T.cl_Decoder, T.na_Decoder_states, dfs_states, _, rfl, by omega, by omega, fun M4 hM4 => ?_⟩
    rw [Int.toNat_natCast]
    refine lc_range (lo := 0) (n := D.st.length) (fun i H' => Same H6 H' ∧ H' M4 = some (.lst (marks (fun s => m1 s && m3 s) i))) ⟨Same.new (Same.refl _) hM4, upd_same⟩ ?_ ?_
    · rintro i H7 hi ⟨s7, e7⟩
      rw [Int.zero_add]
      have e3' : H7 M1 = some (.lst (marks m1 D.st.length)) := by have := s7 _ _ (t6 _ _ e3); rw [lG] at this; exact this
      have e6' : H7 M3 = some (.lst (marks m3 D.st.length)) := by have := s7 _ _ e6; rw [lbs] at this; exact this
      have last : ∃ acc, H7 M4 = some (HO.lst acc) ∧ acc.length < sizeLine ∧ Same H6 (upd H7 M4 (HO.lst (acc ++ [V.bl (m1 i && m3 i)]))) ∧
          upd H7 M4 (HO.lst (acc ++ [V.bl (m1 i && m3 i)])) M4 = some (HO.lst (marks (fun s => m1 s && m3 s) (i + 1))) := by
        refine ⟨_, e7, ?_, fun b' o e => ?_, ?_⟩
        · rw [marks_len]; exact Nat.lt_of_le_of_lt (by omega : i ≤ 40) (by decide)
        · rw [upd_ne (ne_of_none e hM4)]; exact s7 _ _ e
        · rw [upd_same]; unfold marks; rw [List.range_succ, List.map_append]; rfl
      refine ⟨rfl, tYesT ⟨_, rfl, _, rfl, M1, _, (i : Nat), _, rfl, rfl, SqL.of e3', atI_nat (marks_at hi), m1 i, rfl, ?_⟩⟩
      cases c1 : m1 i with
      | false => rw [c1] at last; exact iteF last
      | true =>
        rw [c1] at last
        exact iteT ⟨_, rfl, _, rfl, M3, _, (i : Nat), _, rfl, rfl, SqL.of e6', atI_nat (marks_at hi), last⟩
    rintro H7 ⟨s7, e7⟩
    refine ⟨M4, _, rfl, .inl ⟨SqL.of e7, fun l hl => kQ l _ _ (Same.new (t0.trans s7) hl) (Same.free (t0.trans s7) hl) upd_same fun s hs => ?_⟩⟩
    have r1 : m1 s = true ↔ RchG D.ahd [0] s := by rw [h3]; simp only [eG]
    have r3 : m3 s = true ↔ ∃ t ∈ (List.range D.st.length).filter D.endd, RchG D.ahd [s] t := by
      rw [h6]
      exact rch_back (n := D.st.length) oA (fun t s ht => by have := hbs t s (by rw [lG]; exact ht); rw [eG] at this; exact this) bz s
    rw [Bool.and_eq_true, r1, r3]
    constructor
    · rintro ⟨a, t, ht, b⟩
      exact ⟨a, t, (List.mem_filter.mp ht).2, b⟩
    · rintro ⟨a, t, ht, b⟩
      refine ⟨a, t, List.mem_filter.mpr ⟨List.mem_range.mpr ?_, ht⟩, b⟩
      unfold Dcd.endd at ht
      rcases Nat.lt_or_ge t D.en.length with z | z
      · rw [ok.ends] at z; exact z
      · rw [List.getD_eq_getElem?_getD, List.getElem?_eq_none z] at ht; cases ht
end
end My

set_option Elab.async false
set_option linter.all false
set_option maxRecDepth 100000
set_option maxHeartbeats 8000000
namespace My
open PySem PySem.Spec PyProof.Rows L2
theorem Kp.toW {b : Addr} {H H' : Hp} (k : Kp b H H') : Same (My.wo H b) H' := fun x o e => wo_same _ _ _ _ (k.wo x o e)
/-- a line on the heap -/
def FL (H : Hp) (v : V) (l : List Nat) : Prop := ∃ r, v = .ref r ∧ H r = some (.tup (nmV l))
theorem FL.keep {H H' : Hp} {b : Addr} {m : List (Nat × List Nat)} (h : DcN (FL H) H b m) (e : H' b = H b) (t : ∀ r xs, H r = some (.tup xs) → H' r = some (.tup xs)) : DcN (FL H') H' b m :=
  h.mono e fun v l ⟨r, h1, h2⟩ => ⟨r, h1, t _ _ h2⟩
def lnV (m : List (Nat × List Nat)) (s a : Nat) : List Nat := (m.lookup s).getD [] ++ [a]
def GL (D : Dcd) (s : Nat) (l : List Nat) : Prop := (∃ w, D.go 0 l = some (s, w)) ∧ ∀ a ∈ l, a < D.sg
theorem GL.one {D : Dcd} {s a g : Nat} {w l : List Nat} (h : GL D s l) (ha : a < D.sg) (e : D.at s a = some (g, w)) : GL D g (l ++ [a]) := by
  obtain ⟨⟨u, hu⟩, hl⟩ := h
  refine ⟨⟨u ++ w, ?_⟩, fun b hb => ?_⟩
  · rw [D.go_snoc, hu]
    show (D.at s a).map _ = _
    rw [e]; rfl
  · rcases List.mem_append.mp hb with z | z
    · exact hl b z
    · rw [List.mem_singleton.mp z]; exact ha
theorem dg_rowL {K : PySem.W.Frag} {H : Hp} {Sa : Addr} {D : Dcd} (ok : D.ok) (h : Dg K H false (.ref Sa) D.stD) {s : Nat} (hs : s < D.st.length) : ∃ xs r zs, SqT K H Sa xs ∧ xs[s]? = some (.ref r) ∧ SqT K H r zs ∧ zs.length = D.sg ∧
    ∀ a, a < D.sg → ∃ e, zs[a]? = some e ∧ Dg K H false e (enD (D.at s a)) ∧ (D.st.getD s [])[a]? = some (D.at s a) := by
  obtain ⟨a, xs, e, hx, ha⟩ := h.tup_of
  injection e with e
  subst e
  obtain ⟨x, d, ex, ed, dx⟩ := ha.nth (i := s) (by rw [List.length_map]; exact hs)
  rw [List.getElem?_map, List.getElem?_eq_getElem hs] at ed
  have ed := Option.some.inj ed
  subst ed
  obtain ⟨r, zs, rfl, hz, hzs⟩ := dx.tup_of
  have lr := (ok.rows _ (List.getElem_mem hs)).1
  refine ⟨xs, r, zs, hx, ex, hz, by rw [hzs.len, List.length_map, lr], fun a ha => ?_⟩
  obtain ⟨e, de, ee, ede, dge⟩ := hzs.nth (i := a) (by rw [List.length_map, lr]; exact ha)
  rw [List.getElem?_map, List.getElem?_eq_getElem (by rw [lr]; exact ha)] at ede
  have ede := Option.some.inj ede
  subst ede
  refine ⟨e, ee, ?_⟩
  unfold Dcd.at
  rw [List.getD_eq_getElem?_getD, List.getD_eq_getElem?_getD, List.getElem?_eq_getElem hs]
  show Dg K H false e (enD ((D.st[s])[a]?.getD none)) ∧ (D.st[s])[a]? = some ((D.st[s])[a]?.getD none)
  rw [List.getElem?_eq_getElem (by rw [lr]; exact ha)]
  exact ⟨dge, rfl⟩
section
variable {P : Program} {w : World} {K : PySem.W.Frag} {mg : Str → Option Value} {base : Heap}
theorem ok_one_sign_on (T : Txt K mg) : FnOk P w K mg base CX0 1 T.f_one_sign_on T.fd_one_sign_on ["decoder", "lines", "newest"] (fun vs H Q _ => ∃ p D b c m ly k, vs = [.ref p, .ref b, .ref c] ∧ DecW K T.C_Decoder b H p D ∧ DcN (FL H) H b m ∧ H c = some (.lst (nmV ly)) ∧ BfLay D.st D.st.length (GL D) List.length 0 k (m, ly) ∧ k ≤ 40 ∧
    ∀ p' H', Kp b H H' → H p' = none → H' p' = some (.lst (nmV (bfL lnV D.st m ly).2)) → DcN (FL H') H' b (bfL lnV D.st m ly).1 → BfLay D.st D.st.length (GL D) List.length 0 (k + 1) (bfL lnV D.st m ly) → Q (.ref p') H') := by
  refine T.F_one_sign_on.ok sc_one_sign_on (fun vs H Q E h => ?_) (fun cdv A outer s0 H vs Q E hr h => ?_)
  · obtain ⟨p, D, b, c, m, ly, k, rfl, _⟩ := h; rfl
  · obtain ⟨p, D, b, c, m, ly, k, rfl, dec, hb, hc, bl, k40, kQ⟩ := h
    obtain ⟨⟨dx, Sa, Ea, ep, hs, he⟩, ok⟩ := id dec
    have n40 := ok.n40
    have s5 := ok.s5
    have nbc : c ≠ b := fun z => by obtain ⟨_, e, _⟩ := hb; rw [z, e] at hc; cases hc
    refine ⟨_, (pss_cons (ps_set (i := 3) sc_one_sign_on.nd rfl (Or.inl rfl) (pe_lst pa_nil))
      (pss_cons (ps_for PassesOwn.never rfl (pi_list (pv 2)) (pg_name (i := 4) sc_one_sign_on.nd rfl (Or.inl rfl)) (pss_one (ps_for PassesOwn.never rfl (pi_enumT rfl T.z_enumerate (pa_cons (pe_ix ix_tup (pe_fld (pv 0) rfl) (pv 4) (fun _ _ => rfl)) pa_nil)) (pg_tup rfl (pgs_cons (pg_name (i := 5) sc_one_sign_on.nd rfl (Or.inl rfl)) (pgs_cons (pg_name (i := 6) sc_one_sign_on.nd rfl (Or.inl rfl)) pgs_nil))) (pss_one (ps_if (PW.pt (pw_and (pt_cmp (pc_notN (pv 6))) (pw_and1 (pt_cmp (pc_dnotin (hu_of hr) (pe_ix ix_tup (pv 6) pe_int (fun _ _ => rfl)) (pv 1)))))) (pss_cons (ps_dput (hu_of hr) (pv 1) (pe_ix ix_tup (pv 6) pe_int (fun _ _ => rfl)) (pe_tup (StX.pa_star (pe_dget (hu_of hr) (pv 1) (pv 4) (fun _ _ => rfl)) (pa_cons (pv 5) pa_nil))) rfl)
      (pss_one (ps_expr (pe_bm PySem.F.plainAttrs_list PySem.F.slot_list_append PySem.F.type_list_append mt_append (pv 3) (pa_cons (pe_ix ix_tup (pv 6) pe_int (fun _ _ => rfl)) pa_nil))))) pss_nil)))))
      (pss_one (ps_ret (pv 3))))), ?_⟩
    refine ⟨by decide, fun F hF => ?_⟩
    have nFb : F ≠ b := fun z => by obtain ⟨_, e, _⟩ := hb; rw [z, e] at hF; cases hF
    have k0 : Kp b H (upd H F (.lst [])) := (Kp.refl b H).free hF
    have eF0 : (upd H F (.lst [])) F = some (.lst (nmV [])) := upd_same
    have hb0 : DcN (FL (upd H F (.lst []))) (upd H F (.lst [])) b m := FL.keep hb (upd_ne (Ne.symm nFb)) fun r xs e => by rw [upd_ne (ne_of_none e hF)]; exact e
    generalize upd H F (.lst []) = H0 at k0 eF0 hb0 ⊢
    try dsimp only [L2.gName, L2.tSeq, L2.tAsg]
    refine ⟨_, rfl, c, rfl, ⟨_, SqL.of (k0 _ _ nbc hc)⟩, for_list (K := K) (a := c) (xs := nmV ly) (fun i σ H' => ∃ x4 x5 x6, ∃ q : BfQ (List Nat), σ = [some (.ref p), some (.ref b), some (.ref c), some (.ref F), x4, x5, x6] ∧ Kp b H H' ∧ q = (ly.take i).foldl (bfR lnV D.st) (m, []) ∧ H' F = some (.lst (nmV q.2)) ∧ DcN (FL H') H' b q.1 ∧ Bf D.st D.st.length (GL D) List.length 0 k q ((ly.take i).flatMap fun s => goE (D.st.getD s [])))
      ⟨_, _, _, (m, []), rfl, k0, rfl, eF0, hb0, bl.mid⟩ (fun i σ H' _ ⟨_, _, _, _, _, s, _⟩ => SqL.of (s _ _ nbc hc)) ?_ ?_⟩
    · rintro i v σ H1 hv ⟨x4, x5, x6, q, rfl, k1, hq, eF1, hb1, bf⟩
      obtain ⟨s, hsi, rfl⟩ := nm_at hv
      have dS := (bl.lay.ly s).mp (List.mem_of_getElem? hsi)
      obtain ⟨l0, hl0, ll0, gl0⟩ := bf.look dS
      have sl : s < D.st.length := bf.fnd.lt _ _ hl0
      obtain ⟨xs, r, zs, hx, hxr, hz, lz, hent⟩ := dg_rowL ok hs sl
      try dsimp only [L2.gName]
      have hrow : ∀ a, a < D.sg → (D.st.getD s [])[a]? = some (D.at s a) := fun a ha => (hent a ha).choose_spec.2.2
      have lrow : (D.st.getD s []).length = D.sg := by
        have := (ok.rows _ (List.getElem_mem sl)).1
        rw [List.getD_eq_getElem?_getD, List.getElem?_eq_getElem sl]; exact this
      have fin : ∀ qn : BfQ (List Nat), qn = (D.st.getD s []).zipIdx.foldl (bf1 lnV s) q → qn = (ly.take (i + 1)).foldl (bfR lnV D.st) (m, []) := fun qn h => by
        rw [foldl_take _ _ hsi, ← hq]; exact h
      have fd : (ly.take (i + 1)).flatMap (fun s => goE (D.st.getD s [])) = (ly.take i).flatMap (fun s => goE (D.st.getD s [])) ++ goE (D.st.getD s []) := by
        rw [List.take_add_one, hsi, List.flatMap_append]
        simp
      refine ⟨_, rfl, p, _, dx, _, _, rfl, k1.toW _ _ ep, T.cl_Decoder, T.na_Decoder_steps, dfs_steps, _, rfl, Sa, _, (s : Nat), _, rfl, rfl, hx.ext k1.toW, atI_nat hxr, r, zs, rfl, hz.ext k1.toW, for_enumT (K := K) (a := r) (xs := zs) (fun j σ H' => ∃ x5 x6, ∃ q' : BfQ (List Nat), σ = [some (.ref p), some (.ref b), some (.ref c), some (.ref F), some (.int (s : Nat)), x5, x6] ∧ Kp b H H' ∧ q' = ((D.st.getD s []).zipIdx.take j).foldl (bf1 lnV s) q ∧ H' F = some (.lst (nmV q'.2)) ∧ DcN (FL H') H' b q'.1 ∧ Bf D.st D.st.length (GL D) List.length 0 k q' ((ly.take i).flatMap (fun s => goE (D.st.getD s [])) ++ goE ((D.st.getD s []).take j)))
        ⟨_, _, q, rfl, k1, rfl, eF1, hb1, by simpa [goE] using bf⟩ (fun j σ H' ⟨_, _, _, _, s, _⟩ => hz.ext s.toW) ?_ ?_⟩
      · rintro j x σ H2 t hxj ⟨x5, x6, q', rfl, k2, hq', eF2, hb2, bf2⟩ ht
        have hj : j < D.sg := by rw [← lz]; exact (List.getElem?_eq_some_iff.mp hxj).1
        obtain ⟨ev, he1, he2, he3⟩ := hent j hj
        rw [hxj] at he1
        obtain rfl := Option.some.inj he1
        have ntb : t ≠ b := fun z => by obtain ⟨_, e, _⟩ := hb2; rw [z, e] at ht; cases ht
        have k3 : Kp b H (upd H2 t (.tup [.int (j : Nat), x])) := k2.new ht
        have eF3 : (upd H2 t (.tup [.int (j : Nat), x])) F = some (.lst (nmV q'.2)) := by rw [upd_ne (ne_of_none eF2 ht)]; exact eF2
        have hb3 : DcN (FL (upd H2 t (.tup [.int (j : Nat), x]))) (upd H2 t (.tup [.int (j : Nat), x])) b q'.1 := FL.keep hb2 (upd_ne (Ne.symm ntb)) fun r xs e => by rw [upd_ne (ne_of_none e ht)]; exact e
        have et : (upd H2 t (.tup [.int (j : Nat), x])) t = some (.tup [.int (j : Nat), x]) := upd_same
        generalize upd H2 t (.tup [.int (j : Nat), x]) = H3 at k3 eF3 hb3 et ⊢
        refine ⟨t, _, rfl, .inl (.inl et), rfl, _, _, rfl, _, _, rfl, rfl, ?_⟩
        have zj : (D.st.getD s []).zipIdx[j]? = some (D.at s j, j) := by rw [List.getElem?_zipIdx, he3]; simp
        have hq2 : bf1 lnV s q' (D.at s j, j) = ((D.st.getD s []).zipIdx.take (j + 1)).foldl (bf1 lnV s) q := by rw [foldl_take _ _ zj, ← hq']
        have bf3 : Bf D.st D.st.length (GL D) List.length 0 k (bf1 lnV s q' (D.at s j, j)) ((ly.take i).flatMap (fun s => goE (D.st.getD s [])) ++ goE ((D.st.getD s []).take (j + 1))) := by
          rw [goE_snoc he3, ← List.append_assoc]
          refine bf2.step dS he3 fun l g w' hx' gl ll e => ⟨(ok.at _ _ e).1, ?_, ?_⟩
          · unfold lnV; rw [hx']; exact gl.one hj e
          · unfold lnV; rw [hx']; show (l ++ [j]).length = _; rw [List.length_append, ll]; rfl
        obtain ⟨l1, hl1, ll1, gl1⟩ := bf2.look dS
        have zF := bf2.fnd.fl
        have zm := bf2.fnd.len
        cases hat : D.at s j with
        | none =>
          rw [hat] at he2 hq2 bf3
          have : x = .non := by cases he2; rfl
          subst this
          refine ⟨_, rfl, _, rfl, ?_⟩
          exact iteF (iteF ⟨_, _, q', rfl, k3, hq2, eF3, hb3, bf3⟩)
        | some pr =>
          obtain ⟨g, w'⟩ := pr
          rw [hat] at he2 hq2 bf3
          obtain ⟨b2, ys, rfl, hy, hys⟩ := he2.tup_of
          have hg : ys[0]? = some (.int (g : Nat)) := by
            cases hys with
            | cons h _ => cases h; rfl
          refine ⟨_, rfl, _, rfl, ?_⟩
          refine iteT ⟨_, rfl, b2, ys, (0 : Nat), _, rfl, rfl, hy.ext k3.toW, atI_nat hg, ?_⟩
          rcases hb3.get g with ⟨no, dg⟩ | ⟨x', v', yes, dg, _⟩
          rotate_left
          · have e : bf1 lnV s q' (some (g, w'), j) = q' := by
              show (if _ then _ else _) = _
              rw [if_pos (by rw [yes]; rfl)]
            rw [e] at hq2 bf3
            exact ⟨_, rfl, b, _, rfl, dg, _, rfl, iteF ⟨_, _, q', rfl, k3, hq2, eF3, hb3, bf3⟩⟩
          have e : bf1 lnV s q' (some (g, w'), j) = (q'.1 ++ [(g, l1 ++ [j])], q'.2 ++ [g]) := by
            show (if _ then _ else _) = _
            rw [if_neg (by rw [no]; decide)]
            unfold lnV
            rw [hl1]; rfl
          rw [e] at hq2 bf3
          refine ⟨_, rfl, b, _, rfl, dg, _, rfl, iteT ?_⟩
          rcases hb3.get s with ⟨z, _⟩ | ⟨l', v, z, dgs, r2, rfl, er2⟩
          · rw [hl1] at z; cases z
          rw [hl1] at z
          obtain rfl := Option.some.inj z
          have ll : (nmV l1).length ≤ 40 := by
            rw [nm_len, ll1]; exact k40
          refine ⟨_, rfl, _, rfl, b, _, rfl, dgs, r2, nmV l1, rfl, .inl (SqT.of er2), _, rfl, ?_, fun R hR => ?_⟩
          · rw [List.length_append]; exact Nat.le_trans (Nat.add_le_add_right ll _) (show 40 + 1 ≤ sizeLine by decide)
          have nRb : R ≠ b := fun z => by obtain ⟨_, e, _⟩ := hb3; rw [z, e] at hR; cases hR
          have k4 : Kp b H (upd H3 R (.tup (nmV l1 ++ [.int (j : Nat)]))) := k3.new hR
          have eF4 : (upd H3 R (.tup (nmV l1 ++ [.int (j : Nat)]))) F = some (.lst (nmV q'.2)) := by rw [upd_ne (ne_of_none eF3 hR)]; exact eF3
          have hb4 : DcN (FL (upd H3 R (.tup (nmV l1 ++ [.int (j : Nat)])))) (upd H3 R (.tup (nmV l1 ++ [.int (j : Nat)]))) b q'.1 := FL.keep hb3 (upd_ne (Ne.symm nRb)) fun r xs e => by rw [upd_ne (ne_of_none e hR)]; exact e
          have eR4 : (upd H3 R (.tup (nmV l1 ++ [.int (j : Nat)]))) R = some (.tup (nmV (l1 ++ [j]))) := by rw [upd_same, nm_app]; rfl
          generalize upd H3 R (.tup (nmV l1 ++ [.int (j : Nat)])) = H4 at k4 eF4 hb4 eR4 ⊢
          obtain ⟨H5, dp, sm, hb5⟩ := hb4.put (t := g) (v := .ref R) no ⟨R, rfl, eR4⟩ (by omega)
          refine ⟨_, rfl, _, rfl, b2, ys, (0 : Nat), _, rfl, rfl, hy.ext k4.toW, atI_nat hg, b, H5, rfl, dp, ?_⟩
          have k5 : Kp b H H5 := fun x o n e => by rw [sm x n]; exact k4 x o n e
          have eF5 : H5 F = some (.lst (nmV q'.2)) := by rw [sm F nFb]; exact eF4
          have ebk : ∃ kvs, H4 b = some (.dK kvs) := let ⟨kvs, e, _⟩ := hb4; ⟨kvs, e⟩
          have hb5' : DcN (FL H5) H5 b (q'.1 ++ [(g, l1 ++ [j])]) := hb5.mono rfl fun v x ⟨r, h1, h2⟩ => ⟨r, h1, by
            rw [sm r (fun z => by obtain ⟨kvs, e⟩ := ebk; rw [z, e] at h2; cases h2)]; exact h2⟩
          refine ⟨_, rfl, .inl ⟨rfl, _, SqL.of eF5⟩, _, rfl, b2, ys, (0 : Nat), _, rfl, rfl, hy.ext k5.toW, atI_nat hg, F, _, _, rfl, rfl, eF5, ?_, ?_⟩
          · rw [nm_len]; exact Nat.lt_of_le_of_lt (by omega : q'.2.length ≤ 40) (by decide)
          refine ⟨_, _, _, rfl, fun x o n e => by rw [upd_ne (ne_of_none e hF)]; exact k5 x o n e, hq2, by rw [upd_same, nm_app]; rfl, FL.keep hb5' (upd_ne (Ne.symm nFb)) fun r xs e => ?_, bf3⟩
          rw [upd_ne (fun z => by rw [z, eF5] at e; cases e)]; exact e
      · rintro σ H2 ⟨x5, x6, q', rfl, k2, hq', eF2, hb2, bf2⟩
        rw [lz] at hq' bf2
        rw [show (D.st.getD s []).zipIdx.take D.sg = (D.st.getD s []).zipIdx from List.take_of_length_le (by rw [List.length_zipIdx, lrow]; exact Nat.le_refl _)] at hq'
        rw [show (D.st.getD s []).take D.sg = D.st.getD s [] from List.take_of_length_le (by rw [lrow]; exact Nat.le_refl _), ← fd] at bf2
        exact ⟨_, x5, x6, q', rfl, k2, fin _ hq', eF2, hb2, bf2⟩
    · rintro σ H1 ⟨x4, x5, x6, q, rfl, k1, hq, eF1, hb1, bf⟩
      rw [nm_len, List.take_length] at hq bf
      subst hq
      exact ⟨_, rfl, kQ F H1 k1 hF eF1 hb1 (bf.done (q0 := (m, [])) bl.lay.ly)⟩
end
end My

set_option Elab.async false
set_option linter.all false
set_option maxRecDepth 100000
set_option maxHeartbeats 8000000
namespace My
open PySem PySem.Spec PyProof.Rows L2
/-- a shortest line, as the search finds it -/
def sRun (D : Dcd) : Nat → List (Nat × List Nat) → List Nat → Option (List Nat)
  | 0, _, _ => none
  | f + 1, m, ly => if ly = [] then none else match ly.find? D.endd with
    | some s => m.lookup s
    | none => sRun D f (bfL lnV D.st m ly).1 (bfL lnV D.st m ly).2
def Dcd.sl (D : Dcd) : Option (List Nat) := sRun D (D.st.length + 2) [(0, [])] [0]
def onL (H : Hp) (v : V) : Option (List Nat) → Prop
  | none => v = .non
  | some l => FL H v l
/-- what it is -/
def SlOk (D : Dcd) : Option (List Nat) → Prop
  | none => ∀ s j, Ds D.ahd 0 s j → D.endd s = false
  | some l => (∃ s, GL D s l ∧ D.endd s = true ∧ Ds D.ahd 0 s l.length ∧ ∀ s' j, Ds D.ahd 0 s' j → j < l.length → D.endd s' = false) ∧ l.length ≤ 40
section
variable {P : Program} {w : World} {K : PySem.W.Frag} {mg : Str → Option Value} {base : Heap}
theorem ok_shortest_line (T : Txt K mg) : FnOk P w K mg base (L2.CX P w) 3 T.f_shortest_line T.fd_shortest_line ["decoder"] (fun vs H Q E => ∃ x, vs = [x] ∧ ((∃ p D, x = .ref p ∧ DecAt K T.C_Decoder H p D ∧ ∀ v H', Same H H' → onL H' v D.sl → SlOk D D.sl → Q v H') ∨
    ∃ t, TyX K H x t ∧ PySem.W.kitOne K t (.ref T.C_Decoder) = some false ∧ Bad T.C_InvalidDecoder H x E)) := by
  refine T.F_shortest_line.okX sc_shortest_line (fun vs H Q E h => ?_) (fun cdv A outer s0 H vs Q E hr h => ?_)
  · obtain ⟨x, rfl, _⟩ := h; rfl
  · obtain ⟨x, rfl, h⟩ := h
    refine ⟨_, (pss_cons (ps_if (pt_not (pt_val (pe_callB call_isi (by rfl) T.z_isinstance (by decide +kernel) (pa_cons (pv 0) (pa_cons (pe_glob (v := .ref T.C_Decoder) rfl T.g_Decoder rfl) pa_nil))))) (pss_one (ps_raiseE rfl T.e_InvalidDecoder hr (takes_of rfl rfl rfl rfl) (pa_cons (pv 0) pa_nil))) pss_nil)
      (pss_cons (ps_set (i := 1) sc_shortest_line.nd rfl (Or.inl rfl) (pe_disp (pps_cons pe_int (pe_tup pa_nil) pps_nil) (by rfl) (by rfl) (fun z => by cases z) (by decide)))
      (pss_cons (ps_set (i := 2) sc_shortest_line.nd rfl (Or.inl rfl) (pe_lst (pa_cons pe_int pa_nil)))
      (pss_cons (ps_while (passes_of rfl) (pt_truth (pv 2) (fun _ => rfl)) (pss_cons (ps_for (passes_of rfl) rfl (pi_list (pv 2)) (pg_name (i := 3) sc_shortest_line.nd rfl (Or.inl rfl)) (pss_one (ps_if (pt_cmp (pc_notN (pe_ix ix_tup (pe_fld (pv 0) rfl) (pv 3) (fun _ _ => rfl)))) (pss_one (ps_ret (pe_dget (hu_of hr) (pv 1) (pv 3) (fun _ _ => rfl)))) pss_nil)))
      (pss_one (ps_set (i := 2) sc_shortest_line.nd rfl (Or.inl rfl) (pe_call (ok_one_sign_on T) (hr.mono (by decide)) rfl T.g_one_sign_on T.F_one_sign_on.kp T.b_one_sign_on .nil pass0 (pa_cons (pv 0) (pa_cons (pv 1) (pa_cons (pv 2) pa_nil))))))))
      (pss_one (ps_ret pe_non)))))), ?_⟩
    rcases h with ⟨p, D, rfl, dec, kQ⟩ | ⟨t, ht, hn, kb⟩
    rotate_left
    · exact ⟨_, rfl, _, _, _, _, false, rfl, .own _, ht, hn, _, rfl, iteT ⟨_, rfl, x, rfl, fun dd hdd => kb dd _ (Same.new (Same.refl _) hdd) hdd upd_same⟩⟩
    obtain ⟨⟨dx, Sa, Ea, ep, hs, he⟩, ok⟩ := id dec
    have n40 := ok.n40
    have n1 := ok.n1
    refine ⟨_, rfl, _, _, _, _, true, rfl, .own _, T.oe_Decoder.ty ep, kit_same, _, rfl, iteF ?_⟩
    try dsimp only [L2.gName, L2.tSeq, L2.tAsg]
    refine fun b hb => ?_
    refine ⟨by decide, fun q hq => ?_⟩
    have nqb : q ≠ b := fun z => by rw [z, upd_same] at hq; cases hq
    refine ⟨by rw [upd_ne (Ne.symm nqb)]; exact upd_same, [(.inl 0, .ref q)], rfl, show 1 ≤ 15 by decide, ?_⟩
    rw [show upd (upd (upd H b (.dK [])) q (.tup [])) b (.dK (mergeK [] [((.inl 0 : Key), V.ref q)])) = upd (upd (upd H b (.dK [])) q (.tup [])) b (.dK [((.inl 0 : Key), V.ref q)]) from rfl]
    have k0 : Kp b H (upd (upd (upd H b (.dK [])) q (.tup [])) b (.dK [((.inl 0 : Key), V.ref q)])) := Kp.upd (Kp.new (Kp.upd (Kp.refl b H)) hq)
    have eb0 : (upd (upd (upd H b (.dK [])) q (.tup [])) b (.dK [((.inl 0 : Key), V.ref q)])) b = some (.dK [((.inl 0 : Key), V.ref q)]) := upd_same
    have eq0 : (upd (upd (upd H b (.dK [])) q (.tup [])) b (.dK [((.inl 0 : Key), V.ref q)])) q = some (.tup []) := by rw [upd_ne nqb, upd_same]
    generalize upd (upd (upd H b (.dK [])) q (.tup [])) b (.dK [((.inl 0 : Key), V.ref q)]) = H0 at k0 eb0 eq0 ⊢
    have hb0 : DcN (FL H0) H0 b [(0, ([] : List Nat))] := ⟨_, eb0, .cons ⟨rfl, q, rfl, eq0⟩ .nil⟩
    try dsimp only [L2.gName, L2.tSeq, L2.tAsg]
    refine ⟨by decide, fun c hc => ?_⟩
    have ncb : c ≠ b := fun z => by rw [z, eb0] at hc; cases hc
    have k1 : Kp b H (upd H0 c (.lst [.int 0])) := k0.new hc
    have ec1 : (upd H0 c (.lst [.int 0])) c = some (.lst (nmV [0])) := upd_same
    have hb1 : DcN (FL (upd H0 c (.lst [.int 0]))) (upd H0 c (.lst [.int 0])) b [(0, ([] : List Nat))] := FL.keep hb0 (upd_ne (Ne.symm ncb)) fun r xs e => by rw [upd_ne (ne_of_none e hc)]; exact e
    generalize upd H0 c (.lst [.int 0]) = H1 at k1 ec1 hb1 ⊢
    have gl0 : GL D 0 [] := ⟨⟨[], rfl⟩, fun a h => nomatch h⟩
    refine ⟨fun k' σ H' => ∃ c m ly k f x3, σ = [some (.ref p), some (.ref b), some (.ref c), x3] ∧ Kp b H H' ∧ H' c = some (.lst (nmV ly)) ∧ DcN (FL H') H' b m ∧ BfLay D.st D.st.length (GL D) List.length 0 k (m, ly) ∧ (ly ≠ [] → k + 1 ≤ m.length) ∧ (∀ s j, Ds D.ahd 0 s j → j < k → D.endd s = false) ∧ D.sl = sRun D f m ly ∧ k' = D.st.length - m.length + (if ly = [] then 0 else 1) ∧ k' < f,
      ⟨_, c, _, [0], 0, _, _, rfl, k1, ec1, hb1, BfLay.start n1 gl0 rfl, fun _ => Nat.le_refl _, fun s j _ h => absurd h (Nat.not_lt_zero _), rfl, rfl, ?_⟩, ?_⟩
    · rw [if_neg (by decide)]; show D.st.length - 1 + 1 < _; omega
    rintro k' σ H2 ⟨c, m, ly, k, f, x3, rfl, k2, ec, hbd, bl, hk, hmn, hsl, rfl, lf⟩
    have lm : m.length ≤ D.st.length := bl.fnd.len
    have s2 : Same H H2 := k2.toSame (Same.refl _) hb
    obtain ⟨f, rfl⟩ : ∃ g, f = g + 1 := ⟨f - 1, by omega⟩
    refine ⟨_, rfl, _, .inl ⟨nmV ly, SqL.of ec, rfl⟩, ?_⟩
    by_cases ne : ly = []
    · subst ne
      have : D.sl = none := hsl
      refine iteF (kQ _ _ s2 (by rw [this]; rfl) ?_)
      rw [this]
      intro s j hd
      rcases Nat.lt_or_ge j k with z | z
      · exact hmn s j hd z
      · have := ds_none (gs := D.ahd) (a := 0) (k := k) (fun s h => nomatch (bl.lay.ly s).mpr h) (j - k) s
        rw [show k + (j - k) = j by omega] at this
        exact absurd hd this
    have hk := hk ne
    have e1 : (!(nmV ly).isEmpty) = true := by
      cases ly with
      | nil => exact absurd rfl ne
      | cons => rfl
    rw [e1]
    rw [if_neg ne] at lf
    have hsl : D.sl = match ly.find? D.endd with
      | some s => m.lookup s
      | none => sRun D f (bfL lnV D.st m ly).1 (bfL lnV D.st m ly).2 := by rw [hsl]; show (if _ then _ else _) = _; rw [if_neg ne]
    refine iteT ⟨fun σ' H' => ∃ k', k' < D.st.length - m.length + (if ly = [] then 0 else 1) ∧ ∃ c m ly k f x3, σ' = [some (.ref p), some (.ref b), some (.ref c), x3] ∧ Kp b H H' ∧ H' c = some (.lst (nmV ly)) ∧ DcN (FL H') H' b m ∧ BfLay D.st D.st.length (GL D) List.length 0 k (m, ly) ∧ (ly ≠ [] → k + 1 ≤ m.length) ∧ (∀ s j, Ds D.ahd 0 s j → j < k → D.endd s = false) ∧ D.sl = sRun D f m ly ∧ k' = D.st.length - m.length + (if ly = [] then 0 else 1) ∧ k' < f, fun σ' H' z => z, ?_⟩
    refine ⟨_, rfl, c, rfl, ⟨_, SqL.of ec⟩, for_list (K := K) (a := c) (xs := nmV ly) (fun i σ H' => ∃ x3, σ = [some (.ref p), some (.ref b), some (.ref c), x3] ∧ H' = H2 ∧ ∀ s ∈ ly.take i, D.endd s = false)
      ⟨_, rfl, rfl, fun s h => (by cases h)⟩ (fun i σ H' _ ⟨_, _, e, _⟩ => by rw [e]; exact SqL.of ec) ?_ ?_⟩
    · rintro i v σ H3 hv ⟨x3, rfl, rfl, hno⟩
      obtain ⟨s, hsi, rfl⟩ := nm_at hv
      obtain ⟨l, hl⟩ := Option.isSome_iff_exists.mp (bl.fnd.fr s (List.mem_of_getElem? hsi))
      have sl : s < D.st.length := bl.fnd.lt _ _ hl
      obtain ⟨zs, e, hz, hze, dze⟩ := dg_end ok (he.ext s2) sl
      try dsimp only [L2.gName]
      refine ⟨_, rfl, p, _, dx, _, _, rfl, s2 _ _ ep, T.cl_Decoder, T.na_Decoder_ends, dfs_ends, _, rfl, Ea, zs, (s : Nat), _, rfl, rfl, hz, atI_nat hze, ?_⟩
      cases hen : D.en.getD s none with
      | none =>
        have hE : D.endd s = false := by unfold Dcd.endd; rw [hen]; rfl
        rw [hen] at dze
        have : e = .non := by cases dze; rfl
        subst this
        refine ⟨_, rfl, iteF ⟨_, rfl, rfl, fun t ht => ?_⟩⟩
        rw [List.take_add_one, hsi] at ht
        rcases List.mem_append.mp ht with z | z
        · exact hno t z
        · rw [List.mem_singleton.mp z]; exact hE
      | some wd =>
        have hE : D.endd s = true := by unfold Dcd.endd; rw [hen]; rfl
        rw [hen] at dze
        have : decide (e = .non) = false := by cases dze; rfl
        refine ⟨_, rfl, ?_⟩
        rw [this]
        have hf : ly.find? D.endd = some s := by
          rw [List.find?_eq_some_iff_append]
          refine ⟨hE, ly.take i, ly.drop (i + 1), ?_, fun t ht => by rw [hno t ht]; rfl⟩
          have h1 : ly.drop i = s :: ly.drop (i + 1) := by
            obtain ⟨li, rfl⟩ := List.getElem?_eq_some_iff.mp hsi
            exact List.drop_eq_getElem_cons li
          rw [← h1, List.take_append_drop]
        rw [hf] at hsl
        have hsl : D.sl = m.lookup s := hsl
        rcases hbd.get s with ⟨z, _⟩ | ⟨l', v, z, dg, fv⟩
        · rw [hl] at z; cases z
        rw [z] at hsl
        exact iteT ⟨_, rfl, _, rfl, b, v, rfl, dg, kQ _ _ s2 (by rw [hsl]; exact fv) (by
          rw [hsl]
          have z : m.lookup s = some l' := z
          have dS := (bl.lay.ly s).mp (List.mem_of_getElem? hsi)
          have lk : l'.length = k := by
            have h := (bl.lay.dm s k).mpr ⟨dS, Nat.le_refl _⟩
            have h : (m.lookup s).map List.length = some k := h
            rw [z] at h; exact Option.some.inj h
          exact ⟨⟨s, bl.fnd.gd s l' z, hE, by rw [lk]; exact dS, fun s' j hd hj => hmn s' j hd (by omega)⟩, by omega⟩)⟩
    · rintro σ H3 ⟨x3, rfl, rfl, hno⟩
      rw [nm_len, List.take_length] at hno
      have hf : ly.find? D.endd = none := List.find?_eq_none.mpr fun s h => by rw [hno s h]; decide
      rw [hf] at hsl
      have hsl : D.sl = sRun D f (bfL lnV D.st m ly).1 (bfL lnV D.st m ly).2 := hsl
      have bln := bfL_len (val := lnV) (st := D.st) m ly
      have dw : DecW K T.C_Decoder b H3 p D := DecAt.w dec fun x o e => by
        have nx : x ≠ b := ne_of_none e hb
        rw [wo_ne nx]; exact s2 _ _ e
      refine ⟨_, rfl, _, rfl, _, rfl, p, D, b, c, m, ly, k, rfl, dw, hbd, ec, bl, by omega, fun c' H4 k4 hc' ec4 hb4 bl4 => ?_⟩
      have lm4 := bl4.fnd.len
      refine ⟨_, ?_, c', _, _, k + 1, f, _, rfl, k2.trans k4, ec4, hb4, bl4, fun h => ?_, fun s j hd hj => ?_, hsl, rfl, ?_⟩
      rotate_left 2
      · rcases Nat.lt_or_ge j k with z | z
        · exact hmn s j hd z
        · obtain rfl : j = k := by omega
          exact hno s ((bl.lay.ly s).mpr hd)
      rotate_left
      all_goals
        have q : (bfL lnV D.st m ly).2 ≠ [] → 0 < (bfL lnV D.st m ly).2.length := fun z => List.length_pos_iff.mpr z
        by_cases z : (bfL lnV D.st m ly).2 = []
        · simp only [z, if_pos, List.length_nil] at *
          first | omega | (rw [if_neg ne]; omega) | exact absurd rfl h
        · have := q z
          first | omega | (rw [if_neg z, if_neg ne]; omega) | (rw [if_neg z]; omega)
end
end My

set_option Elab.async false
set_option linter.all false
set_option maxRecDepth 100000
set_option maxHeartbeats 8000000
namespace My
open PySem PySem.Spec PyProof.Rows L2
section
variable {P : Program} {w : World} {K : PySem.W.Frag} {mg : Str → Option Value} {base : Heap}
def spCell (K : PySem.W.Frag) : Sp := fun vs H Q _ => ∃ (a : Addr) (ns : List Int) (k : Nat), vs = [.ref a, .int k] ∧ SqL K H a (ns.map V.int) ∧ ∀ c H', Same H H' → Q (.int c) H'
theorem ok_law_cell (T : Txt K mg) : FnOk P w K mg base CX0 1 T.f_law_cell T.fd_law_cell ["script", "k"] (spCell K) := by
  refine T.F_law_cell.ok sc_law_cell (fun vs H Q E h => ?_) (fun cdv A outer s H vs Q E hr h => ?_)
  · obtain ⟨a, ns, k, rfl, _⟩ := h; rfl
  · obtain ⟨a, ns, k, rfl, hS, q⟩ := h
    refine ⟨_, (pss_one (ps_ret (pe_ifExp (pt_cmpR op_lt (pv 1) (pe_callB call_len_seq (by rfl) T.z_len (by decide +kernel) (pa_cons (pv 0) pa_nil)) (nomark _)) (pe_ix ix_list (pv 0) (pv 1) (fun _ _ => rfl)) (pe_op op_add (pe_op op_mul pe_int (pv 1)) (pe_op op_mod (pe_callB (cr_sum rfl) (by rfl) T.z_sum (by decide +kernel) (pa_cons (pe_slice sl_list (pv 0) po_none (po_some pe_int)) pa_nil)) pe_int))))), ?_⟩
    refine ⟨_, rfl, _, rfl, a, _, rfl, .inl hS, _, _, rfl, rfl, _, rfl, ite2 (fun c => ?_) (fun c => ?_)⟩
    · have c' := of_decide_eq_true c
      have hk : k < ns.length := by rw [List.length_map] at c'; omega
      exact ⟨_, rfl, _, rfl, a, _, _, _, rfl, rfl, hS, atI_nat (j := k) (v := V.int ns[k]) (by rw [List.getElem?_map, List.getElem?_eq_getElem hk]; rfl), q _ H (Same.refl H)⟩
    · refine ⟨_, rfl, _, _, rfl, rfl, .inl (by decide), _, rfl, 1, rfl, a, _, rfl, hS, fun p hp => ?_⟩
      rw [show cutV (ns.map V.int) none (some 1) = (ns.take 1).map V.int by rw [show (some (1 : Int)) = some ((1 : Nat) : Int) from rfl, cutV_to, List.map_take]]
      exact ⟨p, ns.take 1, rfl, SqL.of upd_same, _, _, rfl, rfl, (by show (0 : Int) < 1000081; decide), _, _, rfl, rfl, q _ _ (Same.new (Same.refl H) hp)⟩
def spBox : Sp := fun vs H Q _ => ∃ c : Int, vs = [.int c] ∧ ∀ p o, H p = none → BoxO 0 o → Q (.ref p) (upd H p o)
theorem ok_law_box (T : Txt K mg) : FnOk P w K mg base CX0 1 T.f_law_box T.fd_law_box ["great"] spBox := by
  refine T.F_law_box.ok sc_law_box (fun vs H Q E h => ?_) (fun cdv A outer s H vs Q E hr h => ?_)
  · obtain ⟨c, rfl, _⟩ := h; rfl
  · obtain ⟨c, rfl, q⟩ := h
    refine ⟨_, (pss_one (ps_ret (pe_lst (pa_cons (pe_callB call_abs (by rfl) T.z_abs (by decide +kernel) (pa_cons (pv 0) pa_nil)) (pa_cons (pe_cmpR op_ge (pe_callB call_abs (by rfl) T.z_abs (by decide +kernel) (pa_cons (pv 0) pa_nil)) (pe_op op_pow pe_int pe_int) (nomark _)) (pa_cons (pe_op op_mod (pe_callTy call_int1 (by rfl) T.z_int (by decide +kernel) (pa_cons (pe_callB call_abs (by rfl) T.z_abs (by decide +kernel) (pa_cons (pv 0) pa_nil)) pa_nil)) pe_int) (pa_cons pe_int pa_nil))))))), ?_⟩
    refine ⟨_, rfl, _, rfl, _, rfl, _, rfl, _, _, rfl, rfl, ⟨by decide, by decide, by decide⟩, _, _, rfl, rfl, _, rfl, _, rfl, .inl ⟨_, rfl, _, _, rfl, rfl, (by show (0 : Int) < 2147483629; decide), (by show 4 ≤ sizeLine; decide), fun p hp => q p _ hp ⟨_, _, _, _, rfl, ?_, ?_, Int.le_refl 0, Int.le_refl 0⟩⟩⟩
    · exact Int.emod_nonneg _ (by decide)
    · have := Int.emod_lt_of_pos (if c < 0 then -c else c) (by decide : (0 : Int) < 2147483629)
      omega
theorem ok_law_take (T : Txt K mg) : FnOk P w K mg base CX0 1 T.f_law_take T.fd_law_take ["box", "many"] spTake := by
  refine T.F_law_take.ok sc_law_take (fun vs H Q E h => ?_) (fun cdv A outer s H vs Q E hr h => ?_)
  · obtain ⟨p, n, m, rfl, _⟩ := h; rfl
  · obtain ⟨p, n, many, rfl, ⟨o, ho, a, m, c, b, rfl, m0, m1, c0, c1⟩, hn, p0, p1, q⟩ := h
    refine ⟨_, (pss_cons (ps_if (PW.pt (pw_and (pt_val (pe_ix ix_list (pv 0) pe_int (fun _ _ => rfl))) (pw_and1 (pt_cmpR op_gt (pe_ix ix_list (pv 0) pe_int (fun _ _ => rfl)) pe_int (nomark _))))) (pss_cons (ps_set (i := 2) sc_law_take.nd rfl (Or.inl rfl) (pe_op op_mod (pe_callTy call_int1 (by rfl) T.z_int (by decide +kernel) (pa_cons (pe_ix ix_list (pv 0) pe_int (fun _ _ => rfl)) pa_nil)) (pv 1)))
      (pss_cons (ps_asg (pe_op op_fdivW (pe_ix ix_list (pv 0) pe_int (fun _ _ => rfl)) (pv 1)) (pg_sub (pv 0) pe_int set_list))
      (pss_one (ps_ret (pv 2))))) pss_nil)
      (pss_cons (ps_asg (pe_op op_add (pe_ix ix_list (pv 0) pe_int (fun _ _ => rfl)) pe_int) (pg_sub (pv 0) pe_int set_list))
      (pss_cons (ps_set (i := 3) sc_law_take.nd rfl (Or.inl rfl) (pe_op op_mod (pe_callTy call_int1 (by rfl) T.z_int (by decide +kernel) (pa_cons (pe_op op_pow (pe_op op_add (pe_op op_add (pe_ix ix_list (pv 0) pe_int (fun _ _ => rfl)) (pe_op op_mul pe_int (pe_ix ix_list (pv 0) pe_int (fun _ _ => rfl)))) pe_int) pe_int) pa_nil)) pe_int))
      (pss_one (ps_ret (pe_op op_mod (pe_op op_fdivW (pe_op op_mod (pe_callTy call_int1 (by rfl) T.z_int (by decide +kernel) (pa_cons (pe_op op_pow (pe_op op_add (pe_op op_mul (pv 3) pe_int) (pe_op op_mul pe_int (pe_ix ix_list (pv 0) pe_int (fun _ _ => rfl)))) pe_int) pa_nil)) pe_int) pe_int) (pv 1))))))), ?_⟩
    have at0 : atI [V.int a, .bl b, .int m, .int c] 0 = some (.int a) := atI_nat (j := 0) rfl
    have at1 : atI [V.int a, .bl b, .int m, .int c] 1 = some (.bl b) := atI_nat (j := 1) rfl
    have at3 : atI [V.int a, .bl b, .int m, .int c] 3 = some (.int c) := atI_nat (j := 3) rfl
    have lm : CDivW a many := ⟨p0, by
      have : many.natAbs < 2 ^ 20 := by omega
      exact Nat.lt_of_lt_of_le (PySem.Flt.log2_lt_of (by decide) this) (by decide)⟩
    have second : tSeq (tAsg (tOp (rI0 fun i j => .int (i + j)) (tOp (rIxL K) (tVar 0) (tC (.int 3))) (tC (.int 1))) (gSub (tVar 0) (tC (.int 3)) rSetL))
        (tSeq (tAsg (tOp (rI (fun _ j => 0 < j) fun i j => .int (i % j)) (tCB (fun xs H Q => (∃ i, xs = [.int i] ∧ Q (.int i) H) ∨ ∃ k, xs = [.bl k] ∧ Q (.int (if k then 1 else 0)) H) (tCons (tOp (rI CPow fun i j => .int (i ^ j.toNat)) (tOp (rI0 fun i j => .int (i + j)) (tOp (rI0 fun i j => .int (i + j)) (tOp (rIxL K) (tVar 0) (tC (.int 2))) (tOp (rI CMul fun i j => .int (i * j)) (tC (.int 15485863)) (tOp (rIxL K) (tVar 0) (tC (.int 3))))) (tC (.int 179424697))) (tC (.int 5))) tNil)) (tC (.int 2147483647))) (gName 3))
        (tRet (tOp (rI (fun _ j => 0 < j) fun i j => .int (i % j)) (tOp (rI CDivW fun i j => .int (i / j)) (tOp (rI (fun _ j => 0 < j) fun i j => .int (i % j)) (tCB (fun xs H Q => (∃ i, xs = [.int i] ∧ Q (.int i) H) ∨ ∃ k, xs = [.bl k] ∧ Q (.int (if k then 1 else 0)) H) (tCons (tOp (rI CPow fun i j => .int (i ^ j.toNat)) (tOp (rI0 fun i j => .int (i + j)) (tOp (rI CMul fun i j => .int (i * j)) (tVar 3) (tC (.int 48271))) (tOp (rI CMul fun i j => .int (i * j)) (tC (.int 104723)) (tOp (rIxL K) (tVar 0) (tC (.int 3))))) (tC (.int 3))) tNil)) (tC (.int 2147483587))) (tC (.int 64))) (tVar 1))))
        { nx := fun _ H' => Q .non H', rt := Q } [some (.ref p), some (.int many), none, none] H := by
      refine ⟨_, rfl, p, _, _, _, rfl, rfl, SqL.of ho, at3, _, _, rfl, rfl, _, rfl, p, _, 3, 3, rfl, rfl, ho, rfl, ?_⟩
      have hu : upd H p (.lst [.int a, .bl b, .int m, .int (c + 1)]) p = some (.lst [.int a, .bl b, .int m, .int (c + 1)]) := upd_same
      refine ⟨_, rfl, p, _, _, _, rfl, rfl, SqL.of hu, atI_nat (j := 2) rfl, _, rfl, p, _, _, _, rfl, rfl, SqL.of hu, atI_nat (j := 3) rfl, _, _, rfl, rfl, .inl (by decide), _, _, rfl, rfl, _, _, rfl, rfl, _, _, rfl, rfl, ⟨by decide, by decide, by omega⟩, .inl ⟨_, rfl, _, _, rfl, rfl, (by show (0 : Int) < 2147483647; decide), ?_⟩⟩
      refine ⟨_, rfl, _, _, rfl, rfl, .inr (by decide), _, rfl, p, _, _, _, rfl, rfl, SqL.of hu, atI_nat (j := 3) rfl, _, _, rfl, rfl, .inl (by decide), _, _, rfl, rfl, _, _, rfl, rfl, ⟨by decide, by decide, by omega⟩, .inl ⟨_, rfl, _, _, rfl, rfl, (by show (0 : Int) < 2147483587; decide), _, _, rfl, rfl, ⟨by decide, by decide⟩, _, rfl, _, _, rfl, rfl, p0, ?_⟩⟩
      have y0 := Int.emod_nonneg ((((m + 15485863 * (c + 1) + 179424697) ^ (5 : Int).toNat % 2147483647) * 48271 + 104723 * (c + 1)) ^ (3 : Int).toNat % 2147483587 / 64) (by omega : many ≠ 0)
      have y1 := Int.emod_lt_of_pos ((((m + 15485863 * (c + 1) + 179424697) ^ (5 : Int).toNat % 2147483647) * 48271 + 104723 * (c + 1)) ^ (3 : Int).toNat % 2147483587 / 64) p0
      show Q (.int ((((m + 15485863 * (c + 1) + 179424697) ^ (5 : Int).toNat % 2147483647) * 48271 + 104723 * (c + 1)) ^ (3 : Int).toNat % 2147483587 / 64 % many)) _
      generalize (((m + 15485863 * (c + 1) + 179424697) ^ (5 : Int).toNat % 2147483647) * 48271 + 104723 * (c + 1)) ^ (3 : Int).toNat % 2147483587 / 64 % many = y at *
      obtain ⟨d, rfl⟩ : ∃ d : Nat, y = d := ⟨y.toNat, by omega⟩
      exact q d _ y1 ⟨a, m, c + 1, b, rfl, m0, m1, by omega, by omega⟩
    refine ⟨_, rfl, p, _, _, _, rfl, rfl, SqL.of ho, at1, b, rfl, ?_⟩
    cases b with
    | false => exact iteF (iteF second)
    | true =>
      refine iteT ⟨_, rfl, p, _, _, _, rfl, rfl, SqL.of ho, at0, _, _, rfl, rfl, _, rfl, ite2 (fun z => ?_) (fun z => second)⟩
      refine ⟨_, rfl, p, _, _, _, rfl, rfl, SqL.of ho, at0, .inl ⟨_, rfl, _, rfl, _, _, rfl, rfl, p0, ?_⟩⟩
      refine ⟨_, rfl, p, _, _, _, rfl, rfl, SqL.of ho, at0, _, rfl, _, _, rfl, rfl, lm, _, rfl, p, _, 0, 0, rfl, rfl, ho, rfl, _, rfl, ?_⟩
      have y0 := Int.emod_nonneg a (by omega : many ≠ 0)
      have y1 := Int.emod_lt_of_pos a p0
      show Q (.int (a % many)) _
      generalize a % many = y at *
      obtain ⟨d, rfl⟩ : ∃ d : Nat, y = d := ⟨y.toNat, by omega⟩
      exact q d _ y1 ⟨a / many, m, c, true, rfl, m0, m1, c0, by omega⟩
def spWord : Sp := fun vs H Q _ => ∃ (p : Addr) (c : Nat), vs = [.ref p] ∧ BoxAt H p c ∧ c < 900000000 ∧ ∀ w H', Kp p H H' → BoxAt H' p (c + 1) → okW w → Q (.str (S w)) H'
theorem ok_law_word (T : Txt K mg) : FnOk P w K mg base CX0 2 T.f_law_word T.fd_law_word ["box"] spWord := by
  refine T.F_law_word.ok sc_law_word (fun vs H Q E h => ?_) (fun cdv A outer s H vs Q E hr h => ?_)
  · obtain ⟨p, c, rfl, _⟩ := h; rfl
  · obtain ⟨p, c, rfl, hb, hc, kQ⟩ := h
    refine ⟨_, (pss_one (ps_ret (pe_ix ix_list (pe_lst (pa_cons pe_str (pa_cons pe_str (pa_cons pe_str (pa_cons pe_str (pa_cons pe_str (pa_cons pe_str (pa_cons pe_str (pa_cons pe_str pa_nil))))))))) (pe_call (ok_law_take T) (hr.mono (by decide)) rfl T.g_law_take T.F_law_take.kp T.b_law_take .nil pass0 (pa_cons (pv 0) (pa_cons pe_int pa_nil))) (fun _ _ => rfl)))), ?_⟩
    have v0 := Vw.box hb
    try dsimp only [L2.gName, L2.tSeq, L2.tAsg, L2.tRet, L2.tNext, L2.tPar3, L2.tPar]
    refine EvB.at_ (K := K) (p := p) (G := WordD) ((evB_menuA rfl (evBA_cons (evB_wordC (by decide +kernel)) (evBA_cons (evB_wordC (by decide +kernel)) (evBA_cons (evB_wordC (by decide +kernel)) (evBA_cons (evB_wordC (by decide +kernel)) (evBA_cons (evB_wordC (by decide +kernel)) (evBA_cons (evB_wordC (by decide +kernel)) (evBA_cons (evB_wordC (by decide +kernel)) (evBA_cons (evB_wordC (by decide +kernel)) evBA_nil)))))))))) v0 hb (by omega) fun x d H1 k1 b1 v1 g1 d1 => ?_
    obtain ⟨w, rfl, ow⟩ := g1
    cases d1
    exact kQ w H1 k1 b1 ow
def spGoal : Sp := fun vs H Q _ => ∃ (p : Addr) (c s n : Nat) (way : Int), vs = [.ref p, .int (s : Nat), .int (n : Nat), .int way] ∧ BoxAt H p c ∧ c < 900000000 ∧ s < n ∧ n ≤ 40 ∧ ∀ (g : Nat) H', Kp p H H' → BoxAt H' p (c + 1) → g < n → Q (.int (g : Nat)) H'
theorem ok_law_goal (T : Txt K mg) : FnOk P w K mg base CX0 2 T.f_law_goal T.fd_law_goal ["box", "state", "states", "way"] spGoal := by
  refine T.F_law_goal.ok sc_law_goal (fun vs H Q E h => ?_) (fun cdv A outer s0 H vs Q E hr h => ?_)
  · obtain ⟨p, c, s, n, way, rfl, _⟩ := h; rfl
  · obtain ⟨p, c, s, n, way, rfl, hb, hc, hs, hn, kQ⟩ := h
    refine ⟨_, (pss_cons (ps_set (i := 4) sc_law_goal.nd rfl (Or.inl rfl) (pe_call (ok_law_take T) (hr.mono (by decide)) rfl T.g_law_take T.F_law_take.kp T.b_law_take .nil pass0 (pa_cons (pv 0) (pa_cons (pv 2) pa_nil))))
      (pss_cons (ps_if (pt_cmpR op_eq (pv 3) pe_int (nomark _)) (pss_one (ps_ret (pe_callB (call_min2 rfl) (by rfl) T.z_min (by decide +kernel) (pa_cons (pv 4) (pa_cons (pv 1) pa_nil))))) pss_nil)
      (pss_cons (ps_if (PW.pt (pw_and (pt_cmpR op_eq (pv 3) pe_int (nomark _)) (pw_and1 (pt_cmpR op_eq (pv 1) (pe_op op_sub (pv 2) pe_int) (nomark _))))) (pss_one (ps_ret (pv 1))) pss_nil)
      (pss_one (ps_ret (pe_ifExp (pt_cmpR op_eq (pv 3) pe_int (nomark _)) (pe_callB (call_min2 rfl) (by rfl) T.z_min (by decide +kernel) (pa_cons (pv 4) (pa_cons (pe_callB (call_max2 rfl) (by rfl) T.z_max (by decide +kernel) (pa_cons pe_int (pa_cons (pe_op op_sub (pv 2) pe_int) pa_nil))) pa_nil))) (pv 4))))))), ?_⟩
    refine ⟨_, rfl, _, rfl, p, c, _, rfl, hb, by omega, by omega, by omega, fun d o hd ho => ?_⟩
    try dsimp only [L2.gName]
    have hd : d < n := by omega
    have fin : ∀ g : Nat, g < n → Q (.int (g : Nat)) (upd H p o) := fun g hg => kQ g _ ((Kp.refl p H).upd) ho.at hg
    refine ⟨_, rfl, rfl, _, rfl, ite2 (fun _ => ?_) (fun _ => ?_)⟩
    · refine ⟨_, rfl, _, rfl, _, _, rfl, ?_⟩
      rw [show (if (s : Int) < (d : Int) then (s : Int) else (d : Int)) = ((if s < d then s else d : Nat) : Int) by split <;> split <;> omega]
      exact fin _ (by split <;> omega)
    have last : tRet (tIf (tTest (tOp rEq (tVar 3) (tC (V.int 3)))) (tCB (fun xs H Q => ∃ i j, xs = [V.int i, V.int j] ∧ Q (V.int (if j < i then j else i)) H)
            (tCons (tVar 4) (tCons (tCB (fun xs H Q => ∃ i j, xs = [V.int i, V.int j] ∧ Q (V.int (if j > i then j else i)) H) (tCons (tC (V.int 0)) (tCons (tOp (rI0 fun i j => V.int (i - j)) (tVar 2) (tC (V.int 2))) tNil))) tNil))) (tVar 4))
        { nx := fun x H' => Q V.non H', rt := Q } (List.set (L2.start N_law_goal [V.ref p, V.int s, V.int n, V.int way]) 4 (some (V.int d))) (upd H p o) := by
      refine ⟨_, rfl, rfl, _, rfl, ite2 (fun _ => ?_) (fun _ => ?_)⟩
      · refine ⟨_, rfl, _, rfl, _, _, rfl, rfl, _, _, rfl, _, _, rfl, ?_⟩
        have e : ∀ m : Int, m = (if (n : Int) - 2 > 0 then (n : Int) - 2 else 0) → (if m < (d : Int) then m else (d : Int)) = ((if n - 2 < d then n - 2 else d : Nat) : Int) := fun m hm => by
          rw [hm]; split <;> split <;> split <;> omega
        rw [e _ rfl]
        exact fin _ (by split <;> omega)
      · exact ⟨_, rfl, fin d hd⟩
    refine ⟨_, rfl, rfl, _, rfl, ite2 (fun _ => ?_) (fun _ => iteF last)⟩
    refine ⟨_, rfl, _, rfl, _, _, rfl, rfl, rfl, _, rfl, ite2 (fun _ => ⟨_, rfl, fin s hs⟩) (fun _ => last)⟩
end
end My

set_option Elab.async false
set_option linter.all false
set_option maxRecDepth 100000
set_option maxHeartbeats 8000000
namespace My
open PySem PySem.Spec PyProof.Rows L2
/-- the parts of a decoder at r, beside the box at p -/
def PartsAt (K : PySem.W.Frag) (p : Addr) (H : Hp) (r : Addr) (D : Dcd) : Prop := ∃ Sa Ea, SqL K (wo H p) r [.int (D.sg : Nat), .ref Sa, .ref Ea] ∧ Dg K (wo H p) false (.ref Sa) D.stL ∧ Dg K (wo H p) false (.ref Ea) D.enL ∧ D.ok
theorem PartsAt.kp {K : PySem.W.Frag} {p r : Addr} {H H' : Hp} {D : Dcd} (h : PartsAt K p H r D) (k : Kp p H H') : PartsAt K p H' r D := by
  obtain ⟨Sa, Ea, h1, h2, h3, ok⟩ := h
  exact ⟨Sa, Ea, h1.ext k.wo, h2.ext k.wo, h3.ext k.wo, ok⟩
/-- [signs, steps, ends], handed back -/
theorem parts_ret {K : PySem.W.Frag} {p : Addr} {H : Hp} {c sg n : Nat} {Sa Ea : Addr} {es fs : List PyData} (hb : BoxAt H p c) (h1 : Dg K (woL [p] H) false (.ref Sa) (.list es)) (h2 : Dg K (woL [p] H) false (.ref Ea) (.list fs)) (g1 : LN n (RowD sg n) es) (g2 : LN n EndD fs) (s1 : 1 ≤ sg) (s5 : sg ≤ 5) (n1 : 1 ≤ n) (n40 : n ≤ 40)
    {r : Addr} (hr : H r = none) : ∃ D : Dcd, PartsAt K p (L2.upd H r (.lst [.int (sg : Nat), .ref Sa, .ref Ea])) r D ∧ D.sg = sg ∧ D.st.length = n := by
  obtain ⟨D, ok, e1, e2, e3, e4⟩ := dcd_of g1 g2 s1 s5 n1 n40
  have nr : r ≠ p := (hb.ne hr).symm
  have s : Same (wo H p) (wo (L2.upd H r (.lst [.int (sg : Nat), .ref Sa, .ref Ea])) p) := (Kp.of (Same.new (Same.refl _) hr)).wo
  rw [woL_one] at h1 h2
  refine ⟨D, ⟨Sa, Ea, SqL.of (by rw [wo_ne nr, upd_same, e1]), ?_, ?_, ok⟩, e1, e2⟩
  · rw [e3]; exact h1.ext s
  · rw [e4]; exact h2.ext s
theorem cons_at {te : TE} {ta : TA} {σ : L2.St} {H : Hp} {Q : List V → Hp → Prop} (h : te σ H (fun x H1 => ta σ H1 fun xs H2 => Q (x :: xs) H2)) : tCons te ta σ H Q := h
section
variable {P : Program} {w : World} {K : PySem.W.Frag} {mg : Str → Option Value} {base : Heap}
theorem evB_word {p : Addr} {V0 : Hp} {σ : L2.St} {b : Nat} (e : σ[b]? = some (some (.ref p))) : EvB K p V0 (tCall spWord [] E0 (tCons (tVar b) tNil)) σ 1 WordD :=
  fun l H c v hb hB Q q => ⟨_, e, p, c, rfl, hb, by omega, fun w H' k' b' ow => q _ _ H' k' b' ⟨w, rfl, ow⟩ (.str _)⟩
theorem evN_fr {p : Addr} {V0 : Hp} {σ : L2.St} {k : Nat} {te : TE} {a b : Int} (h : EvB K p V0 te σ k (fun d => ∃ i, d = .int i ∧ a ≤ i ∧ i ≤ b)) : EvN p V0 te σ k (fun x => a ≤ x ∧ x ≤ b) := evN_B h fun d z => z
theorem evN_goal {p : Addr} {V0 : Hp} {σ : L2.St} {b i j m s n : Nat} {way : Int} (e : σ[b]? = some (some (.ref p))) (es : σ[i]? = some (some (.int (s : Nat)))) (en : σ[j]? = some (some (.int (n : Nat)))) (ew : σ[m]? = some (some (.int way))) (hs : s < n) (hn : n ≤ 40) :
    EvN p V0 (tCall spGoal [] E0 (tCons (tVar b) (tCons (tVar i) (tCons (tVar j) (tCons (tVar m) tNil))))) σ 1 (fun x => 0 ≤ x ∧ x < (n : Nat)) :=
  fun l H c v hb hB Q q => ⟨_, e, _, es, _, en, _, ew, p, c, s, n, way, rfl, hb, by omega, hs, hn, fun g H' k' b' hg => q _ H' k' b' ⟨by omega, by omega⟩⟩
theorem set_self {α : Type} : ∀ {l : List α} {i : Nat} {x : α}, l[i]? = some x → l.set i x = l
  | [], _, _, h => by cases h
  | a :: l, 0, x, h => by cases h; rfl
  | a :: l, i + 1, x, h => by rw [List.set_cons_succ, set_self (l := l) h]
/-- a name set anew, or not -/
theorem ifset_at {p : Addr} {l : List Addr} {H : Hp} {tt : TT} {te : TE} {σ : L2.St} {k1 k2 c i : Nat} {G : PyData → Prop} {x : V} {d : PyData} {D : Ends} (ht : EvT p (woL l H) tt σ k1) (ha : EvB K p (woL l H) te σ k2 G) (v : Vw p (woL l H) l H) (b : BoxAt H p c) (hb : c + k1 + k2 ≤ 900000000)
    (e : σ[i]? = some (some x)) (dx : Dg K (woL l H) false x d) (g : G d) (q : ∀ y d' H', Kp p H H' → BoxAt H' p (c + k1 + k2) → Vw p (woL l H') l H' → G d' → Dg K (woL l H') false y d' → D.nx (σ.set i (some y)) H') : tIfS tt (tAsg te (gName i)) tNext D σ H :=
  ht l H c v b (by omega) _ fun t H1 kp1 b1 => by
    cases t with
    | false =>
      refine iteF ?_
      show D.nx σ H1
      rw [← set_self e]
      exact q x d H1 kp1 (b1.mono (by omega)) (v.kp kp1 b1).here g (dx.ext (woL_kp v.pin kp1))
    | true => exact iteT (ha l H1 (c + k1) (v.kp kp1 b1) b1 (by omega) _ fun y d' H2 kp2 b2 g' dd => q y d' H2 (kp1.trans kp2) b2 ((v.kp kp1 b1).kp kp2 b2).here g' dd)
theorem evN_min2 {p : Addr} {V0 : Hp} {σ : L2.St} {k1 k2 : Nat} {ta tb : TE} {a b : Int} (ha : EvN p V0 ta σ k1 (fun x => x = a)) (hb : EvN p V0 tb σ k2 (fun x => x = b)) :
    EvN p V0 (tCB (fun xs H Q => ∃ i j, xs = [V.int i, V.int j] ∧ Q (V.int (if j < i then j else i)) H) (tCons ta (tCons tb tNil))) σ (k1 + k2) (fun x => x = if b < a then b else a) :=
  fun l H c v bx hB Q q => ha l H c v bx (by omega) _ fun i H1 kp1 b1 pi => hb l H1 (c + k1) (v.kp kp1 b1) b1 (by omega) _ fun j H2 kp2 b2 rj =>
    ⟨i, j, rfl, q _ _ (kp1.trans kp2) (by rw [← Nat.add_assoc]; exact b2) (by rw [pi, rj])⟩
/-- a list set anew, or not -/
theorem ifsetF_at {p : Addr} {l : List Addr} {H : Hp} {tt : TT} {te : TE} {σ : L2.St} {k1 k2 c i : Nat} {G : List PyData → Prop} {D : Ends} (Pst : L2.St → Hp → Prop) (ht : EvT p (woL l H) tt σ k1) (ha : EvF K p (woL l H) te σ k2 G) (v : Vw p (woL l H) l H) (b : BoxAt H p c) (hb : c + k1 + k2 ≤ 900000000)
    (qT : ∀ a ds H', Kp p H H' → BoxAt H' p (c + k1 + k2) → Vw p (woL l H) l H' → G ds → a ∉ l → H a = none → LB K (a :: l) a H' ds → Pst (σ.set i (some (.ref a))) H') (qF : ∀ H', Kp p H H' → BoxAt H' p (c + k1 + k2) → Vw p (woL l H) l H' → Pst σ H') (fin : ∀ σ' H', Pst σ' H' → D.nx σ' H') : tIfS tt (tAsg te (gName i)) tNext D σ H :=
  ht l H c v b (by omega) _ fun t H1 kp1 b1 => by
    have nv := v.kp kp1 b1
    cases t with
    | false => exact iteF (fin _ _ (qF H1 kp1 (b1.mono (by omega)) nv))
    | true => exact iteT (ha l H1 (c + k1) nv b1 (by omega) _ fun a ds H2 kp2 b2 g n n' lb => fin _ _ (qT a ds H2 (kp1.trans kp2) b2 (nv.kp kp2 b2) g n (by
        by_cases z : a = p
        · exact absurd (by rw [z]; exact v.pin) n
        · exact kp_none kp1 z n') lb))
theorem evT_in2 {p : Addr} {V0 : Hp} {σ : L2.St} {i : Nat} {x a b : Int} (e : σ[i]? = some (some (.int x))) : EvT p V0 (tTest (tOp (rIn K false) (tVar i) (tLst (tCons (tC (.int a)) (tCons (tC (.int b)) tNil))))) σ 0 :=
  fun l H c v hb hB Q q => ⟨_, e, show 2 ≤ sizeLine by decide, fun r hr => ⟨r, [.int a, .int b], rfl, .inl (SqL.of upd_same), rfl, rfl, _, rfl, q _ _ ((Kp.refl p H).new hr) (hb.new hr)⟩⟩
theorem woL_sub {l l' : List Addr} {H : Hp} (h : ∀ x ∈ l', x ∈ l) : Same (woL l H) (woL l' H) := fun b o e => by
  have n := woL_nin e
  rw [woL_out (fun z => n (h b z))]; exact woL_le e
theorem dgAll_set {H : Hp} {m : Bool} {y : V} {d : PyData} (hy : Dg K H m y d) : ∀ {xs : List V} {ds : List PyData}, DgAll K H m xs ds → ∀ i, DgAll K H m (xs.set i y) (ds.set i d)
  | _, _, .nil, i => .nil
  | _, _, .cons h t, 0 => .cons hy t
  | _, _, .cons h t, i + 1 => .cons h (dgAll_set hy t i)
theorem ok_law_drawn (T : Txt K mg) : FnOk P w K mg base CX0 3 T.f_law_drawn T.fd_law_drawn ["box"] (fun vs H Q _ => ∃ (p : Addr) (c : Nat), vs = [.ref p] ∧ BoxAt H p c ∧ c < 1000000 ∧ ∀ r D H', Kp p H H' → BoxAt H' p (c + 4000) → PartsAt K p H' r D → Q (.ref r) H') := by
  refine T.F_law_drawn.ok sc_law_drawn (fun vs H Q E h => ?_) (fun cdv A outer s H vs Q E hr h => ?_)
  · obtain ⟨p, c, rfl, _⟩ := h; rfl
  · obtain ⟨p, c, rfl, hb, hc, kQ⟩ := h
    refine ⟨_, (pss_cons (ps_par3 (i := 1) (j := 2) (l := 3) (by rfl) sc_law_drawn.nd rfl rfl rfl (by decide) (by decide) (by decide) rfl rfl rfl (pa_cons (pe_op op_add pe_int (pe_call (ok_law_take T) (hr.mono (by decide)) rfl T.g_law_take T.F_law_take.kp T.b_law_take .nil pass0 (pa_cons (pv 0) (pa_cons pe_int pa_nil)))) (pa_cons (pe_ix ix_list (pe_lst (pa_cons pe_int (pa_cons pe_int (pa_cons pe_int (pa_cons pe_int (pa_cons pe_int (pa_cons pe_int (pa_cons pe_int (pa_cons pe_int pa_nil))))))))) (pe_call (ok_law_take T) (hr.mono (by decide)) rfl T.g_law_take T.F_law_take.kp T.b_law_take .nil pass0 (pa_cons (pv 0) (pa_cons pe_int pa_nil))) (fun _ _ => rfl)) (pa_cons (pe_call (ok_law_take T) (hr.mono (by decide)) rfl T.g_law_take T.F_law_take.kp T.b_law_take .nil pass0 (pa_cons (pv 0) (pa_cons pe_int pa_nil))) pa_nil))) (by rfl))
      (pss_cons (ps_par (i := 4) (j := 5) (by rfl) sc_law_drawn.nd rfl rfl (by decide) rfl rfl (pa_cons (pe_lst pa_nil) (pa_cons (pe_lst pa_nil) pa_nil)) (by rfl))
      (pss_cons (ps_for PassesOwn.never rfl (pi_range1 rfl T.z_range (pa_cons (pv 2) pa_nil)) (pg_name (i := 6) sc_law_drawn.nd rfl (Or.inl rfl)) (pss_cons (ps_par (i := 7) (j := 8) (by rfl) sc_law_drawn.nd rfl rfl (by decide) rfl rfl (pa_cons (pe_lst pa_nil) (pa_cons (pe_call (ok_law_take T) (hr.mono (by decide)) rfl T.g_law_take T.F_law_take.kp T.b_law_take .nil pass0 (pa_cons (pv 0) (pa_cons (pv 1) pa_nil))) pa_nil)) (by rfl))
      (pss_cons (ps_for PassesOwn.never rfl (pi_range1 rfl T.z_range (pa_cons (pv 1) pa_nil)) (pg_name (i := 9) sc_law_drawn.nd rfl (Or.inl rfl)) (pss_cons (ps_set (i := 10) sc_law_drawn.nd rfl (Or.inl rfl) (pe_tup (pa_cons (pe_call (ok_law_goal T) (hr.mono (by decide)) rfl T.g_law_goal T.F_law_goal.kp T.b_law_goal .nil pass0 (pa_cons (pv 0) (pa_cons (pv 6) (pa_cons (pv 2) (pa_cons (pv 3) pa_nil))))) (pa_cons (pe_call (ok_law_word T) (hr.mono (by decide)) rfl T.g_law_word T.F_law_word.kp T.b_law_word .nil pass0 (pa_cons (pv 0) pa_nil)) pa_nil))))
      (pss_cons (ps_set (i := 10) sc_law_drawn.nd rfl (Or.inl rfl) (pe_ifExp (pt_cmpR op_eq (pe_call (ok_law_take T) (hr.mono (by decide)) rfl T.g_law_take T.F_law_take.kp T.b_law_take .nil pass0 (pa_cons (pv 0) (pa_cons pe_int pa_nil))) pe_int (nomark _)) pe_non (pv 10)))
      (pss_cons (ps_if (PW.pt (pw_and (pt_cmpR op_eq (pv 3) pe_int (nomark _)) (pw_and1 (pt_cmpR op_eq (pv 9) (pv 8) (nomark _))))) (pss_one (ps_set (i := 10) sc_law_drawn.nd rfl (Or.inl rfl) (pe_tup (pa_cons (pe_callB (call_min2 rfl) (by rfl) T.z_min (by decide +kernel) (pa_cons (pe_op op_add (pv 6) pe_int) (pa_cons (pe_op op_sub (pv 2) pe_int) pa_nil))) (pa_cons (pe_call (ok_law_word T) (hr.mono (by decide)) rfl T.g_law_word T.F_law_word.kp T.b_law_word .nil pass0 (pa_cons (pv 0) pa_nil)) pa_nil))))) pss_nil)
      (pss_one (ps_expr (pe_bm PySem.F.plainAttrs_list PySem.F.slot_list_append PySem.F.type_list_append mt_append (pv 7) (pa_cons (pv 10) pa_nil))))))))
      (pss_cons (ps_expr (pe_bm PySem.F.plainAttrs_list PySem.F.slot_list_append PySem.F.type_list_append mt_append (pv 4) (pa_cons (pv 7) pa_nil)))
      (pss_one (ps_expr (pe_bm PySem.F.plainAttrs_list PySem.F.slot_list_append PySem.F.type_list_append mt_append (pv 5) (pa_cons (pe_ifExp (pt_cmpR op_eq (pe_call (ok_law_take T) (hr.mono (by decide)) rfl T.g_law_take T.F_law_take.kp T.b_law_take .nil pass0 (pa_cons (pv 0) (pa_cons pe_int pa_nil))) pe_int (nomark _)) pe_non (pe_call (ok_law_word T) (hr.mono (by decide)) rfl T.g_law_word T.F_law_word.kp T.b_law_word .nil pass0 (pa_cons (pv 0) pa_nil))) pa_nil))))))))
      (pss_cons (ps_if (pt_cmpR op_in_seq (pv 3) (pe_lst (pa_cons pe_int (pa_cons pe_int pa_nil))) (by rfl)) (pss_one (ps_set (i := 5) sc_law_drawn.nd rfl (Or.inl rfl) (pe_op op_rep (pe_lst (pa_cons pe_non pa_nil)) (pv 2)))) pss_nil)
      (pss_cons (ps_if (pt_cmpR op_in_seq (pv 3) (pe_lst (pa_cons pe_int (pa_cons pe_int pa_nil))) (by rfl)) (pss_one (ps_asg (pe_ifExp (pt_cmpR op_eq (pv 3) pe_int (nomark _)) pe_str pe_non) (pg_sub (pv 5) (pe_op op_sub (pv 2) pe_int) set_list))) pss_nil)
      (pss_one (ps_ret (pe_lst (pa_cons (pv 1) (pa_cons (pv 4) (pa_cons (pv 5) pa_nil))))))))))), ?_⟩
    have v0 := Vw.box hb
    try dsimp only [L2.gName, L2.tSeq, L2.tAsg, L2.tRet, L2.tNext, L2.tPar3, L2.tPar]
    refine cons_at (EvN.at_ ((evN_op (evN_c _) (evN_takeC _ rfl (by decide) (by decide)))) v0 hb (by omega) fun sg H1 k1 b1 v1 g1 => cons_at (EvN.at_ (evN_fr (K := K) (a := 1) (b := 40) (evB_menuA rfl (evBA_cons (evB_I ((evN_c _).mono (by intro x hx; subst hx; constructor <;> omega))) (evBA_cons (evB_I ((evN_c _).mono (by intro x hx; subst hx; constructor <;> omega))) (evBA_cons (evB_I ((evN_c _).mono (by intro x hx; subst hx; constructor <;> omega))) (evBA_cons (evB_I ((evN_c _).mono (by intro x hx; subst hx; constructor <;> omega))) (evBA_cons (evB_I ((evN_c _).mono (by intro x hx; subst hx; constructor <;> omega))) (evBA_cons (evB_I ((evN_c _).mono (by intro x hx; subst hx; constructor <;> omega))) (evBA_cons (evB_I ((evN_c _).mono (by intro x hx; subst hx; constructor <;> omega))) (evBA_cons (evB_I ((evN_c _).mono (by intro x hx; subst hx; constructor <;> omega))) evBA_nil)))))))))) v1 b1 (by omega) fun st H2 k2 b2 v2 g2 => cons_at (EvN.at_ ((evN_takeC _ rfl (by decide) (by decide))) v2 b2 (by omega) fun way H3 k3 b3 v3 g3 => ⟨_, _, _, rfl, ?_⟩)))
    obtain ⟨sg, rfl, sg1, sg5⟩ : ∃ n : Nat, sg = n ∧ 1 ≤ n ∧ n ≤ 5 := by
      obtain ⟨i, j, rfl, h, rfl⟩ := g1
      exact ⟨(1 + j).toNat, by omega, by omega, by omega⟩
    obtain ⟨st, rfl, st1, st40⟩ : ∃ n : Nat, st = n ∧ 1 ≤ n ∧ n ≤ 40 := ⟨st.toNat, by omega, by omega, by omega⟩
    try dsimp only [L2.gName, L2.tSeq, L2.tAsg, L2.tRet, L2.tNext, L2.tPar3, L2.tPar]
    refine cons_at (EvF.at_ (K := K) (p := p) (G := LN 0 (RowD sg st)) ((evF_lstA evBA_nil)) v3 b3 (by omega) fun S ds H4 k4 b4 v4 g4 nS fS lb4 => cons_at (EvF.at_ (K := K) (p := p) (G := LN 0 EndD) ((evF_lstA evBA_nil)) v4 b4 (by omega) fun Z dz H5 k5 b5 v5 g5 nZ fZ lb5 => ⟨_, _, rfl, ?_⟩))
    have nSp : S ≠ p := fun z => nS (by rw [z]; simp)
    have nZp : Z ≠ p := fun z => nZ (by rw [z]; simp)
    have nZS : Z ≠ S := fun z => nZ (by rw [z]; simp)
    have fS : H S = none := kp_none ((k1.trans k2).trans k3) nSp fS
    have fZH : H Z = none := kp_none (((k1.trans k2).trans k3).trans k4) nZp fZ
    have k5' := (((k1.trans k2).trans k3).trans k4).trans k5
    try dsimp only [L2.gName, L2.tSeq, L2.tAsg, L2.tRet, L2.tNext, L2.tPar3, L2.tPar]
    refine ⟨_, rfl, (st : Int), rfl, by omega, by omega, ?_⟩
    rw [Int.toNat_natCast]
    refine for_range (lo := 0) (n := st) (fun i σ H' => ∃ x6 x7 x8 x9 x10, σ = [some (.ref p), some (.int (sg : Nat)), some (.int (st : Nat)), some (.int way), some (.ref S), some (.ref Z), x6, x7, x8, x9, x10] ∧ Vw p (woL [Z, S, p] H') [Z, S, p] H' ∧ Kp p H H' ∧ BoxAt H' p (c + 10 + 40 * i) ∧ ∃ es fs, LB K [Z, S, p] S H' es ∧ LN i (RowD sg st) es ∧ LB K [Z, S, p] Z H' fs ∧ LN i EndD fs)
      ⟨_, _, _, _, _, rfl, v5, k5', b5.mono (by omega), ds, dz, lb4.fresh v4.pin nSp k5 fZ, g4, lb5, g5⟩ ?_ ?_
    · rintro i σ H6 hi ⟨x6, x7, x8, x9, x10, rfl, v6, k6, b6, es, fs, lbS, gS, lbZ, gZ⟩
      try dsimp only [L2.gName, L2.tSeq, L2.tAsg, L2.tRet, L2.tNext, L2.tPar3, L2.tPar]
      refine cons_at (EvF.at_ (K := K) (p := p) (G := LN 0 (EntD st)) ((evF_lstA evBA_nil)) v6 b6 (by omega) fun R dr H7 k7 b7 v7 g7 nR fR lb7 => cons_at (EvN.at_ ((evN_take rfl (evN_var rfl) (by omega) (by omega))) v7 b7 (by omega) fun on H8 k8 b8 v8 g8 => ⟨_, _, rfl, ?_⟩))
      have nRp : R ≠ p := fun z => nR (by rw [z]; simp)
      have nRS : R ≠ S := fun z => nR (by rw [z]; simp)
      have nRZ : R ≠ Z := fun z => nR (by rw [z]; simp)
      have fRH : H R = none := kp_none k6 nRp fR
      try dsimp only [L2.gName, L2.tSeq, L2.tAsg, L2.tRet, L2.tNext, L2.tPar3, L2.tPar]
      refine ⟨_, rfl, (sg : Int), rfl, by omega, by omega, ?_⟩
      rw [Int.toNat_natCast]
      refine for_range (lo := 0) (n := sg) (fun j σ H' => ∃ x9 x10, σ = [some (.ref p), some (.int (sg : Nat)), some (.int (st : Nat)), some (.int way), some (.ref S), some (.ref Z), some (.int ((0 : Int) + (i : Nat))), some (.ref R), some (.int on), x9, x10] ∧ Vw p (woL [R, Z, S, p] H') [R, Z, S, p] H' ∧ Kp p H H' ∧ BoxAt H' p (c + 10 + 40 * i + 2 + 5 * j) ∧ LB K [R, Z, S, p] S H' es ∧ LB K [R, Z, S, p] Z H' fs ∧ ∃ rs, LB K [R, Z, S, p] R H' rs ∧ LN j (EntD st) rs)
        ⟨_, _, rfl, v8, (k6.trans k7).trans k8, b8.mono (by omega), (lbS.fresh v6.pin nSp k7 fR).kp v7.pin nSp k8, (lbZ.fresh v6.pin nZp k7 fR).kp v7.pin nZp k8, dr, lb7.kp v7.pin nRp k8, g7⟩ ?_ ?_
      · rintro j σ H9 hj ⟨x9, x10, rfl, v9, k9, b9, lS9, lZ9, rs, lR9, g9⟩
        try dsimp only [L2.gName, L2.tSeq, L2.tAsg, L2.tRet, L2.tNext, L2.tPar3, L2.tPar]
        refine EvB.at_ (K := K) (p := p) (G := EntD st) (evB_entT (evN_goal (s := i) (n := st) (way := way) rfl (by rw [Int.zero_add]; rfl) rfl rfl hi st40) (evB_word rfl)) v9 b9 (by omega) fun o1 d1 H10 k10 b10 v10 g10 do1 => ?_
        try dsimp only [L2.gName, L2.tSeq, L2.tAsg, L2.tRet, L2.tNext, L2.tPar3, L2.tPar]
        refine EvB.at_ (K := K) (p := p) (G := EntD st) (((evB_if (evT_eq (evN_takeC _ rfl (by decide) (by decide)) (evN_c _)) evB_entN ((evB_var rfl (by assumption)).mono (by intro d e; subst e; assumption)))).mono fun d z => z.elim id id) v10 b10 (by omega) fun o2 d2 H11 k11 b11 v11 g11 do2 => ?_
        try dsimp only [L2.gName, L2.tSeq, L2.tAsg, L2.tRet, L2.tNext, L2.tPar3, L2.tPar]
        refine ifset_at (K := K) (x := o2) (d := d2) (evT_and (evT_eq (evN_var rfl) (evN_c _)) (evT_eq (evN_var rfl) (evN_var rfl))) (evB_entT (n := st) ((evN_min2 (evN_opV (evN_var rfl) (evN_c _)) (evN_opV (evN_var rfl) (evN_c _))).mono (by intro x hx; subst hx; split <;> constructor <;> omega)) (evB_word rfl)) v11 b11 (by omega) rfl do2 g11 fun o3 d3 H12 k12 b12 v12 g12 do3 => ?_
        have kk := (k10.trans k11).trans k12
        have lR12 := lR9.kp v9.pin nRp kk
        try dsimp only [L2.gName, L2.tSeq, L2.tAsg, L2.tRet, L2.tNext, L2.tPar3, L2.tPar]
        refine app_at (G := EntD st) (((evB_var rfl (by assumption)).mono (by intro d e; subst e; assumption))) v12 b12 (by omega) rfl lR12 (by simp) nRp (by rw [g9.1]; omega) fun d H13 g13 lb13 v13 b13 s13 tr fr => ?_
        exact ⟨_, _, rfl, v13, fr _ fRH (k9.trans kk), b13.mono (by omega), tr _ _ nSp nRS.symm (lS9.kp v9.pin nSp kk), tr _ _ nZp nRZ.symm (lZ9.kp v9.pin nZp kk), _, lb13, g9.snoc g13 rfl⟩
      · rintro σ H9 ⟨x9, x10, rfl, v9, k9, b9, lS9, lZ9, rs, lR9, g9⟩
        try dsimp only [L2.gName, L2.tSeq, L2.tAsg, L2.tRet, L2.tNext, L2.tPar3, L2.tPar]
        have rR := rowD_of g9
        have laR := (lR9.done nR).dg
        have v9' := (v9.drop (by simp)).here
        refine app_at (G := RowD sg st) (((evB_var rfl (by assumption)).mono (by intro d e; subst e; assumption))) v9' b9 (by omega) rfl lS9.less (by simp) nSp (by rw [gS.1]; omega) fun d H10 g10 lb10 v10 b10 s10 tr fr => ?_
        have lZ10 := tr Z fs nZp nZS lZ9.less
        try dsimp only [L2.gName, L2.tSeq, L2.tAsg, L2.tRet, L2.tNext, L2.tPar3, L2.tPar]
        refine app_at (G := EndD) ((evB_if (evT_eq (evN_takeC _ rfl (by decide) (by decide)) (evN_c _)) evB_endN (evB_endW (evB_word rfl))).mono fun d z => z.elim id id) v10 b10 (by omega) rfl lZ10 (by simp) nZp (by rw [gZ.1]; omega) fun d2 H11 g11 lb11 v11 b11 s11 tr2 fr2 => ?_
        exact ⟨_, _, _, _, _, rfl, v11, fr2 _ fZH (fr _ fS k9), b11.mono (by omega), _, _, tr2 _ _ nSp nZS.symm lb10, gS.snoc g10 rfl, lb11, gZ.snoc g11 rfl⟩
    · rintro σ H6 ⟨x6, x7, x8, x9, x10, rfl, v6, k6, b6, es, fs, lbS, gS, lbZ, gZ⟩
      try dsimp only [L2.gName, L2.tSeq, L2.tAsg, L2.tRet, L2.tNext, L2.tPar3, L2.tPar]
      refine ifsetF_at (K := K) (p := p) (G := LN (1 * st) EndD) (fun σ' H' => ∃ Z fs x6 x7 x8 x9 x10, σ' = [some (.ref p), some (.int (sg : Nat)), some (.int (st : Nat)), some (.int way), some (.ref S), some (.ref Z), x6, x7, x8, x9, x10] ∧ Vw p (woL [Z, S, p] H') [Z, S, p] H' ∧ Kp p H H' ∧ BoxAt H' p (c + 3000) ∧ LB K [Z, S, p] S H' es ∧ LB K [Z, S, p] Z H' fs ∧ LN st EndD fs ∧ Z ∉ [S, p] ∧ H Z = none)
        (evT_in2 rfl) (evF_repA (n1 := 1) (n2 := st) ((evL_F (evF_lstA (evBA_cons evB_endN evBA_nil)))) (evN_var rfl) (by omega) (by omega)) v6 b6 (by omega) (fun a da H7 k7 b7 v7 g7 na fa lb7 => ?_) (fun H7 k7 b7 v7 => ⟨_, _, _, _, _, _, _, rfl, v7.here, k6.trans k7, b7.mono (by omega), lbS.kp v6.pin nSp k7, lbZ.kp v6.pin nZp k7, gZ, nZ, fZH⟩) ?_
      · have nap : a ≠ p := fun z => na (by rw [z]; simp)
        have naS : a ∉ [S, p] := fun z => na (List.mem_cons_of_mem _ z)
        have sub : ∀ x ∈ [a, S, p], x ∈ [a, Z, S, p] := fun x h => by
          simp only [List.mem_cons] at h ⊢
          rcases h with h | h | h | h
          · exact .inl h
          · exact .inr (.inr (.inl h))
          · exact .inr (.inr (.inr (.inl h)))
          · exact .inr (.inr (.inr (.inr h)))
        obtain ⟨acc, ea, da7⟩ := id lb7
        obtain ⟨accS, eS, dS⟩ := lbS.fresh v6.pin nSp k7 fa
        refine ⟨a, da, _, _, _, _, _, rfl, ⟨by simp, fun x hx => ?_, Same.refl _⟩, k6.trans k7, b7.mono (by omega), ⟨accS, eS, dS.ext (woL_sub sub)⟩, ⟨acc, ea, da7.ext (woL_sub sub)⟩, by rw [Nat.one_mul] at g7; exact g7, naS, kp_none k6 nap fa⟩
        rcases List.mem_cons.mp hx with z | z
        · rw [z, ea]; exact fun z => by cases z
        · exact v7.al x (List.mem_cons_of_mem _ z)
      rintro σ' H7 ⟨Z, fs, x6, x7, x8, x9, x10, rfl, v7, k7, b7, lS7, lZ7, g7, nZ, fZ⟩
      have nZp : Z ≠ p := fun z => nZ (by rw [z]; simp)
      have nZS : Z ≠ S := fun z => nZ (by rw [z]; simp)
      have fin : ∀ fs' H', Kp p H H' → BoxAt H' p (c + 3005) → LB K [Z, S, p] S H' es → LB K [Z, S, p] Z H' fs' → LN st EndD fs' →
          tRet (tLst (tCons (tVar 1) (tCons (tVar 4) (tCons (tVar 5) tNil)))) { nx := fun x H' => Q V.non H', rt := Q } [some (.ref p), some (.int (sg : Nat)), some (.int (st : Nat)), some (.int way), some (.ref S), some (.ref Z), x6, x7, x8, x9, x10] H' := fun fs' H' k' b' lS lZ g' => by
        refine ⟨_, rfl, _, rfl, _, rfl, (by show 3 ≤ sizeLine; decide), fun r hr0 => ?_⟩
        obtain ⟨D, hD, e1, e2⟩ := parts_ret b' (lS.less.done nS).dg ((lZ.done nZ).ext woL_more).dg gS g' (by omega) (by omega) (by omega) (by omega) hr0
        exact kQ r D _ (k'.new hr0) ((b'.new hr0).mono (by omega)) hD
      try dsimp only [L2.gName, L2.tSeq, L2.tAsg, L2.tRet, L2.tNext, L2.tPar3, L2.tPar]
      refine evT_in2 (K := K) (p := p) (V0 := woL [Z, S, p] H7) rfl [Z, S, p] H7 _ v7 b7 (by omega) _ fun t H8 k8 b8 => ?_
      have lS8 := lS7.kp v7.pin nSp k8
      have lZ8 := lZ7.kp v7.pin nZp k8
      cases t with
      | false => exact iteF (fin fs H8 (k7.trans k8) (b8.mono (by omega)) lS8 lZ8 g7)
      | true =>
        have v8 := (v7.kp k8 b8).here
        refine iteT (EvB.at_ (K := K) (p := p) (G := EndD) ((evB_if (evT_eq (evN_var rfl) (evN_c _)) (evB_endW (evB_wordC (by decide +kernel))) evB_endN).mono fun d z => z.elim id id) v8 b8 (by omega) fun y d H9 k9 b9 v9 g9 dy => ?_)
        have lS9 := lS8.kp v8.pin nSp k9
        obtain ⟨acc, eZ, dZ⟩ := lZ8.kp v8.pin nZp k9
        have la := dZ.len
        refine ⟨_, rfl, _, rfl, _, _, rfl, rfl, Z, acc, _, st - 1, rfl, rfl, eZ, ?_, ?_⟩
        · unfold ixN
          rw [la, g7.1, if_pos (by omega), if_pos (by omega)]
          congr 1
          omega
        have gs : LN st EndD (fs.set (st - 1) d) := ⟨by rw [List.length_set, g7.1], fun x hx => (List.mem_or_eq_of_mem_set hx).elim (g7.2 x) fun e => by rw [e]; exact g9⟩
        exact fin _ _ (((k7.trans k8).trans k9).free fZ) ((b9.other nZp.symm).mono (by omega)) (lS9.upd (by simp) nZS.symm) ⟨_, upd_same, by rw [woL_upd (by simp)]; exact dgAll_set dy dZ _⟩ gs
end
end My

set_option Elab.async false
set_option linter.all false
set_option maxRecDepth 100000
set_option maxHeartbeats 8000000
namespace My
open PySem PySem.Spec PyProof.Rows L2
/-- a decoder as the law has it: signs, steps, ends -/
def LPl (K : PySem.W.Frag) (H : Hp) (r : Addr) (D : Dcd) : Prop := ∃ Sa Ea, SqL K H r [.int (D.sg : Nat), .ref Sa, .ref Ea] ∧ Dg K H false (.ref Sa) D.stL ∧ Dg K H false (.ref Ea) D.enL ∧ D.ok
theorem LPl.ext {K : PySem.W.Frag} {H H' : Hp} {r : Addr} {D : Dcd} (h : LPl K H r D) (s : Same H H') : LPl K H' r D := by
  obtain ⟨Sa, Ea, h1, h2, h3, ok⟩ := h
  exact ⟨Sa, Ea, h1.ext s, h2.ext s, h3.ext s, ok⟩
theorem PartsAt.lp {K : PySem.W.Frag} {p r : Addr} {H : Hp} {D : Dcd} (h : PartsAt K p H r D) : LPl K H r D := LPl.ext (H := wo H p) h (wo_same H p)
theorem dgL_row {K : PySem.W.Frag} {H : Hp} {Sa : Addr} {D : Dcd} (ok : D.ok) (h : Dg K H false (.ref Sa) D.stL) {s : Nat} (hs : s < D.st.length) : ∃ xs r zs, SqL K H Sa xs ∧ xs[s]? = some (.ref r) ∧ SqL K H r zs ∧ zs.length = D.sg ∧
    ∀ a, a < D.sg → ∃ e, zs[a]? = some e ∧ Dg K H false e (enD (D.at s a)) := by
  obtain ⟨a, xs, e, hx, _, ha⟩ := h.lst_of
  injection e with e
  subst e
  obtain ⟨x, d, ex, ed, dx⟩ := ha.nth (i := s) (by rw [List.length_map]; exact hs)
  rw [List.getElem?_map, List.getElem?_eq_getElem hs] at ed
  have ed := Option.some.inj ed
  subst ed
  obtain ⟨r, zs, rfl, hz, _, hzs⟩ := dx.lst_of
  have lr := (ok.rows _ (List.getElem_mem hs)).1
  refine ⟨xs, r, zs, hx, ex, hz, by have := hzs.len; rw [List.length_map] at this; omega, fun a ha => ?_⟩
  obtain ⟨y, d, ey, ed, dy⟩ := hzs.nth (i := a) (by rw [List.length_map]; omega)
  rw [List.getElem?_map, List.getElem?_eq_getElem (show a < D.st[s].length by omega)] at ed
  have ed := Option.some.inj ed
  refine ⟨y, ey, ?_⟩
  have : D.at s a = D.st[s][a]'(by omega) := by
    unfold Dcd.at
    rw [List.getD_eq_getElem?_getD, List.getD_eq_getElem?_getD, List.getElem?_eq_getElem hs]
    show (D.st[s])[a]?.getD none = _
    rw [List.getElem?_eq_getElem (show a < D.st[s].length by omega)]; rfl
  rw [this, ed]; exact dy
theorem dgL_end {K : PySem.W.Frag} {H : Hp} {Ea : Addr} {D : Dcd} (ok : D.ok) (h : Dg K H false (.ref Ea) D.enL) {s : Nat} (hs : s < D.st.length) : ∃ xs e, SqL K H Ea xs ∧ xs[s]? = some e ∧ Dg K H false e (wdD (D.en.getD s none)) := by
  obtain ⟨a, xs, e, hx, _, ha⟩ := h.lst_of
  injection e with e
  subst e
  have hs' : s < D.en.length := by rw [ok.ends]; exact hs
  obtain ⟨x, d, ex, ed, dx⟩ := ha.nth (i := s) (by rw [List.length_map]; exact hs')
  rw [List.getElem?_map, List.getElem?_eq_getElem hs'] at ed
  have ed := Option.some.inj ed
  subst ed
  exact ⟨xs, x, hx, ex, by rw [List.getD_eq_getElem?_getD, List.getElem?_eq_getElem hs']; exact dx⟩
theorem ln_dg {K : PySem.W.Frag} {H : Hp} {m : Bool} {a : Addr} {l : List Nat} (h : SqT K H a (nmV l)) : Dg K H m (.ref a) (lnD l) := by
  refine .tup h ?_
  clear h
  induction l with
  | nil => exact .nil
  | cons b l ih => exact .cons (.int _) ih
theorem LPl.one {K : PySem.W.Frag} {H : Hp} {r : Addr} {D : Dcd} (h : LPl K H r D) : ∃ xs Sa, SqL K H r xs ∧ atI xs 1 = some (.ref Sa) ∧ Dg K H false (.ref Sa) D.stL := by
  obtain ⟨Sa, Ea, h1, h2, h3, ok⟩ := h
  exact ⟨_, Sa, h1, atI_nat (j := 1) rfl, h2⟩
theorem LPl.two {K : PySem.W.Frag} {H : Hp} {r : Addr} {D : Dcd} (h : LPl K H r D) : ∃ xs Ea, SqL K H r xs ∧ atI xs 2 = some (.ref Ea) ∧ Dg K H false (.ref Ea) D.enL := by
  obtain ⟨Sa, Ea, h1, h2, h3, ok⟩ := h
  exact ⟨_, Ea, h1, atI_nat (j := 2) rfl, h3⟩
theorem LPl.zero {K : PySem.W.Frag} {H : Hp} {r : Addr} {D : Dcd} (h : LPl K H r D) : ∃ xs, SqL K H r xs ∧ atI xs 0 = some (.int (D.sg : Nat)) := by
  obtain ⟨Sa, Ea, h1, h2, h3, ok⟩ := h
  exact ⟨_, h1, atI_nat (j := 0) rfl⟩
theorem LPl.ok {K : PySem.W.Frag} {H : Hp} {r : Addr} {D : Dcd} (h : LPl K H r D) : D.ok := by
  obtain ⟨Sa, Ea, h1, h2, h3, ok⟩ := h
  exact ok
/-- what a run gives -/
def RunV (H : Hp) (v : V) : Option (Nat × List Nat) → Prop
  | none => v = .non
  | some (s, ws) => ∃ q, v = .ref q ∧ H q = some (.lst [.int (s : Nat), .str (S ws)])
section
variable {P : Program} {w : World} {K : PySem.W.Frag} {mg : Str → Option Value} {base : Heap}
def spRun (K : PySem.W.Frag) : Sp := fun vs H Q _ => ∃ r a D l, vs = [.ref r, .ref a] ∧ LPl K H r D ∧ SqT K H a (nmV l) ∧ (∀ b ∈ l, b < D.sg) ∧ l.length ≤ 1000 ∧ ∀ v H', Same H H' → RunV H' v (D.go 0 l) → (∀ s ws, D.go 0 l = some (s, ws) → s < D.st.length ∧ ws.length ≤ 3000) → Q v H'
theorem ok_law_run (T : Txt K mg) : FnOk P w K mg base CX0 1 T.f_law_run T.fd_law_run ["plain", "line"] (spRun K) := by
  refine T.F_law_run.ok sc_law_run (fun vs H Q E h => ?_) (fun cdv A outer s0 H vs Q E hr h => ?_)
  · obtain ⟨r, a, D, l, rfl, _⟩ := h; rfl
  · obtain ⟨r, a, D, l, rfl, lp, ha, ol, ll, kQ⟩ := h
    refine ⟨_, (pss_cons (ps_asg (pe_tup (pa_cons pe_int (pa_cons pe_str pa_nil))) (pg_tup rfl (pgs_cons (pg_name (i := 2) sc_law_run.nd rfl (Or.inl rfl)) (pgs_cons (pg_name (i := 3) sc_law_run.nd rfl (Or.inl rfl)) pgs_nil))))
      (pss_cons (ps_for PassesOwn.never rfl (pi_tup (pv 1)) (pg_name (i := 4) sc_law_run.nd rfl (Or.inl rfl)) (pss_cons (ps_set (i := 5) sc_law_run.nd rfl (Or.inl rfl) (pe_ix ix_list (pe_ix ix_list (pe_ix ix_list (pv 0) pe_int (fun _ _ => rfl)) (pv 2) (fun _ _ => rfl)) (pv 4) (fun _ _ => rfl)))
      (pss_cons (ps_if (pt_cmp (pc_isN (pv 5))) (pss_one (ps_ret pe_non)) pss_nil)
      (pss_one (ps_par (i := 2) (j := 3) (by rfl) sc_law_run.nd rfl rfl (by decide) rfl rfl (pa_cons (pe_ix ix_tup (pv 5) pe_int (fun _ _ => rfl)) (pa_cons (pe_op op_add_str (pv 3) (pe_ix ix_tup (pv 5) pe_int (fun _ _ => rfl))) pa_nil)) (by rfl))))))
      (pss_one (ps_ret (pe_lst (pa_cons (pv 2) (pa_cons (pv 3) pa_nil))))))), ?_⟩
    have ok := lp.ok
    refine ⟨by decide, fun t ht => ?_⟩
    have s1 : Same H (upd H t (.tup [.int 0, .str (Str.ofString "")])) := Same.new (Same.refl _) ht
    have et : (upd H t (.tup [.int 0, .str (Str.ofString "")])) t = some (.tup [.int 0, .str (Str.ofString "")]) := upd_same
    generalize upd H t (.tup [.int 0, .str (Str.ofString "")]) = H1 at s1 et ⊢
    refine ⟨t, _, rfl, .inl (.inl et), rfl, _, _, rfl, _, _, rfl, rfl, ?_⟩
    try dsimp only [L2.gName, L2.tSeq, L2.tAsg]
    refine ⟨_, rfl, a, rfl, ⟨_, ha.ext s1⟩, for_tup (K := K) (a := a) (xs := nmV l) (fun i σ H' => ∃ (s : Nat) (ws : List Nat) (x4 x5 : Option V), σ = [some (.ref r), some (.ref a), some (.int (s : Nat)), some (.str (S ws)), x4, x5] ∧ Same H H' ∧ D.go 0 (l.take i) = some (s, ws) ∧ ws.length ≤ 3 * i ∧ s < D.st.length)
      ⟨0, [], _, _, rfl, s1, rfl, Nat.le_refl _, ok.n1⟩ (fun i σ H' _ ⟨_, _, _, _, _, s', _⟩ => ha.ext s') ?_ ?_⟩
    · rintro i x σ H' hxi ⟨s, ws, x4, x5, rfl, s', hgo, hle, hst⟩
      obtain ⟨b, hb, rfl⟩ := nm_at hxi
      have hbl := ol b (List.mem_of_getElem? hb)
      obtain ⟨xs, Sa, hr1, hr2, hSa⟩ := (lp.ext s').one
      obtain ⟨rows, rr, zs, hw1, hw2, hz, lz, hent⟩ := dgL_row ok hSa hst
      obtain ⟨ev, he1, he2⟩ := hent b hbl
      have step := D.go_snoc (l.take i) 0 b
      rw [← take_snoc hb, hgo] at step
      have step : D.go 0 (l.take (i + 1)) = (D.at s b).map fun (q : Nat × List Nat) => (q.1, ws ++ q.2) := step
      have oe : okE D.st.length (D.at s b) := ok.at
      have hi : i < l.length := (List.getElem?_eq_some_iff.mp hb).1
      try dsimp only [L2.gName, L2.tSeq, L2.tAsg]
      refine ⟨_, rfl, r, _, _, _, rfl, rfl, hr1, hr2, _, rfl, Sa, _, _, _, rfl, rfl, hw1, atI_nat hw2, _, rfl, rr, _, _, _, rfl, rfl, hz, atI_nat he1, ?_⟩
      refine ⟨_, rfl, _, rfl, ?_⟩
      cases hat : D.at s b with
      | none =>
        rw [hat] at he2 step
        have ev0 : ev = .non := by cases he2; rfl
        subst ev0
        have : D.go 0 l = none := D.go_none step
        exact iteT (kQ _ H' s' (by rw [this]; rfl) fun s ws h => by rw [this] at h; cases h)
      | some gw =>
        obtain ⟨g, w⟩ := gw
        rw [hat] at he2 step
        have step : D.go 0 (l.take (i + 1)) = some (g, ws ++ w) := step
        obtain ⟨og, ow⟩ := oe g w hat
        obtain ⟨t, us, rfl, ht, hus⟩ := he2.tup_of
        obtain ⟨y0, vs1, rfl, hy0, hv1⟩ := hus.cons_of
        obtain ⟨y1, vs2, rfl, hy1, hv2⟩ := hv1.cons_of
        obtain rfl := hv2.nil_of
        obtain rfl := hy0.int_of
        obtain rfl := hy1.str_of
        have lw := ow.2
        refine iteF ⟨_, rfl, t, _, (0 : Nat), _, rfl, rfl, ht, atI_nat (j := 0) rfl, _, rfl, _, rfl, t, _, (1 : Nat), _, rfl, rfl, ht, atI_nat (j := 1) rfl, _, _, rfl, rfl, ?_, ?_⟩
        · rw [S_len, S_len]; exact Nat.le_trans (by omega : ws.length + w.length ≤ 3003) (by decide)
        · rw [S_app]
          exact ⟨_, _, rfl, g, ws ++ w, _, _, rfl, s', step, by rw [List.length_append]; omega, og⟩
    · rintro σ H' ⟨s, ws, x4, x5, rfl, s', hgo, hle, hst⟩
      rw [nm_len, List.take_length] at hgo
      rw [nm_len] at hle
      refine ⟨_, rfl, _, rfl, (by show 2 ≤ sizeLine; decide), fun q hq => kQ _ _ (Same.new s' hq) (by rw [hgo]; exact ⟨q, rfl, upd_same⟩) fun s' ws' h => ?_⟩
      rw [hgo] at h
      cases h
      exact ⟨hst, by omega⟩
theorem ok_law_written (T : Txt K mg) : FnOk P w K mg base CX0 2 T.f_law_written T.fd_law_written ["plain", "line"] (fun vs H Q _ => ∃ r a D l, vs = [.ref r, .ref a] ∧ LPl K H r D ∧ SqT K H a (nmV l) ∧ (∀ b ∈ l, b < D.sg) ∧ l.length ≤ 1000 ∧ ∀ H', Same H H' → Q (txV (D.wr l)) H') := by
  refine T.F_law_written.ok sc_law_written (fun vs H Q E h => ?_) (fun cdv A outer s0 H vs Q E hr h => ?_)
  · obtain ⟨r, a, D, l, rfl, _⟩ := h; rfl
  · obtain ⟨r, a, D, l, rfl, lp, ha, ol, ll, kQ⟩ := h
    refine ⟨_, (pss_cons (ps_set (i := 2) sc_law_written.nd rfl (Or.inl rfl) (pe_call (ok_law_run T) (hr.mono (by decide)) rfl T.g_law_run T.F_law_run.kp T.b_law_run .nil pass0 (pa_cons (pv 0) (pa_cons (pv 1) pa_nil))))
      (pss_cons (ps_if (PW.pt (pw_or (pt_cmp (pc_isN (pv 2))) (pw_or1 (pt_cmp (pc_isN (pe_ix ix_list (pe_ix ix_list (pv 0) pe_int (fun _ _ => rfl)) (pe_ix ix_list (pv 2) pe_int (fun _ _ => rfl)) (fun _ _ => rfl))))))) (pss_one (ps_ret pe_non)) pss_nil)
      (pss_one (ps_ret (pe_op op_add_str (pe_ix ix_list (pv 2) pe_int (fun _ _ => rfl)) (pe_ix ix_list (pe_ix ix_list (pv 0) pe_int (fun _ _ => rfl)) (pe_ix ix_list (pv 2) pe_int (fun _ _ => rfl)) (fun _ _ => rfl))))))), ?_⟩
    have ok := lp.ok
    refine ⟨_, rfl, _, rfl, r, a, D, l, rfl, lp, ha, ol, ll, fun v H1 s1 rv hb => ?_⟩
    cases hgo : D.go 0 l with
    | none =>
      rw [hgo] at rv
      obtain rfl : v = .non := rv
      refine ⟨_, rfl, _, rfl, iteT (iteT ?_)⟩
      have : D.wr l = none := by unfold Dcd.wr; rw [hgo]
      have q0 := kQ H1 s1
      rw [this] at q0
      exact q0
    | some p =>
      obtain ⟨s, ws⟩ := p
      rw [hgo] at rv
      obtain ⟨q, rfl, eq⟩ := rv
      obtain ⟨hs, lw⟩ := hb s ws hgo
      have q1 : SqL K H1 q [.int (s : Nat), .str (S ws)] := SqL.of eq
      obtain ⟨xs, Ea, hr1, hr2, hEa⟩ := (lp.ext s1).two
      obtain ⟨zs, e, hz, hze, dze⟩ := dgL_end ok hEa hs
      refine ⟨_, rfl, _, rfl, iteF ⟨_, rfl, r, _, _, _, rfl, rfl, hr1, hr2, _, rfl, q, _, (0 : Nat), _, rfl, rfl, q1, atI_nat (j := 0) rfl, Ea, _, _, _, rfl, rfl, hz, atI_nat hze, _, rfl, ?_⟩⟩
      have q0 := kQ H1 s1
      have wr : D.wr l = (D.en.getD s none).map fun w => ws ++ w := by unfold Dcd.wr; rw [hgo]
      rw [wr] at q0
      cases hen : D.en.getD s none with
      | none =>
        rw [hen] at dze q0
        have : e = .non := by cases dze; rfl
        subst this
        exact iteT q0
      | some wd =>
        rw [hen] at dze q0
        have e' : e = .str (S wd) := by cases dze; rfl
        subst e'
        have lwd : wd.length ≤ 3 := by
          have : some wd ∈ D.en := by
            rw [List.getD_eq_getElem?_getD] at hen
            cases z : D.en[s]? with
            | none => rw [z] at hen; cases hen
            | some y => rw [z] at hen; have hen : y = some wd := hen; rw [← hen]; exact List.mem_of_getElem? z
          exact (ok.words _ this wd rfl).2
        refine iteF ⟨_, rfl, q, _, (1 : Nat), _, rfl, rfl, q1, atI_nat (j := 1) rfl, _, rfl, r, _, _, _, rfl, rfl, hr1, hr2, _, rfl, q, _, (0 : Nat), _, rfl, rfl, q1, atI_nat (j := 0) rfl, Ea, _, _, _, rfl, rfl, hz, atI_nat hze, _, _, rfl, rfl, ?_, ?_⟩
        · rw [S_len, S_len]; exact Nat.le_trans (by omega : ws.length + wd.length ≤ 3003) (by decide)
        · rw [S_app]; exact q0
end
end My

set_option Elab.async false
set_option linter.all false
set_option maxRecDepth 100000
set_option maxHeartbeats 8000000
namespace My
open PySem PySem.Spec PyProof.Rows L2
def NF (v : V) (x : Nat) : Prop := v = .int (x : Nat)
theorem Dcd.ok.row_at {D : Dcd} (ok : D.ok) {s a : Nat} (hs : s < D.st.length) (ha : a < D.sg) : (D.st.getD s [])[a]? = some (D.at s a) := by
  have lr := (ok.rows _ (List.getElem_mem hs)).1
  unfold Dcd.at
  rw [List.getD_eq_getElem?_getD, List.getD_eq_getElem?_getD, List.getElem?_eq_getElem hs]
  show (D.st[s])[a]? = some ((D.st[s])[a]?.getD none)
  rw [List.getElem?_eq_getElem (by rw [lr]; exact ha)]; rfl
theorem Dcd.ok.row_len {D : Dcd} (ok : D.ok) {s : Nat} (hs : s < D.st.length) : (D.st.getD s []).length = D.sg := by
  have lr := (ok.rows _ (List.getElem_mem hs)).1
  rw [List.getD_eq_getElem?_getD, List.getElem?_eq_getElem hs]; exact lr
section
variable {P : Program} {w : World} {K : PySem.W.Frag} {mg : Str → Option Value} {base : Heap}
theorem ok_law_lengths (T : Txt K mg) : FnOk P w K mg base CX0 1 T.f_law_lengths T.fd_law_lengths ["plain", "start"] (fun vs H Q _ => ∃ r D s, vs = [.ref r, .int (s : Nat)] ∧ LPl K H r D ∧ s < D.st.length ∧
    ∀ b m H', Same H H' → DcN NF H' b m → (∀ t d, m.lookup t = some d ↔ Ds D.ahd s t d) → m.length ≤ 40 → (∀ t d, m.lookup t = some d → t < D.st.length) → Q (.ref b) H') := by
  refine T.F_law_lengths.ok sc_law_lengths (fun vs H Q E h => ?_) (fun cdv A outer s0 H vs Q E hr h => ?_)
  · obtain ⟨r, D, s, rfl, _⟩ := h; rfl
  · obtain ⟨r, D, s, rfl, lp, hs, kQ⟩ := h
    refine ⟨_, (pss_cons (ps_par (i := 2) (j := 3) (by rfl) sc_law_lengths.nd rfl rfl (by decide) rfl rfl (pa_cons pe_dnewK (pa_cons (pe_lst (pa_cons (pv 1) pa_nil)) pa_nil)) (by rfl))
      (pss_cons (ps_dput (hu_of hr) (pv 2) (pv 1) pe_int rfl)
      (pss_cons (ps_for PassesOwn.never rfl (pi_range1 rfl T.z_range (pa_cons (pe_callB call_len_seq (by rfl) T.z_len (by decide +kernel) (pa_cons (pe_ix ix_list (pv 0) pe_int (fun _ _ => rfl)) pa_nil)) pa_nil)) (pg_name (i := 4) sc_law_lengths.nd rfl (Or.inl rfl)) (pss_cons (ps_set (i := 5) sc_law_lengths.nd rfl (Or.inl rfl) (pe_lst pa_nil))
      (pss_cons (ps_for PassesOwn.never rfl (pi_list (pv 3)) (pg_name (i := 6) sc_law_lengths.nd rfl (Or.inl rfl)) (pss_one (ps_for PassesOwn.never rfl (pi_list (pe_ix ix_list (pe_ix ix_list (pv 0) pe_int (fun _ _ => rfl)) (pv 6) (fun _ _ => rfl))) (pg_name (i := 7) sc_law_lengths.nd rfl (Or.inl rfl)) (pss_one (ps_if (PW.pt (pw_and (pt_cmp (pc_notN (pv 7))) (pw_and1 (pt_cmp (pc_dnotin (hu_of hr) (pe_ix ix_tup (pv 7) pe_int (fun _ _ => rfl)) (pv 2)))))) (pss_cons (ps_dput (hu_of hr) (pv 2) (pe_ix ix_tup (pv 7) pe_int (fun _ _ => rfl)) (pe_op op_add (pv 4) pe_int) rfl)
      (pss_one (ps_expr (pe_bm PySem.F.plainAttrs_list PySem.F.slot_list_append PySem.F.type_list_append mt_append (pv 5) (pa_cons (pe_ix ix_tup (pv 7) pe_int (fun _ _ => rfl)) pa_nil))))) pss_nil)))))
      (pss_one (ps_set (i := 3) sc_law_lengths.nd rfl (Or.inl rfl) (pv 5))))))
      (pss_one (ps_ret (pv 2)))))), ?_⟩
    have ok := lp.ok
    have n40 := ok.n40
    have n1 := ok.n1
    refine fun b hb => ⟨_, rfl, (by show 1 ≤ sizeLine; decide), fun L hL => ⟨_, _, rfl, ?_⟩⟩
    have nLb : L ≠ b := fun z => by rw [z, upd_same] at hL; cases hL
    have s1 : Same H (upd (upd H b (.dK [])) L (.lst [.int (s : Nat)])) := Same.new (Same.new (Same.refl _) hb) hL
    have hb1 : DcN NF (upd (upd H b (.dK [])) L (.lst [.int (s : Nat)])) b [] := ⟨[], by rw [upd_ne (Ne.symm nLb)]; exact upd_same, .nil⟩
    have eL1 : (upd (upd H b (.dK [])) L (.lst [.int (s : Nat)])) L = some (.lst (nmV [s])) := upd_same
    generalize upd (upd H b (.dK [])) L (.lst [.int (s : Nat)]) = H1 at s1 hb1 eL1 ⊢
    obtain ⟨H2, dp, sm, hb2⟩ := hb1.put (t := s) (x := 0) (v := .int 0) rfl rfl (by decide)
    have s2 : Same H H2 := fun x o e => by rw [sm x (ne_of_none e hb)]; exact s1 _ _ e
    have eL2 : H2 L = some (.lst (nmV [s])) := by rw [sm L nLb]; exact eL1
    try dsimp only [L2.gName, L2.tSeq, L2.tAsg]
    refine ⟨_, rfl, _, rfl, b, H2, rfl, dp, ?_⟩
    obtain ⟨xs0, Sa0, hr1, hr2, hSa0⟩ := (lp.ext s2).one
    obtain ⟨a0, rows0, e0, hx0, _, hxs0⟩ := hSa0.lst_of
    have lrows := hxs0.len
    rw [List.length_map] at lrows
    injection e0 with e0
    subst e0
    refine ⟨_, rfl, r, _, _, _, rfl, rfl, hr1, hr2, Sa0, rows0, rfl, .inl hx0, (rows0.length : Int), rfl, by omega, by omega, ?_⟩
    rw [Int.toNat_natCast, lrows]
    clear hb1 eL1 s1 dp sm
    refine for_range (lo := 0) (n := D.st.length) (fun i σ H' => ∃ L ly m x4 x5 x6 x7, σ = [some (.ref r), some (.int (s : Nat)), some (.ref b), some (.ref L), x4, x5, x6, x7] ∧ Same H H' ∧ H' L = some (.lst (nmV ly)) ∧ DcN NF H' b m ∧ BfLay D.st D.st.length (fun _ _ => True) id s i (m, ly) ∧ (ly ≠ [] → i + 1 ≤ m.length))
      ⟨L, [s], [(s, 0)], _, _, _, _, rfl, s2, eL2, hb2, BfLay.start hs trivial rfl, fun _ => Nat.le_refl _⟩ ?_ ?_
    · rintro i σ H3 hi ⟨L, ly, m, x4, x5, x6, x7, rfl, s3, eL, hbd, bl, hk⟩
      have nLb : L ≠ b := fun z => by obtain ⟨_, e, _⟩ := hbd; rw [z, e] at eL; cases eL
      try dsimp only [L2.gName, L2.tSeq, L2.tAsg]
      refine ⟨by decide, fun F hF => ?_⟩
      have nFb : F ≠ b := fun z => by obtain ⟨_, e, _⟩ := hbd; rw [z, e] at hF; cases hF
      have s4 : Same H (upd H3 F (.lst [])) := Same.new s3 hF
      have hFH : H F = none := s3.free hF
      have eF4 : (upd H3 F (.lst [])) F = some (.lst (nmV [])) := upd_same
      have eL4 : (upd H3 F (.lst [])) L = some (.lst (nmV ly)) := by rw [upd_ne (ne_of_none eL hF)]; exact eL
      have hb4 : DcN NF (upd H3 F (.lst [])) b m := hbd.mono (upd_ne (Ne.symm nFb)) fun _ _ h => h
      have nFL : F ≠ L := fun z => by rw [z, eL] at hF; cases hF
      generalize upd H3 F (.lst []) = H4 at s4 eF4 eL4 hb4 ⊢
      refine ⟨_, rfl, L, rfl, ⟨_, SqL.of eL4⟩, for_list (K := K) (a := L) (xs := nmV ly) (fun j σ H' => ∃ x6 x7, ∃ q : BfQ Nat, σ = [some (.ref r), some (.int (s : Nat)), some (.ref b), some (.ref L), some (.int ((0 : Int) + (i : Nat))), some (.ref F), x6, x7] ∧ Same H H' ∧ H' L = some (.lst (nmV ly)) ∧ H' F = some (.lst (nmV q.2)) ∧ DcN NF H' b q.1 ∧ Bf D.st D.st.length (fun _ _ => True) id s i q ((ly.take j).flatMap fun s => goE (D.st.getD s [])) ∧ q.1.length = m.length + q.2.length)
        ⟨_, _, (m, []), rfl, s4, eL4, eF4, hb4, bl.mid, rfl⟩ (fun j σ H' _ ⟨_, _, _, _, _, e, _⟩ => SqL.of e) ?_ ?_⟩
      · rintro j v σ H5 hv ⟨x6, x7, q, rfl, s5, eL5, eF5, hb5, bf5, ln5⟩
        obtain ⟨t, htj, rfl⟩ := nm_at hv
        have dS := (bl.lay.ly t).mp (List.mem_of_getElem? htj)
        obtain ⟨d0, hd0, _, _⟩ := bf5.look dS
        have tl : t < D.st.length := bf5.fnd.lt _ _ hd0
        obtain ⟨xs, Sa, hr1, hr2, hSa⟩ := lp.one
        obtain ⟨rows, rr, zs, hw1, hw2, hz, lz, hent⟩ := dgL_row ok hSa tl
        try dsimp only [L2.gName]
        refine ⟨_, rfl, r, _, _, _, rfl, rfl, hr1.ext s5, hr2, _, rfl, Sa, _, (t : Nat), _, rfl, rfl, hw1.ext s5, atI_nat hw2, rr, rfl, ⟨_, hz.ext s5⟩, for_list (K := K) (a := rr) (xs := zs) (fun a σ H' => ∃ x7, ∃ q' : BfQ Nat, σ = [some (.ref r), some (.int (s : Nat)), some (.ref b), some (.ref L), some (.int ((0 : Int) + (i : Nat))), some (.ref F), some (.int (t : Nat)), x7] ∧ Same H H' ∧ H' L = some (.lst (nmV ly)) ∧ H' F = some (.lst (nmV q'.2)) ∧ DcN NF H' b q'.1 ∧ Bf D.st D.st.length (fun _ _ => True) id s i q' ((ly.take j).flatMap (fun s => goE (D.st.getD s [])) ++ goE ((D.st.getD t []).take a)) ∧ q'.1.length = m.length + q'.2.length)
          ⟨_, q, rfl, s5, eL5, eF5, hb5, by simpa [goE] using bf5, ln5⟩ (fun a σ H' _ ⟨_, _, _, s', _⟩ => hz.ext s') ?_ ?_⟩
        · rintro a x σ H6 hxa ⟨x7, q', rfl, s6, eL6, eF6, hb6, bf6, ln6⟩
          have ha : a < D.sg := by rw [← lz]; exact (List.getElem?_eq_some_iff.mp hxa).1
          obtain ⟨ev, he1, he2⟩ := hent a ha
          rw [hxa] at he1
          obtain rfl := Option.some.inj he1
          have he3 := ok.row_at tl ha
          have bf7 : Bf D.st D.st.length (fun _ _ => True) id s i (bf1 (fun _ _ _ => i + 1) t q' (D.at t a, a)) ((ly.take j).flatMap (fun s => goE (D.st.getD s [])) ++ goE ((D.st.getD t []).take (a + 1))) := by
            rw [goE_snoc he3, ← List.append_assoc]
            exact bf6.step dS he3 fun l g w' _ _ _ e => ⟨(ok.at _ _ e).1, trivial, rfl⟩
          have ln7 := bf1_len (val := fun _ _ _ => i + 1) t q' (D.at t a, a)
          have zF := bf6.fnd.fl
          have zm := bf6.fnd.len
          try dsimp only [L2.gName]
          cases hat : D.at t a with
          | none =>
            rw [hat] at he2 bf7 ln7
            have : x = .non := by cases he2; rfl
            subst this
            refine ⟨_, rfl, _, rfl, iteF (iteF ⟨_, q', rfl, s6, eL6, eF6, hb6, bf7, ln6⟩)⟩
          | some pr =>
            obtain ⟨g, w'⟩ := pr
            rw [hat] at he2 bf7 ln7
            obtain ⟨b2, ys, rfl, hy, hys⟩ := he2.tup_of
            have hg : ys[0]? = some (.int (g : Nat)) := by
              cases hys with
              | cons h _ => cases h; rfl
            refine ⟨_, rfl, _, rfl, iteT ⟨_, rfl, b2, ys, (0 : Nat), _, rfl, rfl, hy.ext s6, atI_nat hg, ?_⟩⟩
            rcases hb6.get g with ⟨no, dg⟩ | ⟨x', v', yes, dg, _⟩
            rotate_left
            · have e : bf1 (fun _ _ _ => i + 1) t q' (some (g, w'), a) = q' := by
                show (if _ then _ else _) = _
                rw [if_pos (by rw [yes]; rfl)]
              rw [e] at bf7
              exact ⟨_, rfl, b, _, rfl, dg, _, rfl, iteF ⟨_, q', rfl, s6, eL6, eF6, hb6, bf7, ln6⟩⟩
            have e : bf1 (fun _ _ _ => i + 1) t q' (some (g, w'), a) = (q'.1 ++ [(g, i + 1)], q'.2 ++ [g]) := by
              show (if _ then _ else _) = _
              rw [if_neg (by rw [no]; decide)]
            rw [e] at bf7 ln7
            refine ⟨_, rfl, b, _, rfl, dg, _, rfl, iteT ?_⟩
            obtain ⟨H7, dp, sm, hb7⟩ := hb6.put (t := g) (x := i + 1) (v := .int ((0 : Int) + (i : Nat) + 1)) no (by show V.int _ = V.int _; congr 1; omega) (by omega)
            refine ⟨_, rfl, _, _, rfl, rfl, _, rfl, _, rfl, b2, ys, (0 : Nat), _, rfl, rfl, hy.ext s6, atI_nat hg, b, H7, rfl, dp, ?_⟩
            have s7 : Same H H7 := fun x o e => by rw [sm x (ne_of_none e hb)]; exact s6 _ _ e
            have eF7 : H7 F = some (.lst (nmV q'.2)) := by rw [sm F nFb]; exact eF6
            have eL7 : H7 L = some (.lst (nmV ly)) := by rw [sm L nLb]; exact eL6
            refine ⟨_, rfl, .inl ⟨rfl, _, SqL.of eF7⟩, _, rfl, b2, ys, (0 : Nat), _, rfl, rfl, hy.ext s7, atI_nat hg, F, _, _, rfl, rfl, eF7, ?_, ?_⟩
            · rw [nm_len]; exact Nat.lt_of_le_of_lt (by omega : q'.2.length ≤ 40) (by decide)
            refine ⟨_, _, rfl, fun x o e => by rw [upd_ne (ne_of_none e hFH)]; exact s7 _ _ e, by rw [upd_ne (Ne.symm nFL)]; exact eL7, by rw [upd_same, nm_app]; rfl, hb7.mono (upd_ne (Ne.symm nFb)) fun _ _ h => h, bf7, ?_⟩
            show (q'.1 ++ [(g, i + 1)]).length = _ + (q'.2 ++ [g]).length
            rw [List.length_append, List.length_append]
            simp; omega
        · rintro σ H6 ⟨x7, q', rfl, s6, eL6, eF6, hb6, bf6, ln6⟩
          rw [lz, show (D.st.getD t []).take D.sg = D.st.getD t [] from List.take_of_length_le (by rw [ok.row_len tl]; exact Nat.le_refl _)] at bf6
          refine ⟨_, _, q', rfl, s6, eL6, eF6, hb6, ?_, ln6⟩
          rw [List.take_add_one, htj, List.flatMap_append]
          simpa using bf6
      · rintro σ H5 ⟨x6, x7, q, rfl, s5, eL5, eF5, hb5, bf5, ln5⟩
        rw [nm_len, List.take_length] at bf5
        have bl' := bf5.done (q0 := (m, [])) bl.lay.ly
        exact ⟨_, rfl, F, q.2, q.1, _, _, _, _, rfl, s5, eF5, hb5, bl', fun ne => by
          have h1 : 0 < q.2.length := List.length_pos_iff.mpr ne
          have h2 : ly ≠ [] := fun z => by
            obtain ⟨u, hu⟩ := List.exists_mem_of_length_pos h1
            obtain ⟨t, ht, _⟩ := ((bl'.lay.ly u).mp hu).pred
            have := (bl.lay.ly t).mpr ht
            have this : t ∈ ly := this
            rw [z] at this; cases this
          have := hk h2
          omega⟩
    · rintro σ H3 ⟨L, ly, m, x4, x5, x6, x7, rfl, s3, eL, hbd, bl, hk⟩
      have lm : m.length ≤ D.st.length := bl.fnd.len
      have nil : ly = [] := by
        cases ly with
        | nil => rfl
        | cons a l => have := hk (by simp); omega
      subst nil
      refine ⟨_, rfl, kQ b m H3 s3 hbd (fun t d => ?_) (by omega) bl.fnd.lt⟩
      have h := bl.lay.dm t d
      have h : (m.lookup t).map id = some d ↔ _ := h
      rw [Option.map_id_fun] at h
      rw [show m.lookup t = id (m.lookup t) from rfl, h]
      refine ⟨fun z => z.1, fun z => ⟨z, ?_⟩⟩
      rcases Nat.lt_or_ge d D.st.length with c | c
      · omega
      · have := ds_none (gs := D.ahd) (a := s) (k := D.st.length) (fun u h => nomatch (bl.lay.ly u).mpr h) (d - D.st.length) t
        rw [show D.st.length + (d - D.st.length) = d by omega] at this
        exact absurd z this
end
end My

set_option Elab.async false
set_option linter.all false
set_option maxRecDepth 100000
set_option maxHeartbeats 8000000
namespace My
open PySem PySem.Spec PyProof.Rows L2
theorem look_some {α : Type} {m : List (Nat × α)} {t : Nat} : (m.lookup t).isSome = true ↔ ∃ x, (t, x) ∈ m := by
  induction m with
  | nil => simp
  | cons p m ih =>
    obtain ⟨b, y⟩ := p
    rw [List.lookup_cons]
    by_cases e : t = b
    · subst e
      rw [beq_self_eq_true]
      exact ⟨fun _ => ⟨y, List.mem_cons_self⟩, fun _ => rfl⟩
    · rw [beq_eq_false_iff_ne.mpr e]
      refine ih.trans ⟨fun ⟨x, h⟩ => ⟨x, List.mem_cons_of_mem _ h⟩, fun ⟨x, h⟩ => ⟨x, ?_⟩⟩
      rcases List.mem_cons.mp h with z | z
      · injection z with z; exact absurd z e
      · exact z
theorem sorted_parts {H : Hp} {b : Addr} {m : List (Nat × Nat)} (h : DcN NF H b m) : ∃ (kvs : List (Key × V)) (ks : List Int), Rd H b (.dK kvs) ∧ kvs.map (·.1) = ks.map Sum.inl ∧ ks.length = m.length ∧
    ∀ ys : List Int, ys.Perm ks → ∃ zs : List Nat, ys.map V.int = nmV zs ∧ zs.length = m.length ∧ ∀ t, t ∈ zs ↔ (m.lookup t).isSome = true := by
  obtain ⟨kvs, e, pr⟩ := h
  refine ⟨kvs, m.map fun e => (e.1 : Int), .inl e, ?_, by rw [List.length_map], fun ys pm => ⟨ys.map Int.toNat, ?_, by rw [List.length_map, pm.length_eq, List.length_map], fun t => ?_⟩⟩
  · clear e
    induction pr with
    | nil => rfl
    | cons r _ ih => rw [List.map_cons, List.map_cons, List.map_cons, ih, r.1]
  · unfold nmV
    rw [List.map_map]
    refine List.map_congr_left fun y hy => ?_
    obtain ⟨e, _, rfl⟩ := List.mem_map.mp (pm.mem_iff.mp hy)
    rfl
  · rw [look_some]
    constructor
    · intro h
      obtain ⟨y, hy, rfl⟩ := List.mem_map.mp h
      obtain ⟨e, he, rfl⟩ := List.mem_map.mp (pm.mem_iff.mp hy)
      exact ⟨e.2, he⟩
    · rintro ⟨x, hx⟩
      exact List.mem_map.mpr ⟨t, pm.mem_iff.mpr (List.mem_map.mpr ⟨_, hx, rfl⟩), rfl⟩
theorem DcN.same {α : Type} {F : V → α → Prop} {H H' : Hp} {b : Addr} {m : List (Nat × α)} (h : DcN F H b m) (s : Same H H') : DcN F H' b m := by
  obtain ⟨kvs, e, p⟩ := h
  exact ⟨kvs, s _ _ e, p⟩
def setF (f : Nat → Bool) (i : Nat) (v : Bool) : Nat → Bool := fun s => if s = i then v else f s
theorem marks_snoc (f : Nat → Bool) (i : Nat) (v : Bool) : marks f i ++ [V.bl v] = marks (setF f i v) (i + 1) := by
  unfold marks
  rw [List.range_succ, List.map_append]
  have h1 : (List.range i).map (fun s => V.bl (setF f i v s)) = (List.range i).map (fun s => V.bl (f s)) := List.map_congr_left fun s hs => by
    unfold setF
    rw [if_neg (Nat.ne_of_lt (List.mem_range.mp hs))]
  rw [h1]
  congr 1
  show _ = [V.bl (setF f i v i)]
  unfold setF
  rw [if_pos rfl]
section
variable {P : Program} {w : World} {K : PySem.W.Frag} {mg : Str → Option Value} {base : Heap}
theorem ok_law_trimmed (T : Txt K mg) : FnOk P w K mg base CX0 2 T.f_law_trimmed T.fd_law_trimmed ["plain"] (fun vs H Q _ => ∃ r D, vs = [.ref r] ∧ LPl K H r D ∧
    ∀ q f H', Same H H' → H' q = some (.tup (marks f D.st.length)) → (∀ s, s < D.st.length → (f s = true ↔ RchG D.ahd [0] s ∧ ∃ t, D.endd t = true ∧ RchG D.ahd [s] t)) → Q (.ref q) H') := by
  refine T.F_law_trimmed.ok sc_law_trimmed (fun vs H Q E h => ?_) (fun cdv A outer s0 H vs Q E hr h => ?_)
  · obtain ⟨r, D, rfl, _⟩ := h; rfl
  · obtain ⟨r, D, rfl, lp, kQ⟩ := h
    refine ⟨_, (pss_cons (ps_par (i := 1) (j := 2) (by rfl) sc_law_trimmed.nd rfl rfl (by decide) rfl rfl (pa_cons (pe_call (ok_law_lengths T) (hr.mono (by decide)) rfl T.g_law_lengths T.F_law_lengths.kp T.b_law_lengths .nil pass0 (pa_cons (pv 0) (pa_cons pe_int pa_nil))) (pa_cons (pe_lst pa_nil) pa_nil)) (by rfl))
      (pss_cons (ps_for PassesOwn.never rfl (pi_range1 rfl T.z_range (pa_cons (pe_callB call_len_seq (by rfl) T.z_len (by decide +kernel) (pa_cons (pe_ix ix_list (pv 0) pe_int (fun _ _ => rfl)) pa_nil)) pa_nil)) (pg_name (i := 3) sc_law_trimmed.nd rfl (Or.inl rfl)) (pss_cons (ps_setLc (i := 4) (own := [("goal", 5)]) (g := gName 5) (by rfl) sc_law_trimmed.nd rfl rfl (sw_true rfl rfl rfl (by decide +kernel)) (pi_list (pe_callB (call_sortedDI (by rfl)) (by rfl) T.z_sorted (by decide +kernel) (pa_cons (pe_call (ok_law_lengths T) (hr.mono (by decide)) rfl T.g_law_lengths T.F_law_lengths.kp T.b_law_lengths .nil pass0 (pa_cons (pv 0) (pa_cons (pv 3) pa_nil))) pa_nil))) (blkOk_by (own := [("goal", 5)]) (N := N_law_trimmed) (sc := defScope s_law_trimmed) (by decide +kernel)) (fun _ _ _ _ _ => pg_name (i := 5) sc_law_trimmed.nd rfl (Or.inl rfl)) (fun _ _ _ _ _ => (pts_one (pt_cmp (pc_notN (pe_ix (ix_listK (K := K) rfl) (pe_ix (ix_listK (K := K) rfl) (pv 0) pe_int (fun _ _ => rfl)) (pv 5) (fun _ _ => rfl)))))) (fun _ _ _ _ _ => (pv 5)))
      (pss_one (ps_expr (pe_bm PySem.F.plainAttrs_list PySem.F.slot_list_append PySem.F.type_list_append mt_append (pv 2) (pa_cons (pe_and (pe_cmp (pc_din (hu_of hr) (pv 3) (pv 1)) rfl) (pe_one (pe_cmpR (op_ne_nil (un0 hr)) (pv 4) (pe_lst pa_nil) (nomark _)))) pa_nil))))))
      (pss_one (ps_ret (pe_callTy call_tuple_of (by rfl) T.z_tuple (by decide +kernel) (pa_cons (pv 2) pa_nil)))))), ?_⟩
    have ok := lp.ok
    have n40 := ok.n40
    have n1 := ok.n1
    obtain ⟨xs0, Sa0, hr1, hr2, hSa0⟩ := lp.one
    obtain ⟨a0, rows0, e0, hx0, _, hxs0⟩ := hSa0.lst_of
    have lrows := hxs0.len
    rw [List.length_map] at lrows
    injection e0 with e0
    subst e0
    obtain ⟨xs2, Ea, hr3, hr4, hEa⟩ := lp.two
    refine ⟨_, rfl, r, D, 0, rfl, lp, by omega, fun b m H1 s1 hm1 hd1 lm1 lt1 => ⟨by decide, fun F hF => ⟨_, _, rfl, ?_⟩⟩⟩
    have hFH : H F = none := s1.free hF
    have s2 : Same H (upd H1 F (.lst [])) := Same.new s1 hF
    have hm2 : DcN NF (upd H1 F (.lst [])) b m := hm1.same (Same.new (Same.refl _) hF)
    have nFb : F ≠ b := fun z => by obtain ⟨_, e, _⟩ := hm1; rw [z, e] at hF; cases hF
    have eF2 : (upd H1 F (.lst [])) F = some (.lst (marks (fun _ => false) 0)) := upd_same
    generalize upd H1 F (.lst []) = H2 at s2 hm2 eF2 ⊢
    try dsimp only [L2.gName, L2.tSeq, L2.tAsg]
    refine ⟨_, rfl, r, _, _, _, rfl, rfl, hr1.ext s2, hr2, Sa0, rows0, rfl, .inl (hx0.ext s2), (rows0.length : Int), rfl, by omega, by omega, ?_⟩
    rw [Int.toNat_natCast, lrows]
    refine for_range (lo := 0) (n := D.st.length) (fun i σ H' => ∃ x3 x4 x5 f, σ = [some (.ref r), some (.ref b), some (.ref F), x3, x4, x5] ∧ Same H H' ∧ DcN NF H' b m ∧ H' F = some (.lst (marks f i)) ∧ ∀ s, s < i → (f s = true ↔ RchG D.ahd [0] s ∧ ∃ t, D.endd t = true ∧ RchG D.ahd [s] t))
      ⟨_, _, _, _, rfl, s2, hm2, eF2, fun s h => absurd h (Nat.not_lt_zero _)⟩ ?_ ?_
    · rintro i σ H3 hi ⟨x3, x4, x5, f, rfl, s3, hm3, eF3, hf⟩
      try dsimp only [L2.gName, L2.tSeq, L2.tAsg]
      refine ⟨_, rfl, _, rfl, r, D, i, by rw [Int.zero_add]; rfl, lp.ext s3, hi, fun b2 m2 H4 s4 hm4 hd4 lm4 lt4 => ?_⟩
      obtain ⟨kvs, ks, hk1, hk2, hk3, hk4⟩ := sorted_parts hm4
      refine ⟨b2, kvs, ks, rfl, hk1, hk2, by omega, fun ys p pm _ hp => ?_⟩
      obtain ⟨zs, ez, lz, mz⟩ := hk4 ys pm
      rw [ez]
      have s5 : Same H4 (upd H4 p (.lst (nmV zs))) := Same.new (Same.refl _) hp
      have ep5 : (upd H4 p (.lst (nmV zs))) p = some (.lst (nmV zs)) := upd_same
      generalize upd H4 p (.lst (nmV zs)) = H5 at s5 ep5 ⊢
      have s35 := s4.trans s5
      have s05 := s3.trans s35
      refine ⟨p, rfl, ⟨_, SqL.of ep5⟩, fun E hE => ?_⟩
      refine lc_list (K := K) (a := p) (xs := nmV zs) (fun j H' => Same H5 H' ∧ H' E = some (.lst (nmV ((zs.take j).filter D.endd)))) ⟨Same.new (Same.refl _) hE, upd_same⟩ (fun j H' _ h => SqL.of (h.1 _ _ ep5)) ?_ ?_
      · rintro j x H6 hxj ⟨s6, e6⟩
        obtain ⟨t, htj, rfl⟩ := nm_at hxj
        obtain ⟨d, hd⟩ := Option.isSome_iff_exists.mp ((mz t).mp (List.mem_of_getElem? htj))
        have ht := lt4 t d hd
        have s06 := s05.trans s6
        obtain ⟨ws, e, hz, hze, dze⟩ := dgL_end ok (hEa.ext s06) ht
        have tk : (zs.take (j + 1)).filter D.endd = (zs.take j).filter D.endd ++ [t].filter D.endd := by rw [List.take_add_one, htj, List.filter_append]; rfl
        refine ⟨rfl, _, rfl, r, _, _, _, rfl, rfl, hr3.ext s06, hr4, _, rfl, Ea, ws, (t : Nat), _, rfl, rfl, hz, atI_nat hze, ?_⟩
        cases hen : D.en.getD t none with
        | none =>
          have hq : D.endd t = false := by unfold Dcd.endd; rw [hen]; rfl
          rw [hen] at dze
          have : e = .non := by cases dze; rfl
          subst this
          refine ⟨_, rfl, iteF ⟨s6, ?_⟩⟩
          rw [tk, List.filter_cons, if_neg (by rw [hq]; decide)]; simpa using e6
        | some wd =>
          have hq : D.endd t = true := by unfold Dcd.endd; rw [hen]; rfl
          rw [hen] at dze
          have : decide (e = .non) = false := by cases dze; rfl
          refine ⟨_, rfl, ?_⟩
          rw [this]
          refine iteT ⟨_, rfl, _, e6, ?_, fun b' o e => ?_, ?_⟩
          · rw [nm_len]
            exact Nat.lt_of_le_of_lt (Nat.le_trans (List.length_filter_le _ _) (Nat.le_trans (List.length_take_le' _ _) (by omega : zs.length ≤ 40))) (by decide)
          · rw [upd_ne (ne_of_none e hE)]; exact s6 _ _ e
          · rw [upd_same, tk, List.filter_cons, if_pos hq, nm_app]; rfl
      · rintro H6 ⟨s6, e6⟩
        rw [nm_len, List.take_length] at e6
        have s36 := s35.trans s6
        have hm6 := hm3.same s36
        have eF6 := s36 _ _ eF3
        have s06 := s3.trans s36
        have hE : (zs.filter D.endd ≠ []) ↔ ∃ t, D.endd t = true ∧ RchG D.ahd [i] t := by
          constructor
          · intro h
            obtain ⟨t, ht⟩ := List.exists_mem_of_ne_nil _ h
            obtain ⟨h1, h2⟩ := List.mem_filter.mp ht
            obtain ⟨d, hd⟩ := Option.isSome_iff_exists.mp ((mz t).mp h1)
            exact ⟨t, h2, ds_rch.mpr ⟨d, (hd4 t d).mp hd⟩⟩
          · rintro ⟨t, h1, h2⟩ h
            obtain ⟨d, hd⟩ := ds_rch.mp h2
            have : t ∈ zs.filter D.endd := List.mem_filter.mpr ⟨(mz t).mpr (by rw [(hd4 t d).mpr hd]; rfl), h1⟩
            rw [h] at this; cases this
        have hA : (m.lookup i).isSome = true ↔ RchG D.ahd [0] i := by
          rw [ds_rch]
          constructor
          · intro h
            obtain ⟨d, hd⟩ := Option.isSome_iff_exists.mp h
            exact ⟨d, (hd1 i d).mp hd⟩
          · rintro ⟨d, hd⟩
            rw [(hd1 i d).mpr hd]; rfl
        have hf' : ∀ v : Bool, (v = true ↔ RchG D.ahd [0] i ∧ ∃ t, D.endd t = true ∧ RchG D.ahd [i] t) → ∀ s, s < i + 1 → (setF f i v s = true ↔ RchG D.ahd [0] s ∧ ∃ t, D.endd t = true ∧ RchG D.ahd [s] t) := fun v hv s hs => by
          unfold setF
          by_cases c : s = i
          · subst c; rw [if_pos rfl]; exact hv
          · rw [if_neg c]; exact hf s (by omega)
        have lm : (marks f i).length < sizeLine := by rw [marks_len]; exact Nat.lt_of_le_of_lt (by omega : i ≤ 40) (by decide)
        rcases hm6.get i with ⟨no, dg⟩ | ⟨x', v', yes, dg, _⟩
        · refine ⟨_, rfl, .inl ⟨rfl, _, SqL.of eF6⟩, _, rfl, _, rfl, b, _, rfl, by rw [Int.zero_add]; exact dg, false, rfl, iteF ⟨F, _, _, rfl, rfl, eF6, lm, _, _, _, setF f i false, rfl, fun x o e => by rw [upd_ne (ne_of_none e hFH)]; exact s06 _ _ e, hm6.mono (upd_ne (Ne.symm nFb)) fun _ _ h => h, by rw [upd_same, marks_snoc], hf' false ?_⟩⟩
          rw [no] at hA
          exact ⟨(fun z => nomatch z), fun z => by have := hA.mpr z.1; cases this⟩
        · refine ⟨_, rfl, .inl ⟨rfl, _, SqL.of eF6⟩, _, rfl, _, rfl, b, _, rfl, by rw [Int.zero_add]; exact dg, true, rfl, iteT ⟨_, rfl, by decide, fun Z hZ => ⟨E, Z, _, rfl, rfl, by rw [upd_ne (ne_of_none e6 hZ)]; exact e6, upd_same, ?_⟩⟩⟩
          have s7 : Same H6 (upd H6 Z (.lst [])) := Same.new (Same.refl _) hZ
          generalize upd H6 Z (.lst []) = H7 at s7 ⊢
          refine ⟨F, _, _, rfl, rfl, s7 _ _ eF6, lm, _, _, _, setF f i (!decide (nmV (zs.filter D.endd) = [])), rfl, fun x o e => by rw [upd_ne (ne_of_none e hFH)]; exact s7 _ _ (s06 _ _ e), (hm6.same s7).mono (upd_ne (Ne.symm nFb)) fun _ _ h => h, by rw [upd_same, marks_snoc], hf' _ ?_⟩
          rw [yes] at hA
          rw [← hE]
          have : (nmV (zs.filter D.endd) = []) ↔ zs.filter D.endd = [] := by unfold nmV; rw [List.map_eq_nil_iff]
          simp [this, hA.mp rfl]
    · rintro σ H3 ⟨x3, x4, x5, f, rfl, s3, hm3, eF3, hf⟩
      exact ⟨_, rfl, F, _, rfl, .inl ⟨SqL.of eF3, fun l hl => kQ l f _ (Same.new s3 hl) upd_same hf⟩⟩
theorem ok_law_least (T : Txt K mg) : FnOk P w K mg base CX0 2 T.f_law_least T.fd_law_least ["plain"] (fun vs H Q _ => ∃ r D, vs = [.ref r] ∧ LPl K H r D ∧
    ∀ H', Same H H' → ((∀ s j, Ds D.ahd 0 s j → D.endd s = false) → Q .non H') ∧ ∀ (k : Nat) s, Ds D.ahd 0 s k → D.endd s = true → (∀ s' j, Ds D.ahd 0 s' j → D.endd s' = true → k ≤ j) → Q (.int (k : Nat)) H') := by
  refine T.F_law_least.ok sc_law_least (fun vs H Q E h => ?_) (fun cdv A outer s0 H vs Q E hr h => ?_)
  · obtain ⟨r, D, rfl, _⟩ := h; rfl
  · obtain ⟨r, D, rfl, lp, kQ⟩ := h
    refine ⟨_, (pss_cons (ps_set (i := 1) sc_law_least.nd rfl (Or.inr rfl) (pe_call (ok_law_lengths T) (hr.mono (by decide)) rfl T.g_law_lengths T.F_law_lengths.kp T.b_law_lengths .nil pass0 (pa_cons (pv 0) (pa_cons pe_int pa_nil))))
      (pss_cons (ps_setLc (i := 2) (own := [("state", 3)]) (g := gName 3) (by rfl) sc_law_least.nd rfl rfl (sw_true rfl rfl rfl (by decide +kernel)) (pi_list (pe_callB (call_sortedDI (by rfl)) (by rfl) T.z_sorted (by decide +kernel) (pa_cons (pv 1) pa_nil))) (blkOk_by (own := [("state", 3)]) (N := N_law_least) (sc := defScope s_law_least) (by decide +kernel)) (fun _ _ _ _ _ => pg_name (i := 3) sc_law_least.nd rfl (Or.inl rfl)) (fun _ _ _ _ _ => (pts_one (pt_cmp (pc_notN (pe_ix (ix_listK (K := K) rfl) (pe_ix (ix_listK (K := K) rfl) (pv 0) pe_int (fun _ _ => rfl)) (pv 3) (fun _ _ => rfl)))))) (fun _ _ _ _ _ => (pe_dget (hu_of hr) (pv 1) (pv 3) (fun _ _ => rfl))))
      (pss_one (ps_ret (pe_ifExp (pt_cmpR (op_ne_nil (un0 hr)) (pv 2) (pe_lst pa_nil) (nomark _)) (pe_callB (cr_min rfl) (by rfl) T.z_min (by decide +kernel) (pa_cons (pv 2) pa_nil)) pe_non))))), ?_⟩
    have ok := lp.ok
    have n40 := ok.n40
    have n1 := ok.n1
    obtain ⟨xs2, Ea, hr3, hr4, hEa⟩ := lp.two
    refine ⟨_, rfl, r, D, 0, rfl, lp, by omega, fun b m H1 s1 hm1 hd1 lm1 lt1 => ?_⟩
    try dsimp only [L2.gName, L2.tSeq, L2.tAsg]
    obtain ⟨kvs, ks, hk1, hk2, hk3, hk4⟩ := sorted_parts hm1
    refine ⟨_, rfl, b, kvs, ks, rfl, hk1, hk2, by omega, fun ys p pm _ hp => ?_⟩
    obtain ⟨zs, ez, lz, mz⟩ := hk4 ys pm
    rw [ez]
    have s2 : Same H1 (upd H1 p (.lst (nmV zs))) := Same.new (Same.refl _) hp
    have ep : (upd H1 p (.lst (nmV zs))) p = some (.lst (nmV zs)) := upd_same
    generalize upd H1 p (.lst (nmV zs)) = H2 at s2 ep ⊢
    have s02 := s1.trans s2
    have hm2 := hm1.same s2
    refine ⟨p, rfl, ⟨_, SqL.of ep⟩, fun E hE => ?_⟩
    have gt : ∀ {t : Nat}, t ∈ zs → ∃ d, m.lookup t = some d := fun {t} h => Option.isSome_iff_exists.mp ((mz t).mp h)
    refine lc_list (K := K) (a := p) (xs := nmV zs) (fun j H' => Same H2 H' ∧ H' E = some (.lst (nmV (((zs.take j).filter D.endd).map fun t => (m.lookup t).getD 0)))) ⟨Same.new (Same.refl _) hE, upd_same⟩ (fun j H' _ h => SqL.of (h.1 _ _ ep)) ?_ ?_
    · rintro j x H6 hxj ⟨s6, e6⟩
      obtain ⟨t, htj, rfl⟩ := nm_at hxj
      obtain ⟨d, hd⟩ := gt (List.mem_of_getElem? htj)
      have ht := lt1 t d hd
      have s06 := s02.trans s6
      obtain ⟨ws, e, hz, hze, dze⟩ := dgL_end ok (hEa.ext s06) ht
      have tk : (zs.take (j + 1)).filter D.endd = (zs.take j).filter D.endd ++ [t].filter D.endd := by rw [List.take_add_one, htj, List.filter_append]; rfl
      refine ⟨rfl, _, rfl, r, _, _, _, rfl, rfl, hr3.ext s06, hr4, _, rfl, Ea, ws, (t : Nat), _, rfl, rfl, hz, atI_nat hze, ?_⟩
      cases hen : D.en.getD t none with
      | none =>
        have hq : D.endd t = false := by unfold Dcd.endd; rw [hen]; rfl
        rw [hen] at dze
        have : e = .non := by cases dze; rfl
        subst this
        refine ⟨_, rfl, iteF ⟨s6, ?_⟩⟩
        rw [tk, List.filter_cons, if_neg (by rw [hq]; decide)]; simpa using e6
      | some wd =>
        have hq : D.endd t = true := by unfold Dcd.endd; rw [hen]; rfl
        rw [hen] at dze
        have : decide (e = .non) = false := by cases dze; rfl
        refine ⟨_, rfl, ?_⟩
        rw [this]
        rcases (hm2.same s6).get t with ⟨no, _⟩ | ⟨x', v', yes, dg, hv⟩
        · rw [hd] at no; cases no
        refine iteT ⟨_, rfl, _, rfl, b, v', rfl, dg, _, e6, ?_, fun b' o e => ?_, ?_⟩
        · rw [nm_len, List.length_map]
          exact Nat.lt_of_le_of_lt (Nat.le_trans (List.length_filter_le _ _) (Nat.le_trans (List.length_take_le' _ _) (by omega : zs.length ≤ 40))) (by decide)
        · rw [upd_ne (ne_of_none e hE)]; exact s6 _ _ e
        · rw [upd_same, tk, List.filter_cons, if_pos hq, List.map_append, nm_app]
          have : v' = .int (x' : Nat) := hv
          rw [this]
          show _ = some (HO.lst (_ ++ [V.int (((m.lookup t).getD 0 : Nat))]))
          rw [yes]; rfl
    · rintro H6 ⟨s6, e6⟩
      rw [nm_len, List.take_length] at e6
      have s06 := s02.trans s6
      refine ⟨_, rfl, by decide, fun Z hZ => ⟨E, Z, _, rfl, rfl, by rw [upd_ne (ne_of_none e6 hZ)]; exact e6, upd_same, _, rfl, ?_⟩⟩
      have s7 : Same H6 (upd H6 Z (.lst [])) := Same.new (Same.refl _) hZ
      generalize upd H6 Z (.lst []) = H7 at s7 ⊢
      have e7 := s7 _ _ e6
      obtain ⟨q1, q2⟩ := kQ H7 (s06.trans s7)
      by_cases c : zs.filter D.endd = []
      · rw [c]
        refine iteF (q1 fun s j hd => ?_)
        cases he : D.endd s with
        | false => rfl
        | true =>
          have : s ∈ zs.filter D.endd := List.mem_filter.mpr ⟨(mz s).mpr (by rw [(hd1 s j).mpr hd]; rfl), he⟩
          rw [c] at this; cases this
      · have c' : (!decide (nmV ((zs.filter D.endd).map fun t => (m.lookup t).getD 0) = [])) = true := by
          unfold nmV
          simp only [List.map_eq_nil_iff, c, decide_false, Bool.not_false]
        rw [c']
        refine iteT ⟨_, rfl, E, ((zs.filter D.endd).map fun t => (m.lookup t).getD 0).map fun (x : Nat) => (x : Int), rfl, SqL.of (by rw [e7, List.map_map]; rfl), by rw [List.length_map, List.length_map]; exact List.length_pos_iff.mpr c, fun x hx hmin => ?_⟩
        obtain ⟨k, hk, rfl⟩ := List.mem_map.mp hx
        obtain ⟨s, hs, rfl⟩ := List.mem_map.mp hk
        obtain ⟨h1, h2⟩ := List.mem_filter.mp hs
        obtain ⟨d, hd⟩ := gt h1
        have hD : Ds D.ahd 0 s ((m.lookup s).getD 0) := by rw [hd]; exact (hd1 s d).mp hd
        refine q2 _ s hD h2 fun s' j hj he => ?_
        have h3 := (hd1 s' j).mpr hj
        have := hmin (j : Nat) (List.mem_map.mpr ⟨j, List.mem_map.mpr ⟨s', List.mem_filter.mpr ⟨(mz s').mpr (by rw [h3]; rfl), he⟩, by rw [h3]; rfl⟩, rfl⟩)
        omega
end
end My

set_option Elab.async false
set_option linter.all false
set_option maxRecDepth 100000
set_option maxHeartbeats 8000000
namespace My
open PySem PySem.Spec PyProof.Rows L2
section
variable {P : Program} {w : World} {K : PySem.W.Frag} {mg : Str → Option Value} {base : Heap}
theorem stray_at {p E : Addr} {σ : L2.St} {H : Hp} {c : Nat} {t : Int} {ss : List Nat} {Q : VK} (e5 : σ[5]? = some (some (.ref E))) (e4 : σ[4]? = some (some (.int t))) (e0 : σ[0]? = some (some (.ref p))) (hE : H E = some (.lst (nmV ss))) (hb : BoxAt H p c) (hc : c < 900000000)
    (q : ∀ b H', Kp p H H' → BoxAt H' p (c + 1) → (b = false → ss ≠ []) → Q (.bl b) H') :
    tOrV (tOp rEqNil (tVar 5) (tLst tNil)) (tAndV (tOp (rI0 fun i j => V.bl (decide (i < j))) (tVar 4) (tC (V.int 10))) (tOp rEq (tCall spTake [] E0 (tCons (tVar 0) (tCons (tC (V.int 9)) tNil))) (tC (V.int 0)))) σ H Q := by
  refine ⟨_, e5, by decide, fun Z hZ => ⟨E, Z, _, [], rfl, rfl, by rw [upd_ne (ne_of_none hE hZ)]; exact hE, upd_same, .inr rfl, decide ((nmV ss).length = 0), rfl, ?_⟩⟩
  have k1 : Kp p H (upd H Z (.lst [])) := (Kp.refl p H).new hZ
  have b1 := hb.new hZ (o := .lst [])
  generalize upd H Z (.lst []) = H1 at k1 b1 ⊢
  by_cases z : ss = []
  · rw [show decide ((nmV ss).length = 0) = true by rw [z]; rfl]
    exact iteT (q true H1 k1 (b1.mono (by omega)) fun h => nomatch h)
  · rw [show decide ((nmV ss).length = 0) = false by rw [nm_len]; exact decide_eq_false fun h => z (List.length_eq_zero_iff.mp h)]
    refine iteF ⟨_, e4, _, _, rfl, rfl, decide (t < 10), rfl, ite2 (fun _ => ?_) (fun _ => q false H1 k1 (b1.mono (by omega)) fun _ => z)⟩
    exact ⟨_, e0, p, _, _, rfl, b1, by omega, by omega, by omega, fun d o hd ho => ⟨rfl, q _ _ (k1.trans (Kp.refl p H1).upd) ho.at fun _ => z⟩⟩
theorem pick_at {p r E : Addr} {σ : L2.St} {H : Hp} {c : Nat} {sg : Nat} {xs : List V} {ss : List Nat} {t : Bool} {Q : VK} (e5 : σ[5]? = some (some (.ref E))) (e7 : σ[7]? = some (some (.bl t))) (e1 : σ[1]? = some (some (.ref r))) (e0 : σ[0]? = some (some (.ref p))) (hE : H E = some (.lst (nmV ss))) (nE : E ≠ p) (hb : BoxAt H p c) (hc : c < 900000000)
    (hr : SqL K H r xs) (hr0 : atI xs 0 = some (.int (sg : Nat))) (s1 : 1 ≤ sg) (s5 : sg ≤ 5) (ls : ss.length ≤ 5) (hs : ∀ a ∈ ss, a < sg) (ht : t = false → ss ≠ []) (q : ∀ (a : Nat) H', Kp p H H' → BoxAt H' p (c + 1) → a < sg → Q (.int (a : Nat)) H') :
    tIf (tB (tVar 7)) (tCall spTake [] E0 (tCons (tVar 0) (tCons (tOp (rIxL K) (tVar 1) (tC (V.int 0))) tNil)))
      (tOp (rIxL K) (tVar 5) (tCall spTake [] E0 (tCons (tVar 0) (tCons (tCB (fun xs H_1 Q => ∃ p ys, xs = [V.ref p] ∧ (SqL K H_1 p ys ∨ SqT K H_1 p ys) ∧ Q (V.int ↑ys.length) H_1) (tCons (tVar 5) tNil)) tNil)))) σ H Q := by
  refine ⟨_, e7, t, rfl, ?_⟩
  cases t with
  | true =>
    refine iteT ⟨_, e0, _, e1, r, xs, _, _, rfl, rfl, hr, hr0, p, _, _, rfl, hb, by omega, by omega, by omega, fun d o hd ho => q d _ (Kp.refl p H).upd ho.at (by omega)⟩
  | false =>
    have h0 := List.length_pos_iff.mpr (ht rfl)
    refine iteF ⟨_, e5, _, e0, _, e5, E, _, rfl, .inl (SqL.of hE), p, _, _, rfl, hb, by omega, by rw [nm_len]; omega, by rw [nm_len]; omega, fun d o hd ho => ?_⟩
    rw [nm_len] at hd
    have hd' : d < ss.length := by omega
    refine ⟨E, _, (d : Int), .int (ss[d] : Nat), rfl, rfl, SqL.of (by rw [upd_ne nE]; exact hE), atI_nat ?_, q _ _ (Kp.refl p H).upd ho.at (hs _ (List.getElem_mem hd'))⟩
    unfold nmV
    rw [List.getElem?_map, List.getElem?_eq_getElem hd']; rfl
theorem ok_law_line (T : Txt K mg) : FnOk P w K mg base CX0 2 T.f_law_line T.fd_law_line ["box", "plain"] (fun vs H Q _ => ∃ (p : Addr) (c : Nat) (r : Addr) (D : Dcd), vs = [.ref p, .ref r] ∧ BoxAt H p c ∧ c < 1000000 ∧ PartsAt K p H r D ∧
    ∀ l q H', Kp p H H' → BoxAt H' p (c + 1000) → SqT K (wo H' p) q (nmV l) → (∀ a ∈ l, a < D.sg) → l.length ≤ 1000 → Q (.ref q) H') := by
  refine T.F_law_line.ok sc_law_line (fun vs H Q E h => ?_) (fun cdv A outer s0 H vs Q E hr h => ?_)
  · obtain ⟨p, c, r, D, rfl, _⟩ := h; rfl
  · obtain ⟨p, c, r, D, rfl, hb, hc, pa, kQ⟩ := h
    refine ⟨_, (pss_cons (ps_asg (pe_tup (pa_cons pe_int (pa_cons (pe_lst pa_nil) pa_nil))) (pg_tup rfl (pgs_cons (pg_name (i := 2) sc_law_line.nd rfl (Or.inr rfl)) (pgs_cons (pg_name (i := 3) sc_law_line.nd rfl (Or.inl rfl)) pgs_nil))))
      (pss_cons (ps_for PassesOwn.never rfl (pi_range1 rfl T.z_range (pa_cons (pe_ix ix_list (pe_lst (pa_cons pe_int (pa_cons pe_int (pa_cons pe_int (pa_cons pe_int (pa_cons pe_int (pa_cons pe_int (pa_cons pe_int (pa_cons pe_int (pa_cons pe_int (pa_cons pe_int pa_nil))))))))))) (pe_call (ok_law_take T) (hr.mono (by decide)) rfl T.g_law_take T.F_law_take.kp T.b_law_take .nil pass0 (pa_cons (pv 0) (pa_cons pe_int pa_nil))) (fun _ _ => rfl)) pa_nil)) (pg_name (i := 4) sc_law_line.nd rfl (Or.inl rfl)) (pss_cons (ps_setLc (i := 5) (own := [("a", 6)]) (g := gName 6) (by rfl) sc_law_line.nd rfl rfl (sw_true rfl rfl rfl (by decide +kernel)) (pi_range1 rfl T.z_range (pa_cons (pe_ix ix_list (pv 1) pe_int (fun _ _ => rfl)) pa_nil)) (blkOk_by (own := [("a", 6)]) (N := N_law_line) (sc := defScope s_law_line) (by decide +kernel)) (fun _ _ _ _ _ => pg_name (i := 6) sc_law_line.nd rfl (Or.inl rfl)) (fun _ _ _ _ _ => (pts_one (PW.pt (pw_and (pt_cmp (pc_notN (pv 2))) (pw_and1 (pt_cmp (pc_notN (pe_ix (ix_listK (K := K) rfl) (pe_ix (ix_listK (K := K) rfl) (pe_ix (ix_listK (K := K) rfl) (pv 1) pe_int (fun _ _ => rfl)) (pv 2) (fun _ _ => rfl)) (pv 6) (fun _ _ => rfl))))))))) (fun _ _ _ _ _ => (pv 6)))
      (pss_cons (ps_set (i := 7) sc_law_line.nd rfl (Or.inl rfl) (pe_or (pe_cmpR (op_eq_nil (un0 hr)) (pv 5) (pe_lst pa_nil) (nomark _)) (pe_one (pe_and (pe_cmpR op_lt (pv 4) pe_int (nomark _)) (pe_one (pe_cmpR op_eq (pe_call (ok_law_take T) (hr.mono (by decide)) rfl T.g_law_take T.F_law_take.kp T.b_law_take .nil pass0 (pa_cons (pv 0) (pa_cons pe_int pa_nil))) pe_int (nomark _)))))))
      (pss_cons (ps_set (i := 6) sc_law_line.nd rfl (Or.inl rfl) (pe_ifExp (pt_val (pv 7)) (pe_call (ok_law_take T) (hr.mono (by decide)) rfl T.g_law_take T.F_law_take.kp T.b_law_take .nil pass0 (pa_cons (pv 0) (pa_cons (pe_ix ix_list (pv 1) pe_int (fun _ _ => rfl)) pa_nil))) (pe_ix ix_list (pv 5) (pe_call (ok_law_take T) (hr.mono (by decide)) rfl T.g_law_take T.F_law_take.kp T.b_law_take .nil pass0 (pa_cons (pv 0) (pa_cons (pe_callB call_len_seq (by rfl) T.z_len (by decide +kernel) (pa_cons (pv 5) pa_nil)) pa_nil))) (fun _ _ => rfl))))
      (pss_cons (ps_expr (pe_bm PySem.F.plainAttrs_list PySem.F.slot_list_append PySem.F.type_list_append mt_append (pv 3) (pa_cons (pv 6) pa_nil)))
      (pss_cons (ps_set (i := 8) sc_law_line.nd rfl (Or.inl rfl) (pe_ifExp (pt_cmp (pc_notN (pv 2))) (pe_ix ix_list (pe_ix ix_list (pe_ix ix_list (pv 1) pe_int (fun _ _ => rfl)) (pv 2) (fun _ _ => rfl)) (pv 6) (fun _ _ => rfl)) pe_non))
      (pss_one (ps_set (i := 2) sc_law_line.nd rfl (Or.inr rfl) (pe_ifExp (pt_cmp (pc_notN (pv 8))) (pe_ix ix_tup (pv 8) pe_int (fun _ _ => rfl)) pe_non)))))))))
      (pss_one (ps_ret (pe_callTy call_tuple_of (by rfl) T.z_tuple (by decide +kernel) (pa_cons (pv 3) pa_nil)))))), ?_⟩
    obtain ⟨Sa, Ea, hr1, hSa, hEa, ok⟩ := id pa
    have n1 := ok.n1
    have sg1 := ok.s1
    have sg5 := ok.s5
    refine ⟨by decide, fun L hL => ⟨(by show 2 ≤ sizeLine; decide), fun t ht => ?_⟩⟩
    have nLp : L ≠ p := (hb.ne hL).symm
    have k1 : Kp p H (upd (upd H L (.lst [])) t (.tup [.int 0, .ref L])) := ((Kp.refl p H).new hL).new ht
    have b1 := (hb.new hL (o := .lst [])).new ht (o := .tup [.int 0, .ref L])
    have eL1 : (upd (upd H L (.lst [])) t (.tup [.int 0, .ref L])) L = some (.lst (nmV [])) := by rw [upd_ne (ne_of_none upd_same ht)]; exact upd_same
    have et : (upd (upd H L (.lst [])) t (.tup [.int 0, .ref L])) t = some (.tup [.int 0, .ref L]) := upd_same
    generalize upd (upd H L (.lst [])) t (.tup [.int 0, .ref L]) = H1 at k1 b1 eL1 et ⊢
    refine ⟨t, _, rfl, .inl (.inl et), rfl, _, _, rfl, _, _, rfl, rfl, ?_⟩
    have v1 := Vw.box b1
    try dsimp only [L2.gName, L2.tSeq, L2.tAsg, L2.tRet, L2.tNext, L2.tPar3, L2.tPar]
    unfold L2.tFor L2.iRng1
    refine cons_at (EvN.at_ (evN_num (K := K) (n := 400) (evB_menuA rfl (evBA_cons (evB_I ((evN_c _).mono (by intro x hx; subst hx; constructor <;> omega))) (evBA_cons (evB_I ((evN_c _).mono (by intro x hx; subst hx; constructor <;> omega))) (evBA_cons (evB_I ((evN_c _).mono (by intro x hx; subst hx; constructor <;> omega))) (evBA_cons (evB_I ((evN_c _).mono (by intro x hx; subst hx; constructor <;> omega))) (evBA_cons (evB_I ((evN_c _).mono (by intro x hx; subst hx; constructor <;> omega))) (evBA_cons (evB_I ((evN_c _).mono (by intro x hx; subst hx; constructor <;> omega))) (evBA_cons (evB_I ((evN_c _).mono (by intro x hx; subst hx; constructor <;> omega))) (evBA_cons (evB_I ((evN_c _).mono (by intro x hx; subst hx; constructor <;> omega))) (evBA_cons (evB_I ((evN_c _).mono (by intro x hx; subst hx; constructor <;> omega))) (evBA_cons (evB_I ((evN_c _).mono (by intro x hx; subst hx; constructor <;> omega))) evBA_nil)))))))))))) v1 b1 (by omega) fun x H2 k2 b2 v2 g2 => ?_)
    obtain ⟨m, rfl, hm⟩ : ∃ m : Nat, x = m ∧ m < 400 := ⟨x.toNat, by omega, by omega⟩
    refine ⟨(m : Int), rfl, by omega, by omega, ?_⟩
    rw [Int.toNat_natCast]
    refine for_range (lo := 0) (n := m) (fun i σ H' => ∃ so l x4 x5 x6 x7 x8, σ = [some (.ref p), some (.ref r), some (onV so), some (.ref L), x4, x5, x6, x7, x8] ∧ Kp p H H' ∧ BoxAt H' p (c + 1 + 2 * i) ∧ H' L = some (.lst (nmV l)) ∧ (∀ a ∈ l, a < D.sg) ∧ l.length = i ∧ ∀ s, so = some s → s < D.st.length)
      ⟨some 0, [], _, _, _, _, _, rfl, k1.trans k2, b2.mono (by omega), k2 _ _ nLp eL1, fun a h => (by cases h), rfl, fun s h => by cases h; exact n1⟩ ?_ ?_
    · rintro i σ H3 hi ⟨so, l, x4, x5, x6, x7, x8, rfl, k3, b3, eL3, ol, ll, hso⟩
      have nLb : H3 L = some (.lst (nmV l)) := eL3
      have sW : ∀ {G : Hp}, Kp p H3 G → Same (wo H p) G := fun k => (k3.trans k).toW
      try dsimp only [L2.gName, L2.tSeq, L2.tAsg, L2.tRet, L2.tNext, L2.tPar3, L2.tPar]
      unfold L2.tLc
      refine ⟨_, rfl, r, _, _, _, rfl, rfl, hr1.ext k3.toW, atI_nat (j := 0) rfl, (D.sg : Int), rfl, by omega, by omega, fun E hE => ?_⟩
      rw [Int.toNat_natCast]
      have nE : E ≠ p := (b3.ne hE).symm
      have nEL : E ≠ L := fun z => by rw [z, eL3] at hE; cases hE
      refine lc_range (lo := 0) (n := D.sg) (fun j H' => Same H3 H' ∧ ∃ ss : List Nat, H' E = some (.lst (nmV ss)) ∧ (∀ a ∈ ss, a < D.sg) ∧ ss.length ≤ j) ⟨Same.new (Same.refl _) hE, [], upd_same, fun a h => (by cases h), Nat.le_refl _⟩ ?_ ?_
      · rintro j H4 hj ⟨s4, ss, e4, hs4, l4⟩
        rw [Int.zero_add]
        have yes : ∃ acc, H4 E = some (HO.lst acc) ∧ acc.length < sizeLine ∧ Same H3 (upd H4 E (.lst (acc ++ [V.int (j : Nat)]))) ∧ ∃ ss : List Nat, (upd H4 E (.lst (acc ++ [V.int (j : Nat)]))) E = some (.lst (nmV ss)) ∧ (∀ a ∈ ss, a < D.sg) ∧ ss.length ≤ j + 1 :=
          ⟨_, e4, by rw [nm_len]; exact Nat.lt_of_le_of_lt (by omega : ss.length ≤ 40) (by decide), fun x o e => by rw [upd_ne (ne_of_none e hE)]; exact s4 _ _ e, ss ++ [j], by rw [upd_same, nm_app]; rfl, fun a ha => by
            rcases List.mem_append.mp ha with z | z
            · exact hs4 a z
            · rw [List.mem_singleton.mp z]; exact hj, by rw [List.length_append]; simp; omega⟩
        cases so with
        | none => exact ⟨rfl, _, rfl, _, rfl, iteF (iteF ⟨s4, ss, e4, hs4, by omega⟩)⟩
        | some s =>
          have hs := hso s rfl
          have sw := sW (Kp.of s4)
          obtain ⟨rows, rr, zs, hw1, hw2, hz, lz, hent⟩ := dgL_row ok (hSa.ext sw) hs
          obtain ⟨ev, he1, he2⟩ := hent j hj
          refine ⟨rfl, _, rfl, _, rfl, iteT ⟨_, rfl, r, _, _, _, rfl, rfl, hr1.ext sw, atI_nat (j := 1) rfl, _, rfl, Sa, _, (s : Nat), _, rfl, rfl, hw1, atI_nat hw2, _, rfl, rr, _, (j : Nat), _, rfl, rfl, hz, atI_nat he1, _, rfl, ?_⟩⟩
          refine ite2 (fun _ => ⟨_, rfl, yes⟩) (fun _ => ⟨s4, ss, e4, hs4, by omega⟩)
      rintro H4 ⟨s4, ss, e4, hs4, l4⟩
      have k4 : Kp p H3 H4 := Kp.of s4
      refine stray_at rfl rfl rfl e4 (b3.same s4) (by omega) fun st H5 k5 b5 hst => ?_
      refine pick_at (K := K) rfl rfl rfl rfl (k5 _ _ nE e4) nE b5 (by omega) (hr1.ext (sW (k4.trans k5))) (atI_nat (j := 0) rfl) sg1 sg5 (by omega) hs4 hst fun a H6 k6 b6 ha => ?_
      have k36 := (k4.trans k5).trans k6
      have eL6 := k36 _ _ nLp eL3
      refine ⟨_, rfl, .inl ⟨rfl, _, SqL.of eL6⟩, _, rfl, L, _, _, rfl, rfl, eL6, by rw [nm_len]; exact Nat.lt_of_le_of_lt (by omega : l.length ≤ 400) (by decide), ?_⟩
      have k7 : Kp p H (upd H6 L (.lst (nmV l ++ [V.int (a : Nat)]))) := (k3.trans k36).free hL
      have b7 : BoxAt (upd H6 L (.lst (nmV l ++ [V.int (a : Nat)]))) p (c + 1 + 2 * (i + 1)) := (b6.other nLp.symm).mono (by omega)
      have e7 : (upd H6 L (.lst (nmV l ++ [V.int (a : Nat)]))) L = some (.lst (nmV (l ++ [a]))) := by rw [upd_same, nm_app]; rfl
      generalize upd H6 L (.lst (nmV l ++ [V.int (a : Nat)])) = H7 at k7 b7 e7 ⊢
      have ol7 : ∀ b ∈ l ++ [a], b < D.sg := fun b hb => by
        rcases List.mem_append.mp hb with z | z
        · exact ol b z
        · rw [List.mem_singleton.mp z]; exact ha
      have ll7 : (l ++ [a]).length = i + 1 := by rw [List.length_append, ll]; rfl
      cases so with
      | none =>
        exact ⟨_, rfl, _, rfl, iteF ⟨_, rfl, _, rfl, iteF ⟨none, l ++ [a], _, _, _, _, _, rfl, k7, b7, e7, ol7, ll7, fun s h => nomatch h⟩⟩⟩
      | some s =>
        have hs := hso s rfl
        have sw := k7.toW
        obtain ⟨rows, rr, zs, hw1, hw2, hz, lz, hent⟩ := dgL_row ok (hSa.ext sw) hs
        obtain ⟨ev, he1, he2⟩ := hent a ha
        refine ⟨_, rfl, _, rfl, iteT ⟨_, rfl, r, _, _, _, rfl, rfl, hr1.ext sw, atI_nat (j := 1) rfl, _, rfl, Sa, _, (s : Nat), _, rfl, rfl, hw1, atI_nat hw2, _, rfl, rr, _, (a : Nat), _, rfl, rfl, hz, atI_nat he1, ?_⟩⟩
        have oe : okE D.st.length (D.at s a) := ok.at
        cases hat : D.at s a with
        | none =>
          rw [hat] at he2
          have : ev = .non := by cases he2; rfl
          subst this
          exact ⟨_, rfl, _, rfl, iteF ⟨none, l ++ [a], _, _, _, _, _, rfl, k7, b7, e7, ol7, ll7, fun s h => nomatch h⟩⟩
        | some gw =>
          obtain ⟨g, w'⟩ := gw
          rw [hat] at he2
          obtain ⟨og, ow⟩ := oe g w' hat
          obtain ⟨b2, ys, rfl, hy, hys⟩ := he2.tup_of
          have hg : ys[0]? = some (.int (g : Nat)) := by
            cases hys with
            | cons h _ => cases h; rfl
          exact ⟨_, rfl, _, rfl, iteT ⟨_, rfl, b2, ys, (0 : Nat), _, rfl, rfl, hy, atI_nat hg, some g, l ++ [a], _, _, _, _, _, rfl, k7, b7, e7, ol7, ll7, fun s h => by cases h; exact og⟩⟩
    · rintro σ H3 ⟨so, l, x4, x5, x6, x7, x8, rfl, k3, b3, eL3, ol, ll, hso⟩
      refine ⟨_, rfl, L, _, rfl, .inl ⟨SqL.of eL3, fun q hq => kQ l q _ (k3.new hq) ((b3.new hq).mono (by omega)) (SqT.of ?_) ol (by omega)⟩⟩
      rw [wo_ne (b3.ne hq).symm]; exact upd_same
end
end My

set_option Elab.async false
set_option linter.all false
set_option maxRecDepth 100000
set_option maxHeartbeats 4000000
/-! A method called by keywords alone. -/
namespace My
open PySem PySem.Spec PyProof.Rows L2
section
variable {X : Cx}
def tMethK (C : Addr) (m : Str) (sp : Sp) (gV : List V → List V → List V) (E : XK) (ta : TE) (tk : TA) : TE := fun σ H Q => ta σ H fun x H1 => ∃ a dx fs, x = .ref a ∧ H1 a = some (.ins C dx fs) ∧ fs.lookup m = none ∧ tk σ H1 fun zs H2 => sp (gV [.ref a] zs) H2 Q E
theorem pe_methK {CX : CXT} {k : Nat} {f C : Addr} {fd : FuncData} {ps ks : List Str} {sp : Sp} {E : XK} {m : Str} {pos apos : Pos} {o : Expr} {kws : List Keyword} {ta : TE} {tk : TA} {g : List Value → List Value → List Value} {gV : List V → List V → List V} {pl : Sem Bool}
    (he : PE X o ta) (c : Cls X.K C) (hm : Meth X.K C m f) (F : FnOk X.prog X.w X.K X.mg X.base CX k f fd ps sp) (hr : Room k X.A) (hb : KBinds X.K fd ps ks g gV) (hx : Passes CX X E)
    (hkw : PK X kws tk) (hall : (backToKw pos (keywordEach kws X.env)).all (·.1.isSome) = true := by rfl) (hks : (backToKw pos (keywordEach kws X.env)).filterMap (·.1) = ks := by rfl)
    (hpl : ((backTo pos (starEach [] X.env)).any (·.1) || (backToKw pos (keywordEach kws X.env)).any (·.1.isNone)) = false := by rfl)
    (ht : eval (.Call (.Attribute o m apos) [] kws pos) X.env = (do
      let ov ← eval o X.env
      standAt apos.atName
      let (f, first) ← holding [ov] (getMethod ov m pl)
      callWith pos f first (backTo pos (starEach [] X.env)) (backToKw pos (keywordEach kws X.env))) := by rfl) :
    PE X (.Call (.Attribute o m apos) [] kws pos) (tMethK C m sp gV E ta tk) := by
  refine ⟨fun pins s σ H Q I h => ?_⟩
  refine PySem.W.methodCall_KW (pl := pl) (thn (he.run pins s σ H _ I h) fun u s1 ⟨x, H1, I1, rx, a, dx, fs, ex, ea, l, q⟩ => ?_) ht
  subst ex
  obtain rfl : u = Value.ref a := rx
  refine getmeth_ok I1 ea c hm l ?_
  refine PySem.W.callWith_KW0 (first := [.ref a]) (h₀ := X.base) I.ok.mod.kin hm.kp hall (thn (hkw.run pos pins s1 σ H1 _ I1 q) ?_) hpl
  rintro ws s2 ⟨zs, H2, I2, rz, q2⟩
  refine ⟨I2.kIn, ?_⟩
  rw [hks]
  exact run_fnk (us := [.ref a]) (vs := [.ref a]) F hr hb hx I2 (.cons rfl .nil) rz q2
end
section
variable {X : Cx} {CX : CXT} {k : Nat} {f C : Addr} {fd : FuncData} {ps : List Str} {sp : Sp} {E : L2.St → XK} {m : Str} {pos apos : Pos} {e o : Expr} {es : List Expr} {ta : TE} {t : TA}
/-- o.m(e, ..) within a try -/
def tMethS (C : Addr) (m : Str) (sp : Sp) (E : L2.St → XK) (ta : TE) (t : TA) : TE := fun σ H Q => ta σ H fun x H1 => ∃ a dx fs, x = .ref a ∧ H1 a = some (.ins C dx fs) ∧ fs.lookup m = none ∧
  t σ H1 fun vs H2 => sp (x :: vs) H2 Q (E σ)
theorem pe_methS {pl : Sem Bool} (he : PE X o ta) (c : Cls X.K C) (hm : Meth X.K C m f) (F : FnOk X.prog X.w X.K X.mg X.base CX k f fd ps sp) (hr : Room k X.A) (hb : Binds X.K fd ps []) (hx : ∀ σ, PassesAt CX X σ (E σ)) (ha : PA X (e :: es) t)
    (hst : starEach (e :: es) X.env = (false, eval e X.env) :: starEach es X.env := by rfl) (hpl : (backTo pos (starEach es X.env)).any (·.1) = false := by rfl)
    (ht : eval (.Call (.Attribute o m apos) (e :: es) [] pos) X.env = (do
      let ov ← eval o X.env
      standAt apos.atName
      let (f, first) ← holding [ov] (getMethod ov m pl)
      callWith pos f first (backTo pos (starEach (e :: es) X.env)) (backToKw pos (keywordEach [] X.env))) := by rfl) :
    PE X (.Call (.Attribute o m apos) (e :: es) [] pos) (tMethS C m sp E ta t) := by
  refine ⟨fun pins s σ H Q I h => ?_⟩
  refine PySem.W.methodCall_KW (pl := pl) (thn (he.run pins s σ H _ I h) fun u s1 ⟨x, H1, I1, rx, a, dx, fs, ex, ea, l, q⟩ => ?_) ht
  subst ex
  obtain rfl : u = Value.ref a := rx
  refine getmeth_ok I1 ea c hm l ?_
  refine PySem.W.callWith_K (first := [.ref a]) (h₀ := X.base) I.ok.mod.kin hm.kp (thn (ha.run pos pins s1 σ H1 _ I1 q) fun us s2 ⟨vs, H2, I2, r, q2⟩ => ⟨I2.kIn, ?_⟩) hst hpl
  exact run_fnS (us := .ref a :: us) (vs := .ref a :: vs) F hr hb (hx σ) I2 (.cons rfl r) q2
end
end My

set_option Elab.async false
set_option linter.all false
set_option maxRecDepth 100000
set_option maxHeartbeats 8000000
namespace My
open PySem PySem.Spec PyProof.Rows L2
/-- what is told of a line -/
def txD : Option (List Nat) → PyData | none => .none | some u => .str (S u)
def stD1 : Option Nat → PyData | none => .none | some s => .int (s : Nat)
def resD (D : Dcd) (l : List Nat) : PyData := .list [txD (D.wr l), stD1 (D.aft l)]
theorem res_dg {K : PySem.W.Frag} {H : Hp} {D : Dcd} {l : List Nat} {Z : Addr} (h : H Z = some (.lst [txV (D.wr l), onV (D.aft l)])) : Dg K H false (.ref Z) (resD D l) := by
  refine .lst (SqL.of h) (fun z => by cases z) (.cons ?_ (.cons ?_ .nil))
  · cases D.wr l with
    | none => exact .non
    | some u => exact .str _
  · cases D.aft l with
    | none => exact .non
    | some u => exact .int _
theorem res_sh {D : Dcd} (ok : D.ok) {l : List Nat} (hl : l.length ≤ 1000) : Sh (resD D l) := by
  have f1 : Fit (txD (D.wr l)) 0 4000 := by
    cases h : D.wr l with
    | none => exact (Fit.none (k := 0)).mono (Nat.le_refl _) (by omega)
    | some u =>
      obtain ⟨h1, h2⟩ := ok.wr h
      exact Fit.str (by omega) fun c hc => h1.lt c hc
  have f2 : Fit (stD1 (D.aft l)) 0 21 := by
    cases h : D.aft l with
    | none => exact (Fit.none (k := 0)).mono (Nat.le_refl _) (by omega)
    | some s =>
      have : s < D.st.length := by
        unfold Dcd.aft at h
        cases hg : D.go 0 l with
        | none => rw [hg] at h; cases h
        | some q =>
          obtain ⟨t, u⟩ := q
          rw [hg] at h
          cases h
          exact (ok.go l 0 t u ok.n1 hg).1
      have n40 := ok.n40
      exact Fit.nat (by omega)
  exact (Fit.list (FitAll.cons f1 (FitAll.cons f2 FitAll.nil))).sh (by omega) (by omega)
theorem ln_w {l : List Nat} (hl : l.length ≤ 1000) (ho : ∀ b ∈ l, b < 1000) : (lnD l).weight ≤ 100000 := by
  have := (Fit.tuple (k := 0) (FitAll.nats (ns := l) fun n hn => by have := ho n hn; omega)).w
  exact Nat.le_trans this (by omega)
theorem plAll_ints : ∀ l : List Nat, plAll (l.map fun (a : Nat) => PyData.int a) = true
  | [] => by unfold plAll; rfl
  | a :: l => by
    rw [List.map_cons]
    unfold plAll
    rw [plAll_ints l, Bool.and_true]
    unfold plD; rfl
theorem eqv_ln (l : List Nat) : PyData.eqv (lnD l) (lnD l) = true := by
  have h : plD (lnD l) = true := by unfold lnD plD; exact plAll_ints l
  exact (eqv_pl _ _ h h).mpr rfl
theorem dep_ints : ∀ l : List Nat, PyData.depthAll (l.map fun (a : Nat) => PyData.int a) = 0
  | [] => rfl
  | a :: l => by
    rw [List.map_cons]
    unfold PyData.depthAll
    rw [dep_ints l]
    unfold PyData.depth; rfl
theorem shaped_ln (l : List Nat) : SeqAt.shaped (lnD l) = true := by
  refine shaped_of ?_ ?_
  · unfold lnD PyData.canLay0
    exact canAll _ fun a _ => by unfold PyData.canLay0; rfl
  · unfold lnD PyData.depth; rw [dep_ints l]; decide
section
variable {P : Program} {w : World} {K : PySem.W.Frag} {mg : Str → Option Value} {base : Heap}
theorem kb_shortest_line_decoder (T : Txt K mg) : KBinds K T.fd_shortest_line ["decoder"] ["decoder"] (fun us ws => match us, ws with | [], [x0] => [x0] | _, _ => []) (fun us ws => match us, ws with | [], [x0] => [x0] | _, _ => []) := by
  obtain ⟨oc, od, kV, doc, pm, an, cdv, ct, osl, e, _, _⟩ := T.F_shortest_line.ex
  refine ⟨fun s us ws _ hl => ?_, fun r rz => ?_⟩
  · match us, ws, hl with
    | [], [x0], _ =>
      rw [e]
      exact .of_eq rfl
  · match r, rz with
    | .nil, .cons r0 (.nil) => exact .cons r0 (.nil)
    | .nil, .nil => exact .nil
    | .nil, .cons _ (.cons _ _) => exact .nil
    | .cons _ _, _ => exact .nil

theorem ok_law_shortest_right (T : Txt K mg) : FnOk P w K mg base CX0 4 T.f_law_shortest_right T.fd_law_shortest_right ["made", "plain"] (fun vs H Q _ => ∃ (p r : Addr) (D : Dcd), vs = [.ref p, .ref r] ∧ DecAt K T.C_Decoder H p D ∧ LPl K H r D ∧ ∀ H', Same H H' → Q (.bl true) H') := by
  refine T.F_law_shortest_right.ok sc_law_shortest_right (fun vs H Q E h => ?_) (fun cdv A outer s0 H vs Q E hr h => ?_)
  · obtain ⟨p, r, D, rfl, _⟩ := h; rfl
  · obtain ⟨p, r, D, rfl, dec, lp, kQ⟩ := h
    refine ⟨_, (pss_cons (ps_par (i := 2) (j := 3) (by rfl) sc_law_shortest_right.nd rfl rfl (by decide) rfl rfl (pa_cons (pe_call (ok_law_least T) (hr.mono (by decide)) rfl T.g_law_least T.F_law_least.kp T.b_law_least .nil pass0 (pa_cons (pv 1) pa_nil)) (pa_cons (pe_call (ok_shortest_line T) (hr.mono (by decide)) rfl T.g_shortest_line T.F_shortest_line.kp T.b_shortest_line .nil passL (pa_cons (pv 0) pa_nil)) pa_nil)) (by rfl))
      (pss_cons (ps_if (PW.pt (pw_or (pt_cmp (pc_isN (pv 2))) (pw_or1 (pt_cmp (pc_isN (pv 3)))))) (pss_one (ps_ret (pe_and (pe_cmp (pc_isN (pv 2)) rfl) (pe_one (pe_cmp (pc_isN (pv 3)) rfl))))) pss_nil)
      (pss_cons (ps_if (PW.pt (pw_or (pt_not (pt_val (pe_callB call_isi (by rfl) T.z_isinstance (by decide +kernel) (pa_cons (pv 3) (pa_cons (pe_bltn (v := .ty "tuple") (u := .type "tuple") (by rfl) T.z_tuple (by decide +kernel) rfl) pa_nil))))) (pw_or1 (pt_cmpR op_ne (pe_callB call_len_seq (by rfl) T.z_len (by decide +kernel) (pa_cons (pv 3) pa_nil)) (pv 2) (nomark _))))) (pss_one (ps_ret pe_bl)) pss_nil)
      (pss_cons (ps_if (pt_cmpR (op_ne_nil (un0 hr)) (pe_lc (own := [("a", 4)]) (g := gName 4) (by rfl) sc_law_shortest_right.nd (pi_tup (pv 3)) (blkOk_by (own := [("a", 4)]) (N := N_law_shortest_right) (sc := defScope s_law_shortest_right) (by decide +kernel)) (fun _ _ _ _ _ => pg_name (i := 4) sc_law_shortest_right.nd rfl (Or.inl rfl)) (fun _ _ _ _ _ => (pts_one (PW.pt (pw_or (pt_val (pe_callB (call_isi_K (K := K) rfl) (by rfl) T.z_isinstance (by decide +kernel) (pa_cons (pv 4) (pa_cons (pe_bltn (v := .ty "bool") (u := .type "bool") (by rfl) T.z_bool (by decide +kernel) rfl) pa_nil)))) (pw_or (pt_not (pt_val (pe_callB (call_isi_K (K := K) rfl) (by rfl) T.z_isinstance (by decide +kernel) (pa_cons (pv 4) (pa_cons (pe_bltn (v := .ty "int") (u := .type "int") (by rfl) T.z_int (by decide +kernel) rfl) pa_nil))))) (pw_or (pt_cmpR op_lt (pv 4) pe_int (nomark _)) (pw_or1 (pt_cmpR op_ge (pv 4) (pe_ix (ix_listK (K := K) rfl) (pv 1) pe_int (fun _ _ => rfl)) (nomark _))))))))) (fun _ _ _ _ _ => (pv 4))) (pe_lst pa_nil) (nomark _)) (pss_one (ps_ret pe_bl)) pss_nil)
      (pss_one (ps_ret (pe_and (pe_cmp (pc_notN (pe_call (ok_law_written T) (hr.mono (by decide)) rfl T.g_law_written T.F_law_written.kp T.b_law_written .nil pass0 (pa_cons (pv 1) (pa_cons (pv 3) pa_nil)))) rfl) (pe_one (pe_cmpR (op_eqD (un64 hr)) (pe_callKS (E := fun _ => E0) (ok_shortest_line T) (hr.mono (by decide)) rfl T.g_shortest_line T.F_shortest_line.kp (kb_shortest_line_decoder T) (fun σ pins H s e s2 I c => passL pins σ H s e s2 I c) (pk_cons (pv 0) pk_nil)) (pv 3) (nomark _)))))))))), ?_⟩
    have ok := lp.ok
    have n40 := ok.n40
    have n1 := ok.n1
    refine ⟨_, rfl, r, D, rfl, lp, fun H1 s1 => ?_⟩
    have sg5 := ok.s5
    have tyt : ∀ {H' : Hp} {q : Addr} {l : List Nat}, H' q = some (.tup (nmV l)) → Dg K H' false (.ref q) (lnD l) := fun h => ln_dg (SqT.of h)
    refine ⟨fun hno => ?_, fun k s hD he hmin => ?_⟩
    · refine ⟨_, rfl, .ref p, rfl, .inl ⟨p, D, rfl, dec.ext s1, fun v H2 s2 ov so => ?_⟩⟩
      cases hsl : D.sl with
      | some l =>
        rw [hsl] at so
        obtain ⟨⟨s', _, h1, h2, _⟩, _⟩ := so
        rw [hno s' _ h2] at h1; cases h1
      | none =>
        rw [hsl] at ov
        obtain rfl : v = .non := ov
        refine ⟨_, _, rfl, ?_⟩
        exact ⟨_, rfl, _, rfl, iteT (iteT ⟨_, rfl, true, rfl, iteT ⟨_, rfl, kQ H2 (s1.trans s2)⟩⟩)⟩
    · refine ⟨_, rfl, .ref p, rfl, .inl ⟨p, D, rfl, dec.ext s1, fun v H2 s2 ov so => ?_⟩⟩
      cases hsl : D.sl with
      | none =>
        rw [hsl] at so
        rw [so s k hD] at he; cases he
      | some l =>
        rw [hsl] at ov so
        obtain ⟨q, rfl, eq⟩ := ov
        obtain ⟨⟨s', gl, h1, h2, h3⟩, l40⟩ := so
        have lk : l.length = k := by
          have a1 := hmin s' _ h2 h1
          rcases Nat.lt_or_ge k l.length with z | z
          · rw [h3 s k hD z] at he; cases he
          · omega
        have t2 := s1.trans s2
        refine ⟨_, _, rfl, ?_⟩
        refine ⟨_, rfl, _, rfl, iteF ⟨_, rfl, _, rfl, iteF ?_⟩⟩
        refine ⟨_, rfl, _, _, _, _, true, rfl, .ty _, (tyt eq).ty, kit_tupD _, _, rfl, iteF ⟨_, rfl, q, _, rfl, .inr (SqT.of eq), _, rfl, rfl, _, rfl, ?_⟩⟩
        have ln0 : (!decide (V.int ((nmV l).length : Nat) = V.int (k : Nat))) = false := by rw [nm_len, lk, decide_eq_true rfl]; rfl
        rw [ln0]
        refine iteF ?_
        have n0 : 0 ≤ sizeLine := by decide
        refine ⟨_, rfl, q, rfl, ⟨_, SqT.of eq⟩, fun E hE => ?_⟩
        refine lc_tup (K := K) (a := q) (xs := nmV l) (fun i H' => Same H2 H' ∧ H' E = some (.lst [])) ⟨Same.new (Same.refl _) hE, upd_same⟩ (fun i H' _ h => SqT.of (h.1 _ _ eq)) ?_ ?_
        · rintro i x H3 hx ⟨s3, e3⟩
          obtain ⟨b, hb, rfl⟩ := nm_at hx
          have hbl := gl.2 b (List.mem_of_getElem? hb)
          obtain ⟨xs0, z1, z2⟩ := (lp.ext (t2.trans s3)).zero
          have ty := (Dg.int (K := K) (H := H3) (m := false) (b : Int)).ty
          refine ⟨rfl, _, rfl, _, _, _, _, false, rfl, .ty _, ty, kit_blD (.int b), _, rfl, iteF ⟨_, rfl, _, _, _, _, true, rfl, .ty _, ty, kit_numD (.int b), _, rfl, iteF ?_⟩⟩
          refine ⟨_, rfl, _, _, rfl, rfl, _, rfl, ite2 (fun z => by have := of_decide_eq_true z; omega) (fun _ => ?_)⟩
          refine ⟨_, rfl, _, rfl, r, xs0, _, _, rfl, rfl, z1, z2, _, _, rfl, rfl, _, rfl, ite2 (fun z => by have := of_decide_eq_true z; omega) (fun _ => ⟨s3, e3⟩)⟩
        · rintro H3 ⟨s3, e3⟩
          refine ⟨n0, fun Z hZ => ⟨E, Z, _, rfl, rfl, by rw [upd_ne (ne_of_none e3 hZ)]; exact e3, upd_same, _, rfl, ?_⟩⟩
          have s4 : Same H3 (upd H3 Z (.lst [])) := Same.new (Same.refl _) hZ
          generalize upd H3 Z (.lst []) = H4 at s4 ⊢
          refine iteF ?_
          have t4 := (t2.trans s3).trans s4
          have eq4 := (s3.trans s4) _ _ eq
          refine ⟨_, rfl, _, rfl, r, q, D, l, rfl, lp.ext t4, SqT.of eq4, gl.2, ?_, fun H5 s5 => ?_⟩
          · omega
          obtain ⟨⟨w', hw'⟩, _⟩ := id gl
          obtain ⟨wd, hwd⟩ : ∃ wd, D.en.getD s' none = some wd := by
            unfold Dcd.endd at h1
            exact Option.isSome_iff_exists.mp h1
          have wr : D.wr l = some (w' ++ wd) := by unfold Dcd.wr; rw [hw']; show (D.en.getD s' none).map _ = _; rw [hwd]; rfl
          rw [wr]
          have t5 := t4.trans s5
          refine ⟨true, rfl, iteT ⟨_, rfl, .ref p, rfl, .inl ⟨p, D, rfl, dec.ext t5, fun v6 H6 s6 ov6 _ => ?_⟩⟩⟩
          rw [hsl] at ov6
          obtain ⟨q6, rfl, eq6⟩ := ov6
          refine ⟨_, rfl, lnD l, lnD l, dg_dp _ _ (ln_dg (SqT.of eq6)), dg_dp _ _ (ln_dg (SqT.of (s6 _ _ (s5 _ _ eq4)))), shaped_ln l, shaped_ln l, ?_⟩
          rw [eqv_ln]
          exact kQ _ (t5.trans s6)
theorem kbm_Decoder_state_after_line (T : Txt K mg) : KBinds K T.fd_Decoder_state_after ["self", "line"] ["line"] (fun us ws => match us, ws with | [x0], [x1] => [x0, x1] | _, _ => []) (fun us ws => match us, ws with | [x0], [x1] => [x0, x1] | _, _ => []) := by
  obtain ⟨oc, od, kV, doc, pm, an, cdv, ct, osl, e, _, _⟩ := T.F_Decoder_state_after.ex
  refine ⟨fun s us ws _ hl => ?_, fun r rz => ?_⟩
  · match us, ws, hl with
    | [x0], [x1], _ =>
      rw [e]
      exact .of_eq rfl
  · match r, rz with
    | .cons r0 .nil, .cons r1 .nil => exact .cons r0 (.cons r1 .nil)
    | .nil, _ => exact .nil
    | .cons _ .nil, .nil => exact .nil
    | .cons _ .nil, .cons _ (.cons _ _) => exact .nil
    | .cons _ (.cons _ _), _ => exact .nil
theorem kbm_Decoder_written_line (T : Txt K mg) : KBinds K T.fd_Decoder_written ["self", "line"] ["line"] (fun us ws => match us, ws with | [x0], [x1] => [x0, x1] | _, _ => []) (fun us ws => match us, ws with | [x0], [x1] => [x0, x1] | _, _ => []) := by
  obtain ⟨oc, od, kV, doc, pm, an, cdv, ct, osl, e, _, _⟩ := T.F_Decoder_written.ex
  refine ⟨fun s us ws _ hl => ?_, fun r rz => ?_⟩
  · match us, ws, hl with
    | [x0], [x1], _ =>
      rw [e]
      exact .of_eq rfl
  · match r, rz with
    | .cons r0 .nil, .cons r1 .nil => exact .cons r0 (.cons r1 .nil)
    | .nil, _ => exact .nil
    | .cons _ .nil, .nil => exact .nil
    | .cons _ .nil, .cons _ (.cons _ _) => exact .nil
    | .cons _ (.cons _ _), _ => exact .nil
theorem ok_law_line_right (T : Txt K mg) : FnG P w K mg base CX0 6 T.f_law_line_right T.fd_law_line_right ["made", "plain", "line", "first"] (fun vs H Q _ => ∃ (p r a : Addr) (D : Dcd) (f : Int) (l : List Nat), vs = [.ref p, .ref r, .ref a, .int f] ∧ DecAt K T.C_Decoder H p D ∧ LPl K H r D ∧ SqT K H a (nmV l) ∧ (∀ b ∈ l, b < D.sg) ∧ l.length ≤ 1000 ∧ ∀ H', Same H H' → Q (.bl true) H') := by
  refine T.F_law_line_right.okG sc_law_line_right (fun vs H Q E h => ?_) (fun cdv A outer s0 H vs Q E hgd hr h => ?_)
  · obtain ⟨p, r, a, D, f, l, rfl, _⟩ := h; rfl
  · obtain ⟨p, r, a, D, f, l, rfl, dec, lp, ha, ol, ll, kQ⟩ := h
    have hun := un64 hr
    refine ⟨_, (pss_cons (ps_set (i := 4) sc_law_line_right.nd rfl (Or.inl rfl) (pe_call (ok_law_run T) (hr.mono (by decide)) rfl T.g_law_run T.F_law_run.kp T.b_law_run .nil pass0 (pa_cons (pv 1) (pa_cons (pv 2) pa_nil))))
      (pss_cons (ps_set (i := 5) sc_law_line_right.nd rfl (Or.inl rfl) (pe_callB (call_reprG hgd hun) (by rfl) T.z_repr (by decide +kernel) (pa_cons (pe_lst (pa_cons (pe_call (ok_law_written T) (hr.mono (by decide)) rfl T.g_law_written T.F_law_written.kp T.b_law_written .nil pass0 (pa_cons (pv 1) (pa_cons (pv 2) pa_nil))) (pa_cons (pe_ifExp (pt_cmp (pc_isN (pv 4))) pe_non (pe_ix ix_list (pv 4) pe_int (fun _ _ => rfl))) pa_nil))) pa_nil)))
      (pss_cons (ps_if (pt_cmpR op_eq (pv 3) pe_int (nomark _)) (pss_cons (ps_set (i := 6) sc_law_line_right.nd rfl (Or.inl rfl) (pe_meth (pv 0) T.cl_Decoder T.m_Decoder_written (ok_Decoder_written T) (hr.mono (by decide)) T.b_Decoder_written .nil passL (pa_cons (pv 2) pa_nil)))
      (pss_one (ps_ret (pe_cmpR op_eq (pe_callB (call_reprG hgd hun) (by rfl) T.z_repr (by decide +kernel) (pa_cons (pe_lst (pa_cons (pv 6) (pa_cons (pe_methK (pv 0) T.cl_Decoder T.m_Decoder_state_after (ok_Decoder_state_after T) (hr.mono (by decide)) (kbm_Decoder_state_after_line T) passL (pk_cons (pv 2) pk_nil)) pa_nil))) pa_nil)) (pv 5) (nomark _))))) pss_nil)
      (pss_cons (ps_set (i := 7) sc_law_line_right.nd rfl (Or.inl rfl) (pe_meth (pv 0) T.cl_Decoder T.m_Decoder_state_after (ok_Decoder_state_after T) (hr.mono (by decide)) T.b_Decoder_state_after .nil passL (pa_cons (pv 2) pa_nil)))
      (pss_one (ps_ret (pe_cmpR op_eq (pe_callB (call_reprG hgd hun) (by rfl) T.z_repr (by decide +kernel) (pa_cons (pe_lst (pa_cons (pe_methK (pv 0) T.cl_Decoder T.m_Decoder_written (ok_Decoder_written T) (hr.mono (by decide)) (kbm_Decoder_written_line T) passL (pk_cons (pv 2) pk_nil)) (pa_cons (pv 7) pa_nil))) pa_nil)) (pv 5) (nomark _)))))))), ?_⟩
    have ok := lp.ok
    have sg5 := ok.s5
    obtain ⟨⟨dx, Sa, Ea, ep, hs, he⟩, _⟩ := id dec
    have dl : ∀ {H' : Hp}, Same H H' → Dg K H' false (.ref a) (lnD l) := fun s => ln_dg (ha.ext s)
    have wl := ln_w ll fun b hb => by have := ol b hb; omega
    obtain ⟨sh1, sh2, sh3⟩ := res_sh ok ll
    have two : 2 ≤ sizeLine := by decide
    refine ⟨_, rfl, _, rfl, r, a, D, l, rfl, lp, ha, ol, ll, fun v H1 s1 rv hbd => ?_⟩
    try dsimp only [L2.gName, L2.tSeq, L2.tAsg]
    refine ⟨_, rfl, _, rfl, r, a, D, l, rfl, lp.ext s1, ha.ext s1, ol, ll, fun H2 s2 => ?_⟩
    have s02 := s1.trans s2
    have two' : ∀ Q' : VK, Q' (onV (D.aft l)) H2 → tIf (tB (tIsN (tVar 4))) (tC V.non) (tOp (rIxL K) (tVar 4) (tC (V.int 0))) (List.set (L2.start N_law_line_right [V.ref p, V.ref r, V.ref a, V.int f]) 4 (some v)) H2 Q' := fun Q' q => by
      unfold Dcd.aft at q
      cases hgo : D.go 0 l with
      | none =>
        rw [hgo] at rv q
        obtain rfl : v = .non := rv
        exact ⟨_, rfl, _, rfl, iteT q⟩
      | some pq =>
        obtain ⟨t, ws⟩ := pq
        rw [hgo] at rv q
        obtain ⟨x, rfl, ex⟩ := rv
        exact ⟨_, rfl, _, rfl, iteF ⟨_, rfl, x, _, (0 : Nat), _, rfl, rfl, SqL.of (s2 _ _ ex), atI_nat (j := 0) rfl, q⟩⟩
    refine two' _ ⟨two, fun Z hZ => ⟨_, resD D l, false, rfl, res_dg upd_same, sh1, sh2, sh3, ?_⟩⟩
    have s3 : Same H (upd H2 Z (.lst [txV (D.wr l), onV (D.aft l)])) := Same.new s02 hZ
    generalize upd H2 Z (.lst [txV (D.wr l), onV (D.aft l)]) = H3 at s3 ⊢
    refine ⟨_, rfl, rfl, _, rfl, ite2 (fun _ => ?_) (fun _ => ?_)⟩
    · refine ⟨_, rfl, p, dx, _, rfl, s3 _ _ ep, dfs_no (by decide) (by decide) (by decide) (by decide), _, rfl, p, .ref a, D, lnD l, false, rfl, dec.ext s3, dl s3, wl, .inr ⟨l, rfl, ol, fun H4 s4 => ?_⟩⟩
      have t4 := s3.trans s4
      refine ⟨_, rfl, _, rfl, p, dx, _, rfl, t4 _ _ ep, dfs_no (by decide) (by decide) (by decide) (by decide), _, rfl, p, .ref a, D, lnD l, false, rfl, dec.ext t4, dl t4, wl, .inr ⟨l, rfl, ol, fun H5 s5 => ⟨two, fun Y hY => ⟨_, resD D l, false, rfl, res_dg upd_same, sh1, sh2, sh3, _, rfl, ?_⟩⟩⟩⟩
      refine ⟨rfl, ?_⟩
      rw [decide_eq_true rfl]
      exact kQ _ (Same.new (t4.trans s5) hY)
    · refine ⟨_, rfl, p, dx, _, rfl, s3 _ _ ep, dfs_no (by decide) (by decide) (by decide) (by decide), _, rfl, p, .ref a, D, lnD l, false, rfl, dec.ext s3, dl s3, wl, .inr ⟨l, rfl, ol, fun H4 s4 => ?_⟩⟩
      have t4 := s3.trans s4
      refine ⟨_, rfl, p, dx, _, rfl, t4 _ _ ep, dfs_no (by decide) (by decide) (by decide) (by decide), _, rfl, p, .ref a, D, lnD l, false, rfl, dec.ext t4, dl t4, wl, .inr ⟨l, rfl, ol, fun H5 s5 => ⟨_, rfl, two, fun Y hY => ⟨_, resD D l, false, rfl, res_dg upd_same, sh1, sh2, sh3, _, rfl, ?_⟩⟩⟩⟩
      refine ⟨rfl, ?_⟩
      rw [decide_eq_true rfl]
      exact kQ _ (Same.new (t4.trans s5) hY)
end
end My

set_option Elab.async false
set_option linter.all false
set_option maxRecDepth 100000
set_option maxHeartbeats 8000000
namespace My
open PySem PySem.Spec PyProof.Rows L2
/-- what _law_met hands back -/
def MetR (z : String) (H : Hp) (x : V) (Q : VK) : Prop := ∀ r H', Same H H' → H r = none → (r == sysModules) = false → H' r = some (.lst [.str (Str.ofString z), x]) → Q (.ref r) H'
section
variable {P : Program} {w : World} {K : PySem.W.Frag} {mg : Str → Option Value} {base : Heap}
def spMet (T : Txt K mg) : Sp := fun vs H Q _ => ∃ (p : Addr) (i : Int) (x : V), vs = [.ref p, .int i, x] ∧
  ((i = 2 ∧ ∃ t, TyX K H x t ∧ PySem.W.kitOne K t (Value.ref T.C_Decoder) = some false ∧ MetR "decoder" H x Q) ∨
   ((i = 0 ∨ i = 1) ∧ ∃ D d m, DecAt K T.C_Decoder H p D ∧ Dg K H m x d ∧ d.weight ≤ 100000 ∧ isLn (D.sg : Nat) d = false ∧ MetR "line" H x Q))
theorem ok_law_met (T : Txt K mg) : FnG P w K mg base CX0 6 T.f_law_met T.fd_law_met ["made", "which", "value"] (spMet T) := by
  refine T.F_law_met.okG sc_law_met (fun vs H Q E h => ?_) (fun cdv A outer s0 H vs Q E hgd hr h => ?_)
  · obtain ⟨p, i, x, rfl, _⟩ := h; rfl
  · obtain ⟨p, i, x, rfl, h⟩ := h
    have hun := un64 hr
    refine ⟨_, (pss_one (ps_tryAll (i := 3) rfl rfl sc_law_met.nd rfl rfl takes0 (fun W pn xe tk _ => (pss_cons (ps_if (pt_cmpR op_eq (pv 1) pe_int (nomark _)) (pss_one (ps_ret (pe_lstS (pa_cons pe_str (pa_cons (pe_callS (ok_shortest_line T) (hr.mono (by decide)) rfl T.g_shortest_line T.F_shortest_line.kp T.b_shortest_line (fun σ => passAt tk σ) (pa_cons (pv 2) pa_nil)) pa_nil))))) pss_nil)
      (pss_one (ps_ret (pe_lstS (pa_cons pe_str (pa_cons (pe_ifExp (pt_cmpR op_eq (pv 1) pe_int (nomark _)) (pe_methS (pv 0) T.cl_Decoder T.m_Decoder_written (ok_Decoder_written T) (hr.mono (by decide)) T.b_Decoder_written (fun σ => passAt tk σ) (pa_cons (pv 2) pa_nil)) (pe_methS (pv 0) T.cl_Decoder T.m_Decoder_state_after (ok_Decoder_state_after T) (hr.mono (by decide)) T.b_Decoder_state_after (fun σ => passAt tk σ) (pa_cons (pv 2) pa_nil))) pa_nil))))))) (.more ⟨rfl, by decide, Or.inl T.e_InvalidLine.gC⟩ (fun a oe cls d pn hz hf => (pss_one (ps_ret (pe_lstS (pa_cons pe_str (pa_cons (pe_gvn T.e_InvalidLine hz hf (pv 3)) pa_nil)))))) (.more ⟨rfl, by decide, Or.inl T.e_InvalidDecoder.gC⟩ (fun a oe cls d pn hz hf => (pss_one (ps_ret (pe_lstS (pa_cons pe_str (pa_cons (pe_gvn T.e_InvalidDecoder hz hf (pv 3)) pa_nil)))))) .last)))), ?_⟩
    have z2 : 2 ≤ sizeLine := by decide
    rcases h with ⟨rfl, t, ty, kt, hR⟩ | ⟨hi, D, d, m, dec, hd, hw, hl, hR⟩
    · refine ⟨_, rfl, rfl, _, rfl, iteT ⟨_, rfl, x, rfl, .inr ⟨t, ty, kt, fun dd H1 s1 hdn ed => ?_⟩⟩⟩
      refine ⟨false, T.no_InvalidDecoder_InvalidLine, (fun z => by cases z), fun _ => ⟨true, T.x_InvalidDecoder, fun _ a ha => ?_, fun z => by cases z⟩⟩
      refine ⟨_, rfl, rfl, rfl, dd, _, rfl, ed, z2, fun r hr hs => hR r _ (s1.trans (Same.new (Same.refl _) hr)) (s1.free hr) hs upd_same⟩
    · have fin : ∀ (dd : Addr) (H1 : Hp), Same H H1 → H dd = none → H1 dd = some (.xd (gvn x)) → WE (wAll
      (cxOf CX0 P w K mg base N_law_met (Str.ofString "_law_met") (defScope s_law_met) T.f_law_met cdv A outer s0 H
            E).nox.K
      3 (fun x x_1 x_2 x_3 => False) { nx := fun x H' => Q V.non H', rt := Q }
      [(Value.ref T.C_InvalidLine, fun a cls d =>
          tRet (tLstS (tCons (tC (V.str (Str.ofString "line"))) (tCons (tGvn T.C_InvalidLine a cls d (tVar 3)) tNil)))),
        (Value.ref T.C_InvalidDecoder, fun a cls d =>
          tRet
            (tLstS
              (tCons (tC (V.str (Str.ofString "decoder"))) (tCons (tGvn T.C_InvalidDecoder a cls d (tVar 3)) tNil))))]) (L2.start N_law_met [V.ref p, V.int i, x]) (Value.ref T.C_InvalidLine) (some dd) H1 := fun dd H1 s1 hdn ed => by
        refine ⟨true, T.x_InvalidLine, fun _ a ha => ?_, fun z => by cases z⟩
        refine ⟨_, rfl, rfl, rfl, dd, _, rfl, ed, z2, fun r hr hs => hR r _ (s1.trans (Same.new (Same.refl _) hr)) (s1.free hr) hs upd_same⟩
      obtain ⟨⟨dx, Sa, Ea, ep, hs, he⟩, _⟩ := id dec
      rcases hi with rfl | rfl
      · refine ⟨_, rfl, rfl, _, rfl, iteF ⟨_, rfl, rfl, _, rfl, iteT ⟨_, rfl, p, dx, _, rfl, ep, dfs_no (by decide) (by decide) (by decide) (by decide), _, rfl, p, x, D, d, m, rfl, dec, hd, hw, .inl ⟨hl, ?_⟩⟩⟩⟩
        exact fin
      · refine ⟨_, rfl, rfl, _, rfl, iteF ⟨_, rfl, rfl, _, rfl, iteF ⟨_, rfl, p, dx, _, rfl, ep, dfs_no (by decide) (by decide) (by decide) (by decide), _, rfl, p, x, D, d, m, rfl, dec, hd, hw, .inl ⟨hl, ?_⟩⟩⟩⟩
        exact fin
end
end My

set_option Elab.async false
set_option linter.all false
set_option maxRecDepth 100000
set_option maxHeartbeats 8000000
namespace My
open PySem PySem.Spec PyProof.Rows L2
mutual
def ndD : PyData → Bool
  | .none => true
  | .int _ => true
  | .str _ => true
  | .bool _ => true
  | .list ds => ndAll ds
  | .tuple ds => ndAll ds
  | .dict _ => false
def ndAll : List PyData → Bool
  | [] => true
  | d :: ds => ndD d && ndAll ds
end
mutual
theorem dg_nd {K : PySem.W.Frag} {H : Hp} {m : Bool} : ∀ (d : PyData) (x : V), ndD d = true → Dg K H m x d → Dg K H false x d
  | .none, _, _, h => by cases h; exact .non
  | .int _, _, _, h => by cases h; exact .int _
  | .str _, _, _, h => by cases h; exact .str _
  | .bool _, _, _, h => by cases h; exact .bl _
  | .list ds, _, e, h => by
    have e' : ndAll ds = true := by simpa [ndD] using e
    cases h with
    | lst hs _ ha => exact .lst hs (fun z => by cases z) (dg_ndAll ds _ e' ha)
  | .tuple ds, _, e, h => by
    have e' : ndAll ds = true := by simpa [ndD] using e
    cases h with
    | tup hs ha => exact .tup hs (dg_ndAll ds _ e' ha)
  | .dict _, _, e, _ => by simp [ndD] at e
theorem dg_ndAll {K : PySem.W.Frag} {H : Hp} {m : Bool} : ∀ (ds : List PyData) (xs : List V), ndAll ds = true → DgAll K H m xs ds → DgAll K H false xs ds
  | [], _, _, h => by cases h; exact .nil
  | d :: ds, _, e, h => by
    have e' : ndD d = true ∧ ndAll ds = true := by simpa [ndAll] using e
    cases h with
    | cons h1 h2 => exact .cons (dg_nd d _ e'.1 h1) (dg_ndAll ds _ e'.2 h2)
end
/-- a closed value that is shown -/
def fitQ (d : PyData) : Bool := d.showable && (decide (d.depth ≤ 9) && (d.leavesShort 40 && (decide (d.weight ≤ 1000) && ndD d)))
theorem fitQ_of {d : PyData} (h : fitQ d = true) : Fit d 9 1000 ∧ ndD d = true := by
  unfold fitQ at h
  simp only [Bool.and_eq_true, decide_eq_true_eq] at h
  exact ⟨⟨h.1, h.2.1, h.2.2.1, h.2.2.2.1⟩, h.2.2.2.2⟩
theorem slA_at {K : PySem.W.Frag} {H : Hp} {a : Addr} {l : List Nat} {lo hi : Option Int} {Q : VK} (h : SqT K H a (nmV l)) (q : ∀ b H' l', Same H H' → SqT K H' b (nmV l') → (∀ x ∈ l', x ∈ l) → l'.length ≤ l.length → Q (.ref b) H') : rSlA K (.ref a) lo hi H Q := by
  refine ⟨a, _, rfl, h, fun _ => q a H l (Same.refl _) h (fun x h => h) (Nat.le_refl _), fun _ b hb => ?_⟩
  obtain ⟨l', e, h1, h2⟩ : ∃ l', cutV (nmV l) lo hi = nmV l' ∧ (∀ x ∈ l', x ∈ l) ∧ l'.length ≤ l.length := ⟨(l.drop (HT.sIx (nmV l).length 0 lo)).take (HT.sIx (nmV l).length (nmV l).length hi - HT.sIx (nmV l).length 0 lo), by unfold cutV nmV; rw [List.map_take, List.map_drop], fun x hx => List.mem_of_mem_drop (List.mem_of_mem_take hx), by rw [List.length_take, List.length_drop]; omega⟩
  exact q b _ l' (Same.new (Same.refl _) hb) (SqT.of (by rw [upd_same, e])) h1 h2
theorem catA_at {K : PySem.W.Frag} {H : Hp} {a b : Addr} {xs ys : List V} {Q : VK} (ha : SqT K H a xs) (hb : SqT K H b ys) (hl : xs.length + ys.length ≤ sizeLine) (q : ∀ c H', Same H H' → SqT K H' c (xs ++ ys) → Q (.ref c) H') : rCatA K (.ref a) (.ref b) H Q :=
  ⟨a, b, xs, ys, rfl, rfl, ha, hb, hl, fun e => q b H (Same.refl _) (by rw [e]; exact hb), fun _ e => q a H (Same.refl _) (by rw [e, List.append_nil]; exact ha), fun _ _ p hp => q p _ (Same.new (Same.refl _) hp) (SqT.of upd_same)⟩
theorem sqT_bx {K : PySem.W.Frag} {H : Hp} {p a : Addr} {n : Nat} {xs : List V} (hb : BoxAt H p n) (h : SqT K H a xs) : SqT K (wo H p) a xs := by
  obtain ⟨ys, e⟩ := box_lst hb
  rcases h with (h | ⟨o, h⟩) | h
  · exact .inl (.inl (by rw [wo_ne (fun z => by rw [z, e] at h; cases h)]; exact h))
  · exact .inl (.inr ⟨o, by rw [wo_ne (fun z => by rw [z, e] at h; cases h)]; exact h⟩)
  · exact .inr h
theorem fitA_app {k : Nat} : ∀ {as bs : List PyData} {w v : Nat}, FitAll as k w → FitAll bs k v → FitAll (as ++ bs) k (w + v)
  | [], bs, w, v, _, h => h.mono (Nat.le_refl _) (Nat.le_add_left _ _)
  | a :: as, bs, w, v, h, g => by
    have hs := h.s; have hd := h.d; have hl := h.l; have hw := h.w
    unfold PyData.showableAll at hs
    unfold PyData.depthAll at hd
    unfold PyData.leavesShortAll at hl
    unfold PyData.weightAll at hw
    rw [Bool.and_eq_true] at hs hl
    have ht : FitAll as k (w - a.weight - 1) := ⟨hs.2, by omega, hl.2, by omega⟩
    have hr := fitA_app ht g
    have ha : Fit a k a.weight := ⟨hs.1, by omega, hl.1, Nat.le_refl _⟩
    exact (FitAll.cons ha hr).mono (Nat.le_refl _) (by omega)
/-- no sign of n -/
def OddV (K : PySem.W.Frag) (U : Hp) (n : Nat) (x : V) : Prop := ∃ d, Dg K U false x d ∧ isBe n d = false ∧ Fit d 9 1000
/-- no decoder -/
inductive DVal (K : PySem.W.Frag) (C : Addr) (U : Hp) : V → Prop
  | lst {a : Addr} {xs : List V} : SqL K U a xs → xs.length ≤ 1000 → DVal K C U (.ref a)
  | oth {x : V} {t : Value} : TyX K U x t → PySem.W.kitOne K t (.ref C) = some false → PySem.W.kitOne K t (.type "list") = some false → Sm K U x → DVal K C U x
theorem tyX_seqL {K : PySem.W.Frag} {H : Hp} {a : Addr} {xs : List V} (hs : SqL K H a xs) : TyX K H (.ref a) (.type "list") := by
  rcases hs with (h | ⟨o, h⟩) | ⟨o, its, n, e, c, _⟩
  · exact .base (.lst h)
  · exact .base (.frz h)
  · exact .kList e c
theorem tyX_seqT {K : PySem.W.Frag} {H : Hp} {a : Addr} {xs : List V} (hs : SqT K H a xs) : TyX K H (.ref a) (.type "tuple") := by
  rcases hs with (h | ⟨o, h⟩) | ⟨o, its, n, e, c, _⟩
  · exact .base (.tup h)
  · exact .fTuple h
  · exact .kTuple e c
/-- no line for n signs -/
inductive LVal (K : PySem.W.Frag) (U : Hp) (n : Nat) : V → Prop
  | val {x : V} {d : PyData} {m : Bool} : Dg K U m x d → isLstD d = false → Fit d 12 60000 → isLn n d = false → LVal K U n x
  | lst {a : Addr} {ns : List Nat} : U a = some (.lst (nmV ns)) → ns.length ≤ 1000 → (∀ b ∈ ns, b < 1000) → LVal K U n (.ref a)
theorem LVal.ext {K : PySem.W.Frag} {U U' : Hp} {n : Nat} {x : V} (s : Same U U') (h : LVal K U n x) : LVal K U' n x := by
  cases h with
  | val h1 h2 h3 h4 => exact .val (h1.ext s) h2 h3 h4
  | lst h1 h2 h3 => exact .lst (s _ _ h1) h2 h3
theorem dgAll_nm {K : PySem.W.Frag} {H : Hp} {m : Bool} : ∀ l : List Nat, DgAll K H m (nmV l) (l.map fun (a : Nat) => PyData.int a)
  | [] => .nil
  | a :: l => .cons (.int _) (dgAll_nm l)
theorem fit_nm {l : List Nat} {k : Nat} (h : ∀ b ∈ l, b < 1000) (n : l.length ≤ 1000) : FitAll (l.map fun (a : Nat) => PyData.int a) k 22000 :=
  (FitAll.nats (ns := l) fun b hb => by have := h b hb; omega).mono (Nat.le_refl _) (by omega)
theorem bad_line {K : PySem.W.Frag} {H : Hp} {n : Nat} {l1 l2 : List Nat} {x : V} {b : Addr} (hb : SqT K H b (nmV l1 ++ [x] ++ nmV l2)) (ox : OddV K H n x) (h1 : ∀ b ∈ l1, b < 1000) (h2 : ∀ b ∈ l2, b < 1000) (n1 : l1.length ≤ 1000) (n2 : l2.length ≤ 1000) : LVal K H n (.ref b) := by
  obtain ⟨d, dd, bd, fd⟩ := ox
  refine .val (m := false) (d := .tuple ((l1.map fun (a : Nat) => PyData.int a) ++ [d] ++ (l2.map fun (a : Nat) => PyData.int a))) (.tup hb (((dgAll_nm l1).append (.cons dd .nil)).append (dgAll_nm l2))) rfl ?_ ?_
  · exact (Fit.tuple (k := 11) (fitA_app (fitA_app (fit_nm h1 n1) (FitAll.cons (fd.mono (by omega) (Nat.le_refl _)) FitAll.nil)) (fit_nm h2 n2))).mono (by omega) (by omega)
  · show List.all _ (isBe n) = false
    rw [List.all_append, List.all_append, List.all_cons, bd, Bool.false_and, Bool.and_false, Bool.false_and]
theorem told_same {K : PySem.W.Frag} {H : Hp} {r : Addr} {h : V} {d : PyData} {m : Bool} {σ : L2.St} {D : Ends} {i j : Nat} {z : List Nat} {ts : TS} (dd : Dg K H m h d) (fd : Fit d 14 90000) (er : H r = some (.lst [.str (S z), h])) (hs : (r == sysModules) = false) (hz : z.length ≤ 40) (hc : ∀ c ∈ z, c < 200)
    (ei : σ[i]? = some (some (.ref r))) (ej : σ[j]? = some (some h)) (q : ∀ H', Same H H' → D.nx σ H') :
    tIfS (tTest (tOp rNe (tCB (rReprG K) (tCons (tVar i) tNil)) (tCB (rReprG K) (tCons (tLstS (tCons (tC (V.str (S z))) (tCons (tVar j) tNil))) tNil)))) ts tNext D σ H := by
  have sh : Sh (.list [.str (S z), d]) := ((Fit.list (k := 14) (FitAll.cons (Fit.str hz hc) (FitAll.cons fd FitAll.nil))).sh (by omega) (by omega))
  obtain ⟨sh1, sh2, sh3⟩ := sh
  refine ⟨_, ei, _, .list [.str (S z), d], m, rfl, .lst (SqL.of er) (fun _ => hs) (.cons (.str _) (.cons dd .nil)), sh1, sh2, sh3, _, ej, (by show 2 ≤ sizeLine; decide), fun Z hZ hZs => ?_⟩
  have s1 : Same H (upd H Z (.lst [.str (S z), h])) := Same.new (Same.refl _) hZ
  refine ⟨_, .list [.str (S z), d], m, rfl, .lst (SqL.of upd_same) (fun _ => hZs) (.cons (.str _) (.cons (dd.ext s1) .nil)), sh1, sh2, sh3, rfl, _, rfl, ?_⟩
  rw [decide_eq_true rfl]
  exact iteF (q _ s1)
theorem told_dec {K : PySem.W.Frag} {H : Hp} {r : Addr} {h : V} {t : Value} {bb : Bool} {σ : L2.St} {D : Ends} {i j : Nat} (sm : Sm K H h) (ty : TyX K H h t) (kt : PySem.W.kitOne K t (.type "list") = some bb) (er : H r = some (.lst [.str (Str.ofString "decoder"), h]))
    (ei : σ[i]? = some (some (.ref r))) (ej : σ[j]? = some (some h)) (q : D.rt (.bl true) H) :
    tRet (tAndV (tOp rEq (tOp (rIxL K) (tVar i) (tC (V.int 0))) (tC (V.str (Str.ofString "decoder")))) (tAndV (tOp (rEqSm K) (tOp (rIxL K) (tVar i) (tC (V.int 1))) (tVar j)) (tOp rEq (tCB (rIsi K) (tCons (tOp (rIxL K) (tVar i) (tC (V.int 1))) (tCons (tC (V.ty "list")) tNil))) (tCB (rIsi K) (tCons (tVar j) (tCons (tC (V.ty "list")) tNil)))))) D σ H := by
  refine ⟨_, ei, r, _, _, _, rfl, rfl, SqL.of er, atI_nat (j := 0) rfl, rfl, _, rfl, ?_⟩
  rw [decide_eq_true rfl]
  refine iteT ⟨_, ei, r, _, _, _, rfl, rfl, SqL.of er, atI_nat (j := 1) rfl, _, ej, rfl, sm, _, rfl, iteT ?_⟩
  refine ⟨_, ei, r, _, _, _, rfl, rfl, SqL.of er, atI_nat (j := 1) rfl, _, _, _, _, bb, rfl, .ty _, ty, kt, _, ej, _, _, _, _, bb, rfl, .ty _, ty, kt, rfl, ?_⟩
  rw [decide_eq_true rfl]
  exact q
section
variable {P : Program} {w : World} {K : PySem.W.Frag} {mg : Str → Option Value} {base : Heap}
theorem ok_law_refused_right (T : Txt K mg) : FnG P w K mg base CX0 7 T.f_law_refused_right T.fd_law_refused_right ["box", "made", "plain", "line"] (fun vs H Q _ => ∃ (p o r a : Addr) (c : Nat) (D : Dcd) (l : List Nat), vs = [.ref p, .ref o, .ref r, .ref a] ∧ BoxAt H p c ∧ c < 100000 ∧ DecAt K T.C_Decoder H o D ∧ PartsAt K p H r D ∧ SqT K (wo H p) a (nmV l) ∧ (∀ b ∈ l, b < D.sg) ∧ l.length ≤ 1000 ∧
    ∀ H', Kp p H H' → BoxAt H' p (c + 4) → Q (.bl true) H') := by
  refine T.F_law_refused_right.okG sc_law_refused_right (fun vs H Q E h => ?_) (fun cdv A outer s0 H vs Q E hgd hr h => ?_)
  · obtain ⟨p, o, r, a, c, D, l, rfl, _⟩ := h; rfl
  · obtain ⟨p, o, r, a, c, D, l, rfl, hb, hc, dec, pa, ha, ol, ll, kQ⟩ := h
    have hun := un64 hr
    refine ⟨_, (pss_cons (ps_par (i := 4) (j := 5) (by rfl) sc_law_refused_right.nd rfl rfl (by decide) rfl rfl (pa_cons (pe_call (ok_law_take T) (hr.mono (by decide)) rfl T.g_law_take T.F_law_take.kp T.b_law_take .nil pass0 (pa_cons (pv 0) (pa_cons (pe_op op_add (pe_callB call_len_seq (by rfl) T.z_len (by decide +kernel) (pa_cons (pv 3) pa_nil)) pe_int) pa_nil))) (pa_cons (pe_lstS (pa_cons (pe_ix ix_list (pv 2) pe_int (fun _ _ => rfl)) (pa_cons (pe_un un_neg pe_int) (pa_cons pe_bl (pa_cons pe_non (pa_cons pe_str (pa_cons (pe_tup (pa_cons pe_int pa_nil)) (pa_cons (pe_op op_pow pe_int pe_int) (pa_cons pe_bl (pa_cons (pe_op op_add (pe_ix ix_list (pv 2) pe_int (fun _ _ => rfl)) pe_int) pa_nil)))))))))) pa_nil)) (by rfl))
      (pss_cons (ps_set (i := 6) sc_law_refused_right.nd rfl (Or.inl rfl) (pe_op op_catA (pe_op op_catA (pe_slice sl_tupA (pv 3) po_none (po_some (pv 4))) (pe_tup (pa_cons (pe_ix ix_list (pv 5) (pe_call (ok_law_take T) (hr.mono (by decide)) rfl T.g_law_take T.F_law_take.kp T.b_law_take .nil pass0 (pa_cons (pv 0) (pa_cons pe_int pa_nil))) (fun _ _ => rfl)) pa_nil))) (pe_slice sl_tupA (pv 3) (po_some (pv 4)) po_none)))
      (pss_cons (ps_for PassesOwn.never rfl (pi_list (pe_lstS (pa_cons (pv 6) (pa_cons (pe_callTy call_list_ofS (by rfl) T.z_list (by decide +kernel) (pa_cons (pv 3) pa_nil)) (pa_cons (pe_ix ix_list (pe_lstS (pa_cons pe_non (pa_cons pe_int (pa_cons pe_str (pa_cons pe_str (pa_cons pe_dnewK (pa_cons (pe_lstS pa_nil) (pa_cons (pe_lstS (pa_cons pe_int pa_nil)) (pa_cons (pe_tup (pa_cons pe_non pa_nil)) (pa_cons (pe_tup (pa_cons (pe_tup pa_nil) pa_nil)) (pa_cons (pe_tup (pa_cons pe_str pa_nil)) pa_nil))))))))))) (pe_call (ok_law_take T) (hr.mono (by decide)) rfl T.g_law_take T.F_law_take.kp T.b_law_take .nil pass0 (pa_cons (pv 0) (pa_cons pe_int pa_nil))) (fun _ _ => rfl)) pa_nil))))) (pg_name (i := 7) sc_law_refused_right.nd rfl (Or.inl rfl)) (pss_one (ps_for PassesOwn.never rfl (pi_range1 rfl T.z_range (pa_cons pe_int pa_nil)) (pg_name (i := 8) sc_law_refused_right.nd rfl (Or.inl rfl)) (pss_cons (ps_set (i := 9) sc_law_refused_right.nd rfl (Or.inl rfl) (pe_ifExp (pt_val (pe_callB call_isi (by rfl) T.z_isinstance (by decide +kernel) (pa_cons (pv 7) (pa_cons (pe_bltn (v := .ty "list") (u := .type "list") (by rfl) T.z_list (by decide +kernel) rfl) pa_nil)))) (pe_callTy call_list_ofS (by rfl) T.z_list (by decide +kernel) (pa_cons (pv 7) pa_nil)) (pv 7)))
      (pss_cons (ps_set (i := 10) sc_law_refused_right.nd rfl (Or.inl rfl) (pe_callG (ok_law_met T) hgd (hr.mono (by decide)) rfl T.g_law_met T.F_law_met.kp T.b_law_met .nil pass0 (pa_cons (pv 1) (pa_cons (pv 8) (pa_cons (pv 9) pa_nil)))))
      (pss_cons (ps_if (pt_val (pe_callB call_isi (by rfl) T.z_isinstance (by decide +kernel) (pa_cons (pv 9) (pa_cons (pe_bltn (v := .ty "list") (u := .type "list") (by rfl) T.z_list (by decide +kernel) rfl) pa_nil)))) (pss_one (ps_expr (pe_bm PySem.F.plainAttrs_list PySem.F.slot_list_append PySem.F.type_list_append mt_append (pv 9) (pa_cons pe_int pa_nil)))) pss_nil)
      (pss_one (ps_if (pt_cmpR op_ne (pe_callB (call_reprG hgd hun) (by rfl) T.z_repr (by decide +kernel) (pa_cons (pv 10) pa_nil)) (pe_callB (call_reprG hgd hun) (by rfl) T.z_repr (by decide +kernel) (pa_cons (pe_lstS (pa_cons pe_str (pa_cons (pv 9) pa_nil))) pa_nil)) (nomark _)) (pss_one (ps_ret pe_bl)) pss_nil))))))))
      (pss_cons (ps_set (i := 11) sc_law_refused_right.nd rfl (Or.inl rfl) (pe_ix ix_list (pe_lstS (pa_cons pe_non (pa_cons pe_int (pa_cons pe_str (pa_cons (pe_tup pa_nil) (pa_cons (pv 2) (pa_cons (pe_lstS (pa_cons (pv 1) pa_nil)) (pa_cons (pe_ix ix_list (pv 2) pe_int (fun _ _ => rfl)) (pa_cons pe_dnewK (pa_cons (pe_tup (pa_cons (pv 1) pa_nil)) (pa_cons pe_bl pa_nil))))))))))) (pe_call (ok_law_take T) (hr.mono (by decide)) rfl T.g_law_take T.F_law_take.kp T.b_law_take .nil pass0 (pa_cons (pv 0) (pa_cons pe_int pa_nil))) (fun _ _ => rfl)))
      (pss_cons (ps_set (i := 9) sc_law_refused_right.nd rfl (Or.inl rfl) (pe_ifExp (pt_val (pe_callB call_isi (by rfl) T.z_isinstance (by decide +kernel) (pa_cons (pv 11) (pa_cons (pe_bltn (v := .ty "list") (u := .type "list") (by rfl) T.z_list (by decide +kernel) rfl) pa_nil)))) (pe_callTy call_list_ofS (by rfl) T.z_list (by decide +kernel) (pa_cons (pv 11) pa_nil)) (pv 11)))
      (pss_cons (ps_set (i := 10) sc_law_refused_right.nd rfl (Or.inl rfl) (pe_callG (ok_law_met T) hgd (hr.mono (by decide)) rfl T.g_law_met T.F_law_met.kp T.b_law_met .nil pass0 (pa_cons (pv 1) (pa_cons pe_int (pa_cons (pv 9) pa_nil)))))
      (pss_cons (ps_if (pt_val (pe_callB call_isi (by rfl) T.z_isinstance (by decide +kernel) (pa_cons (pv 9) (pa_cons (pe_bltn (v := .ty "list") (u := .type "list") (by rfl) T.z_list (by decide +kernel) rfl) pa_nil)))) (pss_one (ps_expr (pe_bm PySem.F.plainAttrs_list PySem.F.slot_list_append PySem.F.type_list_append mt_append (pv 9) (pa_cons pe_int pa_nil)))) pss_nil)
      (pss_one (ps_ret (pe_and (pe_cmpR op_eq (pe_ix ix_list (pv 10) pe_int (fun _ _ => rfl)) pe_str (nomark _)) (pe_one (pe_and (pe_cmpR (op_eqSm (un64 hr)) (pe_ix ix_list (pv 10) pe_int (fun _ _ => rfl)) (pv 9) (nomark _)) (pe_one (pe_cmpR op_eq (pe_callB call_isi (by rfl) T.z_isinstance (by decide +kernel) (pa_cons (pe_ix ix_list (pv 10) pe_int (fun _ _ => rfl)) (pa_cons (pe_bltn (v := .ty "list") (u := .type "list") (by rfl) T.z_list (by decide +kernel) rfl) pa_nil))) (pe_callB call_isi (by rfl) T.z_isinstance (by decide +kernel) (pa_cons (pv 9) (pa_cons (pe_bltn (v := .ty "list") (u := .type "list") (by rfl) T.z_list (by decide +kernel) rfl) pa_nil))) (nomark _))))))))))))))), ?_⟩
    have z2 : 2 ≤ sizeLine := by decide
    have z1 : 1 ≤ sizeLine := by decide
    have ok := dec.ok
    have s1 := ok.s1
    have s5 := ok.s5
    obtain ⟨Sa, Ea, hpr, hSa, hEa, _⟩ := id pa
    have haH : SqT K H a (nmV l) := ha.ext (wo_same H p)
    have hrH := hpr.ext (wo_same H p)
    refine ⟨_, rfl, _, rfl, a, _, rfl, .inr haH, _, _, rfl, rfl, p, c, _, rfl, hb, by omega, by rw [nm_len]; omega, by rw [nm_len]; omega, fun at_ o1 hat ho1 => ?_⟩
    have k1 : Kp p H (upd H p o1) := (Kp.refl p H).upd
    have b1 : BoxAt (upd H p o1) p (c + 1) := ho1.at
    generalize upd H p o1 = H1 at k1 b1 ⊢
    have w1 := k1.toW
    refine ⟨_, rfl, r, _, _, _, rfl, rfl, hpr.ext w1, atI_nat (j := 0) rfl, 1, rfl, z1, fun t ht => ?_⟩
    have sA : Same H1 (upd H1 t (.tup [.int 0])) := Same.new (Same.refl _) ht
    have et : (upd H1 t (.tup [.int 0])) t = some (.tup [.int 0]) := upd_same
    have bA := b1.new (o := .tup [.int 0]) ht
    generalize upd H1 t (.tup [.int 0]) = HA at sA et bA ⊢
    have kA := k1.trans (Kp.of sA)
    refine ⟨10, 18, rfl, rfl, ?_, _, rfl, r, _, _, _, rfl, rfl, hpr.ext kA.toW, atI_nat (j := 0) rfl, (D.sg : Nat), 1, rfl, rfl, (by show 9 ≤ sizeLine; decide), fun O hO hOs => ?_⟩
    · exact ⟨by decide, by decide, by decide⟩
    have sB : Same HA (upd HA O (.lst [.int (D.sg : Nat), .int (-1), .bl false, .non, .str (Str.ofString "0"), .ref t, .int (10 ^ Int.toNat 18), .bl true, .int ((D.sg : Nat) + 1)])) := Same.new (Same.refl _) hO
    have nOp : O ≠ p := (bA.ne hO).symm
    have bB := bA.new (o := .lst [.int (D.sg : Nat), .int (-1), .bl false, .non, .str (Str.ofString "0"), .ref t, .int (10 ^ Int.toNat 18), .bl true, .int ((D.sg : Nat) + 1)]) hO
    have eO : (upd HA O (.lst [.int (D.sg : Nat), .int (-1), .bl false, .non, .str (Str.ofString "0"), .ref t, .int (10 ^ Int.toNat 18), .bl true, .int ((D.sg : Nat) + 1)])) O = some (.lst [.int (D.sg : Nat), .int (-1), .bl false, .non, .str (Str.ofString "0"), .ref t, .int (10 ^ Int.toNat 18), .bl true, .int ((D.sg : Nat) + 1)]) := upd_same
    have etW : (wo HA p) t = some (.tup [.int 0]) := by rw [wo_ne (b1.ne ht).symm]; exact et
    have odd : ∀ y ∈ [V.int (D.sg : Nat), .int (-1), .bl false, .non, .str (Str.ofString "0"), .ref t, .int (10 ^ Int.toNat 18), .bl true, .int ((D.sg : Nat) + 1)], OddV K (wo HA p) D.sg y := by
      have cl : ∀ (x : V) (d : PyData), Dg K (wo HA p) false x d → fitQ d = true → isBe D.sg d = false → OddV K (wo HA p) D.sg x := fun x d h1 h2 h3 => ⟨d, h1, h3, (fitQ_of h2).1⟩
      have hi : ∀ i : Int, (∃ n : Nat, i = n ∧ n < 1048576) → ¬ (0 ≤ i ∧ i < (D.sg : Nat)) → OddV K (wo HA p) D.sg (.int i) := fun i ⟨n, e, h⟩ h2 => ⟨.int i, .int i, by
        show (decide (0 ≤ i) && decide (i < (D.sg : Nat))) = false
        rw [Bool.and_eq_false_iff]
        by_cases z : 0 ≤ i
        · exact .inr (decide_eq_false fun q => h2 ⟨z, q⟩)
        · exact .inl (decide_eq_false z), by rw [e]; exact (Fit.nat (k := 9) h).mono (Nat.le_refl _) (by omega)⟩
      intro y hy
      simp only [List.mem_cons, List.not_mem_nil, or_false] at hy
      rcases hy with rfl | rfl | rfl | rfl | rfl | rfl | rfl | rfl | rfl
      · exact hi _ ⟨D.sg, rfl, by omega⟩ (by omega)
      · exact cl _ (.int (-1)) (.int _) (by decide +kernel) rfl
      · exact cl _ (.bool false) (.bl _) (by decide +kernel) rfl
      · exact cl _ .none .non (by decide +kernel) rfl
      · exact cl _ (.str (Str.ofString "0")) (.str _) (by decide +kernel) rfl
      · exact cl _ (.tuple [.int 0]) (.tup (SqT.of etW) (.cons (.int _) .nil)) (by decide +kernel) rfl
      · exact cl _ (.int (10 ^ Int.toNat 18)) (.int _) (by decide +kernel) (by
          show (decide ((0 : Int) ≤ 10 ^ 18) && decide ((10 : Int) ^ 18 < (D.sg : Nat))) = false
          rw [decide_eq_false (p := (10 : Int) ^ 18 < (D.sg : Nat)) (by omega), Bool.and_false])
      · exact cl _ (.bool true) (.bl _) (by decide +kernel) rfl
      · exact hi _ ⟨D.sg + 1, rfl, by omega⟩ (by omega)
    have l9 : [V.int (D.sg : Nat), .int (-1), .bl false, .non, .str (Str.ofString "0"), .ref t, .int (10 ^ Int.toNat 18), .bl true, .int ((D.sg : Nat) + 1)].length = 9 := rfl
    generalize [V.int (D.sg : Nat), .int (-1), .bl false, .non, .str (Str.ofString "0"), .ref t, .int (10 ^ Int.toNat 18), .bl true, .int ((D.sg : Nat) + 1)] = odds at sB bB eO odd l9
    generalize upd HA O (.lst odds) = HB at sB bB eO
    have kB := kA.trans (Kp.of sB)
    refine ⟨_, _, rfl, ?_⟩
    have haB := ha.ext kB.toW
    try dsimp only [L2.gName, L2.tSeq, L2.tAsg, L2.tRet, L2.tNext, L2.tPar3, L2.tPar]
    refine ⟨_, rfl, _, rfl, _, rfl, slA_at haB fun ta HC la sC hta mla nla => ?_⟩
    have eOC := sC _ _ eO
    refine ⟨_, rfl, _, rfl, p, c + 1, _, rfl, bB.same sC, by omega, by omega, by omega, fun d1 o2 hd1 ho2 => ?_⟩
    have k2 : Kp p HC (upd HC p o2) := (Kp.refl p HC).upd
    have b2 : BoxAt (upd HC p o2) p (c + 2) := ho2.at
    have hd1' : d1 < odds.length := by omega
    have eOD := k2 _ _ nOp eOC
    have hta2 := (sqT_bx (bB.same sC) hta).ext k2.toW
    have ox : OddV K (wo HA p) D.sg odds[d1] := odd _ (List.getElem_mem hd1')
    refine ⟨O, odds, (d1 : Int), odds[d1], rfl, rfl, SqL.of eOD, atI_nat (List.getElem?_eq_getElem hd1'), z1, fun u hu => ?_⟩
    generalize odds[d1] = od at ox
    have kAD : Kp p HA (upd HC p o2) := (Kp.of (sB.trans sC)).trans k2
    generalize upd HC p o2 = HD at k2 b2 eOD hta2 kAD hu
    have sU : Same HD (upd HD u (.tup [od])) := Same.new (Same.refl _) hu
    refine catA_at (hta2.ext sU) (SqT.of upd_same) (by rw [nm_len]; exact Nat.le_trans (by simp; omega : _ ≤ 1001) (by decide)) fun tb HE sE htb => ?_
    have kHD := (kB.trans (Kp.of sC)).trans k2
    have sDE := sU.trans sE
    have haE := ha.ext ((kHD.trans (Kp.of sDE)).toW)
    refine ⟨_, rfl, _, rfl, _, rfl, ?_⟩
    dsimp only [L2.tNoPart]
    refine slA_at haE fun tc HF lc sF htc mlc nlc => ?_
    refine catA_at (htb.ext sF) htc (by rw [List.length_append, nm_len, nm_len]; exact Nat.le_trans (by simp; omega : _ ≤ 2001) (by decide)) fun bd HG sG hbd => ?_
    have sDG := (sDE.trans sF).trans sG
    have kHG := kHD.trans (Kp.of sDG)
    have bG := b2.same sDG
    have oxG : OddV K (wo HG p) D.sg od := by
      obtain ⟨d, h1, h2, h3⟩ := ox
      exact ⟨d, h1.ext (kAD.trans (Kp.of sDG)).wo, h2, h3⟩
    have o5 : ∀ {l' : List Nat}, (∀ x ∈ l', x ∈ l) → ∀ b ∈ l', b < 1000 := fun h b hb => by have := ol b (h b hb); omega
    have vbd : LVal K (wo HG p) D.sg (.ref bd) := bad_line (sqT_bx bG hbd) oxG (o5 mla) (o5 mlc) (by omega) (by omega)
    clear oxG hbd ox odd
    try dsimp only [L2.gName, L2.tSeq, L2.tAsg, L2.tRet, L2.tNext, L2.tPar3, L2.tPar]
    have haG := ha.ext kHG.toW
    refine ⟨_, rfl, _, rfl, a, _, rfl, .inr haG, fun cl hcl hcls => ?_⟩
    have s1 : Same HG (upd HG cl (.lst (nmV l))) := Same.new (Same.refl _) hcl
    have ncl : cl ≠ p := (bG.ne hcl).symm
    have ecl : (upd HG cl (.lst (nmV l))) cl = some (.lst (nmV l)) := upd_same
    have b3 := bG.same s1
    generalize upd HG cl (.lst (nmV l)) = J1 at s1 ecl b3 ⊢
    intro e he
    have s2 : Same J1 (upd J1 e (.dK [])) := Same.new (Same.refl _) he
    have ne : e ≠ p := (b3.ne he).symm
    have ee : (upd J1 e (.dK [])) e = some (.dK []) := upd_same
    have b4 := b3.same s2
    generalize upd J1 e (.dK []) = J2 at s2 ee b4 ⊢
    refine ⟨(by decide), fun m1 hm1 hs1 => ?_⟩
    have s3 : Same J2 (upd J2 m1 (.lst [])) := Same.new (Same.refl _) hm1
    have nm1 : m1 ≠ p := (b4.ne hm1).symm
    have em1 : (upd J2 m1 (.lst [])) m1 = some (.lst (nmV [])) := upd_same
    have b5 := b4.same s3
    generalize upd J2 m1 (.lst []) = J3 at s3 em1 b5 ⊢
    refine ⟨z1, fun m2 hm2 hs2 => ?_⟩
    have s4 : Same J3 (upd J3 m2 (.lst [.int 0])) := Same.new (Same.refl _) hm2
    have nm2 : m2 ≠ p := (b5.ne hm2).symm
    have em2 : (upd J3 m2 (.lst [.int 0])) m2 = some (.lst (nmV [0])) := upd_same
    have b6 := b5.same s4
    generalize upd J3 m2 (.lst [.int 0]) = J4 at s4 em2 b6 ⊢
    refine ⟨z1, fun t1 ht1 => ?_⟩
    have s5' : Same J4 (upd J4 t1 (.tup [.non])) := Same.new (Same.refl _) ht1
    have nt1 : t1 ≠ p := (b6.ne ht1).symm
    have et1 : (upd J4 t1 (.tup [.non])) t1 = some (.tup [.non]) := upd_same
    have b7 := b6.same s5'
    generalize upd J4 t1 (.tup [.non]) = J5 at s5' et1 b7 ⊢
    refine ⟨(by decide), fun ti hti => ?_⟩
    have s6 : Same J5 (upd J5 ti (.tup [])) := Same.new (Same.refl _) hti
    have nti : ti ≠ p := (b7.ne hti).symm
    have eti : (upd J5 ti (.tup [])) ti = some (.tup []) := upd_same
    have b8 := b7.same s6
    generalize upd J5 ti (.tup []) = J6 at s6 eti b8 ⊢
    refine ⟨z1, fun t2 ht2 => ?_⟩
    have s7 : Same J6 (upd J6 t2 (.tup [.ref ti])) := Same.new (Same.refl _) ht2
    have nt2 : t2 ≠ p := (b8.ne ht2).symm
    have et2 : (upd J6 t2 (.tup [.ref ti])) t2 = some (.tup [.ref ti]) := upd_same
    have b9 := b8.same s7
    generalize upd J6 t2 (.tup [.ref ti]) = J7 at s7 et2 b9 ⊢
    refine ⟨z1, fun t3 ht3 => ?_⟩
    have s8 : Same J7 (upd J7 t3 (.tup [.str (Str.ofString "0")])) := Same.new (Same.refl _) ht3
    have nt3 : t3 ≠ p := (b9.ne ht3).symm
    have et3 : (upd J7 t3 (.tup [.str (Str.ofString "0")])) t3 = some (.tup [.str (Str.ofString "0")]) := upd_same
    have b10 := b9.same s8
    generalize upd J7 t3 (.tup [.str (Str.ofString "0")]) = J8 at s8 et3 b10 ⊢
    refine ⟨(by show 10 ≤ sizeLine; decide), fun M hM hMs => ?_⟩
    have s78 := s7.trans s8
    have s68 := s6.trans s78
    have s58 := s5'.trans s68
    have s48 := s4.trans s58
    have s38 := s3.trans s48
    have men : ∀ y ∈ [V.non, .int 0, .str (Str.ofString "0"), .str (Str.ofString ""), .ref e, .ref m1, .ref m2, .ref t1, .ref t2, .ref t3], LVal K (wo J8 p) D.sg y := by
      have at8 : ∀ {b : Addr} {o : HO}, b ≠ p → J8 b = some o → wo J8 p b = some o := fun n e => by rw [wo_ne n]; exact e
      have cl : ∀ (x : V) (d : PyData), Dg K (wo J8 p) false x d → fitQ d = true → isLstD d = false → isLn D.sg d = false → LVal K (wo J8 p) D.sg x := fun x d h1 h2 h3 h4 => .val h1 h3 ((fitQ_of h2).1.mono (by omega) (by omega)) h4
      intro y hy
      simp only [List.mem_cons, List.not_mem_nil, or_false] at hy
      rcases hy with rfl | rfl | rfl | rfl | rfl | rfl | rfl | rfl | rfl | rfl
      · exact cl _ .none .non (by decide +kernel) rfl rfl
      · exact cl _ (.int 0) (.int _) (by decide +kernel) rfl rfl
      · exact cl _ (.str (Str.ofString "0")) (.str _) (by decide +kernel) rfl rfl
      · exact cl _ (.str (Str.ofString "")) (.str _) (by decide +kernel) rfl rfl
      · exact .val (m := true) (.emp rfl (at8 ne (s38 _ _ ee))) rfl ((Fit.dict (k := 0) FitKv.nil).mono (by omega) (by omega)) rfl
      · exact .lst (at8 nm1 (s48 _ _ em1)) (by decide) (fun b h => by cases h)
      · exact .lst (at8 nm2 (s58 _ _ em2)) (by decide) (fun b h => by rw [List.mem_singleton.mp h]; omega)
      · exact cl _ (.tuple [.none]) (.tup (SqT.of (at8 nt1 (s68 _ _ et1))) (.cons .non .nil)) (by decide +kernel) rfl rfl
      · exact cl _ (.tuple [.tuple []]) (.tup (SqT.of (at8 nt2 (s8 _ _ et2))) (.cons (.tup (SqT.of (at8 nti (s78 _ _ eti))) .nil) .nil)) (by decide +kernel) rfl rfl
      · exact cl _ (.tuple [.str (Str.ofString "0")]) (.tup (SqT.of (at8 nt3 et3)) (.cons (.str _) .nil)) (by decide +kernel) rfl rfl
    have l10 : [V.non, .int 0, .str (Str.ofString "0"), .str (Str.ofString ""), .ref e, .ref m1, .ref m2, .ref t1, .ref t2, .ref t3].length = 10 := rfl
    generalize [V.non, .int 0, .str (Str.ofString "0"), .str (Str.ofString ""), .ref e, .ref m1, .ref m2, .ref t1, .ref t2, .ref t3] = ms at men l10 hM ⊢
    have s9 : Same J8 (upd J8 M (.lst ms)) := Same.new (Same.refl _) hM
    have nM : M ≠ p := (b10.ne hM).symm
    have eM : (upd J8 M (.lst ms)) M = some (.lst ms) := upd_same
    have b11 := b10.same s9
    generalize upd J8 M (.lst ms) = J9 at s9 eM b11 ⊢
    clear em1 em2 et1 eti et2 et3 ee
    refine ⟨_, rfl, p, c + 2, _, rfl, b11, by omega, by omega, by omega, fun d2 o3 hd2 ho3 => ?_⟩
    have k3 : Kp p J9 (upd J9 p o3) := (Kp.refl p J9).upd
    have b12 : BoxAt (upd J9 p o3) p (c + 3) := ho3.at
    have hd2' : d2 < ms.length := by omega
    have vms : LVal K (wo J8 p) D.sg ms[d2] := men _ (List.getElem_mem hd2')
    have eM2 := k3 _ _ nM eM
    refine ⟨M, ms, (d2 : Int), ms[d2], rfl, rfl, SqL.of eM2, atI_nat (List.getElem?_eq_getElem hd2'), (by show 3 ≤ sizeLine; decide), fun N hN hNs => ?_⟩
    generalize ms[d2] = ym at vms
    have k4 : Kp p J8 (upd (upd J9 p o3) N (.lst [.ref bd, .ref cl, ym])) := ((Kp.of s9).trans k3).new hN
    have b13 : BoxAt (upd (upd J9 p o3) N (.lst [.ref bd, .ref cl, ym])) p (c + 3) := b12.new hN
    have eN : (upd (upd J9 p o3) N (.lst [.ref bd, .ref cl, ym])) N = some (.lst [.ref bd, .ref cl, ym]) := upd_same
    generalize upd (upd J9 p o3) N (.lst [.ref bd, .ref cl, ym]) = HL at k4 b13 eN ⊢
    have kGL : Kp p HG HL := (Kp.of ((s1.trans (s2.trans (s3.trans s48))))).trans k4
    have kHL := kHG.trans kGL
    have vals : ∀ y ∈ [V.ref bd, .ref cl, ym], LVal K HL D.sg y := by
      intro y hy
      simp only [List.mem_cons, List.not_mem_nil, or_false] at hy
      rcases hy with rfl | rfl | rfl
      · exact vbd.ext kGL.toW
      · exact .lst (k4 _ _ ncl ((s2.trans (s3.trans s48)) _ _ ecl)) ll (fun b hb => by have := ol b hb; omega)
      · exact vms.ext k4.toW
    generalize [V.ref bd, .ref cl, ym] = ys at eN vals
    clear vbd vms men ms l10 hd2 hd2' eM eM2 ecl
    have decL := dec.bx hb kHL
    refine ⟨N, rfl, ⟨_, SqL.of eN⟩, for_list (K := K) (a := N) (xs := ys) (fun i σ H' => ∃ x7 x8 x9 x10 x11, σ = [some (.ref p), some (.ref o), some (.ref r), some (.ref a), some (.int at_), some (.ref O), some (.ref bd), x7, x8, x9, x10, x11] ∧ Same HL H') ⟨_, _, _, _, _, rfl, Same.refl _⟩ (fun i σ H' _ ⟨_, _, _, _, _, _, s⟩ => SqL.of (s _ _ eN)) ?_ ?_⟩
    · rintro i y σ H5 hyi ⟨x7, x8, x9, x10, x11, rfl, s5⟩
      have vy := vals y (List.mem_of_getElem? hyi)
      clear vals
      dsimp only [L2.gName]
      refine ⟨2, rfl, by decide, by decide, for_range (lo := 0) (n := 2) (fun i σ H' => ∃ x8 x9 x10 x11, σ = [some (.ref p), some (.ref o), some (.ref r), some (.ref a), some (.int at_), some (.ref O), some (.ref bd), some y, x8, x9, x10, x11] ∧ Same HL H') ⟨_, _, _, _, rfl, s5⟩ ?_ ?_⟩
      · rintro j σ H6 hj ⟨x8, x9, x10, x11, rfl, s6⟩
        try dsimp only [L2.gName, L2.tSeq, L2.tAsg, L2.tRet, L2.tNext, L2.tPar3, L2.tPar]
        have vy6 := vy.ext s6
        have decJ := decL.ext s6
        have hw : ((0 : Int) + j = 0 ∨ (0 : Int) + j = 1) := by omega
        generalize (0 : Int) + j = wh at hw
        cases vy6 with
        | @val x d m hd hl fd hb' =>
          refine ⟨_, rfl, _, _, _, _, isLstD d, rfl, .ty _, hd.ty, kit_lstD d, _, rfl, ?_⟩
          rw [hl]
          refine iteF ⟨_, rfl, _, rfl, _, rfl, _, rfl, o, wh, y, rfl, .inr ⟨hw, D, d, m, decJ, hd, Nat.le_trans fd.w (by omega), hb', fun r2 H7 s7 hr2 hs7 er2 => ?_⟩⟩
          refine ⟨_, rfl, _, _, _, _, isLstD d, rfl, .ty _, (hd.ext s7).ty, kit_lstD d, _, rfl, ?_⟩
          rw [hl]
          refine iteF ?_
          refine told_same (z := cs "line") (hd.ext s7) (fd.mono (by omega) (by omega)) er2 hs7 (by decide) (by decide) rfl rfl fun H8 s8 => ⟨_, _, _, _, rfl, s6.trans (s7.trans s8)⟩
        | @lst a2 ns ea ln on =>
          refine ⟨_, rfl, _, _, _, _, true, rfl, .ty _, .base (.lst ea), kit_lstD (.list []), _, rfl, iteT ⟨_, rfl, a2, _, rfl, .inl (SqL.of ea), fun g hg hgs => ?_⟩⟩
          have s7 : Same H6 (upd H6 g (.lst (nmV ns))) := Same.new (Same.refl _) hg
          have eg : (upd H6 g (.lst (nmV ns))) g = some (.lst (nmV ns)) := upd_same
          generalize upd H6 g (.lst (nmV ns)) = H7 at s7 eg ⊢
          have fns : FitAll (ns.map fun (a : Nat) => PyData.int a) 1 22000 := fit_nm on ln
          refine ⟨_, rfl, _, rfl, _, rfl, o, wh, .ref g, rfl, .inr ⟨hw, D, .list (ns.map fun (a : Nat) => PyData.int a), false, decJ.ext s7, .lst (SqL.of eg) (fun z => by cases z) (dgAll_nm ns), Nat.le_trans (Fit.list fns).w (by omega), rfl, fun r2 H8 s8 hr2 hs8 er2 => ?_⟩⟩
          have eg8 := s8 _ _ eg
          have ngr : r2 ≠ g := fun z => by rw [z, eg] at hr2; cases hr2
          refine ⟨_, rfl, _, _, _, _, true, rfl, .ty _, .base (.lst eg8), kit_lstD (.list []), _, rfl, iteT ?_⟩
          refine ⟨_, rfl, .inl ⟨rfl, _, SqL.of eg8⟩, g, _, _, rfl, rfl, eg8, by rw [nm_len]; exact Nat.lt_of_le_of_lt ln (by decide), ?_⟩
          have e9 : (upd H8 g (.lst (nmV ns ++ [.int 0]))) g = some (.lst (nmV (ns ++ [0]))) := by rw [upd_same, nm_app]; rfl
          have er9 : (upd H8 g (.lst (nmV ns ++ [.int 0]))) r2 = some (.lst [.str (Str.ofString "line"), .ref g]) := by rw [upd_ne ngr]; exact er2
          have s69 : Same H6 (upd H8 g (.lst (nmV ns ++ [.int 0]))) := fun b ob e => by rw [upd_ne (ne_of_none e hg)]; exact s8 _ _ (s7 _ _ e)
          generalize upd H8 g (.lst (nmV ns ++ [.int 0])) = H9 at e9 er9 s69 ⊢
          have f2 : FitAll ((ns ++ [0]).map fun (a : Nat) => PyData.int a) 1 23000 := by
            rw [List.map_append]
            exact (fitA_app fns (FitAll.cons (Fit.nat (k := 1) (r := 0) (by omega)) FitAll.nil)).mono (Nat.le_refl _) (by omega)
          refine told_same (z := cs "line") (m := false) (d := .list ((ns ++ [0]).map fun (a : Nat) => PyData.int a)) (.lst (SqL.of e9) (fun z => by cases z) (dgAll_nm _)) ((Fit.list f2).mono (by omega) (by omega)) er9 hs8 (by decide) (by decide) rfl rfl fun H10 s10 => ⟨_, _, _, _, rfl, s6.trans (s69.trans s10)⟩
      · rintro σ H6 ⟨x8, x9, x10, x11, rfl, s6⟩
        exact ⟨_, _, _, _, _, rfl, s6⟩
    · rintro σ H5 ⟨x7, x8, x9, x10, x11, rfl, s5⟩
      clear vals
      have b14 := b13.same s5
      have kH5 := kHL.trans (Kp.of s5)
      dsimp only []
      try dsimp only [L2.gName, L2.tSeq, L2.tAsg, L2.tRet, L2.tNext, L2.tPar3, L2.tPar]
      refine ⟨(by decide), fun t0 ht0 => ?_⟩
      have s1 : Same H5 (upd H5 t0 (.tup [])) := Same.new (Same.refl _) ht0
      have nt0 : t0 ≠ p := (b14.ne ht0).symm
      have et0 : (upd H5 t0 (.tup [])) t0 = some (.tup []) := upd_same
      have b15 := b14.same s1
      generalize upd H5 t0 (.tup []) = J1 at s1 et0 b15 ⊢
      refine ⟨_, rfl, _, rfl, z1, fun m1 hm1 hs1 => ?_⟩
      have s2 : Same J1 (upd J1 m1 (.lst [.ref o])) := Same.new (Same.refl _) hm1
      have nm1 : m1 ≠ p := (b15.ne hm1).symm
      have em1 : (upd J1 m1 (.lst [.ref o])) m1 = some (.lst [.ref o]) := upd_same
      have b16 := b15.same s2
      generalize upd J1 m1 (.lst [.ref o]) = J2 at s2 em1 b16 ⊢
      have kJ2 := kH5.trans (Kp.of (s1.trans s2))
      refine ⟨_, rfl, r, _, _, _, rfl, rfl, hpr.ext kJ2.toW, atI_nat (j := 1) rfl, fun e he => ?_⟩
      have s3 : Same J2 (upd J2 e (.dK [])) := Same.new (Same.refl _) he
      have ne : e ≠ p := (b16.ne he).symm
      have ee : (upd J2 e (.dK [])) e = some (.dK []) := upd_same
      have b17 := b16.same s3
      generalize upd J2 e (.dK []) = J3 at s3 ee b17 ⊢
      refine ⟨_, rfl, z1, fun t1 ht1 => ?_⟩
      have s4 : Same J3 (upd J3 t1 (.tup [.ref o])) := Same.new (Same.refl _) ht1
      have nt1 : t1 ≠ p := (b17.ne ht1).symm
      have et1 : (upd J3 t1 (.tup [.ref o])) t1 = some (.tup [.ref o]) := upd_same
      have b18 := b17.same s4
      generalize upd J3 t1 (.tup [.ref o]) = J4 at s4 et1 b18 ⊢
      refine ⟨(by show 10 ≤ sizeLine; decide), fun M hM hMs => ?_⟩
      have s34 := s3.trans s4
      have s24 := s2.trans s34
      have kJ4 := kH5.trans (Kp.of (s1.trans s24))
      have men : ∀ y ∈ [V.non, .int 0, .str (Str.ofString ""), .ref t0, .ref r, .ref m1, .ref Sa, .ref e, .ref t1, .bl true], DVal K T.C_Decoder (wo J4 p) y := by
        have at8 : ∀ {b : Addr} {o : HO}, b ≠ p → J4 b = some o → wo J4 p b = some o := fun n e => by rw [wo_ne n]; exact e
        have cl : ∀ (x : V) (d : PyData), TyX K (wo J4 p) x (.type (tyD d)) → isLstD d = false → Sm K (wo J4 p) x → DVal K T.C_Decoder (wo J4 p) x := fun x d h1 h2 h3 => .oth h1 (kit_ownD T.ii_Decoder T.it_Decoder d) (by rw [kit_lstD, h2]) h3
        intro y hy
        simp only [List.mem_cons, List.not_mem_nil, or_false] at hy
        rcases hy with rfl | rfl | rfl | rfl | rfl | rfl | rfl | rfl | rfl | rfl
        · exact cl _ .none (.base .non) rfl .non
        · exact cl _ (.int 0) (.base (.int _)) rfl (.int _)
        · exact cl _ (.str (Str.ofString "")) (.base (.str _)) rfl (.str _)
        · exact cl _ (.tuple []) (.base (.tup (at8 nt0 (s24 _ _ et0)))) rfl (.tup (SqT.of (at8 nt0 (s24 _ _ et0))))
        · exact .lst (hpr.ext kJ4.wo) (by simp)
        · exact .lst (SqL.of (at8 nm1 (s34 _ _ em1))) (by simp)
        · obtain ⟨a0, xs0, e0, hs0, _, da0⟩ := (hSa.ext kJ4.wo).lst_of
          injection e0 with e0
          subst e0
          exact .lst hs0 (by rw [da0.len, List.length_map]; have := ok.n40; omega)
        · exact cl _ (.dict []) (.base (.dK (at8 ne (s4 _ _ ee)))) rfl (.emp (at8 ne (s4 _ _ ee)))
        · exact cl _ (.tuple []) (.base (.tup (at8 nt1 et1))) rfl (.tup (SqT.of (at8 nt1 et1)))
        · exact cl _ (.bool true) (.base (.bl _)) rfl (.bl _)
      have l10 : [V.non, .int 0, .str (Str.ofString ""), .ref t0, .ref r, .ref m1, .ref Sa, .ref e, .ref t1, .bl true].length = 10 := rfl
      generalize [V.non, .int 0, .str (Str.ofString ""), .ref t0, .ref r, .ref m1, .ref Sa, .ref e, .ref t1, .bl true] = ms at men l10 hM ⊢
      have s9 : Same J4 (upd J4 M (.lst ms)) := Same.new (Same.refl _) hM
      have nM : M ≠ p := (b18.ne hM).symm
      have eM : (upd J4 M (.lst ms)) M = some (.lst ms) := upd_same
      have b19 := b18.same s9
      generalize upd J4 M (.lst ms) = J5 at s9 eM b19 ⊢
      refine ⟨_, rfl, p, c + 3, _, rfl, b19, by omega, by omega, by omega, fun d2 o4 hd2 ho4 => ?_⟩
      have k5 : Kp p J5 (upd J5 p o4) := (Kp.refl p J5).upd
      have b20 : BoxAt (upd J5 p o4) p (c + 4) := ho4.at
      have hd2' : d2 < ms.length := by omega
      have vm := men _ (List.getElem_mem hd2')
      refine ⟨M, ms, (d2 : Int), ms[d2], rfl, rfl, SqL.of (k5 _ _ nM eM), atI_nat (List.getElem?_eq_getElem hd2'), ?_⟩
      generalize ms[d2] = y at vm
      have k6 : Kp p J4 (upd J5 p o4) := (Kp.of s9).trans k5
      generalize upd J5 p o4 = J6 at k6 b20 ⊢
      have kJ6 := kJ4.trans k6
      clear men ms l10 hd2 hd2' eM s9
      try dsimp only [L2.gName, L2.tSeq, L2.tAsg, L2.tRet, L2.tNext, L2.tPar3, L2.tPar]
      have dec6 := dec.bx hb kJ6
      cases vm with
      | @lst a2 xs hs ln =>
        have hs6 := hs.ext k6.toW
        refine ⟨_, rfl, _, _, _, _, true, rfl, .ty _, tyX_seqL hs6, kit_lstD (.list []), _, rfl, iteT ⟨_, rfl, a2, _, rfl, .inl hs6, fun g hg hgs => ?_⟩⟩
        have s7 : Same J6 (upd J6 g (.lst xs)) := Same.new (Same.refl _) hg
        have eg : (upd J6 g (.lst xs)) g = some (.lst xs) := upd_same
        have ngp : g ≠ p := (b20.ne hg).symm
        have b21 := b20.same s7
        generalize upd J6 g (.lst xs) = J7 at s7 eg b21 ⊢
        refine ⟨_, rfl, _, rfl, o, 2, .ref g, rfl, .inl ⟨rfl, _, .base (.lst eg), kit_ownD T.ii_Decoder T.it_Decoder (.list []), fun r2 H8 s8 hr2 hs8 er2 => ?_⟩⟩
        have eg8 := s8 _ _ eg
        have ngr : r2 ≠ g := fun z => by rw [z, eg] at hr2; cases hr2
        refine ⟨_, rfl, _, _, _, _, true, rfl, .ty _, .base (.lst eg8), kit_lstD (.list []), _, rfl, iteT ?_⟩
        refine ⟨_, rfl, .inl ⟨rfl, _, SqL.of eg8⟩, g, _, _, rfl, rfl, eg8, Nat.lt_of_le_of_lt ln (by decide), ?_⟩
        have e9 : (upd H8 g (.lst (xs ++ [.int 0]))) g = some (.lst (xs ++ [.int 0])) := upd_same
        have er9 : (upd H8 g (.lst (xs ++ [.int 0]))) r2 = some (.lst [.str (Str.ofString "decoder"), .ref g]) := by rw [upd_ne ngr]; exact er2
        have s69 : Same J6 (upd H8 g (.lst (xs ++ [.int 0]))) := fun b ob e => by rw [upd_ne (ne_of_none e hg)]; exact s8 _ _ (s7 _ _ e)
        have b22 : BoxAt (upd H8 g (.lst (xs ++ [.int 0]))) p (c + 4) := (b21.same s8).other ngp.symm
        generalize upd H8 g (.lst (xs ++ [.int 0])) = H9 at e9 er9 s69 b22 ⊢
        exact told_dec (.lst (SqL.of e9)) (.base (.lst e9)) (kit_lstD (.list [])) er9 rfl rfl (kQ _ (kJ6.trans (Kp.of s69)) b22)
      | @oth x t ty kt kl sm =>
        have ty6 := tyX_same ty k6.toW
        have sm6 := sm.ext k6.toW
        refine ⟨_, rfl, _, _, _, _, false, rfl, .ty _, ty6, kl, _, rfl, iteF ⟨_, rfl, _, rfl, _, rfl, o, 2, y, rfl, .inl ⟨rfl, t, ty6, kt, fun r2 H7 s7 hr2 hs7 er2 => ?_⟩⟩⟩
        refine ⟨_, rfl, _, _, _, _, false, rfl, .ty _, (tyX_same ty6 s7), kl, _, rfl, iteF ?_⟩
        exact told_dec (sm6.ext s7) ((tyX_same ty6 s7)) kl er2 rfl rfl (kQ _ (kJ6.trans (Kp.of s7)) (b20.same s7))
end
end My

set_option Elab.async false
set_option linter.all false
set_option maxRecDepth 100000
set_option maxHeartbeats 8000000
namespace My
open PySem PySem.Spec PyProof.Rows L2
def al {α : Type} (a b : α) (t : Nat) : α := if t % 2 = 0 then a else b
theorem al_at {a b : Addr} (t : Nat) : ([V.ref a, V.ref b] : List V)[t % 2]? = some (.ref (al a b t)) := by
  unfold al
  rcases (by omega : t % 2 = 0 ∨ t % 2 = 1) with z | z
  · rw [z, if_pos rfl]; rfl
  · rw [z, if_neg (by omega)]; rfl
theorem al_ix {a b : Addr} (t : Nat) : atI [V.ref a, V.ref b] ((t : Int) % 2) = some (.ref (al a b t)) := by
  rw [show (t : Int) % 2 = ((t % 2 : Nat) : Int) by omega]
  exact atI_nat (al_at t)
theorem al_k {a b : Addr} {t : Nat} (h : t < 2) : atI [V.ref a, V.ref b] (t : Int) = some (.ref (al a b t)) := by
  have := al_at (a := a) (b := b) t
  rw [Nat.mod_eq_of_lt h] at this
  exact atI_nat this
theorem sqT_wo {K : PySem.W.Frag} {H : Hp} {M a : Addr} {xs ys : List V} (e : H M = some (.lst xs)) (h : SqT K H a ys) : SqT K (wo H M) a ys := by
  rcases h with (h | ⟨o, h⟩) | h
  · exact .inl (.inl (by rw [wo_ne (fun z => by rw [z, e] at h; cases h)]; exact h))
  · exact .inl (.inr ⟨o, by rw [wo_ne (fun z => by rw [z, e] at h; cases h)]; exact h⟩)
  · exact .inr h
def LnAt (K : PySem.W.Frag) (U : Hp) (q : Addr) (D : Dcd) : Prop := ∃ l : List Nat, SqT K U q (nmV l) ∧ (∀ b ∈ l, b < D.sg) ∧ l.length ≤ 1000
theorem LnAt.ext {K : PySem.W.Frag} {U U' : Hp} {q : Addr} {D : Dcd} (h : LnAt K U q D) (s : Same U U') : LnAt K U' q D := by
  obtain ⟨l, h1, h2, h3⟩ := h
  exact ⟨l, h1.ext s, h2, h3⟩
def marksD (f : Nat → Bool) (n : Nat) : PyData := .tuple ((List.range n).map fun s => .bool (f s))
theorem dgAll_map {K : PySem.W.Frag} {H : Hp} {m : Bool} {f : Nat → V} {g : Nat → PyData} (h : ∀ s, Dg K H m (f s) (g s)) : ∀ l : List Nat, DgAll K H m (l.map f) (l.map g)
  | [] => .nil
  | a :: l => .cons (h a) (dgAll_map h l)
theorem marks_dg {K : PySem.W.Frag} {H : Hp} {a : Addr} {f : Nat → Bool} {n : Nat} (h : H a = some (.tup (marks f n))) : Dg K H false (.ref a) (marksD f n) := .tup (SqT.of h) (dgAll_map (fun s => .bl (f s)) _)
theorem wd_shaped {e : Option (List Nat)} (h : ∀ w, e = some w → okW w) : SeqAt.shaped (wdD e) = true ∧ PyData.eqv (wdD e) (wdD e) = true := by
  cases e with
  | none => exact ⟨by decide +kernel, by decide +kernel⟩
  | some w =>
    refine ⟨shaped_of ?_ ?_, ?_⟩
    · show PyData.canLay0 (.str (S w)) = true
      rw [show PyData.canLay0 (.str (S w)) = PyData.strOk (S w) by unfold PyData.canLay0; rfl, strOk_of fun c hc => (h w rfl).1.lt c hc]
    · show PyData.depth (.str (S w)) ≤ _
      unfold PyData.depth; decide
    · have p : plD (.str (S w)) = true := by unfold plD; rfl
      exact (eqv_pl _ _ p p).mpr rfl
theorem marks_sh {f : Nat → Bool} {n : Nat} (h : n ≤ 40) : Sh (marksD f n) := by
  refine (Fit.tuple (k := 0) (FitAll.all (w := 0) (ds := (List.range n).map fun s => PyData.bool (f s)) fun d hd => ?_)).sh (by omega) (by rw [List.length_map, List.length_range]; omega)
  obtain ⟨s, _, rfl⟩ := List.mem_map.mp hd
  exact Fit.bool
theorem marks_same {f g : Nat → Bool} {n : Nat} {R : Nat → Prop} (h1 : ∀ s, s < n → (f s = true ↔ R s)) (h2 : ∀ s, s < n → (g s = true ↔ R s)) : marksD f n = marksD g n := by
  unfold marksD
  refine congrArg PyData.tuple (List.map_congr_left fun s hs => ?_)
  have hs := List.mem_range.mp hs
  rw [show f s = g s from Bool.eq_iff_iff.mpr ((h1 s hs).trans (h2 s hs).symm)]
section
variable {P : Program} {w : World} {K : PySem.W.Frag} {mg : Str → Option Value} {base : Heap}
theorem mk_plain (T : Txt K mg) {D : Dcd} {H H3 : Hp} {v2 v3 : V} {Q : VK} {E : XK} (s : Same H H3) (ok : D.ok) (h2 : Dg K H3 false v2 D.stL) (h3 : Dg K H3 false v3 D.enL) (kQ : ∀ r H', Same H H' → DecAt K T.C_Decoder H' r D → Q (.ref r) H') :
    ∀ x dx, H3 x = none → H3 dx = none → dx ≠ x → spInit T [.ref x, .int (D.sg : Nat), v2, v3] (upd (upd H3 dx (.own x)) x (.ins T.C_Decoder dx [])) (fun v H2 => v = .non ∧ Q (.ref x) H2) E := fun x dx hx hdx _ =>
  ⟨x, dx, _, _, _, .int (D.sg : Nat), D.stL, D.enL, false, false, false, rfl, upd_same, .int _, made_dw hx hdx h2, made_dw hx hdx h3, weight_stL ok, weight_enL ok, .inr (.inr (.inr ⟨D, Dcd.goodL ok, fun H' k dec => ⟨rfl, kQ x H' (s.trans (made_same hx hdx k)) dec⟩⟩))⟩
theorem ok_law_right (T : Txt K mg) : FnG P w K mg base CX0 9 T.f_law_right T.fd_law_right ["box"] (fun vs H Q _ => ∃ (p : Addr), vs = [.ref p] ∧ BoxAt H p 0 ∧ ∀ H', Kp p H H' → Q (.bl true) H') := by
  refine T.F_law_right.okG sc_law_right (fun vs H Q E h => ?_) (fun cdv A outer s0 H vs Q E hgd hr h => ?_)
  · obtain ⟨p, rfl, _⟩ := h; rfl
  · obtain ⟨p, rfl, hb, kQ⟩ := h
    have hun := un64 hr
    refine ⟨_, (pss_cons (ps_set (i := 1) sc_law_right.nd rfl (Or.inl rfl) (pe_lst (pa_cons (pe_call (ok_law_drawn T) (hr.mono (by decide)) rfl T.g_law_drawn T.F_law_drawn.kp T.b_law_drawn .nil pass0 (pa_cons (pv 0) pa_nil)) (pa_cons (pe_call (ok_law_drawn T) (hr.mono (by decide)) rfl T.g_law_drawn T.F_law_drawn.kp T.b_law_drawn .nil pass0 (pa_cons (pv 0) pa_nil)) pa_nil))))
      (pss_cons (ps_setLc (i := 2) (own := [("plain", 3)]) (g := gName 3) (by rfl) sc_law_right.nd rfl rfl (sw_true rfl rfl rfl (by decide +kernel)) (pi_list (pv 1)) (blkOk_by (own := [("plain", 3)]) (N := N_law_right) (sc := defScope s_law_right) (by decide +kernel)) (fun _ _ _ _ _ => pg_name (i := 3) sc_law_right.nd rfl (Or.inl rfl)) (fun _ _ _ _ _ => pts_nil) (fun _ _ _ _ _ => (pe_make T.mk_Decoder (ok_Decoder_init T) (hr.mono (by decide)) rfl T.g_Decoder T.b_Decoder_init .nil passL (pa_cons (pe_ix (ix_listK (K := K) rfl) (pv 3) pe_int (fun _ _ => rfl)) (pa_cons (pe_ix (ix_listK (K := K) rfl) (pv 3) pe_int (fun _ _ => rfl)) (pa_cons (pe_ix (ix_listK (K := K) rfl) (pv 3) pe_int (fun _ _ => rfl)) pa_nil))))))
      (pss_cons (ps_set (i := 4) sc_law_right.nd rfl (Or.inl rfl) (pe_lst pa_nil))
      (pss_cons (ps_for PassesOwn.never rfl (pi_range1 rfl T.z_range (pa_cons pe_int pa_nil)) (pg_name (i := 5) sc_law_right.nd rfl (Or.inl rfl)) (pss_cons (ps_set (i := 6) sc_law_right.nd rfl (Or.inl rfl) (pe_call (ok_law_line T) (hr.mono (by decide)) rfl T.g_law_line T.F_law_line.kp T.b_law_line .nil pass0 (pa_cons (pv 0) (pa_cons (pe_ix ix_list (pv 1) (pe_op op_mod (pv 5) pe_int) (fun _ _ => rfl)) pa_nil))))
      (pss_cons (ps_expr (pe_bm PySem.F.plainAttrs_list PySem.F.slot_list_append PySem.F.type_list_append mt_append (pv 4) (pa_cons (pv 6) pa_nil)))
      (pss_one (ps_if (pt_not (pt_val (pe_callG (ok_law_line_right T) hgd (hr.mono (by decide)) rfl T.g_law_line_right T.F_law_line_right.kp T.b_law_line_right .nil pass0 (pa_cons (pe_ix ix_list (pv 2) (pe_op op_mod (pv 5) pe_int) (fun _ _ => rfl)) (pa_cons (pe_ix ix_list (pv 1) (pe_op op_mod (pv 5) pe_int) (fun _ _ => rfl)) (pa_cons (pv 6) (pa_cons (pe_call (ok_law_take T) (hr.mono (by decide)) rfl T.g_law_take T.F_law_take.kp T.b_law_take .nil pass0 (pa_cons (pv 0) (pa_cons pe_int pa_nil))) pa_nil))))))) (pss_one (ps_ret pe_bl)) pss_nil)))))
      (pss_cons (ps_for PassesOwn.never rfl (pi_range1 rfl T.z_range (pa_cons pe_int pa_nil)) (pg_name (i := 7) sc_law_right.nd rfl (Or.inl rfl)) (pss_cons (ps_if (PW.pt (pw_or (pt_cmpR op_ne (pe_callB (call_reprG hgd hun) (by rfl) T.z_repr (by decide +kernel) (pa_cons (pe_meth0 (pe_ix ix_list (pv 2) (pv 7) (fun _ _ => rfl)) T.cl_Decoder T.m_Decoder_trimmed (ok_Decoder_trimmed T) (hr.mono (by decide)) T.b_Decoder_trimmed .nil pass0) pa_nil)) (pe_callB (call_reprG hgd hun) (by rfl) T.z_repr (by decide +kernel) (pa_cons (pe_call (ok_law_trimmed T) (hr.mono (by decide)) rfl T.g_law_trimmed T.F_law_trimmed.kp T.b_law_trimmed .nil pass0 (pa_cons (pe_ix ix_list (pv 1) (pv 7) (fun _ _ => rfl)) pa_nil)) pa_nil)) (nomark _)) (pw_or1 (pt_not (pt_val (pe_call (ok_law_shortest_right T) (hr.mono (by decide)) rfl T.g_law_shortest_right T.F_law_shortest_right.kp T.b_law_shortest_right .nil pass0 (pa_cons (pe_ix ix_list (pv 2) (pv 7) (fun _ _ => rfl)) (pa_cons (pe_ix ix_list (pv 1) (pv 7) (fun _ _ => rfl)) pa_nil)))))))) (pss_one (ps_ret pe_bl)) pss_nil)
      (pss_one (ps_if (pt_not (pt_val (pe_callG (ok_law_refused_right T) hgd (hr.mono (by decide)) rfl T.g_law_refused_right T.F_law_refused_right.kp T.b_law_refused_right .nil pass0 (pa_cons (pv 0) (pa_cons (pe_ix ix_list (pv 2) (pv 7) (fun _ _ => rfl)) (pa_cons (pe_ix ix_list (pv 1) (pv 7) (fun _ _ => rfl)) (pa_cons (pe_ix ix_list (pv 4) (pe_op op_add (pe_op op_mul (pe_call (ok_law_take T) (hr.mono (by decide)) rfl T.g_law_take T.F_law_take.kp T.b_law_take .nil pass0 (pa_cons (pv 0) (pa_cons pe_int pa_nil))) pe_int) (pv 7)) (fun _ _ => rfl)) pa_nil))))))) (pss_one (ps_ret pe_bl)) pss_nil))))
      (pss_cons (ps_for PassesOwn.never rfl (pi_range1 rfl T.z_range (pa_cons pe_int pa_nil)) (pg_name (i := 5) sc_law_right.nd rfl (Or.inl rfl)) (pss_one (ps_if (pt_not (pt_val (pe_callG (ok_law_line_right T) hgd (hr.mono (by decide)) rfl T.g_law_line_right T.F_law_line_right.kp T.b_law_line_right .nil pass0 (pa_cons (pe_ix ix_list (pv 2) (pe_op op_mod (pv 5) pe_int) (fun _ _ => rfl)) (pa_cons (pe_ix ix_list (pv 1) (pe_op op_mod (pv 5) pe_int) (fun _ _ => rfl)) (pa_cons (pe_ix ix_list (pv 4) (pv 5) (fun _ _ => rfl)) (pa_cons pe_int pa_nil))))))) (pss_one (ps_ret pe_bl)) pss_nil)))
      (pss_one (ps_ret (pe_and (pe_cmpR op_eq (pe_callB (call_reprG hgd hun) (by rfl) T.z_repr (by decide +kernel) (pa_cons (pe_meth0 (pe_ix ix_list (pv 2) pe_int (fun _ _ => rfl)) T.cl_Decoder T.m_Decoder_trimmed (ok_Decoder_trimmed T) (hr.mono (by decide)) T.b_Decoder_trimmed .nil pass0) pa_nil)) (pe_callB (call_reprG hgd hun) (by rfl) T.z_repr (by decide +kernel) (pa_cons (pe_call (ok_law_trimmed T) (hr.mono (by decide)) rfl T.g_law_trimmed T.F_law_trimmed.kp T.b_law_trimmed .nil pass0 (pa_cons (pe_ix ix_list (pv 1) pe_int (fun _ _ => rfl)) pa_nil)) pa_nil)) (nomark _)) (pe_one (pe_cmpR (op_eqD (un64 hr)) (pe_meth (pe_ix ix_list (pv 2) pe_int (fun _ _ => rfl)) T.cl_Decoder T.m_Decoder_written (ok_Decoder_written T) (hr.mono (by decide)) T.b_Decoder_written .nil passL (pa_cons (pe_tup pa_nil) pa_nil)) (pe_ix ix_list (pe_ix ix_list (pe_ix ix_list (pv 1) pe_int (fun _ _ => rfl)) pe_int (fun _ _ => rfl)) pe_int (fun _ _ => rfl)) (nomark _)))))))))))), ?_⟩
    have z2 : 2 ≤ sizeLine := by decide
    try dsimp only [L2.gName, L2.tSeq, L2.tAsg, L2.tRet, L2.tNext, L2.tPar3, L2.tPar]
    refine ⟨_, rfl, p, 0, rfl, hb, by omega, fun r0 D0 H1 k1 b1 pa0 => ?_⟩
    refine ⟨_, rfl, p, _, rfl, b1, by omega, fun r1 D1 H2 k2 b2 pa1 => ⟨z2, fun M1 hM1 => ?_⟩⟩
    have pa0 := pa0.kp k2
    have s1 : Same H2 (upd H2 M1 (.lst [.ref r0, .ref r1])) := Same.new (Same.refl _) hM1
    have nM1 : M1 ≠ p := (b2.ne hM1).symm
    have eM1 : (upd H2 M1 (.lst [.ref r0, .ref r1])) M1 = some (.lst [.ref r0, .ref r1]) := upd_same
    have b3 := b2.same s1
    have k3 : Kp p H (upd H2 M1 (.lst [.ref r0, .ref r1])) := (k1.trans k2).trans (Kp.of s1)
    have pa0 := pa0.kp (Kp.of s1)
    have pa1 := pa1.kp (Kp.of s1)
    generalize upd H2 M1 (.lst [.ref r0, .ref r1]) = H3 at s1 eM1 b3 k3 pa0 pa1 ⊢
    refine ⟨_, rfl, M1, rfl, ⟨_, SqL.of eM1⟩, fun E' hE => ?_⟩
    have nE : E' ≠ p := (b3.ne hE).symm
    have paA : ∀ t, PartsAt K p H3 (al r0 r1 t) (al D0 D1 t) := fun t => by
      unfold al
      split
      · exact pa0
      · exact pa1
    refine lc_list (K := K) (a := M1) (xs := [.ref r0, .ref r1]) (fun i H' => Same H3 H' ∧ ∃ os : List Addr, H' E' = some (.lst (os.map V.ref)) ∧ os.length = i ∧ ∀ j o, os[j]? = some o → DecAt K T.C_Decoder (wo H' E') o (al D0 D1 j)) ⟨Same.new (Same.refl _) hE, [], upd_same, rfl, fun j o h => by cases h⟩ (fun i H' _ h => SqL.of (h.1 _ _ eM1)) ?_ ?_
    · rintro i x H4 hx ⟨s4, os, eE, lo, hos⟩
      obtain ⟨hi, rfl⟩ : i < 2 ∧ x = .ref (al r0 r1 i) := by
        have hi : i < 2 := (List.getElem?_eq_some_iff.mp hx).1
        have := al_at (a := r0) (b := r1) i
        rw [Nat.mod_eq_of_lt hi, hx] at this
        exact ⟨hi, Option.some.inj this⟩
      have pa := (paA i).kp (Kp.of s4)
      obtain ⟨Sa, Ea, hpr, hSa, hEa, ok⟩ := id pa
      have hpr4 := hpr.ext (wo_same H4 p)
      refine ⟨rfl, ?_⟩
      refine ⟨_, rfl, _, _, _, _, rfl, rfl, hpr4, atI_nat (j := 0) rfl, _, rfl, _, _, _, _, rfl, rfl, hpr4, atI_nat (j := 1) rfl, _, rfl, _, _, _, _, rfl, rfl, hpr4, atI_nat (j := 2) rfl, ?_⟩
      dsimp only [L2.tNil, List.append_nil]
      refine mk_plain T (Q := fun y G => ∃ acc, G E' = some (.lst acc) ∧ acc.length < sizeLine ∧ Same H3 (upd G E' (.lst (acc ++ [y]))) ∧ ∃ os : List Addr, (upd G E' (.lst (acc ++ [y]))) E' = some (.lst (os.map V.ref)) ∧ os.length = i + 1 ∧ ∀ j o, os[j]? = some o → DecAt K T.C_Decoder (wo (upd G E' (.lst (acc ++ [y]))) E') o (al D0 D1 j)) (Same.refl _) ok (hSa.ext (wo_same H4 p)) (hEa.ext (wo_same H4 p)) fun o H5 s5 dec5 => ?_
      have eE5 := s5 _ _ eE
      refine ⟨os.map V.ref, eE5, by rw [List.length_map, lo]; exact Nat.lt_of_lt_of_le (by omega : i < 2) (by decide), fun b ob e => by rw [upd_ne (ne_of_none e hE)]; exact s5 _ _ (s4 _ _ e), os ++ [o], by rw [upd_same, List.map_append]; rfl, by rw [List.length_append, lo]; rfl, fun j o' hj => ?_⟩
      rw [wo_upd]
      by_cases q : j < os.length
      · rw [List.getElem?_append_left q] at hj
        exact (hos j o' hj).ext (Kp.of s5).wo
      · have ej : j = os.length := by
          have := (List.getElem?_eq_some_iff.mp hj).1
          rw [List.length_append] at this
          simp at this
          omega
        rw [ej, List.getElem?_concat_length] at hj
        injection hj with hj
        subst hj
        rw [ej, lo]
        exact dec5.mut eE5
    · rintro HA ⟨sA, os, eE, lo, hos⟩
      have lo : os.length = 2 := lo
      match os, lo with
      | [o0, o1], _ =>
        have kA : Kp p H HA := k3.trans (Kp.of sA)
        have bA := b3.same sA
        have fM1 : ∀ {G}, Kp p HA G → SqL K G M1 [.ref r0, .ref r1] := fun k => SqL.of (k _ _ nM1 (sA _ _ eM1))
        have fM2 : ∀ {G}, Kp p HA G → SqL K G E' [.ref o0, .ref o1] := fun k => SqL.of (k _ _ nE eE)
        have fP : ∀ {G} t, Kp p HA G → PartsAt K p G (al r0 r1 t) (al D0 D1 t) := fun t k => (paA t).kp ((Kp.of sA).trans k)
        have fD : ∀ {G} t, Kp p HA G → DecAt K T.C_Decoder G (al o0 o1 t) (al D0 D1 t) := fun t k => by
          have key : DecAt K T.C_Decoder HA (al o0 o1 t) (al D0 D1 t) := by
            rcases (by omega : t % 2 = 0 ∨ t % 2 = 1) with z | z
            · have := hos 0 o0 rfl
              unfold al at this ⊢
              rw [if_pos z, if_pos z]
              exact this.ext (wo_same HA E')
            · have := hos 1 o1 rfl
              unfold al at this ⊢
              rw [if_neg (by omega), if_neg (by omega)]
              exact this.ext (wo_same HA E')
          exact key.bx bA k
        clear hos paA pa0 pa1
        have z0 : 0 ≤ sizeLine := by decide
        refine ⟨z0, fun M3 hM3 => ?_⟩
        have nM3 : M3 ≠ p := (bA.ne hM3).symm
        have k4 : Kp p HA (upd HA M3 (.lst [])) := (Kp.refl p HA).new hM3
        have b4 : BoxAt (upd HA M3 (.lst [])) p 8000 := bA.new hM3
        have e4 : (upd HA M3 (.lst [])) M3 = some (.lst []) := upd_same
        generalize upd HA M3 (.lst []) = H5 at k4 b4 e4 ⊢
        refine ⟨8, rfl, by decide, by decide, for_range (lo := 0) (n := 8) (fun i σ H' => ∃ x5 x6, ∃ qs : List Addr, σ = [some (.ref p), some (.ref M1), some (.ref E'), none, some (.ref M3), x5, x6, none] ∧ Kp p HA H' ∧ BoxAt H' p (8000 + 1001 * i) ∧ H' M3 = some (.lst (qs.map V.ref)) ∧ qs.length = i ∧ ∀ j q, qs[j]? = some q → LnAt K (wo (wo H' p) M3) q (al D0 D1 j)) ⟨_, _, [], rfl, k4, b4, e4, rfl, fun j q h => by cases h⟩ ?_ ?_⟩
        · rintro i σ H6 hi ⟨x5, x6, qs, rfl, k6, b6, e6, lq, hqs⟩
          rw [Int.zero_add]
          try dsimp only [L2.gName, L2.tSeq, L2.tAsg, L2.tRet, L2.tNext, L2.tPar3, L2.tPar]
          refine ⟨_, rfl, _, rfl, _, rfl, (i : Int), 2, rfl, rfl, (by show (0 : Int) < 2; decide), M1, _, _, _, rfl, rfl, fM1 k6, al_ix i, p, _, _, _, rfl, b6, by omega, fP i k6, fun l q H7 k7 b7 hq ol ll => ?_⟩
          have k67 := k6.trans k7
          have e7 := k7 _ _ nM3 e6
          refine ⟨_, rfl, .inl ⟨rfl, _, SqL.of e7⟩, _, rfl, M3, _, _, rfl, rfl, e7, by rw [List.length_map, lq]; exact Nat.lt_of_lt_of_le (by omega : i < 8) (by decide), ?_⟩
          have k8 : Kp p HA (upd H7 M3 (.lst (qs.map V.ref ++ [.ref q]))) := k67.free hM3
          have b8 : BoxAt (upd H7 M3 (.lst (qs.map V.ref ++ [.ref q]))) p (8000 + 1001 * i + 1000) := b7.other nM3.symm
          have e8 : (upd H7 M3 (.lst (qs.map V.ref ++ [.ref q]))) M3 = some (.lst ((qs ++ [q]).map V.ref)) := by rw [upd_same, List.map_append]; rfl
          have lnq : LnAt K (wo (wo H7 p) M3) q (al D0 D1 i) := ⟨l, sqT_wo (xs := qs.map V.ref) (by rw [wo_ne nM3]; exact e7) hq, ol, ll⟩
          have all8 : ∀ j q', (qs ++ [q])[j]? = some q' → LnAt K (wo (wo H7 p) M3) q' (al D0 D1 j) := fun j q' hj => by
            by_cases z : j < qs.length
            · rw [List.getElem?_append_left z] at hj
              exact (hqs j q' hj).ext (two_kp k7)
            · have ej : j = qs.length := by
                have := (List.getElem?_eq_some_iff.mp hj).1
                rw [List.length_append] at this
                simp at this
                omega
              rw [ej, List.getElem?_concat_length] at hj
              injection hj with hj
              rw [← hj, ej, lq]; exact lnq
          rw [← two_upd (o := .lst (qs.map V.ref ++ [.ref q]))] at lnq all8
          generalize upd H7 M3 (.lst (qs.map V.ref ++ [.ref q])) = H8 at k8 b8 e8 lnq all8 ⊢
          obtain ⟨l, hq, ol, ll⟩ := lnq
          have hq8 : SqT K H8 q (nmV l) := (hq.ext (wo_same _ _)).ext (wo_same _ _)
          refine ⟨_, rfl, _, rfl, (i : Int), 2, rfl, rfl, (by show (0 : Int) < 2; decide), E', _, _, _, rfl, rfl, fM2 k8, al_ix i, _, rfl, _, rfl, (i : Int), 2, rfl, rfl, (by show (0 : Int) < 2; decide), M1, _, _, _, rfl, rfl, fM1 k8, al_ix i, _, rfl, _, rfl, p, _, _, rfl, b8, by omega, by omega, by omega, fun d o hd ho => ?_⟩
          have k9 : Kp p H8 (upd H8 p o) := (Kp.refl p H8).upd
          have b9 : BoxAt (upd H8 p o) p (8000 + 1001 * i + 1000 + 1) := ho.at
          generalize upd H8 p o = H9 at k9 b9 ⊢
          have k09 := k8.trans k9
          refine ⟨_, _, q, _, _, l, rfl, fD i k09, (fP i k09).lp, (sqT_bx b8 hq8).ext k9.toW, ol, ll, fun H10 s10 => ⟨true, rfl, iteF ?_⟩⟩
          refine ⟨_, _, qs ++ [q], rfl, k09.trans (Kp.of s10), (b9.same s10).mono (by omega), s10 _ _ (k9 _ _ nM3 e8), by rw [List.length_append, lq]; rfl, fun j q' hj => (all8 j q' hj).ext (two_kp (k9.trans (Kp.of s10)))⟩
        · rintro σ HB ⟨x5, x6, qs, rfl, kB, bB, eB, lq, hqs⟩
          have hqs : ∀ j q, qs[j]? = some q → LnAt K (wo HB p) q (al D0 D1 j) := fun j q hj => (hqs j q hj).ext (wo_same _ _)
          have ixq : ∀ {j : Nat} {G : Hp}, j < 8 → Kp p HB G → ∃ q, atI (qs.map V.ref) (j : Int) = some (.ref q) ∧ LnAt K (wo G p) q (al D0 D1 j) := fun {j G} hj k => by
            have hj' : j < qs.length := by omega
            refine ⟨qs[j], atI_nat (by rw [List.getElem?_map, List.getElem?_eq_getElem hj']; rfl), (hqs j _ (List.getElem?_eq_getElem hj')).ext k.wo⟩
          have al2 : ∀ {d t : Nat}, al D0 D1 (d * 2 + t) = al D0 D1 t := fun {d t} => by unfold al; rw [show (d * 2 + t) % 2 = t % 2 by omega]
          have okD : ∀ t, (al D0 D1 t).st.length ≤ 40 := fun t => (fD t kB).ok.n40
          try dsimp only [L2.gName, L2.tSeq, L2.tAsg, L2.tRet, L2.tNext, L2.tPar3, L2.tPar]
          refine ⟨2, rfl, by decide, by decide, for_range (lo := 0) (n := 2) (fun i σ H' => ∃ x7, σ = [some (.ref p), some (.ref M1), some (.ref E'), none, some (.ref M3), x5, x6, x7] ∧ Kp p HB H' ∧ BoxAt H' p (16008 + 5 * i)) ⟨_, rfl, Kp.refl _ _, bB⟩ ?_ ?_⟩
          · rintro i σ H1 hi ⟨x7, rfl, k1, b1⟩
            rw [Int.zero_add]
            try dsimp only [L2.gName, L2.tSeq, L2.tAsg, L2.tRet, L2.tNext, L2.tPar3, L2.tPar]
            have kA1 := kB.trans k1
            obtain ⟨⟨dx, _, _, ep, _, _⟩, _⟩ := fD i kA1
            refine ⟨_, rfl, _, rfl, E', _, _, _, rfl, rfl, fM2 kA1, al_k hi, _, dx, _, rfl, ep, dfs_no (by decide) (by decide) (by decide) (by decide), _, _, rfl, fD i kA1, fun r2 f H2 s2 _ er2 hf => ?_⟩
            obtain ⟨sh1, sh2, sh3⟩ := marks_sh (f := f) (okD i)
            refine ⟨_, _, false, rfl, marks_dg er2, sh1, sh2, sh3, ?_⟩
            have kA2 := kA1.trans (Kp.of s2)
            refine ⟨_, rfl, _, rfl, M1, _, _, _, rfl, rfl, fM1 kA2, al_k hi, _, _, rfl, (fP i kA2).lp, fun q3 g H3 s3 eq3 hg => ?_⟩
            obtain ⟨sg1, sg2, sg3⟩ := marks_sh (f := g) (okD i)
            have same := marks_same hf hg
            refine ⟨_, _, false, rfl, marks_dg eq3, sg1, sg2, sg3, rfl, _, rfl, ?_⟩
            rw [same, decide_eq_true rfl]
            refine iteF ?_
            have kA3 := kA2.trans (Kp.of s3)
            refine ⟨_, rfl, _, rfl, E', _, _, _, rfl, rfl, fM2 kA3, al_k hi, _, rfl, _, rfl, M1, _, _, _, rfl, rfl, fM1 kA3, al_k hi, _, _, _, rfl, fD i kA3, (fP i kA3).lp, fun H4 s4 => ⟨true, rfl, iteF ?_⟩⟩
            have kA4 := kA3.trans (Kp.of s4)
            have s14 := (s2.trans s3).trans s4
            have k4 := k1.trans (Kp.of s14)
            have b4 := b1.same s14
            refine ⟨_, rfl, _, rfl, _, rfl, E', _, _, _, rfl, rfl, fM2 kA4, al_k hi, _, rfl, _, rfl, M1, _, _, _, rfl, rfl, fM1 kA4, al_k hi, _, rfl, _, rfl, p, _, _, rfl, b4, by omega, by omega, by omega, fun d o hd ho => ?_⟩
            have k5 : Kp p H4 (upd H4 p o) := (Kp.refl p H4).upd
            have b5 : BoxAt (upd H4 p o) p (16008 + 5 * i + 1) := ho.at
            generalize upd H4 p o = H5' at k5 b5 ⊢
            have kB5 := k4.trans k5
            have kA5 := kA4.trans k5
            obtain ⟨q, hq, l, hl, ol, ll⟩ := ixq (j := d * 2 + i) (by omega) kB5
            rw [al2] at ol
            refine ⟨(d : Int), 2, rfl, rfl, .inl ⟨by omega, by omega⟩, _, rfl, _, _, rfl, rfl, M3, qs.map V.ref, _, .ref q, rfl, rfl, SqL.of (kB5 _ _ nM3 eB), ?_, p, _, _, q, _, _, l, rfl, b5, by omega, fD i kA5, fP i kA5, hl, ol, ll, fun H6 k6 b6 => ⟨true, rfl, iteF ?_⟩⟩
            · rw [show (d : Int) * 2 + (i : Int) = ((d * 2 + i : Nat) : Int) by omega]; exact hq
            · exact ⟨_, rfl, kB5.trans k6, b6.mono (by omega)⟩
          · rintro σ H1 ⟨x7, rfl, k1, b1⟩
            dsimp only []
            try dsimp only [L2.gName, L2.tSeq, L2.tAsg, L2.tRet, L2.tNext, L2.tPar3, L2.tPar]
            have kA0 := kB.trans k1
            refine ⟨8, rfl, by decide, by decide, for_range (lo := 0) (n := 8) (fun i σ H' => ∃ x5, σ = [some (.ref p), some (.ref M1), some (.ref E'), none, some (.ref M3), x5, x6, x7] ∧ Same H1 H') ⟨_, rfl, Same.refl _⟩ ?_ ?_⟩
            · rintro i σ H2 hi ⟨x5, rfl, s2⟩
              rw [Int.zero_add]
              have k2 := k1.trans (Kp.of s2)
              have kA2 := kB.trans k2
              obtain ⟨q, hq, l, hl, ol, ll⟩ := ixq (j := i) hi k2
              dsimp only [L2.gName]
              refine ⟨_, rfl, _, rfl, (i : Int), 2, rfl, rfl, (by show (0 : Int) < 2; decide), E', _, _, _, rfl, rfl, fM2 kA2, al_ix i, _, rfl, _, rfl, (i : Int), 2, rfl, rfl, (by show (0 : Int) < 2; decide), M1, _, _, _, rfl, rfl, fM1 kA2, al_ix i, _, rfl, _, rfl, M3, qs.map V.ref, _, .ref q, rfl, rfl, SqL.of (k2 _ _ nM3 eB), hq, ?_⟩
              refine ⟨_, _, q, _, 1, l, rfl, fD i kA2, (fP i kA2).lp, hl.ext (wo_same _ _), ol, ll, fun H3 s3 => ⟨true, rfl, iteF ?_⟩⟩
              exact ⟨_, rfl, s2.trans s3⟩
            · rintro σ H2 ⟨x5, rfl, s2⟩
              have k2 := k1.trans (Kp.of s2)
              have kA2 := kB.trans k2
              obtain ⟨⟨dx, _, _, ep, _, _⟩, _⟩ := fD 0 kA2
              dsimp only []
              have a0 : ∀ {a b : Addr}, atI [V.ref a, V.ref b] (0 : Int) = some (.ref (al a b 0)) := fun {a b} => al_k (t := 0) (by omega)
              refine ⟨_, rfl, E', _, _, _, rfl, rfl, fM2 kA2, a0, _, dx, _, rfl, ep, dfs_no (by decide) (by decide) (by decide) (by decide), _, _, rfl, fD 0 kA2, fun r2 f H3 s3 _ er2 hf => ?_⟩
              obtain ⟨sh1, sh2, sh3⟩ := marks_sh (f := f) (okD 0)
              refine ⟨_, _, false, rfl, marks_dg er2, sh1, sh2, sh3, ?_⟩
              have kA3 := kA2.trans (Kp.of s3)
              refine ⟨_, rfl, M1, _, _, _, rfl, rfl, fM1 kA3, a0, _, _, rfl, (fP 0 kA3).lp, fun q3 g H4 s4 eq3 hg => ?_⟩
              obtain ⟨sg1, sg2, sg3⟩ := marks_sh (f := g) (okD 0)
              have same := marks_same hf hg
              refine ⟨_, _, false, rfl, marks_dg eq3, sg1, sg2, sg3, rfl, _, rfl, ?_⟩
              rw [same, decide_eq_true rfl]
              have kA4 := kA3.trans (Kp.of s4)
              obtain ⟨⟨dx4, _, _, ep4, _, _⟩, _⟩ := fD 0 kA4
              refine iteT ⟨_, rfl, E', _, _, _, rfl, rfl, fM2 kA4, a0, _, dx4, _, rfl, ep4, dfs_no (by decide) (by decide) (by decide) (by decide), z0, fun t ht => ?_⟩
              have s5 : Same H4 (upd H4 t (.tup [])) := Same.new (Same.refl _) ht
              have et : (upd H4 t (.tup [])) t = some (.tup (nmV [])) := upd_same
              generalize upd H4 t (.tup []) = H5 at s5 et ⊢
              have kA5 := kA4.trans (Kp.of s5)
              refine ⟨_, .ref t, _, lnD [], false, rfl, fD 0 kA5, ln_dg (SqT.of et), ln_w (by simp) (fun b h => by cases h), .inr ⟨[], rfl, (fun b h => by cases h), fun H6 s6 => ?_⟩⟩
              have kA6 := kA5.trans (Kp.of s6)
              have lp := (fP 0 kA6).lp
              have ok := lp.ok
              obtain ⟨xs, Ea, g1, g2, g3⟩ := lp.two
              obtain ⟨ws, e, g4, g5, g6⟩ := dgL_end ok g3 (s := 0) ok.n1
              refine ⟨_, rfl, M1, _, _, _, rfl, rfl, fM1 kA6, a0, _, xs, _, _, rfl, rfl, g1, g2, Ea, ws, _, e, rfl, rfl, g4, atI_nat (j := 0) g5, ?_⟩
              obtain ⟨w1, w2⟩ := wd_shaped (e := (al D0 D1 0).en.getD 0 none) fun w' hw => ok.end_ hw
              have hx : Dg K H6 false (txV ((al D0 D1 0).wr [])) (wdD ((al D0 D1 0).en.getD 0 none)) := by
                show Dg K H6 false (txV (((al D0 D1 0).en.getD 0 none).map fun w => [] ++ w)) _
                cases (al D0 D1 0).en.getD 0 none with
                | none => exact .non
                | some w => exact .str _
              refine ⟨_, _, dg_dp _ _ hx, dg_dp _ _ g6, w1, w1, ?_⟩
              rw [w2]
              exact kQ _ ((kA.trans kA6))
end
end My

set_option Elab.async false
set_option linter.all false
set_option maxRecDepth 100000
set_option maxHeartbeats 8000000
namespace My
open PySem PySem.Spec PyProof.Rows L2
section
variable {P : Program} {w : World} {K : PySem.W.Frag} {mg : Str → Option Value} {base : Heap}
def spLaw (K : PySem.W.Frag) : Sp := fun vs H Q _ => ∃ (a : Addr) (ns : List Int), vs = [.ref a] ∧ SqL K H a (ns.map V.int) ∧ ns.length ≤ 63 ∧ ∀ H', Q (.bl true) H'
theorem ok_law (T : Txt K mg) : FnG P w K mg base CX0 10 T.f_law T.fd_law ["script"] (spLaw K) := by
  refine T.F_law.okG sc_law (fun vs H Q E h => ?_) (fun cdv A outer s H vs Q E hgd hr h => ?_)
  · obtain ⟨a, ns, rfl, _⟩ := h; rfl
  · obtain ⟨a, ns, rfl, hS, hlen, q⟩ := h
    refine ⟨_, (pss_cons (ps_for PassesOwn.never rfl (pi_range1 rfl T.z_range (pa_cons (pe_callB (call_max2 rfl) (by rfl) T.z_max (by decide +kernel) (pa_cons pe_int (pa_cons (pe_callB (call_min2 rfl) (by rfl) T.z_min (by decide +kernel) (pa_cons pe_int (pa_cons (pe_callB call_len_seq (by rfl) T.z_len (by decide +kernel) (pa_cons (pv 0) pa_nil)) pa_nil))) pa_nil))) pa_nil)) (pg_name (i := 1) sc_law.nd rfl (Or.inl rfl)) (pss_one (ps_if (pt_not (pt_val (pe_callG (ok_law_right T) hgd (hr.mono (by decide)) rfl T.g_law_right T.F_law_right.kp T.b_law_right .nil pass0 (pa_cons (pe_call (ok_law_box T) (hr.mono (by decide)) rfl T.g_law_box T.F_law_box.kp T.b_law_box .nil pass0 (pa_cons (pe_call (ok_law_cell T) (hr.mono (by decide)) rfl T.g_law_cell T.F_law_cell.kp T.b_law_cell .nil pass0 (pa_cons (pv 0) (pa_cons (pv 1) pa_nil))) pa_nil)) pa_nil)))) (pss_one (ps_ret pe_bl)) pss_nil)))
      (pss_one (ps_ret pe_bl))), ?_⟩
    refine ⟨_, rfl, a, _, rfl, .inl hS, _, _, rfl, _, _, rfl, _, rfl, ?_, ?_, ?_⟩
    · split <;> split <;> omega
    · split <;> split <;> omega
    refine for_range (lo := 0) (fun i σ H' => ∃ x1, σ = [some (.ref a), x1] ∧ Same H H') ⟨_, rfl, Same.refl _⟩ ?_ ?_
    · rintro i σ H' hi ⟨x1, rfl, sH⟩
      rw [Int.zero_add]
      refine ⟨_, rfl, _, rfl, a, ns, i, rfl, hS.ext sH, fun c H1 s1 => ?_⟩
      refine ⟨c, rfl, fun p o hp ho => ?_⟩
      have sH1 := sH.trans s1
      have hpH : H p = none := sH1.free hp
      have s2 : Same H (upd H1 p o) := Same.new sH1 hp
      refine ⟨p, rfl, ho.at, fun H2 k2 => ⟨true, rfl, iteF ?_⟩⟩
      exact ⟨_, rfl, k2.toSame s2 hpH⟩
    · rintro σ H' ⟨x1, rfl, sH⟩
      exact q H'
end
end My

set_option Elab.async false
set_option linter.all false
set_option maxRecDepth 100000
set_option maxHeartbeats 8000000
namespace My
open PySem PySem.Spec PyProof.Rows L2
theorem exm_of {K : PySem.W.Frag} {S T : Addr} {b : Bool} (h1 : PySem.W.subIn K (.ref T) (.type "BaseException") = some true) (h2 : PySem.W.isClsIn K T = true) (h3 : PySem.W.typeIn K (.ref T) = some (.type "type")) (h4 : PySem.W.subIn K (.ref S) (.ref T) = some b) :
    PySem.W.exmOne K (.ref S) (.ref T) = some b := by
  have e1 : (PySem.W.subIn K (.ref T) (.type "BaseException") == some true) = true := by rw [h1] <;> rfl
  have e2 : ((PySem.W.clsIn K T).isSome && PySem.W.typeIn K (.ref T) == some (.type "type")) = true := by
    have h2' : (PySem.W.clsIn K T).isSome = true := h2
    rw [h2', h3] <;> rfl
  show (if (PySem.W.subIn K (.ref T) (.type "BaseException") == some true) = true then (if ((PySem.W.clsIn K T).isSome && PySem.W.typeIn K (.ref T) == some (.type "type")) = true then PySem.W.subIn K (.ref S) (.ref T) else none) else none) = some b
  rw [if_pos e1, if_pos e2]
  exact h4
theorem all_mk {P : Program} {w : World} {K : PySem.W.Frag} {h : Heap} {mg : Str → Option Value} {fa : Addr} (X : K.In h) (G : h.Ns mainGlobals mg) (hfa : mg "law" = some (.ref fa))
    {C0 I0 B0 : Addr} {nm0 q0 : Str} {N0 : Addr} {bs0 : List Value} {sn0 : List Str} {sub0 : List Value} {ab0 : Bool} {col0 : Option Bool} {dd0 : Option Addr} {m00 m10 m20 m30 m50 : Option Value}
    {ei0 en0 : Option Addr} {es0 : Array (Option Value)} {eo0 ed0 ep0 ec0 et0 : Value} {p10 p20 q10 q20 q30 q40 : Pos}
    {C1 I1 B1 : Addr} {nm1 q1 : Str} {N1 : Addr} {bs1 : List Value} {sn1 : List Str} {sub1 : List Value} {ab1 : Bool} {col1 : Option Bool} {dd1 : Option Addr} {m01 m11 m21 m31 m51 : Option Value}
    {ei1 en1 : Option Addr} {es1 : Array (Option Value)} {eo1 ed1 ep1 ec1 et1 : Value} {p11 p21 q11 q21 q31 q41 : Pos}
    {C2 I2 B2 : Addr} {nm2 q2 : Str} {N2 : Addr} {bs2 : List Value} {sn2 : List Str} {sub2 : List Value} {ab2 : Bool} {col2 : Option Bool} {dd2 : Option Addr} {m02 m12 m22 m32 m52 : Option Value}
    {ei2 en2 : Option Addr} {es2 : Array (Option Value)} {eo2 ed2 ep2 ec2 et2 : Value} {p12 p22 q12 q22 q32 q42 : Pos}
    {C3 I3 B3 : Addr} {nm3 q3 : Str} {N3 : Addr} {bs3 : List Value} {sn3 : List Str} {sub3 : List Value} {ab3 : Bool} {col3 : Option Bool} {dd3 : Option Addr} {m03 m13 m23 m33 m53 : Option Value}
    {ei3 en3 : Option Addr} {es3 : Array (Option Value)} {eo3 ed3 ep3 ec3 et3 : Value} {p13 p23 q13 q23 q33 q43 : Pos}
    {C4 I4 B4 : Addr} {nm4 q4 : Str} {N4 : Addr} {bs4 : List Value} {sn4 : List Str} {sub4 : List Value} {ab4 : Bool} {col4 : Option Bool} {dd4 : Option Addr} {m04 m14 m24 m34 m54 : Option Value}
    {ei4 en4 : Option Addr} {es4 : Array (Option Value)} {eo4 ed4 ep4 ec4 et4 : Value} {p14 p24 q14 q24 q34 q44 : Pos}
    {OC_Decoder : Addr}
    {f0 : Addr} {od0 an0 : Option Addr} {sl0 : Array (Option Value)} {oc0 kV0 dc0 pm0 cd0 ct0 : Value}
    {f1 : Addr} {od1 an1 : Option Addr} {sl1 : Array (Option Value)} {oc1 kV1 dc1 pm1 cd1 ct1 : Value}
    {f2 : Addr} {od2 an2 : Option Addr} {sl2 : Array (Option Value)} {oc2 kV2 dc2 pm2 cd2 ct2 : Value}
    {f3 : Addr} {od3 an3 : Option Addr} {sl3 : Array (Option Value)} {oc3 kV3 dc3 pm3 cd3 ct3 : Value}
    {f4 : Addr} {od4 an4 : Option Addr} {sl4 : Array (Option Value)} {oc4 kV4 dc4 pm4 cd4 ct4 : Value}
    {f5 : Addr} {od5 an5 : Option Addr} {sl5 : Array (Option Value)} {oc5 kV5 dc5 pm5 cd5 ct5 : Value}
    {f6 : Addr} {od6 an6 : Option Addr} {sl6 : Array (Option Value)} {oc6 kV6 dc6 pm6 cd6 ct6 : Value}
    {f7 : Addr} {od7 an7 : Option Addr} {sl7 : Array (Option Value)} {oc7 kV7 dc7 pm7 cd7 ct7 : Value}
    {f8 : Addr} {od8 an8 : Option Addr} {sl8 : Array (Option Value)} {oc8 kV8 dc8 pm8 cd8 ct8 : Value}
    {f9 : Addr} {od9 an9 : Option Addr} {sl9 : Array (Option Value)} {oc9 kV9 dc9 pm9 cd9 ct9 : Value}
    {f10 : Addr} {od10 an10 : Option Addr} {sl10 : Array (Option Value)} {oc10 kV10 dc10 pm10 cd10 ct10 : Value}
    {f11 : Addr} {od11 an11 : Option Addr} {sl11 : Array (Option Value)} {oc11 kV11 dc11 pm11 cd11 ct11 : Value}
    {f12 : Addr} {od12 an12 : Option Addr} {sl12 : Array (Option Value)} {oc12 kV12 dc12 pm12 cd12 ct12 : Value}
    {f13 : Addr} {od13 an13 : Option Addr} {sl13 : Array (Option Value)} {oc13 kV13 dc13 pm13 cd13 ct13 : Value}
    {f14 : Addr} {od14 an14 : Option Addr} {sl14 : Array (Option Value)} {oc14 kV14 dc14 pm14 cd14 ct14 : Value}
    {f15 : Addr} {od15 an15 : Option Addr} {sl15 : Array (Option Value)} {oc15 kV15 dc15 pm15 cd15 ct15 : Value}
    {f16 : Addr} {od16 an16 : Option Addr} {sl16 : Array (Option Value)} {oc16 kV16 dc16 pm16 cd16 ct16 : Value}
    {f17 : Addr} {od17 an17 : Option Addr} {sl17 : Array (Option Value)} {oc17 kV17 dc17 pm17 cd17 ct17 : Value}
    {f18 : Addr} {od18 an18 : Option Addr} {sl18 : Array (Option Value)} {oc18 kV18 dc18 pm18 cd18 ct18 : Value}
    {f19 : Addr} {od19 an19 : Option Addr} {sl19 : Array (Option Value)} {oc19 kV19 dc19 pm19 cd19 ct19 : Value}
    {f20 : Addr} {od20 an20 : Option Addr} {sl20 : Array (Option Value)} {oc20 kV20 dc20 pm20 cd20 ct20 : Value}
    {f21 : Addr} {od21 an21 : Option Addr} {sl21 : Array (Option Value)} {oc21 kV21 dc21 pm21 cd21 ct21 : Value}
    {f22 : Addr} {od22 an22 : Option Addr} {sl22 : Array (Option Value)} {oc22 kV22 dc22 pm22 cd22 ct22 : Value}
    {f23 : Addr} {od23 an23 : Option Addr} {sl23 : Array (Option Value)} {oc23 kV23 dc23 pm23 cd23 ct23 : Value}
    {f24 : Addr} {od24 an24 : Option Addr} {sl24 : Array (Option Value)} {oc24 kV24 dc24 pm24 cd24 ct24 : Value}
    {f25 : Addr} {od25 an25 : Option Addr} {sl25 : Array (Option Value)} {oc25 kV25 dc25 pm25 cd25 ct25 : Value}
    {f26 : Addr} {od26 an26 : Option Addr} {sl26 : Array (Option Value)} {oc26 kV26 dc26 pm26 cd26 ct26 : Value}
    {f27 : Addr} {od27 an27 : Option Addr} {sl27 : Array (Option Value)} {oc27 kV27 dc27 pm27 cd27 ct27 : Value}
    {f28 : Addr} {od28 an28 : Option Addr} {sl28 : Array (Option Value)} {oc28 kV28 dc28 pm28 cd28 ct28 : Value}
    {f29 : Addr} {od29 an29 : Option Addr} {sl29 : Array (Option Value)} {oc29 kV29 dc29 pm29 cd29 ct29 : Value}
    {f30 : Addr} {od30 an30 : Option Addr} {sl30 : Array (Option Value)} {oc30 kV30 dc30 pm30 cd30 ct30 : Value}
    {f31 : Addr} {od31 an31 : Option Addr} {sl31 : Array (Option Value)} {oc31 kV31 dc31 pm31 cd31 ct31 : Value}
    {f32 : Addr} {od32 an32 : Option Addr} {sl32 : Array (Option Value)} {oc32 kV32 dc32 pm32 cd32 ct32 : Value}
    {f33 : Addr} {od33 an33 : Option Addr} {sl33 : Array (Option Value)} {oc33 kV33 dc33 pm33 cd33 ct33 : Value}
    {f34 : Addr} {od34 an34 : Option Addr} {sl34 : Array (Option Value)} {oc34 kV34 dc34 pm34 cd34 ct34 : Value}
    {f35 : Addr} {od35 an35 : Option Addr} {sl35 : Array (Option Value)} {oc35 kV35 dc35 pm35 cd35 ct35 : Value}
    {f36 : Addr} {od36 an36 : Option Addr} {sl36 : Array (Option Value)} {oc36 kV36 dc36 pm36 cd36 ct36 : Value}
    {f37 : Addr} {od37 an37 : Option Addr} {sl37 : Array (Option Value)} {oc37 kV37 dc37 pm37 cd37 ct37 : Value}
    {f38 : Addr} {od38 an38 : Option Addr} {sl38 : Array (Option Value)} {oc38 kV38 dc38 pm38 cd38 ct38 : Value}
    {t_MOST_SIGNS : Tok}
    {t_MOST_LETTERS : Tok}
    {t_MOST_STATES : Tok}
    (eC0 : PySem.W.nsIn K mainGlobals "InvalidDecoder" = some (some (.ref C0)))
    (eL0 : K.lookup C0 = some (excClassObj nm0 q0 C0 N0 bs0 [.ref B0, .type "Exception", .type "BaseException", .type "object"] true sn0 sub0 ab0 col0 dd0 m00 m10 m20 m30 m50 "Exception.__new__"))
    (etk0 : PySem.W.takerIn K C0 "given" = some none)
    (esa0 : PySem.W.findIn K (.ref C0) "__setattr__" = some (some (.builtin "object.__setattr__")))
    (ega0 : PySem.W.findIn K (.ref C0) "__getattribute__" = some (some (.builtin "BaseException.__getattribute__")))
    (egg0 : PySem.W.findIn K (.ref C0) "__getattr__" = some none)
    (eno0 : PySem.W.findIn K (.ref C0) "given" = some none)
    (ein0 : PySem.W.findIn K (.ref C0) "__init__" = some (some (.ref I0)))
    (eti0 : PySem.W.typeIn K (.ref I0) = some (.type "function"))
    (ekC0 : PySem.W.keepIn K (.ref C0) = true)
    (eeC0 : PySem.W.subIn K (.ref C0) (.type "BaseException") = some true)
    (etC0 : PySem.W.typeIn K (.ref C0) = some (.type "type"))
    (ehC0 : PySem.W.hasDictIn K C0 = true)
    (eiC0 : PySem.W.isClsIn K C0 = true)
    (esC0 : PySem.W.subIn K (.ref C0) (.ref C0) = some true)
    (efn0 : K.lookup I0 = some ⟨eo0, ei0, .func (PySem.W.fnOf "__init__" "InvalidDecoder.__init__" (ErrX.iA p10 p20) (ErrX.iB q10 q20 q30 q40) ErrX.iS .none .none ed0 ep0 en0 ec0 et0), es0⟩)
    (eco0 : PySem.W.codeIn K ec0 "InvalidDecoder.__init__" = true)
    (eC1 : PySem.W.nsIn K mainGlobals "InvalidEnds" = some (some (.ref C1)))
    (eL1 : K.lookup C1 = some (excClassObj nm1 q1 C1 N1 bs1 [.ref B1, .type "Exception", .type "BaseException", .type "object"] true sn1 sub1 ab1 col1 dd1 m01 m11 m21 m31 m51 "Exception.__new__"))
    (etk1 : PySem.W.takerIn K C1 "given" = some none)
    (esa1 : PySem.W.findIn K (.ref C1) "__setattr__" = some (some (.builtin "object.__setattr__")))
    (ega1 : PySem.W.findIn K (.ref C1) "__getattribute__" = some (some (.builtin "BaseException.__getattribute__")))
    (egg1 : PySem.W.findIn K (.ref C1) "__getattr__" = some none)
    (eno1 : PySem.W.findIn K (.ref C1) "given" = some none)
    (ein1 : PySem.W.findIn K (.ref C1) "__init__" = some (some (.ref I1)))
    (eti1 : PySem.W.typeIn K (.ref I1) = some (.type "function"))
    (ekC1 : PySem.W.keepIn K (.ref C1) = true)
    (eeC1 : PySem.W.subIn K (.ref C1) (.type "BaseException") = some true)
    (etC1 : PySem.W.typeIn K (.ref C1) = some (.type "type"))
    (ehC1 : PySem.W.hasDictIn K C1 = true)
    (eiC1 : PySem.W.isClsIn K C1 = true)
    (esC1 : PySem.W.subIn K (.ref C1) (.ref C1) = some true)
    (efn1 : K.lookup I1 = some ⟨eo1, ei1, .func (PySem.W.fnOf "__init__" "InvalidEnds.__init__" (ErrX.iA p11 p21) (ErrX.iB q11 q21 q31 q41) ErrX.iS .none .none ed1 ep1 en1 ec1 et1), es1⟩)
    (eco1 : PySem.W.codeIn K ec1 "InvalidEnds.__init__" = true)
    (eC2 : PySem.W.nsIn K mainGlobals "InvalidLine" = some (some (.ref C2)))
    (eL2 : K.lookup C2 = some (excClassObj nm2 q2 C2 N2 bs2 [.ref B2, .type "Exception", .type "BaseException", .type "object"] true sn2 sub2 ab2 col2 dd2 m02 m12 m22 m32 m52 "Exception.__new__"))
    (etk2 : PySem.W.takerIn K C2 "given" = some none)
    (esa2 : PySem.W.findIn K (.ref C2) "__setattr__" = some (some (.builtin "object.__setattr__")))
    (ega2 : PySem.W.findIn K (.ref C2) "__getattribute__" = some (some (.builtin "BaseException.__getattribute__")))
    (egg2 : PySem.W.findIn K (.ref C2) "__getattr__" = some none)
    (eno2 : PySem.W.findIn K (.ref C2) "given" = some none)
    (ein2 : PySem.W.findIn K (.ref C2) "__init__" = some (some (.ref I2)))
    (eti2 : PySem.W.typeIn K (.ref I2) = some (.type "function"))
    (ekC2 : PySem.W.keepIn K (.ref C2) = true)
    (eeC2 : PySem.W.subIn K (.ref C2) (.type "BaseException") = some true)
    (etC2 : PySem.W.typeIn K (.ref C2) = some (.type "type"))
    (ehC2 : PySem.W.hasDictIn K C2 = true)
    (eiC2 : PySem.W.isClsIn K C2 = true)
    (esC2 : PySem.W.subIn K (.ref C2) (.ref C2) = some true)
    (efn2 : K.lookup I2 = some ⟨eo2, ei2, .func (PySem.W.fnOf "__init__" "InvalidLine.__init__" (ErrX.iA p12 p22) (ErrX.iB q12 q22 q32 q42) ErrX.iS .none .none ed2 ep2 en2 ec2 et2), es2⟩)
    (eco2 : PySem.W.codeIn K ec2 "InvalidLine.__init__" = true)
    (eC3 : PySem.W.nsIn K mainGlobals "InvalidSigns" = some (some (.ref C3)))
    (eL3 : K.lookup C3 = some (excClassObj nm3 q3 C3 N3 bs3 [.ref B3, .type "Exception", .type "BaseException", .type "object"] true sn3 sub3 ab3 col3 dd3 m03 m13 m23 m33 m53 "Exception.__new__"))
    (etk3 : PySem.W.takerIn K C3 "given" = some none)
    (esa3 : PySem.W.findIn K (.ref C3) "__setattr__" = some (some (.builtin "object.__setattr__")))
    (ega3 : PySem.W.findIn K (.ref C3) "__getattribute__" = some (some (.builtin "BaseException.__getattribute__")))
    (egg3 : PySem.W.findIn K (.ref C3) "__getattr__" = some none)
    (eno3 : PySem.W.findIn K (.ref C3) "given" = some none)
    (ein3 : PySem.W.findIn K (.ref C3) "__init__" = some (some (.ref I3)))
    (eti3 : PySem.W.typeIn K (.ref I3) = some (.type "function"))
    (ekC3 : PySem.W.keepIn K (.ref C3) = true)
    (eeC3 : PySem.W.subIn K (.ref C3) (.type "BaseException") = some true)
    (etC3 : PySem.W.typeIn K (.ref C3) = some (.type "type"))
    (ehC3 : PySem.W.hasDictIn K C3 = true)
    (eiC3 : PySem.W.isClsIn K C3 = true)
    (esC3 : PySem.W.subIn K (.ref C3) (.ref C3) = some true)
    (efn3 : K.lookup I3 = some ⟨eo3, ei3, .func (PySem.W.fnOf "__init__" "InvalidSigns.__init__" (ErrX.iA p13 p23) (ErrX.iB q13 q23 q33 q43) ErrX.iS .none .none ed3 ep3 en3 ec3 et3), es3⟩)
    (eco3 : PySem.W.codeIn K ec3 "InvalidSigns.__init__" = true)
    (eC4 : PySem.W.nsIn K mainGlobals "InvalidSteps" = some (some (.ref C4)))
    (eL4 : K.lookup C4 = some (excClassObj nm4 q4 C4 N4 bs4 [.ref B4, .type "Exception", .type "BaseException", .type "object"] true sn4 sub4 ab4 col4 dd4 m04 m14 m24 m34 m54 "Exception.__new__"))
    (etk4 : PySem.W.takerIn K C4 "given" = some none)
    (esa4 : PySem.W.findIn K (.ref C4) "__setattr__" = some (some (.builtin "object.__setattr__")))
    (ega4 : PySem.W.findIn K (.ref C4) "__getattribute__" = some (some (.builtin "BaseException.__getattribute__")))
    (egg4 : PySem.W.findIn K (.ref C4) "__getattr__" = some none)
    (eno4 : PySem.W.findIn K (.ref C4) "given" = some none)
    (ein4 : PySem.W.findIn K (.ref C4) "__init__" = some (some (.ref I4)))
    (eti4 : PySem.W.typeIn K (.ref I4) = some (.type "function"))
    (ekC4 : PySem.W.keepIn K (.ref C4) = true)
    (eeC4 : PySem.W.subIn K (.ref C4) (.type "BaseException") = some true)
    (etC4 : PySem.W.typeIn K (.ref C4) = some (.type "type"))
    (ehC4 : PySem.W.hasDictIn K C4 = true)
    (eiC4 : PySem.W.isClsIn K C4 = true)
    (esC4 : PySem.W.subIn K (.ref C4) (.ref C4) = some true)
    (efn4 : K.lookup I4 = some ⟨eo4, ei4, .func (PySem.W.fnOf "__init__" "InvalidSteps.__init__" (ErrX.iA p14 p24) (ErrX.iB q14 q24 q34 q44) ErrX.iS .none .none ed4 ep4 en4 ec4 et4), es4⟩)
    (eco4 : PySem.W.codeIn K ec4 "InvalidSteps.__init__" = true)
    (en_0_1 : PySem.W.subIn K (.ref C0) (.ref C1) = some false)
    (en_0_2 : PySem.W.subIn K (.ref C0) (.ref C2) = some false)
    (en_0_3 : PySem.W.subIn K (.ref C0) (.ref C3) = some false)
    (en_0_4 : PySem.W.subIn K (.ref C0) (.ref C4) = some false)
    (en_1_0 : PySem.W.subIn K (.ref C1) (.ref C0) = some false)
    (en_1_2 : PySem.W.subIn K (.ref C1) (.ref C2) = some false)
    (en_1_3 : PySem.W.subIn K (.ref C1) (.ref C3) = some false)
    (en_1_4 : PySem.W.subIn K (.ref C1) (.ref C4) = some false)
    (en_2_0 : PySem.W.subIn K (.ref C2) (.ref C0) = some false)
    (en_2_1 : PySem.W.subIn K (.ref C2) (.ref C1) = some false)
    (en_2_3 : PySem.W.subIn K (.ref C2) (.ref C3) = some false)
    (en_2_4 : PySem.W.subIn K (.ref C2) (.ref C4) = some false)
    (en_3_0 : PySem.W.subIn K (.ref C3) (.ref C0) = some false)
    (en_3_1 : PySem.W.subIn K (.ref C3) (.ref C1) = some false)
    (en_3_2 : PySem.W.subIn K (.ref C3) (.ref C2) = some false)
    (en_3_4 : PySem.W.subIn K (.ref C3) (.ref C4) = some false)
    (en_4_0 : PySem.W.subIn K (.ref C4) (.ref C0) = some false)
    (en_4_1 : PySem.W.subIn K (.ref C4) (.ref C1) = some false)
    (en_4_2 : PySem.W.subIn K (.ref C4) (.ref C2) = some false)
    (en_4_3 : PySem.W.subIn K (.ref C4) (.ref C3) = some false)
    (on_Decoder : PySem.W.nsIn K mainGlobals "Decoder" = some (some (.ref OC_Decoder)))
    (opg_Decoder : PySem.W.plainGet K OC_Decoder Str.empty = true)
    (ohd_Decoder : PySem.W.hasDictIn K OC_Decoder = true)
    (opo_Decoder : PySem.W.plainOver K OC_Decoder = true)
    (osa_Decoder : PySem.W.findIn K (.ref OC_Decoder) "__setattr__" = some (some (.builtin "object.__setattr__")))
    (omk_Decoder : PySem.W.makesIn K OC_Decoder = true)
    (okp_Decoder : PySem.W.keepIn K (.ref OC_Decoder) = true)
    (one_Decoder : PySem.W.findIn K (.ref OC_Decoder) "__ne__" = some (some (.builtin "object.__ne__")))
    (omo_Decoder : PySem.W.mroIn K OC_Decoder (.type "object") = some true)
    (oha_Decoder : PySem.W.findIn K (.ref OC_Decoder) "__class__" = some (some (.builtin "object.__class__")))
    (ohn_Decoder : PySem.W.specialIn K (.builtin "object.__class__") "__get__" = some (some (.builtin "getset_descriptor.__get__")))
    (otk_Decoder : PySem.W.takesIn K (.builtin "object.__class__") = some true)
    (oii_Decoder : PySem.W.isClsIn K OC_Decoder = true)
    (oit_Decoder : PySem.W.typeIn K (.ref OC_Decoder) = some (.type "type"))
    (ois_Decoder : PySem.W.subIn K (.ref OC_Decoder) (.ref OC_Decoder) = some true)
    (ona_Decoder_signs : PySem.W.findIn K (.ref OC_Decoder) "signs" = some none)
    (ona_Decoder_states : PySem.W.findIn K (.ref OC_Decoder) "states" = some none)
    (ona_Decoder_steps : PySem.W.findIn K (.ref OC_Decoder) "steps" = some none)
    (ona_Decoder_ends : PySem.W.findIn K (.ref OC_Decoder) "ends" = some none)
    (a0 : PySem.W.nsIn K mainGlobals "is_integer" = some (some (.ref f0)))
    (l0 : K.lookup f0 = some ⟨oc0, od0, .func (PySem.W.fnOf "is_integer" "is_integer" (defArgs s_is_integer) (defBody s_is_integer) (defScope s_is_integer) .none kV0 dc0 pm0 an0 cd0 ct0), sl0⟩)
    (c0 : PySem.W.codeIn K cd0 "is_integer" = true)
    (k0 : PySem.W.keepIn K (.ref f0) = true)
    (a1 : PySem.W.nsIn K mainGlobals "is_count" = some (some (.ref f1)))
    (l1 : K.lookup f1 = some ⟨oc1, od1, .func (PySem.W.fnOf "is_count" "is_count" (defArgs s_is_count) (defBody s_is_count) (defScope s_is_count) .none kV1 dc1 pm1 an1 cd1 ct1), sl1⟩)
    (c1 : PySem.W.codeIn K cd1 "is_count" = true)
    (k1 : PySem.W.keepIn K (.ref f1) = true)
    (a2 : PySem.W.nsIn K mainGlobals "is_list" = some (some (.ref f2)))
    (l2 : K.lookup f2 = some ⟨oc2, od2, .func (PySem.W.fnOf "is_list" "is_list" (defArgs s_is_list) (defBody s_is_list) (defScope s_is_list) .none kV2 dc2 pm2 an2 cd2 ct2), sl2⟩)
    (c2 : PySem.W.codeIn K cd2 "is_list" = true)
    (k2 : PySem.W.keepIn K (.ref f2) = true)
    (a3 : PySem.W.nsIn K mainGlobals "is_text" = some (some (.ref f3)))
    (l3 : K.lookup f3 = some ⟨oc3, od3, .func (PySem.W.fnOf "is_text" "is_text" (defArgs s_is_text) (defBody s_is_text) (defScope s_is_text) .none kV3 dc3 pm3 an3 cd3 ct3), sl3⟩)
    (c3 : PySem.W.codeIn K cd3 "is_text" = true)
    (k3 : PySem.W.keepIn K (.ref f3) = true)
    (a4 : PySem.W.nsIn K mainGlobals "is_word" = some (some (.ref f4)))
    (l4 : K.lookup f4 = some ⟨oc4, od4, .func (PySem.W.fnOf "is_word" "is_word" (defArgs s_is_word) (defBody s_is_word) (defScope s_is_word) .none kV4 dc4 pm4 an4 cd4 ct4), sl4⟩)
    (c4 : PySem.W.codeIn K cd4 "is_word" = true)
    (k4 : PySem.W.keepIn K (.ref f4) = true)
    (a5 : PySem.W.nsIn K mainGlobals "is_number_of_signs" = some (some (.ref f5)))
    (l5 : K.lookup f5 = some ⟨oc5, od5, .func (PySem.W.fnOf "is_number_of_signs" "is_number_of_signs" (defArgs s_is_number_of_signs) (defBody s_is_number_of_signs) (defScope s_is_number_of_signs) .none kV5 dc5 pm5 an5 cd5 ct5), sl5⟩)
    (c5 : PySem.W.codeIn K cd5 "is_number_of_signs" = true)
    (k5 : PySem.W.keepIn K (.ref f5) = true)
    (a6 : PySem.W.nsIn K mainGlobals "is_below" = some (some (.ref f6)))
    (l6 : K.lookup f6 = some ⟨oc6, od6, .func (PySem.W.fnOf "is_below" "is_below" (defArgs s_is_below) (defBody s_is_below) (defScope s_is_below) .none kV6 dc6 pm6 an6 cd6 ct6), sl6⟩)
    (c6 : PySem.W.codeIn K cd6 "is_below" = true)
    (k6 : PySem.W.keepIn K (.ref f6) = true)
    (a7 : PySem.W.nsIn K mainGlobals "is_line" = some (some (.ref f7)))
    (l7 : K.lookup f7 = some ⟨oc7, od7, .func (PySem.W.fnOf "is_line" "is_line" (defArgs s_is_line) (defBody s_is_line) (defScope s_is_line) .none kV7 dc7 pm7 an7 cd7 ct7), sl7⟩)
    (c7 : PySem.W.codeIn K cd7 "is_line" = true)
    (k7 : PySem.W.keepIn K (.ref f7) = true)
    (a8 : PySem.W.nsIn K mainGlobals "are_steps" = some (some (.ref f8)))
    (l8 : K.lookup f8 = some ⟨oc8, od8, .func (PySem.W.fnOf "are_steps" "are_steps" (defArgs s_are_steps) (defBody s_are_steps) (defScope s_are_steps) .none kV8 dc8 pm8 an8 cd8 ct8), sl8⟩)
    (c8 : PySem.W.codeIn K cd8 "are_steps" = true)
    (k8 : PySem.W.keepIn K (.ref f8) = true)
    (a9 : PySem.W.nsIn K mainGlobals "are_entries" = some (some (.ref f9)))
    (l9 : K.lookup f9 = some ⟨oc9, od9, .func (PySem.W.fnOf "are_entries" "are_entries" (defArgs s_are_entries) (defBody s_are_entries) (defScope s_are_entries) .none kV9 dc9 pm9 an9 cd9 ct9), sl9⟩)
    (c9 : PySem.W.codeIn K cd9 "are_entries" = true)
    (k9 : PySem.W.keepIn K (.ref f9) = true)
    (a10 : PySem.W.nsIn K mainGlobals "is_step" = some (some (.ref f10)))
    (l10 : K.lookup f10 = some ⟨oc10, od10, .func (PySem.W.fnOf "is_step" "is_step" (defArgs s_is_step) (defBody s_is_step) (defScope s_is_step) .none kV10 dc10 pm10 an10 cd10 ct10), sl10⟩)
    (c10 : PySem.W.codeIn K cd10 "is_step" = true)
    (k10 : PySem.W.keepIn K (.ref f10) = true)
    (a11 : PySem.W.nsIn K mainGlobals "are_ends" = some (some (.ref f11)))
    (l11 : K.lookup f11 = some ⟨oc11, od11, .func (PySem.W.fnOf "are_ends" "are_ends" (defArgs s_are_ends) (defBody s_are_ends) (defScope s_are_ends) .none kV11 dc11 pm11 an11 cd11 ct11), sl11⟩)
    (c11 : PySem.W.codeIn K cd11 "are_ends" = true)
    (k11 : PySem.W.keepIn K (.ref f11) = true)
    (a12 : PySem.W.nsIn K mainGlobals "states_met" = some (some (.ref f12)))
    (l12 : K.lookup f12 = some ⟨oc12, od12, .func (PySem.W.fnOf "states_met" "states_met" (defArgs s_states_met) (defBody s_states_met) (defScope s_states_met) .none kV12 dc12 pm12 an12 cd12 ct12), sl12⟩)
    (c12 : PySem.W.codeIn K cd12 "states_met" = true)
    (k12 : PySem.W.keepIn K (.ref f12) = true)
    (a13 : PySem.W.nsIn K mainGlobals "turned_round" = some (some (.ref f13)))
    (l13 : K.lookup f13 = some ⟨oc13, od13, .func (PySem.W.fnOf "turned_round" "turned_round" (defArgs s_turned_round) (defBody s_turned_round) (defScope s_turned_round) .none kV13 dc13 pm13 an13 cd13 ct13), sl13⟩)
    (c13 : PySem.W.codeIn K cd13 "turned_round" = true)
    (k13 : PySem.W.keepIn K (.ref f13) = true)
    (a14 : PySem.W.nsIn K mainGlobals "shortest_line" = some (some (.ref f14)))
    (l14 : K.lookup f14 = some ⟨oc14, od14, .func (PySem.W.fnOf "shortest_line" "shortest_line" (defArgs s_shortest_line) (defBody s_shortest_line) (defScope s_shortest_line) .none kV14 dc14 pm14 an14 cd14 ct14), sl14⟩)
    (c14 : PySem.W.codeIn K cd14 "shortest_line" = true)
    (k14 : PySem.W.keepIn K (.ref f14) = true)
    (a15 : PySem.W.nsIn K mainGlobals "one_sign_on" = some (some (.ref f15)))
    (l15 : K.lookup f15 = some ⟨oc15, od15, .func (PySem.W.fnOf "one_sign_on" "one_sign_on" (defArgs s_one_sign_on) (defBody s_one_sign_on) (defScope s_one_sign_on) .none kV15 dc15 pm15 an15 cd15 ct15), sl15⟩)
    (c15 : PySem.W.codeIn K cd15 "one_sign_on" = true)
    (k15 : PySem.W.keepIn K (.ref f15) = true)
    (a16 : PySem.W.nsIn K mainGlobals "_law_cell" = some (some (.ref f16)))
    (l16 : K.lookup f16 = some ⟨oc16, od16, .func (PySem.W.fnOf "_law_cell" "_law_cell" (defArgs s_law_cell) (defBody s_law_cell) (defScope s_law_cell) .none kV16 dc16 pm16 an16 cd16 ct16), sl16⟩)
    (c16 : PySem.W.codeIn K cd16 "_law_cell" = true)
    (k16 : PySem.W.keepIn K (.ref f16) = true)
    (a17 : PySem.W.nsIn K mainGlobals "_law_box" = some (some (.ref f17)))
    (l17 : K.lookup f17 = some ⟨oc17, od17, .func (PySem.W.fnOf "_law_box" "_law_box" (defArgs s_law_box) (defBody s_law_box) (defScope s_law_box) .none kV17 dc17 pm17 an17 cd17 ct17), sl17⟩)
    (c17 : PySem.W.codeIn K cd17 "_law_box" = true)
    (k17 : PySem.W.keepIn K (.ref f17) = true)
    (a18 : PySem.W.nsIn K mainGlobals "_law_take" = some (some (.ref f18)))
    (l18 : K.lookup f18 = some ⟨oc18, od18, .func (PySem.W.fnOf "_law_take" "_law_take" (defArgs s_law_take) (defBody s_law_take) (defScope s_law_take) .none kV18 dc18 pm18 an18 cd18 ct18), sl18⟩)
    (c18 : PySem.W.codeIn K cd18 "_law_take" = true)
    (k18 : PySem.W.keepIn K (.ref f18) = true)
    (a19 : PySem.W.nsIn K mainGlobals "_law_word" = some (some (.ref f19)))
    (l19 : K.lookup f19 = some ⟨oc19, od19, .func (PySem.W.fnOf "_law_word" "_law_word" (defArgs s_law_word) (defBody s_law_word) (defScope s_law_word) .none kV19 dc19 pm19 an19 cd19 ct19), sl19⟩)
    (c19 : PySem.W.codeIn K cd19 "_law_word" = true)
    (k19 : PySem.W.keepIn K (.ref f19) = true)
    (a20 : PySem.W.nsIn K mainGlobals "_law_goal" = some (some (.ref f20)))
    (l20 : K.lookup f20 = some ⟨oc20, od20, .func (PySem.W.fnOf "_law_goal" "_law_goal" (defArgs s_law_goal) (defBody s_law_goal) (defScope s_law_goal) .none kV20 dc20 pm20 an20 cd20 ct20), sl20⟩)
    (c20 : PySem.W.codeIn K cd20 "_law_goal" = true)
    (k20 : PySem.W.keepIn K (.ref f20) = true)
    (a21 : PySem.W.nsIn K mainGlobals "_law_drawn" = some (some (.ref f21)))
    (l21 : K.lookup f21 = some ⟨oc21, od21, .func (PySem.W.fnOf "_law_drawn" "_law_drawn" (defArgs s_law_drawn) (defBody s_law_drawn) (defScope s_law_drawn) .none kV21 dc21 pm21 an21 cd21 ct21), sl21⟩)
    (c21 : PySem.W.codeIn K cd21 "_law_drawn" = true)
    (k21 : PySem.W.keepIn K (.ref f21) = true)
    (a22 : PySem.W.nsIn K mainGlobals "_law_run" = some (some (.ref f22)))
    (l22 : K.lookup f22 = some ⟨oc22, od22, .func (PySem.W.fnOf "_law_run" "_law_run" (defArgs s_law_run) (defBody s_law_run) (defScope s_law_run) .none kV22 dc22 pm22 an22 cd22 ct22), sl22⟩)
    (c22 : PySem.W.codeIn K cd22 "_law_run" = true)
    (k22 : PySem.W.keepIn K (.ref f22) = true)
    (a23 : PySem.W.nsIn K mainGlobals "_law_written" = some (some (.ref f23)))
    (l23 : K.lookup f23 = some ⟨oc23, od23, .func (PySem.W.fnOf "_law_written" "_law_written" (defArgs s_law_written) (defBody s_law_written) (defScope s_law_written) .none kV23 dc23 pm23 an23 cd23 ct23), sl23⟩)
    (c23 : PySem.W.codeIn K cd23 "_law_written" = true)
    (k23 : PySem.W.keepIn K (.ref f23) = true)
    (a24 : PySem.W.nsIn K mainGlobals "_law_lengths" = some (some (.ref f24)))
    (l24 : K.lookup f24 = some ⟨oc24, od24, .func (PySem.W.fnOf "_law_lengths" "_law_lengths" (defArgs s_law_lengths) (defBody s_law_lengths) (defScope s_law_lengths) .none kV24 dc24 pm24 an24 cd24 ct24), sl24⟩)
    (c24 : PySem.W.codeIn K cd24 "_law_lengths" = true)
    (k24 : PySem.W.keepIn K (.ref f24) = true)
    (a25 : PySem.W.nsIn K mainGlobals "_law_trimmed" = some (some (.ref f25)))
    (l25 : K.lookup f25 = some ⟨oc25, od25, .func (PySem.W.fnOf "_law_trimmed" "_law_trimmed" (defArgs s_law_trimmed) (defBody s_law_trimmed) (defScope s_law_trimmed) .none kV25 dc25 pm25 an25 cd25 ct25), sl25⟩)
    (c25 : PySem.W.codeIn K cd25 "_law_trimmed" = true)
    (k25 : PySem.W.keepIn K (.ref f25) = true)
    (a26 : PySem.W.nsIn K mainGlobals "_law_least" = some (some (.ref f26)))
    (l26 : K.lookup f26 = some ⟨oc26, od26, .func (PySem.W.fnOf "_law_least" "_law_least" (defArgs s_law_least) (defBody s_law_least) (defScope s_law_least) .none kV26 dc26 pm26 an26 cd26 ct26), sl26⟩)
    (c26 : PySem.W.codeIn K cd26 "_law_least" = true)
    (k26 : PySem.W.keepIn K (.ref f26) = true)
    (a27 : PySem.W.nsIn K mainGlobals "_law_line" = some (some (.ref f27)))
    (l27 : K.lookup f27 = some ⟨oc27, od27, .func (PySem.W.fnOf "_law_line" "_law_line" (defArgs s_law_line) (defBody s_law_line) (defScope s_law_line) .none kV27 dc27 pm27 an27 cd27 ct27), sl27⟩)
    (c27 : PySem.W.codeIn K cd27 "_law_line" = true)
    (k27 : PySem.W.keepIn K (.ref f27) = true)
    (a28 : PySem.W.nsIn K mainGlobals "_law_line_right" = some (some (.ref f28)))
    (l28 : K.lookup f28 = some ⟨oc28, od28, .func (PySem.W.fnOf "_law_line_right" "_law_line_right" (defArgs s_law_line_right) (defBody s_law_line_right) (defScope s_law_line_right) .none kV28 dc28 pm28 an28 cd28 ct28), sl28⟩)
    (c28 : PySem.W.codeIn K cd28 "_law_line_right" = true)
    (k28 : PySem.W.keepIn K (.ref f28) = true)
    (a29 : PySem.W.nsIn K mainGlobals "_law_met" = some (some (.ref f29)))
    (l29 : K.lookup f29 = some ⟨oc29, od29, .func (PySem.W.fnOf "_law_met" "_law_met" (defArgs s_law_met) (defBody s_law_met) (defScope s_law_met) .none kV29 dc29 pm29 an29 cd29 ct29), sl29⟩)
    (c29 : PySem.W.codeIn K cd29 "_law_met" = true)
    (k29 : PySem.W.keepIn K (.ref f29) = true)
    (a30 : PySem.W.nsIn K mainGlobals "_law_refused_right" = some (some (.ref f30)))
    (l30 : K.lookup f30 = some ⟨oc30, od30, .func (PySem.W.fnOf "_law_refused_right" "_law_refused_right" (defArgs s_law_refused_right) (defBody s_law_refused_right) (defScope s_law_refused_right) .none kV30 dc30 pm30 an30 cd30 ct30), sl30⟩)
    (c30 : PySem.W.codeIn K cd30 "_law_refused_right" = true)
    (k30 : PySem.W.keepIn K (.ref f30) = true)
    (a31 : PySem.W.nsIn K mainGlobals "_law_shortest_right" = some (some (.ref f31)))
    (l31 : K.lookup f31 = some ⟨oc31, od31, .func (PySem.W.fnOf "_law_shortest_right" "_law_shortest_right" (defArgs s_law_shortest_right) (defBody s_law_shortest_right) (defScope s_law_shortest_right) .none kV31 dc31 pm31 an31 cd31 ct31), sl31⟩)
    (c31 : PySem.W.codeIn K cd31 "_law_shortest_right" = true)
    (k31 : PySem.W.keepIn K (.ref f31) = true)
    (a32 : PySem.W.nsIn K mainGlobals "_law_right" = some (some (.ref f32)))
    (l32 : K.lookup f32 = some ⟨oc32, od32, .func (PySem.W.fnOf "_law_right" "_law_right" (defArgs s_law_right) (defBody s_law_right) (defScope s_law_right) .none kV32 dc32 pm32 an32 cd32 ct32), sl32⟩)
    (c32 : PySem.W.codeIn K cd32 "_law_right" = true)
    (k32 : PySem.W.keepIn K (.ref f32) = true)
    (a33 : PySem.W.nsIn K mainGlobals "law" = some (some (.ref f33)))
    (l33 : K.lookup f33 = some ⟨oc33, od33, .func (PySem.W.fnOf "law" "law" (defArgs s_law) (defBody s_law) (defScope s_law) .none kV33 dc33 pm33 an33 cd33 ct33), sl33⟩)
    (c33 : PySem.W.codeIn K cd33 "law" = true)
    (k33 : PySem.W.keepIn K (.ref f33) = true)
    (a34 : PySem.W.findIn K (.ref OC_Decoder) "__init__" = some (some (.ref f34)))
    (i34 : PySem.W.isFn K (.ref f34) = true)
    (l34 : K.lookup f34 = some ⟨oc34, od34, .func (PySem.W.fnOf "__init__" "Decoder.__init__" (defArgs s_Decoder_init) (defBody s_Decoder_init) (defScope s_Decoder_init) .none kV34 dc34 pm34 an34 cd34 ct34), sl34⟩)
    (c34 : PySem.W.codeIn K cd34 "Decoder.__init__" = true)
    (k34 : PySem.W.keepIn K (.ref f34) = true)
    (a35 : PySem.W.findIn K (.ref OC_Decoder) "__eq__" = some (some (.ref f35)))
    (i35 : PySem.W.isFn K (.ref f35) = true)
    (l35 : K.lookup f35 = some ⟨oc35, od35, .func (PySem.W.fnOf "__eq__" "Decoder.__eq__" (defArgs s_Decoder_eq) (defBody s_Decoder_eq) (defScope s_Decoder_eq) .none kV35 dc35 pm35 an35 cd35 ct35), sl35⟩)
    (c35 : PySem.W.codeIn K cd35 "Decoder.__eq__" = true)
    (k35 : PySem.W.keepIn K (.ref f35) = true)
    (a36 : PySem.W.findIn K (.ref OC_Decoder) "written" = some (some (.ref f36)))
    (i36 : PySem.W.isFn K (.ref f36) = true)
    (l36 : K.lookup f36 = some ⟨oc36, od36, .func (PySem.W.fnOf "written" "Decoder.written" (defArgs s_Decoder_written) (defBody s_Decoder_written) (defScope s_Decoder_written) .none kV36 dc36 pm36 an36 cd36 ct36), sl36⟩)
    (c36 : PySem.W.codeIn K cd36 "Decoder.written" = true)
    (k36 : PySem.W.keepIn K (.ref f36) = true)
    (a37 : PySem.W.findIn K (.ref OC_Decoder) "state_after" = some (some (.ref f37)))
    (i37 : PySem.W.isFn K (.ref f37) = true)
    (l37 : K.lookup f37 = some ⟨oc37, od37, .func (PySem.W.fnOf "state_after" "Decoder.state_after" (defArgs s_Decoder_state_after) (defBody s_Decoder_state_after) (defScope s_Decoder_state_after) .none kV37 dc37 pm37 an37 cd37 ct37), sl37⟩)
    (c37 : PySem.W.codeIn K cd37 "Decoder.state_after" = true)
    (k37 : PySem.W.keepIn K (.ref f37) = true)
    (a38 : PySem.W.findIn K (.ref OC_Decoder) "trimmed" = some (some (.ref f38)))
    (i38 : PySem.W.isFn K (.ref f38) = true)
    (l38 : K.lookup f38 = some ⟨oc38, od38, .func (PySem.W.fnOf "trimmed" "Decoder.trimmed" (defArgs s_Decoder_trimmed) (defBody s_Decoder_trimmed) (defScope s_Decoder_trimmed) .none kV38 dc38 pm38 an38 cd38 ct38), sl38⟩)
    (c38 : PySem.W.codeIn K cd38 "Decoder.trimmed" = true)
    (k38 : PySem.W.keepIn K (.ref f38) = true)
    (z_abs : PySem.W.nsIn K mainGlobals "abs" = some none)
    (z_all : PySem.W.nsIn K mainGlobals "all" = some none)
    (z_bool : PySem.W.nsIn K mainGlobals "bool" = some none)
    (z_enumerate : PySem.W.nsIn K mainGlobals "enumerate" = some none)
    (z_int : PySem.W.nsIn K mainGlobals "int" = some none)
    (z_isinstance : PySem.W.nsIn K mainGlobals "isinstance" = some none)
    (z_len : PySem.W.nsIn K mainGlobals "len" = some none)
    (z_list : PySem.W.nsIn K mainGlobals "list" = some none)
    (z_max : PySem.W.nsIn K mainGlobals "max" = some none)
    (z_min : PySem.W.nsIn K mainGlobals "min" = some none)
    (z_range : PySem.W.nsIn K mainGlobals "range" = some none)
    (z_repr : PySem.W.nsIn K mainGlobals "repr" = some none)
    (z_sorted : PySem.W.nsIn K mainGlobals "sorted" = some none)
    (z_str : PySem.W.nsIn K mainGlobals "str" = some none)
    (z_sum : PySem.W.nsIn K mainGlobals "sum" = some none)
    (z_tuple : PySem.W.nsIn K mainGlobals "tuple" = some none)
    (n_MOST_SIGNS : PySem.W.nsIn K mainGlobals "MOST_SIGNS" = some (some (.int (5) t_MOST_SIGNS)))
    (n_MOST_LETTERS : PySem.W.nsIn K mainGlobals "MOST_LETTERS" = some (some (.int (3) t_MOST_LETTERS)))
    (n_MOST_STATES : PySem.W.nsIn K mainGlobals "MOST_STATES" = some (some (.int (40) t_MOST_STATES))) :
    ∃ fd : FuncData, (∀ (s : Shared) (v : Value), BindsTo s fd ⟨[v], []⟩ [("script", v)]) ∧ ∀ base : Heap, K.In base → base.Ns mainGlobals mg → FnG P w K mg base CX0 10 fa fd ["script"] (spLaw K) := by
  have e := hfa.symm.trans (PySem.W.mg_of X G a33)
  cases e
  have F0 := fun_mk (st := s_is_integer) l0 c0 k0
  have b0 := F0.binds (ps := ["value"]) fun _ _ _ _ _ _ us hl => match us, hl with | [_], _ => rfl
  have F1 := fun_mk (st := s_is_count) l1 c1 k1
  have b1 := F1.binds (ps := ["value"]) fun _ _ _ _ _ _ us hl => match us, hl with | [_], _ => rfl
  have F2 := fun_mk (st := s_is_list) l2 c2 k2
  have b2 := F2.binds (ps := ["value"]) fun _ _ _ _ _ _ us hl => match us, hl with | [_], _ => rfl
  have F3 := fun_mk (st := s_is_text) l3 c3 k3
  have b3 := F3.binds (ps := ["value"]) fun _ _ _ _ _ _ us hl => match us, hl with | [_], _ => rfl
  have F4 := fun_mk (st := s_is_word) l4 c4 k4
  have b4 := F4.binds (ps := ["value"]) fun _ _ _ _ _ _ us hl => match us, hl with | [_], _ => rfl
  have F5 := fun_mk (st := s_is_number_of_signs) l5 c5 k5
  have b5 := F5.binds (ps := ["value"]) fun _ _ _ _ _ _ us hl => match us, hl with | [_], _ => rfl
  have F6 := fun_mk (st := s_is_below) l6 c6 k6
  have b6 := F6.binds (ps := ["value", "limit"]) fun _ _ _ _ _ _ us hl => match us, hl with | [_, _], _ => rfl
  have F7 := fun_mk (st := s_is_line) l7 c7 k7
  have b7 := F7.binds (ps := ["value", "signs"]) fun _ _ _ _ _ _ us hl => match us, hl with | [_, _], _ => rfl
  have F8 := fun_mk (st := s_are_steps) l8 c8 k8
  have b8 := F8.binds (ps := ["value", "signs"]) fun _ _ _ _ _ _ us hl => match us, hl with | [_, _], _ => rfl
  have F9 := fun_mk (st := s_are_entries) l9 c9 k9
  have b9 := F9.binds (ps := ["value", "signs", "states"]) fun _ _ _ _ _ _ us hl => match us, hl with | [_, _, _], _ => rfl
  have F10 := fun_mk (st := s_is_step) l10 c10 k10
  have b10 := F10.binds (ps := ["value", "states"]) fun _ _ _ _ _ _ us hl => match us, hl with | [_, _], _ => rfl
  have F11 := fun_mk (st := s_are_ends) l11 c11 k11
  have b11 := F11.binds (ps := ["value", "states"]) fun _ _ _ _ _ _ us hl => match us, hl with | [_, _], _ => rfl
  have F12 := fun_mk (st := s_states_met) l12 c12 k12
  have b12 := F12.binds (ps := ["ahead", "starts"]) fun _ _ _ _ _ _ us hl => match us, hl with | [_, _], _ => rfl
  have F13 := fun_mk (st := s_turned_round) l13 c13 k13
  have b13 := F13.binds (ps := ["ahead"]) fun _ _ _ _ _ _ us hl => match us, hl with | [_], _ => rfl
  have F14 := fun_mk (st := s_shortest_line) l14 c14 k14
  have b14 := F14.binds (ps := ["decoder"]) fun _ _ _ _ _ _ us hl => match us, hl with | [_], _ => rfl
  have F15 := fun_mk (st := s_one_sign_on) l15 c15 k15
  have b15 := F15.binds (ps := ["decoder", "lines", "newest"]) fun _ _ _ _ _ _ us hl => match us, hl with | [_, _, _], _ => rfl
  have F16 := fun_mk (st := s_law_cell) l16 c16 k16
  have b16 := F16.binds (ps := ["script", "k"]) fun _ _ _ _ _ _ us hl => match us, hl with | [_, _], _ => rfl
  have F17 := fun_mk (st := s_law_box) l17 c17 k17
  have b17 := F17.binds (ps := ["great"]) fun _ _ _ _ _ _ us hl => match us, hl with | [_], _ => rfl
  have F18 := fun_mk (st := s_law_take) l18 c18 k18
  have b18 := F18.binds (ps := ["box", "many"]) fun _ _ _ _ _ _ us hl => match us, hl with | [_, _], _ => rfl
  have F19 := fun_mk (st := s_law_word) l19 c19 k19
  have b19 := F19.binds (ps := ["box"]) fun _ _ _ _ _ _ us hl => match us, hl with | [_], _ => rfl
  have F20 := fun_mk (st := s_law_goal) l20 c20 k20
  have b20 := F20.binds (ps := ["box", "state", "states", "way"]) fun _ _ _ _ _ _ us hl => match us, hl with | [_, _, _, _], _ => rfl
  have F21 := fun_mk (st := s_law_drawn) l21 c21 k21
  have b21 := F21.binds (ps := ["box"]) fun _ _ _ _ _ _ us hl => match us, hl with | [_], _ => rfl
  have F22 := fun_mk (st := s_law_run) l22 c22 k22
  have b22 := F22.binds (ps := ["plain", "line"]) fun _ _ _ _ _ _ us hl => match us, hl with | [_, _], _ => rfl
  have F23 := fun_mk (st := s_law_written) l23 c23 k23
  have b23 := F23.binds (ps := ["plain", "line"]) fun _ _ _ _ _ _ us hl => match us, hl with | [_, _], _ => rfl
  have F24 := fun_mk (st := s_law_lengths) l24 c24 k24
  have b24 := F24.binds (ps := ["plain", "start"]) fun _ _ _ _ _ _ us hl => match us, hl with | [_, _], _ => rfl
  have F25 := fun_mk (st := s_law_trimmed) l25 c25 k25
  have b25 := F25.binds (ps := ["plain"]) fun _ _ _ _ _ _ us hl => match us, hl with | [_], _ => rfl
  have F26 := fun_mk (st := s_law_least) l26 c26 k26
  have b26 := F26.binds (ps := ["plain"]) fun _ _ _ _ _ _ us hl => match us, hl with | [_], _ => rfl
  have F27 := fun_mk (st := s_law_line) l27 c27 k27
  have b27 := F27.binds (ps := ["box", "plain"]) fun _ _ _ _ _ _ us hl => match us, hl with | [_, _], _ => rfl
  have F28 := fun_mk (st := s_law_line_right) l28 c28 k28
  have b28 := F28.binds (ps := ["made", "plain", "line", "first"]) fun _ _ _ _ _ _ us hl => match us, hl with | [_, _, _, _], _ => rfl
  have F29 := fun_mk (st := s_law_met) l29 c29 k29
  have b29 := F29.binds (ps := ["made", "which", "value"]) fun _ _ _ _ _ _ us hl => match us, hl with | [_, _, _], _ => rfl
  have F30 := fun_mk (st := s_law_refused_right) l30 c30 k30
  have b30 := F30.binds (ps := ["box", "made", "plain", "line"]) fun _ _ _ _ _ _ us hl => match us, hl with | [_, _, _, _], _ => rfl
  have F31 := fun_mk (st := s_law_shortest_right) l31 c31 k31
  have b31 := F31.binds (ps := ["made", "plain"]) fun _ _ _ _ _ _ us hl => match us, hl with | [_, _], _ => rfl
  have F32 := fun_mk (st := s_law_right) l32 c32 k32
  have b32 := F32.binds (ps := ["box"]) fun _ _ _ _ _ _ us hl => match us, hl with | [_], _ => rfl
  have F33 := fun_mk (st := s_law) l33 c33 k33
  have b33 := F33.binds (ps := ["script"]) fun _ _ _ _ _ _ us hl => match us, hl with | [_], _ => rfl
  have F34 := fun_mk (st := s_Decoder_init) l34 c34 k34
  have b34 := F34.binds (ps := ["self", "signs", "steps", "ends"]) fun _ _ _ _ _ _ us hl => match us, hl with | [_, _, _, _], _ => rfl
  have F35 := fun_mk (st := s_Decoder_eq) l35 c35 k35
  have b35 := F35.binds (ps := ["self", "other"]) fun _ _ _ _ _ _ us hl => match us, hl with | [_, _], _ => rfl
  have F36 := fun_mk (st := s_Decoder_written) l36 c36 k36
  have b36 := F36.binds (ps := ["self", "line"]) fun _ _ _ _ _ _ us hl => match us, hl with | [_, _], _ => rfl
  have F37 := fun_mk (st := s_Decoder_state_after) l37 c37 k37
  have b37 := F37.binds (ps := ["self", "line"]) fun _ _ _ _ _ _ us hl => match us, hl with | [_, _], _ => rfl
  have F38 := fun_mk (st := s_Decoder_trimmed) l38 c38 k38
  have b38 := F38.binds (ps := ["self"]) fun _ _ _ _ _ _ us hl => match us, hl with | [_], _ => rfl
  have ov0 : PySem.W.excOver K C0 ErrX.tailE = true := by
    unfold PySem.W.excOver PySem.W.clsIn
    rw [eL0]
    show (C0 == C0 && true) = true
    rw [beq_self_eq_true]; rfl
  have E0 : ErrX.ETxt K mg "InvalidDecoder" "InvalidDecoder.__init__" C0 I0 := { gC := PySem.W.mg_of X G eC0, cls := ⟨nm0, q0, N0, bs0, _, sn0, sub0, ab0, col0, dd0, m00, m10, m20, m30, m50, eL0, rfl⟩, ov := ov0, tk := etk0, sa := esa0, ga := ega0, gg := egg0, noN := eno0, iC := ein0, tC := eti0, kC := ekC0, exC := eeC0, tyC := etC0, hdC := ehC0, fn := ⟨_, _, _, _, _, _, _, _, _, _, _, _, _, _, efn0, eco0⟩ }
  have ov1 : PySem.W.excOver K C1 ErrX.tailE = true := by
    unfold PySem.W.excOver PySem.W.clsIn
    rw [eL1]
    show (C1 == C1 && true) = true
    rw [beq_self_eq_true]; rfl
  have E1 : ErrX.ETxt K mg "InvalidEnds" "InvalidEnds.__init__" C1 I1 := { gC := PySem.W.mg_of X G eC1, cls := ⟨nm1, q1, N1, bs1, _, sn1, sub1, ab1, col1, dd1, m01, m11, m21, m31, m51, eL1, rfl⟩, ov := ov1, tk := etk1, sa := esa1, ga := ega1, gg := egg1, noN := eno1, iC := ein1, tC := eti1, kC := ekC1, exC := eeC1, tyC := etC1, hdC := ehC1, fn := ⟨_, _, _, _, _, _, _, _, _, _, _, _, _, _, efn1, eco1⟩ }
  have ov2 : PySem.W.excOver K C2 ErrX.tailE = true := by
    unfold PySem.W.excOver PySem.W.clsIn
    rw [eL2]
    show (C2 == C2 && true) = true
    rw [beq_self_eq_true]; rfl
  have E2 : ErrX.ETxt K mg "InvalidLine" "InvalidLine.__init__" C2 I2 := { gC := PySem.W.mg_of X G eC2, cls := ⟨nm2, q2, N2, bs2, _, sn2, sub2, ab2, col2, dd2, m02, m12, m22, m32, m52, eL2, rfl⟩, ov := ov2, tk := etk2, sa := esa2, ga := ega2, gg := egg2, noN := eno2, iC := ein2, tC := eti2, kC := ekC2, exC := eeC2, tyC := etC2, hdC := ehC2, fn := ⟨_, _, _, _, _, _, _, _, _, _, _, _, _, _, efn2, eco2⟩ }
  have ov3 : PySem.W.excOver K C3 ErrX.tailE = true := by
    unfold PySem.W.excOver PySem.W.clsIn
    rw [eL3]
    show (C3 == C3 && true) = true
    rw [beq_self_eq_true]; rfl
  have E3 : ErrX.ETxt K mg "InvalidSigns" "InvalidSigns.__init__" C3 I3 := { gC := PySem.W.mg_of X G eC3, cls := ⟨nm3, q3, N3, bs3, _, sn3, sub3, ab3, col3, dd3, m03, m13, m23, m33, m53, eL3, rfl⟩, ov := ov3, tk := etk3, sa := esa3, ga := ega3, gg := egg3, noN := eno3, iC := ein3, tC := eti3, kC := ekC3, exC := eeC3, tyC := etC3, hdC := ehC3, fn := ⟨_, _, _, _, _, _, _, _, _, _, _, _, _, _, efn3, eco3⟩ }
  have ov4 : PySem.W.excOver K C4 ErrX.tailE = true := by
    unfold PySem.W.excOver PySem.W.clsIn
    rw [eL4]
    show (C4 == C4 && true) = true
    rw [beq_self_eq_true]; rfl
  have E4 : ErrX.ETxt K mg "InvalidSteps" "InvalidSteps.__init__" C4 I4 := { gC := PySem.W.mg_of X G eC4, cls := ⟨nm4, q4, N4, bs4, _, sn4, sub4, ab4, col4, dd4, m04, m14, m24, m34, m54, eL4, rfl⟩, ov := ov4, tk := etk4, sa := esa4, ga := ega4, gg := egg4, noN := eno4, iC := ein4, tC := eti4, kC := ekC4, exC := eeC4, tyC := etC4, hdC := ehC4, fn := ⟨_, _, _, _, _, _, _, _, _, _, _, _, _, _, efn4, eco4⟩ }
  exact ⟨PySem.W.fnOf "law" "law" (defArgs s_law) (defBody s_law) (defScope s_law) .none kV33 dc33 pm33 an33 cd33 ct33, fun s v => .of_eq rfl, fun base _ _ => ok_law ({ f_is_integer := f0, fd_is_integer := _, F_is_integer := F0, b_is_integer := b0, g_is_integer := PySem.W.mg_of X G a0, f_is_count := f1, fd_is_count := _, F_is_count := F1, b_is_count := b1, g_is_count := PySem.W.mg_of X G a1, f_is_list := f2, fd_is_list := _, F_is_list := F2, b_is_list := b2, g_is_list := PySem.W.mg_of X G a2, f_is_text := f3, fd_is_text := _, F_is_text := F3, b_is_text := b3, g_is_text := PySem.W.mg_of X G a3, f_is_word := f4, fd_is_word := _, F_is_word := F4, b_is_word := b4, g_is_word := PySem.W.mg_of X G a4, f_is_number_of_signs := f5, fd_is_number_of_signs := _, F_is_number_of_signs := F5, b_is_number_of_signs := b5, g_is_number_of_signs := PySem.W.mg_of X G a5, f_is_below := f6, fd_is_below := _, F_is_below := F6, b_is_below := b6, g_is_below := PySem.W.mg_of X G a6, f_is_line := f7, fd_is_line := _, F_is_line := F7, b_is_line := b7, g_is_line := PySem.W.mg_of X G a7, f_are_steps := f8, fd_are_steps := _, F_are_steps := F8, b_are_steps := b8, g_are_steps := PySem.W.mg_of X G a8, f_are_entries := f9, fd_are_entries := _, F_are_entries := F9, b_are_entries := b9, g_are_entries := PySem.W.mg_of X G a9, f_is_step := f10, fd_is_step := _, F_is_step := F10, b_is_step := b10, g_is_step := PySem.W.mg_of X G a10, f_are_ends := f11, fd_are_ends := _, F_are_ends := F11, b_are_ends := b11, g_are_ends := PySem.W.mg_of X G a11, f_states_met := f12, fd_states_met := _, F_states_met := F12, b_states_met := b12, g_states_met := PySem.W.mg_of X G a12, f_turned_round := f13, fd_turned_round := _, F_turned_round := F13, b_turned_round := b13, g_turned_round := PySem.W.mg_of X G a13, f_shortest_line := f14, fd_shortest_line := _, F_shortest_line := F14, b_shortest_line := b14, g_shortest_line := PySem.W.mg_of X G a14, f_one_sign_on := f15, fd_one_sign_on := _, F_one_sign_on := F15, b_one_sign_on := b15, g_one_sign_on := PySem.W.mg_of X G a15, f_law_cell := f16, fd_law_cell := _, F_law_cell := F16, b_law_cell := b16, g_law_cell := PySem.W.mg_of X G a16, f_law_box := f17, fd_law_box := _, F_law_box := F17, b_law_box := b17, g_law_box := PySem.W.mg_of X G a17, f_law_take := f18, fd_law_take := _, F_law_take := F18, b_law_take := b18, g_law_take := PySem.W.mg_of X G a18, f_law_word := f19, fd_law_word := _, F_law_word := F19, b_law_word := b19, g_law_word := PySem.W.mg_of X G a19, f_law_goal := f20, fd_law_goal := _, F_law_goal := F20, b_law_goal := b20, g_law_goal := PySem.W.mg_of X G a20, f_law_drawn := f21, fd_law_drawn := _, F_law_drawn := F21, b_law_drawn := b21, g_law_drawn := PySem.W.mg_of X G a21, f_law_run := f22, fd_law_run := _, F_law_run := F22, b_law_run := b22, g_law_run := PySem.W.mg_of X G a22, f_law_written := f23, fd_law_written := _, F_law_written := F23, b_law_written := b23, g_law_written := PySem.W.mg_of X G a23, f_law_lengths := f24, fd_law_lengths := _, F_law_lengths := F24, b_law_lengths := b24, g_law_lengths := PySem.W.mg_of X G a24, f_law_trimmed := f25, fd_law_trimmed := _, F_law_trimmed := F25, b_law_trimmed := b25, g_law_trimmed := PySem.W.mg_of X G a25, f_law_least := f26, fd_law_least := _, F_law_least := F26, b_law_least := b26, g_law_least := PySem.W.mg_of X G a26, f_law_line := f27, fd_law_line := _, F_law_line := F27, b_law_line := b27, g_law_line := PySem.W.mg_of X G a27, f_law_line_right := f28, fd_law_line_right := _, F_law_line_right := F28, b_law_line_right := b28, g_law_line_right := PySem.W.mg_of X G a28, f_law_met := f29, fd_law_met := _, F_law_met := F29, b_law_met := b29, g_law_met := PySem.W.mg_of X G a29, f_law_refused_right := f30, fd_law_refused_right := _, F_law_refused_right := F30, b_law_refused_right := b30, g_law_refused_right := PySem.W.mg_of X G a30, f_law_shortest_right := f31, fd_law_shortest_right := _, F_law_shortest_right := F31, b_law_shortest_right := b31, g_law_shortest_right := PySem.W.mg_of X G a31, f_law_right := f32, fd_law_right := _, F_law_right := F32, b_law_right := b32, g_law_right := PySem.W.mg_of X G a32, f_law := fa, fd_law := _, F_law := F33, b_law := b33, g_law := PySem.W.mg_of X G a33, f_Decoder_init := f34, fd_Decoder_init := _, F_Decoder_init := F34, b_Decoder_init := b34, f_Decoder_eq := f35, fd_Decoder_eq := _, F_Decoder_eq := F35, b_Decoder_eq := b35, f_Decoder_written := f36, fd_Decoder_written := _, F_Decoder_written := F36, b_Decoder_written := b36, m_Decoder_written := ⟨a36, i36, k36⟩, f_Decoder_state_after := f37, fd_Decoder_state_after := _, F_Decoder_state_after := F37, b_Decoder_state_after := b37, m_Decoder_state_after := ⟨a37, i37, k37⟩, f_Decoder_trimmed := f38, fd_Decoder_trimmed := _, F_Decoder_trimmed := F38, b_Decoder_trimmed := b38, m_Decoder_trimmed := ⟨a38, i38, k38⟩, C_Decoder := OC_Decoder, g_Decoder := PySem.W.mg_of X G on_Decoder, cl_Decoder := ⟨opg_Decoder, ohd_Decoder, opo_Decoder, osa_Decoder⟩, mk_Decoder := ⟨omk_Decoder, a34, i34, okp_Decoder⟩, oe_Decoder := ⟨⟨opg_Decoder, ohd_Decoder, opo_Decoder, osa_Decoder⟩, a35, i35, one_Decoder, omo_Decoder, oha_Decoder, ohn_Decoder, otk_Decoder⟩, ii_Decoder := oii_Decoder, it_Decoder := oit_Decoder, is_Decoder := ois_Decoder, na_Decoder_signs := ona_Decoder_signs, na_Decoder_states := ona_Decoder_states, na_Decoder_steps := ona_Decoder_steps, na_Decoder_ends := ona_Decoder_ends, z_abs := PySem.W.mg_none_of X G z_abs, z_all := PySem.W.mg_none_of X G z_all, z_bool := PySem.W.mg_none_of X G z_bool, z_enumerate := PySem.W.mg_none_of X G z_enumerate, z_int := PySem.W.mg_none_of X G z_int, z_isinstance := PySem.W.mg_none_of X G z_isinstance, z_len := PySem.W.mg_none_of X G z_len, z_list := PySem.W.mg_none_of X G z_list, z_max := PySem.W.mg_none_of X G z_max, z_min := PySem.W.mg_none_of X G z_min, z_range := PySem.W.mg_none_of X G z_range, z_repr := PySem.W.mg_none_of X G z_repr, z_sorted := PySem.W.mg_none_of X G z_sorted, z_str := PySem.W.mg_none_of X G z_str, z_sum := PySem.W.mg_none_of X G z_sum, z_tuple := PySem.W.mg_none_of X G z_tuple, t_MOST_SIGNS := t_MOST_SIGNS, c_MOST_SIGNS := PySem.W.mg_of X G n_MOST_SIGNS, t_MOST_LETTERS := t_MOST_LETTERS, c_MOST_LETTERS := PySem.W.mg_of X G n_MOST_LETTERS, t_MOST_STATES := t_MOST_STATES, c_MOST_STATES := PySem.W.mg_of X G n_MOST_STATES, C_InvalidDecoder := C0, i_InvalidDecoder := I0, e_InvalidDecoder := E0, x_InvalidDecoder := exm_of eeC0 eiC0 etC0 esC0, C_InvalidEnds := C1, i_InvalidEnds := I1, e_InvalidEnds := E1, x_InvalidEnds := exm_of eeC1 eiC1 etC1 esC1, C_InvalidLine := C2, i_InvalidLine := I2, e_InvalidLine := E2, x_InvalidLine := exm_of eeC2 eiC2 etC2 esC2, C_InvalidSigns := C3, i_InvalidSigns := I3, e_InvalidSigns := E3, x_InvalidSigns := exm_of eeC3 eiC3 etC3 esC3, C_InvalidSteps := C4, i_InvalidSteps := I4, e_InvalidSteps := E4, x_InvalidSteps := exm_of eeC4 eiC4 etC4 esC4, no_InvalidDecoder_InvalidEnds := exm_of eeC1 eiC1 etC1 en_0_1, no_InvalidDecoder_InvalidLine := exm_of eeC2 eiC2 etC2 en_0_2, no_InvalidDecoder_InvalidSigns := exm_of eeC3 eiC3 etC3 en_0_3, no_InvalidDecoder_InvalidSteps := exm_of eeC4 eiC4 etC4 en_0_4, no_InvalidEnds_InvalidDecoder := exm_of eeC0 eiC0 etC0 en_1_0, no_InvalidEnds_InvalidLine := exm_of eeC2 eiC2 etC2 en_1_2, no_InvalidEnds_InvalidSigns := exm_of eeC3 eiC3 etC3 en_1_3, no_InvalidEnds_InvalidSteps := exm_of eeC4 eiC4 etC4 en_1_4, no_InvalidLine_InvalidDecoder := exm_of eeC0 eiC0 etC0 en_2_0, no_InvalidLine_InvalidEnds := exm_of eeC1 eiC1 etC1 en_2_1, no_InvalidLine_InvalidSigns := exm_of eeC3 eiC3 etC3 en_2_3, no_InvalidLine_InvalidSteps := exm_of eeC4 eiC4 etC4 en_2_4, no_InvalidSigns_InvalidDecoder := exm_of eeC0 eiC0 etC0 en_3_0, no_InvalidSigns_InvalidEnds := exm_of eeC1 eiC1 etC1 en_3_1, no_InvalidSigns_InvalidLine := exm_of eeC2 eiC2 etC2 en_3_2, no_InvalidSigns_InvalidSteps := exm_of eeC4 eiC4 etC4 en_3_4, no_InvalidSteps_InvalidDecoder := exm_of eeC0 eiC0 etC0 en_4_0, no_InvalidSteps_InvalidEnds := exm_of eeC1 eiC1 etC1 en_4_1, no_InvalidSteps_InvalidLine := exm_of eeC2 eiC2 etC2 en_4_2, no_InvalidSteps_InvalidSigns := exm_of eeC3 eiC3 etC3 en_4_3 } : Txt K mg)⟩
end My
open PySem PySem.W PyProof.Rows
set_option maxRecDepth 100000 in
set_option maxHeartbeats 0 in
theorem PySem.Challenge.cw_spoiltline_k02_lines_and_what_is_written_holds : PySem.Challenge.rw_spoiltline_k02_lines_and_what_is_written.Holds := by
  w_on; o_law; k_head; (case hw => w_witness2)
  k_fill
  refine L2.walk_G (l := PySem.Challenge.rw_spoiltline_k02_lines_and_what_is_written) (n := 63) (k := 10) (x := "script") (sp := My.spLaw) rfl (by decide) rfl ⟨rfl, by decide, by decide⟩ (fun w h Y => PySem.W.kIn_of Y) ?F (fun _ _ a ns hl _ hS => ⟨a, ns, rfl, hS, hl, fun _ => rfl⟩)
  case F =>
    intro w mg fa h KX G hmg
    refine' My.all_mk KX G hmg ?eC0 ?eL0 ?etk0 ?esa0 ?ega0 ?egg0 ?eno0 ?ein0 ?eti0 ?ekC0 ?eeC0 ?etC0 ?ehC0 ?eiC0 ?esC0 ?efn0 ?eco0 ?eC1 ?eL1 ?etk1 ?esa1 ?ega1 ?egg1 ?eno1 ?ein1 ?eti1 ?ekC1 ?eeC1 ?etC1 ?ehC1 ?eiC1 ?esC1 ?efn1 ?eco1 ?eC2 ?eL2 ?etk2 ?esa2 ?ega2 ?egg2 ?eno2 ?ein2 ?eti2 ?ekC2 ?eeC2 ?etC2 ?ehC2 ?eiC2 ?esC2 ?efn2 ?eco2 ?eC3 ?eL3 ?etk3 ?esa3 ?ega3 ?egg3 ?eno3 ?ein3 ?eti3 ?ekC3 ?eeC3 ?etC3 ?ehC3 ?eiC3 ?esC3 ?efn3 ?eco3 ?eC4 ?eL4 ?etk4 ?esa4 ?ega4 ?egg4 ?eno4 ?ein4 ?eti4 ?ekC4 ?eeC4 ?etC4 ?ehC4 ?eiC4 ?esC4 ?efn4 ?eco4 ?en_0_1 ?en_0_2 ?en_0_3 ?en_0_4 ?en_1_0 ?en_1_2 ?en_1_3 ?en_1_4 ?en_2_0 ?en_2_1 ?en_2_3 ?en_2_4 ?en_3_0 ?en_3_1 ?en_3_2 ?en_3_4 ?en_4_0 ?en_4_1 ?en_4_2 ?en_4_3 ?on_Decoder ?opg_Decoder ?ohd_Decoder ?opo_Decoder ?osa_Decoder ?omk_Decoder ?okp_Decoder ?one_Decoder ?omo_Decoder ?oha_Decoder ?ohn_Decoder ?otk_Decoder ?oii_Decoder ?oit_Decoder ?ois_Decoder ?ona_Decoder_signs ?ona_Decoder_states ?ona_Decoder_steps ?ona_Decoder_ends ?a0 ?l0 ?c0 ?k0 ?a1 ?l1 ?c1 ?k1 ?a2 ?l2 ?c2 ?k2 ?a3 ?l3 ?c3 ?k3 ?a4 ?l4 ?c4 ?k4 ?a5 ?l5 ?c5 ?k5 ?a6 ?l6 ?c6 ?k6 ?a7 ?l7 ?c7 ?k7 ?a8 ?l8 ?c8 ?k8 ?a9 ?l9 ?c9 ?k9 ?a10 ?l10 ?c10 ?k10 ?a11 ?l11 ?c11 ?k11 ?a12 ?l12 ?c12 ?k12 ?a13 ?l13 ?c13 ?k13 ?a14 ?l14 ?c14 ?k14 ?a15 ?l15 ?c15 ?k15 ?a16 ?l16 ?c16 ?k16 ?a17 ?l17 ?c17 ?k17 ?a18 ?l18 ?c18 ?k18 ?a19 ?l19 ?c19 ?k19 ?a20 ?l20 ?c20 ?k20 ?a21 ?l21 ?c21 ?k21 ?a22 ?l22 ?c22 ?k22 ?a23 ?l23 ?c23 ?k23 ?a24 ?l24 ?c24 ?k24 ?a25 ?l25 ?c25 ?k25 ?a26 ?l26 ?c26 ?k26 ?a27 ?l27 ?c27 ?k27 ?a28 ?l28 ?c28 ?k28 ?a29 ?l29 ?c29 ?k29 ?a30 ?l30 ?c30 ?k30 ?a31 ?l31 ?c31 ?k31 ?a32 ?l32 ?c32 ?k32 ?a33 ?l33 ?c33 ?k33 ?a34 ?i34 ?l34 ?c34 ?k34 ?a35 ?i35 ?l35 ?c35 ?k35 ?a36 ?i36 ?l36 ?c36 ?k36 ?a37 ?i37 ?l37 ?c37 ?k37 ?a38 ?i38 ?l38 ?c38 ?k38 ?z_abs ?z_all ?z_bool ?z_enumerate ?z_int ?z_isinstance ?z_len ?z_list ?z_max ?z_min ?z_range ?z_repr ?z_sorted ?z_str ?z_sum ?z_tuple ?n_MOST_SIGNS ?n_MOST_LETTERS ?n_MOST_STATES
    (case eC0 => k_is)
    (case eL0 => k_is)
    (case etk0 => k_is)
    (case esa0 => k_is)
    (case ega0 => k_is)
    (case egg0 => k_is)
    (case eno0 => k_is)
    (case ein0 => k_is)
    (case eti0 => k_is)
    (case ekC0 => k_is)
    (case eeC0 => k_is)
    (case etC0 => k_is)
    (case ehC0 => k_is)
    (case eiC0 => k_is)
    (case esC0 => k_is)
    (case efn0 => k_is)
    (case eco0 => k_is)
    (case eC1 => k_is)
    (case eL1 => k_is)
    (case etk1 => k_is)
    (case esa1 => k_is)
    (case ega1 => k_is)
    (case egg1 => k_is)
    (case eno1 => k_is)
    (case ein1 => k_is)
    (case eti1 => k_is)
    (case ekC1 => k_is)
    (case eeC1 => k_is)
    (case etC1 => k_is)
    (case ehC1 => k_is)
    (case eiC1 => k_is)
    (case esC1 => k_is)
    (case efn1 => k_is)
    (case eco1 => k_is)
    (case eC2 => k_is)
    (case eL2 => k_is)
    (case etk2 => k_is)
    (case esa2 => k_is)
    (case ega2 => k_is)
    (case egg2 => k_is)
    (case eno2 => k_is)
    (case ein2 => k_is)
    (case eti2 => k_is)
    (case ekC2 => k_is)
    (case eeC2 => k_is)
    (case etC2 => k_is)
    (case ehC2 => k_is)
    (case eiC2 => k_is)
    (case esC2 => k_is)
    (case efn2 => k_is)
    (case eco2 => k_is)
    (case eC3 => k_is)
    (case eL3 => k_is)
    (case etk3 => k_is)
    (case esa3 => k_is)
    (case ega3 => k_is)
    (case egg3 => k_is)
    (case eno3 => k_is)
    (case ein3 => k_is)
    (case eti3 => k_is)
    (case ekC3 => k_is)
    (case eeC3 => k_is)
    (case etC3 => k_is)
    (case ehC3 => k_is)
    (case eiC3 => k_is)
    (case esC3 => k_is)
    (case efn3 => k_is)
    (case eco3 => k_is)
    (case eC4 => k_is)
    (case eL4 => k_is)
    (case etk4 => k_is)
    (case esa4 => k_is)
    (case ega4 => k_is)
    (case egg4 => k_is)
    (case eno4 => k_is)
    (case ein4 => k_is)
    (case eti4 => k_is)
    (case ekC4 => k_is)
    (case eeC4 => k_is)
    (case etC4 => k_is)
    (case ehC4 => k_is)
    (case eiC4 => k_is)
    (case esC4 => k_is)
    (case efn4 => k_is)
    (case eco4 => k_is)
    (case en_0_1 => k_is)
    (case en_0_2 => k_is)
    (case en_0_3 => k_is)
    (case en_0_4 => k_is)
    (case en_1_0 => k_is)
    (case en_1_2 => k_is)
    (case en_1_3 => k_is)
    (case en_1_4 => k_is)
    (case en_2_0 => k_is)
    (case en_2_1 => k_is)
    (case en_2_3 => k_is)
    (case en_2_4 => k_is)
    (case en_3_0 => k_is)
    (case en_3_1 => k_is)
    (case en_3_2 => k_is)
    (case en_3_4 => k_is)
    (case en_4_0 => k_is)
    (case en_4_1 => k_is)
    (case en_4_2 => k_is)
    (case en_4_3 => k_is)
    (case on_Decoder => k_is)
    (case opg_Decoder => k_is)
    (case ohd_Decoder => k_is)
    (case opo_Decoder => k_is)
    (case osa_Decoder => k_is)
    (case omk_Decoder => k_is)
    (case okp_Decoder => k_is)
    (case one_Decoder => k_is)
    (case omo_Decoder => k_is)
    (case oha_Decoder => k_is)
    (case ohn_Decoder => k_is)
    (case otk_Decoder => k_is)
    (case oii_Decoder => k_is)
    (case oit_Decoder => k_is)
    (case ois_Decoder => k_is)
    (case ona_Decoder_signs => k_is)
    (case ona_Decoder_states => k_is)
    (case ona_Decoder_steps => k_is)
    (case ona_Decoder_ends => k_is)
    (case a0 => k_is)
    (case l0 => k_is)
    (case c0 => k_is)
    (case k0 => k_is)
    (case a1 => k_is)
    (case l1 => k_is)
    (case c1 => k_is)
    (case k1 => k_is)
    (case a2 => k_is)
    (case l2 => k_is)
    (case c2 => k_is)
    (case k2 => k_is)
    (case a3 => k_is)
    (case l3 => k_is)
    (case c3 => k_is)
    (case k3 => k_is)
    (case a4 => k_is)
    (case l4 => k_is)
    (case c4 => k_is)
    (case k4 => k_is)
    (case a5 => k_is)
    (case l5 => k_is)
    (case c5 => k_is)
    (case k5 => k_is)
    (case a6 => k_is)
    (case l6 => k_is)
    (case c6 => k_is)
    (case k6 => k_is)
    (case a7 => k_is)
    (case l7 => k_is)
    (case c7 => k_is)
    (case k7 => k_is)
    (case a8 => k_is)
    (case l8 => k_is)
    (case c8 => k_is)
    (case k8 => k_is)
    (case a9 => k_is)
    (case l9 => k_is)
    (case c9 => k_is)
    (case k9 => k_is)
    (case a10 => k_is)
    (case l10 => k_is)
    (case c10 => k_is)
    (case k10 => k_is)
    (case a11 => k_is)
    (case l11 => k_is)
    (case c11 => k_is)
    (case k11 => k_is)
    (case a12 => k_is)
    (case l12 => k_is)
    (case c12 => k_is)
    (case k12 => k_is)
    (case a13 => k_is)
    (case l13 => k_is)
    (case c13 => k_is)
    (case k13 => k_is)
    (case a14 => k_is)
    (case l14 => k_is)
    (case c14 => k_is)
    (case k14 => k_is)
    (case a15 => k_is)
    (case l15 => k_is)
    (case c15 => k_is)
    (case k15 => k_is)
    (case a16 => k_is)
    (case l16 => k_is)
    (case c16 => k_is)
    (case k16 => k_is)
    (case a17 => k_is)
    (case l17 => k_is)
    (case c17 => k_is)
    (case k17 => k_is)
    (case a18 => k_is)
    (case l18 => k_is)
    (case c18 => k_is)
    (case k18 => k_is)
    (case a19 => k_is)
    (case l19 => k_is)
    (case c19 => k_is)
    (case k19 => k_is)
    (case a20 => k_is)
    (case l20 => k_is)
    (case c20 => k_is)
    (case k20 => k_is)
    (case a21 => k_is)
    (case l21 => k_is)
    (case c21 => k_is)
    (case k21 => k_is)
    (case a22 => k_is)
    (case l22 => k_is)
    (case c22 => k_is)
    (case k22 => k_is)
    (case a23 => k_is)
    (case l23 => k_is)
    (case c23 => k_is)
    (case k23 => k_is)
    (case a24 => k_is)
    (case l24 => k_is)
    (case c24 => k_is)
    (case k24 => k_is)
    (case a25 => k_is)
    (case l25 => k_is)
    (case c25 => k_is)
    (case k25 => k_is)
    (case a26 => k_is)
    (case l26 => k_is)
    (case c26 => k_is)
    (case k26 => k_is)
    (case a27 => k_is)
    (case l27 => k_is)
    (case c27 => k_is)
    (case k27 => k_is)
    (case a28 => k_is)
    (case l28 => k_is)
    (case c28 => k_is)
    (case k28 => k_is)
    (case a29 => k_is)
    (case l29 => k_is)
    (case c29 => k_is)
    (case k29 => k_is)
    (case a30 => k_is)
    (case l30 => k_is)
    (case c30 => k_is)
    (case k30 => k_is)
    (case a31 => k_is)
    (case l31 => k_is)
    (case c31 => k_is)
    (case k31 => k_is)
    (case a32 => k_is)
    (case l32 => k_is)
    (case c32 => k_is)
    (case k32 => k_is)
    (case a33 => k_is)
    (case l33 => k_is)
    (case c33 => k_is)
    (case k33 => k_is)
    (case a34 => k_is)
    (case i34 => k_is)
    (case l34 => k_is)
    (case c34 => k_is)
    (case k34 => k_is)
    (case a35 => k_is)
    (case i35 => k_is)
    (case l35 => k_is)
    (case c35 => k_is)
    (case k35 => k_is)
    (case a36 => k_is)
    (case i36 => k_is)
    (case l36 => k_is)
    (case c36 => k_is)
    (case k36 => k_is)
    (case a37 => k_is)
    (case i37 => k_is)
    (case l37 => k_is)
    (case c37 => k_is)
    (case k37 => k_is)
    (case a38 => k_is)
    (case i38 => k_is)
    (case l38 => k_is)
    (case c38 => k_is)
    (case k38 => k_is)
    (case z_abs => k_is)
    (case z_all => k_is)
    (case z_bool => k_is)
    (case z_enumerate => k_is)
    (case z_int => k_is)
    (case z_isinstance => k_is)
    (case z_len => k_is)
    (case z_list => k_is)
    (case z_max => k_is)
    (case z_min => k_is)
    (case z_range => k_is)
    (case z_repr => k_is)
    (case z_sorted => k_is)
    (case z_str => k_is)
    (case z_sum => k_is)
    (case z_tuple => k_is)
    (case n_MOST_SIGNS => k_is)
    (case n_MOST_LETTERS => k_is)
    (case n_MOST_STATES => k_is)

