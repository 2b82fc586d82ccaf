import PyProof.Rows.All
import Wide.All
import OpenK.AllK
import Wide.FinOn
import HandS.ForMost
import HandS.Exc
import HandS.ExcOwn
import HandS.WordsExc
import HandS.TryMany
import HandS.ExcSuper
import HandS.ExcInit
import KE.KExcInit
import HandS.Flt
import HandS.StrMore
import HandS.IsInst
import HandS.Conv
import HandS.Wide
import KE.KxIndex
import HandS.OwnEq
import HandS.ExcIs
import KE.KExcIs
import PyProof.ListStr
import HandS.TryOnly
import HandS.Style
import PyProof.EqKinds
import PyProof.NeKinds
import HandS.More
import HandS.HeadHook3
import HandS.TupAny
import PyProof.CollectIter
import PyProof.WalksMore
import HandS.Base
import HandS.Walk
import HandS.Zip
import HandS.SortKw
import HandS.Star
import HandS.MakeKw
import HandS.MakeKwOnly
import PyProof.InstNe
import KE.KDictDisplayH
import HandS.TupLen
import HandS.Deep
import HandS.Evl
import PySem.Challenge.RW_spoiltline_k54_checks_of_blocks
set_option Elab.async false
set_option linter.all false
set_option maxRecDepth 100000
set_option maxHeartbeats 2000000
/-! An own error class over another own class over Exception, whose __init__ keeps its one argument: raised, caught, its attribute read. -/
namespace ErrX
open PySem PySem.W PySem.Calls PyProof.Rows PySem.HandSPX Builtin Builtin.ObjectAttr
abbrev tailE : List Value := [.type "Exception", .type "BaseException", .type "object"]
/-! ### the text of such an __init__ -/
def iA (p1 p2 : Pos) : Arguments := { posonlyargs := [], args := [{ arg := "self", annotation := none, pos := p1 }, { arg := "given", annotation := none, pos := p2 }], vararg := none, kwonlyargs := [], kw_defaults := [], kwarg := none, defaults := [] }
def iB (q1 q2 q3 q4 : Pos) : List Stmt := [.Assign [.Attribute (.Name "self" q1) "given" q2] (.Name "given" q3) q4]
def iS : Scope := { kind := .function, names := [(PySem.Str.ofString "self", .local), (PySem.Str.ofString "given", .local)], isGenerator := false, isCoroutine := false, more := [] }
/-- what the written part says of the class cn, at C, and of its __init__, at fI -/
structure ETxt (K : Frag) (mg : Str → Option Value) (cn qi : Str) (C fI : Addr) : Prop where
  gC : mg cn = some (.ref C)
  cls : ∃ nm q N bs bm sn sub ab col dd k0 k1 k2 k3 k5, K.lookup C = some (excClassObj nm q C N bs bm true sn sub ab col dd k0 k1 k2 k3 k5 "Exception.__new__") ∧ excTail tailE bm = true
  ov : excOver K C tailE = true
  tk : takerIn K C "given" = some none
  sa : findIn K (.ref C) "__setattr__" = some (some (.builtin "object.__setattr__"))
  ga : findIn K (.ref C) "__getattribute__" = some (some (.builtin "BaseException.__getattribute__"))
  gg : findIn K (.ref C) "__getattr__" = some none
  noN : findIn K (.ref C) "given" = some none
  iC : findIn K (.ref C) "__init__" = some (some (.ref fI))
  tC : typeIn K (.ref fI) = some (.type "function")
  kC : keepIn K (.ref C) = true
  exC : subIn K (.ref C) (.type "BaseException") = some true
  tyC : typeIn K (.ref C) = some (.type "type")
  hdC : hasDictIn K C = true
  fn : ∃ (oc : Value) (od : Option Addr) (doc pm : Value) (an : Option Addr) (cdv ct : Value) (osl : Array (Option Value)) (p1 p2 q1 q2 q3 q4 : Pos),
    K.lookup fI = some ⟨oc, od, .func (fnOf "__init__" qi (iA p1 p2) (iB q1 q2 q3 q4) iS .none .none doc pm an cdv ct), osl⟩ ∧ codeIn K cdv qi = true
theorem one_fits (v : Value) : [v].length ≤ sizeLine := by
  rw [sizeLine_eq]
  exact (by decide : 1 ≤ 16777216)
/-- what __init__ leaves of a fresh error at x -/
structure EndE (h h' : Heap) (x C dx t1 : Addr) (fl : Str) (v : Value) : Prop where
  keep : ∀ b o, b ≠ x → h.get? b = some o → h'.get? b = some o
  obj : h'.get? x = some (excObj C t1 (some dx) .none)
  dbig : h.objs.size ≤ dx
  dne : dx ≠ x
  ns : h'.Ns1 dx (fun y => if y = fl then some v else none)
structure MadeE (h h' : Heap) (e C d : Addr) (fl : Str) (v : Value) : Prop where
  keep : ∀ b o, h.get? b = some o → h'.get? b = some o
  new : h.objs.size ≤ e
  obj : ∃ t, h'.get? e = some (excObj C t (some d) .none)
  dbig : h.objs.size ≤ d
  dne : d ≠ e
  ns : h'.Ns1 d (fun y => if y = fl then some v else none)
section
variable {prog : Program} {w : World} {A : Around} {E : Value → Shared → Prop} {R : Result → Shared → Prop} {s : Shared} {K : Frag} {mg : Str → Option Value} {C fI : Addr} {cn qi : Str}
/-- the first store into a fresh error -/
theorem store_new {name : Str} {tk : Tok} {v : Value} {x t0 : Addr} (X : K.In s.heap) (hx : s.heap.get? x = some (excObj C t0 none .none)) (ho : excOver K C tailE = true) (ht : takerIn K C name = some none) (hh : hasDictIn K C = true)
    (hq : ∀ h' tk' dx, EndE s.heap h' x C dx t0 name v → R (.ok (.ret .none)) { s with heap := h', toks := tk' }) :
    codeAny (model prog w) A (.call (.builtin "object.__setattr__") ⟨[.ref x, .str name tk, v], []⟩) R s := by
  refine osa_openX (od := none) F.store_Exception X ⟨hx, rfl, rfl, trivial⟩ ho ht fun b => ?_
  obtain ⟨cd, hc, hd'⟩ := any_some hh
  have hxs : x ≠ s.heap.objs.size := Nat.ne_of_lt (Heap.lt_size hx)
  have hx1 : (s.heap.push { cls := .type "dict", data := .dict #[] }).get? x = some (excObj C t0 none .none) := Heap.get?_push_of_some _ hx
  refine wpAny_bind (wpAny_pure (wpAny_bind (instanceDict_exc hx (looks_clsIn X hc) hd' ?_)))
  show wpAny _ _ (storeInDict s.heap.objs.size (.str name tk) name v) _ _ _
  obtain ⟨hp, g, dr, t, os⟩ := s
  refine store_in_new ?_ ?_
  · exact ⟨_, #[], _, (Heap.get?_update_ne _ _ _ _ hxs.symm).trans (Heap.get?_push_at rfl rfl), rfl, fun e he => absurd he (by simp), fun _ => rfl⟩
  · intro h' tk' hn' hs
    refine hq h' tk' hp.objs.size ⟨fun b o hb ho => ?_, ?_, Nat.le_refl _, hxs.symm, hn'⟩
    · exact (hs.2 b (Nat.ne_of_lt (Heap.lt_size ho))).trans ((Heap.get?_update_ne _ _ _ _ hb).trans (Heap.get?_push_of_some _ ho))
    · exact (hs.2 x hxs).trans (Heap.get?_update_self _ hx1 rfl)
theorem ldC {M : Model} {s : Shared} {name : Str} {scope : Scope} {L a : Addr} {cd : Value} {m : Str → Option Value} {x : Str} {pos : Pos} {v : Value} {Q : Value → Shared → Prop} {A : Around} {E : Value → Shared → Prop} (hn : s.heap.Ns L m) (hv : m x = some v) (h : Q v s)
    (hk : scope.kind = .function := by rfl) (hl : (envOfC name scope L a cd).kindOf x = some .local := by rfl) (hd : (x == ("__debug__" : Str)) = false := by decide) :
    wpAny M A (eval (.Name x pos) (envOfC name scope L a cd)) Q E s := wpAny_Name (wpAny_loadName_local hk hl hn hv h) hd
theorem init_ok (T : ETxt K mg cn qi C fI) {x t0 : Addr} {v : Value} (X : K.In s.heap) (hlim : s.heap.NoLimit) (hx : s.heap.get? x = some (excObj C t0 none .none)) (hroom : A.depth < recursionLimit)
    (hq : ∀ h' tk dx, EndE s.heap h' x C dx t0 "given" v → R (.ok (.ret .none)) { s with heap := h', toks := tk }) :
    codeAny (model prog w) A (.call (.ref fI) ⟨[.ref x, v], []⟩) R s := by
  obtain ⟨oc, od, doc, pm, an, cdv, ct, osl, p1, p2, q1, q2, q3, q4, ho, hcd⟩ := T.fn
  refine Att.call_fn (binds := [("self", .ref x), ("given", v)]) X hlim ho hcd hroom (BindsTo.of_eq (by first | rfl | with_unfolding_all rfl)) (by first | rfl | decide | with_unfolding_all rfl) (fun s1 IC => ?_) rfl rfl rfl
  obtain ⟨h1, tk1, rfl⟩ := IC.toInCall.same
  have k : ∀ b o, s.heap.get? b = some o → h1.get? b = some o := IC.toInCall.keep
  have hn := IC.toInCall.ns
  have X1 : K.In h1 := X.keeps k
  have hx1 := k _ _ hx
  show wpAny _ _ (execs _ _) _ _ _
  refine wpAny_execs_cons (plainObj_wpAny_Assign_Attribute ?_)
  refine ldC (v := v) hn (by first | rfl | with_unfolding_all rfl | kernel_rfl) (ldC (v := .ref x) hn (by first | rfl | with_unfolding_all rfl | kernel_rfl) ?_)
  refine set_plain X1 (ox := excObj C t0 none .none) (od := none) ⟨hx1, rfl, rfl, trivial⟩ T.sa ?_
  refine store_new X1 hx1 T.ov T.tk T.hdC fun h3 tk3 dx M => ?_
  show wpAny _ _ (execs _ _) _ _ _
  have z : s.heap.objs.size < h1.objs.size := hn.lt
  exact wpAny_execs_nil (hq h3 tk3 dx ⟨fun b o hb e => M.keep b o hb (k b o e), M.obj, Nat.le_of_lt (Nat.lt_of_lt_of_le z M.dbig), M.dne, M.ns⟩)
theorem made_ok (T : ETxt K mg cn qi C fI) {v : Value} (X : K.In s.heap) (hlim : s.heap.NoLimit) (hroom : A.depth + 1 < recursionLimit)
    (hq : ∀ h' tk e d, MadeE s.heap h' e C d "given" v → R (.ok (.ret (.ref e))) { s with heap := h', toks := tk }) :
    codeAny (model prog w) A (.call (.ref C) ⟨[v], []⟩) R s := by
  obtain ⟨nm, q, N, bs, bm, sn, sub, ab, col, dd, k0, k1, k2, k3, k5, hC, hbm⟩ := T.cls
  obtain ⟨hp, g, dr, tk, os⟩ := s
  have k : ∀ b o, hp.get? b = some o → ((hp.push (kdv_tup [v])).push (excO C hp.objs.size)).get? b = some o := fun b o e => Heap.get?_push_of_some _ (Heap.get?_push_of_some _ e)
  have hget : ((hp.push (kdv_tup [v])).push (excO C hp.objs.size)).get? (hp.objs.size + 1) = some (excO C hp.objs.size) := by heap_get
  refine call_own F.excBase_Exception (fun X => excTail_contains X bm hbm) (X _ _ hC) (looks_findIn X T.iC) (fun self => bind_fn X self T.tC) (one_fits v) ?_
  refine init_ok (s := ⟨(hp.push (kdv_tup [v])).push (excO C hp.objs.size), g, dr, tk, os⟩) T (X.keeps k) (hlim.keeps k) hget ?_ fun h' tk' dx M => ?_
  · show A.depth + 1 < recursionLimit
    exact hroom
  · have old : ∀ b o, hp.get? b = some o → h'.get? b = some o := fun b o e => M.keep b o (Nat.ne_of_lt (Nat.lt_succ_of_lt (Heap.lt_size e))) (k b o e)
    have z : hp.objs.size + 1 + 1 ≤ dx := by
      have q := M.dbig
      first
        | exact q
        | (rw [Heap.size_push, Heap.size_push] at q; exact q)
        | (simpa only [Heap.size_push] using q)
    exact ⟨rfl, hq h' tk' (hp.objs.size + 1) dx ⟨old, Nat.le_succ _, ⟨_, M.obj⟩, Nat.le_trans (Nat.le_trans (Nat.le_succ _) (Nat.le_succ _)) z, M.dne, M.ns⟩⟩
end
end ErrX
namespace L2
open PySem PySem.Spec PyProof.Rows
/-- the own dict of an error that keeps v -/
abbrev gvn (v : V) : List (Str × V) := [(("given" : Str), v)]
theorem relO_gvn {v : V} {v' : Value} (r : RelV v v') (f : Str) : RelO (List.lookup f (gvn v)) (if f = "given" then some v' else none) := by
  have e := lookup_put "given" f v []
  show RelO (List.lookup f [(("given" : Str), v)]) _
  rw [e]
  by_cases h : f = "given"
  · rw [if_pos h, if_pos h]; exact r
  · rw [if_neg h, if_neg h]; trivial
section
variable {X : Cx} {C fI : Addr} {cn qi : Str}
/-- C(e) -/
def tMkE (C : Addr) (ta : TA) : St → Hp → XK → Prop := fun σ H Q => ta σ H fun vs H1 => ∃ v, vs = [v] ∧ ∀ d, H1 d = none → Q (.ref C) (some d) (upd H1 d (.xd (gvn v)))
theorem pmk_err {a : Expr} {ta : TA} {p pos : Pos} {k : Nat} (T : ErrX.ETxt X.K X.mg cn qi C fI) (hr : Room k X.A) (ha : PA X [a] ta) (hg : Gl X cn) (hdb : (cn == ("__debug__" : Str)) = false)
    (he : starEach (a :: []) X.env = (false, eval a X.env) :: starEach [] X.env := by rfl) (hpl : (backTo pos (starEach [] X.env)).any (·.1) = false := by rfl) :
    PMk X (.Call (.Name cn p) [a] [] pos) (tMkE C ta) := by
  intro pins s σ H Q I h
  refine wpAny_Call_Name_kw (ld_glob I hg T.gC ?_ hdb)
  refine PySem.W.callWith_K (h₀ := X.base) I.ok.mod.kin T.kC (thn (ha.run pos pins s σ H _ I h) fun us s1 hh => ?_) he hpl
  obtain ⟨vs, H1, I1, r1, v, ev, q1⟩ := hh
  subst ev
  refine ⟨I1.kIn, ?_⟩
  cases r1 with
  | cons rv rn =>
    rename_i v' us'
    cases rn
    show wpAny _ _ (call (.ref C) [v']) _ _ _
    have hlim := I1.nolimit
    obtain ⟨hp, g, dr, tk, os⟩ := s1
    refine wpAny_call (ErrX.made_ok T I1.kIn hlim (by have := hr.dp; omega) fun h' tk' e d M => ?_)
    show MkP X pins σ Q (.ref e) ⟨h', g, dr, tk', os⟩
    obtain ⟨t, hoe⟩ := M.obj
    have hns := M.ns
    obtain ⟨G', g1, g2⟩ := restrict h' fun b => decide (b ≠ e)
    have gk : ∀ b, b ≠ e → G'.get? b = h'.get? b := fun b hb => g1 b (decide_eq_true hb)
    have ge : G'.get? e = none := g2 e (by simp)
    have old : ∀ b o, hp.get? b = some o → G'.get? b = some o := fun b o q => (gk b (Nat.ne_of_lt (Nat.lt_of_lt_of_le (Heap.lt_size q) M.new))).trans (M.keep b o q)
    have ob : ObjOk X.prog X.w (upd H1 d (.xd (gvn v))) G' d (.xd (gvn v)) :=
      ⟨_, hns.at (fun o q => (gk d M.dne).trans q), fun f => relO_gvn rv f⟩
    have J : Inv X pins σ (upd H1 d (.xd (gvn v))) ⟨G', g, dr, tk', os⟩ := I1.laid (t' := tk') old M.dbig ob
    refine ⟨e, _, _, ⟨G', g, dr, tk', os⟩, _, .ref C, some d, rfl, J, fun b o q => ?_, ge, hoe, ⟨rfl, rfl⟩, rfl, rfl, ?_, rfl, I1.bare, raises_own T.exC T.tyC, q1 d (I1.hok.fresh M.dbig)⟩
    · by_cases hb : b = e
      · have q' : G'.get? b = some o := q
        rw [hb, ge] at q'; cases q'
      · exact (gk b hb).symm.trans q
    · rw [upd_ne (Ne.symm M.dne)]
      exact I1.hok.fresh M.new
/-- raise C(e) -/
def tRaiseE (C : Addr) (W : WX) (ta : TA) : TS := fun _ σ H => tMkE C ta σ H fun cls d H' => W cls d σ H'
theorem ps_raiseE {a : Expr} {ta : TA} {W : WX} {p pos pos2 : Pos} {k : Nat} (hc : X.calm = true) (T : ErrX.ETxt X.K X.mg cn qi C fI) (hr : Room k X.A) (tk : Takes X W) (ha : PA X [a] ta) (hg : Gl X cn := by rfl) (hdb : (cn == ("__debug__" : Str)) = false := by decide)
    (he : starEach (a :: []) X.env = (false, eval a X.env) :: starEach [] X.env := by rfl) (hpl : (backTo pos (starEach [] X.env)).any (·.1) = false := by rfl) :
    PS X (.Raise (some (.Call (.Name cn p) [a] [] pos)) none pos2) (tRaiseE C W ta) := ps_raise hc tk (pmk_err T hr ha hg hdb he hpl)
/-- e.given, e the error that the suite holds (at a; its class cls, its dict d) -/
def tGvn (C : Addr) (a : Addr) (cls : Value) (d : Option Addr) (te : TE) : TE := fun σ H Q => te σ H fun x H1 => x = .ref a ∧ cls = .ref C ∧ ∃ (dd : Addr) (v : V), d = some dd ∧ H1 dd = some (.xd (gvn v)) ∧ Q v H1
theorem pe_gvn {a : Addr} {oe : Obj} {cls : Value} {d : Option Addr} {pn : List (Addr × Obj)} {e : Expr} {te : TE} {pos : Pos} (T : ErrX.ETxt X.K X.mg cn qi C fI) (hz : Zc cls d oe) (hf : ∃ vs, oe.data = .fields vs) (he : PE (X.suite a ((a, oe) :: pn)) e te)
    (hb : attributeBase e "given" X.env (eval e X.env) = eval e X.env := by rfl) :
    PE (X.suite a ((a, oe) :: pn)) (.Attribute e "given" pos) (tGvn C a cls d te) := by
  refine ⟨fun pins s σ H Q I h => ?_⟩
  refine attr_of hb (thn (he.run pins s σ H _ I h) fun u s1 hh => ?_)
  obtain ⟨x, H1, I1, rx, ex, ec, dd, v, ed, ea, q⟩ := hh
  subst ex
  obtain rfl : u = Value.ref a := rx
  subst ec
  subst ed
  obtain ⟨ha, _⟩ := I1.pin (a, oe) (List.mem_append_left _ List.mem_cons_self)
  obtain ⟨vs, hd⟩ := hf
  have hx : ObjOk X.prog X.w H1 s1.heap dd (.xd (gvn v)) := I1.hok dd _ ea
  obtain ⟨mA, hns, hr⟩ := hx
  obtain ⟨od, ho, hl⟩ := lookIn_ns hns
  have l : List.lookup ("given" : Str) (gvn v) = some v := by
    show List.lookup ("given" : Str) [(("given" : Str), v)] = some v
    rw [lookup_put, if_pos rfl]
  obtain ⟨u, hu, ru⟩ := RelO.some_of (v := v) (o := mA "given") (by rw [← l]; exact hr "given")
  have J : PySem.W.InstAt s1.heap a oe C (some od) := ⟨ha, hz.1, by unfold PySem.W.notCls; rw [hd] <;> rfl, by rw [hz.2]; exact ho⟩
  exact HandSPX.exc_get I1.kIn J T.ga T.gg T.exC (PySem.W.findObj_own T.hdC T.noN rfl (by rw [hl, hu])) (handed_of ru) ⟨v, H1, I1.tok _, ru, q⟩
end
end L2

set_option Elab.async false
set_option linter.all false
set_option maxRecDepth 100000
set_option maxHeartbeats 2000000
/-! Further rules over the hand layer: texts by their codes, three numbers' max and min, repr of data. -/
namespace L2
open PySem PySem.Spec PyProof.Rows
/-! ### texts by their codes -/
abbrev cs (x : Str) : List Nat := x.cps.toList
def S (l : List Nat) : Str := ⟨l.toArray⟩
theorem S_tl (l : List Nat) : cs (S l) = l := by simp [S, cs]
theorem S_of (z : Str) : S (cs z) = z := by obtain ⟨⟨l⟩⟩ := z; rfl
theorem S_len (l : List Nat) : (S l).length = l.length := by simp [S, Str.length]
theorem S_inj {l m : List Nat} (h : S l = S m) : l = m := by have := congrArg cs h; rwa [S_tl, S_tl] at this
theorem S_app (l m : List Nat) : S l ++ S m = S (l ++ m) := by
  show (⟨l.toArray ++ m.toArray⟩ : Str) = ⟨(l ++ m).toArray⟩
  simp
theorem S_eqV (l m : List Nat) : decide (V.str (S l) = V.str (S m)) = decide (l = m) := by
  by_cases h : l = m
  · subst h; simp
  · rw [decide_eq_false h, decide_eq_false]
    intro e; exact h (S_inj (V.str.inj e))
theorem sIx_some (n d i : Nat) : HT.sIx n d (some ((i : Nat) : Int)) = min i n := HT.sIx_nat n d i
theorem cut_from (l : List Nat) (i : Nat) : cutS (S l) (some (i : Int)) none = S (l.drop i) := by
  show S (((cs (S l)).drop (HT.sIx (S l).length 0 (some (i : Int)))).take (HT.sIx (S l).length (S l).length none - HT.sIx (S l).length 0 (some (i : Int)))) = _
  rw [S_tl, S_len, sIx_some, HT.sIx_none]
  congr 1
  rcases Nat.le_total i l.length with h | h
  · rw [Nat.min_eq_left h, List.take_of_length_le (by rw [List.length_drop]; omega)]
  · rw [Nat.min_eq_right h, Nat.sub_self, List.take_zero, List.drop_of_length_le h]
theorem cut_to (l : List Nat) (i : Nat) : cutS (S l) none (some (i : Int)) = S (l.take i) := by
  show S (((cs (S l)).drop (HT.sIx (S l).length 0 none)).take (HT.sIx (S l).length (S l).length (some (i : Int)) - HT.sIx (S l).length 0 none)) = _
  rw [S_tl, S_len, sIx_some, HT.sIx_none, List.drop_zero, Nat.sub_zero]
  congr 1
  rcases Nat.le_total i l.length with h | h
  · rw [Nat.min_eq_left h]
  · rw [Nat.min_eq_right h, List.take_of_length_le h, List.take_of_length_le (Nat.le_refl _)]
theorem cut_mid (l : List Nat) (i j : Nat) : cutS (S l) (some (i : Int)) (some (j : Int)) = S ((l.drop i).take (j - i)) := by
  show S (((cs (S l)).drop (HT.sIx (S l).length 0 (some (i : Int)))).take (HT.sIx (S l).length (S l).length (some (j : Int)) - HT.sIx (S l).length 0 (some (i : Int)))) = _
  rw [S_tl, S_len, sIx_some, sIx_some]
  congr 1
  rcases Nat.le_total i l.length with h | h
  · rw [Nat.min_eq_left h]
    rcases Nat.le_total j l.length with h2 | h2
    · rw [Nat.min_eq_left h2]
    · rw [Nat.min_eq_right h2, List.take_of_length_le (by rw [List.length_drop]; omega), List.take_of_length_le (by rw [List.length_drop]; omega)]
  · rw [Nat.min_eq_right h, List.drop_of_length_le h, List.drop_of_length_le (Nat.le_refl _)]
    simp
theorem atI_S {l : List Nat} {i : Nat} {c : Nat} (h : l[i]? = some c) : atI (S l).cps.toList (i : Int) = some c := by
  show atI (cs (S l)) (i : Int) = some c
  rw [S_tl]
  exact atI_nat h
/-! ### what a text is -/
def low (c : Nat) : Bool := decide (97 ≤ c) && decide (c ≤ 122)
theorem ascii_facts : ∀ c : Fin 128, Unicode.isAlpha c.val = (low c.val || (decide (65 ≤ c.val) && decide (c.val ≤ 90))) ∧ Unicode.isLower c.val = low c.val ∧ (Unicode.isUpper c.val || Unicode.isTitle c.val) = (decide (65 ≤ c.val) && decide (c.val ≤ 90)) := by
  decide +kernel
theorem istext_eq (z : Str) : (decide (V.str z = V.str (Str.ofString "")) || (Txt.isascii z && Txt.isalpha z && Txt.islower z)) = (cs z).all low := by
  obtain ⟨⟨l⟩⟩ := z
  have e0 : (V.str (⟨⟨l⟩⟩ : Str) = V.str (Str.ofString "")) ↔ l = [] := by
    constructor
    · intro h
      have h2 := congrArg cs (V.str.inj h)
      exact h2
    · intro h; subst h; rfl
  show (decide _ || ((l.toArray.all (· < 128)) && (decide (l.toArray.size > 0) && l.toArray.all Unicode.isAlpha) && (l.toArray.any Unicode.isLower && !l.toArray.any fun c => Unicode.isUpper c || Unicode.isTitle c))) = l.all low
  have ea : ∀ p : Nat → Bool, (l.toArray).all p = l.all p := fun p => by rw [← Array.all_toList]
  have eb : ∀ p : Nat → Bool, (l.toArray).any p = l.any p := fun p => by rw [← Array.any_toList]
  have ec : (⟨l⟩ : Array Nat) = l.toArray := rfl
  simp only [ea, eb]
  simp only [List.size_toArray]
  clear ea eb ec
  cases l with
  | nil => rw [decide_eq_true (e0.mpr rfl)]; rfl
  | cons a r =>
    rw [decide_eq_false (fun h => by cases e0.mp h), Bool.false_or]
    generalize hl : a :: r = l
    have hne : l ≠ [] := by rw [← hl]; simp
    have F : ∀ c ∈ l, c < 128 → Unicode.isAlpha c = (low c || (decide (65 ≤ c) && decide (c ≤ 90))) ∧ Unicode.isLower c = low c ∧ (Unicode.isUpper c || Unicode.isTitle c) = (decide (65 ≤ c) && decide (c ≤ 90)) := fun c _ hc => ascii_facts ⟨c, hc⟩
    rw [Bool.eq_iff_iff]
    simp only [Bool.and_eq_true, List.all_eq_true, List.any_eq_true, Bool.not_eq_true', List.any_eq_false, decide_eq_true_eq]
    constructor
    · rintro ⟨⟨h1, _, h2⟩, _, h3⟩ c hc
      obtain ⟨f1, f2, f3⟩ := F c hc (h1 c hc)
      have q2 := h2 c hc
      have q3 := h3 c hc
      rw [f1] at q2
      rw [f3] at q3
      simp only [Bool.or_eq_true] at q2
      rcases q2 with q2 | q2
      · exact q2
      · exact absurd q2 q3
    · intro h
      have hb : ∀ c ∈ l, c < 128 := fun c hc => by
        have := h c hc
        unfold low at this
        simp only [Bool.and_eq_true, decide_eq_true_eq] at this
        omega
      refine ⟨⟨hb, by rw [← hl]; simp, fun c hc => ?_⟩, ?_, fun c hc => ?_⟩
      · rw [(F c hc (hb c hc)).1, h c hc, Bool.true_or]
      · obtain ⟨c, hc⟩ := List.exists_mem_of_ne_nil l hne
        exact ⟨c, hc, by rw [(F c hc (hb c hc)).2.1]; exact h c hc⟩
      · rw [(F c hc (hb c hc)).2.2]
        have := h c hc
        unfold low at this
        simp only [Bool.and_eq_true, decide_eq_true_eq] at this
        simp; omega
/-! ### calls -/
theorem nuMax3_int (i j k : Int) : nuMax3 (.int i) (.int j) (.int k) = some (.int (max (max i j) k)) := by
  have h2 : ∀ a b : Int, nuMax2 (.int a) (.int b) = some (.int (max a b)) := fun a b => by
    show Option.map (fun c => if c = true then V.int b else V.int a) (some (decide (a < b))) = some (V.int (max a b))
    by_cases h : a < b
    · rw [decide_eq_true h]; simp; omega
    · rw [decide_eq_false h]; simp; omega
  unfold nuMax3
  rw [h2]
  exact h2 _ _
theorem nuMin3_int (i j k : Int) : nuMin3 (.int i) (.int j) (.int k) = some (.int (min (min i j) k)) := by
  have h2 : ∀ a b : Int, nuMin2 (.int a) (.int b) = some (.int (min a b)) := fun a b => by
    show Option.map (fun c => if c = true then V.int b else V.int a) (some (decide (b < a))) = some (V.int (min a b))
    by_cases h : b < a
    · rw [decide_eq_true h]; simp; omega
    · rw [decide_eq_false h]; simp; omega
  unfold nuMin3
  rw [h2]
  exact h2 _ _
def rMax3 : List V → Hp → VK → Prop := fun xs H Q => ∃ i j k, xs = [.int i, .int j, .int k] ∧ Q (.int (max (max i j) k)) H
def rMin3 : List V → Hp → VK → Prop := fun xs H Q => ∃ i j k, xs = [.int i, .int j, .int k] ∧ Q (.int (min (min i j) k)) H
theorem call_max3 {X : Cx} (hc : X.calm = true) : CallR X (.builtin "max") rMax3 := fun pins s σ H xs us Q I r h => by
  obtain ⟨i, j, k, rfl, q⟩ := h
  exact call_max3Nu hc pins s σ H _ us Q I r ⟨_, _, _, _, rfl, nuMax3_int i j k, q⟩
theorem call_min3 {X : Cx} (hc : X.calm = true) : CallR X (.builtin "min") rMin3 := fun pins s σ H xs us Q I r h => by
  obtain ⟨i, j, k, rfl, q⟩ := h
  exact call_min3Nu hc pins s σ H _ us Q I r ⟨_, _, _, _, rfl, nuMin3_int i j k, q⟩
/-! ### repr of data: Dp, and an empty dict -/
def Dr (K : PySem.W.Frag) (H : Hp) (x : V) (d : PyData) : Prop := Dp K H x d ∨ ∃ a, x = .ref a ∧ H a = some (.dK []) ∧ d = .dict []
def rRepr (K : PySem.W.Frag) : List V → Hp → VK → Prop := fun xs H Q => ∃ x d, xs = [x] ∧ Dr K H x d ∧ d.showable = true ∧ d.depth ≤ 60 ∧ d.shown.length ≤ sizeLine ∧ Q (.str d.shown) H
theorem hasDict_dp {K : PySem.W.Frag} {H : Hp} : (∀ {x d}, Dp K H x d → d.hasDict = false) ∧ (∀ {xs ds}, DpAll K H xs ds → PyData.hasDictAll ds = false) := by
  constructor
  · intro x d h
    exact Dp.rec (motive_1 := fun _ d _ => d.hasDict = false) (motive_2 := fun _ ds _ => PyData.hasDictAll ds = false) rfl (fun _ => rfl) (fun _ => rfl) (fun _ => rfl)
      (fun _ _ ih => by unfold PyData.hasDict; exact ih) (fun _ _ ih => by unfold PyData.hasDict; exact ih) rfl (fun _ _ i1 i2 => by unfold PyData.hasDictAll; rw [i1, i2]; rfl) h
  · intro x d h
    exact DpAll.rec (motive_1 := fun _ d _ => d.hasDict = false) (motive_2 := fun _ ds _ => PyData.hasDictAll ds = false) rfl (fun _ => rfl) (fun _ => rfl) (fun _ => rfl)
      (fun _ _ ih => by unfold PyData.hasDict; exact ih) (fun _ _ ih => by unfold PyData.hasDict; exact ih) rfl (fun _ _ i1 i2 => by unfold PyData.hasDictAll; rw [i1, i2]; rfl) h
end L2
namespace L2
open PySem PySem.Spec PyProof.Rows
section
variable {X : Cx}
theorem call_repr (hc : X.A.guards = some []) (hu : X.A.units + 64 < cLine) : CallR X (.builtin "repr") (rRepr X.K) := by
  intro pins s σ H xs us Q I r h
  obtain ⟨x, d, rfl, hd, hs, hdp, hz, q⟩ := h
  cases r with
  | cons r1 rn =>
    rename_i u us'
    cases rn
    rcases hd with hd | ⟨a, rfl, ha, rfl⟩
    · obtain ⟨as, rd⟩ := Dp.reads I d x u hd r1
      cases hd with
      | non => cases rd; exact P.repr_of_none ⟨.str _, H, I.tok _, ⟨_, rfl⟩, q⟩
      | bl b => cases rd; exact P.repr_of_bool ⟨.str _, H, I.tok _, ⟨_, rfl⟩, q⟩
      | int i =>
        cases rd
        have hi : i.natAbs.log2 < 1920 := of_decide_eq_true hs
        exact P.repr_of_int hi ⟨.str _, H, I.tok _, ⟨_, rfl⟩, q⟩
      | str z => cases rd; exact P.repr_of_str ⟨.str _, H, I.tok _, ⟨_, rfl⟩, q⟩ hz
      | lst h1 h2 =>
        obtain rfl : u = Value.ref _ := r1
        have hh : PyData.hasDict _ = false := hasDict_dp.1 (Dp.lst h1 h2)
        exact repr_of_reads' rd hs (fun e => by rw [hh] at e; cases e) hc (by omega) (fun _ _ e => e) (fun h' u tk k => ⟨.str _, H, I.kept k, ⟨_, rfl⟩, q⟩) hz
      | tup h1 h2 =>
        obtain rfl : u = Value.ref _ := r1
        have hh : PyData.hasDict _ = false := hasDict_dp.1 (Dp.tup h1 h2)
        exact repr_of_reads' rd hs (fun e => by rw [hh] at e; cases e) hc (by omega) (fun _ _ e => e) (fun h' u tk k => ⟨.str _, H, I.kept k, ⟨_, rfl⟩, q⟩) hz
    · obtain rfl : u = Value.ref a := r1
      obtain ⟨_, hsys, vs, hkv, od, es, ep, hget, hcl, hdat, hko, hps, _⟩ : ObjOk X.prog X.w H s.heap a (.dK []) := I.hok a _ ha
      cases hkv
      have he : es.toList = [] := by
        generalize es.toList = l at hps
        cases hps; rfl
      have rd : Reads s.heap (.ref a) (.dict []) (a :: [] ++ []) := .dict hget hcl.1 hdat (by rw [he]; exact .nil) (by rw [he]; exact .nil)
      refine repr_of_reads' rd hs (fun _ hm => ?_) hc (by omega) (fun _ _ e => e) (fun h' u tk k => ⟨.str _, H, I.kept k, ⟨_, rfl⟩, q⟩) hz
      have e : sysModules = a := by simpa using hm
      rw [← e] at hsys
      exact absurd hsys (by decide)
end
end L2
namespace L2
open PySem PySem.Spec PyProof.Rows
section
variable {X : Cx}
theorem op_mul_str : OpR X (binaryOp .Mult) (fun x y H Q => ∃ z k, x = .str z ∧ y = .int k ∧ MulOk z k ∧ Q (.str (Txt.mul z k)) H) := by
  intro pins s σ H x y v u Q I rx ry h
  obtain ⟨z, k, rfl, rfl, hz, q⟩ := h
  obtain ⟨t, rfl⟩ := rx
  obtain ⟨t', rfl⟩ := ry
  exact SB.mul hz fun t2 k2 => ⟨.str _, H, I.tok _, ⟨_, rfl⟩, q⟩
/-- f(k = v, ..) by keywords alone, what is raised wished for at the slots -/
def tCallKS (sp : Sp) (gV : List V → List V → List V) (E : St → XK) (tk : TA) : TE := fun σ H Q => tk σ H fun zs H1 => sp (gV [] zs) H1 Q (E σ)
theorem pe_callKS {CX : CXT} {k : Nat} {f : Addr} {fd : FuncData} {ps ks : List Str} {sp : Sp} {E : St → XK} {x : Str} {p pos : Pos} {kws : List Keyword} {tk : TA} {g : List Value → List Value → List Value} {gV : List V → List V → List V}
    (F : FnOk X.prog X.w X.K X.mg X.base CX k f fd ps sp) (hr : Room k X.A) (hg : Gl X x) (hm : X.mg x = some (.ref f)) (hk : PySem.W.keepIn X.K (.ref f) = true) (hb : KBinds X.K fd ps ks g gV) (hx : ∀ σ, PassesAt CX X σ (E σ))
    (hkw : PK X kws tk) (hall : (backToKw pos (keywordEach kws X.env)).all (·.1.isSome) = true := by rfl) (hks : (backToKw pos (keywordEach kws X.env)).filterMap (·.1) = ks := by rfl)
    (hdb : (x == ("__debug__" : Str)) = false := by decide) (hpl : ((backTo pos (starEach [] X.env)).any (·.1) || (backToKw pos (keywordEach kws X.env)).any (·.1.isNone)) = false := by rfl) :
    PE X (.Call (.Name x p) [] kws pos) (tCallKS sp gV E tk) := by
  constructor
  intro pins s σ H Q I h
  apply wpAny_Call_Name_kw (ld_glob I hg hm ?_ hdb)
  apply PySem.W.callWith_KW0 (h₀ := X.base) I.ok.mod.kin hk hall (thn (hkw.run pos pins s σ H _ I h) ?_) hpl
  rintro ws s1 ⟨zs, H1, I1, rz, q⟩
  refine ⟨I1.kIn, ?_⟩
  rw [hks]
  have r2 := hb.rel (vs := []) (us := []) .nil rz
  have hl : (g [] ws).length = ps.length := (r2.length).symm.trans (F.len _ _ _ _ q)
  apply wpAny_call
  apply codeAny_mono (F.run X.A X.stack s1 H1 ⟨[], ks.zip ws⟩ (g [] ws) (gV [] zs) Q (E σ) hr I1.env0 (hb.to s1 [] ws I1.kIn hl) r2 q)
  intro r s' hq
  match r, hq with
  | .error er, hq => exact hx σ pins H1 s1 er s' I1 hq
  | .ok (.ret u), hq => exact I1.after hq
  | .ok .next, hq => exact hq.elim
  | .ok .brk, hq => exact hq.elim
  | .ok .cont, hq => exact hq.elim
end
end L2

set_option Elab.async false
set_option linter.all false
set_option maxRecDepth 100000
set_option maxHeartbeats 2000000
/-! Defs that call repr: the promise is shown only where no repr is running around the call. -/
namespace L2
open PySem PySem.Spec PyProof.Rows
/-- as FnOk, where no guard stands around -/
structure FnG (P : Program) (w : World) (K : PySem.W.Frag) (mg : Str → Option Value) (base : Heap) (CX : CXT) (k : Nat) (f : Addr) (fd : FuncData) (ps : List Str) (sp : Sp) : Prop where
  len : ∀ vs H Q E, sp vs H Q E → vs.length = ps.length
  run : ∀ (A : Around) (outer : List Env) (s : Shared) (H : Hp) (args : Args) (us : List Value) (vs : List V) (Q : VK) (E : XK), A.guards = some [] → Room k A → Env0 P w K mg base A outer s H →
    BindsTo s fd args (ps.zip us) → Vals vs us → sp vs H Q E → codeAny (model P w) A (.call (.ref f) args) (CR CX outer P w H s Q E) s
theorem FnOk.toG {P : Program} {w : World} {K : PySem.W.Frag} {mg : Str → Option Value} {base : Heap} {CX : CXT} {k : Nat} {f : Addr} {fd : FuncData} {ps : List Str} {sp : Sp} (F : FnOk P w K mg base CX k f fd ps sp) : FnG P w K mg base CX k f fd ps sp :=
  ⟨F.len, fun A outer s H args us vs Q E _ hr => F.run A outer s H args us vs Q E hr⟩
section
variable {X : Cx} {CX : CXT} {k : Nat} {f : Addr} {fd : FuncData} {ps : List Str} {sp : Sp} {dvs : List V} {ds : List Value} {E : XK} {x : Str} {p pos : Pos} {e : Expr} {es : List Expr} {t : TA}
theorem pe_callG (F : FnG X.prog X.w X.K X.mg X.base CX k f fd ps sp) (hgd : X.A.guards = some []) (hr : Room k X.A) (hg : Gl X x) (hm : X.mg x = some (.ref f)) (hk : PySem.W.keepIn X.K (.ref f) = true) (hb : Binds X.K fd ps ds) (hd : Vals dvs ds) (hx : Passes CX X E)
    (ha : PA X (e :: es) t) (hdb : (x == ("__debug__" : Str)) = false := by decide) (he : starEach (e :: es) X.env = (false, eval e X.env) :: starEach es X.env := by rfl) (hpl : (backTo pos (starEach es X.env)).any (·.1) = false := by rfl) :
    PE X (.Call (.Name x p) (e :: es) [] pos) (tCall sp dvs E t) := by
  constructor
  intro pins s σ H Q I h
  apply wpAny_Call_Name_kw (ld_glob I hg hm ?_ hdb)
  apply PySem.W.callWith_K (h₀ := X.base) I.ok.mod.kin hk (thn (ha.run pos pins s σ H _ I h) ?_) he hpl
  rintro us s1 ⟨vs, H1, I1, rv, q⟩
  refine ⟨I1.kIn, ?_⟩
  have r2 : Vals (vs ++ dvs) (us ++ ds) := rv.append hd
  have hl : (us ++ ds).length = ps.length := (r2.length).symm.trans (F.len _ _ _ _ q)
  apply wpAny_call
  apply codeAny_mono (F.run X.A X.stack s1 H1 ⟨us, []⟩ (us ++ ds) (vs ++ dvs) Q E hgd hr I1.env0 (hb s1 us I1.kIn hl) r2 q)
  intro r s' hq
  match r, hq with
  | .error er, hq => exact hx pins σ H1 s1 er s' I1 hq
  | .ok (.ret u), hq => exact I1.after hq
  | .ok .next, hq => exact hq.elim
  | .ok .brk, hq => exact hq.elim
  | .ok .cont, hq => exact hq.elim
end
theorem deeper_guards {A : Around} {env : Env} : (A.deeper env).guards = A.guards := rfl
section
variable {P : Program} {w : World} {K : PySem.W.Frag} {mg : Str → Option Value} {base : Heap}
/-- the rule for a def, where no guard stands around -/
theorem Fun.okG {x qual : Str} {st : Stmt} {f : Addr} {fd : FuncData} {N ps : List Str} {k : Nat} {sp : Sp} (F : Fun K x qual st f fd) (S : FnScope N ps (defScope st)) (len : ∀ vs H Q E, sp vs H Q E → vs.length = ps.length)
    (hbody : ∀ (cdv : Value) (A : Around) (outer : List Env) (s : Shared) (H : Hp) (vs : List V) (Q : VK) (E : XK), (A.deeper (envOfC qual (defScope st) s.heap.objs.size f cdv)).guards = some [] → Room k (A.deeper (envOfC qual (defScope st) s.heap.objs.size f cdv)) → sp vs H Q E →
      ∃ t, PSs (cxOf CX0 P w K mg base N qual (defScope st) f cdv A outer s H E).nox (defBody st) t ∧ t { nx := fun _ H' => Q .non H', rt := Q } (start N vs) H) : FnG P w K mg base CX0 (k + 1) f fd ps sp := by
  obtain ⟨oc, od, kV, doc, pm, an, cdv, ct, osl, rfl, lk, hcd⟩ := F.ex
  refine ⟨len, fun A outer s H args us vs Q E hgd hr e0 hb r hsp => ?_⟩
  have KX : K.In s.heap := e0.mod.kin.keeps fun b o e => (e0.bs b o e).1
  have lim : s.heap.NoLimit := e0.mod.nolimit.keeps fun b o e => (e0.bs b o e).1
  apply codeAny_call_function hr.depth (KX _ _ lk) rfl S.co S.gen rfl (PySem.W.codeRec_of KX hcd) (hb _ _ _ _ ?_)
  apply wpAny_newFunctionEnv_cells S.kind ?_ ?_
  · rintro ⟨n, v⟩ hy
    rcases S.par n (List.of_mem_zip hy).1 with q | q
    · exact Or.inl q
    · exact Or.inr ⟨q, PySem.W.cellsFrom_some _ _ _ (Or.inl q)⟩
  · intro env he s1 x
    subst he
    refine ⟨lim.keeps x.toInCall.keep, codeAny_func ?_⟩
    obtain ⟨t, ht, hq⟩ := hbody cdv A outer s H vs Q E (deeper_guards.trans hgd) (hr.deeper _) hsp
    have I := inv_start (CX := CX0) (E := E) S hr.hd e0 (len _ _ _ _ hsp) r x
    apply wpAny_mono (ht.nox.run [] s1 (start N vs) H _ I hq) ?_ fun e s' hs => hs
    intro fl s' hs
    match fl, hs with
    | .ret u, ⟨v, σ', H', J, rv, q⟩ => exact ⟨v, H', J.os, J.bare, J.base, J.hok, rv, q⟩
    | .next, ⟨σ', H', J, q⟩ => exact ⟨V.non, H', J.os, J.bare, J.base, J.hok, rfl, q⟩
    | .brk, ⟨_, _, _, q⟩ => exact q.elim
    | .cont, ⟨_, _, _, q⟩ => exact q.elim
end
end L2
namespace L2
open PySem PySem.Spec PyProof.Rows
section
variable {P : Program} {w : World} {K : PySem.W.Frag} {mg mb : Str → Option Value} {k : Nat} {fa a : Addr} {fd : FuncData} {x : Str} {sp : Sp} {s1 : Shared} {vs : List Value} {ns : List Int}
/-- the law's call, H telling nothing but, maybe, the script at a -/
theorem enterG {H : Hp} (KX : K.In s1.heap) (hns : s1.heap.Ns mainGlobals mg) (hb : s1.heap.Ns builtinsNs mb) (hbb : ∀ x : Str, x ≠ "__name__" → mb x = bootBuiltins x) (hlim : s1.heap.NoLimit) (hg : s1.gens = #[])
    (ha : s1.heap.get? a = some { cls := .type "list", data := .seq vs.toArray }) (hr : Room k callerA)
    (F : ∀ base : Heap, K.In base → base.Ns mainGlobals mg → FnG P w K mg base CX0 k fa fd [x] sp) (hbind : ∀ (s : Shared) (u : Value), BindsTo s fd ⟨[u], []⟩ [(x, u)])
    (hO : Only H) (hok : HOk P w H s1.heap) (hA : ∀ b, H b ≠ none → b = a) (hK : ∀ b o, K.lookup b = some o → H b = none) (hsp : sp [.ref a] H (fun v _ => v = .bl true) fun _ _ _ => False) :
    codeAny (model P w) callerA (.call (.ref fa) ⟨[.ref a], []⟩) (fun r s' => r = .ok (.ret (.bool true)) ∧ OldK s1.heap s'.heap ∧ s'.os = s1.os ∧ AllBare s'.gens) s1 := by
  have nsK : ∀ {b : Addr} {m : Str → Option Value}, s1.heap.Ns b m → (hidT s1.heap H).Ns b m := by
    rintro b m ⟨o, es, ep, e, d, r⟩
    have n : H b = none := by
      cases q : H b with
      | none => rfl
      | some u =>
        have z := hA b (by rw [q]; exact fun z => nomatch z)
        rw [z, ha] at e
        rw [← Option.some.inj e] at d
        exact nomatch d
    exact ⟨o, es, ep, hidT_get e n, d, r⟩
  have hKb : K.In (hidT s1.heap H) := fun b o e => hidT_get (KX b o e) (hK b o e)
  have e0 : Env0 P w K mg (hidT s1.heap H) callerA [] s1 H :=
    { frames := rfl, mod := ⟨hKb, nsK hns, ⟨mb, nsK hb, hbb⟩, hlim.elim fun mc h => ⟨mc, nsK h.1, h.2⟩⟩, bs := fun b o e => of_hidT e, bsz := Nat.le_of_eq (hidT_size _ _), funs := trivial, frf := fun b hb => (List.not_mem_nil hb).elim, hok := hok, bare := .of_eq hg }
  apply codeAny_mono ((F _ hKb (nsK hns)).run callerA [] s1 H ⟨[.ref a], []⟩ [.ref a] [.ref a] _ _ rfl hr e0 (hbind s1 (.ref a)) (.cons rfl .nil) hsp)
  intro r s' h
  match r, h with
  | .error e, h =>
    obtain ⟨_, _, _, h⟩ := h
  | .ok .next, h => exact h.elim
  | .ok .brk, h => exact h.elim
  | .ok .cont, h => exact h.elim
  | .ok (.ret u), ⟨v, H', os, bare, un, hok', r', q⟩ =>
    obtain rfl : v = .bl true := q
    obtain rfl : u = Value.bool true := r'
    refine ⟨rfl, OldK.of_keep fun b o e => ?_, os, bare⟩
    rcases hO b with z | ⟨ob, xs, z⟩
    · exact un.keep b o e z (List.not_mem_nil) (List.not_mem_nil)
    · have e1 := (hok b _ z).1
      have e2 := (hok' b _ (un.frzs b ob _ z)).1
      rw [e] at e1
      rw [Option.some.inj e1]
      exact e2
end
/-- the goal that the head leaves, from the law's promise, where the law's def calls repr -/
theorem walk_G {l : PySem.W.OpenLaw} {n k : Nat} {q : Program} {loose : List Str} {XP : (Str → Option Value) → Heap → Prop} {YP : World → Heap → Prop} {d : DefRec} {K : Params → PySem.W.Frag} {sp : PySem.W.Frag → Sp} {x : Str}
    (hn : l.most = some n) (hn2 : n ≤ sizeLine) (hdf : d.params.defaults = []) (hr : Room k callerA)
    (hY : ∀ (w : World) (h : Heap), YP w h → (K w.params).In h)
    (F : ∀ (w : World) (mg : Str → Option Value) (fa : Addr) (h : Heap), (K w.params).In h → h.Ns mainGlobals mg → mg d.name = some (.ref fa) →
      ∃ fd : FuncData, (∀ (s : Shared) (u : Value), BindsTo s fd ⟨[u], []⟩ [(x, u)]) ∧
        ∀ base : Heap, (K w.params).In base → base.Ns mainGlobals mg → FnG l.prog w (K w.params) mg base CX0 k fa fd [x] (sp (K w.params)))
    (hsp : ∀ (K : PySem.W.Frag) (H : Hp) (a : Addr) (ns : List Int), ns.length ≤ n → Only H → SqL K H a (ns.map V.int) → sp K [.ref a] H (fun v _ => v = .bl true) fun _ _ _ => False) :
    PySem.W.WalkO q loose XP YP l.row.toRowW d [] (fun f vs => PySem.call f vs) := by
  refine Att.attach_call hn hdf fun w s0 s1 mg mb fa o pm cd doc a vs ns G Y ho hd hcd hmg hobj hints hlen hg => ?_
  have KX := hY w _ Y
  obtain ⟨fd, hb, hF⟩ := F w mg fa _ KX G.T.g hmg
  have rv := vals_ints hints
  have lenV := hints.length
  have hl := Nat.le_trans hlen hn2
  cases hk : (K w.params).lookup a with
  | some ob =>
    have e := KX a ob hk
    rw [hobj] at e
    have e' := (Option.some.inj e).symm
    subst e'
    refine enterG (H := fun _ => none) KX G.T.g G.T.b G.T.builtins G.T.nolimit hg hobj hr hF hb (fun _ => .inl rfl) (fun b u z => nomatch (show (none : Option HO) = some u from z)) (fun b z => (z rfl).elim) (fun _ _ _ => rfl) ?_
    exact hsp (K w.params) _ a ns hlen (fun _ => .inl rfl) (.inr ⟨_, vs.toArray, _, hk, rfl, rfl, rfl, by rw [List.size_toArray, lenV]; exact hl, by simpa using rv⟩)
  | none =>
    have at_a : (fun b => if b = a then some (HO.frz { cls := .type "list", data := .seq vs.toArray } (.lst (ns.map V.int))) else none) a = some (HO.frz { cls := .type "list", data := .seq vs.toArray } (.lst (ns.map V.int))) := if_pos rfl
    have only : Only (fun b => if b = a then some (HO.frz { cls := .type "list", data := .seq vs.toArray } (.lst (ns.map V.int))) else none) := fun b => by
      by_cases z : b = a
      · exact .inr ⟨_, _, if_pos z⟩
      · exact .inl (if_neg z)
    refine enterG (H := fun b => if b = a then some (HO.frz { cls := .type "list", data := .seq vs.toArray } (.lst (ns.map V.int))) else none) KX G.T.g G.T.b G.T.builtins G.T.nolimit hg hobj hr hF hb only (fun b u z => ?_) (fun b z => ?_) (fun b ob z => ?_) ?_
    · by_cases y : b = a
      · subst y
        have z' := at_a.symm.trans z
        rw [← Option.some.inj z']
        exact ⟨hobj, by rw [List.length_map]; exact hl, vs, _, rv, hobj⟩
      · exact nomatch (if_neg y).symm.trans z
    · by_cases y : b = a
      · exact y
      · exact (z (if_neg y)).elim
    · refine if_neg fun y => ?_
      rw [y, hk] at z
      cases z
    · exact hsp (K w.params) _ a ns hlen only (.inl (.inr ⟨_, at_a⟩))
end L2

set_option Elab.async false
set_option linter.all false
set_option maxRecDepth 100000
set_option maxHeartbeats 2000000
/-! Several clauses 'except .. as e', one behind the other, all of them with one name. -/
namespace L2
open PySem PySem.Spec PyProof.Rows
/-- what stands behind the suite: the name is gone -/
def goneEnds (i : Nat) (D : Ends) : Ends :=
  { nx := fun u G => D.nx (u.set i none) G,
    rt := D.rt,
    bk := fun u G => D.bk (u.set i none) G,
    ct := fun u G => D.ct (u.set i none) G }
abbrev SuiteT := Addr → Value → Option Addr → TS
def wAll (K : PySem.W.Frag) (i : Nat) (Wo : WX) (D : Ends) : List (Value × SuiteT) → WX
  | [] => Wo
  | q :: l => fun cls d σ H =>
    ∃ b, PySem.W.exmOne K cls q.1 = some b ∧
      (b = true → ∀ a, H a = none → q.2 a cls d (goneEnds i D) (σ.set i (some (.ref a))) H) ∧
      (b = false → wAll K i Wo D l cls d σ H)
/-- the clauses and what their suites tell -/
inductive Clauses (X : Cx) (n : Str) : List ExceptHandler → List (Value × SuiteT) → Prop
  | last : Clauses X n [] []
  | more {x : Str} {c : Value} {ts : SuiteT} {b₀ : Stmt} {su : List Stmt} {p1 p2 : Pos} {hl : List ExceptHandler} {l : List (Value × SuiteT)} :
      Names X x c →
      (∀ (a : Addr) (oe : Obj) (cls : Value) (d : Option Addr) (pn : List (Addr × Obj)), Zc cls d oe → (∃ vs, oe.data = .fields vs) →
        PSs (X.suite a ((a, oe) :: pn)) (b₀ :: su) (ts a cls d)) →
      Clauses X n hl l → Clauses X n (.ExceptHandler (some (.Name x p1)) (some n) (b₀ :: su) p2 :: hl) ((c, ts) :: l)
section
variable {X : Cx} {n : Str} {i : Nat} {body : List Stmt} {h₀ : ExceptHandler} {hl : List ExceptHandler} {l : List (Value × SuiteT)} {pos : Pos} {tb : WX → TS} {Wo : WX}
theorem ps_tryAll (eS : X.stack = X.env :: X.outer) (eF : X.env.frame = some X.env.locals) (nd : X.N.Nodup) (ei : X.N[i]? = some n) (en : X.env.kindOf n = some .local) (tk : Takes X Wo)
    (hb : ∀ (W : WX) (pn : List (Addr × Obj)) (xe : Value → Shared → Prop), Takes (X.tr pn xe) W →
      PassesOwn (model X.prog X.w) X.A X.env xe → PSs (X.tr pn xe) body (tb W))
    (hc : Clauses X n (h₀ :: hl) l) :
    PS X (.Try body (h₀ :: hl) [] [] pos) (fun D σ H => tb (wAll X.K i Wo D l) D σ H) := by
  constructor
  intro pins s σ H D I hyp
  have iok := I.ok
  have fr : X.A.frames = some (X.env :: X.outer) := iok.frames.trans (congrArg some eS)
  apply wpAny_Try_except
  let XE : Value → Shared → Prop := fun e s₁ =>
    wpAny (model X.prog X.w) X.A (noteFrame e X.env) (fun _ s₂ =>
      wpAny (model X.prog X.w) X.A (setFlight e none) (fun _ s₃ =>
        wpAny (model X.prog X.w) X.A (handleBy e X.env (h₀ :: hl)) (SP X pins D) X.xe s₃) X.xe s₂) X.xe s₁
  have run := (hb (wAll X.K i Wo D l) (X.pn ++ pins) XE ?_ PassesOwn.looking).run [] s σ H D (I.toTry _) hyp
  · refine wpAny_mono run (fun f s1 sp => ?_) (fun e s1 q => q)
    match f, sp with
    | .next, ⟨u, G, J, q⟩ => exact wpAny_execs_nil ⟨u, G, J.ofTry iok, q⟩
    | .brk, ⟨u, G, J, q⟩ => exact ⟨u, G, J.ofTry iok, q⟩
    | .cont, ⟨u, G, J, q⟩ => exact ⟨u, G, J.ofTry iok, q⟩
    | .ret _, ⟨v, u, G, J, r, q⟩ => exact ⟨v, u, G, J.ofTry iok, r, q⟩
  · -- what flies out of the body
    rintro u s' ⟨a, B, sI, pins', τ, G, cls, d, rfl, J', nb, up, sky, na, os, ag, wish⟩
    have J : Inv X pins τ G sI := J'.ofTry iok
    have sky2 : Sky B (X.env :: X.outer) a (Zc cls d) X.env.locals s'.heap := eS ▸ sky
    show wpAny _ X.A (noteFrame (.ref a) X.env) _ _ _
    apply Sky.land Zc.steady fr eF sky2
    intro g3 fly3 up3
    have J3 : Inv X pins τ G { s' with heap := g3 } := J.landed nb fly3.1 (up.trans up3) os ag
    obtain ⟨o3, v3, at3, z3, d3⟩ := fly3.there
    have off : a ∉ frs (X.env :: X.outer) := by
      intro hm
      obtain ⟨_, o', e', hn⟩ := fly3.2.2.1.mem hm
      rw [at3] at e'
      cases e'
      exact hn _ d3
    have offL : a ≠ X.env.locals := by
      intro z
      exact off (List.mem_filterMap.mpr ⟨X.env, List.mem_cons_self, by rw [eF, z]⟩)
    have offF : a ∉ X.fs := by
      intro hm
      obtain ⟨e, he, q⟩ := List.mem_filterMap.mp hm
      exact off (List.mem_filterMap.mpr ⟨e, List.mem_cons_of_mem _ he, q⟩)
    have S3 := J3.suite at3 d3 na offL offF
    -- clause by clause
    suffices go : ∀ {hs : List ExceptHandler} {k : List (Value × SuiteT)}, Clauses X n hs k → wAll X.K i Wo D k cls d τ G →
        wpAny (model X.prog X.w) X.A (handleBy (.ref a) X.env hs) (SP X pins D) X.xe { s' with heap := g3 } from go hc wish
    intro hs k hk
    induction hk with
    | last =>
      intro out
      apply wpAny_handleBy_nil
      obtain ⟨k1, k2, k3, oe, vs, T, oT, ts', he, hz, hd, h1, hr⟩ := id fly3
      unfold PySem.passOn
      apply wpAny_bind
      apply wpAny_field he hd h1
      rw [if_neg (by simp : ¬ ((Value.ref T == Value.none) = true))]
      have thrown : wpAny (model X.prog X.w) X.A (setFlight (.ref a) X.env.frame) (fun _ s4 =>
          wpAny (model X.prog X.w) X.A (throw (.ref a) : Sem Flow) (SP X pins D) X.xe s4) X.xe { s' with heap := g3 } := by
        rw [eF]
        apply HandSPX.setFlight_upZ fly3
        intro g4 fly4 up4
        apply wpAny_throw
        apply tk
        exact ⟨a, B, sI, pins, τ, G, cls, d, rfl, J, nb, (up.trans up3).trans up4, .inr (.inr (eS ▸ fly4)), na, os, ag, out⟩
      first
        | exact wpAny_bind (wpAny_pure (wpAny_bind thrown))
        | exact wpAny_bind thrown
    | @more x c ts b₀ su p1 p2 hl2 l2 nm suite _ ih =>
      rintro ⟨b, eb, yes, no⟩
      have looks : PySem.W.Looks (model X.prog X.w) g3 (typeOf (.ref a)) cls := by
        intro A' Q' E' t k q
        exact wpAny_typeOf_ref (k _ _ at3) (by rw [z3.1]; exact q)
      have LM := PySem.W.exm_one (M := model X.prog X.w) (J3.kIn) looks eb
      apply wpAny_handleBy_cons (codeAny_handlers_test ?_) (by intro q; cases q)
      have named : ∀ {Q' : Value → Shared → Prop} {E' : Value → Shared → Prop}, Q' c { s' with heap := g3 } →
          wpAny (model X.prog X.w) (X.A.mark (some (.ref a))) (eval (.Name x p1) X.env) Q' E' { s' with heap := g3 } := by
        intro Q' E' q
        rcases nm with ⟨g, dbg, m | ⟨m, v, w⟩⟩
        · exact ld_glob (X := X.suite a ((a, o3) :: (X.pn ++ pins))) S3 g m q dbg
        · exact ld_blt (X := X.suite a ((a, o3) :: (X.pn ++ pins))) S3 g m v q w dbg
      apply named
      apply LM.here
      match b, yes, no with
      | false, _, no => exact ih (no rfl)
      | true, yes, _ =>
        apply codeAny_handlers_suite_as
        apply HandSPX.lands_againZ fly3
        intro g4 fly4 up4
        have J4 : Inv X pins τ G { s' with heap := g4 } := J.landed nb fly4.1 ((up.trans up3).trans up4) os ag
        obtain ⟨o4, v4, at4, z4, d4⟩ := fly4.there
        have S4 := J4.suite at4 d4 na offL offF
        apply store_ok (X := X.suite a ((a, o4) :: (X.pn ++ pins))) (v := .ref a) S4 nd ei (.inl en) rfl ?_ (.inr en)
        intro s5 S5
        have ran := (suite a o4 cls d (X.pn ++ pins) z4 ⟨_, d4⟩).run [] s5 _ G _ S5 (yes rfl a na)
        refine wpAny_mono ran (fun f s6 sp => ?_) (fun _ _ z => z.elim)
        have gone : ∀ {u : St} {K6 : Hp} {Q' : Shared → Prop}, Inv (X.suite a ((a, o4) :: (X.pn ++ pins))) [] u K6 s6 →
            (∀ s7, Inv X pins (u.set i none) K6 s7 → Q' s7) →
            wpAny (model X.prog X.w) X.A (do bindName X.env n .none; unbindBehindTheSuite X.env n p2) (fun _ s7 => Q' s7) X.xe s6 :=
          fun S6 q => gone_ok (S6.unsuite iok) nd ei en q
        match f, sp with
        | .next, ⟨_, _, S6, q⟩ => exact gone S6 fun _ J7 => ⟨_, _, J7, q⟩
        | .brk, ⟨_, _, S6, q⟩ => exact gone S6 fun _ J7 => ⟨_, _, J7, q⟩
        | .cont, ⟨_, _, S6, q⟩ => exact gone S6 fun _ J7 => ⟨_, _, J7, q⟩
        | .ret _, ⟨_, _, _, S6, r, q⟩ => exact gone S6 fun _ J7 => ⟨_, _, _, J7, r, q⟩
end
end L2

set_option Elab.async false
set_option linter.all false
set_option maxRecDepth 100000
set_option maxHeartbeats 2000000
/-! Further rules: isinstance of a caught error, list of a text, == of lists of unlike length, find, dicts shown. -/
namespace L2
open PySem PySem.Spec PyProof.Rows PySem.Builtin PySem.Builtin.Str
/-! ### find -/
theorem occ_stay (s sub : Str) (hi : Nat) : ∀ (l : List Nat) (st : Array Nat × Nat), st.1.size = 1 → (forIn l st (StrLaws.occBody s sub hi 1)).run.fst = st.1
  | [], st, h => rfl
  | a :: l, st, h => by
    rw [List.forIn_cons]
    unfold StrLaws.occBody
    rw [if_neg (fun z => by have := z.1.1.1; omega)]
    exact occ_stay s sub hi l _ h
theorem occ_one (s sub : Str) (hi : Nat) : ∀ (l : List Nat) (free : Nat), (∀ i ∈ l, free ≤ i) →
    (forIn l ((#[] : Array Nat), free) (StrLaws.occBody s sub hi 1)).run.fst.toList = (l.find? fun i => decide (i + sub.length ≤ hi) && subAt s sub i).toList
  | [], free, _ => rfl
  | a :: l, free, hf => by
    have ha : free ≤ a := hf a List.mem_cons_self
    rw [List.forIn_cons]
    by_cases c : a + sub.length ≤ hi ∧ subAt s sub a = true
    · rw [List.find?_cons_of_pos (by simp [c.1, c.2])]
      have e : StrLaws.occBody s sub hi 1 a ((#[] : Array Nat), free) = pure (ForInStep.yield ((#[] : Array Nat).push a, a + sub.length)) := by
        unfold StrLaws.occBody
        rw [if_pos ⟨⟨⟨by simp, ha⟩, c.1⟩, c.2⟩]
      rw [e]
      show (forIn l ((#[] : Array Nat).push a, a + sub.length) (StrLaws.occBody s sub hi 1)).run.fst.toList = _
      rw [occ_stay s sub hi l _ (by simp)]
      rfl
    · rw [List.find?_cons_of_neg (by simpa using c)]
      have e : StrLaws.occBody s sub hi 1 a ((#[] : Array Nat), free) = pure (ForInStep.yield ((#[] : Array Nat), free)) := by
        unfold StrLaws.occBody
        rw [if_neg (fun h => c ⟨h.1.2, h.2⟩)]
      rw [e]
      exact occ_one s sub hi l free fun i h => hf i (List.mem_cons_of_mem _ h)
theorem occ_find (s sub : Str) (lo hi : Nat) : occurrences s sub lo hi 1 = ((List.range' lo (hi + 1 - lo)).find? fun i => decide (i + sub.length ≤ hi) && subAt s sub i).toList := by
  rw [StrLaws.occ_eq]
  exact occ_one s sub hi _ lo fun i h => (List.mem_range'_1.mp h).1
/-- v stands in u at i -/
def AtL (u v : List Nat) (i : Nat) : Prop := i + v.length ≤ u.length ∧ (u.drop i).take v.length = v
theorem atL_iff (u v : List Nat) (i : Nat) : (decide (i + (S v).length ≤ (S u).length) && subAt (S u) (S v) i) = true ↔ AtL u v i := by
  rw [StrLaws.subAt_eq, Bool.and_eq_true, decide_eq_true_iff]
  show (i + (S v).length ≤ (S u).length ∧ (((cs (S u)).drop i).take (S v).length == cs (S v)) = true) ↔ _
  rw [S_tl, S_tl, S_len, S_len, beq_iff_eq]
  exact Iff.rfl
/-- the first place from lo on -/
def FindL (u v : List Nat) (lo : Nat) (r : Int) : Prop := (∃ i : Nat, r = i ∧ lo ≤ i ∧ AtL u v i ∧ ∀ j, lo ≤ j → j < i → ¬ AtL u v j) ∨ (r = -1 ∧ ∀ j, lo ≤ j → ¬ AtL u v j)
theorem find_range' {lo n : Nat} {p : Nat → Bool} {s : Nat} (h : (List.range' lo n).find? p = some s) : lo ≤ s ∧ p s = true ∧ ∀ t, lo ≤ t → t < s → p t = false := by
  obtain ⟨h1, i, hi, h2, h3⟩ := List.find?_eq_some_iff_getElem.mp h
  rw [List.getElem_range'] at h2
  subst h2
  refine ⟨by omega, h1, fun t ht hlt => ?_⟩
  have := h3 (t - lo) (by omega)
  rw [List.getElem_range'] at this
  rw [show lo + 1 * (t - lo) = t by omega] at this
  simpa using this
theorem occ_FindL (u v : List Nat) (lo : Nat) : FindL u v lo (match occurrences (S u) (S v) lo (S u).length 1 with | k :: _ => (k : Int) | [] => -1) := by
  rw [occ_find]
  cases h : (List.range' lo ((S u).length + 1 - lo)).find? fun i => decide (i + (S v).length ≤ (S u).length) && subAt (S u) (S v) i with
  | none =>
    right
    refine ⟨rfl, fun j hj z => ?_⟩
    have l := z.1
    have := List.find?_eq_none.mp h j (List.mem_range'_1.mpr ⟨hj, by rw [S_len]; omega⟩)
    exact this ((atL_iff u v j).mpr z)
  | some i =>
    left
    obtain ⟨h1, h2, h3⟩ := find_range' h
    refine ⟨i, rfl, h1, (atL_iff u v i).mp h2, fun j a b z => ?_⟩
    have := (atL_iff u v j).mpr z
    rw [h3 j a b] at this
    cases this
theorem find_FindL (u v : List Nat) : FindL u v 0 (Txt.find (S u) (S v)) := occ_FindL u v 0
theorem find3_FindL (u v : List Nat) (i : Nat) : FindL u v i (Txt.find3 (S u) (S v) (i : Int)) := by
  unfold Txt.find3
  rw [show fromIndex (S u).length (i : Int) = i by unfold fromIndex; rw [if_neg (by omega)]; omega]
  exact occ_FindL u v i
/-! ### list of a text -/
section
variable {X : Cx}
theorem call_listStr (hc : X.calm = true) : CallR X (.type "list") (fun xs H Q => ∃ z : List Nat, xs = [.str (S z)] ∧ z.length ≤ sizeLine ∧ ∀ l, H l = none → Q (.ref l) (upd H l (.lst (z.map fun c => V.str (S [c]))))) := by
  intro pins s σ H xs us Q I r h
  obtain ⟨z, rfl, hz, q⟩ := h
  obtain ⟨u, rfl, t, rfl⟩ := vals1 r
  refine call_list_str (I.ok.hd hc) (S z) t (fun h' tk acc' c' kp e hacc => ?_) (by show (S z).length ≤ sizeLine; rw [S_len]; exact hz)
  obtain ⟨hsz, hat⟩ := hacc
  have hsz' : acc'.size = z.length := hsz.trans (S_len z)
  refine ⟨.ref s.heap.objs.size, _, I.laid (t' := tk) kp (Nat.le_refl _) (show ObjOk X.prog X.w _ h' _ (.lst (z.map fun c => V.str (S [c]))) from ⟨by rw [List.length_map]; exact hz, acc'.toList, c', ?_, by rw [Array.toArray_toList]; exact e⟩), rfl, q _ (I.hok.fresh (Nat.le_refl _))⟩
  -- the items
  have go : ∀ (ys : List Nat) (vs : List Value), vs.length = ys.length → (∀ (i c : Nat), ys[i]? = some c → ∃ t, vs[i]? = some (Value.str ⟨#[c]⟩ t)) → Vals (ys.map fun c => V.str (S [c])) vs := by
    intro ys
    induction ys with
    | nil => intro vs h _; rw [List.length_eq_zero_iff.mp h]; exact .nil
    | cons c ys ih =>
      intro vs h k
      match vs, h with
      | v :: vs, h =>
        obtain ⟨t, e⟩ := k 0 c rfl
        obtain rfl := Option.some.inj e
        exact .cons ⟨t, rfl⟩ (ih vs (Nat.succ.inj h) fun i c hc => k (i + 1) c hc)
  refine go z acc'.toList (by rw [Array.length_toList]; exact hsz') fun i c hc => ?_
  have hi : i < z.length := (List.getElem?_eq_some_iff.mp hc).1
  have hv : acc'[i]? = some (acc'[i]'(by omega)) := Array.getElem?_eq_getElem _
  obtain ⟨c', t', hc', e'⟩ := hat i _ hv
  rw [e'] at hv
  have : (S z).cps[i]? = some c := by
    show z.toArray[i]? = some c
    rw [List.getElem?_toArray]; exact hc
  rw [this] at hc'
  obtain rfl := Option.some.inj hc'
  exact ⟨t', by rw [Array.getElem?_toList]; exact hv⟩
end
/-! ### isinstance of the error that the suite holds, with an own dict -/
def rIsEd (K : PySem.W.Frag) (C a : Addr) (cls : Value) (d : Option Addr) : List V → Hp → VK → Prop := fun xs H Q => ∃ (c : V) (cv : Value) (b : Bool) (dd : Addr) (fs : List (Str × V)), xs = [.ref a, c] ∧ ClsV c cv ∧ cls = .ref C ∧ d = some dd ∧ H dd = some (.xd fs) ∧ PySem.W.kitOne K (.ref C) cv = some b ∧ Q (.bl b) H
theorem call_isEd {X : Cx} {a C : Addr} {oe : Obj} {cls : Value} {d : Option Addr} {pn : List (Addr × Obj)} (T : ExcC X.K C) (hz : Zc cls d oe) (hf : ∃ vs, oe.data = .fields vs) : CallR (X.suite a ((a, oe) :: pn)) (.builtin "isinstance") (rIsEd X.K C a cls d) := by
  intro pins s σ H xs us Q I r h
  obtain ⟨c, cv, b, dd, fs, rfl, hcv, rfl, rfl, hd, e, q⟩ := h
  obtain ⟨u1, u2, rfl, r1, r2⟩ := vals2 r
  cases (show u1 = Value.ref a from r1)
  have ec := hcv.eq r2
  subst ec
  obtain ⟨hget, _⟩ := I.pin (a, oe) (List.mem_append.mpr (.inl List.mem_cons_self))
  obtain ⟨vs, hv⟩ := hf
  have hx : ObjOk X.prog X.w H s.heap dd (.xd fs) := I.hok dd _ hd
  obtain ⟨mA, hns, hr⟩ := hx
  obtain ⟨od, ho, hl⟩ := lookIn_ns hns
  have J : PySem.W.InstAt s.heap a oe C (some od) := ⟨hget, hz.1, by unfold PySem.W.notCls; rw [hv] <;> rfl, by rw [hz.2]; exact ho⟩
  obtain ⟨cd, hcd, _⟩ := PySem.W.any_some T.hd
  exact PySem.W.kia_one (PySem.W.kitx_exc (by rw [hcd]; rfl) T.hg T.hk T.hs T.ha T.hn T.ht T.hm) I.kIn J e (fun z => nomatch z) fun tk => ⟨.bl b, H, I.kept (t' := tk) fun _ _ z => z, rfl, q⟩
end L2
namespace GQ
open PySem PySem.Spec PyProof.Rows
section
variable {prog : Program} {w : World} {A : Around} {R : Result → Shared → Prop}
theorem list_eq_len (l b : Addr) (items items2 : Array Value) (n n2 : Nat) (hne : items.size ≠ items2.size) {s : Shared} (hl1 : s.heap.get? l = some { cls := .type "list", data := .seq items n }) (hb1 : s.heap.get? b = some { cls := .type "list", data := .seq items2 n2 })
    (fin : R (.ok (.ret (.bool false))) s) :
    wpAny (model prog w) A.in1 (Builtin.«list.__eq__» ⟨[.ref l, .ref b], []⟩) (FinOf prog w A R) (fun e s' => R (.error e) s') s := by
  obtain ⟨hp, g, d, tk, os⟩ := s
  have f3 := AutoSeq1.sub_list_list
  have hne' : (items.size != items2.size) = true := by simp [hne]
  wp_walk using wpAny_loadPart' hl1, wpAny_loadPart' hb1
  exact fin
end
section
variable {prog : Program} {w : World} {A : Around} {E : Value → Shared → Prop} {s : Shared}
theorem rc_list_len {l b : Addr} {items items2 : Array Value} {n n2 : Nat} {Q : Value → Shared → Prop} (hu : A.units < cLine) (hne : items.size ≠ items2.size) (hl1 : s.heap.get? l = some { cls := .type "list", data := .seq items n }) (hb1 : s.heap.get? b = some { cls := .type "list", data := .seq items2 n2 })
    (fin : Q (.bool false) s) : wpAny (model prog w) A (richCompare .Eq (.ref l) (.ref b)) Q E s := by
  refine wpAny_richCompare_same_room (op := .Eq) ⟨_, hl1, rfl⟩ ⟨_, hb1, rfl⟩ F.slot_list_eq (call_here F.slot_list_eq ⟨_, hl1, rfl⟩ F.entry_list_eq (F.args_list_eq_2 _ _) ?_) hu
  exact list_eq_len (R := wants (fun v s' => v ≠ .notImplemented ∧ Q v s') E) l b items items2 n n2 hne hl1 hb1 ⟨(fun x => nomatch x), fin⟩
end
end GQ
namespace L2
open PySem PySem.Spec PyProof.Rows PySem.Builtin PySem.Builtin.Str
section
variable {X : Cx}
/-- xs == ys of two lists of which one is empty -/
def rEqNil : R2 := fun x y H Q => ∃ p q xs ys, x = .ref p ∧ y = .ref q ∧ H p = some (.lst xs) ∧ H q = some (.lst ys) ∧ (xs = [] ∨ ys = []) ∧ Q (.bl (decide (xs.length = ys.length))) H
theorem op_eq_nil (hu : X.A.units < cLine) : OpR X (compareOp .Eq) rEqNil := by
  intro pins s σ H x y v u Q I rx ry h
  obtain ⟨p, q, xs, ys, rfl, rfl, hp, hq, hn, k⟩ := h
  cases (show v = Value.ref p from rx)
  cases (show u = Value.ref q from ry)
  obtain ⟨z1, its, n, r1, hl, e1⟩ := I.lstM hp
  obtain ⟨z2, its2, n2, r2, hl2, e2⟩ := I.lstM hq
  by_cases hl3 : xs.length = ys.length
  · have ex : xs = [] := by
      rcases hn with e | e
      · exact e
      · subst e; exact List.length_eq_zero_iff.mp hl3
    have ey : ys = [] := by
      rcases hn with e | e
      · subst e; exact List.length_eq_zero_iff.mp hl3.symm
      · exact e
    subst ex ey
    cases r1; cases r2
    rw [decide_eq_true hl3] at k
    exact GQ.rc_listG hu (N := 0) (fun i s' => i = 0 ∧ s' = s) (fun i s' hi => by obtain ⟨rfl, rfl⟩ := hi; exact ⟨_, _, _, _, e1, e2, rfl, rfl, fun h1 _ => absurd h1 (by simp)⟩) (fun s' hs => by obtain ⟨_, rfl⟩ := hs; exact ⟨.bl true, H, I, rfl, k⟩) ⟨rfl, rfl⟩
  · rw [decide_eq_false hl3] at k
    refine GQ.rc_list_len hu ?_ e1 e2 ⟨.bl false, H, I, rfl, k⟩
    have := r1.length
    have := r2.length
    simp only [List.size_toArray]
    omega
/-! ### dicts of flat values, shown -/
def FlatD : V → PyData → Prop := fun v d => (v = .non ∧ d = .none) ∨ (∃ b, v = .bl b ∧ d = .bool b) ∨ (∃ i, v = .int i ∧ d = .int i) ∨ ∃ z, v = .str z ∧ d = .str z
def keyD : Key → PyData
  | .inl i => .int i
  | .inr x => .str x
def DictD : List (Key × V) → List (PyData × PyData) → Prop := Paired fun p q => q.1 = keyD p.1 ∧ FlatD p.2 q.2
/-- data, or a dict of flat values -/
def Ds (K : PySem.W.Frag) (H : Hp) (x : V) (d : PyData) : Prop := Dp K H x d ∨ ∃ a kvs ds, x = .ref a ∧ H a = some (.dK kvs) ∧ d = .dict ds ∧ DictD kvs ds
def rReprD (K : PySem.W.Frag) : List V → Hp → VK → Prop := fun xs H Q => ∃ x d, xs = [x] ∧ Ds K H x d ∧ d.showable = true ∧ d.depth ≤ 60 ∧ d.shown.length ≤ sizeLine ∧ Q (.str d.shown) H
theorem FlatD.reads {v : V} {d : PyData} {u : Value} {h : Heap} (f : FlatD v d) (r : RelV v u) : Reads h u d [] := by
  rcases f with ⟨rfl, rfl⟩ | ⟨b, rfl, rfl⟩ | ⟨i, rfl, rfl⟩ | ⟨z, rfl, rfl⟩
  · cases (show u = Value.none from r); exact .none
  · cases (show u = Value.bool b from r); exact .bool _
  · obtain ⟨t, rfl⟩ := r; exact .int _ _
  · obtain ⟨t, rfl⟩ := r; exact .str _ _
theorem keyD_reads {k : Key} {u : Value} {h : Heap} (e : keyIs k u = true) : Reads h u (keyD k) [] := by
  rcases keyIs_shape e with ⟨i, t, rfl, rfl⟩ | ⟨x, t, rfl, rfl⟩
  · exact .int _ _
  · exact .str _ _
theorem dictD_reads {h : Heap} {P : Program} {w : World} {kvs : List (Key × V)} {ds : List (PyData × PyData)} (dd : DictD kvs ds) : ∀ {vs : List (Key × Value)} {es : List DictEntry}, KV kvs vs → Pairs (mixKind P w) es vs →
    ReadsAll h (es.map (·.key)) (ds.map (·.1)) [] ∧ ReadsAll h (es.map (·.val)) (ds.map (·.2)) [] := by
  unfold DictD at dd
  induction dd with
  | nil =>
    intro vs es kv ps
    cases kv
    cases ps
    exact ⟨.nil, .nil⟩
  | @cons p q l1 l2 h1 _ ih =>
    intro vs es kv ps
    unfold KV at kv
    cases kv with
    | cons a t =>
      cases ps with
      | cons hk hv hp =>
        obtain ⟨i1, i2⟩ := ih t hp
        obtain ⟨e1, f⟩ := h1
        obtain ⟨ka, ra⟩ := a
        refine ⟨.cons (as := []) (bs := []) ?_ i1, .cons (as := []) (bs := []) ?_ i2⟩
        · show Reads h _ q.1 []
          rw [e1, ka]
          exact keyD_reads hk
        · have := f.reads (h := h) ra
          rw [← hv] at this
          exact this
theorem call_reprD (hc : X.A.guards = some []) (hu : X.A.units + 64 < cLine) : CallR X (.builtin "repr") (rReprD X.K) := by
  intro pins s σ H xs us Q I r h
  obtain ⟨x, d, rfl, hd, hs, hdp, hz, q⟩ := h
  rcases hd with hd | ⟨a, kvs, ds, rfl, ha, rfl, dd⟩
  · exact call_repr hc hu pins s σ H _ us Q I r ⟨x, d, rfl, .inl hd, hs, hdp, hz, q⟩
  · obtain ⟨u, rfl, r1⟩ := vals1 r
    obtain rfl : u = Value.ref a := r1
    obtain ⟨_, hsys, vs, hkv, od, es, ep, hget, hcl, hdat, hko, hps, _⟩ : ObjOk X.prog X.w H s.heap a (.dK kvs) := I.hok a _ ha
    obtain ⟨i1, i2⟩ := dictD_reads (h := s.heap) dd hkv hps
    have rd : Reads s.heap (.ref a) (.dict ds) (a :: [] ++ []) := .dict hget hcl.1 hdat i1 i2
    refine repr_of_reads' rd hs (fun _ hm => ?_) hc (by omega) (fun _ _ e => e) (fun h' u tk k => ⟨.str _, H, I.kept k, ⟨_, rfl⟩, q⟩) hz
    have e : sysModules = a := by simpa using hm
    rw [← e] at hsys
    exact absurd hsys (by decide)
end
end L2

set_option Elab.async false
set_option linter.all false
set_option maxHeartbeats 8000000
namespace Lev
section
variable {α : Type}
/-- an alignment of two lists with c changes -/
inductive A : List α → List α → Nat → Prop where
  | nil : A [] [] 0
  | keep {a u v c} : A u v c → A (a :: u) (a :: v) c
  | swap {a b u v c} : A u v c → A (a :: u) (b :: v) (c + 1)
  | drop {a u v c} : A u v c → A (a :: u) v (c + 1)
  | add {b u v c} : A u v c → A u (b :: v) (c + 1)
theorem A.cast {u v u' v' : List α} {c c' : Nat} (h : A u v c) (e1 : u = u') (e2 : v = v') (e3 : c = c') : A u' v' c' := by
  subst e1 e2 e3; exact h
theorem A.refl : ∀ u : List α, A u u 0
  | [] => .nil
  | _ :: u => .keep (A.refl u)
theorem A.symm {u v : List α} {c : Nat} (h : A u v c) : A v u c := by
  induction h with
  | nil => exact .nil
  | keep _ ih => exact .keep ih
  | swap _ ih => exact .swap ih
  | drop _ ih => exact .add ih
  | add _ ih => exact .drop ih
theorem A.append {u v u' v' : List α} {c c' : Nat} (h : A u v c) (h' : A u' v' c') : A (u ++ u') (v ++ v') (c + c') := by
  induction h with
  | nil => exact h'.cast rfl rfl (Nat.zero_add _).symm
  | keep _ ih => exact .keep ih
  | swap _ ih => exact (A.swap ih).cast rfl rfl (by omega)
  | drop _ ih => exact (A.drop ih).cast rfl rfl (by omega)
  | add _ ih => exact (A.add ih).cast rfl rfl (by omega)
theorem A.drops : ∀ u : List α, A u [] u.length
  | [] => .nil
  | _ :: u => .drop (A.drops u)
theorem A.adds (u : List α) : A [] u u.length := (A.drops u).symm
theorem A.nilLeft {v : List α} {c : Nat} (h : A [] v c) : v.length ≤ c := by
  generalize e : ([] : List α) = u at h
  induction h with
  | nil => exact Nat.le_refl _
  | keep _ _ => cases e
  | swap _ _ => cases e
  | drop _ _ => cases e
  | add _ ih => have := ih e; simp; omega
/-- an alignment is cut where the left list is -/
theorem A.split {w v : List α} {c : Nat} (h : A w v c) : ∀ u u' : List α, w = u ++ u' → ∃ v1 v2 c1 c2, v = v1 ++ v2 ∧ A u v1 c1 ∧ A u' v2 c2 ∧ c = c1 + c2 := by
  induction h with
  | nil =>
    intro u u' e
    have e1 : u = [] := (List.append_eq_nil_iff.mp e.symm).1
    have e2 : u' = [] := (List.append_eq_nil_iff.mp e.symm).2
    subst e1 e2
    exact ⟨[], [], 0, 0, rfl, .nil, .nil, rfl⟩
  | @keep a w v c h ih =>
    intro u u' e
    cases u with
    | nil => exact ⟨[], a :: v, 0, c, rfl, .nil, (A.keep h).cast e rfl rfl, (Nat.zero_add _).symm⟩
    | cons x u =>
      injection e with e1 e2
      subst e1
      obtain ⟨v1, v2, c1, c2, rfl, h1, h2, rfl⟩ := ih u u' e2
      exact ⟨_ :: v1, v2, c1, c2, rfl, .keep h1, h2, rfl⟩
  | @swap a b w v c h ih =>
    intro u u' e
    cases u with
    | nil => exact ⟨[], b :: v, 0, c + 1, rfl, .nil, (A.swap h).cast e rfl rfl, (Nat.zero_add _).symm⟩
    | cons x u =>
      injection e with e1 e2
      subst e1
      obtain ⟨v1, v2, c1, c2, rfl, h1, h2, rfl⟩ := ih u u' e2
      exact ⟨_ :: v1, v2, c1 + 1, c2, rfl, .swap h1, h2, by omega⟩
  | @drop a w v c h ih =>
    intro u u' e
    cases u with
    | nil => exact ⟨[], v, 0, c + 1, rfl, .nil, (A.drop h).cast e rfl rfl, (Nat.zero_add _).symm⟩
    | cons x u =>
      injection e with e1 e2
      subst e1
      obtain ⟨v1, v2, c1, c2, rfl, h1, h2, rfl⟩ := ih u u' e2
      exact ⟨v1, v2, c1 + 1, c2, rfl, .drop h1, h2, by omega⟩
  | @add b w v c h ih =>
    intro u u' e
    obtain ⟨v1, v2, c1, c2, rfl, h1, h2, rfl⟩ := ih u u' e
    exact ⟨b :: v1, v2, c1 + 1, c2, rfl, .add h1, h2, by omega⟩

/-! ### ways over places of two lists -/
inductive P (u v : List α) : Nat → Nat → Nat → Prop where
  | zero : P u v 0 0 0
  | keep {i j c a} : P u v i j c → u[i]? = some a → v[j]? = some a → P u v (i + 1) (j + 1) c
  | swap {i j c} : P u v i j c → i < u.length → j < v.length → P u v (i + 1) (j + 1) (c + 1)
  | drop {i j c} : P u v i j c → i < u.length → P u v (i + 1) j (c + 1)
  | add {i j c} : P u v i j c → j < v.length → P u v i (j + 1) (c + 1)
variable {u v : List α}
theorem P.bounds {i j c : Nat} (h : P u v i j c) : i ≤ u.length ∧ j ≤ v.length := by
  induction h with
  | zero => exact ⟨Nat.zero_le _, Nat.zero_le _⟩
  | keep _ e1 e2 _ =>
    have h1 := (List.getElem?_eq_some_iff.mp e1).1
    have h2 := (List.getElem?_eq_some_iff.mp e2).1
    exact ⟨h1, h2⟩
  | swap _ h1 h2 _ => exact ⟨h1, h2⟩
  | drop _ h1 ih => exact ⟨h1, ih.2⟩
  | add _ h1 ih => exact ⟨ih.1, h1⟩
theorem P.toA {i j c : Nat} (h : P u v i j c) : A (u.take i) (v.take j) c := by
  induction h with
  | zero => exact (A.nil).cast (by simp) (by simp) rfl
  | keep _ e1 e2 ih =>
    exact (ih.append (A.keep A.nil)).cast (by rw [List.take_add_one, e1]; rfl) (by rw [List.take_add_one, e2]; rfl) rfl
  | @swap i j c _ h1 h2 ih =>
    exact (ih.append (A.swap (a := u[i]) (b := v[j]) A.nil)).cast (by rw [List.take_add_one, List.getElem?_eq_getElem h1]; rfl) (by rw [List.take_add_one, List.getElem?_eq_getElem h2]; rfl) rfl
  | @drop i j c _ h1 ih =>
    exact (ih.append (A.drop (a := u[i]) A.nil)).cast (by rw [List.take_add_one, List.getElem?_eq_getElem h1]; rfl) (by simp) rfl
  | @add i j c _ h1 ih =>
    exact (ih.append (A.add (b := v[j]) A.nil)).cast (by simp) (by rw [List.take_add_one, List.getElem?_eq_getElem h1]; rfl) rfl
theorem P.onA {u' v' : List α} {c' : Nat} (h : A u' v' c') : ∀ {i j c : Nat}, P u v i j c → u.drop i = u' → v.drop j = v' → i ≤ u.length → j ≤ v.length → P u v u.length v.length (c + c') := by
  induction h with
  | nil =>
    intro i j c p e1 e2 b1 b2
    have h1 : u.length ≤ i := List.drop_eq_nil_iff.mp e1
    have h2 : v.length ≤ j := List.drop_eq_nil_iff.mp e2
    have e3 : i = u.length := Nat.le_antisymm b1 h1
    have e4 : j = v.length := Nat.le_antisymm b2 h2
    subst e3 e4
    exact p
  | @keep a u' v' c' _ ih =>
    intro i j c p e1 e2 b1 b2
    have g1 : u[i]? = some a := by have := congrArg (·[0]?) e1; simpa using this
    have g2 : v[j]? = some a := by have := congrArg (·[0]?) e2; simpa using this
    have h1 := (List.getElem?_eq_some_iff.mp g1).1
    have h2 := (List.getElem?_eq_some_iff.mp g2).1
    exact ih (.keep p g1 g2) (by rw [← List.drop_drop, e1]; rfl) (by rw [← List.drop_drop, e2]; rfl) h1 h2
  | @swap a b u' v' c' _ ih =>
    intro i j c p e1 e2 b1 b2
    have g1 : u[i]? = some a := by have := congrArg (·[0]?) e1; simpa using this
    have g2 : v[j]? = some b := by have := congrArg (·[0]?) e2; simpa using this
    have h1 := (List.getElem?_eq_some_iff.mp g1).1
    have h2 := (List.getElem?_eq_some_iff.mp g2).1
    have := ih (.swap p h1 h2) (by rw [← List.drop_drop, e1]; rfl) (by rw [← List.drop_drop, e2]; rfl) h1 h2
    rw [show c + (c' + 1) = c + 1 + c' by omega]; exact this
  | @drop a u' v' c' _ ih =>
    intro i j c p e1 e2 b1 b2
    have g1 : u[i]? = some a := by have := congrArg (·[0]?) e1; simpa using this
    have h1 := (List.getElem?_eq_some_iff.mp g1).1
    have := ih (.drop p h1) (by rw [← List.drop_drop, e1]; rfl) e2 h1 b2
    rw [show c + (c' + 1) = c + 1 + c' by omega]; exact this
  | @add b u' v' c' _ ih =>
    intro i j c p e1 e2 b1 b2
    have g2 : v[j]? = some b := by have := congrArg (·[0]?) e2; simpa using this
    have h2 := (List.getElem?_eq_some_iff.mp g2).1
    have := ih (.add p h2) e1 (by rw [← List.drop_drop, e2]; rfl) b1 h2
    rw [show c + (c' + 1) = c + 1 + c' by omega]; exact this
theorem A.toP {c : Nat} (h : A u v c) : P u v u.length v.length c := by
  have := P.onA (u := u) (v := v) h .zero rfl rfl (Nat.zero_le _) (Nat.zero_le _)
  simpa using this
theorem P.toA' {c : Nat} (h : P u v u.length v.length c) : A u v c := h.toA.cast (List.take_length) (List.take_length) rfl

/-! ### the table -/
variable [DecidableEq α]
def neq (x y : Option α) : Nat := if x = y then 0 else 1
def T (u v : List α) : Nat → Nat → Nat
  | 0, j => j
  | i + 1, 0 => i + 1
  | i + 1, j + 1 => min (T u v i j + neq u[i]? v[j]?) (min (T u v (i + 1) j + 1) (T u v i (j + 1) + 1))
theorem T_zero (j : Nat) : T u v 0 j = j := by unfold T; rfl
theorem T_left (i : Nat) : T u v i 0 = i := by cases i <;> (unfold T; rfl)
theorem T_step (i j : Nat) : T u v (i + 1) (j + 1) = min (T u v i j + neq u[i]? v[j]?) (min (T u v (i + 1) j + 1) (T u v i (j + 1) + 1)) := by
  rw [T]
theorem T_le {i j c : Nat} (h : P u v i j c) : T u v i j ≤ c := by
  induction h with
  | zero => rw [T_zero]; omega
  | keep _ e1 e2 ih => rw [T_step, e1, e2]; simp only [neq, if_true]; omega
  | @swap i j c _ _ _ ih =>
    rw [T_step]
    have : neq u[i]? v[j]? ≤ 1 := by unfold neq; split <;> omega
    omega
  | @drop i j c _ _ ih => cases j with
    | zero => rw [T_left] at *; omega
    | succ j => rw [T_step]; omega
  | @add i j c _ _ ih => cases i with
    | zero => rw [T_zero] at *; omega
    | succ i => rw [T_step]; omega
theorem T_P : ∀ (i j : Nat), i ≤ u.length → j ≤ v.length → P u v i j (T u v i j) := by
  intro i
  induction i with
  | zero =>
    intro j
    induction j with
    | zero => intro _ _; rw [T_zero]; exact .zero
    | succ j ih => intro h1 h2; rw [T_zero]; have := ih h1 (by omega); rw [T_zero] at this; exact .add this (by omega)
  | succ i ihi =>
    intro j
    induction j with
    | zero => intro h1 h2; rw [T_left]; have := ihi 0 (by omega) h2; rw [T_left] at this; exact .drop this (by omega)
    | succ j ih =>
      intro h1 h2
      have p1 := ihi j (by omega) (by omega)
      have p2 := ih h1 (by omega)
      have p3 := ihi (j + 1) (by omega) h2
      rw [T_step]
      by_cases q1 : T u v i j + neq u[i]? v[j]? ≤ min (T u v (i + 1) j + 1) (T u v i (j + 1) + 1)
      · rw [Nat.min_eq_left q1]
        by_cases e : u[i]? = v[j]?
        · rw [show neq u[i]? v[j]? = 0 by unfold neq; rw [if_pos e]]
          exact .keep p1 (List.getElem?_eq_getElem (by omega)) (by rw [← e]; exact List.getElem?_eq_getElem (by omega))
        · rw [show neq u[i]? v[j]? = 1 by unfold neq; rw [if_neg e]]
          exact .swap p1 (by omega) (by omega)
      · rw [Nat.min_eq_right (by omega)]
        by_cases q2 : T u v (i + 1) j + 1 ≤ T u v i (j + 1) + 1
        · rw [Nat.min_eq_left q2]; exact .add p2 (by omega)
        · rw [Nat.min_eq_right (by omega)]; exact .drop p3 (by omega)
/-- the distance -/
def D (u v : List α) : Nat := T u v u.length v.length
theorem D_A (u v : List α) : A u v (D u v) := (T_P _ _ (Nat.le_refl _) (Nat.le_refl _)).toA'
theorem D_le {u v : List α} {c : Nat} (h : A u v c) : D u v ≤ c := T_le h.toP
theorem D_symm (u v : List α) : D u v = D v u := Nat.le_antisymm (D_le (D_A v u).symm) (D_le (D_A u v).symm)
theorem D_self (u : List α) : D u u = 0 := Nat.le_zero.mp (D_le (A.refl u))
theorem D_le_max (u v : List α) : D u v ≤ max u.length v.length := by
  have key : ∀ u v : List α, ∃ c, A u v c ∧ c ≤ max u.length v.length := by
    intro u
    induction u with
    | nil => intro v; exact ⟨_, A.adds v, by simp⟩
    | cons a u ih =>
      intro v
      cases v with
      | nil => exact ⟨_, A.drops (a :: u), by simp⟩
      | cons b v =>
        obtain ⟨c, h, hc⟩ := ih v
        exact ⟨c + 1, .swap h, by simp; omega⟩
  obtain ⟨c, h, hc⟩ := key u v
  exact Nat.le_trans (D_le h) hc
theorem A.lens {u v : List α} {c : Nat} (h : A u v c) : u.length ≤ v.length + c ∧ v.length ≤ u.length + c := by
  induction h with
  | nil => exact ⟨Nat.le_refl _, Nat.le_refl _⟩
  | keep _ ih => simp only [List.length_cons]; omega
  | swap _ ih => simp only [List.length_cons]; omega
  | drop _ ih => simp only [List.length_cons]; omega
  | add _ ih => simp only [List.length_cons]; omega
end
end Lev

set_option Elab.async false
set_option linter.all false
set_option maxHeartbeats 400000
namespace Lev
section
variable {α : Type}
/-- w is a turn of v -/
def Turn (v w : List α) : Prop := ∃ x y, v = x ++ y ∧ w = y ++ x
theorem Turn.refl (v : List α) : Turn v v := ⟨[], v, rfl, (List.append_nil v).symm⟩
theorem Turn.symm {v w : List α} (h : Turn v w) : Turn w v := by
  obtain ⟨x, y, rfl, rfl⟩ := h
  exact ⟨y, x, rfl, rfl⟩
theorem Turn.trans {u v w : List α} (h : Turn u v) (h' : Turn v w) : Turn u w := by
  obtain ⟨x, y, rfl, rfl⟩ := h
  obtain ⟨x', y', e, rfl⟩ := h'
  rcases List.append_eq_append_iff.mp e with ⟨e1, rfl, rfl⟩ | ⟨e1, rfl, rfl⟩
  · exact ⟨e1, y' ++ y, by rw [List.append_assoc], by rw [List.append_assoc]⟩
  · exact ⟨x ++ x', e1, by rw [List.append_assoc], by rw [List.append_assoc]⟩
theorem Turn.length {v w : List α} (h : Turn v w) : w.length = v.length := by
  obtain ⟨x, y, rfl, rfl⟩ := h
  simp only [List.length_append]; omega
theorem Turn.at (v : List α) (k : Nat) : Turn v (v.drop k ++ v.take k) := ⟨v.take k, v.drop k, (List.take_append_drop k v).symm, rfl⟩
/-- an alignment of turns of both is one of u and a turn -/
theorem cut {u u' v v' : List α} {c : Nat} (hu : Turn u u') (hv : Turn v v') (h : A u' v' c) : ∃ w, Turn v w ∧ A u w c := by
  obtain ⟨x, y, rfl, rfl⟩ := hu
  obtain ⟨w1, w2, c1, c2, rfl, h1, h2, rfl⟩ := h.split y x rfl
  exact ⟨w2 ++ w1, hv.trans ⟨w1, w2, rfl, rfl⟩, (h2.append h1).cast rfl rfl (Nat.add_comm _ _)⟩
/-! ### the window that is just as long -/
theorem window (N : Nat) : ∀ {u w w' : List α} {c c' k b : Nat}, u.length + w.length + w'.length ≤ N → A u w c → A u w' c' → w.length + k ≤ b → b ≤ w'.length + k →
    ∃ p q s t s' t' c1 c2 c3 c4, u = p ++ q ∧ w = s ++ t ∧ w' = s' ++ t' ∧ A p s c1 ∧ A q t c2 ∧ A p s' c3 ∧ A q t' c4 ∧ c = c1 + c2 ∧ c' = c3 + c4 ∧ t.length + (k + s'.length) = b := by
  induction N with
  | zero =>
    intro u w w' c c' k b hN h h' l1 l2
    have e1 : u = [] := List.eq_nil_of_length_eq_zero (by omega)
    have e2 : w = [] := List.eq_nil_of_length_eq_zero (by omega)
    have e3 : w' = [] := List.eq_nil_of_length_eq_zero (by omega)
    subst e1 e2 e3
    exact ⟨[], [], [], [], [], [], 0, c, 0, c', rfl, rfl, rfl, .nil, h, .nil, h', (Nat.zero_add _).symm, (Nat.zero_add _).symm, by simp at *; omega⟩
  | succ N ih =>
    intro u w w' c c' k b hN h h' l1 l2
    by_cases e : w.length + k = b
    · exact ⟨[], u, [], w, [], w', 0, c, 0, c', rfl, rfl, rfl, .nil, h, .nil, h', (Nat.zero_add _).symm, (Nat.zero_add _).symm, by simp; omega⟩
    · -- a letter more of the second
      have main : ∀ {a : α} {u w1 w1' pw pw' : List α} {c1 c1' pc pc' : Nat}, A u w1 c1 → A u w1' c1' → (∀ {p s d}, A p s d → A (a :: p) (pw ++ s) (pc + d)) → (∀ {p s d}, A p s d → A (a :: p) (pw' ++ s) (pc' + d)) → pw.length ≤ 1 → pw'.length ≤ 1 →
          (u.length + 1) + (pw ++ w1).length + (pw' ++ w1').length ≤ N + 1 → (pw ++ w1).length + k ≤ b → b ≤ (pw' ++ w1').length + k → ¬ (pw ++ w1).length + k = b →
          ∃ p q s t s' t' d1 d2 d3 d4, a :: u = p ++ q ∧ pw ++ w1 = s ++ t ∧ pw' ++ w1' = s' ++ t' ∧ A p s d1 ∧ A q t d2 ∧ A p s' d3 ∧ A q t' d4 ∧ pc + c1 = d1 + d2 ∧ pc' + c1' = d3 + d4 ∧ t.length + (k + s'.length) = b := by
        intro a u w1 w1' pw pw' c1 c1' pc pc' g g' f f' n1 n2 hN l1 l2 e
        rw [List.length_append] at hN l1 l2 e
        rw [List.length_append] at hN
        obtain ⟨p, q, s, t, s', t', d1, d2, d3, d4, rfl, rfl, rfl, a1, a2, a3, a4, e1, e2, e3⟩ := ih (k := k + pw'.length) (b := b) (by omega) g g' (by omega) (by omega)
        exact ⟨a :: p, q, pw ++ s, t, pw' ++ s', t', pc + d1, d2, pc' + d3, d4, rfl, by simp, by simp, f a1, a2, f' a3, a4, by omega, by omega, by rw [List.length_append]; omega⟩
      cases h' with
      | nil =>
        have := h.nilLeft
        simp at l2
        omega
      | @add b' _ w'' c'' g' =>
        simp only [List.length_cons] at hN l2
        obtain ⟨p, q, s, t, s', t', d1, d2, d3, d4, rfl, rfl, rfl, a1, a2, a3, a4, e1, e2, e3⟩ := ih (k := k + 1) (b := b) (by omega) h g' (by omega) (by omega)
        exact ⟨p, q, s, t, b' :: s', t', d1, d2, d3 + 1, d4, rfl, rfl, rfl, a1, a2, .add a3, a4, e1, by omega, by simp only [List.length_cons]; omega⟩
      | @keep a u w1' c1' g' =>
        cases h with
        | @add b' _ w1 c1 g =>
          simp only [List.length_cons] at hN l1 l2 e
          obtain ⟨p, q, s, t, s', t', d1, d2, d3, d4, e0, rfl, e00, a1, a2, a3, a4, e1, e2, e3⟩ := ih (k := k) (b := b) (by simp only [List.length_cons]; omega) g (A.keep g') (by omega) (by simp only [List.length_cons]; omega)
          exact ⟨p, q, b' :: s, t, s', t', d1 + 1, d2, d3, d4, e0, rfl, e00, .add a1, a2, a3, a4, by omega, e2, e3⟩
        | @keep _ _ w1 c1 g => simpa using main (pw := [a]) (pw' := [a]) (pc := 0) (pc' := 0) g g' (fun z => (A.keep z).cast rfl rfl (by omega)) (fun z => (A.keep z).cast rfl rfl (by omega)) (by simp) (by simp) (by simpa using hN) (by simpa using l1) (by simpa using l2) (by simpa using e)
        | @swap _ x _ w1 c1 g => simpa [Nat.add_comm] using main (pw := [x]) (pw' := [a]) (pc := 1) (pc' := 0) g g' (fun z => (A.swap z).cast rfl rfl (by omega)) (fun z => (A.keep z).cast rfl rfl (by omega)) (by simp) (by simp) (by simpa using hN) (by simpa using l1) (by simpa using l2) (by simpa using e)
        | @drop _ _ _ c1 g => simpa [Nat.add_comm] using main (pw := []) (pw' := [a]) (pc := 1) (pc' := 0) g g' (fun z => (A.drop z).cast rfl rfl (by omega)) (fun z => (A.keep z).cast rfl rfl (by omega)) (by simp) (by simp) (by simpa using hN) (by simpa using l1) (by simpa using l2) (by simpa using e)
      | @swap a y u w1' c1' g' =>
        cases h with
        | @add b' _ w1 c1 g =>
          simp only [List.length_cons] at hN l1 l2 e
          obtain ⟨p, q, s, t, s', t', d1, d2, d3, d4, e0, rfl, e00, a1, a2, a3, a4, e1, e2, e3⟩ := ih (k := k) (b := b) (by simp only [List.length_cons]; omega) g (A.swap (b := y) g') (by omega) (by simp only [List.length_cons]; omega)
          exact ⟨p, q, b' :: s, t, s', t', d1 + 1, d2, d3, d4, e0, rfl, e00, .add a1, a2, a3, a4, by omega, e2, e3⟩
        | @keep _ _ w1 c1 g => simpa [Nat.add_comm] using main (pw := [a]) (pw' := [y]) (pc := 0) (pc' := 1) g g' (fun z => (A.keep z).cast rfl rfl (by omega)) (fun z => (A.swap z).cast rfl rfl (by omega)) (by simp) (by simp) (by simpa using hN) (by simpa using l1) (by simpa using l2) (by simpa using e)
        | @swap _ x _ w1 c1 g => simpa [Nat.add_comm] using main (pw := [x]) (pw' := [y]) (pc := 1) (pc' := 1) g g' (fun z => (A.swap z).cast rfl rfl (by omega)) (fun z => (A.swap z).cast rfl rfl (by omega)) (by simp) (by simp) (by simpa using hN) (by simpa using l1) (by simpa using l2) (by simpa using e)
        | @drop _ _ _ c1 g => simpa [Nat.add_comm] using main (pw := []) (pw' := [y]) (pc := 1) (pc' := 1) g g' (fun z => (A.drop z).cast rfl rfl (by omega)) (fun z => (A.swap z).cast rfl rfl (by omega)) (by simp) (by simp) (by simpa using hN) (by simpa using l1) (by simpa using l2) (by simpa using e)
      | @drop a u _ c1' g' =>
        cases h with
        | @add b' _ w1 c1 g =>
          simp only [List.length_cons] at hN l1 l2 e
          obtain ⟨p, q, s, t, s', t', d1, d2, d3, d4, e0, rfl, e00, a1, a2, a3, a4, e1, e2, e3⟩ := ih (k := k) (b := b) (by simp only [List.length_cons]; omega) g (A.drop g') (by omega) (by omega)
          exact ⟨p, q, b' :: s, t, s', t', d1 + 1, d2, d3, d4, e0, rfl, e00, .add a1, a2, a3, a4, by omega, e2, e3⟩
        | @keep _ _ w1 c1 g => simpa [Nat.add_comm] using main (pw := [a]) (pw' := []) (pc := 0) (pc' := 1) g g' (fun z => (A.keep z).cast rfl rfl (by omega)) (fun z => (A.drop z).cast rfl rfl (by omega)) (by simp) (by simp) (by simpa using hN) (by simpa using l1) (by simpa using l2) (by simpa using e)
        | @swap _ x _ w1 c1 g => simpa [Nat.add_comm] using main (pw := [x]) (pw' := []) (pc := 1) (pc' := 1) g g' (fun z => (A.swap z).cast rfl rfl (by omega)) (fun z => (A.drop z).cast rfl rfl (by omega)) (by simp) (by simp) (by simpa using hN) (by simpa using l1) (by simpa using l2) (by simpa using e)
        | @drop _ _ _ c1 g => simpa [Nat.add_comm] using main (pw := []) (pw' := []) (pc := 1) (pc' := 1) g g' (fun z => (A.drop z).cast rfl rfl (by omega)) (fun z => (A.drop z).cast rfl rfl (by omega)) (by simp) (by simp) (by simpa using hN) (by simpa using l1) (by simpa using l2) (by simpa using e)
/-! ### rounds -/
def rounds : Nat → List α → List α
  | 0, _ => []
  | n + 1, v => v ++ rounds n v
theorem rounds_len (n : Nat) (v : List α) : (rounds n v).length = n * v.length := by
  induction n with
  | zero => simp [rounds]
  | succ n ih => simp [rounds, ih, Nat.succ_mul]; omega
theorem rounds_get (n : Nat) (v : List α) {i : Nat} (h : i < n * v.length) : (rounds n v)[i]? = v[i % v.length]? := by
  induction n generalizing i with
  | zero => omega
  | succ n ih =>
    show (v ++ rounds n v)[i]? = _
    rw [Nat.succ_mul] at h
    rcases Nat.lt_or_ge i v.length with q | q
    · rw [List.getElem?_append_left q, Nat.mod_eq_of_lt q]
    · rw [List.getElem?_append_right q, ih (by omega)]
      congr 1
      conv => rhs; rw [← Nat.sub_add_cancel q, Nat.add_mod_right]
/-- a piece of rounds that is as long as the text is a turn of it; the rest are rounds -/
theorem piece {n : Nat} {v x y z : List α} (h : rounds (n + 1) v = x ++ y ++ z) (hy : y.length = v.length) : Turn v y ∧ x ++ z = rounds n v := by
  by_cases hv : v.length = 0
  · have e1 : v = [] := List.eq_nil_of_length_eq_zero hv
    subst e1
    have hz : ∀ n, rounds n ([] : List α) = [] := fun n => List.eq_nil_of_length_eq_zero (by rw [rounds_len]; simp)
    rw [hz] at h
    have h' := congrArg List.length h
    simp only [List.length_nil, List.length_append] at h'
    have e2 : x = [] := List.eq_nil_of_length_eq_zero (by omega)
    have e3 : y = [] := List.eq_nil_of_length_eq_zero (by omega)
    have e4 : z = [] := List.eq_nil_of_length_eq_zero (by omega)
    subst e2 e3 e4
    exact ⟨Turn.refl _, (hz n).symm⟩
  have pos : 0 < v.length := Nat.pos_of_ne_zero hv
  have hl := congrArg List.length h
  rw [rounds_len, List.length_append, List.length_append, Nat.succ_mul] at hl
  have G : ∀ i, i < (n + 1) * v.length → (x ++ y ++ z)[i]? = v[i % v.length]? := fun i hi => by rw [← h]; exact rounds_get (n + 1) v hi
  rw [Nat.succ_mul] at G
  constructor
  · have e : y = v.drop (x.length % v.length) ++ v.take (x.length % v.length) := by
      have lt := Nat.mod_lt x.length pos
      apply List.ext_getElem?
      intro i
      rcases Nat.lt_or_ge i y.length with q | q
      · have g := G (x.length + i) (by omega)
        rw [List.append_assoc, List.getElem?_append_right (by omega), Nat.add_sub_cancel_left, List.getElem?_append_left q] at g
        rw [g]
        rcases Nat.lt_or_ge i (v.length - x.length % v.length) with q2 | q2
        · rw [List.getElem?_append_left (by rw [List.length_drop]; exact q2), List.getElem?_drop]
          congr 1
          rw [Nat.add_mod, Nat.mod_eq_of_lt (show i < v.length by omega), Nat.mod_eq_of_lt (by omega)]
        · rw [List.getElem?_append_right (by rw [List.length_drop]; exact q2), List.length_drop, List.getElem?_take, if_pos (by omega)]
          congr 1
          rw [Nat.add_mod, Nat.mod_eq_of_lt (show i < v.length by omega), Nat.mod_eq_sub_mod (by omega), Nat.mod_eq_of_lt (by omega)]
          omega
      · rw [List.getElem?_eq_none q, List.getElem?_eq_none (by simp only [List.length_append, List.length_drop, List.length_take]; omega)]
    rw [e]
    exact Turn.at v _
  · apply List.ext_getElem?
    intro i
    rcases Nat.lt_or_ge i (n * v.length) with q | q
    · rw [rounds_get n v q]
      rcases Nat.lt_or_ge i x.length with q2 | q2
      · rw [List.getElem?_append_left q2]
        have g := G i (by omega)
        rw [List.append_assoc, List.getElem?_append_left q2] at g
        exact g
      · rw [List.getElem?_append_right q2]
        have g := G (i + v.length) (by omega)
        rw [List.getElem?_append_right (by rw [List.length_append]; omega), List.length_append, Nat.add_mod_right] at g
        rw [← g]
        congr 1
        omega
    · rw [List.getElem?_eq_none (by rw [List.length_append]; omega), List.getElem?_eq_none (by rw [rounds_len]; omega)]
/-- the parts of a text that go with each round of u -/
inductive Blocks (u : List α) : Nat → List α → Nat → Prop where
  | nil : Blocks u 0 [] 0
  | cons {n w v c d} : A u w c → Blocks u n v d → Blocks u (n + 1) (w ++ v) (c + d)
theorem blocks_of {u : List α} : ∀ {n : Nat} {v : List α} {c : Nat}, A (rounds (n + 1) u) v c → Blocks u (n + 1) v c
  | 0, v, c, h => by
    have h' : A u v c := h.cast (List.append_nil u) rfl rfl
    have := Blocks.cons h' .nil
    rw [List.append_nil] at this
    exact this
  | n + 1, v, c, h => by
    obtain ⟨v1, v2, c1, c2, rfl, h1, h2, rfl⟩ := h.split u (rounds (n + 1) u) rfl
    exact .cons h1 (blocks_of h2)
def Gone (u : List α) (b n : Nat) (V : List α) (c : Nat) : Prop :=
  ∃ x y z c1 c2 u', V = x ++ y ++ z ∧ y.length = b ∧ Blocks u n (x ++ z) c1 ∧ Turn u u' ∧ A u' y c2 ∧ c = c1 + c2
theorem tri {u : List α} {b : Nat} : ∀ {n : Nat} {V : List α} {c : Nat}, Blocks u (n + 1) V c →
    (∃ w V' c1 d, V = w ++ V' ∧ A u w c1 ∧ Blocks u n V' d ∧ c = c1 + d ∧ w.length < b ∧ V.length < (n + 1) * b) ∨
    (∃ w V' c1 d, V = w ++ V' ∧ A u w c1 ∧ Blocks u n V' d ∧ c = c1 + d ∧ b < w.length ∧ (n + 1) * b < V.length) ∨ Gone u b n V c := by
  intro n
  induction n with
  | zero =>
    intro V c h
    cases h with
    | @cons _ w V' c d h1 h2 =>
      cases h2
      rcases Nat.lt_trichotomy w.length b with q | q | q
      · exact .inl ⟨w, [], c, 0, rfl, h1, .nil, rfl, q, by simp; exact q⟩
      · exact .inr (.inr ⟨[], w, [], 0, c, u, by simp, q, .nil, Turn.refl u, h1, by omega⟩)
      · exact .inr (.inl ⟨w, [], c, 0, rfl, h1, .nil, rfl, q, by simp; exact q⟩)
  | succ n ih =>
    intro V c h
    cases h with
    | @cons _ w V' c d h1 h2 =>
      have em : (n + 1 + 1) * b = (n + 1) * b + b := Nat.succ_mul _ _
      rcases ih h2 with ⟨w', V'', c', d', rfl, g1, g2, rfl, l1, l2⟩ | ⟨w', V'', c', d', rfl, g1, g2, rfl, l1, l2⟩ | ⟨x, y, z, d1, d2, u', rfl, hy, g1, g2, g3, rfl⟩
      · rcases Nat.lt_trichotomy w.length b with q | q | q
        · exact .inl ⟨w, _, c, _, rfl, h1, h2, rfl, q, by rw [List.length_append]; omega⟩
        · exact .inr (.inr ⟨[], w, _, _, c, u, by simp, q, h2, Turn.refl u, h1, by omega⟩)
        · -- longer, then shorter
          obtain ⟨p, q', s, t, s', t', k1, k2, k3, k4, rfl, rfl, rfl, a1, a2, a3, a4, rfl, rfl, e⟩ := window _ (k := 0) (b := w.length + w'.length - b) (Nat.le_refl _) g1 h1 (by omega) (by omega)
          simp only [List.length_append] at e q l1
          refine .inr (.inr ⟨s', t' ++ s, t ++ V'', (k3 + k2) + d', k4 + k1, q' ++ p, by simp, by rw [List.length_append]; omega, ?_, ⟨p, q', rfl, rfl⟩, a4.append a1, by omega⟩)
          have := Blocks.cons (a3.append a2) g2
          rw [List.append_assoc] at this
          exact this
      · rcases Nat.lt_trichotomy w.length b with q | q | q
        · obtain ⟨p, q', s, t, s', t', k1, k2, k3, k4, rfl, rfl, rfl, a1, a2, a3, a4, rfl, rfl, e⟩ := window _ (k := 0) (b := b) (Nat.le_refl _) h1 g1 (by omega) (by omega)
          refine .inr (.inr ⟨s, t ++ s', t' ++ V'', (k1 + k4) + d', k2 + k3, q' ++ p, by simp, by rw [List.length_append]; omega, ?_, ⟨p, q', rfl, rfl⟩, a2.append a3, by omega⟩)
          have := Blocks.cons (a1.append a4) g2
          rw [List.append_assoc] at this
          exact this
        · exact .inr (.inr ⟨[], w, _, _, c, u, by simp, q, h2, Turn.refl u, h1, by omega⟩)
        · exact .inr (.inl ⟨w, _, c, _, rfl, h1, h2, rfl, q, by rw [List.length_append]; omega⟩)
      · refine .inr (.inr ⟨w ++ x, y, z, c + d1, d2, u', by simp, hy, ?_, g2, g3, by omega⟩)
        rw [List.append_assoc]
        exact .cons h1 g1
/-- rounds are at least as far apart as so many turns -/
theorem rounds_ge {u v : List α} {r : Nat} (hr : ∀ w c, Turn v w → A u w c → r ≤ c) : ∀ {n : Nat} {c : Nat}, Blocks u (n + 1) (rounds (n + 1) v) c → (n + 1) * r ≤ c := by
  intro n
  induction n with
  | zero =>
    intro c h
    rw [show rounds 1 v = v from List.append_nil v] at h
    generalize e : v = V at h
    cases h with
    | @cons _ w V' c d h1 h2 =>
      cases h2
      rw [List.append_nil] at e
      subst e
      have := hr v c (Turn.refl v) h1
      omega
  | succ n ih =>
    intro c h
    have hl := rounds_len (n + 1 + 1) v
    rcases tri (b := v.length) h with ⟨w, V', c', d', e, g1, g2, _, l1, l2⟩ | ⟨w, V', c', d', e, g1, g2, _, l1, l2⟩ | ⟨x, y, z, d1, d2, u', e, hy, g1, g2, g3, rfl⟩
    · rw [hl] at l2; exact absurd l2 (Nat.lt_irrefl _)
    · rw [hl] at l2; exact absurd l2 (Nat.lt_irrefl _)
    · obtain ⟨ht, hz⟩ := piece e hy
      rw [hz] at g1
      have k1 := ih g1
      obtain ⟨w, tw, aw⟩ := cut g2 ht g3
      have k2 := hr w d2 tw aw
      rw [Nat.succ_mul]
      omega
theorem rounds_A {u w : List α} {c : Nat} (h : A u w c) : ∀ n, A (rounds n u) (rounds n w) (n * c)
  | 0 => (A.nil).cast rfl rfl (by omega)
  | n + 1 => (h.append (rounds_A h n)).cast rfl rfl (by rw [Nat.succ_mul]; omega)
theorem rounds_turn (x y : List α) : ∀ n, rounds (n + 1) (x ++ y) = x ++ rounds n (y ++ x) ++ y
  | 0 => by simp [rounds]
  | n + 1 => by
    show (x ++ y) ++ rounds (n + 1) (x ++ y) = x ++ ((y ++ x) ++ rounds n (y ++ x)) ++ y
    rw [rounds_turn x y n]
    simp
theorem rounds_last (u : List α) : ∀ n, rounds (n + 1) u = rounds n u ++ u
  | 0 => by simp [rounds]
  | n + 1 => by
    show u ++ rounds (n + 1) u = (u ++ rounds n u) ++ u
    rw [rounds_last u n]; simp
theorem rounds_le {u v w : List α} {c : Nat} (ht : Turn v w) (h : A u w c) (n : Nat) : ∃ d, A (rounds (n + 1) u) (rounds (n + 1) v) d ∧ d ≤ n * c + u.length + v.length := by
  obtain ⟨x, y, rfl, rfl⟩ := ht
  refine ⟨_, (((A.adds x).append (rounds_A h n)).append ((A.drops u).append (A.adds y))).cast (by simp [rounds_last]) (by rw [rounds_turn]; simp) rfl, ?_⟩
  simp only [List.length_append]; omega
/-! ### the price of rounds -/
variable [DecidableEq α]
/-- the least of the distances of u and the turns of v -/
def Rp (u v : List α) (r : Nat) : Prop := (∃ w, Turn v w ∧ D u w = r) ∧ ∀ w, Turn v w → r ≤ D u w
theorem Rp.uniq {u v : List α} {r r' : Nat} (h : Rp u v r) (h' : Rp u v r') : r = r' := by
  obtain ⟨⟨w, t, e⟩, k⟩ := h
  obtain ⟨⟨w', t', e'⟩, k'⟩ := h'
  have := k w' t'
  have := k' w t
  omega
theorem Rp.turns {u u' v v' : List α} {r : Nat} (h : Rp u v r) (hu : Turn u u') (hv : Turn v v') : Rp u' v' r := by
  obtain ⟨⟨w, t, e⟩, k⟩ := h
  have low : ∀ w', Turn v' w' → r ≤ D u' w' := fun w' t' => by
    obtain ⟨w2, t2, a2⟩ := cut hu (hv.trans t') (D_A u' w')
    exact Nat.le_trans (k w2 t2) (D_le a2)
  obtain ⟨w2, t2, a2⟩ := cut (v := v') hu.symm (hv.symm.trans t) (D_A u w)
  have := D_le a2
  have := low w2 t2
  exact ⟨⟨w2, t2, by omega⟩, low⟩
theorem Rp.symm {u v : List α} {r : Nat} (h : Rp u v r) : Rp v u r := by
  obtain ⟨⟨w, t, e⟩, k⟩ := h
  have low : ∀ w', Turn u w' → r ≤ D v w' := fun w' t' => by
    obtain ⟨w2, t2, a2⟩ := cut t' (Turn.refl v) (D_A v w').symm
    exact Nat.le_trans (k w2 t2) (D_le a2)
  obtain ⟨w2, t2, a2⟩ := cut (v := u) t (Turn.refl u) (D_A u w).symm
  have := D_le a2
  have := low w2 t2
  exact ⟨⟨w2, t2, by omega⟩, low⟩
theorem Rp.self {u w : List α} (h : Turn u w) : Rp u w 0 := ⟨⟨u, h.symm, D_self u⟩, fun _ _ => Nat.zero_le _⟩
theorem Rp.ge {u v : List α} {r : Nat} (h : Rp u v r) (n : Nat) : (n + 1) * r ≤ D (rounds (n + 1) u) (rounds (n + 1) v) :=
  rounds_ge (fun w c t a => Nat.le_trans (h.2 w t) (D_le a)) (blocks_of (D_A _ _))
theorem Rp.le {u v : List α} {r : Nat} (h : Rp u v r) (n : Nat) : D (rounds (n + 1) u) (rounds (n + 1) v) ≤ n * r + u.length + v.length := by
  obtain ⟨⟨w, t, rfl⟩, _⟩ := h
  obtain ⟨d, a, hd⟩ := rounds_le t (D_A u w) n
  exact Nat.le_trans (D_le a) hd
/-- the turns by their places -/
theorem turn_at {v w : List α} (h : Turn v w) : ∃ k, k < max 1 v.length ∧ w = v.drop k ++ v.take k := by
  obtain ⟨x, y, rfl, rfl⟩ := h
  by_cases e : y = []
  · subst e
    exact ⟨0, by omega, by simp⟩
  · have : 0 < y.length := List.length_pos_iff.mpr e
    exact ⟨x.length, by rw [List.length_append]; omega, by simp⟩
end
end Lev

set_option Elab.async false
set_option linter.all false
set_option maxHeartbeats 400000
namespace Lev
section
variable {α : Type} [DecidableEq α]
/-! ### turns by a number, and roots -/
def rot (k : Nat) (v : List α) : List α := v.drop k ++ v.take k
theorem rot_len (k : Nat) (v : List α) : (rot k v).length = v.length := by
  unfold rot; rw [List.length_append, List.length_drop, List.length_take]; omega
theorem rot_get {k : Nat} {v : List α} (hk : k ≤ v.length) {i : Nat} (hi : i < v.length) : (rot k v)[i]? = v[(i + k) % v.length]? := by
  unfold rot
  by_cases h : i < v.length - k
  · rw [List.getElem?_append_left (by rw [List.length_drop]; exact h), List.getElem?_drop, Nat.mod_eq_of_lt (by omega), Nat.add_comm]
  · rw [List.getElem?_append_right (by rw [List.length_drop]; omega), List.length_drop, List.getElem?_take, if_pos (by omega)]
    have e : i + k = (i - (v.length - k)) + v.length := by omega
    rw [e, Nat.add_mod_right, Nat.mod_eq_of_lt (by omega)]
/-- each letter is the one so many places on -/
def Pr (v u : List α) (s : Nat) : Prop := ∀ i, i < v.length → v[(i + s) % v.length]? = u[i]?
theorem rot_eq {k : Nat} {v u : List α} (hk : k ≤ v.length) (hl : u.length = v.length) : rot k v = u ↔ Pr v u k := by
  constructor
  · intro h i hi
    rw [← h, rot_get hk hi]
  · intro h
    apply List.ext_getElem?
    intro i
    by_cases hi : i < v.length
    · rw [rot_get hk hi]; exact h i hi
    · rw [List.getElem?_eq_none (by rw [rot_len]; omega), List.getElem?_eq_none (by omega)]
theorem Pr.zero (v : List α) : Pr v v 0 := fun i hi => by rw [Nat.add_zero, Nat.mod_eq_of_lt hi]
theorem Pr.whole (v : List α) : Pr v v v.length := fun i hi => by rw [Nat.add_mod_right, Nat.mod_eq_of_lt hi]
theorem Pr.add {v u : List α} {s t : Nat} (h : Pr v v s) (g : Pr v u t) : Pr v u (t + s) := fun i hi => by
  have e := h ((i + t) % v.length) (Nat.mod_lt _ (by omega))
  rw [Nat.mod_add_mod] at e
  rw [← Nat.add_assoc, e, g i hi]
theorem Pr.sub {v u : List α} {s t : Nat} (h : Pr v v s) (g : Pr v u (t + s)) : Pr v u t := fun i hi => by
  have e := h ((i + t) % v.length) (Nat.mod_lt _ (by omega))
  rw [Nat.mod_add_mod] at e
  rw [← e, Nat.add_assoc, g i hi]
theorem Pr.mul {v : List α} {s : Nat} (h : Pr v v s) : ∀ q, Pr v v (q * s)
  | 0 => by rw [Nat.zero_mul]; exact Pr.zero v
  | q + 1 => by rw [Nat.succ_mul]; exact h.add (Pr.mul h q)
theorem Pr.mod {v u : List α} {s t : Nat} (h : Pr v v s) (g : Pr v u t) : Pr v u (t % s) := by
  refine Pr.sub (h.mul (t / s)) ?_
  rw [Nat.mul_comm, Nat.mod_add_div]; exact g
theorem Pr.diff {v u : List α} {s t : Nat} (h : Pr v u s) (g : Pr v u (t + s)) : Pr v v t := fun i hi => by
  -- the letters i + t and i are both read by u
  have hv : 0 < v.length := by omega
  -- choose j with j + s ≡ i
  have key : ∃ j, j < v.length ∧ (j + s) % v.length = i := by
    refine ⟨(i + (v.length - s % v.length)) % v.length, Nat.mod_lt _ hv, ?_⟩
    rw [Nat.mod_add_mod]
    have hs := Nat.mod_lt s hv
    have e : i + (v.length - s % v.length) + s = i + v.length * (s / v.length + 1) := by
      have := Nat.mod_add_div s v.length
      rw [Nat.mul_add, Nat.mul_one]
      generalize v.length * (s / v.length) = z at *
      omega
    rw [e, Nat.add_mul_mod_self_left, Nat.mod_eq_of_lt hi]
  obtain ⟨j, hj, ej⟩ := key
  have e1 := h j hj
  have e2 := g j hj
  rw [ej] at e1
  have e3 : (j + (t + s)) % v.length = (i + t) % v.length := by
    rw [show j + (t + s) = (j + s) + t by omega, ← Nat.mod_add_mod, ej]
  rw [e3] at e2
  rw [e2, e1]
instance (v u : List α) (s : Nat) : Decidable (Pr v u s) := by unfold Pr; infer_instance
/-- the length of the root -/
def rho (v : List α) : Nat := ((List.range v.length).find? fun s => decide (Pr v v (s + 1))).elim 0 (· + 1)
theorem rho_nil : rho ([] : List α) = 0 := rfl
theorem find_range {n : Nat} {p : Nat → Bool} {s : Nat} (h : (List.range n).find? p = some s) : s < n ∧ p s = true ∧ ∀ t, t < s → p t = false := by
  have e := List.find?_eq_some_iff_getElem.mp h
  obtain ⟨h1, i, hi, h2, h3⟩ := e
  rw [List.length_range] at hi
  rw [List.getElem_range] at h2
  subst h2
  exact ⟨hi, h1, fun t ht => by have := h3 t ht; rw [List.getElem_range] at this; simpa using this⟩
theorem rho_spec {v : List α} (hv : v ≠ []) : 0 < rho v ∧ rho v ≤ v.length ∧ Pr v v (rho v) ∧ ∀ t, 0 < t → t < rho v → ¬ Pr v v t := by
  have hl : 0 < v.length := List.length_pos_iff.mpr hv
  unfold rho
  cases h : (List.range v.length).find? fun s => decide (Pr v v (s + 1)) with
  | none =>
    have := List.find?_eq_none.mp h (v.length - 1) (List.mem_range.mpr (by omega))
    rw [show v.length - 1 + 1 = v.length by omega] at this
    exact absurd (decide_eq_true (Pr.whole v)) this
  | some s =>
    obtain ⟨h1, h2, h3⟩ := find_range h
    refine ⟨Nat.succ_pos _, h1, of_decide_eq_true h2, fun t t0 t1 => ?_⟩
    have := h3 (t - 1) (by have : t < s + 1 := t1; omega)
    rw [show t - 1 + 1 = t by omega] at this
    exact of_decide_eq_false this
theorem rho_le (v : List α) : rho v ≤ v.length := by
  by_cases h : v = []
  · subst h; exact Nat.le_refl _
  · exact (rho_spec h).2.1
theorem rho_least {v : List α} (hv : v ≠ []) {t : Nat} (t0 : 0 < t) (h : Pr v v t) : rho v ≤ t := by
  obtain ⟨_, _, _, k⟩ := rho_spec hv
  rcases Nat.lt_or_ge t (rho v) with q | q
  · exact absurd h (k t t0 q)
  · exact q
theorem rho_eq {v : List α} (hv : v ≠ []) {s : Nat} (s0 : 0 < s) (h : Pr v v s) (k : ∀ t, 0 < t → t < s → ¬ Pr v v t) : rho v = s := by
  refine Nat.le_antisymm (rho_least hv s0 h) ?_
  obtain ⟨a, _, c, _⟩ := rho_spec hv
  rcases Nat.lt_or_ge (rho v) s with q | q
  · exact absurd c (k _ a q)
  · exact q
theorem rho_dvd {v : List α} (hv : v ≠ []) {t : Nat} (h : Pr v v t) : t % rho v = 0 := by
  obtain ⟨a, _, c, k⟩ := rho_spec hv
  rcases Nat.eq_zero_or_pos (t % rho v) with q | q
  · exact q
  · exact absurd (Pr.mod c h) (k _ q (Nat.mod_lt _ a))
/-- the rounds of a piece -/
theorem rounds_Pr {w : List α} (hw : w ≠ []) (k : Nat) (s : Nat) : Pr (rounds (k + 1) w) (rounds (k + 1) w) s ↔ Pr w w s := by
  have hm : 0 < w.length := List.length_pos_iff.mpr hw
  have hl : (rounds (k + 1) w).length = (k + 1) * w.length := rounds_len _ _
  have get : ∀ i, (rounds (k + 1) w)[i % ((k + 1) * w.length)]? = w[i % w.length]? := fun i => by
    rw [rounds_get _ _ (Nat.mod_lt _ (Nat.mul_pos (Nat.succ_pos _) hm)), Nat.mod_mod_of_dvd _ (Nat.dvd_mul_left _ _)]
  constructor
  · intro h i hi
    have e := h i (by rw [hl, Nat.succ_mul]; omega)
    rw [hl, get] at e
    have e2 := get i
    rw [Nat.mod_eq_of_lt (by rw [Nat.succ_mul]; omega), Nat.mod_eq_of_lt hi] at e2
    rw [e, e2]
  · intro h i hi
    rw [hl] at hi
    rw [hl, get]
    have e2 := get i
    rw [Nat.mod_eq_of_lt hi] at e2
    rw [e2]
    have := h (i % w.length) (Nat.mod_lt _ hm)
    rw [Nat.mod_add_mod] at this
    exact this
theorem rounds_ne {w : List α} (hw : w ≠ []) (k : Nat) : rounds (k + 1) w ≠ [] := by
  intro h
  have := congrArg List.length h
  rw [rounds_len, Nat.succ_mul, List.length_nil] at this
  have := List.length_pos_iff.mpr hw
  omega
theorem rho_rounds {w : List α} (hw : w ≠ []) (k : Nat) : rho (rounds (k + 1) w) = rho w := by
  obtain ⟨a, _, c, d⟩ := rho_spec hw
  exact rho_eq (rounds_ne hw k) a ((rounds_Pr hw k _).mpr c) fun t t0 t1 h => d t t0 t1 ((rounds_Pr hw k _).mp h)
theorem rho_ext {v w : List α} (h : ∀ s, Pr v v s ↔ Pr w w s) (hv : v ≠ []) (hw : w ≠ []) : rho v = rho w := by
  obtain ⟨a, _, c, d⟩ := rho_spec hw
  exact rho_eq hv a ((h _).mpr c) fun t t0 t1 q => d t t0 t1 ((h _).mp q)
/-- a text is the rounds of a beginning of s letters exactly if s divides and it is periodic -/
theorem rounds_iff {v : List α} {s : Nat} (s0 : 0 < s) (hs : s ≤ v.length) : (v.length % s = 0 ∧ rounds (v.length / s) (v.take s) = v) ↔ (v.length % s = 0 ∧ Pr v v s) := by
  have lt : (v.take s).length = s := by rw [List.length_take]; omega
  constructor
  · rintro ⟨h1, h2⟩
    refine ⟨h1, ?_⟩
    have hq : 0 < v.length / s := Nat.div_pos hs s0
    obtain ⟨k, hk⟩ : ∃ k, v.length / s = k + 1 := ⟨v.length / s - 1, by omega⟩
    rw [hk] at h2
    have hw : v.take s ≠ [] := by intro z; rw [z] at lt; simp at lt; omega
    have := (rounds_Pr hw k s).mpr (by have := Pr.whole (v.take s); rw [lt] at this; exact this)
    rw [h2] at this
    exact this
  · rintro ⟨h1, h2⟩
    refine ⟨h1, ?_⟩
    have hd : v.length / s * s = v.length := Nat.div_mul_cancel (Nat.dvd_of_mod_eq_zero h1)
    apply List.ext_getElem?
    intro i
    by_cases hi : i < v.length
    · rw [rounds_get _ _ (by rw [lt, hd]; exact hi), lt, List.getElem?_take, if_pos (Nat.mod_lt _ s0)]
      have e := h2.mul (i / s) (i % s) (Nat.lt_of_lt_of_le (Nat.mod_lt _ s0) hs)
      rw [Nat.mul_comm, Nat.mod_add_div, Nat.mod_eq_of_lt hi] at e
      exact e.symm
    · rw [List.getElem?_eq_none (by rw [rounds_len, lt, hd]; omega), List.getElem?_eq_none (by omega)]
theorem rho_rounds_of {v : List α} (hv : v ≠ []) : v.length % rho v = 0 ∧ rounds (v.length / rho v) (v.take (rho v)) = v := by
  obtain ⟨a, b, c, _⟩ := rho_spec hv
  exact (rounds_iff a b).mpr ⟨rho_dvd hv (Pr.whole v), c⟩
def root (v : List α) : List α := v.take (rho v)
theorem root_nil : root ([] : List α) = [] := rfl
theorem root_len (v : List α) : (root v).length = rho v := by unfold root; rw [List.length_take]; have := rho_le v; omega
theorem root_ne {v : List α} (hv : v ≠ []) : root v ≠ [] := by
  intro h
  have := congrArg List.length h
  rw [root_len] at this
  have := (rho_spec hv).1
  simp at *; omega
theorem root_rounds {w : List α} (hw : w ≠ []) (k : Nat) : root (rounds (k + 1) w) = root w := by
  unfold root
  rw [rho_rounds hw]
  show (w ++ rounds k w).take (rho w) = _
  rw [List.take_append_of_le_length (rho_le w)]
theorem root_of {v : List α} (hv : v ≠ []) : ∃ k, v = rounds (k + 1) (root v) := by
  obtain ⟨h1, h2⟩ := rho_rounds_of hv
  have hq : 0 < v.length / rho v := Nat.div_pos (rho_le v) (rho_spec hv).1
  exact ⟨v.length / rho v - 1, by rw [show v.length / rho v - 1 + 1 = v.length / rho v by omega]; exact h2.symm⟩
theorem rounds_addR (v : List α) (n : Nat) : ∀ k, rounds (k + n) v = rounds k v ++ rounds n v
  | 0 => by rw [Nat.zero_add]; rfl
  | k + 1 => by
    rw [Nat.add_right_comm]
    show v ++ rounds (k + n) v = (v ++ rounds k v) ++ rounds n v
    rw [rounds_addR v n k, List.append_assoc]
/-- texts that commute are rounds of one text -/
theorem commute {N : Nat} : ∀ {x y : List α}, x.length + y.length ≤ N → x ≠ [] → y ≠ [] → x ++ y = y ++ x → ∃ z a b, z ≠ [] ∧ x = rounds (a + 1) z ∧ y = rounds (b + 1) z := by
  induction N with
  | zero => intro x y h hx _ _; exact absurd (List.length_eq_zero_iff.mp (by omega)) hx
  | succ N ih =>
    intro x y h hx hy e
    have px := List.length_pos_iff.mpr hx
    have py := List.length_pos_iff.mpr hy
    have one : ∀ {x y : List α}, x.length + y.length ≤ N + 1 → x ≠ [] → y ≠ [] → x ++ y = y ++ x → x.length < y.length → ∃ z a b, z ≠ [] ∧ x = rounds (a + 1) z ∧ y = rounds (b + 1) z := by
      intro x y h hx hy e l
      have px := List.length_pos_iff.mpr hx
      have hp : y = x ++ y.drop x.length := by
        have := congrArg (List.take x.length) e
        rw [List.take_left', List.take_append_of_le_length (by omega)] at this
        · conv => lhs; rw [← List.take_append_drop x.length y]
          rw [← this]
        · rfl
      generalize hy' : y.drop x.length = y' at hp
      have ly : y'.length = y.length - x.length := by rw [← hy', List.length_drop]
      rw [hp] at e
      have e2 : x ++ y' = y' ++ x := by
        rw [List.append_assoc] at e
        exact List.append_cancel_left e
      have hy2 : y' ≠ [] := by intro z; rw [z] at ly; simp at ly; omega
      obtain ⟨z, a, b, hz, e3, e4⟩ := ih (by omega) hx hy2 e2
      refine ⟨z, a, a + 1 + b, hz, e3, ?_⟩
      rw [hp, show a + 1 + b + 1 = (a + 1) + (b + 1) by omega, rounds_addR, ← e3, ← e4]
    rcases Nat.lt_trichotomy x.length y.length with l | l | l
    · exact one h hx hy e l
    · have : x = y := by
        have := congrArg (List.take x.length) e
        rw [List.take_left' rfl, List.take_left' l.symm] at this
        exact this
      subst this
      exact ⟨x, 0, 0, hx, by simp [rounds], by simp [rounds]⟩
    · obtain ⟨z, a, b, hz, e1, e2⟩ := one (by omega) hy hx e.symm l
      exact ⟨z, b, a, hz, e2, e1⟩
theorem root_commute {x y : List α} (hx : x ≠ []) (hy : y ≠ []) : root x = root y ↔ x ++ y = y ++ x := by
  constructor
  · intro h
    obtain ⟨a, ea⟩ := root_of hx
    obtain ⟨b, eb⟩ := root_of hy
    rw [← h] at eb
    rw [ea, eb, ← rounds_addR, ← rounds_addR, Nat.add_comm]
  · intro h
    obtain ⟨z, a, b, hz, e1, e2⟩ := commute (Nat.le_refl _) hx hy h
    rw [e1, e2, root_rounds hz, root_rounds hz]
end
end Lev

set_option Elab.async false
set_option linter.all false
set_option maxRecDepth 100000
set_option maxHeartbeats 4000000
/-! What the laws share: the box of draws, what stands, texts of small letters, what is shown. -/
namespace My
open PySem PySem.Spec PyProof.Rows L2
/-! ### the law's box of draws -/
def BoxO (n : Nat) (o : HO) : Prop := ∃ (a m c : Int) (b : Bool), o = .lst [.int a, .bl b, .int m, .int c] ∧ 0 ≤ m ∧ m < 2147483648 ∧ 0 ≤ c ∧ c ≤ n
def BoxAt (H : Hp) (p : Addr) (n : Nat) : Prop := ∃ o, H p = some o ∧ BoxO n o
theorem BoxAt.mono {H : Hp} {p : Addr} {n m : Nat} (h : BoxAt H p n) (l : n ≤ m) : BoxAt H p m := by
  obtain ⟨o, e, a, m', c, b, e2, h1, h2, h3, h4⟩ := h
  exact ⟨o, e, a, m', c, b, e2, h1, h2, h3, by omega⟩
/-- all but the box stands -/
def Kp (p : Addr) (H H' : Hp) : Prop := ∀ b o, b ≠ p → H b = some o → H' b = some o
theorem Kp.refl (p : Addr) (H : Hp) : Kp p H H := fun _ _ _ e => e
theorem Kp.trans {p : Addr} {H H1 H2 : Hp} (a : Kp p H H1) (b : Kp p H1 H2) : Kp p H H2 := fun c o n e => b c o n (a c o n e)
theorem Kp.of {p : Addr} {H H' : Hp} (s : Same H H') : Kp p H H' := fun b o _ e => s b o e
theorem Kp.new {p q : Addr} {H H' : Hp} {o : HO} (k : Kp p H H') (h : H' q = none) : Kp p H (upd H' q o) := fun b ob n e => by
  have := k b ob n e
  rw [upd_ne (ne_of_none this h)]; exact this
theorem BoxAt.new {p q : Addr} {H : Hp} {o : HO} {n : Nat} (h : BoxAt H p n) (hq : H q = none) : BoxAt (upd H q o) p n := by
  obtain ⟨ob, e, r⟩ := h
  exact ⟨ob, by rw [upd_ne (ne_of_none e hq)]; exact e, r⟩
theorem BoxAt.same {p : Addr} {H H' : Hp} {n : Nat} (h : BoxAt H p n) (s : Same H H') : BoxAt H' p n := by
  obtain ⟨ob, e, r⟩ := h
  exact ⟨ob, s _ _ e, r⟩
theorem Same.new {q : Addr} {H H' : Hp} {o : HO} (k : Same H H') (h : H' q = none) : Same H (upd H' q o) := fun b ob e => by
  have := k b ob e
  rw [upd_ne (ne_of_none this h)]; exact this
theorem cutV_to (xs : List V) (n : Nat) : cutV xs none (some (n : Int)) = xs.take n := by
  unfold cutV
  rw [HT.sIx_none, sIx_some, List.drop_zero, Nat.sub_zero]
  rcases Nat.le_total n xs.length with h | h
  · rw [Nat.min_eq_left h]
  · rw [Nat.min_eq_right h, List.take_of_length_le h, List.take_of_length_le (Nat.le_refl _)]
theorem Kp.upd {p : Addr} {H H' : Hp} {o : HO} (k : Kp p H H') : Kp p H (upd H' p o) := fun b ob n e => by
  rw [upd_ne n]; exact k b ob n e
theorem BoxO.at {H : Hp} {p : Addr} {n : Nat} {o : HO} (h : BoxO n o) : BoxAt (upd H p o) p n := ⟨o, upd_same, h⟩
def isT (z : Str) : Bool := (cs z).all low
def Big (u : List Nat) : Prop := u.length ≤ 100000
theorem Big.fits {u : List Nat} (h : Big u) : (S u).length ≤ sizeLine := by rw [S_len]; exact Nat.le_trans h (by decide)
theorem Big.lt {n : Nat} (h : n ≤ 100000) : n < sizeLine := Nat.lt_of_le_of_lt h (by decide)
theorem Big.dbl {u : List Nat} (h : Big u) : (S u).length + (S u).length ≤ sizeLine := by
  rw [S_len]
  have : u.length ≤ 100000 := h
  exact Nat.le_trans (by omega) (by decide : 200000 ≤ sizeLine)
theorem Big.two {a : Nat} {t : List Nat} (h : Big t) : (S (t.drop a)).length + (S (t.take a)).length ≤ sizeLine := by
  rw [S_len, S_len]
  have : t.length ≤ 100000 := h
  exact Nat.le_trans (by rw [List.length_drop, List.length_take]; omega) (by decide : 200000 ≤ sizeLine)
theorem tYesT {σ : L2.St} {H : Hp} {A B : Hp → Prop} (h : A H) : tYes σ H (fun b H3 => if b = true then A H3 else B H3) := by
  show (if true = true then A H else B H)
  rw [if_pos rfl]; exact h
theorem ixN_nat {n j : Nat} (h : j < n) : ixN n (j : Int) = some j := by
  unfold ixN
  rw [if_pos (by omega), if_pos (by omega), Int.toNat_natCast]
theorem ix_listK {X : Cx} {K : PySem.W.Frag} (e : X.K = K) : IxR X (rIxL K) := by rw [← e]; exact ix_list
/-! ### rounds as a product -/
theorem foldl_rep (x : Array Nat) : ∀ (n : Nat) (b : Array Nat), (List.replicate n x).foldl (· ++ ·) b = b ++ (Lev.rounds n x.toList).toArray
  | 0, b => by simp [Lev.rounds]
  | n + 1, b => by
    rw [List.replicate_succ, List.foldl_cons, foldl_rep x n]
    simp [Lev.rounds]
    obtain ⟨x⟩ := x
    simp
theorem rounds_nil : ∀ n, Lev.rounds n ([] : List Nat) = []
  | 0 => rfl
  | n + 1 => by simp [Lev.rounds, rounds_nil n]
theorem mul_S (x : List Nat) (n : Nat) : Txt.mul (S x) (n : Int) = S (Lev.rounds n x) := by
  unfold Txt.mul
  by_cases h : n = 0
  · subst h; rfl
  · rw [if_neg (by omega)]
    by_cases h1 : ((n : Int) == 1 || (S x).length == 0) = true
    · rw [if_pos h1]
      simp only [Bool.or_eq_true, beq_iff_eq] at h1
      rcases h1 with e | e
      · have : n = 1 := by omega
        subst this
        simp [Lev.rounds]
      · rw [S_len] at e
        have : x = [] := List.eq_nil_of_length_eq_zero e
        subst this
        rw [rounds_nil]
    · rw [if_neg h1, Int.toNat_natCast, foldl_rep]
      simp [S]
theorem mulOk_S {x : List Nat} {n : Nat} (hx : x.length ≤ 1000) (hn : n ≤ 1000) : MulOk (S x) (n : Int) := by
  refine ⟨?_, fun _ _ => ?_, fun _ _ => ?_⟩
  · simp only [Bool.or_eq_false_iff, decide_eq_false_iff_not]; omega
  · rw [S_len]
    rcases Nat.eq_zero_or_pos n with e | e
    · subst e; contradiction
    · have : ((2 : Int) ^ 63 - 1) / n ≥ ((2 : Int) ^ 63 - 1) / 1000 := by
        have h1 : (2 ^ 63 - 1 : Int) / 1000 * n ≤ 2 ^ 63 - 1 := by omega
        exact Int.le_ediv_of_mul_le (by omega) h1
      omega
  · rw [S_len, Int.toNat_natCast]
    have : x.length * n ≤ 1000 * 1000 := Nat.mul_le_mul hx hn
    show decide (x.length * n > sizeLine) = false
    rw [decide_eq_false_iff_not]
    exact Nat.not_lt.mpr (Nat.le_trans this (by decide))
/-! ### letters -/
def Low (t : List Nat) : Prop := ∀ c ∈ t, low c = true
theorem Low.isT {t : List Nat} (h : Low t) : isT (S t) = true := by
  unfold My.isT
  rw [S_tl]
  exact List.all_eq_true.mpr h
theorem Low.append {t u : List Nat} (h : Low t) (g : Low u) : Low (t ++ u) := fun c hc => by
  rcases List.mem_append.mp hc with q | q
  · exact h c q
  · exact g c q
theorem Low.take {t : List Nat} (h : Low t) (n : Nat) : Low (t.take n) := fun c hc => h c (List.mem_of_mem_take hc)
theorem Low.drop {t : List Nat} (h : Low t) (n : Nat) : Low (t.drop n) := fun c hc => h c (List.mem_of_mem_drop hc)
theorem Low.nil : Low [] := fun c hc => by cases hc
theorem Low.one {c : Nat} (h : low c = true) : Low [c] := fun d hd => by rw [List.mem_singleton.mp hd]; exact h
theorem Kp.free {p D : Addr} {H H' : Hp} {o : HO} (k : Kp p H H') (h : H D = none) : Kp p H (L2.upd H' D o) := fun b ob n e => by
  rw [upd_ne (ne_of_none e h)]; exact k b ob n e
theorem BoxAt.other {p q : Addr} {H : Hp} {o : HO} {n : Nat} (h : BoxAt H p n) (hq : p ≠ q) : BoxAt (upd H q o) p n := by
  obtain ⟨ob, e, r⟩ := h
  exact ⟨ob, by rw [upd_ne hq]; exact e, r⟩
theorem BoxAt.ne {p q : Addr} {H : Hp} {n : Nat} (h : BoxAt H p n) (hq : H q = none) : p ≠ q := by
  obtain ⟨ob, e, r⟩ := h
  exact ne_of_none e hq
theorem ones_sum (t : List Nat) : (List.map ((fun x : Str => x.length) ∘ fun c => S [c]) t).sum = t.length := by
  induction t with
  | nil => rfl
  | cons c r ih => rw [List.map_cons, List.sum_cons, ih, List.length_cons]; show 1 + _ = _; omega
theorem alpha_at {d : Nat} (h : d < 26) : atI (Str.ofString "abcdefghijklmnopqrstuvwxyz").cps.toList (d : Int) = some (97 + d) := by
  have e : (Str.ofString "abcdefghijklmnopqrstuvwxyz").cps.toList = (List.range 26).map (97 + ·) := by decide +kernel
  rw [e]
  exact atI_nat (by rw [List.getElem?_map, List.getElem?_range h]; rfl)
theorem low_alpha {d : Nat} (h : d < 26) : low (97 + d) = true := by
  unfold low; simp; omega
theorem join_ones (t : List Nat) : Txt.join (Str.ofString "") (t.map fun c => S [c]) = S t := by
  rw [TL.join_eq]
  have e : cs (Str.join (Str.ofString "") (t.map fun c => S [c])) = t := by
    rw [show cs (Str.join (Str.ofString "") (t.map fun c => S [c])) = TL.tl (Str.join (Str.ofString "") (t.map fun c => S [c])) from rfl, TL.tl_join, List.map_map]
    have go : ∀ t : List Nat, TL.joinL [] (t.map fun c => [c]) = t := by
      intro t
      induction t with
      | nil => rfl
      | cons c r ih =>
        cases r with
        | nil => rfl
        | cons d r => show [c] ++ ([] ++ TL.joinL [] ((d :: r).map fun c => [c])) = _; rw [ih]; rfl
    exact go t
  rw [← S_of (Str.join _ _), e]
/-- whether a value is a text, as is_text says -/
def Jd (K : PySem.W.Frag) (H : Hp) (x : V) (b : Bool) : Prop := (∃ z, x = .str z ∧ b = isT z) ∨ ∃ t, TyX K H x (.type t) ∧ kitB t "str" = some false ∧ b = false
/-- an error of class C, made of x -/
def Bad (C : Addr) (H : Hp) (x : V) (E : XK) : Prop := ∀ d H', Same H H' → H d = none → H' d = some (.xd (gvn x)) → E (.ref C) (some d) H'
theorem tyOf_same {K : PySem.W.Frag} {H H' : Hp} {x : V} {t : Value} (h : TyOf K H x t) (s : Same H H') : TyOf K H' x t := by
  cases h
  case non => exact .non
  case bl => exact .bl _
  case int => exact .int _
  case str => exact .str _
  case flt => exact .flt _
  case lst e => exact .lst (s _ _ e)
  case frz e => exact .frz (s _ _ e)
  case tup e => exact .tup (s _ _ e)
  case dK e => exact .dK (s _ _ e)
  case dT e => exact .dT (s _ _ e)
  case ins e cl ha hn htk hm => exact .ins (s _ _ e) cl ha hn htk hm
theorem tyX_same {K : PySem.W.Frag} {H H' : Hp} {x : V} {t : Value} (h : TyX K H x t) (s : Same H H') : TyX K H' x t := by
  cases h
  case base e => exact .base (tyOf_same e s)
  case byt => exact .byt _
  case set e => exact .set (s _ _ e)
  case kList e c => exact .kList e c
  case kTuple e c => exact .kTuple e c
  case kDict e c => exact .kDict e c
  case fTuple e => exact .fTuple (s _ _ e)
  case fDict e => exact .fDict (s _ _ e)
theorem Jd.same {K : PySem.W.Frag} {H H' : Hp} {x : V} {b : Bool} (h : Jd K H x b) (s : Same H H') : Jd K H' x b := by
  rcases h with h | ⟨t, h1, h2, h3⟩
  · exact .inl h
  · exact .inr ⟨t, tyX_same h1 s, h2, h3⟩
/-! ### what can be shown -/
def Sh (d : PyData) : Prop := d.showable = true ∧ d.depth ≤ 60 ∧ d.shown.length ≤ sizeLine
theorem sh_of {d : PyData} (h1 : d.showable = true) (h2 : d.depth ≤ 60) (h3 : d.leavesShort 40 = true) (h4 : d.weight ≤ 100000) : Sh d := by
  refine ⟨h1, h2, ?_⟩
  have e := PyData.shown_le 40 (by omega) d h3
  exact Nat.le_trans e (Nat.le_trans (by omega : (40 + 2) * d.weight + 40 ≤ 4200040) (by decide))
theorem log2_20 {r : Nat} (h : r < 1048576) : r.log2 < 20 := PySem.Flt.log2_lt_of (by decide) h
theorem short_int {r : Nat} (h : r < 1048576) : (PyData.int r).leavesShort 40 = true := by
  have e := int_text_length_le (a := (r : Int)) (k := 20) (by decide) (log2_20 h)
  have e2 : (PyData.int (r : Int)).shown = Str.ofString (toString (r : Int)) := by simp only [PyData.shown]
  unfold PyData.leavesShort
  refine decide_eq_true ?_
  rw [e2, PySem.ofString_length]
  omega
theorem show_int {r : Nat} (h : r < 1048576) : (PyData.int r).showable = true := by
  simp only [PyData.showable, decide_eq_true_eq]
  exact Nat.lt_trans (log2_20 h) (by decide)
theorem weight_int {r : Nat} (h : r < 1048576) : (PyData.int r).weight ≤ 21 := by
  simp only [PyData.weight]
  have := log2_20 h
  split
  · omega
  · show (r : Int).natAbs.log2 + 1 ≤ 21
    rw [Int.natAbs_natCast]; omega
theorem un64 {k : Nat} {A : Around} (hr : Room k A) : A.units + 64 < cLine := by have := hr.un; omega
theorem neSame {z : Str} {A B : Prop} (h : B) : if (!decide (V.str z = V.str z)) = true then A else B := by
  rw [decide_eq_true rfl]; exact iteF h
theorem jd_low {K : PySem.W.Frag} {H : Hp} {t : List Nat} (h : Low t) : Jd K H (.str (S t)) true := .inl ⟨_, rfl, h.isT.symm⟩
theorem eqT {i : Int} {A B : Prop} (h : A) : if decide (V.int i = V.int i) = true then A else B := by
  rw [decide_eq_true rfl]; exact iteT h
theorem eqF {i j : Int} {A B : Prop} (n : i ≠ j) (h : B) : if decide (V.int i = V.int j) = true then A else B := by
  rw [decide_eq_false (fun z => n (V.int.inj z))]; exact iteF h
theorem through2 {t : TE} {σ : L2.St} {H : Hp} {Q : VK} (R : V → Hp → Prop) (h : ∀ Q' : VK, (∀ v H', R v H' → Q' v H') → t σ H Q') (rest : ∀ v H', R v H' → Q v H') : t σ H Q := h Q rest
theorem eqS {z : Str} {A B : Prop} (h : A) : if decide (V.str z = V.str z) = true then A else B := by
  rw [decide_eq_true rfl]; exact iteT h
theorem dp_same {K : PySem.W.Frag} {H H' : Hp} (s : Same H H') {x : V} {d : PyData} (h : Dp K H x d) : Dp K H' x d :=
  Dp.rec (motive_1 := fun x d _ => Dp K H' x d) (motive_2 := fun xs ds _ => DpAll K H' xs ds) .non (fun _ => .bl _) (fun _ => .int _) (fun _ => .str _)
    (fun hs _ ih => .lst (hs.ext s) ih) (fun hs _ ih => .tup (hs.elim (fun h => .inl (h.elim (fun h => .inl (s _ _ h)) fun ⟨o, h⟩ => .inr ⟨o, s _ _ h⟩)) fun h => .inr h) ih) .nil (fun _ _ i1 i2 => .cons i1 i2) h
theorem Ds.same {K : PySem.W.Frag} {H H' : Hp} (s : Same H H') {x : V} {d : PyData} (h : Ds K H x d) : Ds K H' x d := by
  rcases h with h | ⟨a, kvs, ds, e, ea, r⟩
  · exact .inl (dp_same s h)
  · exact .inr ⟨a, kvs, ds, e, s _ _ ea, r⟩
theorem Kp.toSame {p : Addr} {H H1 H2 : Hp} (k : Kp p H1 H2) (s : Same H H1) (h : H p = none) : Same H H2 := fun b o e => k b o (ne_of_none e h) (s b o e)
theorem sh_str {z : List Nat} (h : z.length ≤ 1000) (hc : ∀ c ∈ z, c < 200) : Sh (.str (S z)) := by
  refine sh_of (by simp only [PyData.showable]) (by simp only [PyData.depth]; omega) ?_ ?_
  · unfold PyData.leavesShort
    rw [List.all_eq_true]
    intro c hcm
    have : c ∈ z := by rw [← S_tl z]; exact hcm
    have := hc c this
    exact decide_eq_true (by omega)
  · unfold PyData.weight
    show (S z).length ≤ 100000
    rw [S_len]; omega
/-! ### data that is small enough to be shown -/
structure Fit (x : PyData) (k w : Nat) : Prop where
  s : x.showable = true
  d : x.depth ≤ k
  l : x.leavesShort 40 = true
  w : x.weight ≤ w
structure FitAll (ds : List PyData) (k w : Nat) : Prop where
  s : PyData.showableAll ds = true
  d : PyData.depthAll ds ≤ k
  l : PyData.leavesShortAll 40 ds = true
  w : PyData.weightAll ds ≤ w
structure FitKv (ds : List (PyData × PyData)) (k w : Nat) : Prop where
  s : PyData.showableKv ds = true
  d : PyData.depthKv ds ≤ k
  l : PyData.leavesShortKv 40 ds = true
  w : PyData.weightKv ds ≤ w
theorem Fit.sh {d : PyData} {k w : Nat} (h : Fit d k w) (hk : k ≤ 60) (hw : w ≤ 100000) : Sh d := sh_of h.s (Nat.le_trans h.d hk) h.l (Nat.le_trans h.w hw)
theorem Fit.mono {d : PyData} {k w k' w' : Nat} (h : Fit d k w) (hk : k ≤ k') (hw : w ≤ w') : Fit d k' w' := ⟨h.s, Nat.le_trans h.d hk, h.l, Nat.le_trans h.w hw⟩
theorem FitAll.mono {d : List PyData} {k w k' w' : Nat} (h : FitAll d k w) (hk : k ≤ k') (hw : w ≤ w') : FitAll d k' w' := ⟨h.s, Nat.le_trans h.d hk, h.l, Nat.le_trans h.w hw⟩
theorem FitAll.nil {k : Nat} : FitAll [] k 0 := ⟨rfl, Nat.zero_le _, rfl, Nat.le_refl _⟩
theorem FitAll.cons {d : PyData} {ds : List PyData} {k w1 w2 : Nat} (h : Fit d k w1) (t : FitAll ds k w2) : FitAll (d :: ds) k (w1 + 1 + w2) := by
  refine ⟨?_, ?_, ?_, ?_⟩
  · unfold PyData.showableAll; rw [h.s, t.s]; rfl
  · unfold PyData.depthAll; have := h.d; have := t.d; omega
  · unfold PyData.leavesShortAll; rw [h.l, t.l]; rfl
  · unfold PyData.weightAll; have := h.w; have := t.w; omega
theorem Fit.list {ds : List PyData} {k w : Nat} (t : FitAll ds k w) : Fit (.list ds) (k + 1) w := by
  refine ⟨?_, ?_, ?_, ?_⟩
  · unfold PyData.showable; exact t.s
  · unfold PyData.depth; have := t.d; omega
  · unfold PyData.leavesShort; exact t.l
  · unfold PyData.weight; exact t.w
theorem Fit.tuple {ds : List PyData} {k w : Nat} (t : FitAll ds k w) : Fit (.tuple ds) (k + 1) w := by
  refine ⟨?_, ?_, ?_, ?_⟩
  · unfold PyData.showable; exact t.s
  · unfold PyData.depth; have := t.d; omega
  · unfold PyData.leavesShort; exact t.l
  · unfold PyData.weight; exact t.w
theorem Fit.none {k : Nat} : Fit .none k 0 := ⟨by unfold PyData.showable; rfl, by unfold PyData.depth; omega, by decide +kernel, by unfold PyData.weight; exact Nat.le_refl _⟩
theorem Fit.bool {b : Bool} {k : Nat} : Fit (.bool b) k 0 := ⟨by unfold PyData.showable; rfl, by unfold PyData.depth; omega, by cases b <;> decide +kernel, by unfold PyData.weight; exact Nat.le_refl _⟩
theorem Fit.nat {r k : Nat} (h : r < 1048576) : Fit (.int r) k 21 := ⟨show_int h, by unfold PyData.depth; omega, short_int h, weight_int h⟩
theorem Fit.str {z : List Nat} {k w : Nat} (h : z.length ≤ w) (hc : ∀ c ∈ z, c < 200) : Fit (.str (S z)) k w := by
  refine ⟨by unfold PyData.showable; rfl, by unfold PyData.depth; omega, ?_, ?_⟩
  · unfold PyData.leavesShort
    rw [List.all_eq_true]
    intro c hcm
    have : c ∈ z := by rw [← S_tl z]; exact hcm
    have := hc c this
    exact decide_eq_true (by omega)
  · unfold PyData.weight
    show (S z).length ≤ w
    rw [S_len]; exact h
theorem FitKv.nil {k : Nat} : FitKv [] k 0 := ⟨rfl, Nat.zero_le _, rfl, Nat.le_refl _⟩
theorem FitKv.cons {a b : PyData} {ds : List (PyData × PyData)} {k w1 w2 w3 : Nat} (h : Fit a k w1) (g : Fit b k w2) (t : FitKv ds k w3) : FitKv ((a, b) :: ds) k (w1 + w2 + 2 + w3) := by
  refine ⟨?_, ?_, ?_, ?_⟩
  · unfold PyData.showableKv; rw [h.s, g.s, t.s]; rfl
  · unfold PyData.depthKv; have := h.d; have := g.d; have := t.d; omega
  · unfold PyData.leavesShortKv; rw [h.l, g.l, t.l]; rfl
  · unfold PyData.weightKv; have := h.w; have := g.w; have := t.w; omega
theorem Fit.dict {ds : List (PyData × PyData)} {k w : Nat} (t : FitKv ds k w) : Fit (.dict ds) (k + 1) w := by
  refine ⟨?_, ?_, ?_, ?_⟩
  · unfold PyData.showable; exact t.s
  · unfold PyData.depth; have := t.d; omega
  · unfold PyData.leavesShort; exact t.l
  · unfold PyData.weight; exact t.w
abbrev natsD (ns : List Nat) : List PyData := ns.map fun (n : Nat) => PyData.int n
theorem FitAll.nats {k : Nat} : ∀ {ns : List Nat}, (∀ n ∈ ns, n < 1048576) → FitAll (natsD ns) k (22 * ns.length)
  | [], _ => FitAll.nil
  | n :: ns, h => (FitAll.cons (Fit.nat (h n List.mem_cons_self)) (FitAll.nats fun m hm => h m (List.mem_cons_of_mem _ hm))).mono (Nat.le_refl _) (by rw [List.length_cons]; omega)
theorem Low.lt {t : List Nat} (h : Low t) : ∀ c ∈ t, c < 200 := fun c hc => by
  have := h c hc
  unfold low at this
  simp only [Bool.and_eq_true, decide_eq_true_eq] at this
  omega
theorem dp_nats {K : PySem.W.Frag} {H : Hp} : ∀ ns : List Nat, DpAll K H (ns.map fun n => V.int (n : Nat)) (natsD ns)
  | [] => .nil
  | n :: ns => .cons (.int _) (dp_nats ns)
theorem un0 {k : Nat} {A : Around} (hr : Room k A) : A.units < cLine := Nat.lt_of_le_of_lt (Nat.le_add_right _ 64) (un64 hr)
end My

set_option Elab.async false
set_option linter.all false
set_option maxRecDepth 100000
set_option maxHeartbeats 4000000
/-! Values as data, empty dicts among them: what they are, their classes, == with a text, shown. -/
namespace L2
open PySem PySem.Spec PyProof.Rows
def kvV (p : Int × Int) : Key × V := (Sum.inl p.1, .int p.2)
def kvD (p : Int × Int) : PyData × PyData := (.int p.1, .int p.2)
/-! x is the data d; m: dicts are let, and then no list lies where the modules lie -/
mutual
inductive Dg (K : PySem.W.Frag) (H : Hp) (m : Bool) : V → PyData → Prop
  | non : Dg K H m .non .none
  | bl (b : Bool) : Dg K H m (.bl b) (.bool b)
  | int (i : Int) : Dg K H m (.int i) (.int i)
  | str (x : Str) : Dg K H m (.str x) (.str x)
  | lst {a : Addr} {xs : List V} {ds : List PyData} : SqL K H a xs → (m = true → (a == sysModules) = false) → DgAll K H m xs ds → Dg K H m (.ref a) (.list ds)
  | tup {a : Addr} {xs : List V} {ds : List PyData} : SqT K H a xs → DgAll K H m xs ds → Dg K H m (.ref a) (.tuple ds)
  | emp {a : Addr} : m = true → H a = some (.dK []) → Dg K H m (.ref a) (.dict [])
  | dct {a : Addr} (l : List (Int × Int)) : m = true → H a = some (.dK (l.map kvV)) → Dg K H m (.ref a) (.dict (l.map kvD))
inductive DgAll (K : PySem.W.Frag) (H : Hp) (m : Bool) : List V → List PyData → Prop
  | nil : DgAll K H m [] []
  | cons {v : V} {vs : List V} {d : PyData} {ds : List PyData} : Dg K H m v d → DgAll K H m vs ds → DgAll K H m (v :: vs) (d :: ds)
end
theorem dct_reads {P : Program} {w : World} (h : Heap) : ∀ (l : List (Int × Int)) (vs : List (Key × Value)) (es : List DictEntry), KV (l.map kvV) vs → PySem.Pairs (mixKind P w) es vs →
    ReadsAll h (es.map (·.key)) ((l.map kvD).map (·.1)) [] ∧ ReadsAll h (es.map (·.val)) ((l.map kvD).map (·.2)) []
  | [], _, _, hk, hp => by
    cases hk
    cases hp
    exact ⟨.nil, .nil⟩
  | (k, i) :: l, _, _, hk, hp => by
    cases hk with
    | cons h1 h2 =>
      obtain ⟨e1, r1⟩ := h1
      cases hp with
      | cons p1 p2 p3 =>
        rename_i q qs e es
        obtain ⟨qk, qv⟩ := q
        obtain rfl : Sum.inl k = qk := e1
        obtain ⟨t, rfl⟩ : ∃ t, qv = .int i t := r1
        obtain ⟨ih1, ih2⟩ := dct_reads h l qs es h2 p3
        have k1 : Value.isInt k e.key = true := p1
        obtain ⟨u, eu⟩ := Value.isInt_shape k1
        refine ⟨?_, ?_⟩
        · show ReadsAll h (e.key :: _) (.int k :: _) _
          rw [eu]
          exact ReadsAll.cons (Reads.int k u) ih1
        · show ReadsAll h (e.val :: _) (.int i :: _) _
          rw [p2]
          exact ReadsAll.cons (Reads.int i t) ih2
section
variable {X : Cx} {pins : List (Addr × Obj)} {σ : St} {H : Hp} {s : Shared} {m : Bool}
mutual
theorem Dg.reads (I : Inv X pins σ H s) : ∀ (d : PyData) (v : V) (u : Value), Dg X.K H m v d → RelV v u → ∃ as, Reads s.heap u d as ∧ (m = true → sysModules ∉ as)
  | .none, _, _, h, r => by
    cases h
    cases r
    exact ⟨_, Reads.none, fun _ => List.not_mem_nil⟩
  | .bool b, _, _, h, r => by
    cases h
    cases r
    exact ⟨_, Reads.bool b, fun _ => List.not_mem_nil⟩
  | .int i, _, _, h, r => by
    cases h
    obtain ⟨t, rfl⟩ := r
    exact ⟨_, Reads.int i t, fun _ => List.not_mem_nil⟩
  | .str x, _, _, h, r => by
    cases h
    obtain ⟨t, rfl⟩ := r
    exact ⟨_, Reads.str x t, fun _ => List.not_mem_nil⟩
  | .list ds, _, _, h, r => by
    cases h with
    | lst hs hl ha =>
      cases r
      obtain ⟨its, rv, ⟨o, n, ho, hc, _, hd⟩, _⟩ := I.list hs
      obtain ⟨as, hr, hm⟩ := Dg.readsAll I ds _ its ha rv
      refine ⟨_, Reads.list ho hc hd hr, fun e hh => ?_⟩
      rcases List.mem_cons.mp hh with q | q
      · have := hl e
        rw [← q] at this
        exact absurd this (by decide)
      · exact hm e q
  | .tuple ds, _, _, h, r => by
    cases h with
    | tup hs ha =>
      cases r
      obtain ⟨its, rv, ⟨o, ho, hc, n, hd⟩, _⟩ := I.tuple hs
      obtain ⟨as, hr, hm⟩ := Dg.readsAll I ds _ its ha rv
      exact ⟨_, Reads.tuple ho hc hd hr, hm⟩
  | .dict _, _, _, h, r => by
    cases h with
    | @emp a hm ha =>
      cases r
      obtain ⟨_, hsys, vs, hkv, od, es, ep, hget, hcl, hdat, hko, hps, _⟩ : ObjOk X.prog X.w H s.heap a (.dK []) := I.hok a _ ha
      cases hkv
      have he : es.toList = [] := by
        generalize es.toList = l at hps
        cases hps; rfl
      refine ⟨a :: [] ++ [], .dict hget hcl.1 hdat (by rw [he]; exact .nil) (by rw [he]; exact .nil), fun _ hh => ?_⟩
      have e : sysModules = a := by simpa using hh
      rw [← e] at hsys
      exact absurd hsys (by decide)
    | @dct a l hm ha =>
      cases r
      obtain ⟨_, hsys, vs, hkv, od, es, ep, hget, hcl, hdat, hko, hps, _⟩ : ObjOk X.prog X.w H s.heap a (.dK (l.map kvV)) := I.hok a _ ha
      obtain ⟨r1, r2⟩ := dct_reads s.heap l vs es.toList hkv hps
      refine ⟨a :: [] ++ [], .dict hget hcl.1 hdat r1 r2, fun _ hh => ?_⟩
      have e : sysModules = a := by simpa using hh
      rw [← e] at hsys
      exact absurd hsys (by decide)
theorem Dg.readsAll (I : Inv X pins σ H s) : ∀ (ds : List PyData) (vs : List V) (us : List Value), DgAll X.K H m vs ds → Vals vs us → ∃ as, ReadsAll s.heap us ds as ∧ (m = true → sysModules ∉ as)
  | [], _, _, h, r => by
    cases h
    cases r
    exact ⟨_, ReadsAll.nil, fun _ => List.not_mem_nil⟩
  | d :: ds, _, _, h, r => by
    cases h with
    | cons h1 h2 =>
      cases r with
      | cons r1 r2 =>
        obtain ⟨as, q1, n1⟩ := Dg.reads I d _ _ h1 r1
        obtain ⟨bs, q2, n2⟩ := Dg.readsAll I ds _ _ h2 r2
        exact ⟨_, ReadsAll.cons q1 q2, fun e hh => by
          rcases List.mem_append.mp hh with q | q
          · exact n1 e q
          · exact n2 e q⟩
end
end
theorem Dg.noDict {K : PySem.W.Frag} {H : Hp} {x : V} {d : PyData} (h : Dg K H false x d) : d.hasDict = false :=
  Dg.rec (motive_1 := fun _ d _ => d.hasDict = false) (motive_2 := fun _ ds _ => PyData.hasDictAll ds = false) rfl (fun _ => rfl) (fun _ => rfl) (fun _ => rfl)
    (fun _ _ _ ih => by unfold PyData.hasDict; exact ih) (fun _ _ ih => by unfold PyData.hasDict; exact ih) (fun e => by cases e) (fun _ e => by cases e) rfl (fun _ _ i1 i2 => by unfold PyData.hasDictAll; rw [i1, i2]; rfl) h
theorem SqL.same {K : PySem.W.Frag} {H H' : Hp} {a : Addr} {xs : List V} (h : SqL K H a xs) (s : ∀ b o, H b = some o → H' b = some o) : SqL K H' a xs := h.ext s
theorem Dg.ext {K : PySem.W.Frag} {H H' : Hp} {m : Bool} (s : ∀ b o, H b = some o → H' b = some o) {x : V} {d : PyData} (h : Dg K H m x d) : Dg K H' m x d :=
  Dg.rec (motive_1 := fun x d _ => Dg K H' m x d) (motive_2 := fun xs ds _ => DgAll K H' m xs ds) .non (fun _ => .bl _) (fun _ => .int _) (fun _ => .str _)
    (fun hs hl _ ih => .lst (hs.ext s) hl ih) (fun hs _ ih => .tup (hs.elim (fun h => .inl (h.elim (fun h => .inl (s _ _ h)) fun ⟨o, h⟩ => .inr ⟨o, s _ _ h⟩)) fun h => .inr h) ih) (fun e h => .emp e (s _ _ h)) (fun l e h => .dct l e (s _ _ h)) .nil (fun _ _ i1 i2 => .cons i1 i2) h
theorem DgAll.ext {K : PySem.W.Frag} {H H' : Hp} {m : Bool} (s : ∀ b o, H b = some o → H' b = some o) : ∀ {xs : List V} {ds : List PyData}, DgAll K H m xs ds → DgAll K H' m xs ds
  | _, _, .nil => .nil
  | _, _, .cons h t => .cons (h.ext s) (DgAll.ext s t)
theorem DgAll.len {K : PySem.W.Frag} {H : Hp} {m : Bool} : ∀ {xs : List V} {ds : List PyData}, DgAll K H m xs ds → xs.length = ds.length
  | _, _, .nil => rfl
  | _, _, .cons _ t => by rw [List.length_cons, List.length_cons, DgAll.len t]
theorem DgAll.at {K : PySem.W.Frag} {H : Hp} {m : Bool} : ∀ {xs : List V} {ds : List PyData}, DgAll K H m xs ds → ∀ (i : Nat) (x : V), xs[i]? = some x → ∃ d, ds[i]? = some d ∧ Dg K H m x d
  | _, _, .nil, i, x, h => by cases h
  | _, _, .cons h t, 0, x, e => by
    obtain rfl := Option.some.inj e
    exact ⟨_, rfl, h⟩
  | _, _, .cons h t, i + 1, x, e => DgAll.at t i x e
theorem DgAll.append {K : PySem.W.Frag} {H : Hp} {m : Bool} : ∀ {xs ys : List V} {ds es : List PyData}, DgAll K H m xs ds → DgAll K H m ys es → DgAll K H m (xs ++ ys) (ds ++ es)
  | _, _, _, _, .nil, h => h
  | _, _, _, _, .cons h t, g => .cons h (DgAll.append t g)
theorem DgAll.take {K : PySem.W.Frag} {H : Hp} {m : Bool} : ∀ (n : Nat) {xs : List V} {ds : List PyData}, DgAll K H m xs ds → DgAll K H m (xs.take n) (ds.take n)
  | 0, _, _, _ => by simp; exact .nil
  | n + 1, _, _, .nil => by simp; exact .nil
  | n + 1, _, _, .cons h t => by simp only [List.take_succ_cons]; exact .cons h (DgAll.take n t)
theorem DgAll.drop {K : PySem.W.Frag} {H : Hp} {m : Bool} : ∀ (n : Nat) {xs : List V} {ds : List PyData}, DgAll K H m xs ds → DgAll K H m (xs.drop n) (ds.drop n)
  | 0, _, _, h => h
  | n + 1, _, _, .nil => by simp; exact .nil
  | n + 1, _, _, .cons h t => by simp only [List.drop_succ_cons]; exact DgAll.drop n t
theorem Dg.int_of {K : PySem.W.Frag} {H : Hp} {m : Bool} {x : V} {i : Int} (h : Dg K H m x (.int i)) : x = .int i := by cases h; rfl
theorem Dg.str_of {K : PySem.W.Frag} {H : Hp} {m : Bool} {x : V} {i : Str} (h : Dg K H m x (.str i)) : x = .str i := by cases h; rfl
theorem Dg.tup_of {K : PySem.W.Frag} {H : Hp} {m : Bool} {x : V} {ds : List PyData} (h : Dg K H m x (.tuple ds)) : ∃ a xs, x = .ref a ∧ SqT K H a xs ∧ DgAll K H m xs ds := by
  cases h with
  | tup h1 h2 => exact ⟨_, _, rfl, h1, h2⟩
theorem Dg.lst_of {K : PySem.W.Frag} {H : Hp} {m : Bool} {x : V} {ds : List PyData} (h : Dg K H m x (.list ds)) : ∃ a xs, x = .ref a ∧ SqL K H a xs ∧ (m = true → (a == sysModules) = false) ∧ DgAll K H m xs ds := by
  cases h with
  | lst h1 h2 h3 => exact ⟨_, _, rfl, h1, h2, h3⟩
theorem DgAll.cons_of {K : PySem.W.Frag} {H : Hp} {m : Bool} {xs : List V} {d : PyData} {ds : List PyData} (h : DgAll K H m xs (d :: ds)) : ∃ x ys, xs = x :: ys ∧ Dg K H m x d ∧ DgAll K H m ys ds := by
  cases h with
  | cons h1 h2 => exact ⟨_, _, rfl, h1, h2⟩
theorem DgAll.nil_of {K : PySem.W.Frag} {H : Hp} {m : Bool} {xs : List V} (h : DgAll K H m xs []) : xs = [] := by cases h; rfl
/-! ### the classes of data -/
def tyD : PyData → String
  | .none => "NoneType" | .bool _ => "bool" | .int _ => "int" | .str _ => "str" | .list _ => "list" | .tuple _ => "tuple" | .dict _ => "dict"
theorem Dg.ty {K : PySem.W.Frag} {H : Hp} {m : Bool} {x : V} {d : PyData} (h : Dg K H m x d) : TyX K H x (.type (tyD d)) := by
  cases h with
  | non => exact .base .non
  | bl b => exact .base (.bl b)
  | int i => exact .base (.int i)
  | str z => exact .base (.str z)
  | lst hs _ _ =>
    rcases hs with (h | ⟨o, h⟩) | ⟨o, its, n, e, c, _⟩
    · exact .base (.lst h)
    · exact .base (.frz h)
    · exact .kList e c
  | tup hs _ =>
    rcases hs with (h | ⟨o, h⟩) | ⟨o, its, n, e, c, _⟩
    · exact .base (.tup h)
    · exact .fTuple h
    · exact .kTuple e c
  | emp _ h => exact .base (.dK h)
  | dct l _ h => exact .base (.dK h)
def isTupD : PyData → Bool | .tuple _ => true | _ => false
def isLstD : PyData → Bool | .list _ => true | _ => false
def isStrD : PyData → Bool | .str _ => true | _ => false
def isBlD : PyData → Bool | .bool _ => true | _ => false
def isNumD : PyData → Bool | .bool _ => true | .int _ => true | _ => false
theorem kit_tupD {K : PySem.W.Frag} (d : PyData) : PySem.W.kitOne K (.type (tyD d)) (.type "tuple") = some (isTupD d) := by
  cases d with
  | none => exact kit_ty (by decide +kernel : kitB "NoneType" "tuple" = some false)
  | bool _ => exact kit_ty (by decide +kernel : kitB "bool" "tuple" = some false)
  | int _ => exact kit_ty (by decide +kernel : kitB "int" "tuple" = some false)
  | str _ => exact kit_ty (by decide +kernel : kitB "str" "tuple" = some false)
  | list _ => exact kit_ty (by decide +kernel : kitB "list" "tuple" = some false)
  | tuple _ => exact kit_ty (by decide +kernel : kitB "tuple" "tuple" = some true)
  | dict _ => exact kit_ty (by decide +kernel : kitB "dict" "tuple" = some false)
theorem kit_lstD {K : PySem.W.Frag} (d : PyData) : PySem.W.kitOne K (.type (tyD d)) (.type "list") = some (isLstD d) := by
  cases d with
  | none => exact kit_ty (by decide +kernel : kitB "NoneType" "list" = some false)
  | bool _ => exact kit_ty (by decide +kernel : kitB "bool" "list" = some false)
  | int _ => exact kit_ty (by decide +kernel : kitB "int" "list" = some false)
  | str _ => exact kit_ty (by decide +kernel : kitB "str" "list" = some false)
  | list _ => exact kit_ty (by decide +kernel : kitB "list" "list" = some true)
  | tuple _ => exact kit_ty (by decide +kernel : kitB "tuple" "list" = some false)
  | dict _ => exact kit_ty (by decide +kernel : kitB "dict" "list" = some false)
theorem kit_strD {K : PySem.W.Frag} (d : PyData) : PySem.W.kitOne K (.type (tyD d)) (.type "str") = some (isStrD d) := by
  cases d with
  | none => exact kit_ty (by decide +kernel : kitB "NoneType" "str" = some false)
  | bool _ => exact kit_ty (by decide +kernel : kitB "bool" "str" = some false)
  | int _ => exact kit_ty (by decide +kernel : kitB "int" "str" = some false)
  | str _ => exact kit_ty (by decide +kernel : kitB "str" "str" = some true)
  | list _ => exact kit_ty (by decide +kernel : kitB "list" "str" = some false)
  | tuple _ => exact kit_ty (by decide +kernel : kitB "tuple" "str" = some false)
  | dict _ => exact kit_ty (by decide +kernel : kitB "dict" "str" = some false)
theorem kit_blD {K : PySem.W.Frag} (d : PyData) : PySem.W.kitOne K (.type (tyD d)) (.type "bool") = some (isBlD d) := by
  cases d with
  | none => exact kit_ty (by decide +kernel : kitB "NoneType" "bool" = some false)
  | bool _ => exact kit_ty (by decide +kernel : kitB "bool" "bool" = some true)
  | int _ => exact kit_ty (by decide +kernel : kitB "int" "bool" = some false)
  | str _ => exact kit_ty (by decide +kernel : kitB "str" "bool" = some false)
  | list _ => exact kit_ty (by decide +kernel : kitB "list" "bool" = some false)
  | tuple _ => exact kit_ty (by decide +kernel : kitB "tuple" "bool" = some false)
  | dict _ => exact kit_ty (by decide +kernel : kitB "dict" "bool" = some false)
theorem kit_numD {K : PySem.W.Frag} (d : PyData) : PySem.W.kitOne K (.type (tyD d)) (.type "int") = some (isNumD d) := by
  cases d with
  | none => exact kit_ty (by decide +kernel : kitB "NoneType" "int" = some false)
  | bool _ => exact kit_ty (by decide +kernel : kitB "bool" "int" = some true)
  | int _ => exact kit_ty (by decide +kernel : kitB "int" "int" = some true)
  | str _ => exact kit_ty (by decide +kernel : kitB "str" "int" = some false)
  | list _ => exact kit_ty (by decide +kernel : kitB "list" "int" = some false)
  | tuple _ => exact kit_ty (by decide +kernel : kitB "tuple" "int" = some false)
  | dict _ => exact kit_ty (by decide +kernel : kitB "dict" "int" = some false)
/-! ### shown -/
def rReprG (K : PySem.W.Frag) : List V → Hp → VK → Prop := fun xs H Q => ∃ x d m, xs = [x] ∧ Dg K H m x d ∧ d.showable = true ∧ d.depth ≤ 60 ∧ d.shown.length ≤ sizeLine ∧ Q (.str d.shown) H
theorem call_reprG {X : Cx} (hc : X.A.guards = some []) (hu : X.A.units + 64 < cLine) : CallR X (.builtin "repr") (rReprG X.K) := by
  intro pins s σ H xs us Q I r h
  obtain ⟨x, d, m, rfl, hd, hs, hdp, hz, q⟩ := h
  obtain ⟨u, rfl, r1⟩ := vals1 r
  obtain ⟨as, rd, hn⟩ := Dg.reads I d x u hd r1
  have nd : d.hasDict = true → sysModules ∉ as := fun e => by
    cases m with
    | true => exact hn rfl
    | false => rw [hd.noDict] at e; cases e
  cases hd with
  | non => cases rd; exact P.repr_of_none ⟨.str _, H, I.tok _, ⟨_, rfl⟩, q⟩
  | bl b => cases rd; exact P.repr_of_bool ⟨.str _, H, I.tok _, ⟨_, rfl⟩, q⟩
  | int i =>
    cases rd
    have hi : i.natAbs.log2 < 1920 := of_decide_eq_true hs
    exact P.repr_of_int hi ⟨.str _, H, I.tok _, ⟨_, rfl⟩, q⟩
  | str z => cases rd; exact P.repr_of_str ⟨.str _, H, I.tok _, ⟨_, rfl⟩, q⟩ hz
  | lst h1 h2 h3 =>
    obtain rfl : u = Value.ref _ := r1
    exact repr_of_reads' rd hs nd hc (by omega) (fun _ _ e => e) (fun h' u tk k => ⟨.str _, H, I.kept k, ⟨_, rfl⟩, q⟩) hz
  | tup h1 h2 =>
    obtain rfl : u = Value.ref _ := r1
    exact repr_of_reads' rd hs nd hc (by omega) (fun _ _ e => e) (fun h' u tk k => ⟨.str _, H, I.kept k, ⟨_, rfl⟩, q⟩) hz
  | emp h1 h2 =>
    obtain rfl : u = Value.ref _ := r1
    exact repr_of_reads' rd hs nd hc (by omega) (fun _ _ e => e) (fun h' u tk k => ⟨.str _, H, I.kept k, ⟨_, rfl⟩, q⟩) hz
  | dct l h1 h2 =>
    obtain rfl : u = Value.ref _ := r1
    exact repr_of_reads' rd hs nd hc (by omega) (fun _ _ e => e) (fun h' u tk k => ⟨.str _, H, I.kept k, ⟨_, rfl⟩, q⟩) hz
end L2
namespace DataQ
open PySem PySem.Spec PyProof.Rows
/-! ### a dict is no text -/
section
variable {prog : Program} {w : World} {A : Around} {E : Value → Shared → Prop} {s : Shared}
theorem dict_eq_declines_str (l : Addr) (es : Array DictEntry) (n : Nat) (dd : Option Addr) (sl : Array (Option Value)) (b : Str) (u : Tok) :
    Meets (Builtin.«dict.__eq__» ⟨[.ref l, .str b u], []⟩) (fun _ R s => s.heap.get? l = some { cls := .type "dict", dict := dd, data := .dict es n, slots := sl } ∧ R (.ok (.ret .notImplemented)) s) :=
  .of_wp fun prog w A R s h => by obtain ⟨hp, g, d, tk, os⟩ := s; obtain ⟨hl, h⟩ := h; have f1 := F.sub_str_dict; wp_walk using wpAny_load hl; exact ⟨_, rfl, h⟩
theorem dict_ne_declines_str (l : Addr) (es : Array DictEntry) (n : Nat) (dd : Option Addr) (sl : Array (Option Value)) (b : Str) (u : Tok) :
    Meets (Builtin.«dict.__ne__» ⟨[.ref l, .str b u], []⟩) (fun _ R s => s.heap.get? l = some { cls := .type "dict", dict := dd, data := .dict es n, slots := sl } ∧ R (.ok (.ret .notImplemented)) s) :=
  .of_wp fun prog w A R s h => by obtain ⟨hp, g, d, tk, os⟩ := s; obtain ⟨hl, h⟩ := h; have f1 := F.sub_str_dict; wp_walk using wpAny_load hl; exact ⟨_, rfl, h⟩
theorem str_eq_declines_dict (b : Str) (u : Tok) (l : Addr) (es : Array DictEntry) (n : Nat) (dd : Option Addr) (sl : Array (Option Value)) :
    Meets (Builtin.«str.__eq__» ⟨[.str b u, .ref l], []⟩) (fun _ R s => s.heap.get? l = some { cls := .type "dict", dict := dd, data := .dict es n, slots := sl } ∧ R (.ok (.ret .notImplemented)) s) :=
  .of_wp fun prog w A R s h => by obtain ⟨hp, g, d, tk, os⟩ := s; obtain ⟨hl, h⟩ := h; wp_walk using wpAny_load hl; exact ⟨_, rfl, h⟩
theorem str_ne_declines_dict (b : Str) (u : Tok) (l : Addr) (es : Array DictEntry) (n : Nat) (dd : Option Addr) (sl : Array (Option Value)) :
    Meets (Builtin.«str.__ne__» ⟨[.str b u, .ref l], []⟩) (fun _ R s => s.heap.get? l = some { cls := .type "dict", dict := dd, data := .dict es n, slots := sl } ∧ R (.ok (.ret .notImplemented)) s) :=
  .of_wp fun prog w A R s h => by obtain ⟨hp, g, d, tk, os⟩ := s; obtain ⟨hl, h⟩ := h; wp_walk using wpAny_load hl; exact ⟨_, rfl, h⟩
theorem rc_dict_str {l : Addr} {dd : Option Addr} {es : Array DictEntry} {n : Nat} {sl : Array (Option Value)} (b : Str) (u : Tok) (ho : s.heap.get? l = some { cls := .type "dict", dict := dd, data := .dict es n, slots := sl }) (hu : A.units < cLine)
    {Q : Value → Shared → Prop} (h : Q (.bool false) s) : wpAny (model prog w) A (richCompare .Eq (.ref l) (.str b u)) Q E s :=
  PySem.SeqAt.rc_eq_decline_or (k := false) ⟨_, ho, rfl⟩ (typeIs_str s b u) (by decide) F.sub_str_dict F.slot_dict_eq F.slot_str_eq_refl
    (fun _ hq => call_meets F.slot_dict_eq ⟨_, ho, rfl⟩ F.entry_dict_eq (F.args_dict_eq_2 _ _) (dict_eq_declines_str l es n dd sl b u) ⟨ho, hq⟩)
    (fun _ hq => call_meets F.slot_str_eq_refl (typeIs_str s b u) F.entry_str_eq (F.args_str_eq_2 _ _) (str_eq_declines_dict b u l es n dd sl) ⟨ho, hq⟩)
    (fun _ hq => wpAny_of_eq (rfl : isSame (.ref l) (.str b u) = pure false) hq) (.inr hu) h
theorem rcNe_dict_str {l : Addr} {dd : Option Addr} {es : Array DictEntry} {n : Nat} {sl : Array (Option Value)} (b : Str) (u : Tok) (ho : s.heap.get? l = some { cls := .type "dict", dict := dd, data := .dict es n, slots := sl }) (hu : A.units < cLine)
    {Q : Value → Shared → Prop} (h : Q (.bool true) s) : wpAny (model prog w) A (richCompare .NotEq (.ref l) (.str b u)) Q E s :=
  PySem.SeqAt.rc_ne_decline_or (k := false) ⟨_, ho, rfl⟩ (typeIs_str s b u) (by decide) F.sub_str_dict F.slot_dict_ne F.slot_str_ne_refl
    (fun _ hq => call_meets F.slot_dict_ne ⟨_, ho, rfl⟩ F.entry_dict_ne (F.args_dict_ne_2 _ _) (dict_ne_declines_str l es n dd sl b u) ⟨ho, hq⟩)
    (fun _ hq => call_meets F.slot_str_ne_refl (typeIs_str s b u) F.entry_str_ne (F.args_str_ne_2 _ _) (str_ne_declines_dict b u l es n dd sl) ⟨ho, hq⟩)
    (fun _ hq => wpAny_of_eq (rfl : isSame (.ref l) (.str b u) = pure false) hq) (.inr hu) h
end
end DataQ
namespace L2
open PySem PySem.Spec PyProof.Rows
/-- the data is this text -/
def isS (z : Str) : PyData → Bool
  | .str y => decide (y = z)
  | _ => false
section
variable {X : Cx}
def rEqGS (K : PySem.W.Frag) : R2 := fun x y H Q => ∃ d m z, Dg K H m x d ∧ y = .str z ∧ Q (.bl (isS z d)) H
def rNeGS (K : PySem.W.Frag) : R2 := fun x y H Q => ∃ d m z, Dg K H m x d ∧ y = .str z ∧ Q (.bl (!isS z d)) H
theorem op_eqGS (hu : X.A.units + 64 < cLine) : OpR X (compareOp .Eq) (rEqGS X.K) := by
  intro pins s σ H x y v u Q I rx ry h
  obtain ⟨d, m, z, hd, rfl, q⟩ := h
  have hu' : X.A.units < cLine := by omega
  obtain ⟨as, rd, _⟩ := Dg.reads I d x v hd rx
  obtain ⟨t, rfl⟩ := ry
  cases hd with
  | non => exact op_eq pins s σ H .non (.str z) _ _ Q I rx ⟨t, rfl⟩ ⟨rfl, by rw [decide_eq_false (fun e => V.noConfusion e)]; exact q⟩
  | bl b => exact op_eq pins s σ H (.bl b) (.str z) _ _ Q I rx ⟨t, rfl⟩ ⟨rfl, by rw [decide_eq_false (fun e => V.noConfusion e)]; exact q⟩
  | int i => exact op_eq pins s σ H (.int i) (.str z) _ _ Q I rx ⟨t, rfl⟩ ⟨rfl, by rw [decide_eq_false (fun e => V.noConfusion e)]; exact q⟩
  | str y =>
    refine op_eq pins s σ H (.str y) (.str z) _ _ Q I rx ⟨t, rfl⟩ ⟨rfl, ?_⟩
    have e : decide (V.str y = V.str z) = isS z (.str y) := by
      show _ = decide (y = z)
      rw [Bool.eq_iff_iff]; simp
    rw [e]; exact q
  | lst h1 h2 h3 =>
    obtain rfl : v = Value.ref _ := rx
    obtain ⟨its, rv, ⟨o, n, ho, hc, _, hdd⟩, _⟩ := I.list h1
    exact PySem.SeqAt.RcAt.list_str z t ⟨o, ho, hc, n, hdd⟩ hu' X.prog X.w _ _ ⟨.bl _, H, I, rfl, q⟩
  | tup h1 h2 =>
    obtain rfl : v = Value.ref _ := rx
    obtain ⟨its, rv, ⟨o, ho, hc, n, hdd⟩, _⟩ := I.tuple h1
    exact PySem.SeqAt.RcAt.tuple_str z t ⟨o, ho, hc, n, hdd⟩ hu' X.prog X.w _ _ ⟨.bl _, H, I, rfl, q⟩
  | @emp a h1 ha =>
    obtain rfl : v = Value.ref _ := rx
    obtain ⟨_, hsys, vs, hkv, od, es, ep, hget, hcl, hdat, hko, hps, _⟩ : ObjOk X.prog X.w H s.heap a (.dK []) := I.hok a _ ha
    obtain ⟨oc, odd, odt, osl⟩ := od
    obtain ⟨hc1, hc2⟩ := hcl
    simp only at hc1 hdat
    subst hc1 hdat
    exact DataQ.rc_dict_str z t hget hu' ⟨.bl _, H, I, rfl, q⟩
  | @dct a l h1 ha =>
    obtain rfl : v = Value.ref _ := rx
    obtain ⟨_, hsys, vs, hkv, od, es, ep, hget, hcl, hdat, hko, hps, _⟩ : ObjOk X.prog X.w H s.heap a (.dK (l.map kvV)) := I.hok a _ ha
    obtain ⟨oc, odd, odt, osl⟩ := od
    obtain ⟨hc1, hc2⟩ := hcl
    simp only at hc1 hdat
    subst hc1 hdat
    exact DataQ.rc_dict_str z t hget hu' ⟨.bl _, H, I, rfl, q⟩
theorem op_neGS (hu : X.A.units + 64 < cLine) : OpR X (compareOp .NotEq) (rNeGS X.K) := by
  intro pins s σ H x y v u Q I rx ry h
  obtain ⟨d, m, z, hd, rfl, q⟩ := h
  have hu' : X.A.units < cLine := by omega
  obtain ⟨as, rd, _⟩ := Dg.reads I d x v hd rx
  obtain ⟨t, rfl⟩ := ry
  cases hd with
  | non => exact op_ne pins s σ H .non (.str z) _ _ Q I rx ⟨t, rfl⟩ ⟨rfl, by rw [decide_eq_false (fun e => V.noConfusion e)]; exact q⟩
  | bl b => exact op_ne pins s σ H (.bl b) (.str z) _ _ Q I rx ⟨t, rfl⟩ ⟨rfl, by rw [decide_eq_false (fun e => V.noConfusion e)]; exact q⟩
  | int i => exact op_ne pins s σ H (.int i) (.str z) _ _ Q I rx ⟨t, rfl⟩ ⟨rfl, by rw [decide_eq_false (fun e => V.noConfusion e)]; exact q⟩
  | str y =>
    refine op_ne pins s σ H (.str y) (.str z) _ _ Q I rx ⟨t, rfl⟩ ⟨rfl, ?_⟩
    have e : decide (V.str y = V.str z) = isS z (.str y) := by
      show _ = decide (y = z)
      rw [Bool.eq_iff_iff]; simp
    rw [e]; exact q
  | lst h1 h2 h3 =>
    obtain rfl : v = Value.ref _ := rx
    obtain ⟨its, rv, ⟨o, n, ho, hc, _, hdd⟩, _⟩ := I.list h1
    exact PySem.SeqAt.RcNeAt.list_str z t ⟨o, ho, hc, n, hdd⟩ hu' X.prog X.w _ _ ⟨.bl _, H, I, rfl, q⟩
  | tup h1 h2 =>
    obtain rfl : v = Value.ref _ := rx
    obtain ⟨its, rv, ⟨o, ho, hc, n, hdd⟩, _⟩ := I.tuple h1
    exact PySem.SeqAt.RcNeAt.tuple_str z t ⟨o, ho, hc, n, hdd⟩ hu' X.prog X.w _ _ ⟨.bl _, H, I, rfl, q⟩
  | @emp a h1 ha =>
    obtain rfl : v = Value.ref _ := rx
    obtain ⟨_, hsys, vs, hkv, od, es, ep, hget, hcl, hdat, hko, hps, _⟩ : ObjOk X.prog X.w H s.heap a (.dK []) := I.hok a _ ha
    obtain ⟨oc, odd, odt, osl⟩ := od
    obtain ⟨hc1, hc2⟩ := hcl
    simp only at hc1 hdat
    subst hc1 hdat
    exact DataQ.rcNe_dict_str z t hget hu' ⟨.bl _, H, I, rfl, q⟩
  | @dct a l h1 ha =>
    obtain rfl : v = Value.ref _ := rx
    obtain ⟨_, hsys, vs, hkv, od, es, ep, hget, hcl, hdat, hko, hps, _⟩ : ObjOk X.prog X.w H s.heap a (.dK (l.map kvV)) := I.hok a _ ha
    obtain ⟨oc, odd, odt, osl⟩ := od
    obtain ⟨hc1, hc2⟩ := hcl
    simp only at hc1 hdat
    subst hc1 hdat
    exact DataQ.rcNe_dict_str z t hget hu' ⟨.bl _, H, I, rfl, q⟩
/-- a list display, which does not lie where the modules lie -/
def tLstS (t : TA) : TE := fun σ H Q => t σ H fun xs H1 => xs.length ≤ sizeLine ∧ ∀ l, H1 l = none → (l == sysModules) = false → Q (.ref l) (upd H1 l (.lst xs))
theorem pe_lstS {es : List Expr} {pos : Pos} {t : TA} (h : PA X es t) : PE X (.List es pos) (tLstS t) := by
  refine ⟨fun pins s σ H Q I hq => ?_⟩
  refine wpAny_List_spliced (thn (h.run pos pins s σ H _ I hq) fun us s1 ⟨xs, H1, I1, r, z, q⟩ => ⟨by rw [← r.length]; exact z, ?_⟩)
  have hf : H1 s1.heap.objs.size = none := I1.hok.fresh (Nat.le_refl _)
  have hb := I1.big
  refine ⟨.ref s1.heap.objs.size, upd H1 s1.heap.objs.size (.lst xs), I1.laid (t' := s1.toks) (fun b u e => Heap.get?_push_of_some _ e) (Nat.le_refl _) ?_, rfl, q _ hf ?_⟩
  · exact ⟨z, us, 0, r, Heap.get?_push_size _ rfl⟩
  · rw [beq_eq_false_iff_ne]
    exact Ne.symm (Nat.ne_of_lt hb)
/-- xs != [] -/
def rNeNil : R2 := fun x y H Q => ∃ p q xs, x = .ref p ∧ y = .ref q ∧ H p = some (.lst xs) ∧ H q = some (.lst []) ∧ Q (.bl (!decide (xs = []))) H
theorem op_ne_nil (hu : X.A.units < cLine) : OpR X (compareOp .NotEq) rNeNil := by
  intro pins s σ H x y v u Q I rx ry h
  obtain ⟨p, q, xs, rfl, rfl, hp, hq, k⟩ := h
  cases (show v = Value.ref p from rx)
  cases (show u = Value.ref q from ry)
  obtain ⟨z1, its, n, r1, hl, e1⟩ := I.lstM hp
  obtain ⟨z2, its2, n2, r2, hl2, e2⟩ := I.lstM hq
  cases r2
  have L2 : s.heap.IsList q (#[] : Array Value) := ⟨_, e2, rfl, _, rfl⟩
  have L1 : s.heap.IsList p its.toArray := ⟨_, e1, rfl, _, rfl⟩
  by_cases e : xs = []
  · subst e
    cases r1
    have := PySem.SeqAt.RcNeAt.lists (e := fun _ => true) L1 L2 rfl hu (fun j h1 _ => absurd h1 (Nat.not_lt_zero j))
    exact this X.prog X.w _ _ ⟨.bl _, H, I, rfl, k⟩
  · rw [decide_eq_false e] at k
    have l := r1.length
    have := List.length_pos_iff.mpr e
    exact PySem.SeqAt.RcNeAt.lists_lengths L1 L2 (by simp only [List.size_toArray, bne_iff_ne, ne_eq]; show ¬ its.length = 0; omega) hu X.prog X.w _ _ ⟨.bl _, H, I, rfl, k⟩
/-- D is a dict of the module that tells numbers for texts -/
def KTab (K : PySem.W.Frag) (w : World) (D : Addr) (f : Str → Option Int) : Prop := (∃ es n, KDict K w D es n) ∧ ∀ z, match f z with | none => PySem.W.nsIn K D z = some none | some i => ∃ t, PySem.W.nsIn K D z = some (some (.int i t))
def rNotInTab (D : Addr) (f : Str → Option Int) : R2 := fun x y H Q => ∃ z, x = .str z ∧ y = .ref D ∧ Q (.bl (f z).isNone) H
theorem op_notIn_tab {D : Addr} {f : Str → Option Int} (T : KTab X.K X.w D f) : OpR X (compareOp .NotIn) (rNotInTab D f) := by
  obtain ⟨⟨es, n, kd⟩, hv⟩ := T
  intro pins s σ H x y v u Q I rx ry h
  obtain ⟨z, rfl, rfl, q⟩ := h
  have e := hv z
  cases hf : f z with
  | none =>
    rw [hf] at e q
    exact op_notIn_kd kd pins s σ H _ _ v u Q I rx ry ⟨z, none, rfl, rfl, e, q⟩
  | some i =>
    rw [hf] at e q
    obtain ⟨t, e⟩ := e
    exact op_notIn_kd kd pins s σ H _ _ v u Q I rx ry ⟨z, _, rfl, rfl, e, q⟩
def rIxTab (D : Addr) (f : Str → Option Int) : R2 := fun x y H Q => ∃ z i, x = .ref D ∧ y = .str z ∧ f z = some i ∧ Q (.int i) H
theorem ix_tab {D : Addr} {f : Str → Option Int} (T : KTab X.K X.w D f) : IxR X (rIxTab D f) := by
  obtain ⟨⟨es, n, kd⟩, hv⟩ := T
  intro value slice pins s σ H x y v u Q I rx ry h hs
  obtain ⟨z, i, rfl, rfl, hf, q⟩ := h
  have e := hv z
  rw [hf] at e
  obtain ⟨t, e⟩ := e
  exact ix_kdict value slice pins s σ H _ _ v u Q I rx ry ⟨D, z, .int i, rfl, rfl, ⟨es, n, _, kd.at_, kd.lit, e, ⟨t, rfl⟩⟩, q⟩ hs
theorem call_list_ofS : CallR X (.type "list") (fun xs H Q => ∃ p ys, xs = [.ref p] ∧ (SqL X.K H p ys ∨ SqT X.K H p ys) ∧ ∀ l, H l = none → (l == sysModules) = false → Q (.ref l) (upd H l (.lst ys))) := by
  intro pins s σ H xs us Q I r h
  obtain ⟨p, ys, rfl, hq, q⟩ := h
  obtain ⟨u, rfl, rx⟩ := vals1 r
  cases rx
  have hb := I.big
  have fin : ∀ (its : List Value), Vals ys its → ys.length ≤ sizeLine → ∀ (h' : Heap) (c' : Nat), (∀ b o', s.heap.get? b = some o' → h'.get? b = some o') →
      h'.get? s.heap.objs.size = some { cls := .type "list", dict := none, data := .seq its.toArray c', slots := #[] } → EP X pins σ Q (.ref s.heap.objs.size) { s with heap := h' } := fun its r' hz h' c' kp e =>
    ⟨.ref s.heap.objs.size, _, I.laid (t' := s.toks) kp (Nat.le_refl _) (show ObjOk X.prog X.w _ h' _ (.lst ys) from ⟨hz, its, c', r', e⟩), rfl, q _ (I.hok.fresh (Nat.le_refl _)) (beq_eq_false_iff_ne.mpr (Ne.symm (Nat.ne_of_lt hb)))⟩
  rcases hq with hq | hq
  · obtain ⟨its, r', pl, hz⟩ := I.list hq
    have hlen := r'.length
    obtain ⟨o, ho, hc, n, hd⟩ := pl.isList
    exact call_list_seq p (.inl rfl) ho hc hd (fun h' c' kp e => fin its r' hz h' c' kp e) (by simp only [List.size_toArray] <;> omega)
  · obtain ⟨its, r', pl, hz⟩ := I.tuple hq
    have hlen := r'.length
    obtain ⟨o, ho, hc, n, hd⟩ := pl
    exact call_list_seq p (.inr rfl) ho hc hd (fun h' c' kp e => fin its r' hz h' c' kp e) (by simp only [List.size_toArray] <;> omega)
theorem ix_tupK {K : PySem.W.Frag} (e : X.K = K) : IxR X (rIxT K) := by rw [← e]; exact ix_tup
theorem op_eqGSK {K : PySem.W.Frag} (e : X.K = K) (hu : X.A.units + 64 < cLine) : OpR X (compareOp .Eq) (rEqGS K) := by subst e; exact op_eqGS hu
theorem op_neGSK {K : PySem.W.Frag} (e : X.K = K) (hu : X.A.units + 64 < cLine) : OpR X (compareOp .NotEq) (rNeGS K) := by subst e; exact op_neGS hu
theorem sl_tupAK {K : PySem.W.Frag} (e : X.K = K) : SlR X (rSlA K) := by subst e; exact sl_tupA
end
theorem tab_keys {P : Params} {z : Str} : ∀ {l : List DictEntry} {ks : List Str}, l.map He.keyOf = He.keysIn P ks → z ∉ ks → l.find? (·.key.isStr z) = none ∧ l.any (·.refKey) = false
  | [], _, _, _ => ⟨rfl, rfl⟩
  | e :: r, [], h, _ => by cases h
  | e :: r, k :: ks, h, n => by
    have h1 : He.keyOf e :: r.map He.keyOf = some (k, PyData.keyHash P k) :: He.keysIn P ks := h
    injection h1 with h2 h3
    obtain ⟨i1, i2⟩ := tab_keys h3 (fun z => n (List.mem_cons_of_mem _ z))
    unfold He.keyOf at h2
    split at h2
    · rename_i x t q
      have h4 := Option.some.inj h2
      obtain ⟨h5, h6⟩ := Prod.mk.inj h4
      have e1 : e.key.isStr z = false := by
        rw [q, h5]
        show (k == z) = false
        exact beq_eq_false_iff_ne.mpr fun e => n (by rw [← e]; exact List.mem_cons_self)
      have e2 : e.refKey = false := by unfold DictEntry.refKey; rw [q]
      exact ⟨by rw [List.find?_cons_of_neg (by rw [e1]; exact Bool.false_ne_true)]; exact i1, by rw [List.any_cons, e2, i2]; rfl⟩
    · cases h2
theorem tab_none {K : PySem.W.Frag} {P : Params} {D : Addr} {ks : List Str} {z : Str} (h : He.dicW K D = some (He.keysIn P ks)) (hz : z ∉ ks) : PySem.W.nsIn K D z = some none := by
  unfold He.dicW at h
  unfold PySem.W.nsIn
  cases q : K.lookup D with
  | none => rw [q] at h; cases h
  | some o =>
    obtain ⟨oc, od, dt, osl⟩ := o
    rw [q] at h
    cases oc with
    | type c =>
      cases od with
      | none =>
        cases dt with
        | dict es n =>
          have h1 : (match decide (c = "dict") && (osl.isEmpty && !(D == sysModules)) with
            | true => some (es.toList.map He.keyOf)
            | false => none) = some (He.keysIn P ks) := h
          split at h1
          · obtain ⟨a, b⟩ := tab_keys (Option.some.inj h1) hz
            show (match es.toList.find? (·.key.isStr z) with
              | some e => some (some e.val)
              | none => if es.toList.any (·.refKey) then none else some none) = some none
            rw [a, b]; rfl
          · cases h1
        | _ => cases h
      | some _ => cases h
    | _ => cases h
end L2

set_option Elab.async false
set_option linter.all false
set_option maxRecDepth 100000
set_option maxHeartbeats 4000000
/-! Data beside the box of draws; displays of data. -/
namespace My
open PySem PySem.Spec PyProof.Rows L2
/-- the heap without p -/
def wo (H : Hp) (p : Addr) : Hp := fun b => if b = p then none else H b
theorem wo_ne {H : Hp} {p b : Addr} (h : b ≠ p) : wo H p b = H b := by unfold wo; rw [if_neg h]
theorem wo_at {H : Hp} {p : Addr} : wo H p p = none := by unfold wo; rw [if_pos rfl]
theorem wo_le {H : Hp} {p b : Addr} {o : HO} (h : wo H p b = some o) : H b = some o := by
  by_cases e : b = p
  · rw [e, wo_at] at h; cases h
  · rw [wo_ne e] at h; exact h
theorem wo_upd {H : Hp} {p : Addr} {o : HO} : wo (upd H p o) p = wo H p := by
  funext b
  by_cases e : b = p
  · rw [e, wo_at, wo_at]
  · rw [wo_ne e, wo_ne e, upd_ne e]
theorem Kp.wo {p : Addr} {H H' : Hp} (k : Kp p H H') : Same (wo H p) (wo H' p) := fun b o e => by
  have n : b ≠ p := fun z => by rw [z, wo_at] at e; cases e
  rw [wo_ne n] at e ⊢
  exact k b o n e
theorem wo_same (H : Hp) (p : Addr) : Same (wo H p) H := fun _ _ e => wo_le e
/-- data, of which p is no part -/
abbrev Dw (K : PySem.W.Frag) (p : Addr) (H : Hp) (m : Bool) (x : V) (d : PyData) : Prop := Dg K (wo H p) m x d
abbrev DwAll (K : PySem.W.Frag) (p : Addr) (H : Hp) (m : Bool) (xs : List V) (ds : List PyData) : Prop := DgAll K (wo H p) m xs ds
theorem _root_.L2.Dg.kp {K : PySem.W.Frag} {p : Addr} {H H' : Hp} {m : Bool} {x : V} {d : PyData} (h : Dw K p H m x d) (k : Kp p H H') : Dw K p H' m x d := h.ext k.wo
theorem _root_.L2.DgAll.kp {K : PySem.W.Frag} {p : Addr} {H H' : Hp} {m : Bool} {x : List V} {d : List PyData} (h : DwAll K p H m x d) (k : Kp p H H') : DwAll K p H' m x d := h.ext k.wo
theorem _root_.L2.Dg.dg {K : PySem.W.Frag} {p : Addr} {H : Hp} {m : Bool} {x : V} {d : PyData} (h : Dw K p H m x d) : Dg K H m x d := h.ext (wo_same H p)
theorem _root_.L2.DgAll.dg {K : PySem.W.Frag} {p : Addr} {H : Hp} {m : Bool} {x : List V} {d : List PyData} (h : DwAll K p H m x d) : DgAll K H m x d := h.ext (wo_same H p)
theorem wo_new {H : Hp} {p q : Addr} {o : HO} (h : q ≠ p) : wo (upd H q o) p = upd (wo H p) q o := by
  funext b
  by_cases e : b = p
  · rw [e, wo_at, upd_ne (Ne.symm h), wo_at]
  · rw [wo_ne e]
    by_cases e2 : b = q
    · rw [e2, upd_same, upd_same]
    · rw [upd_ne e2, upd_ne e2, wo_ne e]
/-- a part of the heap that keeps what stands beside p, and all new things -/
structure Res (p : Addr) (H : Hp) (w : Hp → Hp) : Prop where
  sub : ∀ G, Same (w G) G
  kp : ∀ {G G' : Hp}, Kp p G G' → Same (w G) (w G')
  new : ∀ {G : Hp} {r : Addr} {o : HO}, Kp p H G → G p ≠ none → G r = none → w (L2.upd G r o) r = some o
theorem Res.mono {p : Addr} {H H' : Hp} {w : Hp → Hp} (R : Res p H w) (k : Kp p H H') : Res p H' w := ⟨R.sub, R.kp, fun k' n hr => R.new (k.trans k') n hr⟩
theorem res_p {p : Addr} {H : Hp} : Res p H (fun G => wo G p) := ⟨fun G => wo_same G p, fun k => k.wo, fun {G r o} _ n hr => by
  have nr : r ≠ p := fun z => n (by rw [← z]; exact hr)
  show wo (L2.upd G r o) p r = some o
  rw [wo_ne nr]; exact upd_same⟩
theorem res_two {p D : Addr} {H : Hp} {ob : HO} (hD : H D = some ob) (n : D ≠ p) : Res p H (fun G => wo (wo G p) D) := ⟨fun G => fun b o e => wo_le (wo_le e), fun {G G'} k => fun b o e => by
  have n : b ≠ D := fun z => by rw [z, wo_at] at e; cases e
  rw [wo_ne n] at e ⊢
  exact k.wo b o e, fun {G r o} k np hr => by
  have nr : r ≠ p := fun z => np (by rw [← z]; exact hr)
  have nD : r ≠ D := fun z => by rw [z, k D ob n hD] at hr; cases hr
  show wo (wo (L2.upd G r o) p) D r = some o
  rw [wo_ne nD, wo_ne nr]; exact upd_same⟩
theorem _root_.L2.Dg.rk {K : PySem.W.Frag} {p : Addr} {H H' H0 : Hp} {w : Hp → Hp} {m : Bool} {x : V} {d : PyData} (h : Dg K (w H) m x d) (R : Res p H0 w) (k : Kp p H H') : Dg K (w H') m x d := h.ext (R.kp k)
theorem _root_.L2.DgAll.rk {K : PySem.W.Frag} {p : Addr} {H H' H0 : Hp} {w : Hp → Hp} {m : Bool} {x : List V} {d : List PyData} (h : DgAll K (w H) m x d) (R : Res p H0 w) (k : Kp p H H') : DgAll K (w H') m x d := h.ext (R.kp k)
/-! ### displays -/
section
variable {K : PySem.W.Frag} {m : Bool} {p : Addr} {σ : L2.St} {H : Hp} {w : Hp → Hp}
/-- an expression gives the data d, and what stood stands -/
def EvD (K : PySem.W.Frag) (m : Bool) (p : Addr) (w : Hp → Hp) (te : TE) (σ : L2.St) (H : Hp) (d : PyData) : Prop :=
  ∀ H1, Kp p H H1 → H1 p ≠ none → ∀ Q : VK, (∀ x H', Same H1 H' → Dg K (w H') m x d → Q x H') → te σ H1 Q
def EvDs (K : PySem.W.Frag) (m : Bool) (p : Addr) (w : Hp → Hp) (ta : TA) (σ : L2.St) (H : Hp) (ds : List PyData) : Prop :=
  ∀ H1, Kp p H H1 → H1 p ≠ none → ∀ Q : List V → Hp → Prop, (∀ xs H', Same H1 H' → DgAll K (w H') m xs ds → Q xs H') → ta σ H1 Q
def EvI (p : Addr) (te : TE) (σ : L2.St) (H : Hp) (i : Int) : Prop :=
  ∀ H1, Kp p H H1 → H1 p ≠ none → ∀ Q : VK, (∀ H', Same H1 H' → Q (.int i) H') → te σ H1 Q
theorem same_at {H H' : Hp} {p : Addr} (s : Same H H') (h : H p ≠ none) : H' p ≠ none := fun z => by
  cases e : H p with
  | none => exact h e
  | some o => rw [s _ _ e] at z; cases z
theorem evD_c {x : V} {d : PyData} (h : ∀ G, Dg K G m x d) : EvD K m p w (tC x) σ H d := fun H1 _ _ Q q => q x H1 (Same.refl _) (h _)
theorem evD_int (i : Int) : EvD K m p w (tC (.int i)) σ H (.int i) := evD_c fun _ => .int i
theorem evD_str (z : Str) : EvD K m p w (tC (.str z)) σ H (.str z) := evD_c fun _ => .str z
theorem evD_bl (b : Bool) : EvD K m p w (tC (.bl b)) σ H (.bool b) := evD_c fun _ => .bl b
theorem evD_non : EvD K m p w (tC .non) σ H .none := evD_c fun _ => .non
theorem evD_var (R : Res p H w) {i : Nat} {x : V} {d : PyData} (e : σ[i]? = some (some x)) (h : Dg K (w H) m x d) : EvD K m p w (tVar i) σ H d :=
  fun H1 k _ Q q => ⟨x, e, q x H1 (Same.refl _) (h.rk R k)⟩
theorem evI_var {i : Nat} {j : Int} (e : σ[i]? = some (some (.int j))) : EvI p (tVar i) σ H j := fun H1 _ _ Q q => ⟨_, e, q H1 (Same.refl _)⟩
theorem evI_c (j : Int) : EvI p (tC (.int j)) σ H j := fun H1 _ _ Q q => q H1 (Same.refl _)
theorem evD_I {te : TE} {j : Int} (h : EvI p te σ H j) : EvD K m p w te σ H (.int j) := fun H1 k n Q q => h H1 k n Q fun H' s => q _ _ s (.int j)
theorem evI_op {ta tb : TE} {i j : Int} {g : Int → Int → Int} (ha : EvI p ta σ H i) (hb : EvI p tb σ H j) : EvI p (tOp (rI0 fun i j => .int (g i j)) ta tb) σ H (g i j) :=
  fun H1 k n Q q => ha H1 k n _ fun H2 s2 => hb H2 (k.trans (Kp.of s2)) (same_at s2 n) _ fun H3 s3 => ⟨_, _, rfl, rfl, q _ (s2.trans s3)⟩
theorem evI_opC {ta tb : TE} {i j : Int} {C : Int → Int → Prop} {g : Int → Int → Int} (ha : EvI p ta σ H i) (hb : EvI p tb σ H j) (c : C i j) : EvI p (tOp (rI C fun i j => .int (g i j)) ta tb) σ H (g i j) :=
  fun H1 k n Q q => ha H1 k n _ fun H2 s2 => hb H2 (k.trans (Kp.of s2)) (same_at s2 n) _ fun H3 s3 => ⟨_, _, rfl, rfl, c, q _ (s2.trans s3)⟩
theorem evDs_nil : EvDs K m p w tNil σ H [] := fun H1 _ _ Q q => q [] H1 (Same.refl _) .nil
theorem evDs_cons (R : Res p H w) {te : TE} {ta : TA} {d : PyData} {ds : List PyData} (h : EvD K m p w te σ H d) (t : EvDs K m p w ta σ H ds) : EvDs K m p w (tCons te ta) σ H (d :: ds) :=
  fun H1 k n Q q => h H1 k n _ fun x H2 s2 dx => t H2 (k.trans (Kp.of s2)) (same_at s2 n) _ fun xs H3 s3 dxs => q _ _ (s2.trans s3) (.cons (dx.rk R (Kp.of s3)) dxs)
theorem evD_tup (R : Res p H w) {ta : TA} {ds : List PyData} (h : EvDs K m p w ta σ H ds) (l : ds.length ≤ 1000) : EvD K m p w (tTup ta) σ H (.tuple ds) :=
  fun H1 k n Q q => h H1 k n _ fun xs H2 s2 dxs => ⟨by rw [dxs.len]; exact Nat.le_trans l (by decide), fun r hr => by
    have nr : r ≠ p := fun z => same_at s2 n (by rw [← z]; exact hr)
    have s3 : Same H2 (upd H2 r (.tup xs)) := Same.new (Same.refl _) hr
    exact q _ _ (s2.trans s3) (.tup (SqT.of (R.new (k.trans (Kp.of s2)) (same_at s2 n) hr)) (dxs.rk R (Kp.of s3)))⟩
theorem evD_lst (R : Res p H w) {ta : TA} {ds : List PyData} (h : EvDs K false p w ta σ H ds) (l : ds.length ≤ 1000) : EvD K false p w (tLst ta) σ H (.list ds) :=
  fun H1 k n Q q => h H1 k n _ fun xs H2 s2 dxs => ⟨by rw [dxs.len]; exact Nat.le_trans l (by decide), fun r hr => by
    have nr : r ≠ p := fun z => same_at s2 n (by rw [← z]; exact hr)
    have s3 : Same H2 (upd H2 r (.lst xs)) := Same.new (Same.refl _) hr
    exact q _ _ (s2.trans s3) (.lst (SqL.of (R.new (k.trans (Kp.of s2)) (same_at s2 n) hr)) (fun z => by cases z) (dxs.rk R (Kp.of s3)))⟩
theorem evD_lstS (R : Res p H w) {ta : TA} {ds : List PyData} (h : EvDs K m p w ta σ H ds) (l : ds.length ≤ 1000) : EvD K m p w (tLstS ta) σ H (.list ds) :=
  fun H1 k n Q q => h H1 k n _ fun xs H2 s2 dxs => ⟨by rw [dxs.len]; exact Nat.le_trans l (by decide), fun r hr hl => by
    have nr : r ≠ p := fun z => same_at s2 n (by rw [← z]; exact hr)
    have s3 : Same H2 (upd H2 r (.lst xs)) := Same.new (Same.refl _) hr
    exact q _ _ (s2.trans s3) (.lst (SqL.of (R.new (k.trans (Kp.of s2)) (same_at s2 n) hr)) (fun _ => hl) (dxs.rk R (Kp.of s3)))⟩
theorem evD_emp (R : Res p H w) : EvD K true p w tDNewK σ H (.dict []) := fun H1 k n Q q r hr => by
  have nr : r ≠ p := fun z => n (by rw [← z]; exact hr)
  exact q _ _ (Same.new (Same.refl _) hr) (.emp rfl (R.new k n hr))
/-- a display that is assigned, or handed back -/
theorem EvD.here {te : TE} {d : PyData} (h : EvD K m p w te σ H d) (n : H p ≠ none) {Q : VK} (q : ∀ x H', Same H H' → Dg K (w H') m x d → Q x H') : te σ H Q := h H (Kp.refl p H) n Q q
end
theorem BoxAt.some {H : Hp} {p : Addr} {n : Nat} (h : BoxAt H p n) : H p ≠ none := by
  obtain ⟨o, e, _⟩ := h
  rw [e]; exact fun z => by cases z
section
variable {K : PySem.W.Frag} {p : Addr} {σ : L2.St} {H : Hp} {w : Hp → Hp}
theorem evD_listOf (R : Res p H w) {te : TE} {ds : List PyData} (h : EvD K true p w te σ H (.tuple ds)) :
    EvD K true p w (tCB (fun xs H Q => ∃ p ys, xs = [.ref p] ∧ (SqL K H p ys ∨ SqT K H p ys) ∧ ∀ l, H l = none → (l == sysModules) = false → Q (.ref l) (L2.upd H l (.lst ys))) (tCons te tNil)) σ H (.list ds) := fun H1 k n Q q => h H1 k n _ fun x H2 s2 dx => by
  obtain ⟨a, xs, rfl, hs, ha⟩ := dx.tup_of
  have hs' : SqT K H2 a xs := hs.ext (R.sub H2)
  refine ⟨a, xs, rfl, .inr hs', fun l hl low => ?_⟩
  have nl : l ≠ p := fun z => same_at s2 n (by rw [← z]; exact hl)
  have s3 : Same H2 (L2.upd H2 l (.lst xs)) := Same.new (Same.refl _) hl
  exact q _ _ (s2.trans s3) (.lst (SqL.of (R.new (k.trans (Kp.of s2)) (same_at s2 n) hl)) (fun _ => low) (ha.rk R (Kp.of s3)))
theorem evD_catA (R : Res p H w) {m : Bool} {ta tb : TE} {ds es : List PyData} (ha : EvD K m p w ta σ H (.tuple ds)) (hb : EvD K m p w tb σ H (.tuple es)) (l : ds.length + es.length ≤ 10000) : EvD K m p w (tOp (rCatA K) ta tb) σ H (.tuple (ds ++ es)) :=
  fun H1 k n Q q => ha H1 k n _ fun x H2 s2 dx => hb H2 (k.trans (Kp.of s2)) (same_at s2 n) _ fun y H3 s3 dy => by
    have dx := dx.rk R (Kp.of s3)
    obtain ⟨a, xs, rfl, hs, hx⟩ := dx.tup_of
    obtain ⟨b, ys, rfl, ht, hy⟩ := dy.tup_of
    have lx := hx.len
    have ly := hy.len
    refine ⟨a, b, xs, ys, rfl, rfl, hs.ext (R.sub H3), ht.ext (R.sub H3), by rw [lx, ly]; exact Nat.le_trans l (by decide), fun e => ?_, fun _ e => ?_, fun _ _ r hr => ?_⟩
    · subst e
      have : ds = [] := List.length_eq_zero_iff.mp (by rw [← lx]; rfl)
      subst this
      exact q _ _ (s2.trans s3) dy
    · subst e
      have : es = [] := List.length_eq_zero_iff.mp (by rw [← ly]; rfl)
      subst this
      exact q _ _ (s2.trans s3) (by rw [List.append_nil]; exact dx)
    · have nr : r ≠ p := fun z => same_at (s2.trans s3) n (by rw [← z]; exact hr)
      have s4 : Same H3 (L2.upd H3 r (.tup (xs ++ ys))) := Same.new (Same.refl _) hr
      exact q _ _ ((s2.trans s3).trans s4) (.tup (SqT.of (R.new ((k.trans (Kp.of s2)).trans (Kp.of s3)) (same_at (s2.trans s3) n) hr)) ((hx.append hy).rk R (Kp.of s4)))
/-- te[:k], k written -/
theorem evD_head (R : Res p H w) {m : Bool} {te : TE} {ds : List PyData} (h : EvD K m p w te σ H (.tuple ds)) (k : Nat) : EvD K m p w (tSl (rSlA K) te tNoPart (tPart (tC (.int (k : Int))))) σ H (.tuple (ds.take k)) :=
  fun H1 kp n Q q => h H1 kp n _ fun x H2 s2 dx => by
    obtain ⟨a, xs, rfl, hs, hx⟩ := dx.tup_of
    have lx := hx.len
    refine ⟨_, rfl, a, xs, rfl, hs.ext (R.sub H2), fun e => ?_, fun _ r hr => ?_⟩
    · have e2 : HT.sIx xs.length xs.length (some (k : Int)) = xs.length := e.2
      rw [sIx_some] at e2
      exact q _ _ s2 (by rw [List.take_of_length_le (by omega)]; exact dx)
    · have nr : r ≠ p := fun z => same_at s2 n (by rw [← z]; exact hr)
      have s4 : Same H2 (L2.upd H2 r (.tup (cutV xs none (some (k : Int))))) := Same.new (Same.refl _) hr
      refine q _ _ (s2.trans s4) (.tup (SqT.of (R.new (kp.trans (Kp.of s2)) (same_at s2 n) hr)) ?_)
      rw [cutV_to]
      rw [cutV_to] at s4
      exact (hx.take k).rk R (Kp.of s4)
theorem evD_strI {m : Bool} {te : TE} {i : Int} (h : EvI p te σ H i) (l : i.natAbs.log2 < 1920) : EvD K m p w (tCB (fun xs H Q => ∃ i, xs = [.int i] ∧ i.natAbs.log2 < 1920 ∧ Q (.str (toString i)) H) (tCons te tNil)) σ H (.str (toString i)) :=
  fun H1 k n Q q => h H1 k n _ fun H2 s2 => ⟨i, rfl, l, q _ _ s2 (.str _)⟩
theorem evI_int1 {te : TE} {i : Int} (h : EvI p te σ H i) : EvI p (tCB (fun xs H Q => (∃ i, xs = [.int i] ∧ Q (.int i) H) ∨ ∃ k, xs = [.bl k] ∧ Q (.int (if k then 1 else 0)) H) (tCons te tNil)) σ H i :=
  fun H1 k n Q q => h H1 k n _ fun H2 s2 => .inl ⟨i, rfl, q _ s2⟩
/-- a list display of data, so that its items can be drawn -/
theorem menu_here (R : Res p H w) {P : PyData → Prop} {ta : TA} {Q : VK} {ds : List PyData} (n : H p ≠ none) (hd : Res p H w → EvDs K true p w ta σ H ds) (hp : ∀ d ∈ ds, P d) (h0 : 0 < ds.length) (h4 : ds.length ≤ 40)
    (q : ∀ M H' xs, Same H H' → H M = none → M ≠ p → H' M = some (.lst xs) → (M == sysModules) = false → DgAll K (w H') true xs ds → (∀ d ∈ ds, P d) → 0 < ds.length → ds.length ≤ 40 → Q (.ref M) H') : tLstS ta σ H Q := by
  refine hd R H (Kp.refl p H) n _ fun xs H2 s2 dxs => ⟨by rw [dxs.len]; exact Nat.le_trans h4 (by decide), fun r hr low => ?_⟩
  have nr : r ≠ p := fun z => same_at s2 n (by rw [← z]; exact hr)
  have s3 : Same H2 (L2.upd H2 r (.lst xs)) := Same.new (Same.refl _) hr
  exact q r _ xs (s2.trans s3) (s2.free hr) nr upd_same low (dxs.rk R (Kp.of s3)) hp h0 h4
end
theorem cutV_fr (xs : List V) (n : Nat) : cutV xs (some (n : Int)) none = xs.drop n := by
  unfold cutV
  rw [HT.sIx_none, sIx_some]
  rcases Nat.le_total n xs.length with h | h
  · rw [Nat.min_eq_left h, List.take_of_length_le (by rw [List.length_drop]; exact Nat.le_refl _)]
  · rw [Nat.min_eq_right h, List.drop_of_length_le h, List.drop_of_length_le (Nat.le_refl _), List.take_nil]
section
variable {K : PySem.W.Frag} {p : Addr} {H : Hp} {m : Bool} {x : V} {ds : List PyData} {Q : VK}
theorem sl_take (n : H p ≠ none) (dx : Dw K p H m x (.tuple ds)) (k : Nat) (q : ∀ y H', Same H H' → Dw K p H' m y (.tuple (ds.take k)) → Q y H') : rSlA K x none (some (k : Int)) H Q := by
  obtain ⟨a, xs, rfl, hs, hx⟩ := dx.tup_of
  have lx := hx.len
  refine ⟨a, xs, rfl, hs.ext (wo_same H p), fun e => ?_, fun _ r hr => ?_⟩
  · have e2 : HT.sIx xs.length xs.length (some (k : Int)) = xs.length := e.2
    rw [sIx_some] at e2
    exact q _ _ (Same.refl _) (by rw [List.take_of_length_le (by omega)]; exact dx)
  · have nr : r ≠ p := fun z => n (by rw [← z]; exact hr)
    rw [cutV_to]
    have s4 : Same H (L2.upd H r (.tup (xs.take k))) := Same.new (Same.refl _) hr
    exact q _ _ s4 (.tup (SqT.of (by rw [wo_ne nr]; exact upd_same)) ((hx.take k).kp (Kp.of s4)))
theorem sl_drop (n : H p ≠ none) (dx : Dw K p H m x (.tuple ds)) (k : Nat) (q : ∀ y H', Same H H' → Dw K p H' m y (.tuple (ds.drop k)) → Q y H') : rSlA K x (some (k : Int)) none H Q := by
  obtain ⟨a, xs, rfl, hs, hx⟩ := dx.tup_of
  have lx := hx.len
  refine ⟨a, xs, rfl, hs.ext (wo_same H p), fun e => ?_, fun _ r hr => ?_⟩
  · have e2 : HT.sIx xs.length 0 (some (k : Int)) = 0 := e.1
    rw [sIx_some] at e2
    have : ds.drop k = ds := by
      rcases Nat.eq_zero_or_pos k with z | z
      · rw [z, List.drop_zero]
      · have : ds = [] := List.length_eq_zero_iff.mp (by omega)
        rw [this]; simp
    exact q _ _ (Same.refl _) (by rw [this]; exact dx)
  · have nr : r ≠ p := fun z => n (by rw [← z]; exact hr)
    rw [cutV_fr]
    have s4 : Same H (L2.upd H r (.tup (xs.drop k))) := Same.new (Same.refl _) hr
    exact q _ _ s4 (.tup (SqT.of (by rw [wo_ne nr]; exact upd_same)) ((hx.drop k).kp (Kp.of s4)))
theorem cat_tup {y : V} {es : List PyData} (n : H p ≠ none) (dx : Dw K p H m x (.tuple ds)) (dy : Dw K p H m y (.tuple es)) (l : ds.length + es.length ≤ 10000) (q : ∀ z H', Same H H' → Dw K p H' m z (.tuple (ds ++ es)) → Q z H') : rCatA K x y H Q := by
  obtain ⟨a, xs, rfl, hs, hx⟩ := dx.tup_of
  obtain ⟨b, ys, rfl, ht, hy⟩ := dy.tup_of
  have lx := hx.len
  have ly := hy.len
  refine ⟨a, b, xs, ys, rfl, rfl, hs.ext (wo_same H p), ht.ext (wo_same H p), by rw [lx, ly]; exact Nat.le_trans l (by decide), fun e => ?_, fun _ e => ?_, fun _ _ r hr => ?_⟩
  · subst e
    have : ds = [] := List.length_eq_zero_iff.mp (by rw [← lx]; rfl)
    subst this
    exact q _ _ (Same.refl _) dy
  · subst e
    have : es = [] := List.length_eq_zero_iff.mp (by rw [← ly]; rfl)
    subst this
    exact q _ _ (Same.refl _) (by rw [List.append_nil]; exact dx)
  · have nr : r ≠ p := fun z => n (by rw [← z]; exact hr)
    have s4 : Same H (L2.upd H r (.tup (xs ++ ys))) := Same.new (Same.refl _) hr
    exact q _ _ s4 (.tup (SqT.of (by rw [wo_ne nr]; exact upd_same)) ((hx.append hy).kp (Kp.of s4)))
/-- a new tuple of one -/
theorem one_tup {d : PyData} (n : H p ≠ none) (dx : Dw K p H m x d) : ∀ r, H r = none → Same H (L2.upd H r (.tup [x])) ∧ Dw K p (L2.upd H r (.tup [x])) m (.ref r) (.tuple [d]) := fun r hr => by
  have nr : r ≠ p := fun z => n (by rw [← z]; exact hr)
  have s4 : Same H (L2.upd H r (.tup [x])) := Same.new (Same.refl _) hr
  exact ⟨s4, .tup (SqT.of (by rw [wo_ne nr]; exact upd_same)) (.cons (dx.kp (Kp.of s4)) .nil)⟩
end
/-- an item of a list of data -/
theorem _root_.L2.DgAll.nth {K : PySem.W.Frag} {H : Hp} {m : Bool} {xs : List V} {ds : List PyData} (h : DgAll K H m xs ds) {i : Nat} (l : i < ds.length) : ∃ x d, xs[i]? = some x ∧ ds[i]? = some d ∧ Dg K H m x d := by
  have l' : i < xs.length := by rw [h.len]; exact l
  obtain ⟨d, e, g⟩ := h.at i xs[i] (List.getElem?_eq_getElem l')
  exact ⟨_, d, List.getElem?_eq_getElem l', e, g⟩
/-! ### small data -/
def wid (k : Nat) : Nat := 100 * 6 ^ k
def Lv (k : Nat) (d : PyData) : Prop := Fit d k (wid k)
theorem lv_up {k : Nat} {d : PyData} (h : Lv k d) : Lv (k + 1) d := Fit.mono h (Nat.le_succ _) (by unfold wid; rw [Nat.pow_succ]; omega)
theorem FitAll.all {k w : Nat} : ∀ {ds : List PyData}, (∀ d ∈ ds, Fit d k w) → FitAll ds k ((w + 1) * ds.length)
  | [], _ => FitAll.nil
  | d :: ds, h => (FitAll.cons (h d List.mem_cons_self) (FitAll.all fun e he => h e (List.mem_cons_of_mem _ he))).mono (Nat.le_refl _) (by rw [List.length_cons, Nat.mul_succ]; omega)
theorem lv_len {k n : Nat} (h : n ≤ 5) : (wid k + 1) * n ≤ wid (k + 1) := by
  have e : wid (k + 1) = 6 * wid k := by unfold wid; rw [Nat.pow_succ]; omega
  have p : 100 ≤ wid k := by unfold wid; exact Nat.le_mul_of_pos_right 100 (Nat.pow_pos (by decide))
  rw [e]
  have := Nat.mul_le_mul_left (wid k + 1) h
  omega
theorem lv_tup {k : Nat} {ds : List PyData} (h : ∀ d ∈ ds, Lv k d) (l : ds.length ≤ 5) : Lv (k + 1) (.tuple ds) := Fit.mono (Fit.tuple (FitAll.all h)) (Nat.le_refl _) (lv_len l)
theorem lv_lst {k : Nat} {ds : List PyData} (h : ∀ d ∈ ds, Lv k d) (l : ds.length ≤ 5) : Lv (k + 1) (.list ds) := Fit.mono (Fit.list (FitAll.all h)) (Nat.le_refl _) (lv_len l)
theorem lv0 {d : PyData} (k : Nat) (h : Lv 0 d) : Lv k d := by
  induction k with
  | zero => exact h
  | succ k ih => exact lv_up ih
theorem lv_non {k : Nat} : Lv k .none := lv0 k (Fit.none.mono (Nat.le_refl _) (Nat.zero_le _))
theorem lv_bl {k : Nat} {b : Bool} : Lv k (.bool b) := lv0 k (Fit.bool.mono (Nat.le_refl _) (Nat.zero_le _))
theorem fit_int {i : Int} {k : Nat} (h : i.natAbs < 10 ^ 30) : Fit (.int i) k 100 := by
  have lg : i.natAbs.log2 < 100 := PySem.Flt.log2_lt_of (by decide) (Nat.lt_of_lt_of_le h (by decide))
  refine ⟨?_, ?_, ?_, ?_⟩
  · simp only [PyData.showable, decide_eq_true_eq]
    exact Nat.lt_trans lg (by decide)
  · unfold PyData.depth; omega
  · have e := int_text_length_le10 (a := i) (k := 30) (by decide) h
    have e2 : (PyData.int i).shown = Str.ofString (toString i) := by simp only [PyData.shown]
    unfold PyData.leavesShort
    refine decide_eq_true ?_
    rw [e2, PySem.ofString_length]
    omega
  · simp only [PyData.weight]
    split <;> omega
theorem lv_int {k : Nat} {i : Int} (h : i.natAbs < 10 ^ 30) : Lv k (.int i) := lv0 k (fit_int h)
theorem lv_str {k : Nat} {z : List Nat} (h : z.length ≤ 100) (hc : ∀ c ∈ z, c < 200) : Lv k (.str (S z)) := lv0 k (Fit.str h hc)
theorem lv_emp {k : Nat} : Lv (k + 1) (.dict []) := Fit.mono (Fit.dict (k := k) FitKv.nil) (Nat.le_refl _) (Nat.zero_le _)
theorem all_nil {P : PyData → Prop} : ∀ d ∈ ([] : List PyData), P d := fun d h => by cases h
theorem all_cons {P : PyData → Prop} {e : PyData} {es : List PyData} (h : P e) (t : ∀ d ∈ es, P d) : ∀ d ∈ e :: es, P d := fun d hd => by
  rcases List.mem_cons.mp hd with q | q
  · rw [q]; exact h
  · exact t d q
theorem all_app {P : PyData → Prop} {a b : List PyData} (h : ∀ d ∈ a, P d) (g : ∀ d ∈ b, P d) : ∀ d ∈ a.append b, P d := fun d hd => (List.mem_append.mp hd).elim (h d) (g d)
theorem Lv.sh {k : Nat} {d : PyData} (h : Lv k d) (hk : k ≤ 3) : Sh d := by
  have : k = 0 ∨ k = 1 ∨ k = 2 ∨ k = 3 := by omega
  rcases this with rfl | rfl | rfl | rfl
  · exact Fit.sh h (by omega) (by decide)
  · exact Fit.sh h (by omega) (by decide)
  · exact Fit.sh h (by omega) (by decide)
  · exact Fit.sh h (by omega) (by decide)
theorem lv_any {k : Nat} {z : Str} (h : (cs z).length ≤ 100) (hc : (cs z).all (fun c => decide (c < 200)) = true) : Lv k (.str z) := by
  rw [← S_of z]
  exact lv_str h fun c hm => of_decide_eq_true (List.all_eq_true.mp hc c hm)
theorem lv_digit {k a : Nat} (h : a < 5) : Lv k (.str (Str.ofString (toString (a : Int)))) := by
  match a, h with
  | 0, _ => exact lv_any (by decide +kernel) (by decide +kernel)
  | 1, _ => exact lv_any (by decide +kernel) (by decide +kernel)
  | 2, _ => exact lv_any (by decide +kernel) (by decide +kernel)
  | 3, _ => exact lv_any (by decide +kernel) (by decide +kernel)
  | 4, _ => exact lv_any (by decide +kernel) (by decide +kernel)
end My

set_option Elab.async false
set_option linter.all false
set_option maxRecDepth 100000
set_option maxHeartbeats 4000000
/-! Comprehensions of two clauses over ranges; lists of new data that grow. -/
namespace L2
open PySem PySem.Spec PyProof.Rows
theorem lc2_range {lo : Int} {n : Nat} {g g1 : TG} {tt tt1 : TT} {te : TE} {wi1 : TI} {vs vs1 : List Nat} {σ : St} {H1 : Hp} {D : Addr} {Qd : Hp → Prop} (Pv : Nat → Hp → Prop) (h0 : Pv 0 (upd H1 D (.lst [])))
    (hs : ∀ i H, i < n → Pv i H → g (.int (lo + i)) (wipe σ vs) H fun σ2 H2 => wipe σ2 vs = wipe σ vs ∧ tt σ2 H2 fun b H3 =>
      if b = true then wi1 σ2 H3 fun J1 H4 => ∃ W1 : Nat → Nat → Hp → Prop, (∃ m, W1 0 m H4) ∧ ∀ j k H, W1 j k H →
        (J1.stop j H ∧ Pv (i + 1) H) ∨ (J1.go j H ∧ ∃ Nx1 : Hp → Prop, (∀ H', Nx1 H' → ∃ k', k' < k ∧ W1 (j + 1) k' H') ∧ ∀ x H', J1.yld j H x H' → g1 x (wipe σ2 vs1) H' fun σ3 H5 => wipe σ3 vs1 = wipe σ2 vs1 ∧ tt1 σ3 H5 fun b H6 =>
          if b = true then te σ3 H6 fun y H7 => ∃ acc, H7 D = some (.lst acc) ∧ acc.length < sizeLine ∧ Nx1 (upd H7 D (.lst (acc ++ [y]))) else Nx1 H6)
      else Pv (i + 1) H3) (hd : ∀ H, Pv n H → Qd H) :
    ∃ W : Nat → Nat → Hp → Prop, (∃ m, W 0 m (upd H1 D (.lst []))) ∧ ∀ i m H, W i m H →
      ((Itr lo n).stop i H ∧ Qd H) ∨ ((Itr lo n).go i H ∧ ∃ Nx : Hp → Prop, (∀ H', Nx H' → ∃ m', m' < m ∧ W (i + 1) m' H') ∧ ∀ x H', (Itr lo n).yld i H x H' → g x (wipe σ vs) H' fun σ2 H2 => wipe σ2 vs = wipe σ vs ∧ tt σ2 H2 fun b H3 =>
        if b = true then wi1 σ2 H3 fun J1 H4 => ∃ W1 : Nat → Nat → Hp → Prop, (∃ m, W1 0 m H4) ∧ ∀ j k H, W1 j k H →
          (J1.stop j H ∧ Nx H) ∨ (J1.go j H ∧ ∃ Nx1 : Hp → Prop, (∀ H', Nx1 H' → ∃ k', k' < k ∧ W1 (j + 1) k' H') ∧ ∀ x H', J1.yld j H x H' → g1 x (wipe σ2 vs1) H' fun σ3 H5 => wipe σ3 vs1 = wipe σ2 vs1 ∧ tt1 σ3 H5 fun b H6 =>
            if b = true then te σ3 H6 fun y H7 => ∃ acc, H7 D = some (.lst acc) ∧ acc.length < sizeLine ∧ Nx1 (upd H7 D (.lst (acc ++ [y]))) else Nx1 H6)
        else Nx H3) := by
  refine ⟨fun i m H => m = n - i ∧ i ≤ n ∧ Pv i H, ⟨n, by simp, Nat.zero_le _, h0⟩, ?_⟩
  rintro i m H ⟨rfl, hi, p⟩
  by_cases hlt : i < n
  · refine .inr ⟨hlt, Pv (i + 1), fun H' p' => ⟨n - (i + 1), by omega, rfl, hlt, p'⟩, fun x H' y => ?_⟩
    obtain ⟨e, y⟩ := y
    subst e y
    exact hs i _ hlt p
  · have e : i = n := by omega
    subst e
    exact .inl ⟨Nat.le_refl _, hd H p⟩
theorem lcr_inner {lo : Int} {n : Nat} {g : TG} {tt : TT} {te : TE} {vs : List Nat} {σ : St} {H4 : Hp} {D : Addr} {Qd : Hp → Prop} (Pv : Nat → Hp → Prop) (h0 : Pv 0 H4)
    (hs : ∀ i H, i < n → Pv i H → g (.int (lo + i)) (wipe σ vs) H fun σ2 H2 => wipe σ2 vs = wipe σ vs ∧ tt σ2 H2 fun b H3 =>
      if b = true then te σ2 H3 fun y H4 => ∃ acc, H4 D = some (.lst acc) ∧ acc.length < sizeLine ∧ Pv (i + 1) (upd H4 D (.lst (acc ++ [y]))) else Pv (i + 1) H3) (hd : ∀ H, Pv n H → Qd H) :
    ∃ W : Nat → Nat → Hp → Prop, (∃ m, W 0 m H4) ∧ ∀ i m H, W i m H →
      ((Itr lo n).stop i H ∧ Qd H) ∨ ((Itr lo n).go i H ∧ ∃ Nx : Hp → Prop, (∀ H', Nx H' → ∃ m', m' < m ∧ W (i + 1) m' H') ∧ ∀ x H', (Itr lo n).yld i H x H' → g x (wipe σ vs) H' fun σ2 H2 => wipe σ2 vs = wipe σ vs ∧ tt σ2 H2 fun b H3 =>
        if b = true then te σ2 H3 fun y H4 => ∃ acc, H4 D = some (.lst acc) ∧ acc.length < sizeLine ∧ Nx (upd H4 D (.lst (acc ++ [y]))) else Nx H3) := by
  refine ⟨fun i m H => m = n - i ∧ i ≤ n ∧ Pv i H, ⟨n, by simp, Nat.zero_le _, h0⟩, ?_⟩
  rintro i m H ⟨rfl, hi, p⟩
  by_cases hlt : i < n
  · refine .inr ⟨hlt, Pv (i + 1), fun H' p' => ⟨n - (i + 1), by omega, rfl, hlt, p'⟩, fun x H' y => ?_⟩
    obtain ⟨e, y⟩ := y
    subst e y
    exact hs i _ hlt p
  · have e : i = n := by omega
    subst e
    exact .inl ⟨Nat.le_refl _, hd H p⟩
end L2
namespace My
open PySem PySem.Spec PyProof.Rows L2
/-- the list at D, new since H1, holds the data ds, of which it is no part -/
def Ac (K : PySem.W.Frag) (H1 : Hp) (D : Addr) (ds : List PyData) (H : Hp) : Prop := Same H1 H ∧ ∃ acc, H D = some (.lst acc) ∧ DwAll K D H true acc ds
theorem Ac.start {K : PySem.W.Frag} {H1 : Hp} {D : Addr} (hD : H1 D = none) : Ac K H1 D [] (L2.upd H1 D (.lst [])) := ⟨Same.new (Same.refl _) hD, [], upd_same, .nil⟩
theorem Ac.snoc {K : PySem.W.Frag} {H1 H H2 : Hp} {D : Addr} {ds : List PyData} {y : V} {d : PyData} (h : Ac K H1 D ds H) (hD : H1 D = none) (l : ds.length ≤ 10000) (s : Same H H2) (dy : Dw K D H2 true y d) :
    ∃ acc, H2 D = some (.lst acc) ∧ acc.length < sizeLine ∧ Ac K H1 D (ds ++ [d]) (L2.upd H2 D (.lst (acc ++ [y]))) := by
  obtain ⟨s1, acc, e, ha⟩ := h
  refine ⟨acc, s _ _ e, by rw [ha.len]; exact Nat.lt_of_le_of_lt l (by decide), fun b o q => ?_, acc ++ [y], upd_same, ?_⟩
  · rw [upd_ne (ne_of_none q hD)]; exact s _ _ (s1 _ _ q)
  · show DgAll K (wo (L2.upd H2 D _) D) true _ _
    rw [wo_upd]
    exact (ha.kp (Kp.of s)).append (.cons dy .nil)
/-- a new tuple for it -/
theorem dw_tup {K : PySem.W.Frag} {H : Hp} {D q : Addr} {xs : List V} {es : List PyData} (e : H D ≠ none) (hq : H q = none) (h : DwAll K D H true xs es) : Dw K D (L2.upd H q (.tup xs)) true (.ref q) (.tuple es) := by
  have n : q ≠ D := fun z => e (by rw [← z]; exact hq)
  exact .tup (SqT.of (by rw [wo_ne n]; exact upd_same)) (h.kp ((Kp.refl D H).new hq))
theorem Ac.ne {K : PySem.W.Frag} {H1 H : Hp} {D : Addr} {ds : List PyData} (h : Ac K H1 D ds H) : H D ≠ none := by
  obtain ⟨_, acc, e, _⟩ := h
  rw [e]; exact fun z => by cases z
/-- one more tuple of known items -/
theorem Ac.tup {K : PySem.W.Frag} {H1 H : Hp} {D q : Addr} {ds es : List PyData} {xs : List V} (h : Ac K H1 D ds H) (hD : H1 D = none) (l : ds.length ≤ 10000) (hq : H q = none) (hx : ∀ G, DgAll K G true xs es) :
    ∃ acc, L2.upd H q (.tup xs) D = some (.lst acc) ∧ acc.length < sizeLine ∧ Ac K H1 D (ds ++ [.tuple es]) (L2.upd (L2.upd H q (.tup xs)) D (.lst (acc ++ [.ref q]))) :=
  h.snoc hD l (Same.new (Same.refl _) hq) (dw_tup h.ne hq (hx _))
theorem same_wo {H : Hp} {p : Addr} {o : HO} (h : H p = none) : Same H (wo (L2.upd H p o) p) := fun b ob e => by
  have n : b ≠ p := fun z => by rw [z, h] at e; cases e
  rw [wo_ne n, upd_ne n]; exact e
end My

set_option Elab.async false
set_option linter.all false
set_option maxRecDepth 100000
set_option maxHeartbeats 2000000
namespace PySem
open PyProof.Rows
theorem Walks.tupleOn {prog : Program} {w : World} {A : Around} (hh : A.handled = none) (I ax : Addr) (hne : ax ≠ I) (items : Array Value) (k : Nat) (hk : k ≤ items.size) :
    Walks prog w A I [I, ax] [I] (items.size - k) (fun i v => items[k + i]? = some v) (fun i h => h.IsTupleIter I ax (k + i) ∧ h.IsTuple ax items) where
  sub := fun b hb => by simp at hb; simp [hb]
  frame := fun _ _ _ st hk => ⟨st.1.at fun o e => hk I (by simp) o e, st.2.at fun o e => hk ax (by simp) o e⟩
  item := fun i s Q E hi st hQ => by
    have hi' : k + i < items.size := by omega
    refine wpAny_pyNext_tuple_item st.1 st.2 (x := items[k + i]) (by simp [hi']) fun h' hit' hs' => ?_
    exact hQ _ h' s.toks (by simp [hi']) ⟨hit', st.2.extBut hs'.extBut hne⟩ fun b o hb e => hs'.extBut b o (fun h => hb (by simp [h])) e
  done := fun s Q E st hQ => wpAny_pyNext_tuple_end hh st.1 st.2 (by simp; omega) fun h' he' => hQ h' s.toks fun b o hb e => he' b o (fun h => hb (by simp [h])) e
  self := fun _ _ _ _ st hQ => wpAny_pyIter_tupleiter st.1 hQ
section
variable {prog : Program} {w : World} {A : Around} {E : Value → Shared → Prop} {s : Shared}
theorem unpackStar {t : Addr} {items : Array Value} {Q : List Value → Shared → Prop} (hh : A.handled = none) (ht : s.heap.IsTuple t items) (h1 : 1 ≤ items.size) (hz : items.size ≤ sizeLine)
    (hQ : ∀ s', Moved [s.heap.objs.size] (fun a b => b = a) s s' → Q [items[0], .ref s'.heap.objs.size] { s' with heap := s'.heap.push { cls := .type "list", data := .seq (items.toList.drop 1).toArray } }) :
    wpAny (model prog w) A (unpackItems (.ref t) 2 (some 1)) Q E s := by
  have hlt : t ≠ s.heap.objs.size := by obtain ⟨o, ho, _⟩ := ht; exact Nat.ne_of_lt (Heap.lt_size ho)
  unfold unpackItems
  refine wpAny_bind ?_
  unfold notIterableAtAll
  refine wpAny_bind (wpAny_specialOf ht.typeIs F.slot_tuple_iter.lookup ?_)
  refine wpAny_pure ?_
  simp only [Bool.false_eq_true, if_false]
  refine wpAny_bind (wpAny_holding (wpAny_pyIter_tuple ht ?_))
  refine wpAny_bind (wpAny_holding (wpAny_draw_tuple hlt 1 0 _ _ ⟨_, Heap.get?_push_size _ rfl, rfl, rfl⟩ (ht.push _) (by omega) fun h₁ hit₁ hs₁ => ?_))
  have hone : List.take 1 (List.drop 0 items.toList) = [items[0]] := by
    rw [List.drop_zero]
    have : items.toList = items[0] :: items.toList.drop 1 := by
      have := List.drop_eq_getElem_cons (l := items.toList) (i := 0) (by rw [Array.length_toList]; omega)
      simpa using this
    rw [this]; rfl
  rw [hone, if_neg (by simp)]
  have W := (Walks.tupleOn (prog := prog) (w := w) (A := A.in1) hh s.heap.objs.size t hlt items 1 h1).toS
  have k0 : ∀ b o, b ∉ [s.heap.objs.size] → s.heap.get? b = some o → h₁.get? b = some o := fun b o hb e => hs₁.extBut b o (fun z => hb (by simp [z])) (Heap.get?_push_of_some _ e)
  have sz1 : s.heap.objs.size < h₁.objs.size := by
    obtain ⟨o, ho, _⟩ := hit₁
    exact Heap.lt_size ho
  refine wpAny_bind (wpAny_holding (wpAny_collect_iter (T := "tuple_iterator") (.inr (.inr (.inr rfl))) W (fun i s' st => st.1.typeIs) ⟨hit₁, (ht.push _).extBut hs₁.extBut hlt⟩ ?_ (by simp) (fun s' acc hm hacc => ?_) (by omega)))
  · intro b hb
    rcases List.mem_cons.mp hb with rfl | hb
    · exact sz1
    · rw [List.mem_singleton.mp hb]
      obtain ⟨o, ho, _⟩ := ht
      exact Nat.lt_trans (Heap.lt_size ho) sz1
  · have el : acc.toList = items.toList.drop 1 := by
      obtain ⟨e1, e2⟩ := hacc
      apply List.ext_getElem?
      intro i
      rw [List.getElem?_drop, Array.getElem?_toList, Array.getElem?_toList]
      by_cases hi : i < acc.size
      · have g : acc[i]? = some acc[i] := by simp [hi]
        rw [g]; exact (e2 i _ g).symm
      · have a1 : acc[i]? = none := by simp; omega
        have a2 : items[1 + i]? = none := by simp; omega
        rw [a1, a2]
    rw [el, if_neg (by simp)]
    have et : List.take ((items.toList.drop 1).length - (2 - 1 - 1)) (items.toList.drop 1) = items.toList.drop 1 := by rw [show 2 - 1 - 1 = 0 from rfl, Nat.sub_zero, List.take_length]
    have ed : List.drop ((items.toList.drop 1).length - (2 - 1 - 1)) (items.toList.drop 1) = [] := by rw [show 2 - 1 - 1 = 0 from rfl, Nat.sub_zero, List.drop_length]
    rw [et, ed]
    refine wpAny_bind (wpAny_newList (wpAny_pure ?_) ?_)
    · exact hQ s' ⟨fun b o hb e => hm.heap b o hb (k0 b o hb e), hm.gens, hm.drawn, hm.os, hm.toks⟩
    · simp; omega
end
end PySem
namespace L2
open PySem PySem.Spec PyProof.Rows
section
variable {X : Cx} {pos : Pos}
/-- x, *rest = v (v a tuple of one item or more): rest becomes a new list -/
def gStar (K : PySem.W.Frag) (t : TGs) : TG := fun v σ H Q => ∃ a x xs, v = .ref a ∧ SqT K H a (x :: xs) ∧ ∀ p, H p = none → t [x, .ref p] σ (upd H p (.lst xs)) Q
theorem pg_star {e1 e2 : Expr} {k : Nat} {p2 : Pos} {t : TGs} (hc : X.calm = true) (h : PGs X [e1, e2] t)
    (hn : (assignEach [e1, .Starred e2 p2] X.env).length = 2 := by rfl) (hst : (assignEach [e1, .Starred e2 p2] X.env).findIdx? (·.1) = some 1 := by rfl)
    (hm : (assignEach [e1, .Starred e2 p2] X.env).map (·.2) = (assignEach [e1, e2] X.env).map (·.2) := by rfl) : PG X (.Tuple [e1, .Starred e2 p2] k pos) (gStar X.K t) := by
  refine ⟨fun pins s σ H v u Q I r hw => ?_⟩
  obtain ⟨a, x, xs, e1', hq, hw⟩ := hw
  subst e1'
  cases r
  obtain ⟨its, rv, ht, hz⟩ := I.tuple hq
  rw [assign_Tuple]
  refine wpAny_bind (wpAny_standAt ?_)
  unfold unpack
  rw [hn, hst, hm]
  cases rv with
  | cons r0 rv =>
    rename_i u0 us
    refine wpAny_bind (wpAny_holding (unpackStar (items := (u0 :: us).toArray) (I.ok.hd hc) ht (by simp) (by simp; have := rv.length; simp at hz; omega) fun s' mv => ?_))
    have I1 : Inv X pins σ H s' := by
      rw [Moved.eq_with mv]
      exact I.kept (t' := s'.toks) fun b o e => mv.heap b o (fun z => by have h1 := Heap.lt_size e; rw [List.mem_singleton.mp z] at h1; exact Nat.lt_irrefl _ h1) e
    have hf : H s'.heap.objs.size = none := I1.hok.fresh (Nat.le_refl _)
    have I2 : Inv X pins σ (upd H s'.heap.objs.size (.lst xs)) { s' with heap := s'.heap.push { cls := .type "list", data := .seq ((u0 :: us).drop 1).toArray }, toks := s'.toks } := by
      refine I1.laid (t' := s'.toks) (fun b u e => Heap.get?_push_of_some _ e) (Nat.le_refl _) ?_
      exact ⟨by simp at hz; omega, us, 0, rv, Heap.get?_push_size _ rfl⟩
    exact h.run pins _ σ _ [x, .ref s'.heap.objs.size] [u0, .ref s'.heap.objs.size] Q I2 (.cons r0 (.cons rfl .nil)) (hw _ hf)
end
end L2

set_option Elab.async false
set_option linter.all false
set_option maxRecDepth 100000
set_option maxHeartbeats 4000000
/-! A value that is a list or a tuple: its items, a slice of it, walked through; a body behind a call that never comes back. -/
namespace L2
open PySem PySem.Spec PyProof.Rows
section
variable {X : Cx} {K : PySem.W.Frag}
def rIxQ (K : PySem.W.Frag) : R2 := fun x y H Q => rIxL K x y H Q ∨ rIxT K x y H Q
theorem ix_q : IxR X (rIxQ X.K) := by
  intro value slice pins s σ H x y v u Q I rx ry h hs
  rcases h with h | h
  · exact ix_list value slice pins s σ H x y v u Q I rx ry h hs
  · exact ix_tup value slice pins s σ H x y v u Q I rx ry h hs
theorem ix_qK (e : X.K = K) : IxR X (rIxQ K) := by rw [← e]; exact ix_q
def rSlQ (K : PySem.W.Frag) : V → Option Int → Option Int → Hp → VK → Prop := fun x lo hi H Q => rSlL K x lo hi H Q ∨ rSlA K x lo hi H Q
theorem sl_q : SlR X (rSlQ X.K) := SlR.or sl_list sl_tupA
def iSq (K : PySem.W.Frag) (tl : TE) : TI := fun σ H R => tl σ H fun x H1 => ∃ a, x = .ref a ∧ ((∃ xs, SqL K H1 a xs) ∧ R (Itl K a) H1 ∨ (∃ xs, SqT K H1 a xs) ∧ R (Itt K a) H1)
theorem pi_sq {tg l : Expr} {tl : TE} (hl : PE X l tl) : PI X tg l (iSq X.K tl) := by
  refine ⟨fun pins s σ H R I h => ?_⟩
  refine thn (hl.run pins s σ H _ I h) fun v s1 ⟨x, H1, I1, r1, q1⟩ => ?_
  obtain ⟨a, e, q1⟩ := q1
  subst e
  cases r1
  rcases q1 with ⟨⟨xs, hq⟩, q⟩ | ⟨⟨xs, hq⟩, q⟩
  · obtain ⟨its, rv, p, hz⟩ := I1.list hq
    refine wpAny_pyIter_list p.isList ?_
    refine ⟨s1.heap.objs.size, [s1.heap.objs.size], _, _, H1, rfl, I1.kept (t' := s1.toks) fun b o e => Heap.get?_push_of_some _ e, turn_list a _, ⟨_, Heap.get?_push_size _ rfl, rfl, rfl⟩, fun b hb => ?_, q⟩
    have e : b = s1.heap.objs.size := by simpa using hb
    subst e
    exact I1.fpOk (Nat.le_refl _) (I1.hok.fresh (Nat.le_refl _))
  · obtain ⟨its, rv, p, hz⟩ := I1.tuple hq
    refine wpAny_pyIter_tuple (show s1.heap.IsTuple a its.toArray from p) ?_
    refine ⟨s1.heap.objs.size, [s1.heap.objs.size], _, _, H1, rfl, I1.kept (t' := s1.toks) fun b o e => Heap.get?_push_of_some _ e, turn_tuple a _, ⟨_, Heap.get?_push_size _ rfl, rfl, rfl⟩, fun b hb => ?_, q⟩
    have e : b = s1.heap.objs.size := by simpa using hb
    subst e
    exact I1.fpOk (Nat.le_refl _) (I1.hok.fresh (Nat.le_refl _))
theorem pg_tupK {es : List Expr} {k : Nat} {t : TGs} {n : Nat} {pos : Pos} (e : X.K = K) (hc : X.calm = true) (h : PGs X es t)
    (hn : (assignEach es X.env).length = n := by rfl) (hst : (assignEach es X.env).findIdx? (·.1) = none := by rfl) : PG X (.Tuple es k pos) (gTup K n t) := by subst e; exact pg_tup hc h hn hst
/-- a statement behind which nothing is reached -/
theorem pss_dead {st : Stmt} {rest : List Stmt} {t : TS} (h1 : PS X st t) : PSs X (st :: rest) (fun D σ H => t { D with nx := fun _ _ => False } σ H) := by
  refine ⟨fun pins s σ H D I h => ?_⟩
  refine wpAny_execs_cons (thn (h1.run pins s σ H { D with nx := fun _ _ => False } I h) fun f s1 q => ?_)
  cases f with
  | next =>
    obtain ⟨_, _, _, q⟩ := q
    exact q.elim
  | ret v => exact q
  | brk => exact q
  | cont => exact q
end
end L2
namespace My
open PySem PySem.Spec PyProof.Rows L2
/-- a list, or a tuple -/
def SqQ (K : PySem.W.Frag) (H : Hp) (a : Addr) (xs : List V) : Prop := SqL K H a xs ∨ SqT K H a xs
theorem SqQ.same {K : PySem.W.Frag} {H H' : Hp} {a : Addr} {xs : List V} (h : SqQ K H a xs) (s : ∀ b o, H b = some o → H' b = some o) : SqQ K H' a xs := h.elim (fun h => .inl (h.ext s)) (fun h => .inr (h.ext s))
theorem SqQ.ix {K : PySem.W.Frag} {H : Hp} {a : Addr} {xs : List V} {i : Int} {v : V} {Q : VK} (h : SqQ K H a xs) (e : atI xs i = some v) (q : Q v H) : rIxQ K (.ref a) (.int i) H Q :=
  h.elim (fun h => .inl ⟨a, xs, i, v, rfl, rfl, h, e, q⟩) (fun h => .inr ⟨a, xs, i, v, rfl, rfl, h, e, q⟩)
/-- a comprehension over a list or a tuple -/
theorem lc_sq {K : PySem.W.Frag} {a : Addr} {xs : List V} {g : TG} {tt : TT} {te : TE} {vs : List Nat} {σ : L2.St} {H1 : Hp} {Qd : Addr → Hp → Prop} (hq : SqQ K H1 a xs)
    (h : ∀ D, H1 D = none → ∃ Pv : Nat → Hp → Prop, Pv 0 (upd H1 D (.lst [])) ∧ (∀ i H, Pv i H → Same H1 H) ∧
      (∀ i x H, xs[i]? = some x → Pv i H → g x (wipe σ vs) H fun σ2 H2 => wipe σ2 vs = wipe σ vs ∧ tt σ2 H2 fun b H3 =>
        if b = true then te σ2 H3 fun y H4 => ∃ acc, H4 D = some (.lst acc) ∧ acc.length < sizeLine ∧ Pv (i + 1) (upd H4 D (.lst (acc ++ [y]))) else Pv (i + 1) H3) ∧ ∀ H, Pv xs.length H → Qd D H) :
    ((∃ xs, SqL K H1 a xs) ∧ ∀ D, H1 D = none → ∃ W : Nat → Nat → Hp → Prop, (∃ m, W 0 m (upd H1 D (.lst []))) ∧ ∀ i m H, W i m H →
      ((Itl K a).stop i H ∧ Qd D H) ∨ ((Itl K a).go i H ∧ ∃ Nx : Hp → Prop, (∀ H', Nx H' → ∃ m', m' < m ∧ W (i + 1) m' H') ∧ ∀ x H', (Itl K a).yld i H x H' → g x (wipe σ vs) H' fun σ2 H2 => wipe σ2 vs = wipe σ vs ∧ tt σ2 H2 fun b H3 =>
        if b = true then te σ2 H3 fun y H4 => ∃ acc, H4 D = some (.lst acc) ∧ acc.length < sizeLine ∧ Nx (upd H4 D (.lst (acc ++ [y]))) else Nx H3)) ∨ ((∃ xs, SqT K H1 a xs) ∧ ∀ D, H1 D = none → ∃ W : Nat → Nat → Hp → Prop, (∃ m, W 0 m (upd H1 D (.lst []))) ∧ ∀ i m H, W i m H →
      ((Itt K a).stop i H ∧ Qd D H) ∨ ((Itt K a).go i H ∧ ∃ Nx : Hp → Prop, (∀ H', Nx H' → ∃ m', m' < m ∧ W (i + 1) m' H') ∧ ∀ x H', (Itt K a).yld i H x H' → g x (wipe σ vs) H' fun σ2 H2 => wipe σ2 vs = wipe σ vs ∧ tt σ2 H2 fun b H3 =>
        if b = true then te σ2 H3 fun y H4 => ∃ acc, H4 D = some (.lst acc) ∧ acc.length < sizeLine ∧ Nx (upd H4 D (.lst (acc ++ [y]))) else Nx H3)) := by
  rcases hq with hq | hq
  · exact .inl ⟨⟨xs, hq⟩, fun D hD => by obtain ⟨Pv, h0, hl, hs, hd⟩ := h D hD; exact lc_list (K := K) (a := a) (xs := xs) Pv h0 (fun i H hi h => hq.ext (hl i H h)) hs hd⟩
  · exact .inr ⟨⟨xs, hq⟩, fun D hD => by obtain ⟨Pv, h0, hl, hs, hd⟩ := h D hD; exact lc_tup (K := K) (a := a) (xs := xs) Pv h0 (fun i H hi h => hq.ext (hl i H h)) hs hd⟩
theorem walk_zipT {K : PySem.W.Frag} {a b : Addr} {xs ys : List V} {n : Nat} (hn : n = min xs.length ys.length) : Walk (RZ.ItzT K a b) n (fun H => SqT K H a xs ∧ SqT K H b ys) (YPair (fun i => xs[i]?) (fun i => ys[i]?)) := by
  subst hn
  refine ⟨fun i _ hi q => ?_, fun _ q => ⟨xs, ys, q.1, q.2, by omega⟩, fun i H v H' _ q y => ?_⟩
  · have h1 : i < xs.length := by omega
    have h2 : i < ys.length := by omega
    exact ⟨xs, ys, xs[i], ys[i], q.1, q.2, by simp [h1], by simp [h2]⟩
  · obtain ⟨T, x, z, h1, h2, h3, h4, h5⟩ := y
    exact ⟨T, x, z, h1, h2, h3, h4 xs q.1, h5 ys q.2⟩
/-- a comprehension over the pairs of two lists, or of two tuples -/
theorem lc_zipA {K : PySem.W.Frag} {a b : Addr} {xs ys : List V} {g : TG} {tt : TT} {te : TE} {vs : List Nat} {σ : L2.St} {H1 : Hp} {Qd : Addr → Hp → Prop} (hq : (SqL K H1 a xs ∧ SqL K H1 b ys) ∨ (SqT K H1 a xs ∧ SqT K H1 b ys))
    (h : ∀ D, H1 D = none → ∃ Pv : Nat → Hp → Prop, Pv 0 (upd H1 D (.lst [])) ∧ (∀ i H, Pv i H → Same H1 H) ∧
      (∀ i T x y H, xs[i]? = some x → ys[i]? = some y → Pv i H → H T = none → g (.ref T) (wipe σ vs) (upd H T (.tup [x, y])) fun σ2 H2 => wipe σ2 vs = wipe σ vs ∧ tt σ2 H2 fun b H3 =>
        if b = true then te σ2 H3 fun y H4 => ∃ acc, H4 D = some (.lst acc) ∧ acc.length < sizeLine ∧ Pv (i + 1) (upd H4 D (.lst (acc ++ [y]))) else Pv (i + 1) H3) ∧ ∀ H, Pv (min xs.length ys.length) H → Qd D H) :
    (SqL K H1 a xs ∧ SqL K H1 b ys ∧ ∀ D, H1 D = none → ∃ W : Nat → Nat → Hp → Prop, (∃ m, W 0 m (upd H1 D (.lst []))) ∧ ∀ i m H, W i m H →
      ((Itz K a b).stop i H ∧ Qd D H) ∨ ((Itz K a b).go i H ∧ ∃ Nx : Hp → Prop, (∀ H', Nx H' → ∃ m', m' < m ∧ W (i + 1) m' H') ∧ ∀ x H', (Itz K a b).yld i H x H' → g x (wipe σ vs) H' fun σ2 H2 => wipe σ2 vs = wipe σ vs ∧ tt σ2 H2 fun b H3 =>
        if b = true then te σ2 H3 fun y H4 => ∃ acc, H4 D = some (.lst acc) ∧ acc.length < sizeLine ∧ Nx (upd H4 D (.lst (acc ++ [y]))) else Nx H3)) ∨ (SqT K H1 a xs ∧ SqT K H1 b ys ∧ ∀ D, H1 D = none → ∃ W : Nat → Nat → Hp → Prop, (∃ m, W 0 m (upd H1 D (.lst []))) ∧ ∀ i m H, W i m H →
      ((RZ.ItzT K a b).stop i H ∧ Qd D H) ∨ ((RZ.ItzT K a b).go i H ∧ ∃ Nx : Hp → Prop, (∀ H', Nx H' → ∃ m', m' < m ∧ W (i + 1) m' H') ∧ ∀ x H', (RZ.ItzT K a b).yld i H x H' → g x (wipe σ vs) H' fun σ2 H2 => wipe σ2 vs = wipe σ vs ∧ tt σ2 H2 fun b H3 =>
        if b = true then te σ2 H3 fun y H4 => ∃ acc, H4 D = some (.lst acc) ∧ acc.length < sizeLine ∧ Nx (upd H4 D (.lst (acc ++ [y]))) else Nx H3)) := by
  rcases hq with ⟨h1, h2⟩ | ⟨h1, h2⟩
  · refine .inl ⟨h1, h2, fun D hD => ?_⟩
    obtain ⟨Pv, h0, hl, hs, hd⟩ := h D hD
    refine lc_it (walk_zip rfl) Pv h0 (fun i H _ p => ⟨h1.ext (hl i H p), h2.ext (hl i H p)⟩) ?_ hd
    rintro i v H H' hi p ⟨T, x, y, rfl, hT, rfl, ex, ey⟩
    exact hs i T x y H ex ey p hT
  · refine .inr ⟨h1, h2, fun D hD => ?_⟩
    obtain ⟨Pv, h0, hl, hs, hd⟩ := h D hD
    refine lc_it (walk_zipT rfl) Pv h0 (fun i H _ p => ⟨h1.ext (hl i H p), h2.ext (hl i H p)⟩) ?_ hd
    rintro i v H H' hi p ⟨T, x, y, rfl, hT, rfl, ex, ey⟩
    exact hs i T x y H ex ey p hT
theorem _root_.L2.Dg.lst_q {K : PySem.W.Frag} {H : Hp} {m : Bool} {x : V} {ds : List PyData} {d : PyData} (hd : d = .list ds ∨ d = .tuple ds) (h : Dg K H m x d) : ∃ a xs, x = .ref a ∧ SqQ K H a xs ∧ DgAll K H m xs ds := by
  rcases hd with rfl | rfl
  · obtain ⟨a, xs, rfl, hs, _, ha⟩ := h.lst_of
    exact ⟨a, xs, rfl, .inl hs, ha⟩
  · obtain ⟨a, xs, rfl, hs, ha⟩ := h.tup_of
    exact ⟨a, xs, rfl, .inr hs, ha⟩
end My

set_option Elab.async false
set_option linter.all false
set_option maxRecDepth 100000
set_option maxHeartbeats 4000000
/-! Instances of an own class with its own __eq__: == and != with an instance or with data. -/
namespace OwnC
open PySem PySem.Spec PyProof.Rows PySem.Builtin
section
variable {M : Model} {prog : Program} {w : World} {A : Around} {E : Value → Shared → Prop} {s : Shared} {K : PySem.W.Frag} {x C f : Addr} {ox : Obj} {od : Option Obj} {b tb : Value}
theorem ifBound_objNe {args : List Value} {Q : Option Value → Shared → Prop} (X : K.In s.heap) (I : PySem.W.InstAt s.heap x ox C od) (hs : PySem.W.findIn K (.ref C) "__ne__" = some (some (.builtin "object.__ne__")))
    (h : wpAny M A (call (.builtin "object.__ne__") (.ref x :: args)) (fun v => Q (some v)) E s) : wpAny M A (callSpecialIfBound? (.ref x) "__ne__" args) Q E s := by
  simp only [callSpecialIfBound?, bindSpecialIfBound?]
  refine wpAny_holding (wpAny_bind (wpAny_bind (wpAny_bind (I.type.here ((PySem.W.looks_findIn X hs).here ?_)))))
  refine wpAny_bind (wpAny_askSetting (wpAny_ite ?_))
  have fin : wpAny M A (call (.builtin "object.__ne__") ([.ref x] ++ args) >>= fun v => pure (some v)) Q E s := wpAny_bind (wpAny_mono h (fun v s' h' => wpAny_pure h') fun _ _ h' => h')
  split
  · exact wpAny_bind (wpAny_of_eq (F.cmp_object.ne.bind _) (wpAny_pure (by exact fin)))
  · exact wpAny_tryCatch (wpAny_bind (wpAny_of_eq (F.cmp_object.ne.bind _) (wpAny_pure (by exact fin))))
theorem entry_ne {Q : Fin → Shared → Prop} (hu : A.units < cLine) (X : K.In s.heap) (I : PySem.W.InstAt s.heap x ox C od) (hs : PySem.W.findIn K (.ref C) "__eq__" = some (some (.ref f))) (hf : PySem.W.isFn K (.ref f) = true)
    (h : wpAny (model prog w) A (call (.ref f) [.ref x, b]) (fun v s' => ∃ r, v = .bool r ∧ Q (.done (.ret (.bool (!r)))) s') E s) : wpAny (model prog w) A (Builtin.«object.__ne__» ⟨[.ref x, b], []⟩) Q E s := by
  unfold Builtin.«object.__ne__»
  refine wpAny_bind (m := slotArgs "__ne__" 1 _) (wpAny_pure ?_)
  refine wpAny_bind (m := cRoomFor _ _) (wpAny_cRoomFor hu ?_)
  refine wpAny_bind (m := callSpecialIfBound? (.ref x) (Str.ofString "__eq__") _) (PySem.W.ifBound_K X I hs hf (wpAny_mono h (fun r s' hq => ?_) fun _ _ y => y))
  obtain ⟨r, rfl, hq⟩ := hq
  refine wpAny_bind (wpAny_truthy_bool ?_)
  exact wpAny_pure hq
theorem call_ne {Q : Value → Shared → Prop} (hu : A.in1.units < cLine) (X : K.In s.heap) (I : PySem.W.InstAt s.heap x ox C od) (hm : PySem.W.mroIn K C (.type "object") = some true) (hs : PySem.W.findIn K (.ref C) "__eq__" = some (some (.ref f))) (hf : PySem.W.isFn K (.ref f) = true)
    (h : wpAny (model prog w) A.in1 (call (.ref f) [.ref x, b]) (fun v s' => ∃ r, v = .bool r ∧ Q (.bool (!r)) s') E s) : wpAny (model prog w) A (call (.builtin "object.__ne__") [.ref x, b]) Q E s :=
  wpAny_call (codeAny_call_builtin F.cmp_object.ne.plain F.cmpEntry_ne (PySem.W.check_slot F.cmpKind_ne F.cmpSplit_ne (I.type.andThen (PySem.W.looks_mroIn X hm)) (F.cmpArgs_ne _ _) (entry_ne hu X I hs hf h)))
theorem cmp_ne {Q : Value → Shared → Prop} (hu : A.units + 1 < cLine) (X : K.In s.heap) (I : PySem.W.InstAt s.heap x ox C od) (hb : PySem.W.Looks (model prog w) s.heap (typeOf b) tb) (hn : PySem.W.notFirst K C tb = true)
    (hm : PySem.W.mroIn K C (.type "object") = some true) (hN : PySem.W.findIn K (.ref C) "__ne__" = some (some (.builtin "object.__ne__"))) (hs : PySem.W.findIn K (.ref C) "__eq__" = some (some (.ref f))) (hf : PySem.W.isFn K (.ref f) = true)
    (h : wpAny (model prog w) A.in1 (call (.ref f) [.ref x, b]) (fun v s' => ∃ r, v = .bool r ∧ Q (.bool (!r)) s') E s) : wpAny (model prog w) A (richCompare .NotEq (.ref x) b) Q E s := by
  have one : wpAny (model prog w) A (tryCompare (.ref x) (cmpInfo .NotEq).2.1 b) (fun r s' => ∃ v, r = some v ∧ Q v s') E s := by
    rw [cmpInfo_NotEq]
    unfold tryCompare
    refine wpAny_bind (ifBound_objNe X I hN (call_ne (by show A.units + 1 < cLine; omega) X I hm hs hf (wpAny_mono h (fun v s' hv => ?_) fun _ _ e => e)))
    obtain ⟨r, rfl, hq⟩ := hv
    exact ⟨r, rfl, wpAny_pure ⟨_, rfl, hq⟩⟩
  unfold richCompare
  simp only [oneThing_ref]
  refine wpAny_holding (wpAny_bind (wpAny_cRoomFor (Nat.lt_of_succ_lt hu) ?_))
  refine wpAny_bind (I.type.here (wpAny_bind (hb.here ?_)))
  split
  · rename_i q
    have e : PySem.W.subIn K tb (.ref C) = some false := by
      rcases Bool.or_eq_true_iff.mp hn with e | e
      · rw [beq_iff_eq.mp e] at q; simp at q
      · exact beq_iff_eq.mp e
    refine wpAny_bind ((PySem.W.looks_subIn X e).here ?_)
    simp only [Bool.false_eq_true, if_false]
    refine wpAny_bind (wpAny_mono one (fun r s' z => ?_) fun _ _ e => e)
    obtain ⟨v, rfl, hq⟩ := z
    exact wpAny_pure hq
  · refine wpAny_bind (wpAny_pure ?_)
    simp only [Bool.false_eq_true, if_false]
    refine wpAny_bind (wpAny_mono one (fun r s' z => ?_) fun _ _ e => e)
    obtain ⟨v, rfl, hq⟩ := z
    exact wpAny_pure hq
theorem cmp_eq {Q : Value → Shared → Prop} (hu : A.units < cLine) (X : K.In s.heap) (I : PySem.W.InstAt s.heap x ox C od) (hb : PySem.W.Looks (model prog w) s.heap (typeOf b) tb) (hn : PySem.W.notFirst K C tb = true)
    (hs : PySem.W.findIn K (.ref C) "__eq__" = some (some (.ref f))) (hf : PySem.W.isFn K (.ref f) = true)
    (h : wpAny (model prog w) A (call (.ref f) [.ref x, b]) (fun v s' => ∃ r, v = .bool r ∧ Q (.bool r) s') E s) : wpAny (model prog w) A (richCompare .Eq (.ref x) b) Q E s := by
  have one : wpAny (model prog w) A (tryCompare (.ref x) (cmpInfo .Eq).2.1 b) (fun r s' => ∃ v, r = some v ∧ Q v s') E s := by
    rw [cmpInfo_Eq]
    unfold tryCompare
    refine wpAny_bind (PySem.W.ifBound_K X I hs hf (wpAny_mono h (fun v s' hv => ?_) fun _ _ e => e))
    obtain ⟨r, rfl, hq⟩ := hv
    exact wpAny_pure ⟨_, rfl, hq⟩
  unfold richCompare
  simp only [oneThing_ref]
  refine wpAny_holding (wpAny_bind (wpAny_cRoomFor hu ?_))
  refine wpAny_bind (I.type.here (wpAny_bind (hb.here ?_)))
  split
  · rename_i q
    have e : PySem.W.subIn K tb (.ref C) = some false := by
      rcases Bool.or_eq_true_iff.mp hn with e | e
      · rw [beq_iff_eq.mp e] at q; simp at q
      · exact beq_iff_eq.mp e
    refine wpAny_bind ((PySem.W.looks_subIn X e).here ?_)
    simp only [Bool.false_eq_true, if_false]
    refine wpAny_bind (wpAny_mono one (fun r s' z => ?_) fun _ _ e => e)
    obtain ⟨v, rfl, hq⟩ := z
    exact wpAny_pure hq
  · refine wpAny_bind (wpAny_pure ?_)
    simp only [Bool.false_eq_true, if_false]
    refine wpAny_bind (wpAny_mono one (fun r s' z => ?_) fun _ _ e => e)
    obtain ⟨v, rfl, hq⟩ := z
    exact wpAny_pure hq
end
end OwnC
namespace L2
open PySem PySem.Spec PyProof.Rows
/-- what the written part says of a class with an own __eq__ -/
structure OEq (K : PySem.W.Frag) (C f : Addr) : Prop where
  cl : Cls K C
  eq : PySem.W.findIn K (.ref C) "__eq__" = some (some (.ref f))
  fn : PySem.W.isFn K (.ref f) = true
  ne : PySem.W.findIn K (.ref C) "__ne__" = some (some (.builtin "object.__ne__"))
  mo : PySem.W.mroIn K C (.type "object") = some true
  ha : PySem.W.findIn K (.ref C) "__class__" = some (some (.builtin "object.__class__"))
  hn : PySem.W.specialIn K (.builtin "object.__class__") "__get__" = some (some (.builtin "getset_descriptor.__get__"))
  htk : PySem.W.takesIn K (.builtin "object.__class__") = some true
theorem OEq.ty {K : PySem.W.Frag} {C f : Addr} (T : OEq K C f) {H : Hp} {a dx : Addr} {fs : List (Str × V)} (e : H a = some (.ins C dx fs)) : TyX K H (.ref a) (.ref C) := .base (.ins e T.cl T.ha T.hn T.htk T.mo)
theorem OEq.first {K : PySem.W.Frag} {C f : Addr} (T : OEq K C f) : PySem.W.notFirst K C (.ref C) = true := by
  unfold PySem.W.notFirst
  rw [show (Value.ref C == Value.ref C) = true from by simp]
  rfl
section
variable {X : Cx} {pins : List (Addr × Obj)} {σ : St} {H : Hp} {s : Shared}
theorem looks_ref {M : Model} {h : Heap} {a : Addr} {o : Obj} (e : h.get? a = some o) : PySem.W.Looks M h (typeOf (.ref a)) o.cls := (PySem.W.Looks.ld e).andThen .now
theorem tyX_looks {x : V} {u t : Value} (I : Inv X pins σ H s) (rx : RelV x u) (ty : TyX X.K H x t) : PySem.W.Looks (model X.prog X.w) s.heap (typeOf u) t := by
  cases ty with
  | base b =>
    cases b with
    | non => cases (show u = Value.none from rx); exact PySem.W.Looks.of_pure rfl
    | bl y => cases (show u = Value.bool y from rx); exact PySem.W.Looks.of_pure rfl
    | int i => obtain ⟨t, q⟩ := (show ∃ t, u = Value.int i t from rx); cases q; exact PySem.W.Looks.of_pure rfl
    | str y => obtain ⟨t, q⟩ := (show ∃ t, u = Value.str y t from rx); cases q; exact PySem.W.Looks.of_pure rfl
    | flt y => obtain ⟨t, q⟩ := (show ∃ t, u = Value.float y t from rx); cases q; exact PySem.W.Looks.of_pure rfl
    | @lst a xs ea =>
      cases (show u = Value.ref a from rx)
      obtain ⟨_, _, n, _, h1⟩ := (show ObjOk X.prog X.w H s.heap a (.lst xs) from I.hok a _ ea)
      exact looks_ref h1
    | @frz a ob xs ea =>
      cases (show u = Value.ref a from rx)
      obtain ⟨_, _, _, n, _, h1⟩ := (show ObjOk X.prog X.w H s.heap a (.frz ob (.lst xs)) from I.hok a _ ea)
      exact looks_ref h1
    | @tup a xs ea =>
      cases (show u = Value.ref a from rx)
      obtain ⟨_, _, _, o, h1, h2, _⟩ := (show ObjOk X.prog X.w H s.heap a (.tup xs) from I.hok a _ ea)
      exact h2 ▸ looks_ref h1
    | @dK a kvs ea =>
      cases (show u = Value.ref a from rx)
      obtain ⟨_, _, vs, _, o, es, ep, h1, h2, _⟩ := (show ObjOk X.prog X.w H s.heap a (.dK kvs) from I.hok a _ ea)
      exact h2.1 ▸ looks_ref h1
    | @dT a kvs ea =>
      cases (show u = Value.ref a from rx)
      obtain ⟨_, _, xs, _, o, es, ep, h1, h2, _⟩ := (show ObjOk X.prog X.w H s.heap a (.dT kvs) from I.hok a _ ea)
      exact h2.1 ▸ looks_ref h1
    | @ins a C dx fs ea cl ha hn htk hm =>
      cases (show u = Value.ref a from rx)
      obtain ⟨mA, O, _⟩ := ins_get I.hok ea
      obtain ⟨od, J, _⟩ := O.look
      exact J.type
  | byt y => obtain ⟨t, q⟩ := (show ∃ t, u = Value.bytes y t from rx); cases q; exact PySem.W.Looks.of_pure rfl
  | @set a S n ea =>
    cases (show u = Value.ref a from rx)
    obtain ⟨o, _, _, _, e, ex, _⟩ := I.hok a _ ea
    exact ex.1 ▸ looks_ref e
  | @kList a o e c =>
    cases (show u = Value.ref a from rx)
    exact c ▸ looks_ref (I.kIn a o e)
  | @kTuple a o e c =>
    cases (show u = Value.ref a from rx)
    exact c ▸ looks_ref (I.kIn a o e)
  | @kDict a o e c =>
    cases (show u = Value.ref a from rx)
    exact c ▸ looks_ref (I.kIn a o e)
  | @fTuple a ob xs ea =>
    cases (show u = Value.ref a from rx)
    obtain ⟨_, _, _, _, o, h1, h2, _⟩ := (show ObjOk X.prog X.w H s.heap a (.frz ob (.tup xs)) from I.hok a _ ea)
    exact h2 ▸ looks_ref h1
  | @fDict a ob kvs ea =>
    cases (show u = Value.ref a from rx)
    obtain ⟨_, _, _, vs, _, o, es, ep, h1, h2, _⟩ := (show ObjOk X.prog X.w H s.heap a (.frz ob (.dK kvs)) from I.hok a _ ea)
    exact h2.1 ▸ looks_ref h1
/-- x == y, x an instance of the class at C with its own __eq__ (its promise sp) -/
def rEqO (K : PySem.W.Frag) (C : Addr) (sp : Sp) : R2 := fun x y H Q => (∃ a dx fs, x = .ref a ∧ H a = some (.ins C dx fs)) ∧ (∃ t, TyX K H y t ∧ PySem.W.notFirst K C t = true) ∧ sp [x, y] H (fun v H' => ∃ b, v = .bl b ∧ Q (.bl b) H') (fun _ _ _ => False)
def rNeO (K : PySem.W.Frag) (C : Addr) (sp : Sp) : R2 := fun x y H Q => (∃ a dx fs, x = .ref a ∧ H a = some (.ins C dx fs)) ∧ (∃ t, TyX K H y t ∧ PySem.W.notFirst K C t = true) ∧ sp [x, y] H (fun v H' => ∃ b, v = .bl b ∧ Q (.bl (!b)) H') (fun _ _ _ => False)
theorem run_own {CX : CXT} {n : Nat} {f : Addr} {fd : FuncData} {sp : Sp} {A : Around} {x y : V} {u v : Value} {Q : VK} (F : FnOk X.prog X.w X.K X.mg X.base CX n f fd ["self", "other"] sp) (hb : Binds X.K fd ["self", "other"] []) (hx : Passes CX X (fun _ _ _ => False))
    (hr : Room n A) (hfr : A.frames = X.A.frames) (I : Inv X pins σ H s) (rx : RelV x u) (ry : RelV y v) (h : sp [x, y] H Q (fun _ _ _ => False)) :
    wpAny (model X.prog X.w) A (call (.ref f) [u, v]) (EP X pins σ Q) X.xe s := by
  have e0 : Env0 X.prog X.w X.K X.mg X.base A X.stack s H := by
    have e := I.env0
    exact ⟨by rw [hfr]; exact e.frames, e.mod, e.bs, e.bsz, e.funs, e.frf, e.hok, e.bare⟩
  have r2 : Vals [x, y] [u, v] := .cons rx (.cons ry .nil)
  refine wpAny_call (codeAny_mono (F.run A X.stack s H ⟨[u, v], []⟩ [u, v] [x, y] Q _ hr e0 (by
    have := hb s [u, v] I.kIn rfl
    simpa using this) r2 h) fun r s' hq => ?_)
  cases r with
  | error e => exact hx pins σ H s e s' I hq
  | ok fl =>
    cases fl with
    | ret w => exact I.after hq
    | next => exact False.elim hq
    | brk => exact False.elim hq
    | cont => exact False.elim hq
theorem op_eqO {CX : CXT} {n : Nat} {C f : Addr} {fd : FuncData} {sp : Sp} (T : OEq X.K C f) (F : FnOk X.prog X.w X.K X.mg X.base CX n f fd ["self", "other"] sp) (hb : Binds X.K fd ["self", "other"] []) (hx : Passes CX X (fun _ _ _ => False)) (hr : Room n X.A) (hu : X.A.units + 64 < cLine) :
    OpR X (compareOp .Eq) (rEqO X.K C sp) := by
  intro pins s σ H x y v u Q I rx ry hq
  obtain ⟨⟨a, dx, fs, rfl, ha⟩, ⟨t, ty, hn⟩, q⟩ := hq
  obtain rfl : v = Value.ref a := rx
  obtain ⟨mA, J, _⟩ := ins_get I.hok ha
  obtain ⟨od, J, _⟩ := J.look
  show wpAny (model X.prog X.w) X.A (richCompare .Eq (.ref a) u) (EP X pins σ Q) X.xe s
  refine OwnC.cmp_eq (by omega) I.kIn J (tyX_looks I ry ty) hn T.eq T.fn (wpAny_mono (run_own F hb hx hr rfl I (x := .ref a) rfl ry q) (fun r s' z => ?_) fun _ _ e => e)
  obtain ⟨z, H', I', rz, b, rfl, q'⟩ := z
  cases rz
  exact ⟨b, rfl, .bl b, H', I', rfl, q'⟩
theorem op_neO {CX : CXT} {n : Nat} {C f : Addr} {fd : FuncData} {sp : Sp} (T : OEq X.K C f) (F : FnOk X.prog X.w X.K X.mg X.base CX n f fd ["self", "other"] sp) (hb : Binds X.K fd ["self", "other"] []) (hx : Passes CX X (fun _ _ _ => False)) (hr : Room n X.A.in1) (hu : X.A.units + 64 < cLine) :
    OpR X (compareOp .NotEq) (rNeO X.K C sp) := by
  intro pins s σ H x y v u Q I rx ry hq
  obtain ⟨⟨a, dx, fs, rfl, ha⟩, ⟨t, ty, hn⟩, q⟩ := hq
  obtain rfl : v = Value.ref a := rx
  obtain ⟨mA, J, _⟩ := ins_get I.hok ha
  obtain ⟨od, J, _⟩ := J.look
  show wpAny (model X.prog X.w) X.A (richCompare .NotEq (.ref a) u) (EP X pins σ Q) X.xe s
  refine OwnC.cmp_ne (by omega) I.kIn J (tyX_looks I ry ty) hn T.mo T.ne T.eq T.fn (wpAny_mono (run_own F hb hx hr rfl I (x := .ref a) rfl ry q) (fun r s' z => ?_) fun _ _ e => e)
  obtain ⟨z, H', I', rz, b, rfl, q'⟩ := z
  cases rz
  exact ⟨b, rfl, .bl (!b), H', I', rfl, q'⟩
end
section
variable {X : Cx} {K : PySem.W.Frag}
theorem call_len_seqK (e : X.K = K) : CallR X (.builtin "len") (fun xs H Q => ∃ p ys, xs = [.ref p] ∧ (SqL K H p ys ∨ SqT K H p ys) ∧ Q (.int ys.length) H) := by subst e; exact call_len_seq
theorem call_tuple_ofK (e : X.K = K) : CallR X (.type "tuple") (fun xs H Q => ∃ p ys, xs = [.ref p] ∧ (SqL K H p ys ∧ (∀ q, H q = none → Q (.ref q) (upd H q (.tup ys))) ∨ SqT K H p ys ∧ Q (.ref p) H)) := by subst e; exact call_tuple_of
end
end L2

set_option Elab.async false
set_option linter.all false
set_option maxRecDepth 100000
set_option maxHeartbeats 4000000
/-! Decoders as data: what the program asks of their parts; what they write. -/
namespace My
open PySem PySem.Spec PyProof.Rows L2
/-! ### what the program asks of data -/
def isI : PyData → Bool | .int _ => true | _ => false
def isCn : PyData → Bool | .int i => decide (0 ≤ i) | _ => false
def isSg : PyData → Bool | .int i => decide (1 ≤ i) && decide (i ≤ 5) | _ => false
def isBe (n : Int) : PyData → Bool | .int i => decide (0 ≤ i) && decide (i < n) | _ => false
def numD : PyData → Int | .int i => i | _ => 0
def isSqD : PyData → Bool | .list _ => true | .tuple _ => true | _ => false
def isNn : PyData → Bool | .none => true | _ => false
def isTx : PyData → Bool | .str z => isT z | _ => false
def isWd : PyData → Bool | .str z => isT z && decide ((z.length : Int) ≤ 3) | _ => false
def isStp (n : Int) : PyData → Bool | .tuple [a, b] => isBe n a && isWd b | _ => false
def isEn (n : Int) (d : PyData) : Bool := isNn d || isStp n d
def itsD : PyData → List PyData | .list es => es | .tuple es => es | _ => []
def entB (m n : Int) (d : PyData) : Bool := isSqD d && (decide (((itsD d).length : Int) = m) && (itsD d).all (isEn n))
def stepsB (m : Int) (d : PyData) : Bool := isSqD d && ((decide (1 ≤ ((itsD d).length : Int)) && decide (((itsD d).length : Int) ≤ 40)) && (itsD d).all (entB m ((itsD d).length : Int)))
def endB (d : PyData) : Bool := isNn d || isWd d
def endsB (n : Int) (d : PyData) : Bool := isSqD d && (decide (((itsD d).length : Int) = n) && (itsD d).all endB)
def isLn (n : Int) : PyData → Bool | .tuple ds => ds.all (isBe n) | _ => false
theorem kit_sqD {K : PySem.W.Frag} (d : PyData) : PySem.W.kitAny K (.type (tyD d)) [.type "list", .type "tuple"] = some (isSqD d) := by
  have h1 := kit_lstD (K := K) d
  have h2 := kit_tupD (K := K) d
  unfold PySem.W.kitAny
  rw [h1]
  cases d <;> simp [isLstD, isSqD, isTupD, PySem.W.kitAny, h2] <;> rfl
/-- an own class is none of data's -/
theorem kit_ownD {K : PySem.W.Frag} {C : Addr} (h2 : PySem.W.isClsIn K C = true) (h3 : PySem.W.typeIn K (.ref C) = some (.type "type")) (d : PyData) : PySem.W.kitOne K (.type (tyD d)) (.ref C) = some false := by
  have hs : ∀ T : String, (∃ l : List Value, fastBuiltinMro T = some l ∧ l.contains (.ref C) = false) → PySem.W.kitOne K (.type T) (.ref C) = some false := fun T ⟨l, e, hl⟩ => by
    unfold PySem.W.kitOne
    rw [if_neg (by simp)]
    have h2' : (PySem.W.clsIn K C).isSome = true := h2
    show (if ((PySem.W.clsIn K C).isSome && PySem.W.typeIn K (.ref C) == some (.type "type")) = true then PySem.W.subIn K (.type T) (.ref C) else none) = some false
    rw [if_pos (by rw [h2', h3] <;> rfl)]
    show (fastBuiltinMro T).map (·.contains (.ref C)) = some false
    rw [e]
    show some (l.contains (.ref C)) = some false
    rw [hl]
  cases d with
  | none => exact hs "NoneType" ⟨[.type "NoneType", .type "object"], by decide +kernel, by simp⟩
  | bool _ => exact hs "bool" ⟨[.type "bool", .type "int", .type "object"], by decide +kernel, by simp⟩
  | int _ => exact hs "int" ⟨[.type "int", .type "object"], by decide +kernel, by simp⟩
  | str _ => exact hs "str" ⟨[.type "str", .type "object"], by decide +kernel, by simp⟩
  | list _ => exact hs "list" ⟨[.type "list", .type "object"], by decide +kernel, by simp⟩
  | tuple _ => exact hs "tuple" ⟨[.type "tuple", .type "object"], by decide +kernel, by simp⟩
  | dict _ => exact hs "dict" ⟨[.type "dict", .type "object"], by decide +kernel, by simp⟩
theorem kit_same {K : PySem.W.Frag} {C : Addr} : PySem.W.kitOne K (.ref C) (.ref C) = some true := by
  unfold PySem.W.kitOne
  rw [if_pos (by simp)]
theorem notFirst_data {K : PySem.W.Frag} {C : Addr} (d : PyData) : PySem.W.notFirst K C (.type (tyD d)) = true := by
  have hs : ∀ T : String, (∃ l : List Value, fastBuiltinMro T = some l ∧ l.contains (.ref C) = false) → PySem.W.notFirst K C (.type T) = true := fun T ⟨l, e, hl⟩ => by
    unfold PySem.W.notFirst
    have : PySem.W.subIn K (.type T) (.ref C) = some false := by
      show (fastBuiltinMro T).map (·.contains (.ref C)) = some false
      rw [e]
      show some (l.contains (.ref C)) = some false
      rw [hl]
    rw [this]
    simp
  cases d with
  | none => exact hs "NoneType" ⟨[.type "NoneType", .type "object"], by decide +kernel, by simp⟩
  | bool _ => exact hs "bool" ⟨[.type "bool", .type "int", .type "object"], by decide +kernel, by simp⟩
  | int _ => exact hs "int" ⟨[.type "int", .type "object"], by decide +kernel, by simp⟩
  | str _ => exact hs "str" ⟨[.type "str", .type "object"], by decide +kernel, by simp⟩
  | list _ => exact hs "list" ⟨[.type "list", .type "object"], by decide +kernel, by simp⟩
  | tuple _ => exact hs "tuple" ⟨[.type "tuple", .type "object"], by decide +kernel, by simp⟩
  | dict _ => exact hs "dict" ⟨[.type "dict", .type "object"], by decide +kernel, by simp⟩
/-! ### the weight of data -/
theorem weight_len : ∀ ds : List PyData, ds.length ≤ PyData.weightAll ds
  | [] => Nat.zero_le _
  | d :: ds => by unfold PyData.weightAll; have := weight_len ds; rw [List.length_cons]; omega
theorem weight_mem : ∀ {ds : List PyData} {d : PyData}, d ∈ ds → d.weight ≤ PyData.weightAll ds
  | e :: ds, d, h => by
    unfold PyData.weightAll
    rcases List.mem_cons.mp h with z | z
    · rw [z]; omega
    · have := weight_mem z; omega
theorem weight_its {d : PyData} : (itsD d).length ≤ d.weight ∧ ∀ e ∈ itsD d, e.weight ≤ d.weight := by
  cases d with
  | list ds =>
    have e0 : (PyData.list ds).weight = PyData.weightAll ds := by rw [PyData.weight]
    rw [e0]
    exact ⟨weight_len ds, fun e he => weight_mem he⟩
  | tuple ds =>
    have e0 : (PyData.tuple ds).weight = PyData.weightAll ds := by rw [PyData.weight]
    rw [e0]
    exact ⟨weight_len ds, fun e he => weight_mem he⟩
  | _ => exact ⟨Nat.zero_le _, fun e he => by cases he⟩
theorem sq_its {d : PyData} (h : isSqD d = true) : d = .list (itsD d) ∨ d = .tuple (itsD d) := by
  cases d with
  | list ds => exact .inl rfl
  | tuple ds => exact .inr rfl
  | _ => cases h
theorem all_map {α : Type} {f : α → PyData} {p : PyData → Bool} {G : α → Prop} (h : ∀ d, p d = true → ∃ e, d = f e ∧ G e) : ∀ ds : List PyData, ds.all p = true → ∃ es : List α, ds = es.map f ∧ ∀ e ∈ es, G e
  | [], _ => ⟨[], rfl, fun e he => by cases he⟩
  | d :: ds, ha => by
    rw [List.all_cons, Bool.and_eq_true] at ha
    obtain ⟨e, rfl, g⟩ := h d ha.1
    obtain ⟨es, rfl, gs⟩ := all_map h ds ha.2
    exact ⟨e :: es, rfl, fun e' he => by
      rcases List.mem_cons.mp he with z | z
      · rw [z]; exact g
      · exact gs e' z⟩
/-! ### plain data: == is being the same -/
mutual
def plD : PyData → Bool
  | .none => true
  | .int _ => true
  | .str _ => true
  | .list ds => plAll ds
  | .tuple ds => plAll ds
  | .bool _ => false
  | .dict _ => false
def plAll : List PyData → Bool
  | [] => true
  | d :: ds => plD d && plAll ds
end
mutual
theorem eqv_pl : ∀ (x y : PyData), plD x = true → plD y = true → (PyData.eqv x y = true ↔ x = y)
  | .none, y, _, hy => by cases y <;> simp [PyData.eqv]
  | .int i, y, _, hy => by
    cases y with
    | bool b => simp [plD] at hy
    | _ => simp [PyData.eqv]
  | .str i, y, _, hy => by cases y <;> simp [PyData.eqv]
  | .list ds, y, hx, hy => by
    cases y with
    | list es =>
      have h1 : plAll ds = true := by simpa [plD] using hx
      have h2 : plAll es = true := by simpa [plD] using hy
      have := eqv_plAll ds es h1 h2
      unfold PyData.eqv
      rw [this]
      exact ⟨fun e => by rw [e], fun e => by injection e⟩
    | _ => simp [PyData.eqv]
  | .tuple ds, y, hx, hy => by
    cases y with
    | tuple es =>
      have h1 : plAll ds = true := by simpa [plD] using hx
      have h2 : plAll es = true := by simpa [plD] using hy
      have := eqv_plAll ds es h1 h2
      unfold PyData.eqv
      rw [this]
      exact ⟨fun e => by rw [e], fun e => by injection e⟩
    | _ => simp [PyData.eqv]
  | .bool _, _, hx, _ => by simp [plD] at hx
  | .dict _, _, hx, _ => by simp [plD] at hx
theorem eqv_plAll : ∀ (xs ys : List PyData), plAll xs = true → plAll ys = true → (PyData.eqvAll xs ys = true ↔ xs = ys)
  | [], [], _, _ => by simp [PyData.eqvAll]
  | [], y :: ys, _, _ => by simp [PyData.eqvAll]
  | x :: xs, [], _, _ => by simp [PyData.eqvAll]
  | x :: xs, y :: ys, hx, hy => by
    have h1 : plD x = true ∧ plAll xs = true := by simpa [plAll] using hx
    have h2 : plD y = true ∧ plAll ys = true := by simpa [plAll] using hy
    have i1 := eqv_pl x y h1.1 h2.1
    have i2 := eqv_plAll xs ys h1.2 h2.2
    unfold PyData.eqvAll
    rw [Bool.and_eq_true, i1, i2]
    exact ⟨fun ⟨a, b⟩ => by rw [a, b], fun e => by injection e with a b; exact ⟨a, b⟩⟩
end
theorem plAll_map {α : Type} {f : α → PyData} (h : ∀ a, plD (f a) = true) : ∀ l : List α, plAll (l.map f) = true
  | [] => by simp [plAll]
  | a :: l => by rw [List.map_cons]; unfold plAll; rw [h a, plAll_map h l]; rfl
theorem map_inj {α β : Type} {f : α → β} (h : ∀ a b, f a = f b → a = b) : ∀ {l l' : List α}, l.map f = l'.map f → l = l'
  | [], [], _ => rfl
  | [], _ :: _, e => by cases e
  | _ :: _, [], e => by cases e
  | a :: l, b :: l', e => by
    rw [List.map_cons, List.map_cons] at e
    injection e with e1 e2
    rw [h a b e1, map_inj h e2]
/-! ### decoders -/
abbrev Ent := Option (Nat × List Nat)
structure Dcd where
  sg : Nat
  st : List (List Ent)
  en : List (Option (List Nat))
deriving DecidableEq
def enD : Ent → PyData | none => .none | some (g, w) => .tuple [.int (g : Nat), .str (S w)]
def wdD : Option (List Nat) → PyData | none => .none | some w => .str (S w)
def okW (w : List Nat) : Prop := Low w ∧ w.length ≤ 3
def okE (n : Nat) (e : Ent) : Prop := ∀ g w, e = some (g, w) → g < n ∧ okW w
structure Dcd.ok (D : Dcd) : Prop where
  s1 : 1 ≤ D.sg
  s5 : D.sg ≤ 5
  n1 : 1 ≤ D.st.length
  n40 : D.st.length ≤ 40
  rows : ∀ r ∈ D.st, r.length = D.sg ∧ ∀ e ∈ r, okE D.st.length e
  ends : D.en.length = D.st.length
  words : ∀ e ∈ D.en, ∀ w, e = some w → okW w
def Dcd.stD (D : Dcd) : PyData := .tuple (D.st.map fun r => .tuple (r.map enD))
def Dcd.enD (D : Dcd) : PyData := .tuple (D.en.map wdD)
theorem enD_inj : ∀ a b : Ent, enD a = enD b → a = b
  | none, none, _ => rfl
  | none, some (g, w), e => by cases e
  | some (g, w), none, e => by cases e
  | some (g, w), some (g', w'), e => by
    unfold My.enD at e
    injection e with e
    injection e with e1 e2
    injection e1 with e1
    injection e2 with e2 _
    injection e2 with e2
    have : g = g' := by omega
    rw [this, S_inj e2]
theorem wdD_inj : ∀ a b : Option (List Nat), wdD a = wdD b → a = b
  | none, none, _ => rfl
  | none, some w, e => by cases e
  | some w, none, e => by cases e
  | some w, some w', e => by
    unfold wdD at e
    injection e with e
    rw [S_inj e]
theorem stD_inj {D D' : Dcd} (h : D.stD = D'.stD) : D.st = D'.st := by
  unfold Dcd.stD at h
  injection h with h
  exact map_inj (fun a b e => map_inj enD_inj (by injection e)) h
theorem dEn_inj {D D' : Dcd} (h : D.enD = D'.enD) : D.en = D'.en := by
  unfold Dcd.enD at h
  injection h with h
  exact map_inj wdD_inj h
theorem plD_enD (e : Ent) : plD (enD e) = true := by
  cases e with
  | none => rfl
  | some p => obtain ⟨g, w⟩ := p; rfl
theorem plD_wdD (e : Option (List Nat)) : plD (wdD e) = true := by cases e <;> rfl
theorem plD_stD (D : Dcd) : plD D.stD = true := by
  unfold Dcd.stD plD
  exact plAll_map (fun r => by unfold plD; exact plAll_map plD_enD r) _
theorem plD_dEn (D : Dcd) : plD D.enD = true := by
  unfold Dcd.enD plD
  exact plAll_map plD_wdD _
theorem isBe_int {n : Int} {d : PyData} (h : isBe n d = true) : ∃ i : Int, d = .int i ∧ 0 ≤ i ∧ i < n := by
  cases d with
  | int i =>
    have h' : (decide (0 ≤ i) && decide (i < n)) = true := h
    simp only [Bool.and_eq_true, decide_eq_true_eq] at h'
    exact ⟨i, rfl, h'.1, h'.2⟩
  | _ => cases h
theorem isWd_str {d : PyData} (h : isWd d = true) : ∃ w, d = .str (S w) ∧ okW w := by
  cases d with
  | str z =>
    have h' : (isT z && decide ((z.length : Int) ≤ 3)) = true := h
    simp only [Bool.and_eq_true, decide_eq_true_eq] at h'
    refine ⟨cs z, by rw [S_of], ?_, ?_⟩
    · intro c hc
      have := h'.1
      unfold isT at this
      exact List.all_eq_true.mp this c hc
    · have : z.length = (cs z).length := by rw [← S_len, S_of]
      omega
  | _ => cases h
theorem isWd_of {w : List Nat} (h : okW w) : isWd (.str (S w)) = true := by
  show (isT (S w) && decide (((S w).length : Int) ≤ 3)) = true
  rw [h.1.isT, S_len, decide_eq_true (by have := h.2; omega)]; rfl
theorem isEn_ent {n : Nat} {d : PyData} (h : isEn n d = true) : ∃ e : Ent, d = enD e ∧ okE n e := by
  unfold isEn at h
  rw [Bool.or_eq_true] at h
  rcases h with h | h
  · cases d with
    | none => exact ⟨none, rfl, fun g w e => by cases e⟩
    | _ => cases h
  · cases d with
    | tuple ds =>
      match ds, h with
      | [], h => cases h
      | [a], h => cases h
      | [a, b], h =>
        have h' : (isBe n a && isWd b) = true := h
        rw [Bool.and_eq_true] at h'
        obtain ⟨i, rfl, i0, i1⟩ := isBe_int h'.1
        obtain ⟨w, rfl, ow⟩ := isWd_str h'.2
        obtain ⟨k, rfl⟩ : ∃ k : Nat, i = k := ⟨i.toNat, by omega⟩
        exact ⟨some (k, w), rfl, fun g w' e => by injection e with e; injection e with e1 e2; subst e1 e2; exact ⟨by omega, ow⟩⟩
      | a :: b :: c :: r, h => cases h
    | _ => cases h
theorem isEn_of {n : Nat} {e : Ent} (h : okE n e) : isEn n (enD e) = true := by
  cases e with
  | none => rfl
  | some p =>
    obtain ⟨g, w⟩ := p
    obtain ⟨h1, h2⟩ := h g w rfl
    show (isNn _ || (isBe n (.int (g : Nat)) && isWd (.str (S w)))) = true
    rw [isWd_of h2]
    show (false || ((decide ((0 : Int) ≤ (g : Nat)) && decide (((g : Nat) : Int) < n)) && true)) = true
    rw [decide_eq_true (by omega), decide_eq_true (by omega)]; rfl
theorem endB_wd {d : PyData} (h : endB d = true) : ∃ e : Option (List Nat), d = wdD e ∧ ∀ w, e = some w → okW w := by
  unfold endB at h
  rw [Bool.or_eq_true] at h
  rcases h with h | h
  · cases d with
    | none => exact ⟨none, rfl, fun w e => by cases e⟩
    | _ => cases h
  · obtain ⟨w, rfl, o⟩ := isWd_str h
    exact ⟨some w, rfl, fun w' e => by injection e with e; rw [← e]; exact o⟩
theorem endB_of {e : Option (List Nat)} (h : ∀ w, e = some w → okW w) : endB (wdD e) = true := by
  cases e with
  | none => rfl
  | some w =>
    show (isNn _ || isWd (.str (S w))) = true
    rw [isWd_of (h w rfl)]; rfl
/-- data that are a decoder's parts -/
structure GoodD (D : Dcd) (d1 d2 d3 : PyData) : Prop where
  ok : D.ok
  e1 : d1 = .int (D.sg : Nat)
  s2 : isSqD d2 = true
  r2 : ∀ r ∈ itsD d2, isSqD r = true
  e2 : (itsD d2).map itsD = D.st.map (fun r => r.map enD)
  s3 : isSqD d3 = true
  e3 : itsD d3 = D.en.map wdD
theorem rows_of {m n : Nat} : ∀ rows : List PyData, rows.all (entB m n) = true → ∃ st : List (List Ent), rows.map itsD = st.map (fun r => r.map enD) ∧ (∀ r ∈ rows, isSqD r = true) ∧ ∀ r ∈ st, r.length = m ∧ ∀ e ∈ r, okE n e
  | [], _ => ⟨[], rfl, (fun r h => by cases h), (fun r h => by cases h)⟩
  | d :: rows, h => by
    rw [List.all_cons, Bool.and_eq_true] at h
    obtain ⟨st, e, h1, h2⟩ := rows_of rows h.2
    have hd := h.1
    unfold entB at hd
    rw [Bool.and_eq_true, Bool.and_eq_true, decide_eq_true_eq] at hd
    obtain ⟨es, ee, ge⟩ := all_map (f := enD) (G := okE n) (fun d h => isEn_ent h) _ hd.2.2
    refine ⟨es :: st, by rw [List.map_cons, List.map_cons, e, ee], fun r hr => ?_, fun r hr => ?_⟩
    · rcases List.mem_cons.mp hr with z | z
      · rw [z]; exact hd.1
      · exact h1 r z
    · rcases List.mem_cons.mp hr with z | z
      · rw [z]
        refine ⟨?_, ge⟩
        have := hd.2.1
        rw [ee, List.length_map] at this
        omega
      · exact h2 r z
theorem good_of {d1 d2 d3 : PyData} (h1 : isSg d1 = true) (h2 : stepsB (numD d1) d2 = true) (h3 : endsB ((itsD d2).length : Int) d3 = true) : ∃ D, GoodD D d1 d2 d3 := by
  cases d1 with
  | int i =>
    have h1' : (decide (1 ≤ i) && decide (i ≤ 5)) = true := h1
    simp only [Bool.and_eq_true, decide_eq_true_eq] at h1'
    obtain ⟨k, rfl⟩ : ∃ k : Nat, i = k := ⟨i.toNat, by omega⟩
    unfold stepsB at h2
    rw [Bool.and_eq_true, Bool.and_eq_true, Bool.and_eq_true, decide_eq_true_eq, decide_eq_true_eq] at h2
    obtain ⟨st, es, hq, hr⟩ := rows_of (m := k) (n := (itsD d2).length) (itsD d2) h2.2.2
    unfold endsB at h3
    rw [Bool.and_eq_true, Bool.and_eq_true, decide_eq_true_eq] at h3
    obtain ⟨en, ee, ge⟩ := all_map (f := wdD) (G := fun e => ∀ w, e = some w → okW w) (fun d h => endB_wd h) _ h3.2.2
    have ls : st.length = (itsD d2).length := by have := congrArg List.length es; rw [List.length_map, List.length_map] at this; exact this.symm
    have le : en.length = (itsD d3).length := by rw [ee, List.length_map]
    refine ⟨⟨k, st, en⟩, ⟨by show 1 ≤ k; omega, by show k ≤ 5; omega, by show 1 ≤ st.length; omega, by show st.length ≤ 40; omega, fun r hr' => ?_, by show en.length = st.length; omega, ge⟩, rfl, h2.1, hq, es, h3.1, ee⟩
    show r.length = k ∧ ∀ e ∈ r, okE st.length e
    rw [ls]; exact hr r hr'
  | _ => cases h1
theorem GoodD.sg {D : Dcd} {d1 d2 d3 : PyData} (g : GoodD D d1 d2 d3) : isSg d1 = true := by
  rw [g.e1]
  show (decide (1 ≤ ((D.sg : Nat) : Int)) && decide (((D.sg : Nat) : Int) ≤ 5)) = true
  have h1 := g.ok.s1
  have h5 := g.ok.s5
  rw [decide_eq_true (by omega), decide_eq_true (by omega)]; rfl
theorem GoodD.len2 {D : Dcd} {d1 d2 d3 : PyData} (g : GoodD D d1 d2 d3) : (itsD d2).length = D.st.length := by
  have := congrArg List.length g.e2
  rwa [List.length_map, List.length_map] at this
theorem rows_all {m n : Nat} : ∀ (rows : List PyData) (st : List (List Ent)), rows.map itsD = st.map (fun r => r.map enD) → (∀ r ∈ rows, isSqD r = true) → (∀ r ∈ st, r.length = m ∧ ∀ e ∈ r, okE n e) → rows.all (entB m n) = true
  | [], _, _, _, _ => rfl
  | d :: rows, [], e, _, _ => by cases e
  | d :: rows, r :: st, e, hq, hr => by
    rw [List.map_cons, List.map_cons] at e
    injection e with e1 e2
    rw [List.all_cons, rows_all rows st e2 (fun r' h => hq r' (List.mem_cons_of_mem _ h)) (fun r' h => hr r' (List.mem_cons_of_mem _ h)), Bool.and_true]
    obtain ⟨l, o⟩ := hr r List.mem_cons_self
    unfold entB
    rw [hq d List.mem_cons_self, e1, List.length_map, decide_eq_true (by omega), Bool.true_and, Bool.true_and, List.all_eq_true]
    intro x hx
    obtain ⟨en, hen, rfl⟩ := List.mem_map.mp hx
    exact isEn_of (o en hen)
theorem GoodD.steps {D : Dcd} {d1 d2 d3 : PyData} (g : GoodD D d1 d2 d3) : stepsB (D.sg : Nat) d2 = true := by
  unfold stepsB
  have n1 := g.ok.n1
  have n40 := g.ok.n40
  rw [g.s2, g.len2, rows_all _ _ g.e2 g.r2 g.ok.rows, decide_eq_true (by omega), decide_eq_true (by omega)]; rfl
theorem GoodD.ends {D : Dcd} {d1 d2 d3 : PyData} (g : GoodD D d1 d2 d3) : endsB ((itsD d2).length : Int) d3 = true := by
  unfold endsB
  rw [g.s3, g.e3, g.len2, List.length_map, g.ok.ends, decide_eq_true rfl, Bool.true_and, Bool.true_and, List.all_eq_true]
  intro x hx
  obtain ⟨en, hen, rfl⟩ := List.mem_map.mp hx
  exact endB_of fun w e => g.ok.words en hen w e
theorem GoodD.tup {D : Dcd} {d1 d2 d3 : PyData} (g : GoodD D d1 d2 d3) : PyData.tuple ((itsD d2).map fun r => .tuple (itsD r)) = D.stD := by
  unfold Dcd.stD
  have := congrArg (List.map PyData.tuple) g.e2
  rw [List.map_map, List.map_map] at this
  exact congrArg PyData.tuple this
theorem GoodD.tupE {D : Dcd} {d1 d2 d3 : PyData} (g : GoodD D d1 d2 d3) : PyData.tuple (itsD d3) = D.enD := by
  unfold Dcd.enD
  rw [g.e3]
/-- the parts of a decoder, as tuples -/
theorem Dcd.good {D : Dcd} (h : D.ok) : GoodD D (.int (D.sg : Nat)) D.stD D.enD :=
  ⟨h, rfl, rfl, fun r hr => by
    obtain ⟨x, _, rfl⟩ := List.mem_map.mp hr
    rfl, by show (D.st.map fun r => PyData.tuple (r.map My.enD)).map itsD = _; rw [List.map_map]; rfl, rfl, rfl⟩
/-! ### how large it is -/
theorem okW.fit {w : List Nat} (h : okW w) : Fit (.str (S w)) 1 4 := Fit.str (Nat.le_trans h.2 (by omega)) (fun c hc => h.1.lt c hc)
theorem fit_enD {n : Nat} {e : Ent} (h : okE n e) (hn : n ≤ 40) : Fit (enD e) 2 40 := by
  cases e with
  | none => exact Fit.none.mono (Nat.le_refl _) (Nat.zero_le _)
  | some p =>
    obtain ⟨g, w⟩ := p
    obtain ⟨h1, h2⟩ := h g w rfl
    exact (Fit.tuple (FitAll.cons (Fit.nat (by omega)) (FitAll.cons h2.fit FitAll.nil))).mono (Nat.le_refl _) (by omega)
theorem fit_stD {D : Dcd} (h : D.ok) : Fit D.stD 4 9000 := by
  have n40 := h.n40
  have s5 := h.s5
  refine (Fit.tuple (k := 3) (FitAll.all (w := 210) fun d hd => ?_)).mono (Nat.le_refl _) (by rw [List.length_map]; omega)
  obtain ⟨r, hr, rfl⟩ := List.mem_map.mp hd
  obtain ⟨l, o⟩ := h.rows r hr
  refine (Fit.tuple (k := 2) (FitAll.all (w := 40) fun x hx => ?_)).mono (Nat.le_refl _) (by rw [List.length_map]; omega)
  obtain ⟨e, he, rfl⟩ := List.mem_map.mp hx
  exact fit_enD (o e he) n40
theorem fit_wdD {e : Option (List Nat)} (h : ∀ w, e = some w → okW w) : Fit (wdD e) 1 4 := by
  cases e with
  | none => exact Fit.none.mono (Nat.le_refl _) (Nat.zero_le _)
  | some w => exact (h w rfl).fit
theorem fit_dEn {D : Dcd} (h : D.ok) : Fit D.enD 2 300 := by
  have n40 := h.n40
  have le := h.ends
  refine (Fit.tuple (k := 1) (FitAll.all (w := 4) fun d hd => ?_)).mono (Nat.le_refl _) (by rw [List.length_map]; omega)
  obtain ⟨e, he, rfl⟩ := List.mem_map.mp hd
  exact fit_wdD fun w q => h.words e he w q
/-! ### what it writes -/
def Dcd.at (D : Dcd) (s a : Nat) : Ent := ((D.st.getD s []).getD a none)
def Dcd.go (D : Dcd) : Nat → List Nat → Option (Nat × List Nat)
  | s, [] => some (s, [])
  | s, a :: l => match D.at s a with
    | none => none
    | some (g, w) => (D.go g l).map fun (p : Nat × List Nat) => (p.1, w ++ p.2)
def Dcd.wr (D : Dcd) (l : List Nat) : Option (List Nat) := match D.go 0 l with
  | none => none
  | some (s, u) => (D.en.getD s none).map fun w => u ++ w
theorem Dcd.go_snoc (D : Dcd) : ∀ (l : List Nat) (s a : Nat), D.go s (l ++ [a]) = match D.go s l with
    | none => none
    | some (t, u) => (D.at t a).map fun (p : Nat × List Nat) => (p.1, u ++ p.2)
  | [], s, a => by
    show (match D.at s a with | none => none | some (g, w) => (D.go g []).map fun (p : Nat × List Nat) => (p.1, w ++ p.2)) = _
    cases h : D.at s a with
    | none => show _ = (D.at s a).map _; rw [h]; rfl
    | some p =>
      obtain ⟨g, w⟩ := p
      show _ = (D.at s a).map _
      rw [h]
      show some (g, w ++ []) = some (g, [] ++ w)
      simp
  | b :: l, s, a => by
    show (match D.at s b with | none => none | some (g, w) => (D.go g (l ++ [a])).map fun (p : Nat × List Nat) => (p.1, w ++ p.2)) = match (match D.at s b with | none => none | some (g, w) => (D.go g l).map fun (p : Nat × List Nat) => (p.1, w ++ p.2)) with | none => none | some (t, u) => (D.at t a).map fun (p : Nat × List Nat) => (p.1, u ++ p.2)
    cases h : D.at s b with
    | none => rfl
    | some p =>
      obtain ⟨g, w⟩ := p
      show (D.go g (l ++ [a])).map _ = match (D.go g l).map (fun (p : Nat × List Nat) => (p.1, w ++ p.2)) with | none => none | some (t, u) => (D.at t a).map fun (p : Nat × List Nat) => (p.1, u ++ p.2)
      rw [D.go_snoc l g a]
      cases D.go g l with
      | none => rfl
      | some q =>
        obtain ⟨t, u⟩ := q
        show Option.map _ (Option.map _ (D.at t a)) = Option.map _ (D.at t a)
        rw [Option.map_map]
        cases D.at t a with
        | none => rfl
        | some r => obtain ⟨x, y⟩ := r; show some (x, w ++ (u ++ y)) = some (x, w ++ u ++ y); rw [List.append_assoc]
theorem Dcd.ok.at {D : Dcd} (h : D.ok) {s a : Nat} : okE D.st.length (D.at s a) := by
  intro g w e
  unfold Dcd.at at e
  by_cases hs : s < D.st.length
  · rw [List.getD_eq_getElem?_getD, List.getD_eq_getElem?_getD, List.getElem?_eq_getElem hs] at e
    show g < _ ∧ _
    have hr := h.rows D.st[s] (List.getElem_mem hs)
    by_cases ha : a < D.st[s].length
    · have e' : (D.st[s])[a]?.getD none = some (g, w) := e
      rw [List.getElem?_eq_getElem ha] at e'
      exact hr.2 _ (List.getElem_mem ha) g w e'
    · have e' : (D.st[s])[a]?.getD none = some (g, w) := e
      rw [List.getElem?_eq_none (Nat.le_of_not_lt ha)] at e'
      cases e'
  · have e0 : D.st.getD s [] = [] := by rw [List.getD_eq_getElem?_getD, List.getElem?_eq_none (by omega)]; rfl
    rw [e0] at e
    simp at e
theorem Dcd.ok.go {D : Dcd} (h : D.ok) : ∀ (l : List Nat) (s t : Nat) (u : List Nat), s < D.st.length → D.go s l = some (t, u) → t < D.st.length ∧ Low u ∧ u.length ≤ 3 * l.length
  | [], s, t, u, hs, e => by
    have e' : some (s, ([] : List Nat)) = some (t, u) := e
    injection e' with e'
    injection e' with e1 e2
    subst e1 e2
    exact ⟨hs, Low.nil, Nat.zero_le _⟩
  | a :: l, s, t, u, hs, e => by
    have e' : (match D.at s a with | none => none | some (g, w) => (D.go g l).map fun (p : Nat × List Nat) => (p.1, w ++ p.2)) = some (t, u) := e
    have oa : okE D.st.length (D.at s a) := h.at
    cases q : D.at s a with
    | none => rw [q] at e'; cases e'
    | some p =>
      obtain ⟨g, w⟩ := p
      rw [q] at e'
      obtain ⟨g1, g2⟩ := oa g w q
      have e2 : (D.go g l).map (fun (p : Nat × List Nat) => (p.1, w ++ p.2)) = some (t, u) := e'
      cases r : D.go g l with
      | none => rw [r] at e2; cases e2
      | some p =>
        obtain ⟨t', u'⟩ := p
        rw [r] at e2
        have e3 : some (t', w ++ u') = some (t, u) := e2
        injection e3 with e3
        injection e3 with a1 a2
        subst a1 a2
        obtain ⟨b1, b2, b3⟩ := h.go l g t' u' g1 r
        exact ⟨b1, g2.1.append b2, by rw [List.length_append, List.length_cons]; have := g2.2; omega⟩
theorem Dcd.ok.end_ {D : Dcd} (h : D.ok) {s : Nat} {w : List Nat} (e : D.en.getD s none = some w) : okW w := by
  by_cases hs : s < D.en.length
  · rw [List.getD_eq_getElem?_getD, List.getElem?_eq_getElem hs] at e
    exact h.words _ (List.getElem_mem hs) w e
  · rw [List.getD_eq_getElem?_getD, List.getElem?_eq_none (by omega)] at e
    cases e
theorem Dcd.ok.wr {D : Dcd} (h : D.ok) {l : List Nat} {u : List Nat} (e : D.wr l = some u) : Low u ∧ u.length ≤ 3 * l.length + 3 := by
  unfold Dcd.wr at e
  cases q : D.go 0 l with
  | none => rw [q] at e; cases e
  | some p =>
    obtain ⟨s, v⟩ := p
    rw [q] at e
    obtain ⟨_, lv, nv⟩ := h.go l 0 s v h.n1 q
    have e' : (D.en.getD s none).map (fun w => v ++ w) = some u := e
    cases r : D.en.getD s none with
    | none => rw [r] at e'; cases e'
    | some w =>
      rw [r] at e'
      have e2 : some (v ++ w) = some u := e'
      injection e2 with e2
      have ow := h.end_ r
      rw [← e2]
      exact ⟨lv.append ow.1, by rw [List.length_append]; have := ow.2; omega⟩
/-! ### a decoder in the heap -/
def dfs (m n : Int) (Sa Ea : Addr) : List (Str × V) := putF "ends" (.ref Ea) (putF "steps" (.ref Sa) (putF "states" (.int n) (putF "signs" (.int m) [])))
theorem dfs_signs {m n : Int} {Sa Ea : Addr} : (dfs m n Sa Ea).lookup ("signs" : Str) = some (V.int m) := by
  unfold dfs
  rw [lookup_putF, if_neg (by decide +kernel), lookup_putF, if_neg (by decide +kernel), lookup_putF, if_neg (by decide +kernel), lookup_putF, if_pos rfl]
theorem dfs_states {m n : Int} {Sa Ea : Addr} : (dfs m n Sa Ea).lookup ("states" : Str) = some (V.int n) := by
  unfold dfs
  rw [lookup_putF, if_neg (by decide +kernel), lookup_putF, if_neg (by decide +kernel), lookup_putF, if_pos rfl]
theorem dfs_steps {m n : Int} {Sa Ea : Addr} : (dfs m n Sa Ea).lookup ("steps" : Str) = some (V.ref Sa) := by
  unfold dfs
  rw [lookup_putF, if_neg (by decide +kernel), lookup_putF, if_pos rfl]
theorem dfs_ends {m n : Int} {Sa Ea : Addr} : (dfs m n Sa Ea).lookup ("ends" : Str) = some (V.ref Ea) := by
  unfold dfs
  rw [lookup_putF, if_pos rfl]
theorem dfs_no {m n : Int} {Sa Ea : Addr} {f : Str} (h1 : ¬ f = "ends") (h2 : ¬ f = "steps") (h3 : ¬ f = "states") (h4 : ¬ f = "signs") : (dfs m n Sa Ea).lookup f = none := by
  unfold dfs
  rw [lookup_putF, if_neg h1, lookup_putF, if_neg h2, lookup_putF, if_neg h3, lookup_putF, if_neg h4]
  all_goals rfl
structure DecAt (K : PySem.W.Frag) (C : Addr) (H : Hp) (p : Addr) (D : Dcd) : Prop where
  ob : ∃ dx Sa Ea, H p = some (.ins C dx (dfs (D.sg : Nat) (D.st.length : Nat) Sa Ea)) ∧ Dg K H false (.ref Sa) D.stD ∧ Dg K H false (.ref Ea) D.enD
  ok : D.ok
theorem DecAt.ext {K : PySem.W.Frag} {C : Addr} {H H' : Hp} {p : Addr} {D : Dcd} (h : DecAt K C H p D) (s : Same H H') : DecAt K C H' p D := by
  obtain ⟨⟨dx, Sa, Ea, e, h1, h2⟩, ok⟩ := h
  exact ⟨⟨dx, Sa, Ea, s _ _ e, h1.ext s, h2.ext s⟩, ok⟩
/-- beside b -/
def DecW (K : PySem.W.Frag) (C : Addr) (b : Addr) (H : Hp) (p : Addr) (D : Dcd) : Prop := DecAt K C (wo H b) p D
theorem DecW.kp {K : PySem.W.Frag} {C b : Addr} {H H' : Hp} {p : Addr} {D : Dcd} (h : DecW K C b H p D) (k : Kp b H H') : DecW K C b H' p D := DecAt.ext h k.wo
theorem DecW.at {K : PySem.W.Frag} {C b : Addr} {H : Hp} {p : Addr} {D : Dcd} (h : DecW K C b H p D) : DecAt K C H p D := DecAt.ext h (wo_same H b)
theorem DecAt.w {K : PySem.W.Frag} {C b : Addr} {H H' : Hp} {p : Addr} {D : Dcd} (h : DecAt K C H p D) (s : Same H (wo H' b)) : DecW K C b H' p D := DecAt.ext h s
end My

set_option Elab.async false
set_option linter.all false
set_option maxRecDepth 100000
set_option maxHeartbeats 4000000
/-! Comprehensions that make data: lists that grow beside p; rows as tuples. -/
namespace My
open PySem PySem.Spec PyProof.Rows L2
/-- the list at D, new since H1, holds the data ds; neither it nor p is part of them -/
def AcM (K : PySem.W.Frag) (m : Bool) (p : Addr) (H1 : Hp) (D : Addr) (ds : List PyData) (H : Hp) : Prop := Same H1 H ∧ ∃ acc, H D = some (.lst acc) ∧ DgAll K (wo (wo H p) D) m acc ds
section
variable {K : PySem.W.Frag} {m : Bool} {p D : Addr} {H1 H H2 : Hp} {ds : List PyData}
theorem AcM.start (hD : H1 D = none) : AcM K m p H1 D [] (L2.upd H1 D (.lst [])) := ⟨Same.new (Same.refl _) hD, [], upd_same, .nil⟩
theorem two_same (s : Same H H2) : Same (wo (wo H p) D) (wo (wo H2 p) D) := fun b o e => by
  have n : b ≠ D := fun z => by rw [z, wo_at] at e; cases e
  rw [wo_ne n] at e ⊢
  have n2 : b ≠ p := fun z => by rw [z, wo_at] at e; cases e
  rw [wo_ne n2] at e ⊢
  exact s b o e
theorem two_upd {o : HO} : wo (wo (L2.upd H D o) p) D = wo (wo H p) D := by
  funext b
  by_cases e : b = D
  · rw [e, wo_at, wo_at]
  · rw [wo_ne e, wo_ne e]
    by_cases e2 : b = p
    · rw [e2, wo_at, wo_at]
    · rw [wo_ne e2, wo_ne e2, upd_ne e]
theorem two_le : Same (wo (wo H p) D) (wo H p) := fun b o e => wo_le e
/-- one more -/
theorem AcM.snoc {y : V} {d : PyData} (h : AcM K m p H1 D ds H) (hD : H1 D = none) (l : ds.length ≤ 100000) (s : Same H H2) (dy : Dg K (wo (wo H2 p) D) m y d) :
    ∃ acc, H2 D = some (.lst acc) ∧ acc.length < sizeLine ∧ AcM K m p H1 D (ds ++ [d]) (L2.upd H2 D (.lst (acc ++ [y]))) := by
  obtain ⟨s1, acc, e, ha⟩ := h
  refine ⟨acc, s _ _ e, by rw [ha.len]; exact Nat.lt_of_le_of_lt l (by decide), fun b o q => ?_, acc ++ [y], upd_same, ?_⟩
  · rw [upd_ne (ne_of_none q hD)]; exact s _ _ (s1 _ _ q)
  · rw [two_upd]
    exact (ha.ext (two_same s)).append (.cons dy .nil)
theorem AcM.ne (h : AcM K m p H1 D ds H) : H D ≠ none := by
  obtain ⟨_, acc, e, _⟩ := h
  rw [e]; exact fun z => by cases z
/-- a new tuple of data -/
theorem two_tup {q : Addr} {xs : List V} {es : List PyData} (eD : H D ≠ none) (ep : H p ≠ none) (hq : H q = none) (h : DgAll K (wo (wo H p) D) m xs es) : Same H (L2.upd H q (.tup xs)) ∧ Dg K (wo (wo (L2.upd H q (.tup xs)) p) D) m (.ref q) (.tuple es) := by
  have n : q ≠ D := fun z => eD (by rw [← z]; exact hq)
  have n2 : q ≠ p := fun z => ep (by rw [← z]; exact hq)
  have s : Same H (L2.upd H q (.tup xs)) := Same.new (Same.refl _) hq
  exact ⟨s, .tup (SqT.of (by rw [wo_ne n, wo_ne n2]; exact upd_same)) (h.ext (two_same s))⟩
/-- what stood beside p when D was still free -/
theorem two_old {x : V} {d : PyData} (hD : H1 D = none) (s : Same H1 H) (h : Dg K (wo H1 p) m x d) : Dg K (wo (wo H p) D) m x d := h.ext fun b o e => by
  have n2 : b ≠ p := fun z => by rw [z, wo_at] at e; cases e
  have e' := e
  rw [wo_ne n2] at e'
  have n : b ≠ D := fun z => by rw [z, hD] at e'; cases e'
  rw [wo_ne n, wo_ne n2]
  exact s b o e'
theorem two_olds {x : List V} {d : List PyData} (hD : H1 D = none) (s : Same H1 H) (h : DgAll K (wo H1 p) m x d) : DgAll K (wo (wo H p) D) m x d := h.ext fun b o e => by
  have n2 : b ≠ p := fun z => by rw [z, wo_at] at e; cases e
  have e' := e
  rw [wo_ne n2] at e'
  have n : b ≠ D := fun z => by rw [z, hD] at e'; cases e'
  rw [wo_ne n, wo_ne n2]
  exact s b o e'
end
def tupD (r : PyData) : PyData := .tuple (itsD r)
theorem SqQ.le {K : PySem.W.Frag} {H H' : Hp} {a : Addr} {xs : List V} (h : SqQ K H a xs) (s : Same H H') : SqQ K H' a xs := h.same s
/-- tuple([tuple(row) for row in rows]) -/
theorem rows_tup {K : PySem.W.Frag} {H : Hp} {p a : Addr} {m : Bool} {ys : List V} {es : List PyData} {σ : L2.St} {te : TE} {i : Nat} {vs : List Nat} {Q : VK} {A : Type} {rT rT2 : List V → Hp → VK → Prop}
    (e1 : rT = fun xs H Q => ∃ p ys, xs = [.ref p] ∧ ((SqL K H p ys ∧ ∀ l, H l = none → Q (.ref l) (L2.upd H l (.tup ys))) ∨ (SqT K H p ys ∧ Q (.ref p) H)))
    (e2 : rT2 = fun xs H Q => ∃ p ys, xs = [.ref p] ∧ (SqL K H p ys ∧ (∀ l, H l = none → Q (.ref l) (L2.upd H l (.tup ys))) ∨ SqT K H p ys ∧ Q (.ref p) H))
    (hte : ∀ R : VK, R (.ref a) H → te σ H R) (hq : SqQ K H a ys) (hes : DgAll K (wo H p) m ys es) (hr : ∀ r ∈ es, isSqD r = true) (hl : es.length ≤ 1000) (np : H p ≠ none)
    (hw : ∀ x, wipe ((wipe σ vs).set i (some x)) vs = wipe σ vs) (hi : ∀ x, ((wipe σ vs).set i (some x))[i]? = some (some x))
    (q : ∀ r zs H', Same H H' → H' r = some (.tup zs) → r ≠ p → DgAll K (wo H' p) m zs (es.map tupD) → Q (.ref r) H') :
    tCB rT (tCons (tLc (iSq K te) (gName i) tYes (tCB rT2 (tCons (tVar i) tNil)) vs) tNil) σ H Q := by
  refine hte _ ⟨a, rfl, lc_sq hq fun D hD => ⟨fun j H' => AcM K m p H D ((es.take j).map tupD) H', AcM.start hD, fun j H' h => h.1, ?_, ?_⟩⟩
  · rintro j x H' hx hA
    obtain ⟨d, hd, dx⟩ := hes.at j x hx
    have hm : d ∈ es := List.mem_of_getElem? hd
    have s' := hA.1
    have dx' : Dg K (wo (wo H' p) D) m x d := two_old hD s' dx
    have eD := hA.ne
    have ep : H' p ≠ none := same_at s' np
    refine ⟨hw x, tYesT ⟨_, hi x, ?_⟩⟩
    have len : ((es.take j).map tupD).length ≤ 100000 := by rw [List.length_map]; exact Nat.le_trans (List.length_take_le' _ _) (by omega)
    have fin : ∀ y H2, Same H' H2 → Dg K (wo (wo H2 p) D) m y (tupD d) → ∃ acc, H2 D = some (.lst acc) ∧ acc.length < sizeLine ∧ AcM K m p H D ((es.take (j + 1)).map tupD) (L2.upd H2 D (.lst (acc ++ [y]))) := fun y H2 s2 dy => by
      have := hA.snoc hD len s2 dy
      rw [List.take_add_one, hd, List.map_append]
      exact this
    rw [e2]
    obtain ⟨r, zs, rfl, hz, hzs⟩ := dx'.lst_q (sq_its (hr d hm))
    rcases hz with hz | hz
    · refine ⟨r, zs, rfl, .inl ⟨hz.ext (fun b o e => wo_le (wo_le e)), fun q' hq' => ?_⟩⟩
      obtain ⟨s2, dy⟩ := two_tup eD ep hq' hzs
      exact fin _ _ s2 dy
    · exact ⟨r, zs, rfl, .inr ⟨hz.ext (fun b o e => wo_le (wo_le e)), fin _ _ (Same.refl _) (.tup hz hzs)⟩⟩
  · rintro H' ⟨s', acc, e, ha⟩
    rw [hes.len, List.take_length] at ha
    rw [e1]
    refine ⟨D, acc, rfl, .inl ⟨SqL.of e, fun l hl' => ?_⟩⟩
    have nl : l ≠ p := fun z => (same_at s' np) (by rw [← z]; exact hl')
    have s2 : Same H' (L2.upd H' l (.tup acc)) := Same.new (Same.refl _) hl'
    refine q l acc _ (s'.trans s2) upd_same nl ?_
    exact ha.ext (fun b o e => (Kp.of s2).wo b o (wo_le e))
/-! ### data without lists and dicts -/
mutual
def lfD : PyData → Bool
  | .none => true
  | .int _ => true
  | .str _ => true
  | .bool _ => true
  | .tuple ds => lfAll ds
  | .list _ => false
  | .dict _ => false
def lfAll : List PyData → Bool
  | [] => true
  | d :: ds => lfD d && lfAll ds
end
mutual
theorem dg_lf {K : PySem.W.Frag} {H : Hp} {m m' : Bool} : ∀ (d : PyData) (x : V), lfD d = true → Dg K H m x d → Dg K H m' x d
  | .none, _, _, h => by cases h; exact .non
  | .int _, _, _, h => by cases h; exact .int _
  | .str _, _, _, h => by cases h; exact .str _
  | .bool _, _, _, h => by cases h; exact .bl _
  | .tuple ds, _, e, h => by
    have e' : lfAll ds = true := by simpa [lfD] using e
    cases h with
    | tup hs ha => exact .tup hs (dg_lfAll ds _ e' ha)
  | .list _, _, e, _ => by simp [lfD] at e
  | .dict _, _, e, _ => by simp [lfD] at e
theorem dg_lfAll {K : PySem.W.Frag} {H : Hp} {m m' : Bool} : ∀ (ds : List PyData) (xs : List V), lfAll ds = true → DgAll K H m xs ds → DgAll K H m' xs ds
  | [], _, _, h => by cases h; exact .nil
  | d :: ds, _, e, h => by
    have e' : lfD d = true ∧ lfAll ds = true := by simpa [lfAll] using e
    cases h with
    | cons h1 h2 => exact .cons (dg_lf d _ e'.1 h1) (dg_lfAll ds _ e'.2 h2)
end
theorem lfAll_map {α : Type} {f : α → PyData} (h : ∀ a, lfD (f a) = true) : ∀ l : List α, lfAll (l.map f) = true
  | [] => by simp [lfAll]
  | a :: l => by rw [List.map_cons]; unfold lfAll; rw [h a, lfAll_map h l]; rfl
theorem lf_enD (e : Ent) : lfD (enD e) = true := by
  cases e with
  | none => rfl
  | some p => obtain ⟨g, w⟩ := p; rfl
theorem lf_stD (D : Dcd) : lfD D.stD = true := by
  unfold Dcd.stD lfD
  exact lfAll_map (fun r => by unfold lfD; exact lfAll_map lf_enD r) _
theorem lf_dEn (D : Dcd) : lfD D.enD = true := by
  unfold Dcd.enD lfD
  exact lfAll_map (fun e => by cases e <;> rfl) _
mutual
theorem dg_dp {K : PySem.W.Frag} {H : Hp} : ∀ (d : PyData) (x : V), Dg K H false x d → Dp K H x d
  | .none, _, h => by cases h; exact .non
  | .int _, _, h => by cases h; exact .int _
  | .str _, _, h => by cases h; exact .str _
  | .bool _, _, h => by cases h; exact .bl _
  | .tuple ds, _, h => by
    cases h with
    | tup hs ha => exact .tup hs (dg_dpAll ds _ ha)
  | .list ds, _, h => by
    cases h with
    | lst hs _ ha => exact .lst hs (dg_dpAll ds _ ha)
  | .dict _, _, h => by
    cases h with
    | emp e => cases e
    | dct _ e => cases e
theorem dg_dpAll {K : PySem.W.Frag} {H : Hp} : ∀ (ds : List PyData) (xs : List V), DgAll K H false xs ds → DpAll K H xs ds
  | [], _, h => by cases h; exact .nil
  | d :: ds, _, h => by
    cases h with
    | cons h1 h2 => exact .cons (dg_dp d _ h1) (dg_dpAll ds _ h2)
end
end My
namespace My
open PySem PySem.Spec PyProof.Rows L2
theorem strOk_of {w : List Nat} (h : ∀ c ∈ w, c < 200) : PyData.strOk (S w) = true := by
  show (S w).cps.all (· < 0x110000) = true
  rw [← Array.all_toList, List.all_eq_true]
  intro c hc
  have hc' : c ∈ w := by rw [← S_tl w]; exact hc
  exact decide_eq_true (by have := h c hc'; omega)
theorem canAll {α : Type} {f : α → PyData} : ∀ (l : List α), (∀ a ∈ l, (f a).canLay0 = true) → PyData.canLayAll0 (l.map f) = true
  | [], _ => by simp [PyData.canLayAll0]
  | a :: l, h => by
    rw [List.map_cons]
    unfold PyData.canLayAll0
    rw [h a List.mem_cons_self, canAll l fun b hb => h b (List.mem_cons_of_mem _ hb)]; rfl
theorem shaped_of {d : PyData} (h1 : d.canLay0 = true) (h2 : d.depth ≤ 64) : SeqAt.shaped d = true := by
  unfold SeqAt.shaped
  rw [h1, decide_eq_true h2]; rfl
theorem shaped_stD {D : Dcd} (h : D.ok) : SeqAt.shaped D.stD = true := by
  refine shaped_of ?_ (Nat.le_trans (fit_stD h).d (by omega))
  unfold Dcd.stD PyData.canLay0
  refine canAll _ fun r hr => ?_
  unfold PyData.canLay0
  refine canAll _ fun e he => ?_
  have o := (h.rows r hr).2 e he
  cases e with
  | none => unfold enD PyData.canLay0; rfl
  | some p =>
    obtain ⟨g, w⟩ := p
    unfold enD PyData.canLay0 PyData.canLayAll0 PyData.canLayAll0 PyData.canLayAll0 PyData.canLay0
    rw [strOk_of fun c hc => (o g w rfl).2.1.lt c hc]; rfl
theorem shaped_dEn {D : Dcd} (h : D.ok) : SeqAt.shaped D.enD = true := by
  refine shaped_of ?_ (Nat.le_trans (fit_dEn h).d (by omega))
  unfold Dcd.enD PyData.canLay0
  refine canAll _ fun e he => ?_
  cases e with
  | none => unfold wdD PyData.canLay0; rfl
  | some w =>
    unfold wdD
    rw [show PyData.canLay0 (.str (S w)) = PyData.strOk (S w) by unfold PyData.canLay0; rfl, strOk_of fun c hc => (h.words _ he w rfl).1.lt c hc]
theorem dcd_eq {D D' : Dcd} : D = D' ↔ D.sg = D'.sg ∧ D.st = D'.st ∧ D.en = D'.en := by
  obtain ⟨a, b, c⟩ := D
  obtain ⟨a', b', c'⟩ := D'
  exact ⟨fun e => by injection e with e1 e2 e3; exact ⟨e1, e2, e3⟩, fun ⟨e1, e2, e3⟩ => by simp at e1 e2 e3; rw [e1, e2, e3]⟩
theorem eqv_stD {D D' : Dcd} : PyData.eqv D.stD D'.stD = decide (D.st = D'.st) := by
  rw [Bool.eq_iff_iff, eqv_pl _ _ (plD_stD D) (plD_stD D'), decide_eq_true_eq]
  exact ⟨stD_inj, fun e => by unfold Dcd.stD; rw [e]⟩
theorem eqv_dEn {D D' : Dcd} : PyData.eqv D.enD D'.enD = decide (D.en = D'.en) := by
  rw [Bool.eq_iff_iff, eqv_pl _ _ (plD_dEn D) (plD_dEn D'), decide_eq_true_eq]
  exact ⟨dEn_inj, fun e => by unfold Dcd.enD; rw [e]⟩
/-- a line of signs -/
abbrev lnD (l : List Nat) : PyData := .tuple (l.map fun (a : Nat) => PyData.int a)
theorem isLn_of {n : Nat} {l : List Nat} (h : ∀ a ∈ l, a < n) : isLn n (lnD l) = true := by
  show (l.map fun (a : Nat) => PyData.int a).all (isBe n) = true
  rw [List.all_eq_true]
  intro d hd
  obtain ⟨a, ha, rfl⟩ := List.mem_map.mp hd
  show (decide ((0 : Int) ≤ (a : Nat)) && decide (((a : Nat) : Int) < n)) = true
  rw [decide_eq_true (by omega), decide_eq_true (by have := h a ha; omega)]; rfl
theorem joinL_nil : ∀ ws : List (List Nat), TL.joinL [] ws = ws.flatten
  | [] => rfl
  | [w] => by simp [TL.joinL]
  | w :: v :: r => by
    show w ++ ([] ++ TL.joinL [] (v :: r)) = _
    rw [joinL_nil (v :: r)]; rfl
theorem join_words (ws : List (List Nat)) : Txt.join (Str.ofString "") (ws.map S) = S ws.flatten := by
  rw [TL.join_eq]
  have e : cs (Str.join (Str.ofString "") (ws.map S)) = ws.flatten := by
    rw [show cs (Str.join (Str.ofString "") (ws.map S)) = TL.tl (Str.join (Str.ofString "") (ws.map S)) from rfl, TL.tl_join, List.map_map]
    have : (ws.map (TL.tl ∘ S)) = ws := by
      rw [show (TL.tl ∘ S) = id from funext fun l => S_tl l]; simp
    rw [this]
    exact joinL_nil ws
  rw [← S_of (Str.join _ _), e]
theorem sum_words (ws : List (List Nat)) : ((ws.map S).map (·.length)).sum = ws.flatten.length := by
  induction ws with
  | nil => rfl
  | cons w r ih => rw [List.map_cons, List.map_cons, List.sum_cons, ih, List.flatten_cons, List.length_append, S_len]
end My
namespace My
open PySem PySem.Spec PyProof.Rows L2
theorem Dcd.go_app (D : Dcd) (l2 : List Nat) : ∀ (l1 : List Nat) (s : Nat), D.go s (l1 ++ l2) = match D.go s l1 with
    | none => none
    | some (t, u) => (D.go t l2).map fun (p : Nat × List Nat) => (p.1, u ++ p.2)
  | [], s => by
    show D.go s l2 = (D.go s l2).map fun (p : Nat × List Nat) => (p.1, [] ++ p.2)
    cases D.go s l2 with
    | none => rfl
    | some p => rfl
  | b :: l, s => by
    show (match D.at s b with | none => none | some (g, w) => (D.go g (l ++ l2)).map fun (p : Nat × List Nat) => (p.1, w ++ p.2)) = match (match D.at s b with | none => none | some (g, w) => (D.go g l).map fun (p : Nat × List Nat) => (p.1, w ++ p.2)) with | none => none | some (t, u) => (D.go t l2).map fun (p : Nat × List Nat) => (p.1, u ++ p.2)
    cases h : D.at s b with
    | none => rfl
    | some p =>
      obtain ⟨g, w⟩ := p
      show (D.go g (l ++ l2)).map _ = match (D.go g l).map (fun (p : Nat × List Nat) => (p.1, w ++ p.2)) with | none => none | some (t, u) => (D.go t l2).map fun (p : Nat × List Nat) => (p.1, u ++ p.2)
      rw [D.go_app l2 l g]
      cases D.go g l with
      | none => rfl
      | some q =>
        obtain ⟨t, u⟩ := q
        show Option.map _ (Option.map _ (D.go t l2)) = Option.map _ (D.go t l2)
        rw [Option.map_map]
        cases D.go t l2 with
        | none => rfl
        | some r => obtain ⟨x, y⟩ := r; show some (x, w ++ (u ++ y)) = some (x, w ++ u ++ y); rw [List.append_assoc]
theorem Dcd.go_none (D : Dcd) {l : List Nat} {s i : Nat} (h : D.go s (l.take i) = none) : D.go s l = none := by
  have := D.go_app (l.drop i) (l.take i) s
  rw [List.take_append_drop, h] at this
  exact this
theorem Dcd.wr_none (D : Dcd) {l : List Nat} {i : Nat} (h : D.go 0 (l.take i) = none) : D.wr l = none := by
  unfold Dcd.wr
  rw [D.go_none h]
theorem take_snoc {l : List Nat} {i a : Nat} (h : l[i]? = some a) : l.take (i + 1) = l.take i ++ [a] := by rw [List.take_add_one, h]; rfl
end My
namespace My
open PySem PySem.Spec PyProof.Rows L2
theorem wo_wo {H : Hp} {D : Addr} : wo (wo H D) D = wo H D := by
  funext b
  by_cases e : b = D
  · rw [e, wo_at, wo_at]
  · rw [wo_ne e]
/-- a comprehension over a range whose items are data -/
theorem lc_range_data {K : PySem.W.Frag} {m : Bool} {p : Addr} {lo : Int} {n : Nat} {g : TG} {tt : TT} {te : TE} {vs : List Nat} {σ : L2.St} {H1 : Hp} {D : Addr} {Qd : Hp → Prop} (f : Nat → PyData) (hD : H1 D = none) (hn : n ≤ 100000)
    (step : ∀ j H' (R : VK) (N : Hp → Prop), j < n → Same H1 H' → H' D ≠ none → (∀ y H4, Same H' H4 → Dg K (wo (wo H4 p) D) m y (f j) → R y H4) →
      g (.int (lo + j)) (wipe σ vs) H' fun σ2 H2 => wipe σ2 vs = wipe σ vs ∧ tt σ2 H2 fun b H3 => if b = true then te σ2 H3 R else N H3)
    (done : ∀ H' xs, Same H1 H' → H' D = some (.lst xs) → DgAll K (wo (wo H' p) D) m xs ((List.range n).map f) → Qd H') :
    ∃ W : Nat → Nat → Hp → Prop, (∃ m, W 0 m (L2.upd H1 D (.lst []))) ∧ ∀ i m H, W i m H →
      ((Itr lo n).stop i H ∧ Qd H) ∨ ((Itr lo n).go i H ∧ ∃ Nx : Hp → Prop, (∀ H', Nx H' → ∃ m', m' < m ∧ W (i + 1) m' H') ∧ ∀ x H', (Itr lo n).yld i H x H' → g x (wipe σ vs) H' fun σ2 H2 => wipe σ2 vs = wipe σ vs ∧ tt σ2 H2 fun b H3 =>
        if b = true then te σ2 H3 fun y H4 => ∃ acc, H4 D = some (.lst acc) ∧ acc.length < sizeLine ∧ Nx (L2.upd H4 D (.lst (acc ++ [y]))) else Nx H3) := by
  refine lc_range (lo := lo) (n := n) (fun i H' => AcM K m p H1 D ((List.range i).map f) H') (AcM.start hD) ?_ ?_
  · rintro i H' hi hA
    refine step i H' _ _ hi hA.1 hA.ne fun y H4 s4 dy => ?_
    have := hA.snoc hD (by rw [List.length_map, List.length_range]; omega) s4 dy
    rw [List.range_succ, List.map_append]
    exact this
  · rintro H' ⟨s', acc, e, ha⟩
    exact done H' acc s' e ha
/-- over a list of known values -/
theorem lc_list_data {K : PySem.W.Frag} {m : Bool} {p a : Addr} {xs : List V} {g : TG} {tt : TT} {te : TE} {vs : List Nat} {σ : L2.St} {H1 : Hp} {D : Addr} {Qd : Hp → Prop} (f : Nat → PyData) (hL : SqL K H1 a xs) (hD : H1 D = none) (hn : xs.length ≤ 100000)
    (step : ∀ j x H' (R : VK) (N : Hp → Prop), xs[j]? = some x → Same H1 H' → H' D ≠ none → (∀ y H4, Same H' H4 → Dg K (wo (wo H4 p) D) m y (f j) → R y H4) →
      g x (wipe σ vs) H' fun σ2 H2 => wipe σ2 vs = wipe σ vs ∧ tt σ2 H2 fun b H3 => if b = true then te σ2 H3 R else N H3)
    (done : ∀ H' ys, Same H1 H' → H' D = some (.lst ys) → DgAll K (wo (wo H' p) D) m ys ((List.range xs.length).map f) → Qd H') :
    ∃ W : Nat → Nat → Hp → Prop, (∃ m, W 0 m (L2.upd H1 D (.lst []))) ∧ ∀ i m H, W i m H →
      ((Itl K a).stop i H ∧ Qd H) ∨ ((Itl K a).go i H ∧ ∃ Nx : Hp → Prop, (∀ H', Nx H' → ∃ m', m' < m ∧ W (i + 1) m' H') ∧ ∀ x H', (Itl K a).yld i H x H' → g x (wipe σ vs) H' fun σ2 H2 => wipe σ2 vs = wipe σ vs ∧ tt σ2 H2 fun b H3 =>
        if b = true then te σ2 H3 fun y H4 => ∃ acc, H4 D = some (.lst acc) ∧ acc.length < sizeLine ∧ Nx (L2.upd H4 D (.lst (acc ++ [y]))) else Nx H3) := by
  refine lc_list (K := K) (a := a) (xs := xs) (fun i H' => AcM K m p H1 D ((List.range i).map f) H') (AcM.start hD) (fun i H' _ h => hL.ext h.1) ?_ ?_
  · rintro i x H' hx hA
    have hi := (List.getElem?_eq_some_iff.mp hx).1
    refine step i x H' _ _ hx hA.1 hA.ne fun y H4 s4 dy => ?_
    have := hA.snoc hD (by rw [List.length_map, List.length_range]; omega) s4 dy
    rw [List.range_succ, List.map_append]
    exact this
  · rintro H' ⟨s', acc, e, ha⟩
    exact done H' acc s' e ha
/-- what the list at D holds, told without D -/
theorem own_list {K : PySem.W.Frag} {m : Bool} {p D : Addr} {H : Hp} {xs : List V} {ds : List PyData} (h : DgAll K (wo (wo H p) D) m xs ds) : DgAll K (wo H p) m xs ds := h.ext fun _ _ e => wo_le e
theorem own_list0 {K : PySem.W.Frag} {m : Bool} {D : Addr} {H : Hp} {xs : List V} {ds : List PyData} (h : DgAll K (wo (wo H D) D) m xs ds) : DgAll K H m xs ds := h.ext fun _ _ e => wo_le (wo_le e)
/-- a decoder's parts as lists -/
def Dcd.stL (D : Dcd) : PyData := .list (D.st.map fun r => .list (r.map My.enD))
def Dcd.enL (D : Dcd) : PyData := .list (D.en.map wdD)
theorem Dcd.goodL {D : Dcd} (h : D.ok) : GoodD D (.int (D.sg : Nat)) D.stL D.enL :=
  ⟨h, rfl, rfl, fun r hr => by
    obtain ⟨x, _, rfl⟩ := List.mem_map.mp hr
    rfl, by show (D.st.map fun r => PyData.list (r.map My.enD)).map itsD = _; rw [List.map_map]; rfl, rfl, rfl⟩
theorem weight_all {α : Type} {f : α → PyData} {k : Nat} : ∀ l : List α, (∀ a ∈ l, (f a).weight ≤ k) → PyData.weightAll (l.map f) ≤ (k + 1) * l.length
  | [], _ => by simp [PyData.weightAll]
  | a :: l, h => by
    rw [List.map_cons]
    unfold PyData.weightAll
    have h1 := h a List.mem_cons_self
    have h2 := weight_all l fun b hb => h b (List.mem_cons_of_mem _ hb)
    rw [List.length_cons, Nat.mul_succ]; omega
theorem weight_stL {D : Dcd} (h : D.ok) : D.stL.weight ≤ 100000 := by
  have n40 := h.n40
  have s5 := h.s5
  unfold Dcd.stL
  rw [PyData.weight]
  refine Nat.le_trans (weight_all (k := 210) _ fun r hr => ?_) (by omega)
  rw [PyData.weight]
  obtain ⟨l, o⟩ := h.rows r hr
  refine Nat.le_trans (weight_all (k := 40) _ fun e he => (fit_enD (o e he) n40).w) (by omega)
theorem weight_enL {D : Dcd} (h : D.ok) : D.enL.weight ≤ 100000 := by
  have n40 := h.n40
  have le := h.ends
  unfold Dcd.enL
  rw [PyData.weight]
  refine Nat.le_trans (weight_all (k := 4) _ fun e he => (fit_wdD fun w q => h.words e he w q).w) (by omega)
/-- where a new instance is made, the data stand beside it -/
theorem made_dw {K : PySem.W.Frag} {H : Hp} {x dx : Addr} {o : HO} {C : Addr} {m : Bool} {v : V} {d : PyData} (hx : H x = none) (hdx : H dx = none) (h : Dg K H m v d) : Dw K x (L2.upd (L2.upd H dx o) x (.ins C dx [])) m v d := by
  refine h.ext fun b ob e => ?_
  have n1 : b ≠ x := fun z => by rw [z, hx] at e; cases e
  have n2 : b ≠ dx := fun z => by rw [z, hdx] at e; cases e
  rw [wo_ne n1, upd_ne n1, upd_ne n2]; exact e
theorem made_same {H H' : Hp} {x dx : Addr} {o : HO} {C : Addr} (hx : H x = none) (hdx : H dx = none) (k : Kp x (L2.upd (L2.upd H dx o) x (.ins C dx [])) H') : Same H H' := fun b ob e => by
  have n1 : b ≠ x := fun z => by rw [z, hx] at e; cases e
  have n2 : b ≠ dx := fun z => by rw [z, hdx] at e; cases e
  exact k b ob n1 (by rw [upd_ne n1, upd_ne n2]; exact e)
end My
namespace My
open PySem PySem.Spec PyProof.Rows L2
/-- a new tuple of known items, in a comprehension -/
theorem tup_new {K : PySem.W.Frag} {m : Bool} {p D t : Addr} {H : Hp} {xs : List V} {ds : List PyData} (eD : H D ≠ none) (ep : H p ≠ none) (ht : H t = none) (h : ∀ G, DgAll K G m xs ds) : Same H (L2.upd H t (.tup xs)) ∧ Dg K (wo (wo (L2.upd H t (.tup xs)) p) D) m (.ref t) (.tuple ds) := by
  have n1 : t ≠ D := fun z => eD (by rw [← z]; exact ht)
  have n2 : t ≠ p := fun z => ep (by rw [← z]; exact ht)
  exact ⟨Same.new (Same.refl _) ht, .tup (SqT.of (by rw [wo_ne n1, wo_ne n2]; exact upd_same)) (h _)⟩
end My

set_option Elab.async false
set_option linter.all false
set_option maxRecDepth 100000
set_option maxHeartbeats 4000000
/-! C(..) within a try: what its __init__ lets out is caught. -/
namespace L2
open PySem PySem.Spec PyProof.Rows
section
variable {X : Cx} {CX : CXT} {k : Nat} {f C : Addr} {fd : FuncData} {ps : List Str} {ds : List Value} {dvs : List V} {sp : Sp} {E : St → XK} {x : Str} {p pos : Pos} {e : Expr} {es : List Expr} {t : TA}
theorem run_makeS {pins : List (Addr × Obj)} {σ : St} {H : Hp} {s : Shared} {Q : VK} {us : List Value} {vs : List V} (M : Mk X.K C f) (F : FnOk X.prog X.w X.K X.mg X.base CX k f fd ps sp) (hr : Room (k + 1) X.A) (hb : Binds X.K fd ps ds) (hd : Vals dvs ds)
    (hx : PassesAt CX X σ (E σ)) (I : Inv X pins σ H s) (r : Vals vs us)
    (h : ∀ x dx, H x = none → H dx = none → dx ≠ x → sp (.ref x :: (vs ++ dvs)) (upd (upd H dx (.own x)) x (.ins C dx [])) (fun v H2 => v = .non ∧ Q (.ref x) H2) (E σ)) :
    wpAny (model X.prog X.w) X.A (call (.ref C) us) (EP X pins σ Q) X.xe s := by
  have hq := h (s.heap.objs.size + 1) s.heap.objs.size (I.hok.fresh (Nat.le_succ _)) (I.hok.fresh (Nat.le_refl _)) (Nat.ne_of_lt (Nat.lt_succ_self _))
  have I2 := Inv.made (C := C) I
  have r2 : Vals (V.ref (s.heap.objs.size + 1) :: (vs ++ dvs)) (Value.ref (s.heap.objs.size + 1) :: (us ++ ds)) := .cons rfl (r.append hd)
  have hl : (Value.ref (s.heap.objs.size + 1) :: us ++ ds).length = ps.length := by
    have e := r2.length
    rw [F.len _ _ _ _ hq] at e
    exact e.symm
  refine wpAny_call (make_map (f := f) I.kIn M.makes M.init (beq_iff_eq.mp M.fn) (codeAny_mono (F.run _ X.stack _ _ ⟨Value.ref (s.heap.objs.size + 1) :: us, []⟩ (Value.ref (s.heap.objs.size + 1) :: (us ++ ds)) _ _ (E σ) (hr.make C us [])
    (I2.env0.make C us []) (hb _ (Value.ref (s.heap.objs.size + 1) :: us) I2.kIn hl) r2 hq) fun r s' hq' => ?_))
  cases r with
  | error e => exact hx pins _ _ e s' I2 hq'
  | ok fl =>
    cases fl with
    | ret u =>
      obtain ⟨v, H', I3, rv, ev, q3⟩ := I2.after hq'
      subst ev
      exact ⟨rv, ⟨V.ref (s.heap.objs.size + 1), H', I3, rfl, q3⟩⟩
    | next => exact False.elim hq'
    | brk => exact False.elim hq'
    | cont => exact False.elim hq'
def tMakeS (C : Addr) (sp : Sp) (dvs : List V) (E : St → XK) (t : TA) : TE := fun σ H Q => t σ H fun vs H1 => ∀ x dx, H1 x = none → H1 dx = none → dx ≠ x →
  sp (.ref x :: (vs ++ dvs)) (upd (upd H1 dx (.own x)) x (.ins C dx [])) (fun v H2 => v = .non ∧ Q (.ref x) H2) (E σ)
theorem pe_makeS (M : Mk X.K C f) (F : FnOk X.prog X.w X.K X.mg X.base CX k f fd ps sp) (hr : Room (k + 1) X.A) (hg : Gl X x) (hm : X.mg x = some (.ref C)) (hb : Binds X.K fd ps ds) (hd : Vals dvs ds) (hx : ∀ σ, PassesAt CX X σ (E σ))
    (ha : PA X (e :: es) t) (hdb : (x == ("__debug__" : Str)) = false := by decide) (he : starEach (e :: es) X.env = (false, eval e X.env) :: starEach es X.env := by rfl) (hpl : (backTo pos (starEach es X.env)).any (·.1) = false := by rfl) :
    PE X (.Call (.Name x p) (e :: es) [] pos) (tMakeS C sp dvs E t) := by
  refine ⟨fun pins s σ H Q I h => ?_⟩
  refine wpAny_Call_Name_kw (ld_glob I hg hm ?_ hdb)
  refine PySem.W.callWith_K (h₀ := X.base) I.ok.mod.kin M.kp (thn (ha.run pos pins s σ H _ I h) fun us s1 ⟨vs, H1, I1, r, q⟩ => ⟨I1.kIn, ?_⟩) he hpl
  exact run_makeS M F hr hb hd (hx σ) I1 r q
end
end L2
namespace L2
open PySem PySem.Spec PyProof.Rows
theorem call_isi_K {X : Cx} {K : PySem.W.Frag} (e : X.K = K) : CallR X (.builtin "isinstance") (rIsi K) := by subst e; exact call_isi
theorem call_list_of_K {X : Cx} {K : PySem.W.Frag} (e : X.K = K) : CallR X (.type "list") (fun xs H Q => ∃ p ys, xs = [.ref p] ∧ (SqL K H p ys ∨ SqT K H p ys) ∧ ∀ l, H l = none → Q (.ref l) (upd H l (.lst ys))) := by subst e; exact call_list_of
theorem call_list_ofSK {X : Cx} {K : PySem.W.Frag} (e : X.K = K) : CallR X (.type "list") (fun xs H Q => ∃ p ys, xs = [.ref p] ∧ (SqL K H p ys ∨ SqT K H p ys) ∧ ∀ l, H l = none → (l == sysModules) = false → Q (.ref l) (upd H l (.lst ys))) := by subst e; exact call_list_ofS
/-- no list of one's own lies where the modules lie -/
def tLow (te : TE) : TE := fun σ H Q => te σ H fun v H' => H' sysModules = none → Q v H'
theorem pe_low {X : Cx} {base : Heap} {e : Expr} {te : TE} (hk : X.base = base) (hs : ∃ o, base.get? sysModules = some o) (h : PE X e te) : PE X e (tLow te) := by
  subst hk
  refine ⟨fun pins s σ H Q I hq => wpAny_mono (h.run pins s σ H _ I hq) (fun u s' hh => ?_) fun _ _ z => z⟩
  obtain ⟨v, H', I', r, q⟩ := hh
  obtain ⟨o, e⟩ := hs
  exact ⟨v, H', I', r, q (I'.bs _ _ e).2⟩
theorem low_ne {H : Hp} {a : Addr} (hs : H sysModules = none) (ha : H a ≠ none) : (a == sysModules) = false := beq_eq_false_iff_ne.mpr fun e => ha (by rw [e]; exact hs)
end L2

set_option Elab.async false
set_option linter.all false
set_option maxRecDepth 100000
set_option maxHeartbeats 4000000
/-! {k: v}, one pair, the key a tuple. -/
namespace L2
open PySem PySem.Spec PyProof.Rows
def tDispT1 (tk tv : TE) : TE := fun σ H Q => ∀ p, H p = none → tk σ (upd H p (.dT [])) fun x H1 => tv σ H1 fun y H2 => H2 p = some (.dT []) ∧ ∃ (b : Addr) (ks : List Key), x = .ref b ∧ H2 b = some (.tup (ks.map kV)) ∧ Q (.ref p) (upd H2 p (.dT [(ks, y)]))
theorem pe_dispT1 {X : Cx} {pos : Pos} {k v : Expr} {tk tv : TE} (hu : X.A.units + 1 < cLine) (hk : PE X k tk) (hv : PE X v tv) : PE X (.Dict [some k] [v] pos) (tDispT1 tk tv) := by
  refine ⟨fun pins s σ H Q I q => ?_⟩
  have hn := I.hok.fresh (Nat.le_refl s.heap.objs.size)
  have I1 := I.laid (a := s.heap.objs.size) (o := .dT []) (h' := s.heap.push { cls := .type "dict", data := .dict #[] }) (t' := s.toks) (fun _ _ q => Heap.get?_push_of_some _ q) (Nat.le_refl _) (dt_empty s.heap I.big)
  have hshape : (evalEachOpt [some k] X.env).zip ((evalEach [v] X.env).map fun v => do let x ← v; standAt pos; pure x) = (pairTrees [some k] [v] X.env pos).map fun p => (some p.1, p.2) := zip_pairTrees [some k] [v] X.env pos rfl rfl
  have hlen : (pairTrees [some k] [v] X.env pos).length = 1 := pairTrees_length [some k] [v] X.env pos rfl rfl
  have hne : pairTrees [some k] [v] X.env pos ≠ [] := fun e => by rw [e] at hlen; cases hlen
  rw [arm_eval_Dict, hshape, dictDisplay_pairs _ hne (by omega)]
  refine wpAny_bind (wpAny_standAt (wpAny_bind (wpAny_subDictH (knd := tupleKind (mixKind X.prog X.w)) (Q := fun d s' => wpAny (model X.prog X.w) X.A (pure (Value.ref d)) (EP X pins σ Q) X.xe s') (show X.A.units < cLine by omega) (by omega) ?_)))
  refine pairTrees_cons_walk (thn (hk.run pins _ σ _ _ I1 (q s.heap.objs.size hn)) fun u s1 ⟨x, H1, I1, rx, q1⟩ => thn (hv.run pins s1 σ H1 _ I1 q1) fun w2 s2 ⟨y, H2, I2, ry, e, b, ks, ex, eb, q2⟩ => pairTrees_nil_walk ?_)
  subst ex
  cases (show u = Value.ref b from rx)
  obtain ⟨z, hd, xs0, r0, dd⟩ := dt_of I2.hok e
  cases r0
  refine ⟨[(ks, b, w2)], ⟨rfl, rfl, key_of I2.hok eb, trivial⟩, dd, fun h' tk dd' hs => wpAny_pure ⟨.ref s.heap.objs.size, _, ?_, rfl, q2⟩⟩
  have he : ∃ q, h'.get? s.heap.objs.size = some q := let ⟨q, _, _, hq, _⟩ := dd'; ⟨q, hq⟩
  obtain ⟨o, es, ep, h1, h2, h3, h4, _, h5⟩ := dd'
  refine d_write I2 (by rw [e]; exact True.intro) hs he ⟨by show 1 ≤ sizeLine; decide, hd, [(ks, b, w2)], ?_, o, es, ep, h1, h2, h3, h4, h5⟩
  refine .cons ⟨rfl, ?_, ry⟩ .nil
  show upd H2 s.heap.objs.size (.dT [(ks, y)]) b = some (.tup (ks.map kV))
  rw [upd_ne (ne_of eb e (fun z => nomatch z))]
  exact eb
theorem pe_fldK {X : Cx} {K : PySem.W.Frag} {e : Expr} {f : Str} {pos : Pos} {ta : TE} (ek : X.K = K) (he : PE X e ta) (hb : attributeBase e f X.env (eval e X.env) = eval e X.env) : PE X (.Attribute e f pos) (tFld K ta f) := by subst ek; exact pe_fld he hb
end L2

set_option Elab.async false
set_option linter.all false
set_option maxRecDepth 100000
set_option maxHeartbeats 2000000
/-! An own error class over another own class over Exception, whose __init__ keeps its one argument: raised, caught, its attribute read. -/
namespace ErrC
open PySem PySem.W PySem.Calls PyProof.Rows PySem.HandSPX Builtin Builtin.ObjectAttr
abbrev tailE : List Value := [.type "Exception", .type "BaseException", .type "object"]
/-! ### the text of such an __init__ -/
def iA (p1 p2 : Pos) : Arguments := { posonlyargs := [], args := [{ arg := "self", annotation := none, pos := p1 }, { arg := "count", annotation := none, pos := p2 }], vararg := none, kwonlyargs := [], kw_defaults := [], kwarg := none, defaults := [] }
def iB (q1 q2 q3 q4 : Pos) : List Stmt := [.Assign [.Attribute (.Name "self" q1) "count" q2] (.Name "count" q3) q4]
def iS : Scope := { kind := .function, names := [(PySem.Str.ofString "self", .local), (PySem.Str.ofString "count", .local)], isGenerator := false, isCoroutine := false, more := [] }
/-- what the written part says of the class cn, at C, and of its __init__, at fI -/
structure ETxt (K : Frag) (mg : Str → Option Value) (cn qi : Str) (C fI : Addr) : Prop where
  gC : mg cn = some (.ref C)
  cls : ∃ nm q N bs bm sn sub ab col dd k0 k1 k2 k3 k5, K.lookup C = some (excClassObj nm q C N bs bm true sn sub ab col dd k0 k1 k2 k3 k5 "Exception.__new__") ∧ excTail tailE bm = true
  ov : excOver K C tailE = true
  tk : takerIn K C "count" = some none
  sa : findIn K (.ref C) "__setattr__" = some (some (.builtin "object.__setattr__"))
  ga : findIn K (.ref C) "__getattribute__" = some (some (.builtin "BaseException.__getattribute__"))
  gg : findIn K (.ref C) "__getattr__" = some none
  noN : findIn K (.ref C) "count" = some none
  iC : findIn K (.ref C) "__init__" = some (some (.ref fI))
  tC : typeIn K (.ref fI) = some (.type "function")
  kC : keepIn K (.ref C) = true
  exC : subIn K (.ref C) (.type "BaseException") = some true
  tyC : typeIn K (.ref C) = some (.type "type")
  hdC : hasDictIn K C = true
  fn : ∃ (oc : Value) (od : Option Addr) (doc pm : Value) (an : Option Addr) (cdv ct : Value) (osl : Array (Option Value)) (p1 p2 q1 q2 q3 q4 : Pos),
    K.lookup fI = some ⟨oc, od, .func (fnOf "__init__" qi (iA p1 p2) (iB q1 q2 q3 q4) iS .none .none doc pm an cdv ct), osl⟩ ∧ codeIn K cdv qi = true
theorem one_fits (v : Value) : [v].length ≤ sizeLine := by
  rw [sizeLine_eq]
  exact (by decide : 1 ≤ 16777216)
/-- what __init__ leaves of a fresh error at x -/
structure EndE (h h' : Heap) (x C dx t1 : Addr) (fl : Str) (v : Value) : Prop where
  keep : ∀ b o, b ≠ x → h.get? b = some o → h'.get? b = some o
  obj : h'.get? x = some (excObj C t1 (some dx) .none)
  dbig : h.objs.size ≤ dx
  dne : dx ≠ x
  ns : h'.Ns1 dx (fun y => if y = fl then some v else none)
structure MadeE (h h' : Heap) (e C d : Addr) (fl : Str) (v : Value) : Prop where
  keep : ∀ b o, h.get? b = some o → h'.get? b = some o
  new : h.objs.size ≤ e
  obj : ∃ t, h'.get? e = some (excObj C t (some d) .none)
  dbig : h.objs.size ≤ d
  dne : d ≠ e
  ns : h'.Ns1 d (fun y => if y = fl then some v else none)
section
variable {prog : Program} {w : World} {A : Around} {E : Value → Shared → Prop} {R : Result → Shared → Prop} {s : Shared} {K : Frag} {mg : Str → Option Value} {C fI : Addr} {cn qi : Str}
/-- the first store into a fresh error -/
theorem store_new {name : Str} {tk : Tok} {v : Value} {x t0 : Addr} (X : K.In s.heap) (hx : s.heap.get? x = some (excObj C t0 none .none)) (ho : excOver K C tailE = true) (ht : takerIn K C name = some none) (hh : hasDictIn K C = true)
    (hq : ∀ h' tk' dx, EndE s.heap h' x C dx t0 name v → R (.ok (.ret .none)) { s with heap := h', toks := tk' }) :
    codeAny (model prog w) A (.call (.builtin "object.__setattr__") ⟨[.ref x, .str name tk, v], []⟩) R s := by
  refine osa_openX (od := none) F.store_Exception X ⟨hx, rfl, rfl, trivial⟩ ho ht fun b => ?_
  obtain ⟨cd, hc, hd'⟩ := any_some hh
  have hxs : x ≠ s.heap.objs.size := Nat.ne_of_lt (Heap.lt_size hx)
  have hx1 : (s.heap.push { cls := .type "dict", data := .dict #[] }).get? x = some (excObj C t0 none .none) := Heap.get?_push_of_some _ hx
  refine wpAny_bind (wpAny_pure (wpAny_bind (instanceDict_exc hx (looks_clsIn X hc) hd' ?_)))
  show wpAny _ _ (storeInDict s.heap.objs.size (.str name tk) name v) _ _ _
  obtain ⟨hp, g, dr, t, os⟩ := s
  refine store_in_new ?_ ?_
  · exact ⟨_, #[], _, (Heap.get?_update_ne _ _ _ _ hxs.symm).trans (Heap.get?_push_at rfl rfl), rfl, fun e he => absurd he (by simp), fun _ => rfl⟩
  · intro h' tk' hn' hs
    refine hq h' tk' hp.objs.size ⟨fun b o hb ho => ?_, ?_, Nat.le_refl _, hxs.symm, hn'⟩
    · exact (hs.2 b (Nat.ne_of_lt (Heap.lt_size ho))).trans ((Heap.get?_update_ne _ _ _ _ hb).trans (Heap.get?_push_of_some _ ho))
    · exact (hs.2 x hxs).trans (Heap.get?_update_self _ hx1 rfl)
theorem ldC {M : Model} {s : Shared} {name : Str} {scope : Scope} {L a : Addr} {cd : Value} {m : Str → Option Value} {x : Str} {pos : Pos} {v : Value} {Q : Value → Shared → Prop} {A : Around} {E : Value → Shared → Prop} (hn : s.heap.Ns L m) (hv : m x = some v) (h : Q v s)
    (hk : scope.kind = .function := by rfl) (hl : (envOfC name scope L a cd).kindOf x = some .local := by rfl) (hd : (x == ("__debug__" : Str)) = false := by decide) :
    wpAny M A (eval (.Name x pos) (envOfC name scope L a cd)) Q E s := wpAny_Name (wpAny_loadName_local hk hl hn hv h) hd
theorem init_ok (T : ETxt K mg cn qi C fI) {x t0 : Addr} {v : Value} (X : K.In s.heap) (hlim : s.heap.NoLimit) (hx : s.heap.get? x = some (excObj C t0 none .none)) (hroom : A.depth < recursionLimit)
    (hq : ∀ h' tk dx, EndE s.heap h' x C dx t0 "count" v → R (.ok (.ret .none)) { s with heap := h', toks := tk }) :
    codeAny (model prog w) A (.call (.ref fI) ⟨[.ref x, v], []⟩) R s := by
  obtain ⟨oc, od, doc, pm, an, cdv, ct, osl, p1, p2, q1, q2, q3, q4, ho, hcd⟩ := T.fn
  refine Att.call_fn (binds := [("self", .ref x), ("count", v)]) X hlim ho hcd hroom (BindsTo.of_eq (by first | rfl | with_unfolding_all rfl)) (by first | rfl | decide | with_unfolding_all rfl) (fun s1 IC => ?_) rfl rfl rfl
  obtain ⟨h1, tk1, rfl⟩ := IC.toInCall.same
  have k : ∀ b o, s.heap.get? b = some o → h1.get? b = some o := IC.toInCall.keep
  have hn := IC.toInCall.ns
  have X1 : K.In h1 := X.keeps k
  have hx1 := k _ _ hx
  show wpAny _ _ (execs _ _) _ _ _
  refine wpAny_execs_cons (plainObj_wpAny_Assign_Attribute ?_)
  refine ldC (v := v) hn (by first | rfl | with_unfolding_all rfl | kernel_rfl) (ldC (v := .ref x) hn (by first | rfl | with_unfolding_all rfl | kernel_rfl) ?_)
  refine set_plain X1 (ox := excObj C t0 none .none) (od := none) ⟨hx1, rfl, rfl, trivial⟩ T.sa ?_
  refine store_new X1 hx1 T.ov T.tk T.hdC fun h3 tk3 dx M => ?_
  show wpAny _ _ (execs _ _) _ _ _
  have z : s.heap.objs.size < h1.objs.size := hn.lt
  exact wpAny_execs_nil (hq h3 tk3 dx ⟨fun b o hb e => M.keep b o hb (k b o e), M.obj, Nat.le_of_lt (Nat.lt_of_lt_of_le z M.dbig), M.dne, M.ns⟩)
theorem made_ok (T : ETxt K mg cn qi C fI) {v : Value} (X : K.In s.heap) (hlim : s.heap.NoLimit) (hroom : A.depth + 1 < recursionLimit)
    (hq : ∀ h' tk e d, MadeE s.heap h' e C d "count" v → R (.ok (.ret (.ref e))) { s with heap := h', toks := tk }) :
    codeAny (model prog w) A (.call (.ref C) ⟨[v], []⟩) R s := by
  obtain ⟨nm, q, N, bs, bm, sn, sub, ab, col, dd, k0, k1, k2, k3, k5, hC, hbm⟩ := T.cls
  obtain ⟨hp, g, dr, tk, os⟩ := s
  have k : ∀ b o, hp.get? b = some o → ((hp.push (kdv_tup [v])).push (excO C hp.objs.size)).get? b = some o := fun b o e => Heap.get?_push_of_some _ (Heap.get?_push_of_some _ e)
  have hget : ((hp.push (kdv_tup [v])).push (excO C hp.objs.size)).get? (hp.objs.size + 1) = some (excO C hp.objs.size) := by heap_get
  refine call_own F.excBase_Exception (fun X => excTail_contains X bm hbm) (X _ _ hC) (looks_findIn X T.iC) (fun self => bind_fn X self T.tC) (one_fits v) ?_
  refine init_ok (s := ⟨(hp.push (kdv_tup [v])).push (excO C hp.objs.size), g, dr, tk, os⟩) T (X.keeps k) (hlim.keeps k) hget ?_ fun h' tk' dx M => ?_
  · show A.depth + 1 < recursionLimit
    exact hroom
  · have old : ∀ b o, hp.get? b = some o → h'.get? b = some o := fun b o e => M.keep b o (Nat.ne_of_lt (Nat.lt_succ_of_lt (Heap.lt_size e))) (k b o e)
    have z : hp.objs.size + 1 + 1 ≤ dx := by
      have q := M.dbig
      first
        | exact q
        | (rw [Heap.size_push, Heap.size_push] at q; exact q)
        | (simpa only [Heap.size_push] using q)
    exact ⟨rfl, hq h' tk' (hp.objs.size + 1) dx ⟨old, Nat.le_succ _, ⟨_, M.obj⟩, Nat.le_trans (Nat.le_trans (Nat.le_succ _) (Nat.le_succ _)) z, M.dne, M.ns⟩⟩
end
end ErrC
namespace L2
open PySem PySem.Spec PyProof.Rows
/-- the own dict of an error that keeps v -/
abbrev cnt (v : V) : List (Str × V) := [(("count" : Str), v)]
theorem relO_cnt {v : V} {v' : Value} (r : RelV v v') (f : Str) : RelO (List.lookup f (cnt v)) (if f = "count" then some v' else none) := by
  have e := lookup_put "count" f v []
  show RelO (List.lookup f [(("count" : Str), v)]) _
  rw [e]
  by_cases h : f = "count"
  · rw [if_pos h, if_pos h]; exact r
  · rw [if_neg h, if_neg h]; trivial
section
variable {X : Cx} {C fI : Addr} {cn qi : Str}
/-- C(e) -/
def tMkC (C : Addr) (ta : TA) : St → Hp → XK → Prop := fun σ H Q => ta σ H fun vs H1 => ∃ v, vs = [v] ∧ ∀ d, H1 d = none → Q (.ref C) (some d) (upd H1 d (.xd (cnt v)))
theorem pmk_cnt {a : Expr} {ta : TA} {p pos : Pos} {k : Nat} (T : ErrC.ETxt X.K X.mg cn qi C fI) (hr : Room k X.A) (ha : PA X [a] ta) (hg : Gl X cn) (hdb : (cn == ("__debug__" : Str)) = false)
    (he : starEach (a :: []) X.env = (false, eval a X.env) :: starEach [] X.env := by rfl) (hpl : (backTo pos (starEach [] X.env)).any (·.1) = false := by rfl) :
    PMk X (.Call (.Name cn p) [a] [] pos) (tMkC C ta) := by
  intro pins s σ H Q I h
  refine wpAny_Call_Name_kw (ld_glob I hg T.gC ?_ hdb)
  refine PySem.W.callWith_K (h₀ := X.base) I.ok.mod.kin T.kC (thn (ha.run pos pins s σ H _ I h) fun us s1 hh => ?_) he hpl
  obtain ⟨vs, H1, I1, r1, v, ev, q1⟩ := hh
  subst ev
  refine ⟨I1.kIn, ?_⟩
  cases r1 with
  | cons rv rn =>
    rename_i v' us'
    cases rn
    show wpAny _ _ (call (.ref C) [v']) _ _ _
    have hlim := I1.nolimit
    obtain ⟨hp, g, dr, tk, os⟩ := s1
    refine wpAny_call (ErrC.made_ok T I1.kIn hlim (by have := hr.dp; omega) fun h' tk' e d M => ?_)
    show MkP X pins σ Q (.ref e) ⟨h', g, dr, tk', os⟩
    obtain ⟨t, hoe⟩ := M.obj
    have hns := M.ns
    obtain ⟨G', g1, g2⟩ := restrict h' fun b => decide (b ≠ e)
    have gk : ∀ b, b ≠ e → G'.get? b = h'.get? b := fun b hb => g1 b (decide_eq_true hb)
    have ge : G'.get? e = none := g2 e (by simp)
    have old : ∀ b o, hp.get? b = some o → G'.get? b = some o := fun b o q => (gk b (Nat.ne_of_lt (Nat.lt_of_lt_of_le (Heap.lt_size q) M.new))).trans (M.keep b o q)
    have ob : ObjOk X.prog X.w (upd H1 d (.xd (cnt v))) G' d (.xd (cnt v)) :=
      ⟨_, hns.at (fun o q => (gk d M.dne).trans q), fun f => relO_cnt rv f⟩
    have J : Inv X pins σ (upd H1 d (.xd (cnt v))) ⟨G', g, dr, tk', os⟩ := I1.laid (t' := tk') old M.dbig ob
    refine ⟨e, _, _, ⟨G', g, dr, tk', os⟩, _, .ref C, some d, rfl, J, fun b o q => ?_, ge, hoe, ⟨rfl, rfl⟩, rfl, rfl, ?_, rfl, I1.bare, raises_own T.exC T.tyC, q1 d (I1.hok.fresh M.dbig)⟩
    · by_cases hb : b = e
      · have q' : G'.get? b = some o := q
        rw [hb, ge] at q'; cases q'
      · exact (gk b hb).symm.trans q
    · rw [upd_ne (Ne.symm M.dne)]
      exact I1.hok.fresh M.new
/-- raise C(e) -/
def tRaiseC (C : Addr) (W : WX) (ta : TA) : TS := fun _ σ H => tMkC C ta σ H fun cls d H' => W cls d σ H'
theorem ps_raiseC {a : Expr} {ta : TA} {W : WX} {p pos pos2 : Pos} {k : Nat} (hc : X.calm = true) (T : ErrC.ETxt X.K X.mg cn qi C fI) (hr : Room k X.A) (tk : Takes X W) (ha : PA X [a] ta) (hg : Gl X cn := by rfl) (hdb : (cn == ("__debug__" : Str)) = false := by decide)
    (he : starEach (a :: []) X.env = (false, eval a X.env) :: starEach [] X.env := by rfl) (hpl : (backTo pos (starEach [] X.env)).any (·.1) = false := by rfl) :
    PS X (.Raise (some (.Call (.Name cn p) [a] [] pos)) none pos2) (tRaiseC C W ta) := ps_raise hc tk (pmk_cnt T hr ha hg hdb he hpl)
/-- e.given, e the error that the suite holds (at a; its class cls, its dict d) -/
def tCnt (C : Addr) (a : Addr) (cls : Value) (d : Option Addr) (te : TE) : TE := fun σ H Q => te σ H fun x H1 => x = .ref a ∧ cls = .ref C ∧ ∃ (dd : Addr) (v : V), d = some dd ∧ H1 dd = some (.xd (cnt v)) ∧ Q v H1
theorem pe_cnt {a : Addr} {oe : Obj} {cls : Value} {d : Option Addr} {pn : List (Addr × Obj)} {e : Expr} {te : TE} {pos : Pos} (T : ErrC.ETxt X.K X.mg cn qi C fI) (hz : Zc cls d oe) (hf : ∃ vs, oe.data = .fields vs) (he : PE (X.suite a ((a, oe) :: pn)) e te)
    (hb : attributeBase e "count" X.env (eval e X.env) = eval e X.env := by rfl) :
    PE (X.suite a ((a, oe) :: pn)) (.Attribute e "count" pos) (tCnt C a cls d te) := by
  refine ⟨fun pins s σ H Q I h => ?_⟩
  refine attr_of hb (thn (he.run pins s σ H _ I h) fun u s1 hh => ?_)
  obtain ⟨x, H1, I1, rx, ex, ec, dd, v, ed, ea, q⟩ := hh
  subst ex
  obtain rfl : u = Value.ref a := rx
  subst ec
  subst ed
  obtain ⟨ha, _⟩ := I1.pin (a, oe) (List.mem_append_left _ List.mem_cons_self)
  obtain ⟨vs, hd⟩ := hf
  have hx : ObjOk X.prog X.w H1 s1.heap dd (.xd (cnt v)) := I1.hok dd _ ea
  obtain ⟨mA, hns, hr⟩ := hx
  obtain ⟨od, ho, hl⟩ := lookIn_ns hns
  have l : List.lookup ("count" : Str) (cnt v) = some v := by
    show List.lookup ("count" : Str) [(("count" : Str), v)] = some v
    rw [lookup_put, if_pos rfl]
  obtain ⟨u, hu, ru⟩ := RelO.some_of (v := v) (o := mA "count") (by rw [← l]; exact hr "count")
  have J : PySem.W.InstAt s1.heap a oe C (some od) := ⟨ha, hz.1, by unfold PySem.W.notCls; rw [hd] <;> rfl, by rw [hz.2]; exact ho⟩
  exact HandSPX.exc_get I1.kIn J T.ga T.gg T.exC (PySem.W.findObj_own T.hdC T.noN rfl (by rw [hl, hu])) (handed_of ru) ⟨v, H1, I1.tok _, ru, q⟩
end
end L2

set_option Elab.async false
set_option linter.all false
set_option maxRecDepth 100000
set_option maxHeartbeats 2000000
namespace My
open PySem PySem.Spec PyProof.Rows L2
def topS (i : Nat) : Stmt := PySem.Challenge.pw_spoiltline_k54_checks_of_blocks.main.body.getD i (.Pass ⟨0, 0, 0, 0⟩)
abbrev s_is_integer : Stmt := topS 4
abbrev N_is_integer : List Str := ["value"]
theorem sc_is_integer : FnScope N_is_integer ["value"] (defScope s_is_integer) := ⟨rfl, rfl, rfl, by decide +kernel, rfl, by decide +kernel, by decide +kernel⟩
abbrev s_is_count : Stmt := topS 5
abbrev N_is_count : List Str := ["value"]
theorem sc_is_count : FnScope N_is_count ["value"] (defScope s_is_count) := ⟨rfl, rfl, rfl, by decide +kernel, rfl, by decide +kernel, by decide +kernel⟩
abbrev s_is_list : Stmt := topS 6
abbrev N_is_list : List Str := ["value"]
theorem sc_is_list : FnScope N_is_list ["value"] (defScope s_is_list) := ⟨rfl, rfl, rfl, by decide +kernel, rfl, by decide +kernel, by decide +kernel⟩
abbrev s_is_text : Stmt := topS 7
abbrev N_is_text : List Str := ["value"]
theorem sc_is_text : FnScope N_is_text ["value"] (defScope s_is_text) := ⟨rfl, rfl, rfl, by decide +kernel, rfl, by decide +kernel, by decide +kernel⟩
abbrev s_is_word : Stmt := topS 8
abbrev N_is_word : List Str := ["value"]
theorem sc_is_word : FnScope N_is_word ["value"] (defScope s_is_word) := ⟨rfl, rfl, rfl, by decide +kernel, rfl, by decide +kernel, by decide +kernel⟩
abbrev s_is_number_of_signs : Stmt := topS 9
abbrev N_is_number_of_signs : List Str := ["value"]
theorem sc_is_number_of_signs : FnScope N_is_number_of_signs ["value"] (defScope s_is_number_of_signs) := ⟨rfl, rfl, rfl, by decide +kernel, rfl, by decide +kernel, by decide +kernel⟩
abbrev s_is_below : Stmt := topS 10
abbrev N_is_below : List Str := ["value", "limit"]
theorem sc_is_below : FnScope N_is_below ["value", "limit"] (defScope s_is_below) := ⟨rfl, rfl, rfl, by decide +kernel, rfl, by decide +kernel, by decide +kernel⟩
abbrev s_is_line : Stmt := topS 11
abbrev N_is_line : List Str := ["value", "signs", "sign"]
theorem sc_is_line : FnScope N_is_line ["value", "signs"] (defScope s_is_line) := ⟨rfl, rfl, rfl, by decide +kernel, rfl, by decide +kernel, by decide +kernel⟩
abbrev s_are_steps : Stmt := topS 24
abbrev N_are_steps : List Str := ["value", "signs", "row"]
theorem sc_are_steps : FnScope N_are_steps ["value", "signs"] (defScope s_are_steps) := ⟨rfl, rfl, rfl, by decide +kernel, rfl, by decide +kernel, by decide +kernel⟩
abbrev s_are_entries : Stmt := topS 25
abbrev N_are_entries : List Str := ["value", "signs", "states", "entry"]
theorem sc_are_entries : FnScope N_are_entries ["value", "signs", "states"] (defScope s_are_entries) := ⟨rfl, rfl, rfl, by decide +kernel, rfl, by decide +kernel, by decide +kernel⟩
abbrev s_is_step : Stmt := topS 26
abbrev N_is_step : List Str := ["value", "states"]
theorem sc_is_step : FnScope N_is_step ["value", "states"] (defScope s_is_step) := ⟨rfl, rfl, rfl, by decide +kernel, rfl, by decide +kernel, by decide +kernel⟩
abbrev s_are_ends : Stmt := topS 27
abbrev N_are_ends : List Str := ["value", "states", "end"]
theorem sc_are_ends : FnScope N_are_ends ["value", "states"] (defScope s_are_ends) := ⟨rfl, rfl, rfl, by decide +kernel, rfl, by decide +kernel, by decide +kernel⟩
abbrev s_check_decoder : Stmt := topS 29
abbrev N_check_decoder : List Str := ["value"]
theorem sc_check_decoder : FnScope N_check_decoder ["value"] (defScope s_check_decoder) := ⟨rfl, rfl, rfl, by decide +kernel, rfl, by decide +kernel, by decide +kernel⟩
abbrev s_with_check : Stmt := topS 32
abbrev N_with_check : List Str := ["decoder", "size", "numbers", "rows", "queue", "at", "row", "sign", "entry", "steps", "ends", "state", "many", "_"]
theorem sc_with_check : FnScope N_with_check ["decoder", "size"] (defScope s_with_check) := ⟨rfl, rfl, rfl, by decide +kernel, rfl, by decide +kernel, by decide +kernel⟩
abbrev s_numbered : Stmt := topS 33
abbrev N_numbered : List Str := ["row", "numbers", "entry"]
theorem sc_numbered : FnScope N_numbered ["row", "numbers"] (defScope s_numbered) := ⟨rfl, rfl, rfl, by decide +kernel, rfl, by decide +kernel, by decide +kernel⟩
abbrev s_checked_entry : Stmt := topS 34
abbrev N_checked_entry : List Str := ["decoder", "size", "place", "sign", "state", "many", "total", "entry"]
theorem sc_checked_entry : FnScope N_checked_entry ["decoder", "size", "place", "sign"] (defScope s_checked_entry) := ⟨rfl, rfl, rfl, by decide +kernel, rfl, by decide +kernel, by decide +kernel⟩
abbrev s_law_cell : Stmt := topS 36
abbrev N_law_cell : List Str := ["script", "k"]
theorem sc_law_cell : FnScope N_law_cell ["script", "k"] (defScope s_law_cell) := ⟨rfl, rfl, rfl, by decide +kernel, rfl, by decide +kernel, by decide +kernel⟩
abbrev s_law_box : Stmt := topS 37
abbrev N_law_box : List Str := ["great"]
theorem sc_law_box : FnScope N_law_box ["great"] (defScope s_law_box) := ⟨rfl, rfl, rfl, by decide +kernel, rfl, by decide +kernel, by decide +kernel⟩
abbrev s_law_take : Stmt := topS 38
abbrev N_law_take : List Str := ["box", "many", "digit", "mixed"]
theorem sc_law_take : FnScope N_law_take ["box", "many"] (defScope s_law_take) := ⟨rfl, rfl, rfl, by decide +kernel, rfl, by decide +kernel, by decide +kernel⟩
abbrev s_law_word : Stmt := topS 39
abbrev N_law_word : List Str := ["box"]
theorem sc_law_word : FnScope N_law_word ["box"] (defScope s_law_word) := ⟨rfl, rfl, rfl, by decide +kernel, rfl, by decide +kernel, by decide +kernel⟩
abbrev s_law_free : Stmt := topS 40
abbrev N_law_free : List Str := ["box", "many", "states", "steps", "state", "row", "sign", "entry", "ends"]
theorem sc_law_free : FnScope N_law_free ["box", "many", "states"] (defScope s_law_free) := ⟨rfl, rfl, rfl, by decide +kernel, rfl, by decide +kernel, by decide +kernel⟩
abbrev s_law_plain : Stmt := topS 41
abbrev N_law_plain : List Str := ["box", "way"]
theorem sc_law_plain : FnScope N_law_plain ["box"] (defScope s_law_plain) := ⟨rfl, rfl, rfl, by decide +kernel, rfl, by decide +kernel, by decide +kernel⟩
abbrev s_law_ring : Stmt := topS 42
abbrev N_law_ring : List Str := ["box", "states", "steps", "state", "goal"]
theorem sc_law_ring : FnScope N_law_ring ["box"] (defScope s_law_ring) := ⟨rfl, rfl, rfl, by decide +kernel, rfl, by decide +kernel, by decide +kernel⟩
abbrev s_law_blocks : Stmt := topS 43
abbrev N_law_blocks : List Str := ["plain", "many", "found", "rows", "turn", "state", "read", "total", "row", "sign", "entry", "goal", "place"]
theorem sc_law_blocks : FnScope N_law_blocks ["plain", "many"] (defScope s_law_blocks) := ⟨rfl, rfl, rfl, by decide +kernel, rfl, by decide +kernel, by decide +kernel⟩
abbrev s_law_read : Stmt := topS 44
abbrev N_law_read : List Str := ["plain", "many", "line", "state", "found", "spot", "block", "sign", "entry"]
theorem sc_law_read : FnScope N_law_read ["plain", "many", "line"] (defScope s_law_read) := ⟨rfl, rfl, rfl, by decide +kernel, rfl, by decide +kernel, by decide +kernel⟩
abbrev s_law_line : Stmt := topS 45
abbrev N_law_line : List Str := ["box", "plain", "many", "line", "state", "turn", "block", "step", "signs_on", "sign"]
theorem sc_law_line : FnScope N_law_line ["box", "plain", "many"] (defScope s_law_line) := ⟨rfl, rfl, rfl, by decide +kernel, rfl, by decide +kernel, by decide +kernel⟩
abbrev s_law_slipped : Stmt := topS 46
abbrev N_law_slipped : List Str := ["box", "line", "most", "spot", "way"]
theorem sc_law_slipped : FnScope N_law_slipped ["box", "line", "most"] (defScope s_law_slipped) := ⟨rfl, rfl, rfl, by decide +kernel, rfl, by decide +kernel, by decide +kernel⟩
abbrev s_law_told : Stmt := topS 47
abbrev N_law_told : List Str := ["thing", "many", "named", "e"]
theorem sc_law_told : FnScope N_law_told ["thing", "many", "named"] (defScope s_law_told) := ⟨rfl, rfl, rfl, by decide +kernel, rfl, by decide +kernel, by decide +kernel⟩
abbrev s_law_lines_right : Stmt := topS 48
abbrev N_law_lines_right : List Str := ["box", "made", "plain", "many", "turn", "line", "due", "spot", "other"]
theorem sc_law_lines_right : FnScope N_law_lines_right ["box", "made", "plain", "many"] (defScope s_law_lines_right) := ⟨rfl, rfl, rfl, by decide +kernel, rfl, by decide +kernel, by decide +kernel⟩
abbrev s_law_refused_right : Stmt := topS 49
abbrev N_law_refused_right : List Str := ["box", "plain", "thing", "many", "handed", "told"]
theorem sc_law_refused_right : FnScope N_law_refused_right ["box", "plain"] (defScope s_law_refused_right) := ⟨rfl, rfl, rfl, by decide +kernel, rfl, by decide +kernel, by decide +kernel⟩
abbrev s_law_one_right : Stmt := topS 50
abbrev N_law_one_right : List Str := ["box", "choice", "many", "plain", "handed", "told", "due", "made", "steps", "ends", "row"]
theorem sc_law_one_right : FnScope N_law_one_right ["box"] (defScope s_law_one_right) := ⟨rfl, rfl, rfl, by decide +kernel, rfl, by decide +kernel, by decide +kernel⟩
abbrev s_law : Stmt := topS 51
abbrev N_law : List Str := ["script", "k"]
theorem sc_law : FnScope N_law ["script"] (defScope s_law) := ⟨rfl, rfl, rfl, by decide +kernel, rfl, by decide +kernel, by decide +kernel⟩
abbrev s_Decoder_init : Stmt := inClass (topS 23) 0
abbrev N_Decoder_init : List Str := ["self", "signs", "steps", "ends", "row"]
theorem sc_Decoder_init : FnScope N_Decoder_init ["self", "signs", "steps", "ends"] (defScope s_Decoder_init) := ⟨rfl, rfl, rfl, by decide +kernel, rfl, by decide +kernel, by decide +kernel⟩
abbrev s_Decoder_eq : Stmt := inClass (topS 23) 1
abbrev N_Decoder_eq : List Str := ["self", "other"]
theorem sc_Decoder_eq : FnScope N_Decoder_eq ["self", "other"] (defScope s_Decoder_eq) := ⟨rfl, rfl, rfl, by decide +kernel, rfl, by decide +kernel, by decide +kernel⟩
abbrev s_Decoder_written : Stmt := inClass (topS 23) 2
abbrev N_Decoder_written : List Str := ["self", "line", "state", "words", "sign", "entry", "word"]
theorem sc_Decoder_written : FnScope N_Decoder_written ["self", "line"] (defScope s_Decoder_written) := ⟨rfl, rfl, rfl, by decide +kernel, rfl, by decide +kernel, by decide +kernel⟩
structure Txt (K : PySem.W.Frag) (mg : Str → Option Value) where
  f_is_integer : Addr
  fd_is_integer : FuncData
  F_is_integer : Fun K "is_integer" "is_integer" s_is_integer f_is_integer fd_is_integer
  b_is_integer : Binds K fd_is_integer ["value"] []
  g_is_integer : mg "is_integer" = some (.ref f_is_integer)
  f_is_count : Addr
  fd_is_count : FuncData
  F_is_count : Fun K "is_count" "is_count" s_is_count f_is_count fd_is_count
  b_is_count : Binds K fd_is_count ["value"] []
  g_is_count : mg "is_count" = some (.ref f_is_count)
  f_is_list : Addr
  fd_is_list : FuncData
  F_is_list : Fun K "is_list" "is_list" s_is_list f_is_list fd_is_list
  b_is_list : Binds K fd_is_list ["value"] []
  g_is_list : mg "is_list" = some (.ref f_is_list)
  f_is_text : Addr
  fd_is_text : FuncData
  F_is_text : Fun K "is_text" "is_text" s_is_text f_is_text fd_is_text
  b_is_text : Binds K fd_is_text ["value"] []
  g_is_text : mg "is_text" = some (.ref f_is_text)
  f_is_word : Addr
  fd_is_word : FuncData
  F_is_word : Fun K "is_word" "is_word" s_is_word f_is_word fd_is_word
  b_is_word : Binds K fd_is_word ["value"] []
  g_is_word : mg "is_word" = some (.ref f_is_word)
  f_is_number_of_signs : Addr
  fd_is_number_of_signs : FuncData
  F_is_number_of_signs : Fun K "is_number_of_signs" "is_number_of_signs" s_is_number_of_signs f_is_number_of_signs fd_is_number_of_signs
  b_is_number_of_signs : Binds K fd_is_number_of_signs ["value"] []
  g_is_number_of_signs : mg "is_number_of_signs" = some (.ref f_is_number_of_signs)
  f_is_below : Addr
  fd_is_below : FuncData
  F_is_below : Fun K "is_below" "is_below" s_is_below f_is_below fd_is_below
  b_is_below : Binds K fd_is_below ["value", "limit"] []
  g_is_below : mg "is_below" = some (.ref f_is_below)
  f_is_line : Addr
  fd_is_line : FuncData
  F_is_line : Fun K "is_line" "is_line" s_is_line f_is_line fd_is_line
  b_is_line : Binds K fd_is_line ["value", "signs"] []
  g_is_line : mg "is_line" = some (.ref f_is_line)
  f_are_steps : Addr
  fd_are_steps : FuncData
  F_are_steps : Fun K "are_steps" "are_steps" s_are_steps f_are_steps fd_are_steps
  b_are_steps : Binds K fd_are_steps ["value", "signs"] []
  g_are_steps : mg "are_steps" = some (.ref f_are_steps)
  f_are_entries : Addr
  fd_are_entries : FuncData
  F_are_entries : Fun K "are_entries" "are_entries" s_are_entries f_are_entries fd_are_entries
  b_are_entries : Binds K fd_are_entries ["value", "signs", "states"] []
  g_are_entries : mg "are_entries" = some (.ref f_are_entries)
  f_is_step : Addr
  fd_is_step : FuncData
  F_is_step : Fun K "is_step" "is_step" s_is_step f_is_step fd_is_step
  b_is_step : Binds K fd_is_step ["value", "states"] []
  g_is_step : mg "is_step" = some (.ref f_is_step)
  f_are_ends : Addr
  fd_are_ends : FuncData
  F_are_ends : Fun K "are_ends" "are_ends" s_are_ends f_are_ends fd_are_ends
  b_are_ends : Binds K fd_are_ends ["value", "states"] []
  g_are_ends : mg "are_ends" = some (.ref f_are_ends)
  f_check_decoder : Addr
  fd_check_decoder : FuncData
  F_check_decoder : Fun K "check_decoder" "check_decoder" s_check_decoder f_check_decoder fd_check_decoder
  b_check_decoder : Binds K fd_check_decoder ["value"] []
  g_check_decoder : mg "check_decoder" = some (.ref f_check_decoder)
  f_with_check : Addr
  fd_with_check : FuncData
  F_with_check : Fun K "with_check" "with_check" s_with_check f_with_check fd_with_check
  b_with_check : Binds K fd_with_check ["decoder", "size"] []
  g_with_check : mg "with_check" = some (.ref f_with_check)
  f_numbered : Addr
  fd_numbered : FuncData
  F_numbered : Fun K "numbered" "numbered" s_numbered f_numbered fd_numbered
  b_numbered : Binds K fd_numbered ["row", "numbers"] []
  g_numbered : mg "numbered" = some (.ref f_numbered)
  f_checked_entry : Addr
  fd_checked_entry : FuncData
  F_checked_entry : Fun K "checked_entry" "checked_entry" s_checked_entry f_checked_entry fd_checked_entry
  b_checked_entry : Binds K fd_checked_entry ["decoder", "size", "place", "sign"] []
  g_checked_entry : mg "checked_entry" = some (.ref f_checked_entry)
  f_law_cell : Addr
  fd_law_cell : FuncData
  F_law_cell : Fun K "_law_cell" "_law_cell" s_law_cell f_law_cell fd_law_cell
  b_law_cell : Binds K fd_law_cell ["script", "k"] []
  g_law_cell : mg "_law_cell" = some (.ref f_law_cell)
  f_law_box : Addr
  fd_law_box : FuncData
  F_law_box : Fun K "_law_box" "_law_box" s_law_box f_law_box fd_law_box
  b_law_box : Binds K fd_law_box ["great"] []
  g_law_box : mg "_law_box" = some (.ref f_law_box)
  f_law_take : Addr
  fd_law_take : FuncData
  F_law_take : Fun K "_law_take" "_law_take" s_law_take f_law_take fd_law_take
  b_law_take : Binds K fd_law_take ["box", "many"] []
  g_law_take : mg "_law_take" = some (.ref f_law_take)
  f_law_word : Addr
  fd_law_word : FuncData
  F_law_word : Fun K "_law_word" "_law_word" s_law_word f_law_word fd_law_word
  b_law_word : Binds K fd_law_word ["box"] []
  g_law_word : mg "_law_word" = some (.ref f_law_word)
  f_law_free : Addr
  fd_law_free : FuncData
  F_law_free : Fun K "_law_free" "_law_free" s_law_free f_law_free fd_law_free
  b_law_free : Binds K fd_law_free ["box", "many", "states"] []
  g_law_free : mg "_law_free" = some (.ref f_law_free)
  f_law_plain : Addr
  fd_law_plain : FuncData
  F_law_plain : Fun K "_law_plain" "_law_plain" s_law_plain f_law_plain fd_law_plain
  b_law_plain : Binds K fd_law_plain ["box"] []
  g_law_plain : mg "_law_plain" = some (.ref f_law_plain)
  f_law_ring : Addr
  fd_law_ring : FuncData
  F_law_ring : Fun K "_law_ring" "_law_ring" s_law_ring f_law_ring fd_law_ring
  b_law_ring : Binds K fd_law_ring ["box"] []
  g_law_ring : mg "_law_ring" = some (.ref f_law_ring)
  f_law_blocks : Addr
  fd_law_blocks : FuncData
  F_law_blocks : Fun K "_law_blocks" "_law_blocks" s_law_blocks f_law_blocks fd_law_blocks
  b_law_blocks : Binds K fd_law_blocks ["plain", "many"] []
  g_law_blocks : mg "_law_blocks" = some (.ref f_law_blocks)
  f_law_read : Addr
  fd_law_read : FuncData
  F_law_read : Fun K "_law_read" "_law_read" s_law_read f_law_read fd_law_read
  b_law_read : Binds K fd_law_read ["plain", "many", "line"] []
  g_law_read : mg "_law_read" = some (.ref f_law_read)
  f_law_line : Addr
  fd_law_line : FuncData
  F_law_line : Fun K "_law_line" "_law_line" s_law_line f_law_line fd_law_line
  b_law_line : Binds K fd_law_line ["box", "plain", "many"] []
  g_law_line : mg "_law_line" = some (.ref f_law_line)
  f_law_slipped : Addr
  fd_law_slipped : FuncData
  F_law_slipped : Fun K "_law_slipped" "_law_slipped" s_law_slipped f_law_slipped fd_law_slipped
  b_law_slipped : Binds K fd_law_slipped ["box", "line", "most"] []
  g_law_slipped : mg "_law_slipped" = some (.ref f_law_slipped)
  f_law_told : Addr
  fd_law_told : FuncData
  F_law_told : Fun K "_law_told" "_law_told" s_law_told f_law_told fd_law_told
  b_law_told : Binds K fd_law_told ["thing", "many", "named"] []
  g_law_told : mg "_law_told" = some (.ref f_law_told)
  f_law_lines_right : Addr
  fd_law_lines_right : FuncData
  F_law_lines_right : Fun K "_law_lines_right" "_law_lines_right" s_law_lines_right f_law_lines_right fd_law_lines_right
  b_law_lines_right : Binds K fd_law_lines_right ["box", "made", "plain", "many"] []
  g_law_lines_right : mg "_law_lines_right" = some (.ref f_law_lines_right)
  f_law_refused_right : Addr
  fd_law_refused_right : FuncData
  F_law_refused_right : Fun K "_law_refused_right" "_law_refused_right" s_law_refused_right f_law_refused_right fd_law_refused_right
  b_law_refused_right : Binds K fd_law_refused_right ["box", "plain"] []
  g_law_refused_right : mg "_law_refused_right" = some (.ref f_law_refused_right)
  f_law_one_right : Addr
  fd_law_one_right : FuncData
  F_law_one_right : Fun K "_law_one_right" "_law_one_right" s_law_one_right f_law_one_right fd_law_one_right
  b_law_one_right : Binds K fd_law_one_right ["box"] []
  g_law_one_right : mg "_law_one_right" = some (.ref f_law_one_right)
  f_law : Addr
  fd_law : FuncData
  F_law : Fun K "law" "law" s_law f_law fd_law
  b_law : Binds K fd_law ["script"] []
  g_law : mg "law" = some (.ref f_law)
  C_Decoder : Addr
  f_Decoder_init : Addr
  fd_Decoder_init : FuncData
  F_Decoder_init : Fun K "__init__" "Decoder.__init__" s_Decoder_init f_Decoder_init fd_Decoder_init
  b_Decoder_init : Binds K fd_Decoder_init ["self", "signs", "steps", "ends"] []
  f_Decoder_eq : Addr
  fd_Decoder_eq : FuncData
  F_Decoder_eq : Fun K "__eq__" "Decoder.__eq__" s_Decoder_eq f_Decoder_eq fd_Decoder_eq
  b_Decoder_eq : Binds K fd_Decoder_eq ["self", "other"] []
  f_Decoder_written : Addr
  fd_Decoder_written : FuncData
  F_Decoder_written : Fun K "written" "Decoder.written" s_Decoder_written f_Decoder_written fd_Decoder_written
  b_Decoder_written : Binds K fd_Decoder_written ["self", "line"] []
  m_Decoder_written : Meth K C_Decoder "written" f_Decoder_written
  z_abs : mg "abs" = none
  z_all : mg "all" = none
  z_bool : mg "bool" = none
  z_int : mg "int" = none
  z_isinstance : mg "isinstance" = none
  z_len : mg "len" = none
  z_list : mg "list" = none
  z_max : mg "max" = none
  z_min : mg "min" = none
  z_range : mg "range" = none
  z_repr : mg "repr" = none
  z_str : mg "str" = none
  z_sum : mg "sum" = none
  z_tuple : mg "tuple" = none
  g_Decoder : mg "Decoder" = some (.ref C_Decoder)
  cl_Decoder : Cls K C_Decoder
  mk_Decoder : Mk K C_Decoder f_Decoder_init
  oe_Decoder : OEq K C_Decoder f_Decoder_eq
  na_Decoder_signs : NoAttr K C_Decoder "signs"
  na_Decoder_states : NoAttr K C_Decoder "states"
  na_Decoder_steps : NoAttr K C_Decoder "steps"
  na_Decoder_ends : NoAttr K C_Decoder "ends"
  ii_Decoder : PySem.W.isClsIn K C_Decoder = true
  it_Decoder : PySem.W.typeIn K (.ref C_Decoder) = some (.type "type")
  is_Decoder : PySem.W.subIn K (.ref C_Decoder) (.ref C_Decoder) = some true
  t_MOST_SIGNS : Tok
  c_MOST_SIGNS : mg "MOST_SIGNS" = some (.int (5) t_MOST_SIGNS)
  t_MOST_LETTERS : Tok
  c_MOST_LETTERS : mg "MOST_LETTERS" = some (.int (3) t_MOST_LETTERS)
  t_MOST_STATES : Tok
  c_MOST_STATES : mg "MOST_STATES" = some (.int (40) t_MOST_STATES)
  t_MOST_SIZE : Tok
  c_MOST_SIZE : mg "MOST_SIZE" = some (.int (4) t_MOST_SIZE)
  C_InvalidDecoder : Addr
  i_InvalidDecoder : Addr
  e_InvalidDecoder : ErrX.ETxt K mg "InvalidDecoder" "InvalidDecoder.__init__" C_InvalidDecoder i_InvalidDecoder
  x_InvalidDecoder : PySem.W.exmOne K (.ref C_InvalidDecoder) (.ref C_InvalidDecoder) = some true
  C_InvalidEnds : Addr
  i_InvalidEnds : Addr
  e_InvalidEnds : ErrX.ETxt K mg "InvalidEnds" "InvalidEnds.__init__" C_InvalidEnds i_InvalidEnds
  x_InvalidEnds : PySem.W.exmOne K (.ref C_InvalidEnds) (.ref C_InvalidEnds) = some true
  C_InvalidLine : Addr
  i_InvalidLine : Addr
  e_InvalidLine : ErrX.ETxt K mg "InvalidLine" "InvalidLine.__init__" C_InvalidLine i_InvalidLine
  x_InvalidLine : PySem.W.exmOne K (.ref C_InvalidLine) (.ref C_InvalidLine) = some true
  C_InvalidPeriod : Addr
  i_InvalidPeriod : Addr
  e_InvalidPeriod : ErrX.ETxt K mg "InvalidPeriod" "InvalidPeriod.__init__" C_InvalidPeriod i_InvalidPeriod
  x_InvalidPeriod : PySem.W.exmOne K (.ref C_InvalidPeriod) (.ref C_InvalidPeriod) = some true
  C_InvalidSigns : Addr
  i_InvalidSigns : Addr
  e_InvalidSigns : ErrX.ETxt K mg "InvalidSigns" "InvalidSigns.__init__" C_InvalidSigns i_InvalidSigns
  x_InvalidSigns : PySem.W.exmOne K (.ref C_InvalidSigns) (.ref C_InvalidSigns) = some true
  C_InvalidSteps : Addr
  i_InvalidSteps : Addr
  e_InvalidSteps : ErrX.ETxt K mg "InvalidSteps" "InvalidSteps.__init__" C_InvalidSteps i_InvalidSteps
  x_InvalidSteps : PySem.W.exmOne K (.ref C_InvalidSteps) (.ref C_InvalidSteps) = some true
  C_TooMany : Addr
  i_TooMany : Addr
  e_TooMany : ErrC.ETxt K mg "TooMany" "TooMany.__init__" C_TooMany i_TooMany
  x_TooMany : PySem.W.exmOne K (.ref C_TooMany) (.ref C_TooMany) = some true
  no_InvalidDecoder_InvalidEnds : PySem.W.exmOne K (.ref C_InvalidDecoder) (.ref C_InvalidEnds) = some false
  no_InvalidDecoder_InvalidLine : PySem.W.exmOne K (.ref C_InvalidDecoder) (.ref C_InvalidLine) = some false
  no_InvalidDecoder_InvalidPeriod : PySem.W.exmOne K (.ref C_InvalidDecoder) (.ref C_InvalidPeriod) = some false
  no_InvalidDecoder_InvalidSigns : PySem.W.exmOne K (.ref C_InvalidDecoder) (.ref C_InvalidSigns) = some false
  no_InvalidDecoder_InvalidSteps : PySem.W.exmOne K (.ref C_InvalidDecoder) (.ref C_InvalidSteps) = some false
  no_InvalidDecoder_TooMany : PySem.W.exmOne K (.ref C_InvalidDecoder) (.ref C_TooMany) = some false
  no_InvalidEnds_InvalidDecoder : PySem.W.exmOne K (.ref C_InvalidEnds) (.ref C_InvalidDecoder) = some false
  no_InvalidEnds_InvalidLine : PySem.W.exmOne K (.ref C_InvalidEnds) (.ref C_InvalidLine) = some false
  no_InvalidEnds_InvalidPeriod : PySem.W.exmOne K (.ref C_InvalidEnds) (.ref C_InvalidPeriod) = some false
  no_InvalidEnds_InvalidSigns : PySem.W.exmOne K (.ref C_InvalidEnds) (.ref C_InvalidSigns) = some false
  no_InvalidEnds_InvalidSteps : PySem.W.exmOne K (.ref C_InvalidEnds) (.ref C_InvalidSteps) = some false
  no_InvalidEnds_TooMany : PySem.W.exmOne K (.ref C_InvalidEnds) (.ref C_TooMany) = some false
  no_InvalidLine_InvalidDecoder : PySem.W.exmOne K (.ref C_InvalidLine) (.ref C_InvalidDecoder) = some false
  no_InvalidLine_InvalidEnds : PySem.W.exmOne K (.ref C_InvalidLine) (.ref C_InvalidEnds) = some false
  no_InvalidLine_InvalidPeriod : PySem.W.exmOne K (.ref C_InvalidLine) (.ref C_InvalidPeriod) = some false
  no_InvalidLine_InvalidSigns : PySem.W.exmOne K (.ref C_InvalidLine) (.ref C_InvalidSigns) = some false
  no_InvalidLine_InvalidSteps : PySem.W.exmOne K (.ref C_InvalidLine) (.ref C_InvalidSteps) = some false
  no_InvalidLine_TooMany : PySem.W.exmOne K (.ref C_InvalidLine) (.ref C_TooMany) = some false
  no_InvalidPeriod_InvalidDecoder : PySem.W.exmOne K (.ref C_InvalidPeriod) (.ref C_InvalidDecoder) = some false
  no_InvalidPeriod_InvalidEnds : PySem.W.exmOne K (.ref C_InvalidPeriod) (.ref C_InvalidEnds) = some false
  no_InvalidPeriod_InvalidLine : PySem.W.exmOne K (.ref C_InvalidPeriod) (.ref C_InvalidLine) = some false
  no_InvalidPeriod_InvalidSigns : PySem.W.exmOne K (.ref C_InvalidPeriod) (.ref C_InvalidSigns) = some false
  no_InvalidPeriod_InvalidSteps : PySem.W.exmOne K (.ref C_InvalidPeriod) (.ref C_InvalidSteps) = some false
  no_InvalidPeriod_TooMany : PySem.W.exmOne K (.ref C_InvalidPeriod) (.ref C_TooMany) = some false
  no_InvalidSigns_InvalidDecoder : PySem.W.exmOne K (.ref C_InvalidSigns) (.ref C_InvalidDecoder) = some false
  no_InvalidSigns_InvalidEnds : PySem.W.exmOne K (.ref C_InvalidSigns) (.ref C_InvalidEnds) = some false
  no_InvalidSigns_InvalidLine : PySem.W.exmOne K (.ref C_InvalidSigns) (.ref C_InvalidLine) = some false
  no_InvalidSigns_InvalidPeriod : PySem.W.exmOne K (.ref C_InvalidSigns) (.ref C_InvalidPeriod) = some false
  no_InvalidSigns_InvalidSteps : PySem.W.exmOne K (.ref C_InvalidSigns) (.ref C_InvalidSteps) = some false
  no_InvalidSigns_TooMany : PySem.W.exmOne K (.ref C_InvalidSigns) (.ref C_TooMany) = some false
  no_InvalidSteps_InvalidDecoder : PySem.W.exmOne K (.ref C_InvalidSteps) (.ref C_InvalidDecoder) = some false
  no_InvalidSteps_InvalidEnds : PySem.W.exmOne K (.ref C_InvalidSteps) (.ref C_InvalidEnds) = some false
  no_InvalidSteps_InvalidLine : PySem.W.exmOne K (.ref C_InvalidSteps) (.ref C_InvalidLine) = some false
  no_InvalidSteps_InvalidPeriod : PySem.W.exmOne K (.ref C_InvalidSteps) (.ref C_InvalidPeriod) = some false
  no_InvalidSteps_InvalidSigns : PySem.W.exmOne K (.ref C_InvalidSteps) (.ref C_InvalidSigns) = some false
  no_InvalidSteps_TooMany : PySem.W.exmOne K (.ref C_InvalidSteps) (.ref C_TooMany) = some false
  no_TooMany_InvalidDecoder : PySem.W.exmOne K (.ref C_TooMany) (.ref C_InvalidDecoder) = some false
  no_TooMany_InvalidEnds : PySem.W.exmOne K (.ref C_TooMany) (.ref C_InvalidEnds) = some false
  no_TooMany_InvalidLine : PySem.W.exmOne K (.ref C_TooMany) (.ref C_InvalidLine) = some false
  no_TooMany_InvalidPeriod : PySem.W.exmOne K (.ref C_TooMany) (.ref C_InvalidPeriod) = some false
  no_TooMany_InvalidSigns : PySem.W.exmOne K (.ref C_TooMany) (.ref C_InvalidSigns) = some false
  no_TooMany_InvalidSteps : PySem.W.exmOne K (.ref C_TooMany) (.ref C_InvalidSteps) = some false
end My

set_option Elab.async false
set_option linter.all false
set_option maxRecDepth 100000
set_option maxHeartbeats 8000000
namespace My
open PySem PySem.Spec PyProof.Rows L2
section
variable {P : Program} {w : World} {K : PySem.W.Frag} {mg : Str → Option Value} {base : Heap}
def spD (K : PySem.W.Frag) (f : PyData → Bool) : Sp := fun vs H Q _ => ∃ x d m, vs = [x] ∧ Dg K H m x d ∧ Q (.bl (f d)) H
def spDn (K : PySem.W.Frag) (f : Int → PyData → Bool) : Sp := fun vs H Q _ => ∃ x d m n, vs = [x, .int n] ∧ Dg K H m x d ∧ Q (.bl (f n d)) H
def spDw (K : PySem.W.Frag) (f : PyData → Bool) : Sp := fun vs H Q _ => ∃ x d m, vs = [x] ∧ Dg K H m x d ∧ d.weight ≤ 100000 ∧ Q (.bl (f d)) H
def spDnw (K : PySem.W.Frag) (f : Int → PyData → Bool) : Sp := fun vs H Q _ => ∃ x d m n, vs = [x, .int n] ∧ Dg K H m x d ∧ d.weight ≤ 100000 ∧ Q (.bl (f n d)) H
def spDns (K : PySem.W.Frag) (f : Int → PyData → Bool) : Sp := fun vs H Q _ => ∃ x d m n, vs = [x, .int n] ∧ Dg K H m x d ∧ d.weight ≤ 100000 ∧ ∀ H', Same H H' → Q (.bl (f n d)) H'
theorem all_id {f : PyData → Bool} (l : List PyData) : (l.map f).all id = l.all f := by rw [List.all_map]; rfl
theorem ok_is_integer (T : Txt K mg) : FnOk P w K mg base CX0 1 T.f_is_integer T.fd_is_integer ["value"] (spD K isI) := by
  refine T.F_is_integer.ok sc_is_integer (fun vs H Q E h => ?_) (fun cdv A outer s H vs Q E hr h => ?_)
  · obtain ⟨x, d, m, rfl, _⟩ := h; rfl
  · obtain ⟨x, d, m, rfl, hd, q⟩ := h
    refine ⟨_, (pss_one (ps_ret (pe_and (pe_callB call_isi (by rfl) T.z_isinstance (by decide +kernel) (pa_cons (pv 0) (pa_cons (pe_bltn (v := .ty "int") (u := .type "int") (by rfl) T.z_int (by decide +kernel) rfl) pa_nil))) (pe_one (pe_not (pe_callB call_isi (by rfl) T.z_isinstance (by decide +kernel) (pa_cons (pv 0) (pa_cons (pe_bltn (v := .ty "bool") (u := .type "bool") (by rfl) T.z_bool (by decide +kernel) rfl) pa_nil)))))))), ?_⟩
    have e : (isNumD d && !isBlD d) = isI d := by cases d <;> rfl
    rw [← e] at q
    refine ⟨_, rfl, _, _, _, _, isNumD d, rfl, .ty _, hd.ty, kit_numD d, _, rfl, ?_⟩
    cases h1 : isNumD d with
    | false => rw [h1] at q; exact iteF q
    | true =>
      rw [h1, Bool.true_and] at q
      exact iteT ⟨_, rfl, _, _, _, _, isBlD d, rfl, .ty _, hd.ty, kit_blD d, _, rfl, q⟩
theorem ok_is_count (T : Txt K mg) : FnOk P w K mg base CX0 2 T.f_is_count T.fd_is_count ["value"] (spD K isCn) := by
  refine T.F_is_count.ok sc_is_count (fun vs H Q E h => ?_) (fun cdv A outer s H vs Q E hr h => ?_)
  · obtain ⟨x, d, m, rfl, _⟩ := h; rfl
  · obtain ⟨x, d, m, rfl, hd, q⟩ := h
    refine ⟨_, (pss_one (ps_ret (pe_and (pe_call (ok_is_integer T) (hr.mono (by decide)) rfl T.g_is_integer T.F_is_integer.kp T.b_is_integer .nil pass0 (pa_cons (pv 0) pa_nil)) (pe_one (pe_cmpR op_ge (pv 0) pe_int (nomark _)))))), ?_⟩
    refine ⟨_, rfl, x, d, m, rfl, hd, _, rfl, ?_⟩
    cases d with
    | int i =>
      obtain rfl := hd.int_of
      exact iteT ⟨_, rfl, _, _, rfl, rfl, q⟩
    | _ => exact iteF q
theorem ok_is_list (T : Txt K mg) : FnOk P w K mg base CX0 1 T.f_is_list T.fd_is_list ["value"] (fun vs H Q _ => ∃ x d m, vs = [x] ∧ Dg K H m x d ∧ ∀ H', Same H H' → Q (.bl (isSqD d)) H') := by
  refine T.F_is_list.ok sc_is_list (fun vs H Q E h => ?_) (fun cdv A outer s H vs Q E hr h => ?_)
  · obtain ⟨x, d, m, rfl, _⟩ := h; rfl
  · obtain ⟨x, d, m, rfl, hd, q⟩ := h
    refine ⟨_, (pss_one (ps_ret (pe_callB call_isiT (by rfl) T.z_isinstance (by decide +kernel) (pa_cons (pv 0) (pa_cons (pe_tup (pa_cons (pe_bltn (v := .ty "list") (u := .type "list") (by rfl) T.z_list (by decide +kernel) rfl) (pa_cons (pe_bltn (v := .ty "tuple") (u := .type "tuple") (by rfl) T.z_tuple (by decide +kernel) rfl) pa_nil))) pa_nil))))), ?_⟩
    exact ⟨_, rfl, (by show 2 ≤ sizeLine; decide), fun tp htp => ⟨_, tp, _, _, [.type "list", .type "tuple"], isSqD d, rfl, upd_same, .cons (.ty _) (.cons (.ty _) .nil), (hd.ext (Same.new (Same.refl H) htp)).ty, kit_sqD d, q _ (Same.new (Same.refl H) htp)⟩⟩
theorem ok_is_number_of_signs (T : Txt K mg) : FnOk P w K mg base CX0 2 T.f_is_number_of_signs T.fd_is_number_of_signs ["value"] (spD K isSg) := by
  refine T.F_is_number_of_signs.ok sc_is_number_of_signs (fun vs H Q E h => ?_) (fun cdv A outer s H vs Q E hr h => ?_)
  · obtain ⟨x, d, m, rfl, _⟩ := h; rfl
  · obtain ⟨x, d, m, rfl, hd, q⟩ := h
    refine ⟨_, (pss_one (ps_ret (pe_and (pe_call (ok_is_integer T) (hr.mono (by decide)) rfl T.g_is_integer T.F_is_integer.kp T.b_is_integer .nil pass0 (pa_cons (pv 0) pa_nil)) (pe_one (pe_chain op_le op_le pe_int (pv 0) (pe_glob (v := .int (5)) rfl T.c_MOST_SIGNS ⟨_, rfl⟩)))))), ?_⟩
    refine ⟨_, rfl, x, d, m, rfl, hd, _, rfl, ?_⟩
    cases d with
    | int i =>
      obtain rfl := hd.int_of
      refine iteT ⟨_, rfl, _, _, rfl, rfl, _, rfl, ?_⟩
      have q' : Q (.bl (decide (1 ≤ i) && decide (i ≤ 5))) H := q
      refine ite2 (fun c => ?_) (fun c => ?_)
      · rw [c, Bool.true_and] at q'
        exact ⟨_, _, rfl, rfl, q'⟩
      · rw [Bool.not_eq_true] at c
        rw [c, Bool.false_and] at q'
        exact q'
    | _ => exact iteF q
theorem ok_is_below (T : Txt K mg) : FnOk P w K mg base CX0 3 T.f_is_below T.fd_is_below ["value", "limit"] (spDn K isBe) := by
  refine T.F_is_below.ok sc_is_below (fun vs H Q E h => ?_) (fun cdv A outer s H vs Q E hr h => ?_)
  · obtain ⟨x, d, m, n, rfl, _⟩ := h; rfl
  · obtain ⟨x, d, m, n, rfl, hd, q⟩ := h
    refine ⟨_, (pss_one (ps_ret (pe_and (pe_call (ok_is_count T) (hr.mono (by decide)) rfl T.g_is_count T.F_is_count.kp T.b_is_count .nil pass0 (pa_cons (pv 0) pa_nil)) (pe_one (pe_cmpR op_lt (pv 0) (pv 1) (nomark _)))))), ?_⟩
    refine ⟨_, rfl, x, d, m, rfl, hd, _, rfl, ?_⟩
    cases d with
    | int i =>
      obtain rfl := hd.int_of
      have q' : Q (.bl (decide (0 ≤ i) && decide (i < n))) H := q
      show if decide (0 ≤ i) = true then _ else _
      refine ite2 (fun c => ?_) (fun c => ?_)
      · rw [c, Bool.true_and] at q'
        exact ⟨_, rfl, _, rfl, _, _, rfl, rfl, q'⟩
      · rw [Bool.not_eq_true] at c
        rw [c, Bool.false_and] at q'
        exact q'
    | _ => exact iteF q
theorem ok_is_text (T : Txt K mg) : FnOk P w K mg base CX0 1 T.f_is_text T.fd_is_text ["value"] (spD K isTx) := by
  refine T.F_is_text.ok sc_is_text (fun vs H Q E h => ?_) (fun cdv A outer s H vs Q E hr h => ?_)
  · obtain ⟨x, d, m, rfl, _⟩ := h; rfl
  · obtain ⟨x, d, m, rfl, hd, q⟩ := h
    refine ⟨_, (pss_cons (ps_if (pt_not (pt_val (pe_callB call_isi (by rfl) T.z_isinstance (by decide +kernel) (pa_cons (pv 0) (pa_cons (pe_bltn (v := .ty "str") (u := .type "str") (by rfl) T.z_str (by decide +kernel) rfl) pa_nil))))) (pss_one (ps_ret pe_bl)) pss_nil)
      (pss_one (ps_ret (pe_or (pe_cmpR op_eq (pv 0) pe_str (nomark _)) (pe_one (pe_and (pe_bm0 PySem.F.plainAttrs_str PySem.F.slot_str_isascii PySem.F.type_str_isascii mt_isascii (pv 0)) (pe_and (pe_bm0 PySem.F.plainAttrs_str PySem.F.slot_str_isalpha PySem.F.type_str_isalpha mt_isalpha (pv 0)) (pe_one (pe_bm0 PySem.F.plainAttrs_str PySem.F.slot_str_islower PySem.F.type_str_islower mt_islower (pv 0)))))))))), ?_⟩
    refine ⟨_, rfl, _, _, _, _, isStrD d, rfl, .ty _, hd.ty, kit_strD d, _, rfl, ?_⟩
    cases d with
    | str z =>
      obtain rfl := hd.str_of
      have q : Q (.bl (isT z)) H := q
      refine iteF ⟨_, rfl, rfl, _, rfl, ?_⟩
      have e := istext_eq z
      cases h0 : decide (V.str z = V.str (Str.ofString "")) with
      | true =>
        rw [h0, Bool.true_or] at e
        refine iteT ?_
        unfold isT at q
        rw [← e] at q
        exact q
      | false =>
        rw [h0, Bool.false_or] at e
        have e2 : (Txt.isascii z && (Txt.isalpha z && Txt.islower z)) = isT z := by rw [← Bool.and_assoc]; exact e
        refine iteF ⟨_, rfl, rfl, z, rfl, rfl, trivial, _, rfl, ?_⟩
        cases h1 : Txt.isascii z with
        | false => rw [h1] at e2; rw [← e2] at q; exact iteF q
        | true =>
          rw [h1, Bool.true_and] at e2
          refine iteT ⟨_, rfl, rfl, z, rfl, rfl, trivial, _, rfl, ?_⟩
          cases h2 : Txt.isalpha z with
          | false => rw [h2] at e2; rw [← e2] at q; exact iteF q
          | true =>
            rw [h2, Bool.true_and] at e2
            rw [← e2] at q
            exact iteT ⟨_, rfl, rfl, z, rfl, rfl, trivial, q⟩
    | _ => exact iteT q
theorem ok_is_word (T : Txt K mg) : FnOk P w K mg base CX0 2 T.f_is_word T.fd_is_word ["value"] (spDw K isWd) := by
  refine T.F_is_word.ok sc_is_word (fun vs H Q E h => ?_) (fun cdv A outer s H vs Q E hr h => ?_)
  · obtain ⟨x, d, m, rfl, _⟩ := h; rfl
  · obtain ⟨x, d, m, rfl, hd, hw, q⟩ := h
    refine ⟨_, (pss_one (ps_ret (pe_and (pe_call (ok_is_text T) (hr.mono (by decide)) rfl T.g_is_text T.F_is_text.kp T.b_is_text .nil pass0 (pa_cons (pv 0) pa_nil)) (pe_one (pe_cmpR op_le (pe_callB call_len_str (by rfl) T.z_len (by decide +kernel) (pa_cons (pv 0) pa_nil)) (pe_glob (v := .int (3)) rfl T.c_MOST_LETTERS ⟨_, rfl⟩) (nomark _)))))), ?_⟩
    refine ⟨_, rfl, x, d, m, rfl, hd, _, rfl, ?_⟩
    cases d with
    | str z =>
      obtain rfl := hd.str_of
      have q' : Q (.bl (isT z && decide ((z.length : Int) ≤ 3))) H := q
      have hz : z.length ≤ sizeLine := by
        rw [PyData.weight] at hw
        exact Nat.le_trans hw (by decide)
      show if isT z = true then _ else _
      refine ite2 (fun c => ?_) (fun c => ?_)
      · rw [c, Bool.true_and] at q'
        exact ⟨_, rfl, z, rfl, hz, _, _, rfl, rfl, q'⟩
      · rw [Bool.not_eq_true] at c
        rw [c, Bool.false_and] at q'
        exact q'
    | _ => exact iteF q
theorem ok_is_step (T : Txt K mg) : FnOk P w K mg base CX0 4 T.f_is_step T.fd_is_step ["value", "states"] (spDnw K isStp) := by
  refine T.F_is_step.ok sc_is_step (fun vs H Q E h => ?_) (fun cdv A outer s H vs Q E hr h => ?_)
  · obtain ⟨x, d, m, n, rfl, _⟩ := h; rfl
  · obtain ⟨x, d, m, n, rfl, hd, hw, q⟩ := h
    refine ⟨_, (pss_cons (ps_if (PW.pt (pw_or (pt_not (pt_val (pe_callB call_isi (by rfl) T.z_isinstance (by decide +kernel) (pa_cons (pv 0) (pa_cons (pe_bltn (v := .ty "tuple") (u := .type "tuple") (by rfl) T.z_tuple (by decide +kernel) rfl) pa_nil))))) (pw_or1 (pt_cmpR op_ne (pe_callB call_len_seq (by rfl) T.z_len (by decide +kernel) (pa_cons (pv 0) pa_nil)) pe_int (nomark _))))) (pss_one (ps_ret pe_bl)) pss_nil)
      (pss_one (ps_ret (pe_and (pe_call (ok_is_below T) (hr.mono (by decide)) rfl T.g_is_below T.F_is_below.kp T.b_is_below .nil pass0 (pa_cons (pe_ix ix_tup (pv 0) pe_int (fun _ _ => rfl)) (pa_cons (pv 1) pa_nil))) (pe_one (pe_call (ok_is_word T) (hr.mono (by decide)) rfl T.g_is_word T.F_is_word.kp T.b_is_word .nil pass0 (pa_cons (pe_ix ix_tup (pv 0) pe_int (fun _ _ => rfl)) pa_nil))))))), ?_⟩
    refine ⟨_, rfl, _, _, _, _, isTupD d, rfl, .ty _, hd.ty, kit_tupD d, _, rfl, ?_⟩
    cases d with
    | tuple ds =>
      obtain ⟨a, xs, rfl, hs, ha⟩ := hd.tup_of
      have wt := (weight_its (d := .tuple ds)).2
      refine iteF ⟨_, rfl, a, xs, rfl, .inr hs, rfl, _, rfl, ?_⟩
      have hl := ha.len
      match ds, ha, q, hl, wt, hw with
      | [a1, b1], ha, q, hl, wt, hw =>
        rw [decide_eq_true (show V.int (xs.length : Int) = V.int 2 by rw [hl]; rfl)]
        obtain ⟨x0, ys, rfl, h0, ht⟩ := ha.cons_of
        obtain ⟨x1, zs, rfl, h1, ht'⟩ := ht.cons_of
        refine iteF ⟨_, rfl, a, _, _, _, rfl, rfl, hs, atI_nat (j := 0) rfl, _, rfl, x0, a1, m, n, rfl, h0, _, rfl, ?_⟩
        have q' : Q (.bl (isBe n a1 && isWd b1)) H := q
        show if isBe n a1 = true then _ else _
        refine ite2 (fun c => ?_) (fun c => ?_)
        · rw [c, Bool.true_and] at q'
          exact ⟨_, rfl, a, _, _, _, rfl, rfl, hs, atI_nat (j := 1) rfl, x1, b1, m, rfl, h1, Nat.le_trans (wt b1 (by show b1 ∈ [a1, b1]; simp)) hw, q'⟩
        · rw [Bool.not_eq_true] at c
          rw [c, Bool.false_and] at q'
          exact q'
      | [], ha, q, hl, _, _ =>
        rw [decide_eq_false (show ¬ V.int (xs.length : Int) = V.int 2 by rw [hl]; simp)]
        exact iteT q
      | [a1], ha, q, hl, _, _ =>
        rw [decide_eq_false (show ¬ V.int (xs.length : Int) = V.int 2 by rw [hl]; simp)]
        exact iteT q
      | a1 :: b1 :: c1 :: r, ha, q, hl, _, _ =>
        rw [decide_eq_false (show ¬ V.int (xs.length : Int) = V.int 2 from fun z => by have := V.int.inj z; rw [hl, List.length_cons, List.length_cons, List.length_cons] at this; omega)]
        exact iteT q
    | _ => exact iteT (iteT q)
theorem dg_non {K : PySem.W.Frag} {H : Hp} {m : Bool} {x : V} {d : PyData} (h : Dg K H m x d) : decide (x = .non) = isNn d := by
  cases h <;> simp [isNn]
theorem ok_are_entries (T : Txt K mg) : FnOk P w K mg base CX0 5 T.f_are_entries T.fd_are_entries ["value", "signs", "states"] (fun vs H Q _ => ∃ x d m k n, vs = [x, .int k, .int n] ∧ Dg K H m x d ∧ d.weight ≤ 100000 ∧ ∀ H', Same H H' → Q (.bl (entB k n d)) H') := by
  refine T.F_are_entries.ok sc_are_entries (fun vs H Q E h => ?_) (fun cdv A outer s H vs Q E hr h => ?_)
  · obtain ⟨x, d, m, k, n, rfl, _⟩ := h; rfl
  · obtain ⟨x, d, m, k, n, rfl, hd, hw, q⟩ := h
    refine ⟨_, (pss_cons (ps_if (PW.pt (pw_or (pt_not (pt_val (pe_call (ok_is_list T) (hr.mono (by decide)) rfl T.g_is_list T.F_is_list.kp T.b_is_list .nil pass0 (pa_cons (pv 0) pa_nil)))) (pw_or1 (pt_cmpR op_ne (pe_callB call_len_seq (by rfl) T.z_len (by decide +kernel) (pa_cons (pv 0) pa_nil)) (pv 1) (nomark _))))) (pss_one (ps_ret pe_bl)) pss_nil)
      (pss_one (ps_ret (pe_callB (cr_all rfl) (by rfl) T.z_all (by decide +kernel) (pa_cons (pe_lc (own := [("entry", 3)]) (g := gName 3) (by rfl) sc_are_entries.nd (pi_sq (pv 0)) (blkOk_by (own := [("entry", 3)]) (N := N_are_entries) (sc := defScope s_are_entries) (by decide +kernel)) (fun _ _ _ _ _ => pg_name (i := 3) sc_are_entries.nd rfl (Or.inl rfl)) (fun _ _ _ _ _ => pts_nil) (fun _ _ _ _ _ => (pe_or (pe_cmp (pc_isN (pv 3)) rfl) (pe_one (pe_call (ok_is_step T) (hr.mono (by decide)) rfl T.g_is_step T.F_is_step.kp T.b_is_step .nil pass0 (pa_cons (pv 3) (pa_cons (pv 2) pa_nil))))))) pa_nil))))), ?_⟩
    refine ⟨_, rfl, x, d, m, rfl, hd, fun H1 s1 => ⟨_, rfl, ?_⟩⟩
    have q' : ∀ H', Same H H' → Q (.bl (isSqD d && (decide (((itsD d).length : Int) = k) && (itsD d).all (isEn n)))) H' := q
    obtain ⟨hlen, hwt⟩ := weight_its (d := d)
    cases hf : isSqD d with
    | false => rw [hf] at q'; exact iteT (iteT (q' _ s1))
    | true =>
      rw [hf, Bool.true_and] at q'
      obtain ⟨a, ys, rfl, hq, hes⟩ := (hd.ext s1).lst_q (sq_its hf)
      generalize itsD d = es at *
      have le := hes.len
      refine iteF ⟨_, rfl, a, ys, rfl, hq, _, rfl, rfl, _, rfl, ?_⟩
      by_cases c : (es.length : Int) = k
      · rw [decide_eq_true (show V.int (ys.length : Int) = V.int k by rw [le, c])]
        rw [decide_eq_true c, Bool.true_and] at q'
        refine iteF ⟨_, rfl, a, rfl, lc_sq hq fun D hD => ⟨fun i H' => Same H1 H' ∧ H' D = some (.lst (((es.take i).map (isEn n)).map V.bl)), ⟨Same.new (Same.refl _) hD, upd_same⟩, fun i H' h => h.1, ?_, ?_⟩⟩
        · rintro i x H' hx ⟨s', e'⟩
          obtain ⟨d', hd', dx⟩ := hes.at i x hx
          have hm : d' ∈ es := List.mem_of_getElem? hd'
          refine ⟨rfl, tYesT ?_⟩
          have fin : ∀ H2, Same H' H2 → ∃ acc, H2 D = some (.lst acc) ∧ acc.length < sizeLine ∧ Same H1 (upd H2 D (.lst (acc ++ [.bl (isEn n d')]))) ∧ (upd H2 D (.lst (acc ++ [.bl (isEn n d')]))) D = some (.lst (((es.take (i + 1)).map (isEn n)).map V.bl)) := fun H2 s2 => by
            refine ⟨_, s2 _ _ e', ?_, fun b o e => ?_, ?_⟩
            · rw [List.length_map, List.length_map]
              exact Nat.lt_of_le_of_lt (List.length_take_le' _ _) (Nat.lt_of_le_of_lt (by omega : es.length ≤ 100000) (by decide))
            · rw [upd_ne (ne_of_none e hD)]; exact s2 _ _ (s' b o e)
            · rw [upd_same, List.take_add_one, hd', List.map_append, List.map_append]; rfl
          have dn := dg_non dx
          refine ⟨_, rfl, _, rfl, ?_⟩
          rw [dn]
          unfold isEn at fin
          cases hn : isNn d' with
          | true => rw [hn] at fin; exact iteT (fin H' (Same.refl _))
          | false =>
            rw [hn] at fin
            exact iteF ⟨_, rfl, _, rfl, x, d', m, n, rfl, dx.ext s', Nat.le_trans (hwt d' hm) hw, fin H' (Same.refl _)⟩
        · rintro H2 ⟨s', e'⟩
          rw [le, List.take_length] at e'
          refine ⟨D, _, rfl, SqL.of e', ?_⟩
          rw [all_id]
          exact q' _ (s1.trans s')
      · rw [decide_eq_false (show ¬ V.int (ys.length : Int) = V.int k from fun z => c (by rw [← le]; exact V.int.inj z))]
        rw [decide_eq_false c, Bool.false_and] at q'
        exact iteT (q' _ s1)
theorem ok_are_steps (T : Txt K mg) : FnOk P w K mg base CX0 6 T.f_are_steps T.fd_are_steps ["value", "signs"] (spDns K stepsB) := by
  refine T.F_are_steps.ok sc_are_steps (fun vs H Q E h => ?_) (fun cdv A outer s H vs Q E hr h => ?_)
  · obtain ⟨x, d, m, n, rfl, _⟩ := h; rfl
  · obtain ⟨x, d, m, n, rfl, hd, hw, q⟩ := h
    refine ⟨_, (pss_cons (ps_if (PW.pt (pw_or (pt_not (pt_val (pe_call (ok_is_list T) (hr.mono (by decide)) rfl T.g_is_list T.F_is_list.kp T.b_is_list .nil pass0 (pa_cons (pv 0) pa_nil)))) (pw_or1 (pt_not (pt_chain op_le op_le pe_int (pe_callB call_len_seq (by rfl) T.z_len (by decide +kernel) (pa_cons (pv 0) pa_nil)) (pe_glob (v := .int (40)) rfl T.c_MOST_STATES ⟨_, rfl⟩)))))) (pss_one (ps_ret pe_bl)) pss_nil)
      (pss_one (ps_ret (pe_callB (cr_all rfl) (by rfl) T.z_all (by decide +kernel) (pa_cons (pe_lc (own := [("row", 2)]) (g := gName 2) (by rfl) sc_are_steps.nd (pi_sq (pv 0)) (blkOk_by (own := [("row", 2)]) (N := N_are_steps) (sc := defScope s_are_steps) (by decide +kernel)) (fun _ _ _ _ _ => pg_name (i := 2) sc_are_steps.nd rfl (Or.inl rfl)) (fun _ _ _ _ _ => pts_nil) (fun _ _ _ _ _ => (pe_call (ok_are_entries T) (hr.mono (by decide)) rfl T.g_are_entries T.F_are_entries.kp T.b_are_entries .nil pass0 (pa_cons (pv 2) (pa_cons (pv 1) (pa_cons (pe_callB (call_len_seqK (K := K) rfl) (by rfl) T.z_len (by decide +kernel) (pa_cons (pv 0) pa_nil)) pa_nil)))))) pa_nil))))), ?_⟩
    refine ⟨_, rfl, x, d, m, rfl, hd, fun H1 s1 => ⟨_, rfl, ?_⟩⟩
    have q' : ∀ H', Same H H' → Q (.bl (isSqD d && ((decide (1 ≤ ((itsD d).length : Int)) && decide (((itsD d).length : Int) ≤ 40)) && (itsD d).all (entB n ((itsD d).length : Int))))) H' := q
    obtain ⟨hlen, hwt⟩ := weight_its (d := d)
    cases hf : isSqD d with
    | false => rw [hf] at q'; exact iteT (iteT (q' _ s1))
    | true =>
      rw [hf, Bool.true_and] at q'
      obtain ⟨a, ys, rfl, hq, hes⟩ := (hd.ext s1).lst_q (sq_its hf)
      generalize itsD d = es at *
      have le := hes.len
      refine iteF ⟨_, rfl, a, ys, rfl, hq, _, _, rfl, rfl, _, rfl, ?_⟩
      refine ite2 (fun c1 => ?_) (fun c1 => ?_)
      · have c1' : (1 : Int) ≤ (ys.length : Int) := of_decide_eq_true c1
        refine ⟨_, _, rfl, rfl, _, rfl, ?_⟩
        show if (!decide ((ys.length : Int) ≤ 40)) = true then _ else _
        rw [decide_eq_true (show (1 : Int) ≤ (es.length : Int) by omega), Bool.true_and] at q'
        cases c2 : decide ((ys.length : Int) ≤ 40) with
        | false =>
          rw [← le, c2, Bool.false_and] at q'
          exact iteT (q' _ s1)
        | true =>
          rw [← le, c2, Bool.true_and, le] at q'
          refine iteF ⟨_, rfl, a, rfl, lc_sq hq fun D hD => ⟨fun i H' => Same H1 H' ∧ H' D = some (.lst (((es.take i).map (entB n (es.length : Int))).map V.bl)), ⟨Same.new (Same.refl _) hD, upd_same⟩, fun i H' h => h.1, ?_, ?_⟩⟩
          · rintro i x H' hx ⟨s', e'⟩
            obtain ⟨d', hd', dx⟩ := hes.at i x hx
            have hm : d' ∈ es := List.mem_of_getElem? hd'
            refine ⟨rfl, tYesT ⟨_, rfl, _, rfl, _, rfl, a, ys, rfl, hq.same s', x, d', m, n, (ys.length : Int), rfl, dx.ext s', Nat.le_trans (hwt d' hm) hw, fun H2 s2 => ⟨_, s2 _ _ e', ?_, fun b o e => ?_, ?_⟩⟩⟩
            · rw [List.length_map, List.length_map]
              exact Nat.lt_of_le_of_lt (List.length_take_le' _ _) (Nat.lt_of_le_of_lt (by omega : es.length ≤ 100000) (by decide))
            · rw [upd_ne (ne_of_none e hD)]; exact s2 _ _ (s' b o e)
            · rw [upd_same, List.take_add_one, hd', List.map_append, List.map_append, le]; rfl
          · rintro H2 ⟨s', e'⟩
            rw [le, List.take_length] at e'
            refine ⟨D, _, rfl, SqL.of e', ?_⟩
            rw [all_id]
            exact q' _ (s1.trans s')
      · have c1' : ¬ (1 : Int) ≤ (ys.length : Int) := fun z => c1 (decide_eq_true z)
        rw [decide_eq_false (show ¬ (1 : Int) ≤ (es.length : Int) by omega), Bool.false_and, Bool.false_and] at q'
        exact ⟨_, rfl, iteT (q' _ s1)⟩
theorem ok_are_ends (T : Txt K mg) : FnOk P w K mg base CX0 3 T.f_are_ends T.fd_are_ends ["value", "states"] (spDns K endsB) := by
  refine T.F_are_ends.ok sc_are_ends (fun vs H Q E h => ?_) (fun cdv A outer s H vs Q E hr h => ?_)
  · obtain ⟨x, d, m, n, rfl, _⟩ := h; rfl
  · obtain ⟨x, d, m, n, rfl, hd, hw, q⟩ := h
    refine ⟨_, (pss_cons (ps_if (PW.pt (pw_or (pt_not (pt_val (pe_call (ok_is_list T) (hr.mono (by decide)) rfl T.g_is_list T.F_is_list.kp T.b_is_list .nil pass0 (pa_cons (pv 0) pa_nil)))) (pw_or1 (pt_cmpR op_ne (pe_callB call_len_seq (by rfl) T.z_len (by decide +kernel) (pa_cons (pv 0) pa_nil)) (pv 1) (nomark _))))) (pss_one (ps_ret pe_bl)) pss_nil)
      (pss_one (ps_ret (pe_callB (cr_all rfl) (by rfl) T.z_all (by decide +kernel) (pa_cons (pe_lc (own := [("end", 2)]) (g := gName 2) (by rfl) sc_are_ends.nd (pi_sq (pv 0)) (blkOk_by (own := [("end", 2)]) (N := N_are_ends) (sc := defScope s_are_ends) (by decide +kernel)) (fun _ _ _ _ _ => pg_name (i := 2) sc_are_ends.nd rfl (Or.inl rfl)) (fun _ _ _ _ _ => pts_nil) (fun _ _ _ _ _ => (pe_or (pe_cmp (pc_isN (pv 2)) rfl) (pe_one (pe_call (ok_is_word T) (hr.mono (by decide)) rfl T.g_is_word T.F_is_word.kp T.b_is_word .nil pass0 (pa_cons (pv 2) pa_nil)))))) pa_nil))))), ?_⟩
    refine ⟨_, rfl, x, d, m, rfl, hd, fun H1 s1 => ⟨_, rfl, ?_⟩⟩
    have q' : ∀ H', Same H H' → Q (.bl (isSqD d && (decide (((itsD d).length : Int) = n) && (itsD d).all endB))) H' := q
    obtain ⟨hlen, hwt⟩ := weight_its (d := d)
    cases hf : isSqD d with
    | false => rw [hf] at q'; exact iteT (iteT (q' _ s1))
    | true =>
      rw [hf, Bool.true_and] at q'
      obtain ⟨a, ys, rfl, hq, hes⟩ := (hd.ext s1).lst_q (sq_its hf)
      generalize itsD d = es at *
      have le := hes.len
      refine iteF ⟨_, rfl, a, ys, rfl, hq, _, rfl, rfl, _, rfl, ?_⟩
      by_cases c : (es.length : Int) = n
      · rw [decide_eq_true (show V.int (ys.length : Int) = V.int n by rw [le, c])]
        rw [decide_eq_true c, Bool.true_and] at q'
        refine iteF ⟨_, rfl, a, rfl, lc_sq hq fun D hD => ⟨fun i H' => Same H1 H' ∧ H' D = some (.lst (((es.take i).map endB).map V.bl)), ⟨Same.new (Same.refl _) hD, upd_same⟩, fun i H' h => h.1, ?_, ?_⟩⟩
        · rintro i x H' hx ⟨s', e'⟩
          obtain ⟨d', hd', dx⟩ := hes.at i x hx
          have hm : d' ∈ es := List.mem_of_getElem? hd'
          refine ⟨rfl, tYesT ?_⟩
          have fin : ∀ H2, Same H' H2 → ∃ acc, H2 D = some (.lst acc) ∧ acc.length < sizeLine ∧ Same H1 (upd H2 D (.lst (acc ++ [.bl (endB d')]))) ∧ (upd H2 D (.lst (acc ++ [.bl (endB d')]))) D = some (.lst (((es.take (i + 1)).map endB).map V.bl)) := fun H2 s2 => by
            refine ⟨_, s2 _ _ e', ?_, fun b o e => ?_, ?_⟩
            · rw [List.length_map, List.length_map]
              exact Nat.lt_of_le_of_lt (List.length_take_le' _ _) (Nat.lt_of_le_of_lt (by omega : es.length ≤ 100000) (by decide))
            · rw [upd_ne (ne_of_none e hD)]; exact s2 _ _ (s' b o e)
            · rw [upd_same, List.take_add_one, hd', List.map_append, List.map_append]; rfl
          have dn := dg_non dx
          refine ⟨_, rfl, _, rfl, ?_⟩
          rw [dn]
          unfold endB at fin
          cases hn : isNn d' with
          | true => rw [hn] at fin; exact iteT (fin H' (Same.refl _))
          | false =>
            rw [hn] at fin
            exact iteF ⟨_, rfl, x, d', m, rfl, dx.ext s', Nat.le_trans (hwt d' hm) hw, fin H' (Same.refl _)⟩
        · rintro H2 ⟨s', e'⟩
          rw [le, List.take_length] at e'
          refine ⟨D, _, rfl, SqL.of e', ?_⟩
          rw [all_id]
          exact q' _ (s1.trans s')
      · rw [decide_eq_false (show ¬ V.int (ys.length : Int) = V.int n from fun z => c (by rw [← le]; exact V.int.inj z))]
        rw [decide_eq_false c, Bool.false_and] at q'
        exact iteT (q' _ s1)
theorem ok_is_line (T : Txt K mg) : FnOk P w K mg base CX0 4 T.f_is_line T.fd_is_line ["value", "signs"] (spDns K isLn) := by
  refine T.F_is_line.ok sc_is_line (fun vs H Q E h => ?_) (fun cdv A outer s H vs Q E hr h => ?_)
  · obtain ⟨x, d, m, n, rfl, _⟩ := h; rfl
  · obtain ⟨x, d, m, n, rfl, hd, hw, q⟩ := h
    refine ⟨_, (pss_one (ps_ret (pe_and (pe_callB call_isi (by rfl) T.z_isinstance (by decide +kernel) (pa_cons (pv 0) (pa_cons (pe_bltn (v := .ty "tuple") (u := .type "tuple") (by rfl) T.z_tuple (by decide +kernel) rfl) pa_nil))) (pe_one (pe_callB (cr_all rfl) (by rfl) T.z_all (by decide +kernel) (pa_cons (pe_lc (own := [("sign", 2)]) (g := gName 2) (by rfl) sc_is_line.nd (pi_tup (pv 0)) (blkOk_by (own := [("sign", 2)]) (N := N_is_line) (sc := defScope s_is_line) (by decide +kernel)) (fun _ _ _ _ _ => pg_name (i := 2) sc_is_line.nd rfl (Or.inl rfl)) (fun _ _ _ _ _ => pts_nil) (fun _ _ _ _ _ => (pe_call (ok_is_below T) (hr.mono (by decide)) rfl T.g_is_below T.F_is_below.kp T.b_is_below .nil pass0 (pa_cons (pv 2) (pa_cons (pv 1) pa_nil))))) pa_nil)))))), ?_⟩
    refine ⟨_, rfl, _, _, _, _, isTupD d, rfl, .ty _, hd.ty, kit_tupD d, _, rfl, ?_⟩
    cases d with
    | tuple es =>
      obtain ⟨a, ys, rfl, hs, hes⟩ := hd.tup_of
      obtain ⟨hlen, hwt⟩ := weight_its (d := .tuple es)
      have hlen : es.length ≤ _ := hlen
      have le := hes.len
      refine iteT ⟨_, rfl, a, rfl, ⟨_, hs⟩, fun D hD => ?_⟩
      refine lc_tup (K := K) (a := a) (xs := ys) (fun i H' => Same H H' ∧ H' D = some (.lst (((es.take i).map (isBe n)).map V.bl))) ⟨Same.new (Same.refl _) hD, upd_same⟩ (fun i H' _ h => hs.ext h.1) ?_ ?_
      · rintro i x H' hx ⟨s', e'⟩
        obtain ⟨d', hd', dx⟩ := hes.at i x hx
        refine ⟨rfl, tYesT ⟨_, rfl, _, rfl, x, d', m, n, rfl, dx.ext s', _, e', ?_, fun b o e => ?_, ?_⟩⟩
        · rw [List.length_map, List.length_map]
          exact Nat.lt_of_le_of_lt (List.length_take_le' _ _) (Nat.lt_of_le_of_lt (by omega : es.length ≤ 100000) (by decide))
        · rw [upd_ne (ne_of_none e hD)]; exact s' b o e
        · rw [upd_same, List.take_add_one, hd', List.map_append, List.map_append]; rfl
      · rintro H2 ⟨s', e'⟩
        rw [le, List.take_length] at e'
        refine ⟨D, _, rfl, SqL.of e', ?_⟩
        rw [all_id]
        exact q _ s'
    | _ => exact iteF (q _ (Same.refl _))
end
end My

set_option Elab.async false
set_option linter.all false
set_option maxRecDepth 100000
set_option maxHeartbeats 8000000
namespace My
open PySem PySem.Spec PyProof.Rows L2
section
variable {P : Program} {w : World} {K : PySem.W.Frag} {mg : Str → Option Value} {base : Heap}
def spInit (T : Txt K mg) : Sp := fun vs H Q E => ∃ p dx x1 x2 x3 d1 d2 d3 m1 m2 m3, vs = [.ref p, x1, x2, x3] ∧ H p = some (.ins T.C_Decoder dx []) ∧ Dw K p H m1 x1 d1 ∧ Dw K p H m2 x2 d2 ∧ Dw K p H m3 x3 d3 ∧ d2.weight ≤ 100000 ∧ d3.weight ≤ 100000 ∧
  ((isSg d1 = false ∧ Bad T.C_InvalidSigns H x1 E) ∨ (isSg d1 = true ∧ stepsB (numD d1) d2 = false ∧ Bad T.C_InvalidSteps H x2 E) ∨ (isSg d1 = true ∧ stepsB (numD d1) d2 = true ∧ endsB ((itsD d2).length : Int) d3 = false ∧ Bad T.C_InvalidEnds H x3 E) ∨
   ∃ D, GoodD D d1 d2 d3 ∧ ∀ H', Kp p H H' → DecAt K T.C_Decoder H' p D → Q .non H')
theorem ok_Decoder_init (T : Txt K mg) : FnOk P w K mg base (L2.CX P w) 7 T.f_Decoder_init T.fd_Decoder_init ["self", "signs", "steps", "ends"] (spInit T) := by
  refine T.F_Decoder_init.okX sc_Decoder_init (fun vs H Q E h => ?_) (fun cdv A outer s H vs Q E hr h => ?_)
  · obtain ⟨p, dx, x1, x2, x3, d1, d2, d3, m1, m2, m3, rfl, _⟩ := h; rfl
  · obtain ⟨p, dx, x1, x2, x3, d1, d2, d3, m1, m2, m3, rfl, hp, h1, h2, h3, w2, w3, hh⟩ := h
    refine ⟨_, (pss_cons (ps_if (pt_not (pt_val (pe_call (ok_is_number_of_signs T) (hr.mono (by decide)) rfl T.g_is_number_of_signs T.F_is_number_of_signs.kp T.b_is_number_of_signs .nil pass0 (pa_cons (pv 1) pa_nil)))) (pss_one (ps_raiseE rfl T.e_InvalidSigns hr (takes_of rfl rfl rfl rfl) (pa_cons (pv 1) pa_nil))) pss_nil)
      (pss_cons (ps_if (pt_not (pt_val (pe_call (ok_are_steps T) (hr.mono (by decide)) rfl T.g_are_steps T.F_are_steps.kp T.b_are_steps .nil pass0 (pa_cons (pv 2) (pa_cons (pv 1) pa_nil))))) (pss_one (ps_raiseE rfl T.e_InvalidSteps hr (takes_of rfl rfl rfl rfl) (pa_cons (pv 2) pa_nil))) pss_nil)
      (pss_cons (ps_if (pt_not (pt_val (pe_call (ok_are_ends T) (hr.mono (by decide)) rfl T.g_are_ends T.F_are_ends.kp T.b_are_ends .nil pass0 (pa_cons (pv 3) (pa_cons (pe_callB call_len_seq (by rfl) T.z_len (by decide +kernel) (pa_cons (pv 2) pa_nil)) pa_nil))))) (pss_one (ps_raiseE rfl T.e_InvalidEnds hr (takes_of rfl rfl rfl rfl) (pa_cons (pv 3) pa_nil))) pss_nil)
      (pss_cons (ps_fld (pv 0) (pv 1) rfl)
      (pss_cons (ps_fld (pv 0) (pe_callB call_len_seq (by rfl) T.z_len (by decide +kernel) (pa_cons (pv 2) pa_nil)) rfl)
      (pss_cons (ps_fld (pv 0) (pe_callTy call_tuple_of (by rfl) T.z_tuple (by decide +kernel) (pa_cons (pe_lc (own := [("row", 4)]) (g := gName 4) (by rfl) sc_Decoder_init.nd (pi_sq (pv 2)) (blkOk_by (own := [("row", 4)]) (N := N_Decoder_init) (sc := defScope s_Decoder_init) (by decide +kernel)) (fun _ _ _ _ _ => pg_name (i := 4) sc_Decoder_init.nd rfl (Or.inl rfl)) (fun _ _ _ _ _ => pts_nil) (fun _ _ _ _ _ => (pe_callTy (call_tuple_ofK (K := K) rfl) (by rfl) T.z_tuple (by decide +kernel) (pa_cons (pv 4) pa_nil)))) pa_nil)) rfl)
      (pss_one (ps_fld (pv 0) (pe_callTy call_tuple_of (by rfl) T.z_tuple (by decide +kernel) (pa_cons (pv 3) pa_nil)) rfl)))))))), ?_⟩
    have g1 : isSg d1 = false → Bad T.C_InvalidSigns H x1 E := fun z => by
      rcases hh with h | h | h | h
      · exact h.2
      · rw [z] at h; cases h.1
      · rw [z] at h; cases h.1
      · obtain ⟨D, g, _⟩ := h; rw [g.sg] at z; cases z
    have g2 : isSg d1 = true → stepsB (numD d1) d2 = false → Bad T.C_InvalidSteps H x2 E := fun z0 z => by
      rcases hh with h | h | h | h
      · rw [h.1] at z0; cases z0
      · exact h.2.2
      · rw [z] at h; cases h.2.1
      · obtain ⟨D, g, _⟩ := h
        have := g.steps
        rw [g.e1] at z
        rw [show numD (.int (D.sg : Nat)) = ((D.sg : Nat) : Int) from rfl, this] at z; cases z
    have g3 : isSg d1 = true → stepsB (numD d1) d2 = true → endsB ((itsD d2).length : Int) d3 = false → Bad T.C_InvalidEnds H x3 E := fun z0 z1 z => by
      rcases hh with h | h | h | h
      · rw [h.1] at z0; cases z0
      · rw [h.2.1] at z1; cases z1
      · exact h.2.2.2
      · obtain ⟨D, g, _⟩ := h
        rw [g.ends] at z; cases z
    have raise_ : ∀ {C : Addr} {x : V} {H' : Hp}, Bad C H x E → Same H H' → ∀ d, H' d = none → E (.ref C) (some d) (upd H' d (.xd (gvn x))) := fun kb s d hd =>
      kb d _ (Same.new s hd) (s.free hd) upd_same
    refine ⟨_, rfl, x1, d1, m1, rfl, h1.dg, _, rfl, ?_⟩
    cases c1 : isSg d1 with
    | false =>
      exact iteT ⟨_, rfl, x1, rfl, fun d hd => raise_ (g1 c1) (Same.refl _) d hd⟩
    | true =>
    obtain ⟨i, rfl⟩ : ∃ i, d1 = .int i := by cases d1 <;> first | exact ⟨_, rfl⟩ | cases c1
    obtain rfl := h1.int_of
    refine iteF ⟨_, rfl, _, rfl, x2, d2, m2, i, rfl, h2.dg, w2, fun H1 s1 => ⟨_, rfl, ?_⟩⟩
    cases c2 : stepsB i d2 with
    | false =>
      exact iteT ⟨_, rfl, x2, rfl, fun d hd => raise_ (g2 c1 c2) s1 d hd⟩
    | true =>
    have c2' := c2
    unfold stepsB at c2'
    rw [Bool.and_eq_true] at c2'
    have hsq := c2'.1
    have k1 : Kp p H H1 := Kp.of s1
    obtain ⟨a, ys, rfl, hq, hes⟩ := (h2.kp k1).lst_q (sq_its hsq)
    have le := hes.len
    have hq1 : SqQ K H1 a ys := hq.same (wo_same H1 p)
    refine iteF ⟨_, rfl, _, rfl, a, ys, rfl, hq1, x3, d3, m3, (ys.length : Int), rfl, (h3.kp k1).dg, w3, fun H2 s2 => ⟨_, rfl, ?_⟩⟩
    have s12 := s1.trans s2
    rw [le]
    cases c3 : endsB ((itsD d2).length : Int) d3 with
    | false =>
      exact iteT ⟨_, rfl, x3, rfl, fun d hd => raise_ (g3 c1 c2 c3) s12 d hd⟩
    | true =>
    obtain ⟨D, good, kQ⟩ : ∃ D, GoodD D (.int i) d2 d3 ∧ ∀ H', Kp p H H' → DecAt K T.C_Decoder H' p D → Q .non H' := by
      rcases hh with h | h | h | h
      · rw [h.1] at c1; cases c1
      · have := h.2.1; rw [show numD (.int i) = i from rfl, c2] at this; cases this
      · have := h.2.2.1; rw [c3] at this; cases this
      · exact h
    have ei : i = (D.sg : Nat) := by have := good.e1; injection this
    have l2 := good.len2
    have n40 := good.ok.n40
    have hp2 : H2 p = some (.ins T.C_Decoder dx []) := s12 _ _ hp
    have k2 : Kp p H H2 := Kp.of s12
    have lt0 : ∀ n : Nat, n ≤ 10 → n < 1000 := fun n h => by omega
    refine iteF ⟨_, rfl, _, rfl, p, T.C_Decoder, dx, _, rfl, hp2, T.cl_Decoder, T.na_Decoder_signs, (by show 0 < 1000; omega), ?_⟩
    have hq3 : SqQ K (upd H2 p (.ins T.C_Decoder dx (putF "signs" (.int i) []))) a ys := (hq.same ((Kp.of s2).wo.trans (by rw [← wo_upd (H := H2) (p := p) (o := .ins T.C_Decoder dx (putF "signs" (.int i) []))]; exact Same.refl _))).same (wo_same _ p)
    refine ⟨_, rfl, a, ys, rfl, hq3, _, rfl, p, T.C_Decoder, dx, _, rfl, upd_same, T.cl_Decoder, T.na_Decoder_states, (by show 1 < 1000; omega), ?_⟩
    rw [upd_upd]
    have k3 : Kp p H2 (upd H2 p (.ins T.C_Decoder dx (putF "states" (.int (ys.length : Int)) (putF "signs" (.int i) [])))) := (Kp.refl p H2).upd
    have e3 : (upd H2 p (.ins T.C_Decoder dx (putF "states" (.int (ys.length : Int)) (putF "signs" (.int i) [])))) p = some (.ins T.C_Decoder dx (putF "states" (.int (ys.length : Int)) (putF "signs" (.int i) []))) := upd_same
    generalize upd H2 p (.ins T.C_Decoder dx (putF "states" (.int (ys.length : Int)) (putF "signs" (.int i) []))) = H3 at k3 e3 ⊢
    have kH3 := k2.trans k3
    have hq4 : SqQ K H3 a ys := (hq.same ((Kp.of s2).wo.trans k3.wo)).same (wo_same H3 p)
    have he4 : DgAll K (wo H3 p) m2 ys (itsD d2) := hes.ext ((Kp.of s2).wo.trans k3.wo)
    dsimp only [L2.tSeq]
    unfold L2.sFld
    refine rows_tup (A := Unit) (p := p) (a := a) (i := 4) rfl rfl (fun R h => ⟨_, rfl, h⟩) hq4 he4 good.r2 (by omega) (by rw [e3]; exact fun z => by cases z) (fun _ => rfl) (fun _ => rfl) (fun r zs H4 s4 er nr hz => ?_)
    have e4 := s4 _ _ e3
    refine ⟨_, rfl, p, T.C_Decoder, dx, _, rfl, e4, T.cl_Decoder, T.na_Decoder_steps, (by show 2 < 1000; omega), ?_⟩
    have st4 : Dg K (wo H4 p) false (.ref r) D.stD := by
      refine dg_lf _ _ (lf_stD D) ?_ (m := m2)
      rw [← good.tup]
      exact .tup (SqT.of (by rw [wo_ne nr]; exact er)) hz
    have k4 : Kp p H3 H4 := Kp.of s4
    have hd4 : Dg K (wo H4 p) m3 x3 d3 := h3.kp (kH3.trans k4)
    obtain ⟨b, zs3, rfl, hq3', hes3⟩ := hd4.lst_q (sq_its good.s3)
    have k5 : Kp p H4 (upd H4 p (.ins T.C_Decoder dx (putF "steps" (.ref r) (putF "states" (.int (ys.length : Int)) (putF "signs" (.int i) []))))) := (Kp.refl p H4).upd
    have e5 : (upd H4 p (.ins T.C_Decoder dx (putF "steps" (.ref r) (putF "states" (.int (ys.length : Int)) (putF "signs" (.int i) []))))) p = some (.ins T.C_Decoder dx (putF "steps" (.ref r) (putF "states" (.int (ys.length : Int)) (putF "signs" (.int i) [])))) := upd_same
    generalize upd H4 p (.ins T.C_Decoder dx (putF "steps" (.ref r) (putF "states" (.int (ys.length : Int)) (putF "signs" (.int i) [])))) = H5 at k5 e5 ⊢
    have fin : ∀ t H6, Same H5 H6 → H6 p = some (.ins T.C_Decoder dx (putF "steps" (.ref r) (putF "states" (.int (ys.length : Int)) (putF "signs" (.int i) [])))) → Dg K (wo H6 p) m3 (.ref t) (.tuple (itsD d3)) →
        tVar 0 (L2.start N_Decoder_init [V.ref p, V.int i, V.ref a, V.ref b]) H6 fun x H2 => ∃ a C dx fs, x = V.ref a ∧ H2 a = some (HO.ins C dx fs) ∧ Cls K C ∧ NoAttr K C (Str.ofString "ends") ∧ fs.length < 1000 ∧ Q .non (upd H2 a (HO.ins C dx (putF (Str.ofString "ends") (.ref t) fs))) := fun t H6 s6 e6 ht => by
      refine ⟨_, rfl, p, T.C_Decoder, dx, _, rfl, e6, T.cl_Decoder, T.na_Decoder_ends, (by show 3 < 1000; omega), ?_⟩
      have k6 : Kp p H6 (upd H6 p (.ins T.C_Decoder dx (putF (Str.ofString "ends") (.ref t) (putF "steps" (.ref r) (putF "states" (.int (ys.length : Int)) (putF "signs" (.int i) [])))))) := (Kp.refl p H6).upd
      have ka : Kp p H4 (upd H6 p (.ins T.C_Decoder dx (putF (Str.ofString "ends") (.ref t) (putF "steps" (.ref r) (putF "states" (.int (ys.length : Int)) (putF "signs" (.int i) [])))))) := (k5.trans (Kp.of s6)).trans k6
      refine kQ _ ((kH3.trans k4).trans ka) ⟨⟨dx, r, t, ?_, (st4.ext ka.wo).ext (wo_same _ p), ?_⟩, good.ok⟩
      · rw [upd_same, ei, le, l2]; rfl
      · have : Dg K (wo H6 p) false (.ref t) D.enD := by
          refine dg_lf _ _ (lf_dEn D) ?_ (m := m3)
          rw [← good.tupE]; exact ht
        exact (this.ext k6.wo).ext (wo_same _ p)
    have hq5 : SqQ K H5 b zs3 := (hq3'.same k5.wo).same (wo_same H5 p)
    have hes5 : DgAll K (wo H5 p) m3 zs3 (itsD d3) := hes3.ext k5.wo
    rcases hq3' with hq6 | hq6
    · refine ⟨_, rfl, b, zs3, rfl, .inl ⟨(hq6.ext k5.wo).ext (wo_same H5 p), fun t ht => ?_⟩⟩
      have nt : t ≠ p := fun z => by rw [z, e5] at ht; cases ht
      have s6 : Same H5 (upd H5 t (.tup zs3)) := Same.new (Same.refl _) ht
      exact fin t _ s6 (s6 _ _ e5) (.tup (SqT.of (by rw [wo_ne nt]; exact upd_same)) (hes5.ext (Kp.of s6).wo))
    · exact ⟨_, rfl, b, zs3, rfl, .inr ⟨(hq6.ext k5.wo).ext (wo_same H5 p), fin b H5 (Same.refl _) e5 (.tup (hq6.ext k5.wo) hes5)⟩⟩
def spDeq (T : Txt K mg) : Sp := fun vs H Q _ => ∃ p y D, vs = [.ref p, y] ∧ DecAt K T.C_Decoder H p D ∧ ((∃ q D', y = .ref q ∧ DecAt K T.C_Decoder H q D' ∧ Q (.bl (decide (D = D'))) H) ∨ (∃ d m, Dg K H m y d ∧ Q (.bl false) H) ∨ (∃ t, TyX K H y t ∧ PySem.W.kitOne K t (.ref T.C_Decoder) = some false ∧ Q (.bl false) H))
theorem ok_Decoder_eq (T : Txt K mg) : FnOk P w K mg base CX0 1 T.f_Decoder_eq T.fd_Decoder_eq ["self", "other"] (spDeq T) := by
  refine T.F_Decoder_eq.ok sc_Decoder_eq (fun vs H Q E h => ?_) (fun cdv A outer s H vs Q E hr h => ?_)
  · obtain ⟨p, y, D, rfl, _⟩ := h; rfl
  · obtain ⟨p, y, D, rfl, ⟨⟨dx, Sa, Ea, ep, hs, he⟩, ok⟩, hh⟩ := h
    refine ⟨_, (pss_one (ps_ret (pe_and (pe_callB call_isi (by rfl) T.z_isinstance (by decide +kernel) (pa_cons (pv 1) (pa_cons (pe_glob (v := .ref T.C_Decoder) rfl T.g_Decoder rfl) pa_nil))) (pe_and (pe_cmpR op_eq (pe_fld (pv 0) rfl) (pe_fld (pv 1) rfl) (nomark _)) (pe_and (pe_cmpR (op_eqD (un64 hr)) (pe_fld (pv 0) rfl) (pe_fld (pv 1) rfl) (nomark _)) (pe_one (pe_cmpR (op_eqD (un64 hr)) (pe_fld (pv 0) rfl) (pe_fld (pv 1) rfl) (nomark _)))))))), ?_⟩
    rcases hh with ⟨q, D', rfl, ⟨⟨dy, Sb, Eb, eq, hs', he'⟩, ok'⟩, kQ⟩ | ⟨d, m, hd, kQ⟩ | ⟨t, ht, hk, kQ⟩
    · refine ⟨_, rfl, _, _, _, _, true, rfl, .own _, T.oe_Decoder.ty eq, kit_same, _, rfl, iteT ?_⟩
      have e : decide (D = D') = (decide (D.sg = D'.sg) && (decide (D.st = D'.st) && decide (D.en = D'.en))) := by
        rw [Bool.eq_iff_iff]; simp [dcd_eq]
      rw [e] at kQ
      refine ⟨_, rfl, p, _, dx, _, _, rfl, ep, T.cl_Decoder, T.na_Decoder_signs, dfs_signs, _, rfl, q, _, dy, _, _, rfl, eq, T.cl_Decoder, T.na_Decoder_signs, dfs_signs, rfl, _, rfl, ?_⟩
      have e1 : decide (V.int (D.sg : Nat) = V.int (D'.sg : Nat)) = decide (D.sg = D'.sg) := by
        rw [Bool.eq_iff_iff, decide_eq_true_eq, decide_eq_true_eq]
        exact ⟨fun z => by have := V.int.inj z; omega, fun z => by rw [z]⟩
      rw [e1]
      cases c1 : decide (D.sg = D'.sg) with
      | false => rw [c1, Bool.false_and] at kQ; exact iteF kQ
      | true =>
        rw [c1, Bool.true_and] at kQ
        refine iteT ⟨_, rfl, p, _, dx, _, _, rfl, ep, T.cl_Decoder, T.na_Decoder_steps, dfs_steps, _, rfl, q, _, dy, _, _, rfl, eq, T.cl_Decoder, T.na_Decoder_steps, dfs_steps, D.stD, D'.stD, dg_dp _ _ hs, dg_dp _ _ hs', shaped_stD ok, shaped_stD ok', _, rfl, ?_⟩
        rw [eqv_stD]
        cases c2 : decide (D.st = D'.st) with
        | false => rw [c2, Bool.false_and] at kQ; exact iteF kQ
        | true =>
          rw [c2, Bool.true_and] at kQ
          refine iteT ⟨_, rfl, p, _, dx, _, _, rfl, ep, T.cl_Decoder, T.na_Decoder_ends, dfs_ends, _, rfl, q, _, dy, _, _, rfl, eq, T.cl_Decoder, T.na_Decoder_ends, dfs_ends, D.enD, D'.enD, dg_dp _ _ he, dg_dp _ _ he', shaped_dEn ok, shaped_dEn ok', ?_⟩
          rw [eqv_dEn]
          exact kQ
    · exact ⟨_, rfl, _, _, _, _, false, rfl, .own _, hd.ty, kit_ownD T.ii_Decoder T.it_Decoder d, _, rfl, iteF kQ⟩
    · exact ⟨_, rfl, _, _, _, _, false, rfl, .own _, ht, hk, _, rfl, iteF kQ⟩
theorem dg_row {K : PySem.W.Frag} {H : Hp} {Sa : Addr} {D : Dcd} (ok : D.ok) (h : Dg K H false (.ref Sa) D.stD) {s : Nat} (hs : s < D.st.length) : ∃ xs r zs, SqT K H Sa xs ∧ xs[s]? = some (.ref r) ∧ SqT K H r zs ∧
    ∀ a, a < D.sg → ∃ e, zs[a]? = some e ∧ Dg K H false e (enD (D.at s a)) := by
  obtain ⟨a, xs, e, hx, ha⟩ := h.tup_of
  injection e with e
  subst e
  obtain ⟨x, d, ex, ed, dx⟩ := ha.nth (i := s) (by rw [List.length_map]; exact hs)
  rw [List.getElem?_map, List.getElem?_eq_getElem hs] at ed
  have ed := Option.some.inj ed
  subst ed
  obtain ⟨r, zs, rfl, hz, hzs⟩ := dx.tup_of
  refine ⟨xs, r, zs, hx, ex, hz, fun a ha => ?_⟩
  have lr := (ok.rows _ (List.getElem_mem hs)).1
  obtain ⟨e, de, ee, ede, dge⟩ := hzs.nth (i := a) (by rw [List.length_map, lr]; exact ha)
  rw [List.getElem?_map, List.getElem?_eq_getElem (by rw [lr]; exact ha)] at ede
  have ede := Option.some.inj ede
  subst ede
  refine ⟨e, ee, ?_⟩
  unfold Dcd.at
  rw [List.getD_eq_getElem?_getD, List.getD_eq_getElem?_getD, List.getElem?_eq_getElem hs]
  show Dg K H false e (enD ((D.st[s])[a]?.getD none))
  rw [List.getElem?_eq_getElem (by rw [lr]; exact ha)]
  exact dge
theorem dg_end {K : PySem.W.Frag} {H : Hp} {Ea : Addr} {D : Dcd} (ok : D.ok) (h : Dg K H false (.ref Ea) D.enD) {s : Nat} (hs : s < D.st.length) : ∃ xs e, SqT K H Ea xs ∧ xs[s]? = some e ∧ Dg K H false e (wdD (D.en.getD s none)) := by
  obtain ⟨a, xs, e, hx, ha⟩ := h.tup_of
  injection e with e
  subst e
  have hs' : s < D.en.length := by rw [ok.ends]; exact hs
  obtain ⟨x, d, ex, ed, dx⟩ := ha.nth (i := s) (by rw [List.length_map]; exact hs')
  rw [List.getElem?_map, List.getElem?_eq_getElem hs'] at ed
  have ed := Option.some.inj ed
  subst ed
  exact ⟨xs, x, hx, ex, by rw [List.getD_eq_getElem?_getD, List.getElem?_eq_getElem hs']; exact dx⟩
def txV : Option (List Nat) → V | none => .non | some u => .str (S u)
def spWri (T : Txt K mg) : Sp := fun vs H Q E => ∃ p x D d m, vs = [.ref p, x] ∧ DecAt K T.C_Decoder H p D ∧ Dg K H m x d ∧ d.weight ≤ 100000 ∧
  ((isLn (D.sg : Nat) d = false ∧ Bad T.C_InvalidLine H x E) ∨ ∃ l : List Nat, d = lnD l ∧ (∀ a ∈ l, a < D.sg) ∧ ∀ H', Same H H' → Q (txV (D.wr l)) H')
theorem ok_Decoder_written (T : Txt K mg) : FnOk P w K mg base (L2.CX P w) 5 T.f_Decoder_written T.fd_Decoder_written ["self", "line"] (spWri T) := by
  refine T.F_Decoder_written.okX sc_Decoder_written (fun vs H Q E h => ?_) (fun cdv A outer s H vs Q E hr h => ?_)
  · obtain ⟨p, x, D, d, m, rfl, _⟩ := h; rfl
  · obtain ⟨p, x, D, d, m, rfl, ⟨⟨dx, Sa, Ea, ep, hs, he⟩, ok⟩, hd, hw, hh⟩ := h
    refine ⟨_, (pss_cons (ps_if (pt_not (pt_val (pe_call (ok_is_line T) (hr.mono (by decide)) rfl T.g_is_line T.F_is_line.kp T.b_is_line .nil pass0 (pa_cons (pv 1) (pa_cons (pe_fld (pv 0) rfl) pa_nil))))) (pss_one (ps_raiseE rfl T.e_InvalidLine hr (takes_of rfl rfl rfl rfl) (pa_cons (pv 1) pa_nil))) pss_nil)
      (pss_cons (ps_set (i := 2) sc_Decoder_written.nd rfl (Or.inl rfl) pe_int)
      (pss_cons (ps_set (i := 3) sc_Decoder_written.nd rfl (Or.inl rfl) (pe_lst pa_nil))
      (pss_cons (ps_for (passes_of rfl) rfl (pi_tup (pv 1)) (pg_name (i := 4) sc_Decoder_written.nd rfl (Or.inl rfl)) (pss_cons (ps_set (i := 5) sc_Decoder_written.nd rfl (Or.inl rfl) (pe_ix ix_tup (pe_ix ix_tup (pe_fld (pv 0) rfl) (pv 2) (fun _ _ => rfl)) (pv 4) (fun _ _ => rfl)))
      (pss_cons (ps_if (pt_cmp (pc_isN (pv 5))) (pss_one (ps_ret pe_non)) pss_nil)
      (pss_cons (ps_asg (pv 5) (pg_tup rfl (pgs_cons (pg_name (i := 2) sc_Decoder_written.nd rfl (Or.inl rfl)) (pgs_cons (pg_name (i := 6) sc_Decoder_written.nd rfl (Or.inl rfl)) pgs_nil))))
      (pss_one (ps_expr (pe_bm PySem.F.plainAttrs_list PySem.F.slot_list_append PySem.F.type_list_append mt_append (pv 3) (pa_cons (pv 6) pa_nil))))))))
      (pss_cons (ps_if (pt_cmp (pc_isN (pe_ix ix_tup (pe_fld (pv 0) rfl) (pv 2) (fun _ _ => rfl)))) (pss_one (ps_ret pe_non)) pss_nil)
      (pss_cons (ps_expr (pe_bm PySem.F.plainAttrs_list PySem.F.slot_list_append PySem.F.type_list_append mt_append (pv 3) (pa_cons (pe_ix ix_tup (pe_fld (pv 0) rfl) (pv 2) (fun _ _ => rfl)) pa_nil)))
      (pss_one (ps_ret (pe_bm PySem.F.plainAttrs_str PySem.F.slot_str_join PySem.F.type_str_join mt_join pe_str (pa_cons (pv 3) pa_nil)))))))))), ?_⟩
    refine ⟨_, rfl, _, rfl, p, _, dx, _, _, rfl, ep, T.cl_Decoder, T.na_Decoder_signs, dfs_signs, x, d, m, _, rfl, hd, hw, fun H1 s1 => ⟨_, rfl, ?_⟩⟩
    rcases hh with ⟨hf, kB⟩ | ⟨l, rfl, hl, kQ⟩
    · rw [hf]
      exact iteT ⟨_, rfl, x, rfl, fun d' hd' => kB d' _ (Same.new s1 hd') (s1.free hd') upd_same⟩
    rw [isLn_of hl]
    obtain ⟨a, xs, rfl, hx, hxs⟩ := (hd.ext s1).tup_of
    have lx := hxs.len
    rw [List.length_map] at lx
    have hlen : l.length ≤ 100000 := by
      have := (weight_its (d := lnD l)).1
      rw [show itsD (lnD l) = l.map fun (a : Nat) => PyData.int a from rfl, List.length_map] at this
      omega
    refine iteF ⟨(by show 0 ≤ sizeLine; decide), fun L hL => ?_⟩
    have s2 : Same H1 (upd H1 L (.lst [])) := Same.new (Same.refl _) hL
    have eL : (upd H1 L (.lst [])) L = some (.lst []) := upd_same
    have hLH : H L = none := s1.free hL
    generalize upd H1 L (.lst []) = H2 at s2 eL ⊢
    have s02 := s1.trans s2
    have at_ : ∀ {i : Nat} {x : V}, xs[i]? = some x → ∃ b : Nat, l[i]? = some b ∧ x = .int (b : Nat) := fun {i x} h => by
      obtain ⟨d, e, dx⟩ := hxs.at i x h
      rw [List.getElem?_map] at e
      cases q : l[i]? with
      | none => rw [q] at e; cases e
      | some b =>
        rw [q] at e
        have e := Option.some.inj e
        subst e
        exact ⟨b, rfl, dx.int_of⟩
    refine ⟨_, rfl, a, rfl, ⟨_, hx.ext s2⟩, for_tup (K := K) (a := a) (xs := xs) (fun i σ H' => ∃ (s : Nat) (ws : List (List Nat)) (x4 x5 x6 : Option V), σ = [some (.ref p), some (.ref a), some (.int (s : Nat)), some (.ref L), x4, x5, x6] ∧ Same H1 H' ∧ H' L = some (.lst ((ws.map S).map V.str)) ∧ D.go 0 (l.take i) = some (s, ws.flatten) ∧ ws.length ≤ i ∧ s < D.st.length)
      ⟨0, [], _, _, _, rfl, s2, eL, rfl, Nat.le_refl _, ok.n1⟩ (fun i σ H' _ ⟨_, _, _, _, _, _, s', _⟩ => hx.ext s') ?_ ?_⟩
    · rintro i x σ H' hxi ⟨s, ws, x4, x5, x6, rfl, s', e', hgo, hle, hst⟩
      obtain ⟨b, hb, rfl⟩ := at_ hxi
      have hbl := hl b (List.mem_of_getElem? hb)
      have s'' : Same H H' := s1.trans s'
      obtain ⟨rows, r, zs, hr1, hr2, hz, hent⟩ := dg_row ok (hs.ext s'') hst
      obtain ⟨ev, he1, he2⟩ := hent b hbl
      have step := D.go_snoc (l.take i) 0 b
      rw [← take_snoc hb, hgo] at step
      have step : D.go 0 (l.take (i + 1)) = (D.at s b).map fun (q : Nat × List Nat) => (q.1, ws.flatten ++ q.2) := step
      have oe : okE D.st.length (D.at s b) := ok.at
      have hi : i < l.length := (List.getElem?_eq_some_iff.mp hb).1
      refine ⟨_, rfl, p, _, dx, _, _, rfl, s'' _ _ ep, T.cl_Decoder, T.na_Decoder_steps, dfs_steps, _, rfl, Sa, _, _, _, rfl, rfl, hr1, atI_nat hr2, _, rfl, r, _, _, _, rfl, rfl, hz, atI_nat he1, ?_⟩
      refine ⟨_, rfl, _, rfl, ?_⟩
      cases hat : D.at s b with
      | none =>
        rw [hat] at he2 step
        have ev0 : ev = .non := by cases he2; rfl
        subst ev0
        have q0 := kQ H' s''
        rw [D.wr_none step] at q0
        exact iteT q0
      | some gw =>
        obtain ⟨g, w⟩ := gw
        rw [hat] at he2 step
        have step : D.go 0 (l.take (i + 1)) = some (g, ws.flatten ++ w) := step
        obtain ⟨og, ow⟩ := oe g w hat
        obtain ⟨t, us, rfl, ht, hus⟩ := he2.tup_of
        obtain ⟨y0, vs1, rfl, hy0, hv1⟩ := hus.cons_of
        obtain ⟨y1, vs2, rfl, hy1, hv2⟩ := hv1.cons_of
        obtain rfl := hv2.nil_of
        obtain rfl := hy0.int_of
        obtain rfl := hy1.str_of
        refine iteF ⟨_, rfl, t, _, rfl, ht, rfl, _, _, rfl, _, _, rfl, rfl, ?_⟩
        refine ⟨_, rfl, .inl ⟨rfl, _, SqL.of e'⟩, _, rfl, L, _, _, rfl, rfl, e', ?_, ?_⟩
        · rw [List.length_map, List.length_map]; exact Nat.lt_of_le_of_lt (by omega : ws.length ≤ 100000) (by decide)
        · refine ⟨g, ws ++ [w], _, _, _, rfl, fun bb o e => by rw [upd_ne (ne_of_none e hL)]; exact s' bb o e, ?_, ?_, ?_, og⟩
          · rw [upd_same, List.map_append, List.map_append]; rfl
          · rw [step, List.flatten_append]; simp
          · rw [List.length_append]; simp; omega
    · rintro σ H' ⟨s, ws, x4, x5, x6, rfl, s', e', hgo, hle, hst⟩
      have s'' : Same H H' := s1.trans s'
      rw [lx, List.take_length] at hgo
      obtain ⟨exs, ev, hx1, hx2, hx3⟩ := dg_end ok (he.ext s'') hst
      have fld : (∀ R : VK, R ev H' → tOp (rIxT K) (tFld K (tVar 0) (Str.ofString "ends")) (tVar 2) [some (.ref p), some (.ref a), some (.int (s : Nat)), some (.ref L), x4, x5, x6] H' R) := fun R h =>
        ⟨_, rfl, p, _, dx, _, _, rfl, s'' _ _ ep, T.cl_Decoder, T.na_Decoder_ends, dfs_ends, _, rfl, Ea, _, _, _, rfl, rfl, hx1, atI_nat hx2, h⟩
      have q0 := kQ
      unfold Dcd.wr at q0
      rw [hgo] at q0
      have q0 : ∀ H2, Same H H2 → Q (txV ((D.en.getD s none).map fun w => ws.flatten ++ w)) H2 := q0
      refine fld _ ⟨_, rfl, ?_⟩
      cases hen : D.en.getD s none with
      | none =>
        rw [hen] at hx3 q0
        have ev0 : ev = .non := by cases hx3; rfl
        subst ev0
        exact iteT (q0 H' s'')
      | some w =>
        rw [hen] at hx3 q0
        have ow := ok.end_ hen
        have ev0 : ev = .str (S w) := hx3.str_of
        subst ev0
        have ⟨_, _, lu⟩ := ok.go l 0 s _ ok.n1 hgo
        refine iteF ⟨_, rfl, .inl ⟨rfl, _, SqL.of e'⟩, fld _ ⟨L, _, _, rfl, rfl, e', ?_, ?_⟩⟩
        · rw [List.length_map, List.length_map]; exact Nat.lt_of_le_of_lt (by omega : ws.length ≤ 100000) (by decide)
        · have eU : (upd H' L (.lst ((ws.map S).map V.str ++ [.str (S w)]))) L = some (.lst (((ws ++ [w]).map S).map V.str)) := by rw [upd_same, List.map_append, List.map_append]; rfl
          have sU : Same H (upd H' L (.lst ((ws.map S).map V.str ++ [.str (S w)]))) := fun bb o e => by rw [upd_ne (ne_of_none e hLH)]; exact s'' bb o e
          generalize upd H' L (.lst ((ws.map S).map V.str ++ [.str (S w)])) = H5 at eU sU ⊢
          refine ⟨rfl, _, rfl, _, L, (ws ++ [w]).map S, rfl, rfl, .inl (SqL.of eU), ?_, ?_⟩
          · rw [sum_words, List.flatten_append, List.length_append]
            rw [show [w].flatten = w by simp]
            show _ + ((ws ++ [w]).map S).length * 0 ≤ _
            have := ow.2
            omega
          · rw [join_words, List.flatten_append]
            have := q0 H5 sU
            simpa [txV] using this
end
end My

set_option Elab.async false
set_option linter.all false
set_option maxRecDepth 100000
set_option maxHeartbeats 4000000
/-! Lists of data whose items are drawn with the box at p; decoders and lists that grow. -/
namespace My
open PySem PySem.Spec PyProof.Rows L2
theorem two_kp {H H2 : Hp} {p D : Addr} (k : Kp p H H2) : Same (wo (wo H p) D) (wo (wo H2 p) D) := fun b o e => by
  have n : b ≠ D := fun z => by rw [z, wo_at] at e; cases e
  rw [wo_ne n] at e ⊢
  exact k.wo b o e
/-- the list at D, new since H1: its items are data, the j-th as G j says; c draws so far, k more for each item -/
structure AcB (K : PySem.W.Frag) (m : Bool) (p : Addr) (H1 : Hp) (D : Addr) (c k : Nat) (G : Nat → PyData → Prop) (i : Nat) (H : Hp) : Prop where
  kp : Kp p H1 H
  box : BoxAt H p (c + k * i)
  its : ∃ acc es, H D = some (.lst acc) ∧ DgAll K (wo (wo H p) D) m acc es ∧ es.length = i ∧ ∀ j e, es[j]? = some e → G j e
section
variable {K : PySem.W.Frag} {m : Bool} {p D : Addr} {H1 H H2 : Hp} {c k i : Nat} {G : Nat → PyData → Prop}
theorem AcB.start (hD : H1 D = none) (hb : BoxAt H1 p c) : AcB K m p H1 D c k G 0 (L2.upd H1 D (.lst [])) :=
  ⟨(Kp.refl p H1).new hD, (hb.new hD).mono (by omega), [], [], upd_same, .nil, rfl, fun j e h => by cases h⟩
theorem AcB.ne (h : AcB K m p H1 D c k G i H) : H D ≠ none := by
  obtain ⟨acc, es, e, _⟩ := h.its
  rw [e]; exact fun z => by cases z
theorem AcB.is (h : AcB K m p H1 D c k G i H) : ∃ l, H D = some (HO.lst l) := by
  obtain ⟨acc, es, e, _⟩ := h.its
  exact ⟨acc, e⟩
theorem AcB.snoc {y : V} {d : PyData} (h : AcB K m p H1 D c k G i H) (hD : H1 D = none) (np : D ≠ p) (l : i ≤ 100000) (s : Kp p H H2) (hb : BoxAt H2 p (c + k * (i + 1))) (dy : Dg K (wo (wo H2 p) D) m y d) (g : G i d) :
    ∃ acc, H2 D = some (.lst acc) ∧ acc.length < sizeLine ∧ AcB K m p H1 D c k G (i + 1) (L2.upd H2 D (.lst (acc ++ [y]))) := by
  obtain ⟨acc, es, e, ha, le, hg⟩ := h.its
  refine ⟨acc, s _ _ np e, by rw [ha.len, le]; exact Nat.lt_of_le_of_lt l (by decide), (h.kp.trans s).free hD, hb.other np.symm, acc ++ [y], es ++ [d], upd_same, ?_, by rw [List.length_append, le]; rfl, fun j x hx => ?_⟩
  · rw [two_upd]
    exact (ha.ext (two_kp s)).append (.cons dy .nil)
  · by_cases q : j < es.length
    · rw [List.getElem?_append_left q] at hx
      exact hg j x hx
    · have ej : j = es.length := by
        have := (List.getElem?_eq_some_iff.mp hx).1
        rw [List.length_append] at this
        simp at this
        omega
      rw [ej, List.getElem?_concat_length] at hx
      injection hx with hx
      rw [← hx, ej, le]; exact g
end
/-- a comprehension over a range, its items drawn -/
theorem lc_range_box {K : PySem.W.Frag} {m : Bool} {p : Addr} {lo : Int} {n c k : Nat} {g : TG} {tt : TT} {te : TE} {vs : List Nat} {σ : L2.St} {H1 : Hp} {D : Addr} {Qd : Hp → Prop} (G : Nat → PyData → Prop) (hD : H1 D = none) (hb : BoxAt H1 p c) (hn : n ≤ 100000)
    (step : ∀ j H' (R : VK) (N : Hp → Prop), j < n → Kp p H1 H' → (∃ l, H' D = some (HO.lst l)) → BoxAt H' p (c + k * j) → (∀ y e H4, Kp p H' H4 → BoxAt H4 p (c + k * (j + 1)) → Dg K (wo (wo H4 p) D) m y e → G j e → R y H4) →
      g (.int (lo + j)) (wipe σ vs) H' fun σ2 H2 => wipe σ2 vs = wipe σ vs ∧ tt σ2 H2 fun b H3 => if b = true then te σ2 H3 R else N H3)
    (done : ∀ H' xs es, Kp p H1 H' → BoxAt H' p (c + k * n) → H' D = some (.lst xs) → DgAll K (wo (wo H' p) D) m xs es → es.length = n → (∀ j e, es[j]? = some e → G j e) → Qd H') :
    ∃ W : Nat → Nat → Hp → Prop, (∃ m, W 0 m (L2.upd H1 D (.lst []))) ∧ ∀ i m H, W i m H →
      ((Itr lo n).stop i H ∧ Qd H) ∨ ((Itr lo n).go i H ∧ ∃ Nx : Hp → Prop, (∀ H', Nx H' → ∃ m', m' < m ∧ W (i + 1) m' H') ∧ ∀ x H', (Itr lo n).yld i H x H' → g x (wipe σ vs) H' fun σ2 H2 => wipe σ2 vs = wipe σ vs ∧ tt σ2 H2 fun b H3 =>
        if b = true then te σ2 H3 fun y H4 => ∃ acc, H4 D = some (.lst acc) ∧ acc.length < sizeLine ∧ Nx (L2.upd H4 D (.lst (acc ++ [y]))) else Nx H3) := by
  have np : D ≠ p := (hb.ne hD).symm
  refine lc_range (lo := lo) (n := n) (fun i H' => AcB K m p H1 D c k G i H') (AcB.start hD hb) ?_ ?_
  · rintro i H' hi hA
    exact step i H' _ _ hi hA.kp hA.is hA.box fun y e H4 k4 b4 dy ge => hA.snoc hD np (by omega) k4 b4 dy ge
  · rintro H' ⟨k', b', acc, es, e, ha, le, hg⟩
    exact done H' acc es k' b' e ha le hg
/-- over a list of known items -/
theorem lc_list_box {K : PySem.W.Frag} {m : Bool} {p a : Addr} {c k : Nat} {xs : List V} {g : TG} {tt : TT} {te : TE} {vs : List Nat} {σ : L2.St} {H1 : Hp} {D : Addr} {Qd : Hp → Prop} (G : Nat → PyData → Prop) (hL : SqL K (wo H1 p) a xs) (hD : H1 D = none) (hb : BoxAt H1 p c) (hn : xs.length ≤ 100000)
    (step : ∀ j x H' (R : VK) (N : Hp → Prop), xs[j]? = some x → Kp p H1 H' → (∃ l, H' D = some (HO.lst l)) → BoxAt H' p (c + k * j) → (∀ y e H4, Kp p H' H4 → BoxAt H4 p (c + k * (j + 1)) → Dg K (wo (wo H4 p) D) m y e → G j e → R y H4) →
      g x (wipe σ vs) H' fun σ2 H2 => wipe σ2 vs = wipe σ vs ∧ tt σ2 H2 fun b H3 => if b = true then te σ2 H3 R else N H3)
    (done : ∀ H' ys es, Kp p H1 H' → BoxAt H' p (c + k * xs.length) → H' D = some (.lst ys) → DgAll K (wo (wo H' p) D) m ys es → es.length = xs.length → (∀ j e, es[j]? = some e → G j e) → Qd H') :
    ∃ W : Nat → Nat → Hp → Prop, (∃ m, W 0 m (L2.upd H1 D (.lst []))) ∧ ∀ i m H, W i m H →
      ((Itl K a).stop i H ∧ Qd H) ∨ ((Itl K a).go i H ∧ ∃ Nx : Hp → Prop, (∀ H', Nx H' → ∃ m', m' < m ∧ W (i + 1) m' H') ∧ ∀ x H', (Itl K a).yld i H x H' → g x (wipe σ vs) H' fun σ2 H2 => wipe σ2 vs = wipe σ vs ∧ tt σ2 H2 fun b H3 =>
        if b = true then te σ2 H3 fun y H4 => ∃ acc, H4 D = some (.lst acc) ∧ acc.length < sizeLine ∧ Nx (L2.upd H4 D (.lst (acc ++ [y]))) else Nx H3) := by
  have np : D ≠ p := (hb.ne hD).symm
  refine lc_list (K := K) (a := a) (xs := xs) (fun i H' => AcB K m p H1 D c k G i H') (AcB.start hD hb) (fun i H' _ h => (hL.ext h.kp.wo).ext (wo_same H' p)) ?_ ?_
  · rintro i x H' hx hA
    have hi := (List.getElem?_eq_some_iff.mp hx).1
    exact step i x H' _ _ hx hA.kp hA.is hA.box fun y e H4 k4 b4 dy ge => hA.snoc hD np (by omega) k4 b4 dy ge
  · rintro H' ⟨k', b', acc, es, e, ha, le, hg⟩
    exact done H' acc es k' b' e ha le hg
/-! data without lists stay where lists change -/
mutual
theorem dg_lfwo {K : PySem.W.Frag} {H : Hp} {m : Bool} {D : Addr} {l : List V} (eD : H D = some (.lst l)) : ∀ (d : PyData) (x : V), lfD d = true → Dg K H m x d → Dg K (wo H D) m x d
  | .none, _, _, h => by cases h; exact .non
  | .int _, _, _, h => by cases h; exact .int _
  | .str _, _, _, h => by cases h; exact .str _
  | .bool _, _, _, h => by cases h; exact .bl _
  | .list _, _, e, _ => by simp [lfD] at e
  | .dict _, _, e, _ => by simp [lfD] at e
  | .tuple ds, _, e, h => by
    have e' : lfAll ds = true := by simpa [lfD] using e
    cases h with
    | @tup a xs _ hs ha =>
      refine .tup ?_ (dg_lfwoAll eD ds _ e' ha)
      rcases hs with (hs | ⟨ob, hs⟩) | hs
      · have na : a ≠ D := fun z => by rw [z, eD] at hs; cases hs
        exact .inl (.inl (by rw [wo_ne na]; exact hs))
      · have na : a ≠ D := fun z => by rw [z, eD] at hs; cases hs
        exact .inl (.inr ⟨ob, by rw [wo_ne na]; exact hs⟩)
      · exact .inr hs
theorem dg_lfwoAll {K : PySem.W.Frag} {H : Hp} {m : Bool} {D : Addr} {l : List V} (eD : H D = some (.lst l)) : ∀ (ds : List PyData) (xs : List V), lfAll ds = true → DgAll K H m xs ds → DgAll K (wo H D) m xs ds
  | [], _, _, h => by cases h; exact .nil
  | d :: ds, _, e, h => by
    have e' : lfD d = true ∧ lfAll ds = true := by simpa [lfAll] using e
    cases h with
    | cons h1 h2 => exact .cons (dg_lfwo eD d _ e'.1 h1) (dg_lfwoAll eD ds _ e'.2 h2)
end
/-- a decoder holds no list -/
theorem DecAt.mut {K : PySem.W.Frag} {C : Addr} {H : Hp} {o M : Addr} {D : Dcd} {xs : List V} (h : DecAt K C H o D) (eM : H M = some (.lst xs)) : DecAt K C (wo H M) o D := by
  obtain ⟨⟨dx, Sa, Ea, e, h1, h2⟩, ok⟩ := h
  have no : o ≠ M := fun z => by rw [z, eM] at e; cases e
  exact ⟨⟨dx, Sa, Ea, by rw [wo_ne no]; exact e, dg_lfwo eM _ _ (lf_stD D) h1, dg_lfwo eM _ _ (lf_dEn D) h2⟩, ok⟩
theorem wo_updS {H : Hp} {M : Addr} {o : HO} : Same (wo H M) (L2.upd H M o) := fun b ob e => by
  have n : b ≠ M := fun z => by rw [z, wo_at] at e; cases e
  rw [wo_ne n] at e
  rw [upd_ne n]; exact e
theorem DecAt.kp {K : PySem.W.Frag} {C : Addr} {H H' : Hp} {o M : Addr} {D : Dcd} {xs : List V} (h : DecAt K C H o D) (eM : H M = some (.lst xs)) (k : Kp M H H') : DecAt K C H' o D := ((h.mut eM).ext k.wo).ext (wo_same H' M)
theorem box_lst {H : Hp} {p : Addr} {n : Nat} (h : BoxAt H p n) : ∃ xs, H p = some (HO.lst xs) := by
  obtain ⟨o, e, a, m, c, b, rfl, _⟩ := h
  exact ⟨_, e⟩
theorem DecAt.bx {K : PySem.W.Frag} {C : Addr} {H H' : Hp} {o p : Addr} {D : Dcd} {n : Nat} (h : DecAt K C H o D) (hb : BoxAt H p n) (k : Kp p H H') : DecAt K C H' o D := by
  obtain ⟨xs, e⟩ := box_lst hb
  exact h.kp e k
theorem dg_strs {K : PySem.W.Frag} {H : Hp} {m : Bool} : ∀ {xs : List V} {es : List PyData}, DgAll K H m xs es → (∀ e ∈ es, ∃ w, e = .str (S w) ∧ Low w ∧ w.length = 1) → ∃ t : List Nat, Low t ∧ t.length = es.length ∧ xs = t.map fun c => V.str (S [c])
  | _, _, .nil, _ => ⟨[], Low.nil, rfl, rfl⟩
  | _, _, .cons (d := d) h1 h2, g => by
    obtain ⟨t, lt, ln, e⟩ := dg_strs h2 fun e he => g e (List.mem_cons_of_mem _ he)
    obtain ⟨w, rfl, lw, l1⟩ := g d List.mem_cons_self
    match w, lw, l1 with
    | [c], lw, _ =>
      cases h1
      exact ⟨c :: t, fun x hx => by
        rcases List.mem_cons.mp hx with z | z
        · rw [z]; exact lw c List.mem_cons_self
        · exact lt x z, by rw [List.length_cons, List.length_cons, ln], by rw [e]; rfl⟩
theorem asg2 {te : TE} {g : TG} {D : Ends} {σ : L2.St} {H : Hp} (R : V → Hp → Prop) (h : ∀ Q' : VK, (∀ v H', R v H' → Q' v H') → te σ H Q') (rest : ∀ v H', R v H' → g v σ H' D.nx) : tAsg te g D σ H := h _ rest
theorem seq2 {te : TE} {g : TG} {s : TS} {D : Ends} {σ : L2.St} {H : Hp} (R : V → Hp → Prop) (h : ∀ Q' : VK, (∀ v H', R v H' → Q' v H') → te σ H Q') (rest : ∀ v H', R v H' → g v σ H' fun σ2 H2 => s D σ2 H2) : tSeq (tAsg te g) s D σ H := h _ rest
theorem sIx_m1 (n : Nat) : HT.sIx n n (some (-1)) = n - 1 := by
  unfold HT.sIx
  simp
  omega
theorem cut_last (l : List Nat) : cutS (S l) none (some (-1)) = S l.dropLast := by
  show S (((cs (S l)).drop (HT.sIx (S l).length 0 none)).take (HT.sIx (S l).length (S l).length (some (-1)) - HT.sIx (S l).length 0 none)) = _
  rw [S_tl, S_len, HT.sIx_none, sIx_m1, List.drop_zero, Nat.sub_zero, List.dropLast_eq_take]
end My

set_option Elab.async false
set_option linter.all false
set_option maxRecDepth 100000
set_option maxHeartbeats 4000000
/-! A decoder with a check after each block: its places, their order, what it writes. -/
namespace My
open PySem PySem.Spec PyProof.Rows L2
theorem nodup_lt_len : ∀ (N : Nat) (l : List Nat), l.Nodup → (∀ x ∈ l, x < N) → l.length ≤ N
  | 0, l, _, h => by
    cases l with
    | nil => exact Nat.le_refl _
    | cons x _ => exact absurd (h x List.mem_cons_self) (Nat.not_lt_zero x)
  | N + 1, l, hn, h => by
    by_cases hm : N ∈ l
    · have h1 := nodup_lt_len N (l.erase N) (hn.erase N) fun x hx => by
        have := hn.mem_erase_iff.mp hx
        have := h x this.2
        omega
      rw [List.length_erase_of_mem hm] at h1
      omega
    · have := nodup_lt_len N l hn fun x hx => by
        have h1 := h x hx
        have : x ≠ N := fun z => hm (by rw [← z]; exact hx)
        omega
      omega
abbrev Pl := Nat × Nat × Nat
section
variable (D : Dcd) (n : Nat)
def nx (pl : Pl) (a : Nat) : Option (Pl × List Nat) :=
  if pl.2.1 = n then (if a = pl.2.2 then some ((pl.1, 0, 0), []) else none)
  else (D.at pl.1 a).map fun e => ((e.1, pl.2.1 + 1, (pl.2.2 + a) % D.sg), e.2)
structure Vp (pl : Pl) : Prop where
  s : pl.1 < D.st.length
  m : pl.2.1 ≤ n
  t : pl.2.2 < D.sg
  z : pl.2.1 = 0 → pl.2.2 = 0
def addP (F : List Pl) (e : Option (Pl × List Nat)) : List Pl := match e with
  | none => F
  | some (g, _) => if g ∈ F then F else F ++ [g]
def rowP (pl : Pl) : List (Option (Pl × List Nat)) := (List.range D.sg).map (nx D n pl)
def SqR : Nat → List Pl
  | 0 => [(0, 0, 0)]
  | i + 1 => match (SqR i)[i]? with
    | none => SqR i
    | some pl => (rowP D n pl).foldl addP (SqR i)
@[irreducible] def Sq (i : Nat) : List Pl := SqR D n i
@[irreducible] def FinP : List Pl := Sq D n 200
theorem Sq_def (i : Nat) : Sq D n i = SqR D n i := by unfold Sq; rfl
theorem Sq_zero0 : Sq D n 0 = [(0, 0, 0)] := by rw [Sq_def]; rfl
end
theorem addP_pre (F : List Pl) (e : Option (Pl × List Nat)) : F <+: addP F e := by
  unfold addP
  cases e with
  | none => exact List.prefix_refl _
  | some p =>
    dsimp only
    split
    · exact List.prefix_refl _
    · exact List.prefix_append _ _
theorem foldP_pre : ∀ (r : List (Option (Pl × List Nat))) (F : List Pl), F <+: r.foldl addP F
  | [], F => List.prefix_refl _
  | e :: r, F => (addP_pre F e).trans (foldP_pre r (addP F e))
theorem addP_mem {F : List Pl} {g : Pl} {w : List Nat} : g ∈ addP F (some (g, w)) := by
  show g ∈ (if g ∈ F then F else F ++ [g])
  split
  · assumption
  · exact List.mem_append_right _ List.mem_cons_self
theorem foldP_mem : ∀ (r : List (Option (Pl × List Nat))) (F : List Pl) (g : Pl) (w : List Nat), some (g, w) ∈ r → g ∈ r.foldl addP F
  | e :: r, F, g, w, h => by
    rcases List.mem_cons.mp h with z | z
    · subst z
      exact (foldP_pre r _).subset addP_mem
    · exact foldP_mem r (addP F e) g w z
theorem addP_all {G : Pl → Prop} {F : List Pl} {e : Option (Pl × List Nat)} (hF : ∀ q ∈ F, G q) (he : ∀ g w, e = some (g, w) → G g) : ∀ q ∈ addP F e, G q := by
  intro q hq
  unfold addP at hq
  cases e with
  | none => exact hF q hq
  | some p =>
    dsimp only at hq
    split at hq
    · exact hF q hq
    · rcases List.mem_append.mp hq with z | z
      · exact hF q z
      · rw [List.mem_singleton.mp z]; exact he p.1 p.2 rfl
theorem foldP_all {G : Pl → Prop} : ∀ (r : List (Option (Pl × List Nat))) (F : List Pl), (∀ q ∈ F, G q) → (∀ g w, some (g, w) ∈ r → G g) → ∀ q ∈ r.foldl addP F, G q
  | [], F, hF, _ => hF
  | e :: r, F, hF, hr => foldP_all r (addP F e) (addP_all hF fun g w z => hr g w (by rw [← z]; exact List.mem_cons_self)) fun g w h => hr g w (List.mem_cons_of_mem _ h)
theorem addP_nodup {F : List Pl} {e : Option (Pl × List Nat)} (h : F.Nodup) : (addP F e).Nodup := by
  unfold addP
  cases e with
  | none => exact h
  | some p =>
    dsimp only
    split
    · exact h
    · rename_i hn
      exact List.nodup_append.mpr ⟨h, List.nodup_cons.mpr ⟨List.not_mem_nil, List.nodup_nil⟩, fun x hx y hy z => by rw [List.mem_singleton.mp hy] at z; exact hn (by rw [← z]; exact hx)⟩
theorem foldP_nodup : ∀ (r : List (Option (Pl × List Nat))) (F : List Pl), F.Nodup → (r.foldl addP F).Nodup
  | [], _, h => h
  | e :: r, F, h => foldP_nodup r (addP F e) (addP_nodup h)
section
variable {D : Dcd} {n : Nat}
theorem nx_vp (ok : D.ok) {pl : Pl} (h : Vp D n pl) {a : Nat} {g : Pl} {w : List Nat} (e : nx D n pl a = some (g, w)) : Vp D n g ∧ okW w := by
  have s1 := ok.s1
  unfold nx at e
  by_cases hm : pl.2.1 = n
  · rw [if_pos hm] at e
    by_cases ha : a = pl.2.2
    · rw [if_pos ha] at e
      injection e with e
      injection e with e1 e2
      subst e1 e2
      exact ⟨⟨h.s, Nat.zero_le _, by show 0 < D.sg; omega, fun _ => rfl⟩, Low.nil, Nat.zero_le _⟩
    · rw [if_neg ha] at e; cases e
  · rw [if_neg hm] at e
    cases q : D.at pl.1 a with
    | none => rw [q] at e; cases e
    | some p =>
      obtain ⟨s, u⟩ := p
      rw [q] at e
      have e' : some ((s, pl.2.1 + 1, (pl.2.2 + a) % D.sg), u) = some (g, w) := e
      injection e' with e'
      injection e' with e1 e2
      subst e1 e2
      obtain ⟨o1, o2⟩ := (ok.at (s := pl.1) (a := a)) s u q
      have := h.m
      exact ⟨⟨o1, by show pl.2.1 + 1 ≤ n; omega, Nat.mod_lt _ (by omega), fun z => absurd z (Nat.succ_ne_zero _)⟩, o2⟩
theorem rowP_mem {pl : Pl} {g : Pl} {w : List Nat} (h : some (g, w) ∈ rowP D n pl) : ∃ a, a < D.sg ∧ nx D n pl a = some (g, w) := by
  unfold rowP at h
  obtain ⟨a, ha, e⟩ := List.mem_map.mp h
  exact ⟨a, List.mem_range.mp ha, e⟩
theorem mem_rowP {pl : Pl} {a : Nat} (h : a < D.sg) : nx D n pl a ∈ rowP D n pl := List.mem_map.mpr ⟨a, List.mem_range.mpr h, rfl⟩
theorem Sq_succ {i : Nat} {pl : Pl} (h : (Sq D n i)[i]? = some pl) : Sq D n (i + 1) = (rowP D n pl).foldl addP (Sq D n i) := by
  rw [Sq_def] at h
  rw [Sq_def, Sq_def]
  show (match (SqR D n i)[i]? with | none => SqR D n i | some pl => (rowP D n pl).foldl addP (SqR D n i)) = _
  rw [h]
theorem Sq_end {i : Nat} (h : (Sq D n i).length ≤ i) : Sq D n (i + 1) = Sq D n i := by
  rw [Sq_def] at h
  rw [Sq_def, Sq_def]
  show (match (SqR D n i)[i]? with | none => SqR D n i | some pl => (rowP D n pl).foldl addP (SqR D n i)) = _
  rw [List.getElem?_eq_none h]
theorem Sq_stop {i : Nat} (h : (Sq D n i).length ≤ i) : ∀ k, Sq D n (i + k) = Sq D n i
  | 0 => rfl
  | k + 1 => by
    have ih := Sq_stop h k
    have : (Sq D n (i + k)).length ≤ i + k := by rw [ih]; omega
    rw [show i + (k + 1) = (i + k) + 1 from rfl, Sq_end this, ih]
theorem Sq_pre1 (i : Nat) : Sq D n i <+: Sq D n (i + 1) := by
  cases h : (Sq D n i)[i]? with
  | none =>
    rw [Sq_end (List.getElem?_eq_none_iff.mp h)]
    exact List.prefix_refl _
  | some pl =>
    rw [Sq_succ h]
    exact foldP_pre _ _
theorem Sq_pre (i : Nat) : ∀ k, Sq D n i <+: Sq D n (i + k)
  | 0 => List.prefix_refl _
  | k + 1 => (Sq_pre i k).trans (Sq_pre1 (i + k))
theorem Sq_vp (ok : D.ok) : ∀ i, ∀ q ∈ Sq D n i, Vp D n q
  | 0 => fun q hq => by
    rw [Sq_zero0] at hq
    rw [List.mem_singleton.mp hq]
    have := ok.s1
    have := ok.n1
    exact ⟨by show 0 < _; omega, Nat.zero_le _, by show 0 < _; omega, fun _ => rfl⟩
  | i + 1 => by
    cases h : (Sq D n i)[i]? with
    | none =>
      rw [Sq_end (List.getElem?_eq_none_iff.mp h)]
      exact Sq_vp ok i
    | some pl =>
      rw [Sq_succ h]
      have hp := Sq_vp ok i pl (List.mem_of_getElem? h)
      exact foldP_all _ _ (Sq_vp ok i) fun g w hg => by
        obtain ⟨a, _, e⟩ := rowP_mem hg
        exact (nx_vp ok hp e).1
theorem Sq_nodup : ∀ i, (Sq D n i).Nodup
  | 0 => by
    rw [Sq_zero0]
    exact List.nodup_cons.mpr ⟨List.not_mem_nil, List.nodup_nil⟩
  | i + 1 => by
    cases h : (Sq D n i)[i]? with
    | none =>
      rw [Sq_end (List.getElem?_eq_none_iff.mp h)]
      exact Sq_nodup i
    | some pl =>
      rw [Sq_succ h]
      exact foldP_nodup _ _ (Sq_nodup i)
theorem Sq_zero : Sq D n 0 = [(0, 0, 0)] := Sq_zero0 D n
def codeP (D : Dcd) (n : Nat) (q : Pl) : Nat := (q.1 * (n + 1) + q.2.1) * D.sg + q.2.2
theorem mul_add_inj {a b c d k : Nat} (h1 : b < k) (h2 : d < k) (h : a * k + b = c * k + d) : a = c ∧ b = d := by
  have k0 : 0 < k := by omega
  have e1 : (a * k + b) / k = a := by rw [Nat.mul_comm, Nat.mul_add_div k0, Nat.div_eq_of_lt h1, Nat.add_zero]
  have e2 : (c * k + d) / k = c := by rw [Nat.mul_comm, Nat.mul_add_div k0, Nat.div_eq_of_lt h2, Nat.add_zero]
  have e3 : a = c := by rw [← e1, h, e2]
  subst e3
  exact ⟨rfl, by omega⟩
theorem codeP_inj {q r : Pl} (h1 : Vp D n q) (h2 : Vp D n r) (e : codeP D n q = codeP D n r) : q = r := by
  obtain ⟨a, b, c⟩ := q
  obtain ⟨a', b', c'⟩ := r
  have m1 := h1.m
  have m2 := h2.m
  obtain ⟨e1, e2⟩ := mul_add_inj h1.t h2.t e
  obtain ⟨e3, e4⟩ := mul_add_inj (k := n + 1) (show b < n + 1 by have : b ≤ n := m1; omega) (show b' < n + 1 by have : b' ≤ n := m2; omega) e1
  have e2' : c = c' := e2
  have e3' : a = a' := e3
  have e4' : b = b' := e4
  rw [e3', e4', e2']
theorem codeP_lt {q : Pl} (h : Vp D n q) : codeP D n q < D.st.length * (n + 1) * D.sg := by
  have s := h.s
  have m := h.m
  have t := h.t
  have h1 : q.1 * (n + 1) + q.2.1 + 1 ≤ D.st.length * (n + 1) := by
    have : (q.1 + 1) * (n + 1) ≤ D.st.length * (n + 1) := Nat.mul_le_mul_right _ s
    rw [Nat.add_mul] at this
    omega
  have h2 : (q.1 * (n + 1) + q.2.1 + 1) * D.sg ≤ D.st.length * (n + 1) * D.sg := Nat.mul_le_mul_right _ h1
  rw [Nat.add_mul] at h2
  unfold codeP
  omega
theorem pairwise_map_of {α β : Type} {f : α → β} {G : α → Prop} (hf : ∀ a b, G a → G b → f a = f b → a = b) : ∀ {l : List α}, (∀ a ∈ l, G a) → l.Nodup → (l.map f).Nodup
  | [], _, _ => List.nodup_nil
  | a :: l, hg, hn => by
    obtain ⟨h1, h2⟩ := List.nodup_cons.mp hn
    rw [List.map_cons]
    refine List.nodup_cons.mpr ⟨fun hm => ?_, pairwise_map_of hf (fun b hb => hg b (List.mem_cons_of_mem _ hb)) h2⟩
    obtain ⟨b, hb, e⟩ := List.mem_map.mp hm
    have := hf b a (hg b (List.mem_cons_of_mem _ hb)) (hg a List.mem_cons_self) e
    exact h1 (by rw [← this]; exact hb)
theorem Sq_len (ok : D.ok) (i : Nat) : (Sq D n i).length ≤ D.st.length * (n + 1) * D.sg := by
  have h := nodup_lt_len (D.st.length * (n + 1) * D.sg) ((Sq D n i).map (codeP D n)) (pairwise_map_of (G := Vp D n) (fun a b ha hb e => codeP_inj ha hb e) (Sq_vp ok i) (Sq_nodup i)) fun x hx => by
    obtain ⟨q, hq, rfl⟩ := List.mem_map.mp hx
    exact codeP_lt (Sq_vp ok i q hq)
  rwa [List.length_map] at h
/-- small ones: five states, four signs a block, three signs -/
structure Sml (D : Dcd) (n : Nat) : Prop where
  ok : D.ok
  st : D.st.length ≤ 5
  sg : D.sg ≤ 3
  n1 : 1 ≤ n
  n4 : n ≤ 4
theorem Sml.len (h : Sml D n) (i : Nat) : (Sq D n i).length ≤ 75 := by
  refine Nat.le_trans (Sq_len h.ok i) ?_
  have h1 : D.st.length * (n + 1) ≤ 5 * 5 := Nat.mul_le_mul h.st (by have := h.n4; omega)
  exact Nat.mul_le_mul h1 h.sg
theorem Sml.fin (h : Sml D n) {i : Nat} (hi : i ≤ 200) (hs : (Sq D n i).length ≤ i) : FinP D n = Sq D n i := by
  have := Sq_stop hs (200 - i)
  rw [show i + (200 - i) = 200 by omega] at this
  unfold FinP
  exact this
theorem Sml.fin75 (h : Sml D n) : FinP D n = Sq D n 75 := h.fin (by omega) (h.len 75)
theorem Sml.lenF (h : Sml D n) : (FinP D n).length ≤ 75 := by unfold FinP; exact h.len 200
theorem Sml.pre (h : Sml D n) {i : Nat} (hi : i ≤ 200) : Sq D n i <+: FinP D n := by
  have := Sq_pre (D := D) (n := n) i (200 - i)
  rw [show i + (200 - i) = 200 by omega] at this
  unfold FinP
  exact this
theorem pre_get {α : Type} {A B : List α} (h : A <+: B) {i : Nat} {x : α} (e : A[i]? = some x) : B[i]? = some x := by
  obtain ⟨C, rfl⟩ := h
  rw [List.getElem?_append_left (List.getElem?_eq_some_iff.mp e).1]; exact e
theorem Sml.at_ (h : Sml D n) {i : Nat} {pl : Pl} (e : (FinP D n)[i]? = some pl) : (Sq D n i)[i]? = some pl := by
  have hi := (List.getElem?_eq_some_iff.mp e).1
  have l := h.lenF
  by_cases hs : (Sq D n i).length ≤ i
  · rw [h.fin (i := i) (by omega) hs] at hi; omega
  · have := pre_get (h.pre (i := i) (by omega)) (List.getElem?_eq_getElem (show i < (Sq D n i).length by omega))
    rw [e] at this
    rw [List.getElem?_eq_getElem (show i < (Sq D n i).length by omega)]
    exact this.symm
theorem Sml.vp (h : Sml D n) {q : Pl} (hq : q ∈ FinP D n) : Vp D n q := by
  unfold FinP at hq
  exact Sq_vp h.ok 200 q hq
theorem Sml.nd (h : Sml D n) : (FinP D n).Nodup := by unfold FinP; exact Sq_nodup 200
/-- where it leads is a place of it -/
theorem Sml.closed (h : Sml D n) {i : Nat} {pl : Pl} (e : (FinP D n)[i]? = some pl) {a : Nat} (ha : a < D.sg) {g : Pl} {w : List Nat} (q : nx D n pl a = some (g, w)) : g ∈ FinP D n := by
  have l := h.lenF
  have hi := (List.getElem?_eq_some_iff.mp e).1
  refine (h.pre (i := i + 1) (by omega)).subset ?_
  rw [Sq_succ (h.at_ e)]
  exact foldP_mem _ _ g w (by rw [← q]; exact mem_rowP ha)
end
/-- the decoder with checks -/
def numE (F : List Pl) (e : Option (Pl × List Nat)) : Ent := e.map fun e => (F.idxOf e.1, e.2)
def ChkD (D : Dcd) (n : Nat) : Dcd := ⟨D.sg, (FinP D n).map fun pl => (rowP D n pl).map (numE (FinP D n)), (FinP D n).map fun pl => if pl.2.1 = 0 then D.en.getD pl.1 none else none⟩
section
variable {D : Dcd} {n : Nat}
theorem ChkD_len : (ChkD D n).st.length = (FinP D n).length := List.length_map _
theorem Sml.first (h : Sml D n) : (FinP D n)[0]? = some (0, 0, 0) := pre_get (h.pre (i := 0) (by omega)) (by rw [Sq_zero]; rfl)
theorem Sml.okC (h : Sml D n) (l : (FinP D n).length ≤ 40) : (ChkD D n).ok := by
  have f0 := (List.getElem?_eq_some_iff.mp h.first).1
  refine ⟨h.ok.s1, h.ok.s5, by rw [ChkD_len]; omega, by rw [ChkD_len]; exact l, fun r hr => ?_, by rw [ChkD_len]; exact List.length_map _, fun e he w ew => ?_⟩
  · obtain ⟨pl, hpl, rfl⟩ := List.mem_map.mp hr
    refine ⟨by rw [List.length_map]; show ((List.range D.sg).map _).length = D.sg; rw [List.length_map, List.length_range], fun e he => ?_⟩
    obtain ⟨x, hx, rfl⟩ := List.mem_map.mp he
    intro g w ew
    rw [ChkD_len]
    cases x with
    | none => cases ew
    | some p =>
      obtain ⟨q, u⟩ := p
      have ew' : some ((FinP D n).idxOf q, u) = some (g, w) := ew
      injection ew' with ew'
      injection ew' with e1 e2
      subst e1 e2
      obtain ⟨a, ha, e⟩ := rowP_mem hx
      obtain ⟨i, hi⟩ := List.getElem?_of_mem hpl
      exact ⟨List.idxOf_lt_length_of_mem (h.closed hi ha e), (nx_vp h.ok (h.vp hpl) e).2⟩
  · obtain ⟨pl, hpl, rfl⟩ := List.mem_map.mp he
    by_cases z : pl.2.1 = 0
    · rw [if_pos z] at ew
      exact h.ok.end_ ew
    · rw [if_neg z] at ew; cases ew
/-- the run of a line -/
def runP (D : Dcd) (n : Nat) : Pl → List Nat → Option (Pl × List Nat)
  | pl, [] => some (pl, [])
  | pl, a :: l => match nx D n pl a with
    | none => none
    | some (g, w) => (runP D n g l).map fun (p : Pl × List Nat) => (p.1, w ++ p.2)
theorem runP_app (l2 : List Nat) : ∀ (l1 : List Nat) (pl : Pl), runP D n pl (l1 ++ l2) = match runP D n pl l1 with
    | none => none
    | some (q, u) => (runP D n q l2).map fun (p : Pl × List Nat) => (p.1, u ++ p.2)
  | [], pl => by
    show runP D n pl l2 = (runP D n pl l2).map fun (p : Pl × List Nat) => (p.1, [] ++ p.2)
    cases runP D n pl l2 with
    | none => rfl
    | some p => rfl
  | a :: l1, pl => by
    show (match nx D n pl a with | none => none | some (g, w) => (runP D n g (l1 ++ l2)).map fun (p : Pl × List Nat) => (p.1, w ++ p.2)) = match (match nx D n pl a with | none => none | some (g, w) => (runP D n g l1).map fun (p : Pl × List Nat) => (p.1, w ++ p.2)) with | none => none | some (q, u) => (runP D n q l2).map fun (p : Pl × List Nat) => (p.1, u ++ p.2)
    cases nx D n pl a with
    | none => rfl
    | some p =>
      obtain ⟨g, w⟩ := p
      show (runP D n g (l1 ++ l2)).map _ = match (runP D n g l1).map (fun (p : Pl × List Nat) => (p.1, w ++ p.2)) with | none => none | some (q, u) => (runP D n q l2).map fun (p : Pl × List Nat) => (p.1, u ++ p.2)
      rw [runP_app l2 l1 g]
      cases runP D n g l1 with
      | none => rfl
      | some q =>
        obtain ⟨t, u⟩ := q
        show Option.map _ (Option.map _ (runP D n t l2)) = Option.map _ (runP D n t l2)
        rw [Option.map_map]
        cases runP D n t l2 with
        | none => rfl
        | some r => obtain ⟨x, y⟩ := r; show some (x, w ++ (u ++ y)) = some (x, w ++ u ++ y); rw [List.append_assoc]
theorem runP_snoc {l : List Nat} {a : Nat} {pl q : Pl} {u : List Nat} (h : runP D n pl l = some (q, u)) : runP D n pl (l ++ [a]) = (nx D n q a).map fun (p : Pl × List Nat) => (p.1, u ++ p.2) := by
  rw [runP_app, h]
  show (match nx D n q a with | none => none | some (g, w) => (some (g, ([] : List Nat))).map fun (p : Pl × List Nat) => (p.1, w ++ p.2)).map _ = _
  cases nx D n q a with
  | none => rfl
  | some p => obtain ⟨g, w⟩ := p; show some (g, u ++ (w ++ [])) = some (g, u ++ w); rw [List.append_nil]
theorem runP_pre {l : List Nat} {i : Nat} {pl : Pl} (h : runP D n pl (l.take i) = none) : runP D n pl l = none := by
  have := runP_app (D := D) (n := n) (l.drop i) (l.take i) pl
  rw [List.take_append_drop, h] at this
  exact this
/-- what it writes -/
def wrP (D : Dcd) (n : Nat) (l : List Nat) : Option (List Nat) := match runP D n (0, 0, 0) l with
  | none => none
  | some (q, u) => if q.2.1 = 0 then (D.en.getD q.1 none).map fun w => u ++ w else none
theorem Sml.at_out (h : Sml D n) {i : Nat} {pl : Pl} (e : (FinP D n)[i]? = some pl) {a : Nat} (ha : a < D.sg) : (ChkD D n).at i a = numE (FinP D n) (nx D n pl a) := by
  unfold Dcd.at
  have e1 : (ChkD D n).st.getD i [] = (rowP D n pl).map (numE (FinP D n)) := by
    rw [List.getD_eq_getElem?_getD]
    show (((FinP D n).map fun pl => (rowP D n pl).map (numE (FinP D n)))[i]?).getD [] = _
    rw [List.getElem?_map, e]; rfl
  rw [e1, List.getD_eq_getElem?_getD, List.getElem?_map]
  unfold rowP
  rw [List.getElem?_map, List.getElem?_range ha]; rfl
theorem Sml.go_out (h : Sml D n) : ∀ (l : List Nat), (∀ a ∈ l, a < D.sg) → ∀ (i : Nat) (pl : Pl), (FinP D n)[i]? = some pl →
    (ChkD D n).go i l = (runP D n pl l).map fun (p : Pl × List Nat) => ((FinP D n).idxOf p.1, p.2)
  | [], _, i, pl, e => by
    show some (i, ([] : List Nat)) = some ((FinP D n).idxOf pl, [])
    have : (FinP D n).idxOf pl = i := by
      obtain ⟨hi, e'⟩ := List.getElem?_eq_some_iff.mp e
      rw [← e']
      exact h.nd.idxOf_getElem i hi
    rw [this]
  | a :: l, hl, i, pl, e => by
    have ha := hl a List.mem_cons_self
    show (match (ChkD D n).at i a with | none => none | some (g, w) => ((ChkD D n).go g l).map fun (p : Nat × List Nat) => (p.1, w ++ p.2)) = (match nx D n pl a with | none => none | some (g, w) => (runP D n g l).map fun (p : Pl × List Nat) => (p.1, w ++ p.2)).map _
    rw [h.at_out e ha]
    cases q : nx D n pl a with
    | none => rfl
    | some p =>
      obtain ⟨g, w⟩ := p
      have hg := h.closed e ha q
      have ei : (FinP D n)[(FinP D n).idxOf g]? = some g := by
        have hlt := List.idxOf_lt_length_of_mem hg
        rw [List.getElem?_eq_getElem hlt, List.getElem_idxOf hlt]
      show ((ChkD D n).go ((FinP D n).idxOf g) l).map _ = ((runP D n g l).map _).map _
      rw [h.go_out l (fun b hb => hl b (List.mem_cons_of_mem _ hb)) _ g ei, Option.map_map, Option.map_map]
      rfl
theorem runP_vp (ok : D.ok) : ∀ (l : List Nat) (pl q : Pl) (u : List Nat), Vp D n pl → runP D n pl l = some (q, u) → Vp D n q
  | [], pl, q, u, h, e => by
    have e' : some (pl, ([] : List Nat)) = some (q, u) := e
    injection e' with e'
    injection e' with e1 e2
    rw [← e1]; exact h
  | a :: l, pl, q, u, h, e => by
    have e' : (match nx D n pl a with | none => none | some (g, w) => (runP D n g l).map fun (p : Pl × List Nat) => (p.1, w ++ p.2)) = some (q, u) := e
    cases z : nx D n pl a with
    | none => rw [z] at e'; cases e'
    | some p =>
      obtain ⟨g, w⟩ := p
      rw [z] at e'
      have e2 : (runP D n g l).map (fun (p : Pl × List Nat) => (p.1, w ++ p.2)) = some (q, u) := e'
      cases y : runP D n g l with
      | none => rw [y] at e2; cases e2
      | some r =>
        obtain ⟨r1, r2⟩ := r
        rw [y] at e2
        have e3 : some (r1, w ++ r2) = some (q, u) := e2
        injection e3 with e3
        injection e3 with e4 e5
        rw [← e4]
        exact runP_vp ok l g r1 r2 (nx_vp ok h z).1 y
theorem vp0 (ok : D.ok) : Vp D n (0, 0, 0) := ⟨by have := ok.n1; show 0 < _; omega, Nat.zero_le _, by have := ok.s1; show 0 < _; omega, fun _ => rfl⟩
theorem runP_in (h : Sml D n) : ∀ (l : List Nat), (∀ a ∈ l, a < D.sg) → ∀ (pl q : Pl) (u : List Nat), pl ∈ FinP D n → runP D n pl l = some (q, u) → q ∈ FinP D n
  | [], _, pl, q, u, hp, e => by
    have e' : some (pl, ([] : List Nat)) = some (q, u) := e
    injection e' with e'
    injection e' with e1 e2
    rw [← e1]; exact hp
  | a :: l, hl, pl, q, u, hp, e => by
    have e' : (match nx D n pl a with | none => none | some (g, w) => (runP D n g l).map fun (p : Pl × List Nat) => (p.1, w ++ p.2)) = some (q, u) := e
    cases z : nx D n pl a with
    | none => rw [z] at e'; cases e'
    | some p =>
      obtain ⟨g, w⟩ := p
      rw [z] at e'
      have e2 : (runP D n g l).map (fun (p : Pl × List Nat) => (p.1, w ++ p.2)) = some (q, u) := e'
      cases y : runP D n g l with
      | none => rw [y] at e2; cases e2
      | some r =>
        obtain ⟨r1, r2⟩ := r
        rw [y] at e2
        have e3 : some (r1, w ++ r2) = some (q, u) := e2
        injection e3 with e3
        injection e3 with e4 e5
        rw [← e4]
        obtain ⟨i, hi⟩ := List.getElem?_of_mem hp
        exact runP_in h l (fun b hb => hl b (List.mem_cons_of_mem _ hb)) g r1 r2 (h.closed hi (hl a List.mem_cons_self) z) y
theorem Sml.wr_out (h : Sml D n) {l : List Nat} (hl : ∀ a ∈ l, a < D.sg) : (ChkD D n).wr l = wrP D n l := by
  unfold Dcd.wr wrP
  rw [h.go_out l hl 0 (0, 0, 0) h.first]
  cases e : runP D n (0, 0, 0) l with
  | none => rfl
  | some p =>
    obtain ⟨q, u⟩ := p
    have hq := runP_in h l hl (0, 0, 0) q u (List.mem_of_getElem? h.first) e
    show ((ChkD D n).en.getD ((FinP D n).idxOf q) none).map _ = if q.2.1 = 0 then _ else none
    have hlt := List.idxOf_lt_length_of_mem hq
    have ee : (ChkD D n).en.getD ((FinP D n).idxOf q) none = if q.2.1 = 0 then D.en.getD q.1 none else none := by
      rw [List.getD_eq_getElem?_getD]
      show (((FinP D n).map fun pl => if pl.2.1 = 0 then D.en.getD pl.1 none else none)[(FinP D n).idxOf q]?).getD none = _
      rw [List.getElem?_map, List.getElem?_eq_getElem hlt, List.getElem_idxOf hlt]; rfl
    rw [ee]
    by_cases z : q.2.1 = 0
    · rw [if_pos z, if_pos z]
    · rw [if_neg z, if_neg z]; rfl
/-- how far in its block -/
theorem runP_far {l : List Nat} : ∀ (pl q : Pl) (u : List Nat), pl.2.1 ≤ n → runP D n pl l = some (q, u) → q.2.1 ≤ n ∧ q.2.1 = (pl.2.1 + l.length) % (n + 1) := by
  induction l with
  | nil =>
    intro pl q u hm e
    have e' : some (pl, ([] : List Nat)) = some (q, u) := e
    injection e' with e'
    injection e' with e1 e2
    subst e1
    exact ⟨hm, by rw [List.length_nil, Nat.add_zero, Nat.mod_eq_of_lt (by omega)]⟩
  | cons a l ih =>
    intro pl q u hm e
    have e' : (match nx D n pl a with | none => none | some (g, w) => (runP D n g l).map fun (p : Pl × List Nat) => (p.1, w ++ p.2)) = some (q, u) := e
    cases z : nx D n pl a with
    | none => rw [z] at e'; cases e'
    | some p =>
      obtain ⟨g, w⟩ := p
      rw [z] at e'
      have e2 : (runP D n g l).map (fun (p : Pl × List Nat) => (p.1, w ++ p.2)) = some (q, u) := e'
      cases y : runP D n g l with
      | none => rw [y] at e2; cases e2
      | some r =>
        obtain ⟨r1, r2⟩ := r
        rw [y] at e2
        have e3 : some (r1, w ++ r2) = some (q, u) := e2
        injection e3 with e3
        injection e3 with e4 e5
        rw [← e4]
        have hg : g.2.1 = if pl.2.1 = n then 0 else pl.2.1 + 1 := by
          unfold nx at z
          by_cases hn : pl.2.1 = n
          · rw [if_pos hn] at z ⊢
            split at z
            · injection z with z
              injection z with z1 z2
              rw [← z1]
            · cases z
          · rw [if_neg hn] at z ⊢
            cases x : D.at pl.1 a with
            | none => rw [x] at z; cases z
            | some b =>
              rw [x] at z
              have z' : some ((b.1, pl.2.1 + 1, (pl.2.2 + a) % D.sg), b.2) = some (g, w) := z
              injection z' with z'
              injection z' with z1 z2
              rw [← z1]
        have hgn : g.2.1 ≤ n := by rw [hg]; split <;> omega
        obtain ⟨i1, i2⟩ := ih g r1 r2 hgn y
        refine ⟨i1, ?_⟩
        rw [i2, hg, List.length_cons]
        by_cases hn : pl.2.1 = n
        · rw [if_pos hn, hn, Nat.zero_add, show n + (l.length + 1) = l.length + (n + 1) by omega, Nat.add_mod_right]
        · rw [if_neg hn, show pl.2.1 + 1 + l.length = pl.2.1 + (l.length + 1) by omega]
/-- two runs whose sums differ do not both end a block -/
theorem runP_diff : ∀ (l : List Nat) (s s' m t t' : Nat) (q q' : Pl) (u u' : List Nat), t < D.sg → t' < D.sg → t ≠ t' → (m = 0 → t = t') → m ≤ n → runP D n (s, m, t) l = some (q, u) → runP D n (s', m, t') l = some (q', u') → q.2.1 = 0 → False
  | [], s, s', m, t, t', q, q', u, u', _, _, hne, h0, _, e, _, hq => by
    have e' : some ((s, m, t), ([] : List Nat)) = some (q, u) := e
    injection e' with e'
    injection e' with e1 e2
    rw [← e1] at hq
    exact hne (h0 hq)
  | a :: l, s, s', m, t, t', q, q', u, u', ht, ht', hne, h0, hm, e, e', hq => by
    have e1 : (match nx D n (s, m, t) a with | none => none | some (g, w) => (runP D n g l).map fun (p : Pl × List Nat) => (p.1, w ++ p.2)) = some (q, u) := e
    have e2 : (match nx D n (s', m, t') a with | none => none | some (g, w) => (runP D n g l).map fun (p : Pl × List Nat) => (p.1, w ++ p.2)) = some (q', u') := e'
    by_cases hn : m = n
    · have n1 : nx D n (s, m, t) a = if a = t then some ((s, 0, 0), []) else none := by unfold nx; rw [if_pos hn]
      have n2 : nx D n (s', m, t') a = if a = t' then some ((s', 0, 0), []) else none := by unfold nx; rw [if_pos hn]
      rw [n1] at e1
      rw [n2] at e2
      by_cases h1 : a = t
      · rw [if_neg (fun z => hne (h1.symm.trans z))] at e2; cases e2
      · rw [if_neg h1] at e1; cases e1
    · have n1 : nx D n (s, m, t) a = (D.at s a).map fun e => ((e.1, m + 1, (t + a) % D.sg), e.2) := by unfold nx; rw [if_neg hn]
      have n2 : nx D n (s', m, t') a = (D.at s' a).map fun e => ((e.1, m + 1, (t' + a) % D.sg), e.2) := by unfold nx; rw [if_neg hn]
      rw [n1] at e1
      rw [n2] at e2
      cases x : D.at s a with
      | none => rw [x] at e1; cases e1
      | some b =>
        cases x' : D.at s' a with
        | none => rw [x'] at e2; cases e2
        | some b' =>
          rw [x] at e1
          rw [x'] at e2
          have f1 : (runP D n (b.1, m + 1, (t + a) % D.sg) l).map (fun (p : Pl × List Nat) => (p.1, b.2 ++ p.2)) = some (q, u) := e1
          have f2 : (runP D n (b'.1, m + 1, (t' + a) % D.sg) l).map (fun (p : Pl × List Nat) => (p.1, b'.2 ++ p.2)) = some (q', u') := e2
          cases y : runP D n (b.1, m + 1, (t + a) % D.sg) l with
          | none => rw [y] at f1; cases f1
          | some r =>
            cases y' : runP D n (b'.1, m + 1, (t' + a) % D.sg) l with
            | none => rw [y'] at f2; cases f2
            | some r' =>
              obtain ⟨r1, r2⟩ := r
              obtain ⟨r1', r2'⟩ := r'
              rw [y] at f1
              have f3 : some (r1, b.2 ++ r2) = some (q, u) := f1
              injection f3 with f3
              injection f3 with f4 f5
              have sg0 : 0 < D.sg := by omega
              refine runP_diff l b.1 b'.1 (m + 1) _ _ r1 r1' r2 r2' (Nat.mod_lt _ sg0) (Nat.mod_lt _ sg0) (fun z => hne ?_) (fun z => absurd z (Nat.succ_ne_zero _)) (by omega) y y' (by rw [f4]; exact hq)
              have h2 : (t + a) % D.sg = (t' + a) % D.sg := z
              have h3 : t % D.sg = t' % D.sg := by
                have : (t + a + (D.sg - a % D.sg)) % D.sg = (t' + a + (D.sg - a % D.sg)) % D.sg := by rw [Nat.add_mod, h2, ← Nat.add_mod]
                have ha : a % D.sg < D.sg := Nat.mod_lt _ sg0
                have ea : a + (D.sg - a % D.sg) = D.sg * (a / D.sg + 1) := by
                  have := Nat.div_add_mod a D.sg
                  rw [Nat.mul_add, Nat.mul_one]; omega
                rw [Nat.add_assoc, ea, Nat.add_assoc, ea, Nat.add_mul_mod_self_left, Nat.add_mul_mod_self_left] at this
                exact this
              rwa [Nat.mod_eq_of_lt ht, Nat.mod_eq_of_lt ht'] at h3
/-- one changed sign is seen -/
theorem wrP_change (ok : D.ok) {P Q : List Nat} {a b : Nat} (hab : a ≠ b) (ha : a < D.sg) (hb : b < D.sg) (h : wrP D n (P ++ a :: Q) ≠ none) : wrP D n (P ++ b :: Q) = none := by
  unfold wrP at h ⊢
  rw [runP_app] at h ⊢
  cases e : runP D n (0, 0, 0) P with
  | none => rfl
  | some p =>
    obtain ⟨⟨s, m, t⟩, u⟩ := p
    have vp := runP_vp ok P (0, 0, 0) (s, m, t) u (vp0 ok) e
    rw [e] at h
    dsimp only at h ⊢
    have h1 : ∃ q v, runP D n (s, m, t) (a :: Q) = some (q, v) ∧ q.2.1 = 0 := by
      cases z : runP D n (s, m, t) (a :: Q) with
      | none => rw [z] at h; exact absurd rfl h
      | some r =>
        obtain ⟨q, v⟩ := r
        rw [z] at h
        refine ⟨q, v, rfl, ?_⟩
        by_cases hq : q.2.1 = 0
        · exact hq
        · have h' : (if q.2.1 = 0 then (D.en.getD q.1 none).map (fun w => u ++ v ++ w) else none) ≠ none := h
          rw [if_neg hq] at h'
          exact absurd rfl h'
    obtain ⟨q, v, hr, hq⟩ := h1
    cases z : runP D n (s, m, t) (b :: Q) with
    | none => rfl
    | some r =>
      obtain ⟨q', v'⟩ := r
      show (if q'.2.1 = 0 then (D.en.getD q'.1 none).map (fun w => u ++ v' ++ w) else none) = none
      exfalso
      have e1 : (match nx D n (s, m, t) a with | none => none | some (g, w) => (runP D n g Q).map fun (p : Pl × List Nat) => (p.1, w ++ p.2)) = some (q, v) := hr
      have e2 : (match nx D n (s, m, t) b with | none => none | some (g, w) => (runP D n g Q).map fun (p : Pl × List Nat) => (p.1, w ++ p.2)) = some (q', v') := z
      by_cases hn : m = n
      · have n1 : nx D n (s, m, t) a = if a = t then some ((s, 0, 0), []) else none := by unfold nx; rw [if_pos hn]
        have n2 : nx D n (s, m, t) b = if b = t then some ((s, 0, 0), []) else none := by unfold nx; rw [if_pos hn]
        rw [n1] at e1
        rw [n2] at e2
        by_cases h1 : a = t
        · rw [if_neg (fun z => hab (h1.trans z.symm))] at e2; cases e2
        · rw [if_neg h1] at e1; cases e1
      · have n1 : nx D n (s, m, t) a = (D.at s a).map fun e => ((e.1, m + 1, (t + a) % D.sg), e.2) := by unfold nx; rw [if_neg hn]
        have n2 : nx D n (s, m, t) b = (D.at s b).map fun e => ((e.1, m + 1, (t + b) % D.sg), e.2) := by unfold nx; rw [if_neg hn]
        rw [n1] at e1
        rw [n2] at e2
        cases x : D.at s a with
        | none => rw [x] at e1; cases e1
        | some c =>
          cases x' : D.at s b with
          | none => rw [x'] at e2; cases e2
          | some c' =>
            rw [x] at e1
            rw [x'] at e2
            have f1 : (runP D n (c.1, m + 1, (t + a) % D.sg) Q).map (fun (p : Pl × List Nat) => (p.1, c.2 ++ p.2)) = some (q, v) := e1
            have f2 : (runP D n (c'.1, m + 1, (t + b) % D.sg) Q).map (fun (p : Pl × List Nat) => (p.1, c'.2 ++ p.2)) = some (q', v') := e2
            cases y : runP D n (c.1, m + 1, (t + a) % D.sg) Q with
            | none => rw [y] at f1; cases f1
            | some r =>
              cases y' : runP D n (c'.1, m + 1, (t + b) % D.sg) Q with
              | none => rw [y'] at f2; cases f2
              | some r' =>
                obtain ⟨r1, r2⟩ := r
                obtain ⟨r1', r2'⟩ := r'
                rw [y] at f1
                have f3 : some (r1, c.2 ++ r2) = some (q, v) := f1
                injection f3 with f3
                injection f3 with f4 f5
                have sg0 : 0 < D.sg := by omega
                have ht := vp.t
                have hmn := vp.m
                have ht : t < D.sg := ht
                have hmn : m ≤ n := hmn
                refine runP_diff Q c.1 c'.1 (m + 1) _ _ r1 r1' r2 r2' (Nat.mod_lt _ sg0) (Nat.mod_lt _ sg0) (fun z => hab ?_) (fun z => absurd z (Nat.succ_ne_zero _)) (by omega) y y' (by rw [f4]; exact hq)
                have h2 : (t + a) % D.sg = (t + b) % D.sg := z
                by_cases h3 : t + a < D.sg
                · rw [Nat.mod_eq_of_lt h3] at h2
                  by_cases h4 : t + b < D.sg
                  · rw [Nat.mod_eq_of_lt h4] at h2; omega
                  · rw [Nat.mod_eq_sub_mod (by omega), Nat.mod_eq_of_lt (by omega)] at h2; omega
                · rw [Nat.mod_eq_sub_mod (by omega), Nat.mod_eq_of_lt (by omega)] at h2
                  by_cases h4 : t + b < D.sg
                  · rw [Nat.mod_eq_of_lt h4] at h2; omega
                  · rw [Nat.mod_eq_sub_mod (by omega), Nat.mod_eq_of_lt (by omega)] at h2; omega
end
end My
namespace My
open PySem PySem.Spec PyProof.Rows L2
/-- over a list of known values -/
theorem lc_list_dataL {K : PySem.W.Frag} {m : Bool} {p a : Addr} {xs : List V} {g : TG} {tt : TT} {te : TE} {vs : List Nat} {σ : L2.St} {H1 : Hp} {D : Addr} {Qd : Hp → Prop} (f : Nat → PyData) (hL : SqL K H1 a xs) (hD : H1 D = none) (hn : xs.length ≤ 100000)
    (step : ∀ j x H' (R : VK) (N : Hp → Prop), xs[j]? = some x → Same H1 H' → (∃ l, H' D = some (HO.lst l)) → (∀ y H4, Same H' H4 → Dg K (wo (wo H4 p) D) m y (f j) → R y H4) →
      g x (wipe σ vs) H' fun σ2 H2 => wipe σ2 vs = wipe σ vs ∧ tt σ2 H2 fun b H3 => if b = true then te σ2 H3 R else N H3)
    (done : ∀ H' ys, Same H1 H' → H' D = some (.lst ys) → DgAll K (wo (wo H' p) D) m ys ((List.range xs.length).map f) → Qd H') :
    ∃ W : Nat → Nat → Hp → Prop, (∃ m, W 0 m (L2.upd H1 D (.lst []))) ∧ ∀ i m H, W i m H →
      ((Itl K a).stop i H ∧ Qd H) ∨ ((Itl K a).go i H ∧ ∃ Nx : Hp → Prop, (∀ H', Nx H' → ∃ m', m' < m ∧ W (i + 1) m' H') ∧ ∀ x H', (Itl K a).yld i H x H' → g x (wipe σ vs) H' fun σ2 H2 => wipe σ2 vs = wipe σ vs ∧ tt σ2 H2 fun b H3 =>
        if b = true then te σ2 H3 fun y H4 => ∃ acc, H4 D = some (.lst acc) ∧ acc.length < sizeLine ∧ Nx (L2.upd H4 D (.lst (acc ++ [y]))) else Nx H3) := by
  refine lc_list (K := K) (a := a) (xs := xs) (fun i H' => AcM K m p H1 D ((List.range i).map f) H') (AcM.start hD) (fun i H' _ h => hL.ext h.1) ?_ ?_
  · rintro i x H' hx hA
    have hi := (List.getElem?_eq_some_iff.mp hx).1
    refine step i x H' _ _ hx hA.1 (by obtain ⟨_, acc, e, _⟩ := hA; exact ⟨acc, e⟩) fun y H4 s4 dy => ?_
    have := hA.snoc hD (by rw [List.length_map, List.length_range]; omega) s4 dy
    rw [List.range_succ, List.map_append]
    exact this
  · rintro H' ⟨s', acc, e, ha⟩
    exact done H' acc s' e ha
end My

set_option Elab.async false
set_option linter.all false
set_option maxRecDepth 100000
set_option maxHeartbeats 8000000
namespace My
open PySem PySem.Spec PyProof.Rows L2
theorem str_nil : Str.ofString "" = S [] := by decide +kernel
theorem un65 {k : Nat} {A : Around} (hr : Room k A) : A.units + 65 < cLine := by have := hr.un; omega
/-- the error keeps a count -/
def BadC (C : Addr) (H : Hp) (x : V) (E : XK) : Prop := ∀ d H', Same H H' → H d = none → H' d = some (.xd (cnt x)) → E (.ref C) (some d) H'
def keyP (g : Pl) : List Key := [.inl (g.1 : Int), .inl (g.2.1 : Int), .inl (g.2.2 : Int)]
abbrev plV (g : Pl) : List V := [.int (g.1 : Nat), .int (g.2.1 : Nat), .int (g.2.2 : Nat)]
theorem keyP_kV (g : Pl) : (keyP g).map kV = plV g := rfl
theorem keyP_inj {g h : Pl} (e : keyP g = keyP h) : g = h := by
  obtain ⟨a, b, c⟩ := g
  obtain ⟨a', b', c'⟩ := h
  unfold keyP at e
  injection e with e1 e2
  injection e2 with e2 e3
  injection e3 with e3 _
  injection e1 with e1
  injection e2 with e2
  injection e3 with e3
  have h1 : a = a' := by have : (a : Int) = a' := e1; omega
  have h2 : b = b' := by have : (b : Int) = b' := e2; omega
  have h3 : c = c' := by have : (c : Int) = c' := e3; omega
  rw [h1, h2, h3]
/-- an entry that was worked out -/
def EntAt (H : Hp) (v : V) : Option (Pl × List Nat) → Prop
  | none => v = .non
  | some (g, w) => ∃ e b, v = .ref e ∧ H e = some (.tup [.ref b, .str (S w)]) ∧ H b = some (.tup (plV g))
theorem EntAt.ext {H H' : Hp} {v : V} {x : Option (Pl × List Nat)} (h : EntAt H v x) (k : ∀ b ys, H b = some (.tup ys) → H' b = some (.tup ys)) : EntAt H' v x := by
  cases x with
  | none => exact h
  | some p =>
    obtain ⟨g, w⟩ := p
    obtain ⟨e, b, h1, h2, h3⟩ := h
    exact ⟨e, b, h1, k _ _ h2, k _ _ h3⟩
def EntsAt (H : Hp) (vs : List V) (xs : List (Option (Pl × List Nat))) : Prop := vs.length = xs.length ∧ ∀ (j : Nat) v x, vs[j]? = some v → xs[j]? = some x → EntAt H v x
theorem EntsAt.ext {H H' : Hp} {vs : List V} {xs : List (Option (Pl × List Nat))} (h : EntsAt H vs xs) (k : ∀ b ys, H b = some (.tup ys) → H' b = some (.tup ys)) : EntsAt H' vs xs := ⟨h.1, fun j v x hv hx => (h.2 j v x hv hx).ext k⟩
theorem EntsAt.snoc {H : Hp} {vs : List V} {xs : List (Option (Pl × List Nat))} {v : V} {x : Option (Pl × List Nat)} (h : EntsAt H vs xs) (hv : EntAt H v x) : EntsAt H (vs ++ [v]) (xs ++ [x]) := by
  obtain ⟨l, a⟩ := h
  refine ⟨by rw [List.length_append, List.length_append, l]; rfl, fun j w y hw hy => ?_⟩
  by_cases hj : j < vs.length
  · rw [List.getElem?_append_left hj] at hw
    rw [List.getElem?_append_left (by omega)] at hy
    exact a j w y hw hy
  · have ej : j = vs.length := by
      have := (List.getElem?_eq_some_iff.mp hw).1
      rw [List.length_append] at this
      simp at this
      omega
    rw [ej, List.getElem?_concat_length] at hw
    rw [ej, l, List.getElem?_concat_length] at hy
    injection hw with hw
    injection hy with hy
    rw [← hw, ← hy]; exact hv
section
variable {P : Program} {w : World} {K : PySem.W.Frag} {mg : Str → Option Value} {base : Heap}
def spCell (K : PySem.W.Frag) : Sp := fun vs H Q _ => ∃ (a : Addr) (ns : List Int) (k : Nat), vs = [.ref a, .int k] ∧ SqL K H a (ns.map V.int) ∧ ∀ c H', Same H H' → Q (.int c) H'
theorem ok_law_cell (T : Txt K mg) : FnOk P w K mg base CX0 1 T.f_law_cell T.fd_law_cell ["script", "k"] (spCell K) := by
  refine T.F_law_cell.ok sc_law_cell (fun vs H Q E h => ?_) (fun cdv A outer s H vs Q E hr h => ?_)
  · obtain ⟨a, ns, k, rfl, _⟩ := h; rfl
  · obtain ⟨a, ns, k, rfl, hS, q⟩ := h
    refine ⟨_, (pss_one (ps_ret (pe_ifExp (pt_cmpR op_lt (pv 1) (pe_callB call_len_seq (by rfl) T.z_len (by decide +kernel) (pa_cons (pv 0) pa_nil)) (nomark _)) (pe_ix ix_list (pv 0) (pv 1) (fun _ _ => rfl)) (pe_op op_add (pe_op op_mul pe_int (pv 1)) (pe_op op_mod (pe_callB (cr_sum rfl) (by rfl) T.z_sum (by decide +kernel) (pa_cons (pe_slice sl_list (pv 0) po_none (po_some pe_int)) pa_nil)) pe_int))))), ?_⟩
    refine ⟨_, rfl, _, rfl, a, _, rfl, .inl hS, _, _, rfl, rfl, _, rfl, ite2 (fun c => ?_) (fun c => ?_)⟩
    · have c' := of_decide_eq_true c
      have hk : k < ns.length := by rw [List.length_map] at c'; omega
      exact ⟨_, rfl, _, rfl, a, _, _, _, rfl, rfl, hS, atI_nat (j := k) (v := V.int ns[k]) (by rw [List.getElem?_map, List.getElem?_eq_getElem hk]; rfl), q _ H (Same.refl H)⟩
    · refine ⟨_, rfl, _, _, rfl, rfl, .inl (by decide), _, rfl, 1, rfl, a, _, rfl, hS, fun p hp => ?_⟩
      rw [show cutV (ns.map V.int) none (some 1) = (ns.take 1).map V.int by rw [show (some (1 : Int)) = some ((1 : Nat) : Int) from rfl, cutV_to, List.map_take]]
      exact ⟨p, ns.take 1, rfl, SqL.of upd_same, _, _, rfl, rfl, (by show (0 : Int) < 1000081; decide), _, _, rfl, rfl, q _ _ (Same.new (Same.refl H) hp)⟩
def spBox : Sp := fun vs H Q _ => ∃ c : Int, vs = [.int c] ∧ ∀ p o, H p = none → BoxO 0 o → Q (.ref p) (upd H p o)
theorem ok_law_box (T : Txt K mg) : FnOk P w K mg base CX0 1 T.f_law_box T.fd_law_box ["great"] spBox := by
  refine T.F_law_box.ok sc_law_box (fun vs H Q E h => ?_) (fun cdv A outer s H vs Q E hr h => ?_)
  · obtain ⟨c, rfl, _⟩ := h; rfl
  · obtain ⟨c, rfl, q⟩ := h
    refine ⟨_, (pss_one (ps_ret (pe_lst (pa_cons (pe_callB call_abs (by rfl) T.z_abs (by decide +kernel) (pa_cons (pv 0) pa_nil)) (pa_cons (pe_cmpR op_ge (pe_callB call_abs (by rfl) T.z_abs (by decide +kernel) (pa_cons (pv 0) pa_nil)) (pe_op op_pow pe_int pe_int) (nomark _)) (pa_cons (pe_op op_mod (pe_callTy call_int1 (by rfl) T.z_int (by decide +kernel) (pa_cons (pe_callB call_abs (by rfl) T.z_abs (by decide +kernel) (pa_cons (pv 0) pa_nil)) pa_nil)) pe_int) (pa_cons pe_int pa_nil))))))), ?_⟩
    refine ⟨_, rfl, _, rfl, _, rfl, _, rfl, _, _, rfl, rfl, ⟨by decide, by decide, by decide⟩, _, _, rfl, rfl, _, rfl, _, rfl, .inl ⟨_, rfl, _, _, rfl, rfl, (by show (0 : Int) < 2147483629; decide), (by show 4 ≤ sizeLine; decide), fun p hp => q p _ hp ⟨_, _, _, _, rfl, ?_, ?_, Int.le_refl 0, Int.le_refl 0⟩⟩⟩
    · exact Int.emod_nonneg _ (by decide)
    · have := Int.emod_lt_of_pos (if c < 0 then -c else c) (by decide : (0 : Int) < 2147483629)
      omega
/-- a draw below many; the box goes on -/
def spTake : Sp := fun vs H Q _ => ∃ (p : Addr) (n : Nat) (many : Int), vs = [.ref p, .int many] ∧ BoxAt H p n ∧ n < 1000000000 ∧ 0 < many ∧ many < 1000000 ∧
  ∀ (d : Nat) o, (d : Int) < many → BoxO (n + 1) o → Q (.int d) (upd H p o)
theorem ok_law_take (T : Txt K mg) : FnOk P w K mg base CX0 1 T.f_law_take T.fd_law_take ["box", "many"] spTake := by
  refine T.F_law_take.ok sc_law_take (fun vs H Q E h => ?_) (fun cdv A outer s H vs Q E hr h => ?_)
  · obtain ⟨p, n, m, rfl, _⟩ := h; rfl
  · obtain ⟨p, n, many, rfl, ⟨o, ho, a, m, c, b, rfl, m0, m1, c0, c1⟩, hn, p0, p1, q⟩ := h
    refine ⟨_, (pss_cons (ps_if (PW.pt (pw_and (pt_val (pe_ix ix_list (pv 0) pe_int (fun _ _ => rfl))) (pw_and1 (pt_cmpR op_gt (pe_ix ix_list (pv 0) pe_int (fun _ _ => rfl)) pe_int (nomark _))))) (pss_cons (ps_set (i := 2) sc_law_take.nd rfl (Or.inl rfl) (pe_op op_mod (pe_callTy call_int1 (by rfl) T.z_int (by decide +kernel) (pa_cons (pe_ix ix_list (pv 0) pe_int (fun _ _ => rfl)) pa_nil)) (pv 1)))
      (pss_cons (ps_asg (pe_op op_fdivW (pe_ix ix_list (pv 0) pe_int (fun _ _ => rfl)) (pv 1)) (pg_sub (pv 0) pe_int set_list))
      (pss_one (ps_ret (pv 2))))) pss_nil)
      (pss_cons (ps_asg (pe_op op_add (pe_ix ix_list (pv 0) pe_int (fun _ _ => rfl)) pe_int) (pg_sub (pv 0) pe_int set_list))
      (pss_cons (ps_set (i := 3) sc_law_take.nd rfl (Or.inl rfl) (pe_op op_mod (pe_callTy call_int1 (by rfl) T.z_int (by decide +kernel) (pa_cons (pe_op op_pow (pe_op op_add (pe_op op_add (pe_ix ix_list (pv 0) pe_int (fun _ _ => rfl)) (pe_op op_mul pe_int (pe_ix ix_list (pv 0) pe_int (fun _ _ => rfl)))) pe_int) pe_int) pa_nil)) pe_int))
      (pss_one (ps_ret (pe_op op_mod (pe_op op_fdivW (pe_op op_mod (pe_callTy call_int1 (by rfl) T.z_int (by decide +kernel) (pa_cons (pe_op op_pow (pe_op op_add (pe_op op_mul (pv 3) pe_int) (pe_op op_mul pe_int (pe_ix ix_list (pv 0) pe_int (fun _ _ => rfl)))) pe_int) pa_nil)) pe_int) pe_int) (pv 1))))))), ?_⟩
    have at0 : atI [V.int a, .bl b, .int m, .int c] 0 = some (.int a) := atI_nat (j := 0) rfl
    have at1 : atI [V.int a, .bl b, .int m, .int c] 1 = some (.bl b) := atI_nat (j := 1) rfl
    have at3 : atI [V.int a, .bl b, .int m, .int c] 3 = some (.int c) := atI_nat (j := 3) rfl
    have lm : CDivW a many := ⟨p0, by
      have : many.natAbs < 2 ^ 20 := by omega
      exact Nat.lt_of_lt_of_le (PySem.Flt.log2_lt_of (by decide) this) (by decide)⟩
    have second : tSeq (tAsg (tOp (rI0 fun i j => .int (i + j)) (tOp (rIxL K) (tVar 0) (tC (.int 3))) (tC (.int 1))) (gSub (tVar 0) (tC (.int 3)) rSetL))
        (tSeq (tAsg (tOp (rI (fun _ j => 0 < j) fun i j => .int (i % j)) (tCB (fun xs H Q => (∃ i, xs = [.int i] ∧ Q (.int i) H) ∨ ∃ k, xs = [.bl k] ∧ Q (.int (if k then 1 else 0)) H) (tCons (tOp (rI CPow fun i j => .int (i ^ j.toNat)) (tOp (rI0 fun i j => .int (i + j)) (tOp (rI0 fun i j => .int (i + j)) (tOp (rIxL K) (tVar 0) (tC (.int 2))) (tOp (rI CMul fun i j => .int (i * j)) (tC (.int 15485863)) (tOp (rIxL K) (tVar 0) (tC (.int 3))))) (tC (.int 179424697))) (tC (.int 5))) tNil)) (tC (.int 2147483647))) (gName 3))
        (tRet (tOp (rI (fun _ j => 0 < j) fun i j => .int (i % j)) (tOp (rI CDivW fun i j => .int (i / j)) (tOp (rI (fun _ j => 0 < j) fun i j => .int (i % j)) (tCB (fun xs H Q => (∃ i, xs = [.int i] ∧ Q (.int i) H) ∨ ∃ k, xs = [.bl k] ∧ Q (.int (if k then 1 else 0)) H) (tCons (tOp (rI CPow fun i j => .int (i ^ j.toNat)) (tOp (rI0 fun i j => .int (i + j)) (tOp (rI CMul fun i j => .int (i * j)) (tVar 3) (tC (.int 48271))) (tOp (rI CMul fun i j => .int (i * j)) (tC (.int 104723)) (tOp (rIxL K) (tVar 0) (tC (.int 3))))) (tC (.int 3))) tNil)) (tC (.int 2147483587))) (tC (.int 64))) (tVar 1))))
        { nx := fun _ H' => Q .non H', rt := Q } [some (.ref p), some (.int many), none, none] H := by
      refine ⟨_, rfl, p, _, _, _, rfl, rfl, SqL.of ho, at3, _, _, rfl, rfl, _, rfl, p, _, 3, 3, rfl, rfl, ho, rfl, ?_⟩
      have hu : upd H p (.lst [.int a, .bl b, .int m, .int (c + 1)]) p = some (.lst [.int a, .bl b, .int m, .int (c + 1)]) := upd_same
      refine ⟨_, rfl, p, _, _, _, rfl, rfl, SqL.of hu, atI_nat (j := 2) rfl, _, rfl, p, _, _, _, rfl, rfl, SqL.of hu, atI_nat (j := 3) rfl, _, _, rfl, rfl, .inl (by decide), _, _, rfl, rfl, _, _, rfl, rfl, _, _, rfl, rfl, ⟨by decide, by decide, by omega⟩, .inl ⟨_, rfl, _, _, rfl, rfl, (by show (0 : Int) < 2147483647; decide), ?_⟩⟩
      refine ⟨_, rfl, _, _, rfl, rfl, .inr (by decide), _, rfl, p, _, _, _, rfl, rfl, SqL.of hu, atI_nat (j := 3) rfl, _, _, rfl, rfl, .inl (by decide), _, _, rfl, rfl, _, _, rfl, rfl, ⟨by decide, by decide, by omega⟩, .inl ⟨_, rfl, _, _, rfl, rfl, (by show (0 : Int) < 2147483587; decide), _, _, rfl, rfl, ⟨by decide, by decide⟩, _, rfl, _, _, rfl, rfl, p0, ?_⟩⟩
      have y0 := Int.emod_nonneg ((((m + 15485863 * (c + 1) + 179424697) ^ (5 : Int).toNat % 2147483647) * 48271 + 104723 * (c + 1)) ^ (3 : Int).toNat % 2147483587 / 64) (by omega : many ≠ 0)
      have y1 := Int.emod_lt_of_pos ((((m + 15485863 * (c + 1) + 179424697) ^ (5 : Int).toNat % 2147483647) * 48271 + 104723 * (c + 1)) ^ (3 : Int).toNat % 2147483587 / 64) p0
      show Q (.int ((((m + 15485863 * (c + 1) + 179424697) ^ (5 : Int).toNat % 2147483647) * 48271 + 104723 * (c + 1)) ^ (3 : Int).toNat % 2147483587 / 64 % many)) _
      generalize (((m + 15485863 * (c + 1) + 179424697) ^ (5 : Int).toNat % 2147483647) * 48271 + 104723 * (c + 1)) ^ (3 : Int).toNat % 2147483587 / 64 % many = y at *
      obtain ⟨d, rfl⟩ : ∃ d : Nat, y = d := ⟨y.toNat, by omega⟩
      exact q d _ y1 ⟨a, m, c + 1, b, rfl, m0, m1, by omega, by omega⟩
    refine ⟨_, rfl, p, _, _, _, rfl, rfl, SqL.of ho, at1, b, rfl, ?_⟩
    cases b with
    | false => exact iteF (iteF second)
    | true =>
      refine iteT ⟨_, rfl, p, _, _, _, rfl, rfl, SqL.of ho, at0, _, _, rfl, rfl, _, rfl, ite2 (fun z => ?_) (fun z => second)⟩
      refine ⟨_, rfl, p, _, _, _, rfl, rfl, SqL.of ho, at0, .inl ⟨_, rfl, _, rfl, _, _, rfl, rfl, p0, ?_⟩⟩
      refine ⟨_, rfl, p, _, _, _, rfl, rfl, SqL.of ho, at0, _, rfl, _, _, rfl, rfl, lm, _, rfl, p, _, 0, 0, rfl, rfl, ho, rfl, _, rfl, ?_⟩
      have y0 := Int.emod_nonneg a (by omega : many ≠ 0)
      have y1 := Int.emod_lt_of_pos a p0
      show Q (.int (a % many)) _
      generalize a % many = y at *
      obtain ⟨d, rfl⟩ : ∃ d : Nat, y = d := ⟨y.toNat, by omega⟩
      exact q d _ y1 ⟨a / many, m, c, true, rfl, m0, m1, c0, by omega⟩
theorem ok_check_decoder (T : Txt K mg) : FnOk P w K mg base (L2.CX P w) 3 T.f_check_decoder T.fd_check_decoder ["value"] (fun vs H Q E => ∃ x, vs = [x] ∧ ((∃ o D, x = .ref o ∧ DecAt K T.C_Decoder H o D ∧ Q .non H) ∨ (∃ d m, Dg K H m x d ∧ Bad T.C_InvalidDecoder H x E))) := by
  refine T.F_check_decoder.okX sc_check_decoder (fun vs H Q E h => ?_) (fun cdv A outer s H vs Q E hr h => ?_)
  · obtain ⟨x, rfl, _⟩ := h; rfl
  · obtain ⟨x, rfl, h⟩ := h
    refine ⟨_, (pss_one (ps_if (pt_not (pt_val (pe_callB call_isi (by rfl) T.z_isinstance (by decide +kernel) (pa_cons (pv 0) (pa_cons (pe_glob (v := .ref T.C_Decoder) rfl T.g_Decoder rfl) pa_nil))))) (pss_one (ps_raiseE rfl T.e_InvalidDecoder hr (takes_of rfl rfl rfl rfl) (pa_cons (pv 0) pa_nil))) pss_nil)), ?_⟩
    rcases h with ⟨o, D, rfl, ⟨⟨dx, Sa, Ea, eo, _, _⟩, _⟩, q⟩ | ⟨d, m, hd, kb⟩
    · exact ⟨_, rfl, _, _, _, _, true, rfl, .own _, T.oe_Decoder.ty eo, kit_same, _, rfl, iteF q⟩
    · exact ⟨_, rfl, _, _, _, _, false, rfl, .own _, hd.ty, kit_ownD T.ii_Decoder T.it_Decoder d, _, rfl, iteT ⟨_, rfl, x, rfl, fun dd hdd => kb dd _ (Same.new (Same.refl _) hdd) hdd upd_same⟩⟩
theorem ok_checked_entry (T : Txt K mg) : FnOk P w K mg base CX0 1 T.f_checked_entry T.fd_checked_entry ["decoder", "size", "place", "sign"] (fun vs H Q _ => ∃ (o pa : Addr) (D : Dcd) (n a : Nat) (pl : Pl), vs = [.ref o, .int (n : Nat), .ref pa, .int (a : Nat)] ∧ DecAt K T.C_Decoder H o D ∧ H pa = some (.tup (plV pl)) ∧ Vp D n pl ∧ a < D.sg ∧
    ∀ v H', Same H H' → EntAt H' v (nx D n pl a) → Q v H') := by
  refine T.F_checked_entry.ok sc_checked_entry (fun vs H Q E h => ?_) (fun cdv A outer s H vs Q E hr h => ?_)
  · obtain ⟨o, pa, D, n, a, pl, rfl, _⟩ := h; rfl
  · obtain ⟨o, pa, D, n, a, pl, rfl, dec, epa, vp, ha, kQ⟩ := h
    refine ⟨_, (pss_cons (ps_asg (pv 2) (pg_tup rfl (pgs_cons (pg_name (i := 4) sc_checked_entry.nd rfl (Or.inl rfl)) (pgs_cons (pg_name (i := 5) sc_checked_entry.nd rfl (Or.inl rfl)) (pgs_cons (pg_name (i := 6) sc_checked_entry.nd rfl (Or.inl rfl)) pgs_nil)))))
      (pss_cons (ps_if (pt_cmpR op_eq (pv 5) (pv 1) (nomark _)) (pss_one (ps_ret (pe_ifExp (pt_cmpR op_eq (pv 3) (pv 6) (nomark _)) (pe_tup (pa_cons (pe_tup (pa_cons (pv 4) (pa_cons pe_int (pa_cons pe_int pa_nil)))) (pa_cons pe_str pa_nil))) pe_non))) pss_nil)
      (pss_cons (ps_set (i := 7) sc_checked_entry.nd rfl (Or.inl rfl) (pe_ix ix_tup (pe_ix ix_tup (pe_fld (pv 0) rfl) (pv 4) (fun _ _ => rfl)) (pv 3) (fun _ _ => rfl)))
      (pss_one (ps_ret (pe_ifExp (pt_cmp (pc_isN (pv 7))) pe_non (pe_tup (pa_cons (pe_tup (pa_cons (pe_ix ix_tup (pv 7) pe_int (fun _ _ => rfl)) (pa_cons (pe_op op_add (pv 5) pe_int) (pa_cons (pe_op op_mod (pe_op op_add (pv 6) (pv 3)) (pe_fld (pv 0) rfl)) pa_nil)))) (pa_cons (pe_ix ix_tup (pv 7) pe_int (fun _ _ => rfl)) pa_nil))))))))), ?_⟩
    obtain ⟨⟨dx, Sa, Ea, eo, hs, he⟩, ok⟩ := id dec
    have two : 2 ≤ sizeLine := by decide
    have three : 3 ≤ sizeLine := by decide
    have s1 := ok.s1
    obtain ⟨s0, m0, t0⟩ := pl
    refine ⟨_, rfl, pa, _, rfl, SqT.of epa, rfl, _, _, rfl, _, _, rfl, _, _, rfl, rfl, ?_⟩
    dsimp only
    have vi : ∀ {x y : Nat}, decide (V.int (x : Nat) = V.int (y : Nat)) = decide (x = y) := fun {x y} => by
      rw [Bool.eq_iff_iff, decide_eq_true_eq, decide_eq_true_eq]
      exact ⟨fun z => by have := V.int.inj z; omega, fun z => by rw [z]⟩
    refine ⟨_, rfl, _, rfl, rfl, _, rfl, ?_⟩
    rw [vi]
    refine ite2 (fun c => ?_) (fun c => ?_)
    · have hm : m0 = n := of_decide_eq_true c
      refine ⟨_, rfl, _, rfl, rfl, _, rfl, ?_⟩
      rw [vi]
      refine ite2 (fun c2 => ?_) (fun c2 => ?_)
      · have hat : a = t0 := of_decide_eq_true c2
        have en : nx D n (s0, m0, t0) a = some ((s0, 0, 0), []) := by
          unfold nx
          rw [if_pos hm, if_pos hat]
        refine ⟨_, rfl, three, fun b hb => ⟨two, fun e he' => ?_⟩⟩
        have s2 : Same H (upd H b (.tup [.int (s0 : Nat), .int 0, .int 0])) := Same.new (Same.refl _) hb
        have eb : (upd H b (.tup [.int (s0 : Nat), .int 0, .int 0])) b = some (.tup [.int (s0 : Nat), .int 0, .int 0]) := upd_same
        generalize upd H b (.tup [.int (s0 : Nat), .int 0, .int 0]) = H1 at s2 eb he' ⊢
        have s3 : Same H1 (upd H1 e (.tup [.ref b, .str (Str.ofString "")])) := Same.new (Same.refl _) he'
        refine kQ _ _ (s2.trans s3) ?_
        rw [en]
        exact ⟨e, b, rfl, by rw [upd_same, str_nil], s3 _ _ eb⟩
      · have hat : ¬ a = t0 := fun z => c2 (decide_eq_true z)
        have en : nx D n (s0, m0, t0) a = none := by
          unfold nx
          rw [if_pos hm, if_neg hat]
        refine kQ _ H (Same.refl _) ?_
        rw [en]; rfl
    · have hm : ¬ m0 = n := fun z => c (decide_eq_true z)
      obtain ⟨xs, r, zs, hx, ex, hz, hrow⟩ := dg_row ok hs vp.s
      obtain ⟨e, ez, de⟩ := hrow a ha
      refine ⟨_, rfl, o, _, dx, _, _, rfl, eo, T.cl_Decoder, T.na_Decoder_steps, dfs_steps, _, rfl, Sa, _, _, _, rfl, rfl, hx, atI_nat ex, _, rfl, r, _, _, _, rfl, rfl, hz, atI_nat ez, ?_⟩
      have en : nx D n (s0, m0, t0) a = (D.at s0 a).map fun e => ((e.1, m0 + 1, (t0 + a) % D.sg), e.2) := by
        unfold nx
        rw [if_neg hm]
      cases q : D.at s0 a with
      | none =>
        have de : Dg K H false e (enD (D.at s0 a)) := de
        rw [q] at de en
        obtain rfl : e = .non := by cases de; rfl
        refine ⟨_, rfl, _, rfl, iteT (kQ _ H (Same.refl _) ?_)⟩
        rw [en]; rfl
      | some p =>
        obtain ⟨g, u⟩ := p
        have de : Dg K H false e (enD (D.at s0 a)) := de
        rw [q] at de en
        obtain ⟨te, us, rfl, hte, hus⟩ := de.tup_of
        obtain ⟨u0, us1, rfl, hu0, hu1⟩ := hus.cons_of
        obtain ⟨u1, us2, rfl, hu1', hu2⟩ := hu1.cons_of
        obtain rfl := hu2.nil_of
        obtain rfl := hu0.int_of
        obtain rfl := hu1'.str_of
        refine ⟨_, rfl, _, rfl, iteF ⟨_, rfl, te, _, _, _, rfl, rfl, hte, atI_nat (j := 0) rfl, _, rfl, _, _, rfl, rfl, _, rfl, _, rfl, _, _, rfl, rfl, _, rfl, o, _, dx, _, _, rfl, eo, T.cl_Decoder, T.na_Decoder_signs, dfs_signs, _, _, rfl, rfl, (by show (0 : Int) < (D.sg : Int); omega), three, fun b hb => ⟨_, rfl, te, _, _, _, rfl, rfl, hte.ext (Same.new (Same.refl _) hb), atI_nat (j := 1) rfl, two, fun e' he' => ?_⟩⟩⟩
        have eV : [V.int (g : Nat), .int ((m0 : Nat) + 1 : Int), .int (((t0 : Int) + (a : Int)) % (D.sg : Int))] = plV (g, m0 + 1, (t0 + a) % D.sg) := by
          show _ = [V.int (g : Nat), .int ((m0 + 1 : Nat) : Int), .int (((t0 + a) % D.sg : Nat) : Int)]
          rw [Int.natCast_emod, Int.natCast_add]; rfl
        have s2 : Same H (upd H b (.tup [V.int (g : Nat), .int ((m0 : Nat) + 1 : Int), .int (((t0 : Int) + (a : Int)) % (D.sg : Int))])) := Same.new (Same.refl _) hb
        have eb : (upd H b (.tup [V.int (g : Nat), .int ((m0 : Nat) + 1 : Int), .int (((t0 : Int) + (a : Int)) % (D.sg : Int))])) b = some (.tup (plV (g, m0 + 1, (t0 + a) % D.sg))) := by rw [upd_same, eV]
        generalize upd H b (.tup [V.int (g : Nat), .int ((m0 : Nat) + 1 : Int), .int (((t0 : Int) + (a : Int)) % (D.sg : Int))]) = H1 at s2 eb he' ⊢
        have s3 : Same H1 (upd H1 e' (.tup [.ref b, .str (S u)])) := Same.new (Same.refl _) he'
        refine kQ _ _ (s2.trans s3) ?_
        rw [en]
        exact ⟨e', b, rfl, upd_same, s3 _ _ eb⟩
/-- what the dict of numbers holds -/
def numK (F : List Pl) : List (List Key × V) := F.mapIdx fun i pl => (keyP pl, V.int (i : Nat))
def entDn (F : List Pl) (x : Option (Pl × List Nat)) : PyData := enD (numE F x)
theorem valV_num {F : List Pl} (hn : F.Nodup) {g : Pl} (hg : g ∈ F) : valV (numK F) (keyP g) = some (V.int (F.idxOf g : Nat)) := by
  unfold valV numK
  have hlt := List.idxOf_lt_length_of_mem hg
  have hf : ((F.mapIdx fun i pl => (keyP pl, V.int (i : Nat))).find? fun kv => decide (kv.1 = keyP g)) = some (keyP g, V.int (F.idxOf g : Nat)) := by
    rw [List.find?_eq_some_iff_getElem]
    refine ⟨decide_eq_true rfl, F.idxOf g, by rw [List.length_mapIdx]; exact hlt, ?_, fun j hj => ?_⟩
    · rw [List.getElem_mapIdx, List.getElem_idxOf hlt]
    · rw [List.getElem_mapIdx]
      have hj' : j < F.length := by omega
      have : F[j] ≠ g := fun z => by
        have := hn.idxOf_getElem j hj'
        rw [z] at this; omega
      simp only [Bool.not_eq_eq_eq_not, Bool.not_true, decide_eq_false_iff_not]
      exact fun z => this (keyP_inj z)
  rw [hf]; rfl
theorem valV_none {F : List Pl} {g : Pl} (hg : g ∉ F) : valV (numK F) (keyP g) = none := by
  unfold valV numK
  have hf : ((F.mapIdx fun i pl => (keyP pl, V.int (i : Nat))).find? fun kv => decide (kv.1 = keyP g)) = none := by
    rw [List.find?_eq_none]
    intro x hx z
    obtain ⟨j, hj, e⟩ := List.mem_mapIdx.mp hx
    rw [← e] at z
    have := keyP_inj (of_decide_eq_true z)
    exact hg (by rw [← this]; exact List.getElem_mem hj)
  rw [hf]; rfl
theorem put_num {F : List Pl} {g : Pl} (hg : g ∉ F) : putK (numK F) (keyP g) (V.int (F.length : Nat)) = numK (F ++ [g]) := by
  unfold putK
  have hf : ((numK F).any fun kv => decide (kv.1 = keyP g)) = false := by
    rw [List.any_eq_false]
    intro x hx z
    unfold numK at hx
    obtain ⟨j, hj, e⟩ := List.mem_mapIdx.mp hx
    rw [← e] at z
    have := keyP_inj (of_decide_eq_true z)
    exact hg (by rw [← this]; exact List.getElem_mem hj)
  rw [hf, if_neg Bool.false_ne_true]
  unfold numK
  rw [List.mapIdx_append]
  simp
theorem numK_len (F : List Pl) : (numK F).length = F.length := List.length_mapIdx
theorem ok_numbered (T : Txt K mg) : FnOk P w K mg base CX0 1 T.f_numbered T.fd_numbered ["row", "numbers"] (fun vs H Q _ => ∃ (r d : Addr) (evs : List V) (xs : List (Option (Pl × List Nat))) (F : List Pl), vs = [.ref r, .ref d] ∧ H r = some (.lst evs) ∧ EntsAt H evs xs ∧ H d = some (.dT (numK F)) ∧ F.Nodup ∧ (∀ g u, some (g, u) ∈ xs → g ∈ F) ∧ xs.length ≤ 100 ∧
    ∀ L zs H', Same H H' → H L = none → H' L = some (.lst zs) → DgAll K H' false zs (xs.map (entDn F)) → Q (.ref L) H') := by
  refine T.F_numbered.ok sc_numbered (fun vs H Q E h => ?_) (fun cdv A outer s H vs Q E hr h => ?_)
  · obtain ⟨r, d, evs, xs, F, rfl, _⟩ := h; rfl
  · obtain ⟨r, d, evs, xs, F, rfl, er, hes, ed, hn, hF, hl, kQ⟩ := h
    refine ⟨_, (pss_one (ps_ret (pe_lc (own := [("entry", 2)]) (g := gName 2) (by rfl) sc_numbered.nd (pi_list (pv 0)) (blkOk_by (own := [("entry", 2)]) (N := N_numbered) (sc := defScope s_numbered) (by decide +kernel)) (fun _ _ _ _ _ => pg_name (i := 2) sc_numbered.nd rfl (Or.inl rfl)) (fun _ _ _ _ _ => pts_nil) (fun _ _ _ _ _ => (pe_ifExp (pt_cmp (pc_isN (pv 2))) pe_non (pe_tup (pa_cons (pe_dget (hu_of hr) (pv 1) (pe_ix (ix_tupK (K := K) rfl) (pv 2) pe_int (fun _ _ => rfl)) (fun _ _ => rfl)) (pa_cons (pe_ix (ix_tupK (K := K) rfl) (pv 2) pe_int (fun _ _ => rfl)) pa_nil)))))))), ?_⟩
    have two : 2 ≤ sizeLine := by decide
    obtain ⟨lev, hev⟩ := hes
    refine ⟨_, rfl, r, rfl, ⟨_, SqL.of er⟩, fun D hD => ?_⟩
    refine lc_list_data (K := K) (m := false) (p := D) (a := r) (xs := evs) (fun j => (xs.map (entDn F)).getD j .none) (SqL.of er) hD (by omega) (fun j v H' R N hv s' eD kk => ?_) (fun H' ys s' eD hy => ?_)
    · have hj := (List.getElem?_eq_some_iff.mp hv).1
      obtain ⟨x, hx⟩ : ∃ x, xs[j]? = some x := ⟨_, List.getElem?_eq_getElem (by omega)⟩
      have hent := hev j v x hv hx
      have ex : (xs.map (entDn F)).getD j .none = entDn F x := by rw [List.getD_eq_getElem?_getD, List.getElem?_map, hx]; rfl
      rw [ex] at kk
      cases x with
      | none =>
        obtain rfl : v = .non := hent
        exact ⟨rfl, tYesT ⟨_, rfl, _, rfl, iteT (kk _ H' (Same.refl _) .non)⟩⟩
      | some p =>
        obtain ⟨g, u⟩ := p
        obtain ⟨e, b, rfl, he, hb⟩ := hent
        have hg := hF g u (List.mem_of_getElem? hx)
        have hget : DGet H' d (.ref b) (some (V.int (F.idxOf g : Nat))) := by
          have := DGet.t (k := keyP g) (s' _ _ ed) (s' _ _ hb)
          rw [valV_num hn hg] at this
          exact this
        refine ⟨rfl, tYesT ⟨_, rfl, _, rfl, iteF ⟨_, rfl, _, rfl, e, _, _, _, rfl, rfl, SqT.of (s' _ _ he), atI_nat (j := 0) rfl, d, _, rfl, hget, _, rfl, e, _, _, _, rfl, rfl, SqT.of (s' _ _ he), atI_nat (j := 1) rfl, two, fun t ht => ?_⟩⟩⟩
        have nt : t ≠ D := fun z => eD (by rw [← z]; exact ht)
        exact kk _ _ (Same.new (Same.refl _) ht) (.tup (SqT.of (by rw [wo_ne nt, wo_ne nt]; exact upd_same)) (.cons (.int _) (.cons (.str _) .nil)))
    · have hy := own_list0 hy
      have e2 : (List.range evs.length).map (fun j => (xs.map (entDn F)).getD j .none) = xs.map (entDn F) := by
        refine List.ext_getElem? fun j => ?_
        rw [List.getElem?_map]
        by_cases hj : j < evs.length
        · rw [List.getElem?_range hj, List.getElem?_eq_getElem (by rw [List.length_map]; omega)]
          show some ((xs.map (entDn F)).getD j .none) = _
          rw [List.getD_eq_getElem?_getD, List.getElem?_eq_getElem (by rw [List.length_map]; omega)]; rfl
        · rw [List.getElem?_eq_none (by rw [List.length_range]; omega), List.getElem?_eq_none (by rw [List.length_map]; omega)]; rfl
      rw [e2] at hy
      exact kQ D ys H' s' hD eD hy
end
end My

set_option Elab.async false
set_option linter.all false
set_option maxRecDepth 100000
set_option maxHeartbeats 4000000
/-! Rows of one's own: lists of lists that may be written to. -/
namespace My
open PySem PySem.Spec PyProof.Rows L2
def RowL (K : PySem.W.Frag) (H : Hp) (q : Addr) (row : List Ent) : Prop := ∃ xs, H q = some (.lst xs) ∧ DgAll K H false xs (row.map enD)
theorem RowL.kp {K : PySem.W.Frag} {H H' : Hp} {q M : Addr} {row : List Ent} {l : List V} (h : RowL K H q row) (eM : H M = some (.lst l)) (n : q ≠ M) (k : Kp M H H') : RowL K H' q row := by
  obtain ⟨xs, e, ha⟩ := h
  exact ⟨xs, k _ _ n e, ((dg_lfwoAll eM _ _ (lfAll_map lf_enD _) ha).ext k.wo).ext (wo_same H' M)⟩
theorem RowL.ext {K : PySem.W.Frag} {H H' : Hp} {q : Addr} {row : List Ent} (h : RowL K H q row) (s : Same H H') : RowL K H' q row := by
  obtain ⟨xs, e, ha⟩ := h
  exact ⟨xs, s _ _ e, ha.ext s⟩
/-- the rows st at the list R, each at a list of its own -/
structure RowsL (K : PySem.W.Frag) (p : Addr) (H : Hp) (R : Addr) (qs : List Addr) (st : List (List Ent)) : Prop where
  e : H R = some (.lst (qs.map V.ref))
  nd : qs.Nodup
  nR : R ∉ qs
  np : p ∉ qs
  nRp : R ≠ p
  len : qs.length = st.length
  row : ∀ (j : Nat) (q : Addr) (r : List Ent), qs[j]? = some q → st[j]? = some r → RowL K H q r
section
variable {K : PySem.W.Frag} {p R M : Addr} {H H' : Hp} {qs : List Addr} {st : List (List Ent)} {l : List V}
theorem RowsL.kp (h : RowsL K p H R qs st) (eM : H M = some (.lst l)) (n1 : R ≠ M) (n2 : M ∉ qs) (k : Kp M H H') : RowsL K p H' R qs st :=
  ⟨k _ _ n1 h.e, h.nd, h.nR, h.np, h.nRp, h.len, fun j q r hq hr => (h.row j q r hq hr).kp eM (fun z => n2 (by rw [← z]; exact List.mem_of_getElem? hq)) k⟩
theorem RowsL.ext (h : RowsL K p H R qs st) (s : Same H H') : RowsL K p H' R qs st :=
  ⟨s _ _ h.e, h.nd, h.nR, h.np, h.nRp, h.len, fun j q r hq hr => (h.row j q r hq hr).ext s⟩
theorem RowsL.box {n : Nat} (h : RowsL K p H R qs st) (hb : BoxAt H p n) (k : Kp p H H') : RowsL K p H' R qs st := by
  obtain ⟨xs, e⟩ := box_lst hb
  exact h.kp e h.nRp h.np k
theorem dgAll_refs : ∀ (qs : List Addr) (st : List (List Ent)), qs.length = st.length → (∀ (j : Nat) (q : Addr) (r : List Ent), qs[j]? = some q → st[j]? = some r → RowL K H q r) → DgAll K H false (qs.map V.ref) (st.map fun r => .list (r.map enD))
  | [], [], _, _ => .nil
  | [], _ :: _, e, _ => by cases e
  | _ :: _, [], e, _ => by cases e
  | q :: qs, r :: st, e, h => by
    obtain ⟨xs, eq, ha⟩ := h 0 q r rfl rfl
    exact .cons (.lst (SqL.of eq) (fun z => by cases z) ha) (dgAll_refs qs st (by simpa using e) fun j q' r' h1 h2 => h (j + 1) q' r' h1 h2)
theorem RowsL.dg (h : RowsL K p H R qs st) : Dg K H false (.ref R) (.list (st.map fun r => .list (r.map enD))) := .lst (SqL.of h.e) (fun z => by cases z) (dgAll_refs qs st h.len h.row)
theorem dgAll_put {m : Bool} : ∀ {xs : List V} {es : List PyData} (a : Nat) {v : V} {d : PyData}, DgAll K H m xs es → Dg K H m v d → DgAll K H m (xs.set a v) (es.set a d)
  | _, _, _, _, _, .nil, _ => .nil
  | _, _, 0, _, _, .cons h1 h2, hv => .cons hv h2
  | _, _, a + 1, _, _, .cons h1 h2, hv => .cons h1 (dgAll_put a h2 hv)
/-- one entry is written -/
theorem RowsL.put {j a : Nat} {q : Addr} {r : List Ent} {xs : List V} {v : V} {e : Ent} (h : RowsL K p H R qs st) (hq : qs[j]? = some q) (hr : st[j]? = some r) (eq : H q = some (.lst xs)) (ha : DgAll K H false xs (r.map enD)) (hv : Dg K H false v (enD e)) :
    RowsL K p (L2.upd H q (.lst (xs.set a v))) R qs (st.set j (r.set a e)) := by
  have hm : q ∈ qs := List.mem_of_getElem? hq
  have nR : R ≠ q := fun z => h.nR (by rw [z]; exact hm)
  have hj := (List.getElem?_eq_some_iff.mp hr).1
  refine ⟨by rw [upd_ne nR]; exact h.e, h.nd, h.nR, h.np, h.nRp, by rw [List.length_set]; exact h.len, fun i q' r' hq' hr' => ?_⟩
  by_cases eij : i = j
  · subst eij
    rw [hq] at hq'
    injection hq' with hq'
    subst hq'
    rw [List.getElem?_set_self hj] at hr'
    injection hr' with hr'
    subst hr'
    refine ⟨_, upd_same, ?_⟩
    rw [List.map_set]
    exact (dgAll_put a (dg_lfwoAll eq _ _ (lfAll_map lf_enD _) ha) (dg_lfwo eq _ _ (lf_enD e) hv)).ext wo_updS
  · rw [List.getElem?_set_ne (fun z => eij z.symm)] at hr'
    have nq : q' ≠ q := fun z => by
      have h1 := (List.getElem?_eq_some_iff.mp hq)
      have h2 := (List.getElem?_eq_some_iff.mp hq')
      obtain ⟨b1, c1⟩ := h1
      obtain ⟨b2, c2⟩ := h2
      exact eij (List.getElem_inj h.nd |>.mp (by rw [c1, c2, z]))
    exact (h.row i q' r' hq' hr').kp eq nq ((Kp.refl q H).upd)
end
/-- [list(row) for row in rows] -/
theorem rows_copy {K : PySem.W.Frag} {H : Hp} {p a : Addr} {ys : List V} {st : List (List Ent)} {σ : L2.St} {te : TE} {i : Nat} {vs : List Nat} {Q : VK} {rT : List V → Hp → VK → Prop}
    (hT : ∀ a ys H R, SqL K H a ys → (∀ l, H l = none → R (V.ref l) (L2.upd H l (.lst ys))) → rT [.ref a] H R)
    (hte : ∀ R : VK, R (.ref a) H → te σ H R) (hq : SqL K H a ys) (hes : DgAll K (wo H p) false ys (st.map fun r => .list (r.map enD))) (hl : st.length ≤ 1000) (np : H p ≠ none)
    (hw : ∀ x, wipe ((wipe σ vs).set i (some x)) vs = wipe σ vs) (hi : ∀ x, ((wipe σ vs).set i (some x))[i]? = some (some x))
    (q : ∀ R qs H', Same H H' → H R = none → (∀ x ∈ qs, H x = none) → RowsL K p H' R qs st → Q (.ref R) H') :
    tLc (iList K te) (gName i) tYes (tCB rT (tCons (tVar i) tNil)) vs σ H Q := by
  have ly := hes.len
  rw [List.length_map] at ly
  refine hte _ ⟨a, rfl, ⟨ys, hq⟩, fun L hL => ?_⟩
  have nLp : L ≠ p := fun z => np (by rw [← z]; exact hL)
  refine lc_list (K := K) (a := a) (xs := ys) (fun j H' => Same H H' ∧ ∃ qs, RowsL K p H' L qs (st.take j) ∧ ∀ x ∈ qs, H x = none) ⟨Same.new (Same.refl _) hL, [], ⟨upd_same, List.nodup_nil, List.not_mem_nil, List.not_mem_nil, nLp, rfl, (fun j q r h => by cases h)⟩, fun x h => by cases h⟩ (fun j H' _ h => hq.ext h.1) ?_ ?_
  · rintro j x H' hx ⟨s', qs, hR, hn⟩
    obtain ⟨d, hd, dx⟩ := hes.at j x hx
    obtain ⟨r, hr, rfl⟩ : ∃ r, st[j]? = some r ∧ PyData.list (r.map enD) = d := by
      rw [List.getElem?_map] at hd
      cases e : st[j]? with
      | none => rw [e] at hd; cases hd
      | some row => rw [e] at hd; exact ⟨row, rfl, Option.some.inj hd⟩
    obtain ⟨b, zs, rfl, hb, _, hz⟩ := dx.lst_of
    have hj := (List.getElem?_eq_some_iff.mp hr).1
    have hb' : SqL K H' b zs := (hb.ext (wo_same H p)).ext s'
    refine ⟨hw _, tYesT ⟨_, hi _, hT _ _ _ _ hb' fun c hc => ?_⟩⟩
    have s2 : Same H' (L2.upd H' c (.lst zs)) := Same.new (Same.refl _) hc
    have hcH : H c = none := s'.free hc
    have ncL : c ≠ L := fun z => by rw [z, hR.e] at hc; cases hc
    have ncp : c ≠ p := fun z => (same_at s' np) (by rw [← z]; exact hc)
    have ncq : c ∉ qs := fun z => by
      obtain ⟨i, hi'⟩ := List.getElem?_of_mem z
      have li : i < st.length := by
        have := (List.getElem?_eq_some_iff.mp hi').1
        have l2 := hR.len
        rw [List.length_take] at l2; omega
      have li2 : i < (st.take j).length := by
        have := (List.getElem?_eq_some_iff.mp hi').1
        have l2 := hR.len; omega
      obtain ⟨xs, e, _⟩ := hR.row i c _ hi' (List.getElem?_eq_getElem li2)
      rw [hc] at e; cases e
    have hR2 := hR.ext s2
    have eL : (L2.upd H' c (.lst zs)) L = some (.lst (qs.map V.ref)) := hR2.e
    have lq : qs.length = j := by have := hR.len; rw [List.length_take] at this; omega
    refine ⟨_, eL, by rw [List.length_map, lq]; exact Nat.lt_of_le_of_lt (show j ≤ 1000 by omega) (by decide), ?_, qs ++ [c], ⟨?_, ?_, ?_, ?_, nLp, ?_, ?_⟩, ?_⟩
    · intro b' o' e'
      rw [upd_ne (ne_of_none e' hL)]
      exact s2 _ _ (s' _ _ e')
    · rw [upd_same, List.map_append]; rfl
    · exact List.nodup_append.mpr ⟨hR.nd, List.nodup_cons.mpr ⟨List.not_mem_nil, List.nodup_nil⟩, fun x hx y hy z => by rw [List.mem_singleton.mp hy] at z; exact ncq (by rw [← z]; exact hx)⟩
    · intro z
      rcases List.mem_append.mp z with z | z
      · exact hR.nR z
      · exact ncL (List.mem_singleton.mp z).symm
    · intro z
      rcases List.mem_append.mp z with z | z
      · exact hR.np z
      · exact ncp (List.mem_singleton.mp z).symm
    · rw [List.length_append, lq, List.length_take, Nat.min_eq_left (by omega)]; rfl
    · intro i q' r' hq' hr'
      have kL : Kp L (L2.upd H' c (.lst zs)) (L2.upd (L2.upd H' c (.lst zs)) L (.lst (qs.map V.ref ++ [.ref c]))) := (Kp.refl L _).upd
      by_cases hij : i < j
      · rw [List.getElem?_append_left (by omega)] at hq'
        rw [List.getElem?_take_of_lt (by omega)] at hr'
        refine (hR2.row i q' r' hq' (by rw [List.getElem?_take_of_lt hij]; exact hr')).kp eL (fun z => hR.nR (by rw [← z]; exact List.mem_of_getElem? hq')) kL
      · have ei : i = j := by
          have := (List.getElem?_eq_some_iff.mp hq').1
          rw [List.length_append] at this
          simp at this
          omega
        subst ei
        rw [List.getElem?_append_right (by omega), lq, Nat.sub_self] at hq'
        have : c = q' := by injection hq'
        subst this
        rw [List.getElem?_take_of_lt (by omega), hr] at hr'
        injection hr' with hr'
        subst hr'
        have : RowL K (L2.upd H' c (.lst zs)) c r := ⟨zs, upd_same, (hz.ext (wo_same H p)).ext (s'.trans s2)⟩
        exact this.kp eL ncL kL
    · intro x hx'
      rcases List.mem_append.mp hx' with z | z
      · exact hn x z
      · rw [List.mem_singleton.mp z]; exact hcH
  · rintro H' ⟨s', qs, hR, hn⟩
    rw [ly, List.take_length] at hR
    exact q L qs H' s' hL hn hR
theorem RowsL.wo {K : PySem.W.Frag} {p R : Addr} {H : Hp} {qs : List Addr} {st : List (List Ent)} {l : List V} (h : RowsL K p H R qs st) (ep : H p = some (.lst l)) : RowsL K p (wo H p) R qs st := by
  refine ⟨by rw [wo_ne h.nRp]; exact h.e, h.nd, h.nR, h.np, h.nRp, h.len, fun j q r hq hr => ?_⟩
  obtain ⟨xs, e, ha⟩ := h.row j q r hq hr
  have nq : q ≠ p := fun z => h.np (by rw [← z]; exact List.mem_of_getElem? hq)
  exact ⟨xs, by rw [wo_ne nq]; exact e, dg_lfwoAll ep _ _ (lfAll_map lf_enD _) ha⟩
theorem RowsL.dgw {K : PySem.W.Frag} {p R : Addr} {H : Hp} {qs : List Addr} {st : List (List Ent)} {n : Nat} (h : RowsL K p H R qs st) (hb : BoxAt H p n) : Dg K (My.wo H p) false (.ref R) (.list (st.map fun r => .list (r.map enD))) := by
  obtain ⟨l, e⟩ := box_lst hb
  exact (h.wo e).dg
theorem lf_wd (e : Option (List Nat)) : lfD (wdD e) = true := by cases e <;> rfl
/-- the words at a list of one's own -/
structure WrdL (K : PySem.W.Frag) (p : Addr) (H : Hp) (W : Addr) (en : List (Option (List Nat))) : Prop where
  np : W ≠ p
  ex : ∃ zs, H W = some (.lst zs) ∧ DgAll K H false zs (en.map wdD)
section
variable {K : PySem.W.Frag} {p W M : Addr} {H H' : Hp} {en : List (Option (List Nat))} {l : List V}
theorem WrdL.kp (h : WrdL K p H W en) (eM : H M = some (.lst l)) (n : W ≠ M) (k : Kp M H H') : WrdL K p H' W en := by
  obtain ⟨np, zs, e, ha⟩ := h
  exact ⟨np, zs, k _ _ n e, ((dg_lfwoAll eM _ _ (lfAll_map lf_wd _) ha).ext k.wo).ext (wo_same H' M)⟩
theorem WrdL.ext (h : WrdL K p H W en) (s : Same H H') : WrdL K p H' W en := by
  obtain ⟨np, zs, e, ha⟩ := h
  exact ⟨np, zs, s _ _ e, ha.ext s⟩
theorem WrdL.box {n : Nat} (h : WrdL K p H W en) (hb : BoxAt H p n) (k : Kp p H H') : WrdL K p H' W en := by
  obtain ⟨xs, e⟩ := box_lst hb
  exact h.kp e h.np k
theorem WrdL.dgw {n : Nat} (h : WrdL K p H W en) (hb : BoxAt H p n) : Dg K (My.wo H p) false (.ref W) (.list (en.map wdD)) := by
  obtain ⟨l, el⟩ := box_lst hb
  obtain ⟨np, zs, e, ha⟩ := h
  exact .lst (SqL.of (by rw [wo_ne np]; exact e)) (fun z => by cases z) (dg_lfwoAll el _ _ (lfAll_map lf_wd _) ha)
theorem WrdL.put {j : Nat} {v : V} {e : Option (List Nat)} {zs : List V} (h : WrdL K p H W en) (ez : H W = some (.lst zs)) (hv : Dg K H false v (wdD e)) : WrdL K p (L2.upd H W (.lst (zs.set j v))) W (en.set j e) := by
  obtain ⟨np, zs', e', ha⟩ := h
  rw [ez] at e'
  injection e' with e'
  injection e' with e'
  subst e'
  refine ⟨np, _, upd_same, ?_⟩
  rw [List.map_set]
  exact (dgAll_put j (dg_lfwoAll ez _ _ (lfAll_map lf_wd _) ha) (dg_lfwo ez _ _ (lf_wd e) hv)).ext wo_updS
end
theorem ixN_at {n i : Nat} (h : i < n) : ixN n (i : Int) = some i := by
  unfold ixN
  simp
  omega
end My

set_option Elab.async false
set_option linter.all false
set_option maxRecDepth 100000
set_option maxHeartbeats 8000000
namespace My
open PySem PySem.Spec PyProof.Rows L2
def TupsAt (H : Hp) (bs : List Addr) (l : List Pl) : Prop := bs.length = l.length ∧ ∀ (j : Nat) b pl, bs[j]? = some b → l[j]? = some pl → H b = some (.tup (plV pl))
theorem TupsAt.ext {H H' : Hp} {bs : List Addr} {l : List Pl} (h : TupsAt H bs l) (k : ∀ b ys, H b = some (.tup ys) → H' b = some (.tup ys)) : TupsAt H' bs l := ⟨h.1, fun j b pl hb hp => k _ _ (h.2 j b pl hb hp)⟩
theorem TupsAt.snoc {H : Hp} {bs : List Addr} {l : List Pl} {b : Addr} {pl : Pl} (h : TupsAt H bs l) (hb : H b = some (.tup (plV pl))) : TupsAt H (bs ++ [b]) (l ++ [pl]) := by
  obtain ⟨hl, a⟩ := h
  refine ⟨by rw [List.length_append, List.length_append, hl]; rfl, fun j c q hc hq => ?_⟩
  by_cases hj : j < bs.length
  · rw [List.getElem?_append_left hj] at hc
    rw [List.getElem?_append_left (by omega)] at hq
    exact a j c q hc hq
  · have ej : j = bs.length := by
      have := (List.getElem?_eq_some_iff.mp hc).1
      rw [List.length_append] at this
      simp at this
      omega
    rw [ej, List.getElem?_concat_length] at hc
    rw [ej, hl, List.getElem?_concat_length] at hq
    injection hc with hc
    injection hq with hq
    rw [← hc, ← hq]; exact hb
/-- the rows that were worked out -/
def RowsAt (H : Hp) (rs : List Addr) (ls : List (List (Option (Pl × List Nat)))) : Prop := rs.length = ls.length ∧ ∀ (j : Nat) r xs, rs[j]? = some r → ls[j]? = some xs → ∃ evs, H r = some (.lst evs) ∧ EntsAt H evs xs
theorem RowsAt.ext {H H' : Hp} {rs : List Addr} {ls : List (List (Option (Pl × List Nat)))} (h : RowsAt H rs ls) (k : ∀ b ys, H b = some (.tup ys) → H' b = some (.tup ys)) (k2 : ∀ r ys, r ∈ rs → H r = some (.lst ys) → H' r = some (.lst ys)) : RowsAt H' rs ls := ⟨h.1, fun j r xs hr hx => by
  obtain ⟨evs, e, he⟩ := h.2 j r xs hr hx
  exact ⟨evs, k2 _ _ (List.mem_of_getElem? hr) e, he.ext k⟩⟩
theorem RowsAt.snoc {H : Hp} {rs : List Addr} {ls : List (List (Option (Pl × List Nat)))} {r : Addr} {xs : List (Option (Pl × List Nat))} {evs : List V} (h : RowsAt H rs ls) (e : H r = some (.lst evs)) (he : EntsAt H evs xs) : RowsAt H (rs ++ [r]) (ls ++ [xs]) := by
  obtain ⟨hl, a⟩ := h
  refine ⟨by rw [List.length_append, List.length_append, hl]; rfl, fun j c q hc hq => ?_⟩
  by_cases hj : j < rs.length
  · rw [List.getElem?_append_left hj] at hc
    rw [List.getElem?_append_left (by omega)] at hq
    exact a j c q hc hq
  · have ej : j = rs.length := by
      have := (List.getElem?_eq_some_iff.mp hc).1
      rw [List.length_append] at this
      simp at this
      omega
    rw [ej, List.getElem?_concat_length] at hc
    rw [ej, hl, List.getElem?_concat_length] at hq
    injection hc with hc
    injection hq with hq
    rw [← hc, ← hq]; exact ⟨evs, e, he⟩
/-- what stands before the i-th turn -/
structure WSt (H0 : Hp) (Na Ra Qa : Addr) (D : Dcd) (n i : Nat) (F : List Pl) (H : Hp) : Prop where
  s : Same H0 H
  q : ∃ bs, H Qa = some (.lst (bs.map V.ref)) ∧ TupsAt H bs F
  nm : H Na = some (.dT (numK F))
  rw : ∃ rs, H Ra = some (.lst (rs.map V.ref)) ∧ Ra ∉ rs ∧ Qa ∉ rs ∧ RowsAt H rs ((F.take i).map (rowP D n))
theorem WSt.same {H0 H H' : Hp} {Na Ra Qa : Addr} {D : Dcd} {n i : Nat} {F : List Pl} (h : WSt H0 Na Ra Qa D n i F H) (s : Same H H') : WSt H0 Na Ra Qa D n i F H' := by
  obtain ⟨s0, ⟨bs, e1, t1⟩, e2, rs, e3, n1, n2, r1⟩ := h
  exact ⟨s0.trans s, ⟨bs, s _ _ e1, t1.ext fun b ys e => s _ _ e⟩, s _ _ e2, rs, s _ _ e3, n1, n2, r1.ext (fun b ys e => s _ _ e) fun r ys _ e => s _ _ e⟩
def isSz : PyData → Bool | .int i => decide (1 ≤ i) && decide (i ≤ 4) | _ => false
section
variable {P : Program} {w : World} {K : PySem.W.Frag} {mg : Str → Option Value} {base : Heap}
def spChk (T : Txt K mg) : Sp := fun vs H Q E => ∃ x y, vs = [x, y] ∧ ((∃ d m, Dg K H m x d ∧ Bad T.C_InvalidDecoder H x E) ∨
  (∃ o D, x = .ref o ∧ DecAt K T.C_Decoder H o D ∧ ((∃ e m, Dg K H m y e ∧ isSz e = false ∧ Bad T.C_InvalidPeriod H y E) ∨
    (∃ n : Nat, y = .int (n : Nat) ∧ Sml D n ∧ (40 < (FinP D n).length → BadC T.C_TooMany H (.int ((FinP D n).length : Nat)) E) ∧ ((FinP D n).length ≤ 40 → ∀ r H', Same H H' → DecAt K T.C_Decoder H' r (ChkD D n) → Q (.ref r) H')))))
theorem ok_with_check (T : Txt K mg) : FnOk P w K mg base (L2.CX P w) 9 T.f_with_check T.fd_with_check ["decoder", "size"] (spChk T) := by
  refine T.F_with_check.okX sc_with_check (fun vs H Q E h => ?_) (fun cdv A outer s H vs Q E hr h => ?_)
  · obtain ⟨x, y, rfl, _⟩ := h; rfl
  · obtain ⟨x, y, rfl, h⟩ := h
    refine ⟨_, (pss_cons (ps_expr (pe_call (ok_check_decoder T) (hr.mono (by decide)) rfl T.g_check_decoder T.F_check_decoder.kp T.b_check_decoder .nil (passes_call (takes_of rfl rfl rfl rfl) (fun _ _ _ _ z => z)) (pa_cons (pv 0) pa_nil)))
      (pss_cons (ps_if (PW.pt (pw_or (pt_not (pt_val (pe_call (ok_is_integer T) (hr.mono (by decide)) rfl T.g_is_integer T.F_is_integer.kp T.b_is_integer .nil pass0 (pa_cons (pv 1) pa_nil)))) (pw_or1 (pt_not (pt_chain op_le op_le pe_int (pv 1) (pe_glob (v := .int (4)) rfl T.c_MOST_SIZE ⟨_, rfl⟩)))))) (pss_one (ps_raiseE rfl T.e_InvalidPeriod hr (takes_of rfl rfl rfl rfl) (pa_cons (pv 1) pa_nil))) pss_nil)
      (pss_cons (ps_set (i := 2) sc_with_check.nd rfl (Or.inr rfl) (pe_dispT1 (hu_of hr) (pe_tup (pa_cons pe_int (pa_cons pe_int (pa_cons pe_int pa_nil)))) pe_int))
      (pss_cons (ps_set (i := 3) sc_with_check.nd rfl (Or.inl rfl) (pe_lst pa_nil))
      (pss_cons (ps_set (i := 4) sc_with_check.nd rfl (Or.inr rfl) (pe_lst (pa_cons (pe_tup (pa_cons pe_int (pa_cons pe_int (pa_cons pe_int pa_nil)))) pa_nil)))
      (pss_cons (ps_set (i := 5) sc_with_check.nd rfl (Or.inr rfl) pe_int)
      (pss_cons (ps_while (passes_of rfl) (pt_cmpR op_lt (pv 5) (pe_callB call_len_seq (by rfl) T.z_len (by decide +kernel) (pa_cons (pv 4) pa_nil)) (nomark _)) (pss_cons (ps_setLc (i := 6) (own := [("sign", 7)]) (g := gName 7) (by rfl) sc_with_check.nd rfl rfl (sw_true rfl rfl rfl (by decide +kernel)) (pi_range1 rfl T.z_range (pa_cons (pe_fld (pv 0) rfl) pa_nil)) (blkOk_by (own := [("sign", 7)]) (N := N_with_check) (sc := defScope s_with_check) (by decide +kernel)) (fun _ _ _ _ _ => pg_name (i := 7) sc_with_check.nd rfl (Or.inl rfl)) (fun _ _ _ _ _ => pts_nil) (fun _ _ _ _ _ => (pe_call (ok_checked_entry T) (hr.mono (by decide)) rfl T.g_checked_entry T.F_checked_entry.kp T.b_checked_entry .nil pass0 (pa_cons (pv 0) (pa_cons (pv 1) (pa_cons (pe_ix (ix_listK (K := K) rfl) (pv 4) (pv 5) (fun _ _ => rfl)) (pa_cons (pv 7) pa_nil)))))))
      (pss_cons (ps_for (passes_of rfl) rfl (pi_list (pv 6)) (pg_name (i := 8) sc_with_check.nd rfl (Or.inl rfl)) (pss_one (ps_if (PW.pt (pw_and (pt_cmp (pc_notN (pv 8))) (pw_and1 (pt_cmp (pc_dnotin (hu_of hr) (pe_ix ix_tup (pv 8) pe_int (fun _ _ => rfl)) (pv 2)))))) (pss_cons (ps_dput (hu_of hr) (pv 2) (pe_ix ix_tup (pv 8) pe_int (fun _ _ => rfl)) (pe_callB call_len_dT (by rfl) T.z_len (by decide +kernel) (pa_cons (pv 2) pa_nil)) rfl)
      (pss_one (ps_expr (pe_bm PySem.F.plainAttrs_list PySem.F.slot_list_append PySem.F.type_list_append mt_append (pv 4) (pa_cons (pe_ix ix_tup (pv 8) pe_int (fun _ _ => rfl)) pa_nil))))) pss_nil)))
      (pss_cons (ps_expr (pe_bm PySem.F.plainAttrs_list PySem.F.slot_list_append PySem.F.type_list_append mt_append (pv 3) (pa_cons (pv 6) pa_nil)))
      (pss_one (ps_aug (i := 5) sc_with_check.nd rfl (Or.inr rfl) pe_int ip_add))))))
      (pss_cons (ps_if (pt_cmpR op_gt (pe_callB call_len_dT (by rfl) T.z_len (by decide +kernel) (pa_cons (pv 2) pa_nil)) (pe_glob (v := .int (40)) rfl T.c_MOST_STATES ⟨_, rfl⟩) (nomark _)) (pss_one (ps_raiseC rfl T.e_TooMany hr (takes_of rfl rfl rfl rfl) (pa_cons (pe_callB call_len_dT (by rfl) T.z_len (by decide +kernel) (pa_cons (pv 2) pa_nil)) pa_nil))) pss_nil)
      (pss_cons (ps_setLc (i := 9) (own := [("row", 6)]) (g := gName 6) (by rfl) sc_with_check.nd rfl rfl (sw_true rfl rfl rfl (by decide +kernel)) (pi_list (pv 3)) (blkOk_by (own := [("row", 6)]) (N := N_with_check) (sc := defScope s_with_check) (by decide +kernel)) (fun _ _ _ _ _ => pg_name (i := 6) sc_with_check.nd rfl (Or.inl rfl)) (fun _ _ _ _ _ => pts_nil) (fun _ _ _ _ _ => (pe_call (ok_numbered T) (hr.mono (by decide)) rfl T.g_numbered T.F_numbered.kp T.b_numbered .nil pass0 (pa_cons (pv 6) (pa_cons (pv 2) pa_nil)))))
      (pss_cons (ps_setLc (i := 10) (own := [("state", 11), ("many", 12), ("_", 13)]) (g := gTup K 3 (gCons (gName 11) (gCons (gName 12) (gCons (gName 13) gNil)))) (by rfl) sc_with_check.nd rfl rfl (sw_true rfl rfl rfl (by decide +kernel)) (pi_list (pv 4)) (blkOk_by (own := [("state", 11), ("many", 12), ("_", 13)]) (N := N_with_check) (sc := defScope s_with_check) (by decide +kernel)) (fun _ _ _ _ _ => (pg_tupK (K := K) rfl (by rfl) (pgs_cons (pg_name (i := 11) sc_with_check.nd rfl (Or.inl rfl)) (pgs_cons (pg_name (i := 12) sc_with_check.nd rfl (Or.inl rfl)) (pgs_cons (pg_name (i := 13) sc_with_check.nd rfl (Or.inl rfl)) pgs_nil))))) (fun _ _ _ _ _ => pts_nil) (fun _ _ _ _ _ => (pe_ifExp (pt_cmpR op_eq (pv 12) pe_int (nomark _)) (pe_ix (ix_tupK (K := K) rfl) (pe_fldK (K := K) rfl (pv 0) rfl) (pv 11) (fun _ _ => rfl)) pe_non)))
      (pss_one (ps_ret (pe_make T.mk_Decoder (ok_Decoder_init T) (hr.mono (by decide)) rfl T.g_Decoder T.b_Decoder_init .nil (passes_call (takes_of rfl rfl rfl rfl) (fun _ _ _ _ z => z)) (pa_cons (pe_fld (pv 0) rfl) (pa_cons (pv 9) (pa_cons (pv 10) pa_nil)))))))))))))))), ?_⟩
    rcases h with ⟨d, m, hd, kb⟩ | ⟨o, D, rfl, dec, h⟩
    · exact ⟨_, rfl, x, rfl, .inr ⟨d, m, hd, kb⟩⟩
    refine ⟨_, rfl, .ref o, rfl, .inl ⟨o, D, rfl, dec, ?_⟩⟩
    rcases h with ⟨e, m, hy, hsz, kb⟩ | ⟨n, rfl, sm, kT, kQ⟩
    · refine ⟨_, rfl, y, e, m, rfl, hy, ?_⟩
      have raise_ : tRaiseE T.C_InvalidPeriod (fun cls d x H => E cls d H) (tCons (tVar 1) tNil) { nx := fun _ _ => True, rt := fun _ _ => True } (L2.start N_with_check [V.ref o, y]) H := ⟨_, rfl, y, rfl, fun dd hdd => kb dd _ (Same.new (Same.refl _) hdd) hdd upd_same⟩
      cases c : isI e with
      | false => exact ⟨_, rfl, iteT raise_⟩
      | true =>
        obtain ⟨i, rfl⟩ : ∃ i, e = .int i := by cases e <;> first | exact ⟨_, rfl⟩ | cases c
        obtain rfl := hy.int_of
        have hsz' : (decide (1 ≤ i) && decide (i ≤ 4)) = false := hsz
        refine ⟨_, rfl, iteF ?_⟩
        refine ⟨_, rfl, _, _, rfl, rfl, _, rfl, ?_⟩
        cases c1 : decide (1 ≤ i) with
        | false => exact iteF ⟨_, rfl, iteT raise_⟩
        | true =>
          rw [c1, Bool.true_and] at hsz'
          refine iteT ⟨_, _, rfl, rfl, _, rfl, ?_⟩
          rw [hsz']
          exact iteT raise_
    -- a good size
    have ok := sm.ok
    have n1 := sm.n1
    have n4 := sm.n4
    have sg1 := ok.s1
    have sg5 := ok.s5
    obtain ⟨⟨dx, Sa, Ea, eo, hs, he⟩, _⟩ := id dec
    have one : 1 ≤ sizeLine := by decide
    have two : 2 ≤ sizeLine := by decide
    have three : 3 ≤ sizeLine := by decide
    refine ⟨_, rfl, .int (n : Nat), .int (n : Nat), false, rfl, .int _, _, rfl, iteF ⟨_, rfl, _, _, rfl, rfl, _, rfl, ?_⟩⟩
    rw [decide_eq_true (show (1 : Int) ≤ (n : Int) by omega)]
    refine iteT ⟨_, _, rfl, rfl, _, rfl, ?_⟩
    rw [decide_eq_true (show (n : Int) ≤ 4 by omega)]
    refine iteF fun Na hNa => ⟨three, fun b0 hb0 => ⟨?_, b0, keyP (0, 0, 0), rfl, upd_same, ?_⟩⟩
    · have nNb : Na ≠ b0 := fun z => by rw [← z, upd_same] at hb0; cases hb0
      rw [upd_ne nNb]; exact upd_same
    have nNb : Na ≠ b0 := fun z => by rw [← z, upd_same] at hb0; cases hb0
    have s1 : Same H (upd (upd (upd H Na (.dT [])) b0 (.tup [.int 0, .int 0, .int 0])) Na (.dT [(keyP (0, 0, 0), .int 0)])) := fun b ob e => by
      have h1 : b ≠ Na := fun z => by rw [z, hNa] at e; cases e
      have h2 : b ≠ b0 := fun z => by
        have : (upd H Na (.dT [])) b0 = some ob := by rw [← z, upd_ne h1]; exact e
        rw [hb0] at this; cases this
      rw [upd_ne h1, upd_ne h2, upd_ne h1]; exact e
    have eN1 : (upd (upd (upd H Na (.dT [])) b0 (.tup [.int 0, .int 0, .int 0])) Na (.dT [(keyP (0, 0, 0), .int 0)])) Na = some (.dT (numK (Sq D n 0))) := by rw [upd_same, Sq_zero]; rfl
    generalize upd (upd (upd H Na (.dT [])) b0 (.tup [.int 0, .int 0, .int 0])) Na (.dT [(keyP (0, 0, 0), .int 0)]) = H1 at s1 eN1 ⊢
    refine ⟨(by show 0 ≤ sizeLine; decide), fun Ra hRa => ?_⟩
    have s2 : Same H1 (upd H1 Ra (.lst [])) := Same.new (Same.refl _) hRa
    have eR2 : (upd H1 Ra (.lst [])) Ra = some (.lst []) := upd_same
    have eN2 := s2 _ _ eN1
    have hRH : H Ra = none := s1.free hRa
    generalize upd H1 Ra (.lst []) = H2 at s2 eR2 eN2 ⊢
    refine ⟨three, fun b1 hb1 => ⟨one, fun Qa hQa => ?_⟩⟩
    have s3 : Same H2 (upd H2 b1 (.tup [.int 0, .int 0, .int 0])) := Same.new (Same.refl _) hb1
    have eb3 : (upd H2 b1 (.tup [.int 0, .int 0, .int 0])) b1 = some (.tup (plV (0, 0, 0))) := upd_same
    have eR3 := s3 _ _ eR2
    have eN3 := s3 _ _ eN2
    have s03 := (s1.trans s2).trans s3
    generalize upd H2 b1 (.tup [.int 0, .int 0, .int 0]) = H3 at s3 eb3 eR3 eN3 s03 hQa ⊢
    have s4 : Same H3 (upd H3 Qa (.lst [.ref b1])) := Same.new (Same.refl _) hQa
    have eQ4 : (upd H3 Qa (.lst [.ref b1])) Qa = some (.lst [.ref b1]) := upd_same
    have hQH : H Qa = none := s03.free hQa
    have nRQ : Ra ≠ Qa := fun z => by rw [← z, eR3] at hQa; cases hQa
    have st0 : WSt H Na Ra Qa D n 0 (Sq D n 0) (upd H3 Qa (.lst [.ref b1])) := ⟨s03.trans s4, ⟨[b1], eQ4, by rw [Sq_zero]; rfl, fun j b pl hb hp => by
      rw [Sq_zero] at hp
      match j, hb, hp with
      | 0, hb, hp =>
        injection hb with hb
        injection hp with hp
        subst hb hp
        exact s4 _ _ eb3⟩, s4 _ _ eN3, [], s4 _ _ eR3, List.not_mem_nil, List.not_mem_nil, by rw [List.take_zero]; rfl, fun j r xs hr _ => by cases hr⟩
    generalize upd H3 Qa (.lst [.ref b1]) = H4 at s4 eQ4 st0 ⊢
    dsimp only [L2.gName]
    refine ⟨fun m σ H' => ∃ i x6 x8, σ = [some (.ref o), some (.int (n : Nat)), some (.ref Na), some (.ref Ra), some (.ref Qa), some (.int (i : Nat)), x6, none, x8, none, none, none, none, none] ∧ m = 100 - i ∧ i ≤ (Sq D n i).length ∧ WSt H Na Ra Qa D n i (Sq D n i) H', ⟨_, 0, _, _, rfl, rfl, Nat.zero_le _, st0⟩, ?_⟩
    rintro m σ H5 ⟨i, x6, x8, rfl, rfl, hi, st⟩
    have l75 := sm.len i
    obtain ⟨s5, ⟨bs, eQ, tQ⟩, eN, rs, eR, nRr, nQr, rR⟩ := id st
    refine ⟨_, rfl, _, rfl, Qa, _, rfl, .inl (SqL.of eQ), _, _, rfl, rfl, _, rfl, ?_⟩
    rw [List.length_map, tQ.1]
    by_cases hlt : i < (Sq D n i).length
    · rw [decide_eq_true (show (i : Int) < ((Sq D n i).length : Nat) by omega)]
      obtain ⟨pl, hpl⟩ : ∃ pl, (Sq D n i)[i]? = some pl := ⟨_, List.getElem?_eq_getElem hlt⟩
      obtain ⟨b, hb⟩ : ∃ b, bs[i]? = some b := ⟨_, List.getElem?_eq_getElem (by rw [tQ.1]; exact hlt)⟩
      have ebp := tQ.2 i b pl hb hpl
      have hbR : (bs.map V.ref)[i]? = some (.ref b) := by rw [List.getElem?_map, hb]; rfl
      have vp := Sq_vp ok i pl (List.mem_of_getElem? hpl)
      have lrow : (rowP D n pl).length = D.sg := by unfold rowP; rw [List.length_map, List.length_range]
      refine ⟨fun σ' H' => ∃ x6 x8, σ' = [some (.ref o), some (.int (n : Nat)), some (.ref Na), some (.ref Ra), some (.ref Qa), some (.int ((i + 1 : Nat) : Int)), x6, none, x8, none, none, none, none, none] ∧ WSt H Na Ra Qa D n (i + 1) (Sq D n (i + 1)) H', fun σ' H' ⟨x6, x8, e, w'⟩ => ⟨_, by omega, i + 1, x6, x8, e, rfl, ?_, w'⟩, ?_⟩
      · have := (Sq_pre1 (D := D) (n := n) i).length_le
        omega
      have eo5 := s5 _ _ eo
      refine ⟨_, rfl, o, _, dx, _, _, rfl, eo5, T.cl_Decoder, T.na_Decoder_signs, dfs_signs, (D.sg : Int), rfl, by omega, by omega, fun L hL => ?_⟩
      rw [Int.toNat_natCast]
      refine lc_range (lo := 0) (n := D.sg) (fun j H' => Same H5 H' ∧ ∃ evs, H' L = some (.lst evs) ∧ EntsAt H' evs ((rowP D n pl).take j)) ⟨Same.new (Same.refl _) hL, [], upd_same, by rw [List.take_zero]; exact ⟨rfl, fun j v x hv _ => by cases hv⟩⟩ ?_ ?_
      · rintro j H' hj ⟨s', evs, eL, he'⟩
        refine ⟨rfl, tYesT ⟨_, rfl, _, rfl, _, rfl, _, rfl, Qa, _, (i : Int), .ref b, rfl, rfl, SqL.of (s' _ _ eQ), atI_nat hbR, _, rfl, o, b, D, n, j, pl, congrArg (fun z => [V.ref o, V.int (n : Nat), V.ref b, V.int z]) (Int.zero_add _), dec.ext (s5.trans s'), s' _ _ ebp, vp, hj, fun v H6 s6 hv => ?_⟩⟩
        have eL6 := s6 _ _ eL
        have hLH5 : H5 L = none := hL
        refine ⟨evs, eL6, by rw [he'.1, List.length_take]; exact Nat.lt_of_le_of_lt (Nat.min_le_left _ _) (Nat.lt_of_lt_of_le (show j < 6 by omega) (by decide)), fun c oc ec => ?_, evs ++ [v], upd_same, ?_⟩
        · rw [upd_ne (ne_of_none ec hLH5)]
          exact s6 _ _ (s' _ _ ec)
        · have e1 : (rowP D n pl).take (j + 1) = (rowP D n pl).take j ++ [nx D n pl j] := by
            rw [List.take_add_one]
            have : (rowP D n pl)[j]? = some (nx D n pl j) := by unfold rowP; rw [List.getElem?_map, List.getElem?_range hj]; rfl
            rw [this]; rfl
          rw [e1]
          have kt : ∀ c ys, H6 c = some (.tup ys) → (upd H6 L (.lst (evs ++ [v]))) c = some (.tup ys) := fun c ys ec => by rw [upd_ne (fun z => by rw [z, eL6] at ec; cases ec)]; exact ec
          exact ((he'.ext fun c ys ec => s6 _ _ ec).ext kt).snoc (hv.ext kt)
      rintro H6 ⟨s6, evs, eL, hev⟩
      rw [List.take_of_length_le (by omega)] at hev
      have st6 := st.same s6
      have hLH : H L = none := s5.free hL
      dsimp only [L2.gName]
      refine ⟨_, rfl, L, rfl, ⟨_, SqL.of eL⟩, ?_⟩
      refine for_list (K := K) (a := L) (xs := evs) (fun j σ' H' => ∃ x8, σ' = [some (.ref o), some (.int (n : Nat)), some (.ref Na), some (.ref Ra), some (.ref Qa), some (.int (i : Nat)), some (.ref L), none, x8, none, none, none, none, none] ∧ H' L = some (.lst evs) ∧ EntsAt H' evs (rowP D n pl) ∧ WSt H Na Ra Qa D n i (((rowP D n pl).take j).foldl addP (Sq D n i)) H') ?_ ?_ ?_ ?_
      · exact ⟨_, rfl, eL, hev, st6⟩
      · rintro j σ' H' _ ⟨x8, rfl, e', _, _⟩
        exact SqL.of e'
      · rintro j v σ' H' hv ⟨x8, rfl, eL', hev', st'⟩
        have hj := (List.getElem?_eq_some_iff.mp hv).1
        obtain ⟨x, hx⟩ : ∃ x, (rowP D n pl)[j]? = some x := ⟨_, List.getElem?_eq_getElem (by rw [← hev'.1]; exact hj)⟩
        have hent := hev'.2 j v x hv hx
        have ef : ((rowP D n pl).take (j + 1)).foldl addP (Sq D n i) = addP (((rowP D n pl).take j).foldl addP (Sq D n i)) x := by rw [List.take_add_one, hx, List.foldl_append]; rfl
        have pre := foldP_pre ((rowP D n pl).take j) (Sq D n i)
        have nodF := foldP_nodup ((rowP D n pl).take j) (Sq D n i) (Sq_nodup i)
        have lenF : (((rowP D n pl).take j).foldl addP (Sq D n i)).length ≤ 75 := by
          have h1 : ((rowP D n pl).take j).foldl addP (Sq D n i) <+: (rowP D n pl).foldl addP (Sq D n i) := by
            have := foldP_pre ((rowP D n pl).drop j) (((rowP D n pl).take j).foldl addP (Sq D n i))
            rwa [← List.foldl_append, List.take_append_drop] at this
          rw [← Sq_succ hpl] at h1
          exact Nat.le_trans h1.length_le (sm.len (i + 1))
        rw [ef]
        generalize ((rowP D n pl).take j).foldl addP (Sq D n i) = F at st' pre nodF lenF ⊢
        have liF : i ≤ F.length := Nat.le_trans hi pre.length_le
        cases x with
        | none =>
          obtain rfl : v = .non := hent
          exact ⟨_, rfl, _, rfl, iteF ⟨_, rfl, eL', hev', st'⟩⟩
        | some p =>
          obtain ⟨g, u⟩ := p
          obtain ⟨e, b', rfl, he', hb'⟩ := hent
          obtain ⟨s'', ⟨bs', eQ', tQ'⟩, eN', rs', eR', nR', nQ', rR'⟩ := id st'
          have hk := DGet.t (k := keyP g) eN' hb'
          by_cases hg : g ∈ F
          · have ea : addP F (some (g, u)) = F := by show (if g ∈ F then F else F ++ [g]) = F; rw [if_pos hg]
            rw [ea]
            rw [valV_num nodF hg] at hk
            exact ⟨_, rfl, _, rfl, iteT ⟨_, rfl, e, _, _, _, rfl, rfl, SqT.of he', atI_nat (j := 0) rfl, _, rfl, Na, _, rfl, hk, _, rfl, iteF ⟨_, rfl, eL', hev', st'⟩⟩⟩
          · have ea : addP F (some (g, u)) = F ++ [g] := by show (if g ∈ F then F else F ++ [g]) = F ++ [g]; rw [if_neg hg]
            rw [ea]
            rw [valV_none hg] at hk
            have hput := DPut.t (v := V.int (F.length : Nat)) (k := keyP g) eN' hb' (by rw [numK_len]; exact Nat.lt_of_le_of_lt lenF (by decide))
            rw [put_num hg] at hput
            refine ⟨_, rfl, _, rfl, iteT ⟨_, rfl, e, _, _, _, rfl, rfl, SqT.of he', atI_nat (j := 0) rfl, _, rfl, Na, _, rfl, hk, _, rfl, iteT ⟨_, rfl, Na, _, rfl, eN', _, rfl, _, rfl, e, _, _, _, rfl, rfl, SqT.of he', atI_nat (j := 0) rfl, Na, _, rfl, (by rw [numK_len]; exact hput), ?_⟩⟩⟩
            have nQN : Qa ≠ Na := fun z => by rw [z, eN'] at eQ'; cases eQ'
            have nRN : Ra ≠ Na := fun z => by rw [z, eN'] at eR'; cases eR'
            have nLN : L ≠ Na := fun z => by rw [z, eN'] at eL'; cases eL'
            have kt : ∀ c ys, H' c = some (.tup ys) → (upd H' Na (.dT (numK (F ++ [g])))) c = some (.tup ys) := fun c ys ec => by rw [upd_ne (fun z => by rw [z, eN'] at ec; cases ec)]; exact ec
            have kl : ∀ c ys, H' c = some (.lst ys) → (upd H' Na (.dT (numK (F ++ [g])))) c = some (.lst ys) := fun c ys ec => by rw [upd_ne (fun z => by rw [z, eN'] at ec; cases ec)]; exact ec
            have sA : Same H (upd H' Na (.dT (numK (F ++ [g])))) := fun c oc ec => by rw [upd_ne (ne_of_none ec hNa)]; exact s'' _ _ ec
            have eNA : (upd H' Na (.dT (numK (F ++ [g])))) Na = some (.dT (numK (F ++ [g]))) := upd_same
            have eQA := kl _ _ eQ'
            have eRA := kl _ _ eR'
            have eLA := kl _ _ eL'
            have heA := kt _ _ he'
            have hbA := kt _ _ hb'
            have hevA := hev'.ext kt
            have tQA := tQ'.ext kt
            have rRA := rR'.ext kt fun r ys _ er => kl _ _ er
            generalize upd H' Na (.dT (numK (F ++ [g]))) = HA at sA eNA eQA eRA eLA heA hbA hevA tQA rRA ⊢
            refine ⟨_, rfl, .inl ⟨rfl, _, SqL.of eQA⟩, _, rfl, e, _, _, _, rfl, rfl, SqT.of heA, atI_nat (j := 0) rfl, Qa, _, _, rfl, rfl, eQA, (by rw [List.length_map, tQA.1]; exact Nat.lt_of_le_of_lt lenF (by decide)), ?_⟩
            have hLq : L ≠ Qa := fun z => by rw [z] at hL; rw [eQ] at hL; cases hL
            have kt2 : ∀ c ys, HA c = some (.tup ys) → (upd HA Qa (.lst (bs'.map V.ref ++ [.ref b']))) c = some (.tup ys) := fun c ys ec => by rw [upd_ne (fun z => by rw [z, eQA] at ec; cases ec)]; exact ec
            have eN2 : (upd HA Qa (.lst (bs'.map V.ref ++ [.ref b']))) Na = some (.dT (numK (F ++ [g]))) := by rw [upd_ne nQN.symm]; exact eNA
            refine ⟨_, rfl, by rw [upd_ne hLq]; exact eLA, hevA.ext kt2, fun c oc ec => by rw [upd_ne (ne_of_none ec hQH)]; exact sA _ _ ec, ⟨bs' ++ [b'], by rw [upd_same, List.map_append]; rfl, (tQA.ext kt2).snoc (kt2 _ _ hbA)⟩, eN2, rs', by rw [upd_ne nRQ]; exact eRA, nR', nQ', ?_⟩
            rw [List.take_append_of_le_length liF]
            exact rRA.ext kt2 fun r ys hr er => by rw [upd_ne (fun z => nQ' (by rw [← z]; exact hr))]; exact er
      · rintro σ' H' ⟨x8', rfl, eL', hev', st'⟩
        rw [List.take_of_length_le (by rw [hev'.1]; exact Nat.le_refl _), ← Sq_succ hpl] at st'
        obtain ⟨s'', ⟨bs', eQ', tQ'⟩, eN', rs', eR', nR', nQ', rR'⟩ := id st'
        have hLR : L ≠ Ra := fun z => by rw [z] at hL; rw [eR] at hL; cases hL
        have hLQ : L ≠ Qa := fun z => by rw [z] at hL; rw [eQ] at hL; cases hL
        have preS := Sq_pre1 (D := D) (n := n) i
        have l76 := sm.len (i + 1)
        have lrs : rs'.length ≤ 75 := by
          have := rR'.1
          rw [List.length_map, List.length_take] at this
          omega
        refine ⟨_, rfl, .inl ⟨rfl, _, SqL.of eR'⟩, _, rfl, Ra, _, _, rfl, rfl, eR', (by rw [List.length_map]; exact Nat.lt_of_le_of_lt lrs (by decide)), ?_⟩
        have nNR : Na ≠ Ra := fun z => by rw [← z, eN'] at eR'; cases eR'
        have kt : ∀ c ys, H' c = some (.tup ys) → (upd H' Ra (.lst (rs'.map V.ref ++ [.ref L]))) c = some (.tup ys) := fun c ys ec => by rw [upd_ne (fun z => by rw [z, eR'] at ec; cases ec)]; exact ec
        have eNA : (upd H' Ra (.lst (rs'.map V.ref ++ [.ref L]))) Na = some (.dT (numK (Sq D n (i + 1)))) := by rw [upd_ne nNR]; exact eN'
        have eQA : (upd H' Ra (.lst (rs'.map V.ref ++ [.ref L]))) Qa = some (.lst (bs'.map V.ref)) := by rw [upd_ne nRQ.symm]; exact eQ'
        have eLA : (upd H' Ra (.lst (rs'.map V.ref ++ [.ref L]))) L = some (.lst evs) := by rw [upd_ne hLR]; exact eL'
        have sA : Same H (upd H' Ra (.lst (rs'.map V.ref ++ [.ref L]))) := fun c oc ec => by rw [upd_ne (ne_of_none ec hRH)]; exact s'' _ _ ec
        have epl : (Sq D n (i + 1))[i]? = some pl := pre_get preS hpl
        have e1 : (Sq D n (i + 1)).take (i + 1) = (Sq D n (i + 1)).take i ++ [pl] := by rw [List.take_add_one, epl]; rfl
        have stA : WSt H Na Ra Qa D n (i + 1) (Sq D n (i + 1)) (upd H' Ra (.lst (rs'.map V.ref ++ [.ref L]))) := by
          refine ⟨sA, ⟨bs', eQA, tQ'.ext kt⟩, eNA, rs' ++ [L], by rw [upd_same, List.map_append]; rfl, fun z => ?_, fun z => ?_, ?_⟩
          · rcases List.mem_append.mp z with z | z
            · exact nR' z
            · exact hLR (List.mem_singleton.mp z).symm
          · rcases List.mem_append.mp z with z | z
            · exact nQ' z
            · exact hLQ (List.mem_singleton.mp z).symm
          · rw [e1, List.map_append]
            exact (rR'.ext kt fun r ys hr er => by rw [upd_ne (fun z => nR' (by rw [← z]; exact hr))]; exact er).snoc eLA (hev'.ext kt)
        generalize upd H' Ra (.lst (rs'.map V.ref ++ [.ref L])) = HB at stA ⊢
        exact ⟨_, rfl, _, _, rfl, rfl, _, _, rfl, stA⟩
    · rw [decide_eq_false (show ¬ (i : Int) < ((Sq D n i).length : Nat) by omega)]
      have eF : FinP D n = Sq D n i := sm.fin (by omega) (by omega)
      rw [← eF] at tQ eN rR l75
      have full : (FinP D n).take i = FinP D n := List.take_of_length_le (by rw [eF]; omega)
      rw [full] at rR
      refine ⟨_, rfl, Na, _, rfl, eN, _, _, rfl, rfl, _, rfl, ?_⟩
      rw [numK_len]
      refine ite2 (fun c => ?_) (fun c => ?_)
      · have c' := of_decide_eq_true c
        refine ⟨_, rfl, Na, _, rfl, eN, _, rfl, fun dd hdd => ?_⟩
        rw [numK_len]
        exact kT (by omega) dd _ (s5.trans (Same.new (Same.refl _) hdd)) (s5.free hdd) upd_same
      · have c' : ¬ ((40 : Int) < ((FinP D n).length : Nat)) := fun z => c (decide_eq_true z)
        have l40 : (FinP D n).length ≤ 40 := by omega
        obtain ⟨F, eFF⟩ : ∃ F, F = FinP D n := ⟨_, rfl⟩
        have nod : F.Nodup := by rw [eFF]; exact sm.nd
        have lF : F.length ≤ 40 := by rw [eFF]; exact l40
        rw [← eFF] at tQ eN rR
        have lrs : rs.length = F.length := by have := rR.1; rwa [List.length_map] at this
        have inF : ∀ pl ∈ F, ∀ g u, some (g, u) ∈ rowP D n pl → g ∈ F := fun pl hpl g u hg => by
          rw [eFF] at hpl ⊢
          obtain ⟨k, hk⟩ := List.getElem?_of_mem hpl
          obtain ⟨a, ha, e⟩ := rowP_mem hg
          exact sm.closed hk ha e
        have inV : ∀ pl ∈ F, Vp D n pl := fun pl hpl => by rw [eFF] at hpl; exact sm.vp hpl
        refine ⟨_, rfl, Ra, rfl, ⟨_, SqL.of eR⟩, fun Ld hLd => ?_⟩
        refine lc_list_dataL (K := K) (m := false) (p := Ld) (a := Ra) (xs := rs.map V.ref) (fun j => (F.map fun pl => PyData.list ((rowP D n pl).map (entDn F))).getD j .none) (SqL.of eR) hLd (by rw [List.length_map]; omega) (fun j v H' R N hv s' eD kk => ?_) (fun H6 ys s6 eL6 hy => ?_)
        · have hj := (List.getElem?_eq_some_iff.mp hv).1
          rw [List.length_map] at hj
          rw [List.getElem?_map] at hv
          obtain ⟨r, hr', rfl⟩ := Option.map_eq_some_iff.mp hv
          obtain ⟨pl, hpl⟩ : ∃ pl, F[j]? = some pl := ⟨_, List.getElem?_eq_getElem (by omega)⟩
          obtain ⟨evs, er, hev⟩ := rR.2 j r _ hr' (by rw [List.getElem?_map, hpl]; rfl)
          have ex : (F.map fun pl => PyData.list ((rowP D n pl).map (entDn F))).getD j .none = .list ((rowP D n pl).map (entDn F)) := by rw [List.getD_eq_getElem?_getD, List.getElem?_map, hpl]; rfl
          rw [ex] at kk
          refine ⟨rfl, tYesT ⟨_, rfl, _, rfl, r, Na, evs, rowP D n pl, F, rfl, s' _ _ er, hev.ext fun b ys e => s' _ _ e, s' _ _ eN, nod, fun g u hg => inF pl (List.mem_of_getElem? hpl) g u hg, by unfold rowP; rw [List.length_map, List.length_range]; omega, fun L' zs H7 s7 hL' eL' hz => ?_⟩⟩
          obtain ⟨l, eD⟩ := eD
          have nL : L' ≠ Ld := fun z => by rw [z, eD] at hL'; cases hL'
          have eD7 := s7 _ _ eD
          have lfs : lfAll ((rowP D n pl).map (entDn F)) = true := lfAll_map (fun x => lf_enD _) _
          refine kk _ H7 s7 (.lst (SqL.of (by rw [wo_ne nL, wo_ne nL]; exact eL')) (fun z => by cases z) ?_)
          rw [wo_wo]
          exact dg_lfwoAll eD7 _ _ lfs hz
        have hy := own_list0 hy
        have eStp : (List.range (rs.map V.ref).length).map (fun j => (F.map fun pl => PyData.list ((rowP D n pl).map (entDn F))).getD j .none) = F.map fun pl => PyData.list ((rowP D n pl).map (entDn F)) := by
          refine List.ext_getElem? fun j => ?_
          rw [List.getElem?_map, List.length_map]
          by_cases hj : j < rs.length
          · rw [List.getElem?_range hj, List.getElem?_eq_getElem (by rw [List.length_map]; omega)]
            show some ((F.map fun pl => PyData.list ((rowP D n pl).map (entDn F))).getD j .none) = _
            rw [List.getD_eq_getElem?_getD, List.getElem?_eq_getElem (by rw [List.length_map]; omega)]; rfl
          · rw [List.getElem?_eq_none (by rw [List.length_range]; omega), List.getElem?_eq_none (by rw [List.length_map]; omega)]; rfl
        rw [eStp] at hy
        have dSt : Dg K H6 false (.ref Ld) (ChkD D n).stL := by
          refine .lst (SqL.of eL6) (fun z => by cases z) ?_
          show DgAll K H6 false ys (((FinP D n).map fun pl => (rowP D n pl).map (numE (FinP D n))).map fun r => PyData.list (r.map enD))
          rw [List.map_map, ← eFF]
          have : ((fun r => PyData.list (List.map enD r)) ∘ fun pl => List.map (numE F) (rowP D n pl)) = fun pl => PyData.list ((rowP D n pl).map (entDn F)) := by
            funext pl
            show PyData.list (List.map enD (List.map (numE F) (rowP D n pl))) = _
            rw [List.map_map]; rfl
          rw [this]
          exact hy
        have eQ6 := s6 _ _ eQ
        dsimp only [L2.gName]
        refine ⟨_, rfl, Qa, rfl, ⟨_, SqL.of eQ6⟩, fun Le hLe => ?_⟩
        refine lc_list_data (K := K) (m := false) (p := Le) (a := Qa) (xs := bs.map V.ref) (fun j => (F.map fun pl => wdD (if pl.2.1 = 0 then D.en.getD pl.1 none else none)).getD j .none) (SqL.of eQ6) hLe (by rw [List.length_map, tQ.1]; omega) (fun j v H' R N hv s' eD kk => ?_) (fun H7 zs s7 eL7 hz => ?_)
        · have hj := (List.getElem?_eq_some_iff.mp hv).1
          rw [List.length_map] at hj
          rw [List.getElem?_map] at hv
          obtain ⟨b, hb, rfl⟩ := Option.map_eq_some_iff.mp hv
          have htl := tQ.1
          obtain ⟨pl, hpl⟩ : ∃ pl, F[j]? = some pl := ⟨_, List.getElem?_eq_getElem (by omega)⟩
          have ebp := s' _ _ (s6 _ _ (tQ.2 j b pl hb hpl))
          have ex : (F.map fun pl => wdD (if pl.2.1 = 0 then D.en.getD pl.1 none else none)).getD j .none = wdD (if pl.2.1 = 0 then D.en.getD pl.1 none else none) := by rw [List.getD_eq_getElem?_getD, List.getElem?_map, hpl]; rfl
          rw [ex] at kk
          refine ⟨b, _, rfl, SqT.of ebp, rfl, _, _, rfl, _, _, rfl, _, _, rfl, rfl, rfl, tYesT ⟨_, rfl, rfl, _, rfl, ?_⟩⟩
          have vi : decide (V.int (pl.2.1 : Nat) = V.int 0) = decide (pl.2.1 = 0) := by
            rw [Bool.eq_iff_iff, decide_eq_true_eq, decide_eq_true_eq]
            exact ⟨fun z => by have := V.int.inj z; omega, fun z => by rw [z]; rfl⟩
          rw [vi]
          refine ite2 (fun c => ?_) (fun c => ?_)
          · have c' : pl.2.1 = 0 := of_decide_eq_true c
            rw [if_pos c'] at kk
            have s05 := s5.trans (s6.trans s')
            obtain ⟨Ea', us, eEa, hus, hua⟩ := he.tup_of
            injection eEa with eEa
            subst eEa
            have hs1 := (inV pl (List.mem_of_getElem? hpl)).s
            have lE := ok.ends
            obtain ⟨v, d, ev, ed, dv⟩ := hua.nth (i := pl.1) (by rw [List.length_map]; omega)
            rw [List.getElem?_map, List.getElem?_eq_getElem (show pl.1 < D.en.length by omega)] at ed
            have ed := Option.some.inj ed
            have eg : D.en.getD pl.1 none = D.en[pl.1] := by rw [List.getD_eq_getElem?_getD, List.getElem?_eq_getElem (show pl.1 < D.en.length by omega)]; rfl
            rw [eg, ed] at kk
            refine ⟨_, rfl, o, _, dx, _, _, rfl, s05 _ _ eo, T.cl_Decoder, T.na_Decoder_ends, dfs_ends, _, rfl, Ea, _, _, _, rfl, rfl, hus.ext s05, atI_nat ev, kk _ H' (Same.refl _) ?_⟩
            rw [← ed] at dv ⊢
            cases q : D.en[pl.1] with
            | none =>
              rw [q] at dv
              obtain rfl : v = .non := by cases dv; rfl
              exact .non
            | some w =>
              rw [q] at dv
              obtain rfl := dv.str_of
              exact .str _
          · have c' : ¬ pl.2.1 = 0 := fun z => c (decide_eq_true z)
            rw [if_neg c'] at kk
            exact kk _ H' (Same.refl _) .non
        have hz := own_list0 hz
        have eEn : (List.range (bs.map V.ref).length).map (fun j => (F.map fun pl => wdD (if pl.2.1 = 0 then D.en.getD pl.1 none else none)).getD j .none) = F.map fun pl => wdD (if pl.2.1 = 0 then D.en.getD pl.1 none else none) := by
          have htl := tQ.1
          refine List.ext_getElem? fun j => ?_
          rw [List.getElem?_map, List.length_map]
          by_cases hj : j < bs.length
          · rw [List.getElem?_range hj, List.getElem?_eq_getElem (by rw [List.length_map]; omega)]
            show some ((F.map fun pl => wdD (if pl.2.1 = 0 then D.en.getD pl.1 none else none)).getD j .none) = _
            rw [List.getD_eq_getElem?_getD, List.getElem?_eq_getElem (by rw [List.length_map]; omega)]; rfl
          · rw [List.getElem?_eq_none (by rw [List.length_range]; omega), List.getElem?_eq_none (by rw [List.length_map]; omega)]; rfl
        rw [eEn] at hz
        have dEn : Dg K H7 false (.ref Le) (ChkD D n).enL := by
          refine .lst (SqL.of eL7) (fun z => by cases z) ?_
          show DgAll K H7 false zs (((FinP D n).map fun pl => if pl.2.1 = 0 then D.en.getD pl.1 none else none).map wdD)
          rw [List.map_map, ← eFF]
          exact hz
        have okC := sm.okC l40
        have goodC := Dcd.goodL okC
        have s07 := s5.trans (s6.trans s7)
        dsimp only [L2.gName]
        refine ⟨_, rfl, o, _, dx, _, _, rfl, s07 _ _ eo, T.cl_Decoder, T.na_Decoder_signs, dfs_signs, _, rfl, _, rfl, fun x1 dx1 hx1 hdx1 ne1 => ⟨x1, dx1, _, _, _, .int (D.sg : Nat), (ChkD D n).stL, (ChkD D n).enL, false, false, false, rfl, upd_same, .int _, made_dw hx1 hdx1 (dSt.ext s7), made_dw hx1 hdx1 dEn, weight_stL okC, weight_enL okC, .inr (.inr (.inr ⟨ChkD D n, goodC, fun H8 k8 dec8 => ⟨rfl, ?_⟩⟩))⟩⟩
        exact kQ l40 x1 H8 (s07.trans (made_same hx1 hdx1 k8)) dec8
end
end My

set_option Elab.async false
set_option linter.all false
set_option maxRecDepth 100000
set_option maxHeartbeats 8000000
namespace My
open PySem PySem.Spec PyProof.Rows L2
def wdV : Option (List Nat) → V | none => .non | some w => .str (S w)
theorem dg_wd {K : PySem.W.Frag} {H : Hp} {m : Bool} : ∀ e, Dg K H m (wdV e) (wdD e)
  | none => .non
  | some w => .str _
theorem map_of {α : Type} {f : α → PyData} {G : α → Prop} {es : List PyData} : (∀ e ∈ es, ∃ q : α, e = f q ∧ G q) → ∃ l : List α, es = l.map f ∧ l.length = es.length ∧ ∀ q ∈ l, G q := by
  induction es with
  | nil => exact fun _ => ⟨[], rfl, rfl, fun q h => by cases h⟩
  | cons e es ih =>
    intro h
    obtain ⟨row, e1, e2, e3⟩ := ih fun x hx => h x (List.mem_cons_of_mem _ hx)
    obtain ⟨q, eq, oq⟩ := h e List.mem_cons_self
    exact ⟨q :: row, by rw [e1, eq]; rfl, by rw [List.length_cons, List.length_cons, e2], fun x hx => by
      rcases List.mem_cons.mp hx with z | z
      · rw [z]; exact oq
      · exact e3 x z⟩
theorem all_at {es : List PyData} {G : PyData → Prop} (h : ∀ (j : Nat) e, es[j]? = some e → G e) : ∀ e ∈ es, G e := fun e he => by
  obtain ⟨j, hj⟩ := List.getElem?_of_mem he
  exact h j e hj
/-- the parts of a decoder at r, beside the box at p -/
def PartsAt (K : PySem.W.Frag) (p : Addr) (H : Hp) (r : Addr) (D : Dcd) : Prop := ∃ Sa Ea, SqL K (wo H p) r [.int (D.sg : Nat), .ref Sa, .ref Ea] ∧ Dg K (wo H p) false (.ref Sa) D.stL ∧ Dg K (wo H p) false (.ref Ea) D.enL ∧ D.ok
theorem PartsAt.kp {K : PySem.W.Frag} {p r : Addr} {H H' : Hp} {D : Dcd} (h : PartsAt K p H r D) (k : Kp p H H') : PartsAt K p H' r D := by
  obtain ⟨Sa, Ea, h1, h2, h3, ok⟩ := h
  exact ⟨Sa, Ea, h1.ext k.wo, h2.ext k.wo, h3.ext k.wo, ok⟩
structure PlainAt (K : PySem.W.Frag) (p : Addr) (H : Hp) (r : Addr) (D : Dcd) : Prop where
  at_ : PartsAt K p H r D
  sg : D.sg ≤ 3
  st : D.st.length ≤ 5
theorem PlainAt.kp {K : PySem.W.Frag} {p r : Addr} {H H' : Hp} {D : Dcd} (h : PlainAt K p H r D) (k : Kp p H H') : PlainAt K p H' r D := ⟨h.at_.kp k, h.sg, h.st⟩
theorem parts_of {K : PySem.W.Frag} {p : Addr} {H : Hp} {x : V} {D : Dcd} (h : Dg K (wo H p) false x (.list [.int (D.sg : Nat), D.stL, D.enL])) (ok : D.ok) : ∃ r, x = .ref r ∧ PartsAt K p H r D := by
  obtain ⟨r, xs, rfl, hs, _, ha⟩ := h.lst_of
  obtain ⟨x0, x1, rfl, h0, h1⟩ := ha.cons_of
  obtain ⟨x1, x2, rfl, h1', h2⟩ := h1.cons_of
  obtain ⟨x2, x3, rfl, h2', h3⟩ := h2.cons_of
  obtain rfl := h3.nil_of
  obtain rfl := h0.int_of
  obtain ⟨Sa, _, rfl, _⟩ := h1'.lst_of
  obtain ⟨Ea, _, rfl, _⟩ := h2'.lst_of
  exact ⟨r, rfl, Sa, Ea, hs, h1', h2', ok⟩
theorem RowsL.snoc {K : PySem.W.Frag} {p R q : Addr} {H : Hp} {qs : List Addr} {st : List (List Ent)} {r : List Ent} (h : RowsL K p H R qs st) (hr : RowL K H q r) (n1 : q ∉ qs) (n2 : q ≠ R) (n3 : q ≠ p) :
    RowsL K p (L2.upd H R (.lst (qs.map V.ref ++ [.ref q]))) R (qs ++ [q]) (st ++ [r]) := by
  have kR : Kp R H (L2.upd H R (.lst (qs.map V.ref ++ [.ref q]))) := (Kp.refl R H).upd
  refine ⟨by rw [upd_same, List.map_append]; rfl, ?_, ?_, ?_, h.nRp, by rw [List.length_append, List.length_append, h.len]; rfl, fun i q' r' hq' hr' => ?_⟩
  · exact List.nodup_append.mpr ⟨h.nd, List.nodup_cons.mpr ⟨List.not_mem_nil, List.nodup_nil⟩, fun x hx y hy z => by rw [List.mem_singleton.mp hy] at z; exact n1 (by rw [← z]; exact hx)⟩
  · intro z
    rcases List.mem_append.mp z with z | z
    · exact h.nR z
    · exact n2 (List.mem_singleton.mp z).symm
  · intro z
    rcases List.mem_append.mp z with z | z
    · exact h.np z
    · exact n3 (List.mem_singleton.mp z).symm
  · have hl := h.len
    by_cases hi : i < qs.length
    · rw [List.getElem?_append_left hi] at hq'
      rw [List.getElem?_append_left (by omega)] at hr'
      exact (h.row i q' r' hq' hr').kp h.e (fun z => h.nR (by rw [← z]; exact List.mem_of_getElem? hq')) kR
    · have ei : i = qs.length := by
        have := (List.getElem?_eq_some_iff.mp hq').1
        rw [List.length_append] at this
        simp at this
        omega
      rw [ei, List.getElem?_concat_length] at hq'
      rw [ei, hl, List.getElem?_concat_length] at hr'
      injection hq' with hq'
      injection hr' with hr'
      rw [← hq', ← hr']
      exact hr.kp h.e n2 kR
def wordsU : List (List Nat) := [[], [97], [98], [97, 98], [97, 97], [], [120], [98, 97]]
theorem wordsU_ok : ∀ u ∈ wordsU, okW u := by
  intro u hu
  have : (∀ u ∈ wordsU, (∀ c ∈ u, low c = true) ∧ u.length ≤ 3) := by decide
  exact this u hu
theorem word_at {d : Nat} (hd : d < 8) : ∃ w, [V.str (Str.ofString ""), .str (Str.ofString "a"), .str (Str.ofString "b"), .str (Str.ofString "ab"), .str (Str.ofString "aa"), .str (Str.ofString ""), .str (Str.ofString "x"), .str (Str.ofString "ba")][d]? = some (.str (S w)) ∧ okW w := by
  have e : [V.str (Str.ofString ""), .str (Str.ofString "a"), .str (Str.ofString "b"), .str (Str.ofString "ab"), .str (Str.ofString "aa"), .str (Str.ofString ""), .str (Str.ofString "x"), .str (Str.ofString "ba")] = wordsU.map fun u => V.str (S u) := by
    rw [show Str.ofString "" = S [] by decide +kernel, show Str.ofString "a" = S [97] by decide +kernel, show Str.ofString "b" = S [98] by decide +kernel, show Str.ofString "ab" = S [97, 98] by decide +kernel, show Str.ofString "aa" = S [97, 97] by decide +kernel, show Str.ofString "x" = S [120] by decide +kernel, show Str.ofString "ba" = S [98, 97] by decide +kernel]
    rfl
  have hl : d < wordsU.length := hd
  exact ⟨wordsU[d], by rw [e, List.getElem?_map, List.getElem?_eq_getElem hl]; rfl, wordsU_ok _ (List.getElem_mem hl)⟩
section
variable {P : Program} {w : World} {K : PySem.W.Frag} {mg : Str → Option Value} {base : Heap}
def spWord : Sp := fun vs H Q _ => ∃ (p : Addr) (c : Nat), vs = [.ref p] ∧ BoxAt H p c ∧ c < 100000000 ∧ ∀ w H', Kp p H H' → BoxAt H' p (c + 1) → okW w → Q (.str (S w)) H'
theorem ok_law_word (T : Txt K mg) : FnOk P w K mg base CX0 2 T.f_law_word T.fd_law_word ["box"] spWord := by
  refine T.F_law_word.ok sc_law_word (fun vs H Q E h => ?_) (fun cdv A outer s H vs Q E hr h => ?_)
  · obtain ⟨p, c, rfl, _⟩ := h; rfl
  · obtain ⟨p, c, rfl, hb, hc, kQ⟩ := h
    refine ⟨_, (pss_one (ps_ret (pe_ix ix_list (pe_lst (pa_cons pe_str (pa_cons pe_str (pa_cons pe_str (pa_cons pe_str (pa_cons pe_str (pa_cons pe_str (pa_cons pe_str (pa_cons pe_str pa_nil))))))))) (pe_call (ok_law_take T) (hr.mono (by decide)) rfl T.g_law_take T.F_law_take.kp T.b_law_take .nil pass0 (pa_cons (pv 0) (pa_cons pe_int pa_nil))) (fun _ _ => rfl)))), ?_⟩
    refine ⟨(by show 8 ≤ sizeLine; decide), fun M hM => ⟨_, rfl, p, c, 8, rfl, hb.new hM, by omega, by omega, by omega, fun d o hd ho => ?_⟩⟩
    have nM : M ≠ p := (hb.ne hM).symm
    obtain ⟨z, hz, oz⟩ := word_at (d := d) (by omega)
    exact ⟨M, _, (d : Int), _, rfl, rfl, SqL.of (by rw [upd_ne nM]; exact upd_same), atI_nat hz, kQ z _ (((Kp.refl p H).new hM).upd) ho.at oz⟩
theorem ok_law_free (T : Txt K mg) : FnOk P w K mg base CX0 3 T.f_law_free T.fd_law_free ["box", "many", "states"] (fun vs H Q _ => ∃ (p : Addr) (c sg st : Nat), vs = [.ref p, .int (sg : Nat), .int (st : Nat)] ∧ BoxAt H p c ∧ c < 10000000 ∧ 1 ≤ sg ∧ sg ≤ 3 ∧ 1 ≤ st ∧ st ≤ 5 ∧
    ∀ r D H', Kp p H H' → BoxAt H' p (c + 100) → PlainAt K p H' r D → Q (.ref r) H') := by
  refine T.F_law_free.ok sc_law_free (fun vs H Q E h => ?_) (fun cdv A outer s H vs Q E hr h => ?_)
  · obtain ⟨p, c, sg, st, rfl, _⟩ := h; rfl
  · obtain ⟨p, c, sg, st, rfl, hb, hc, s1, s3, t1, t5, kQ⟩ := h
    refine ⟨_, (pss_cons (ps_set (i := 3) sc_law_free.nd rfl (Or.inl rfl) (pe_lst pa_nil))
      (pss_cons (ps_for PassesOwn.never rfl (pi_range1 rfl T.z_range (pa_cons (pv 2) pa_nil)) (pg_name (i := 4) sc_law_free.nd rfl (Or.inl rfl)) (pss_cons (ps_set (i := 5) sc_law_free.nd rfl (Or.inl rfl) (pe_lst pa_nil))
      (pss_cons (ps_for PassesOwn.never rfl (pi_range1 rfl T.z_range (pa_cons (pv 1) pa_nil)) (pg_name (i := 6) sc_law_free.nd rfl (Or.inl rfl)) (pss_cons (ps_set (i := 7) sc_law_free.nd rfl (Or.inl rfl) (pe_tup (pa_cons (pe_call (ok_law_take T) (hr.mono (by decide)) rfl T.g_law_take T.F_law_take.kp T.b_law_take .nil pass0 (pa_cons (pv 0) (pa_cons (pv 2) pa_nil))) (pa_cons (pe_call (ok_law_word T) (hr.mono (by decide)) rfl T.g_law_word T.F_law_word.kp T.b_law_word .nil pass0 (pa_cons (pv 0) pa_nil)) pa_nil))))
      (pss_one (ps_expr (pe_bm PySem.F.plainAttrs_list PySem.F.slot_list_append PySem.F.type_list_append mt_append (pv 5) (pa_cons (pe_ifExp (pt_cmpR op_eq (pe_call (ok_law_take T) (hr.mono (by decide)) rfl T.g_law_take T.F_law_take.kp T.b_law_take .nil pass0 (pa_cons (pv 0) (pa_cons pe_int pa_nil))) pe_int (nomark _)) pe_non (pv 7)) pa_nil))))))
      (pss_one (ps_expr (pe_bm PySem.F.plainAttrs_list PySem.F.slot_list_append PySem.F.type_list_append mt_append (pv 3) (pa_cons (pv 5) pa_nil)))))))
      (pss_cons (ps_setLc (i := 8) (own := [("state", 4)]) (g := gName 4) (by rfl) sc_law_free.nd rfl rfl (sw_true rfl rfl rfl (by decide +kernel)) (pi_range1 rfl T.z_range (pa_cons (pv 2) pa_nil)) (blkOk_by (own := [("state", 4)]) (N := N_law_free) (sc := defScope s_law_free) (by decide +kernel)) (fun _ _ _ _ _ => pg_name (i := 4) sc_law_free.nd rfl (Or.inl rfl)) (fun _ _ _ _ _ => pts_nil) (fun _ _ _ _ _ => (pe_ix (ix_listK (K := K) rfl) (pe_lst (pa_cons pe_non (pa_cons pe_str (pa_cons (pe_ix (ix_listK (K := K) rfl) (pe_lst (pa_cons pe_str (pa_cons pe_str pa_nil))) (pe_call (ok_law_take T) (hr.mono (by decide)) rfl T.g_law_take T.F_law_take.kp T.b_law_take .nil pass0 (pa_cons (pv 0) (pa_cons pe_int pa_nil))) (fun _ _ => rfl)) pa_nil)))) (pe_call (ok_law_take T) (hr.mono (by decide)) rfl T.g_law_take T.F_law_take.kp T.b_law_take .nil pass0 (pa_cons (pv 0) (pa_cons pe_int pa_nil))) (fun _ _ => rfl))))
      (pss_one (ps_ret (pe_lst (pa_cons (pv 1) (pa_cons (pv 3) (pa_cons (pv 8) pa_nil))))))))), ?_⟩
    have one : 1 ≤ sizeLine := by decide
    have two : 2 ≤ sizeLine := by decide
    have three : 3 ≤ sizeLine := by decide
    refine ⟨(by show 0 ≤ sizeLine; decide), fun R hR => ?_⟩
    have nRp : R ≠ p := (hb.ne hR).symm
    have hR0 : RowsL K p (upd H R (.lst [])) R [] [] := ⟨upd_same, List.nodup_nil, List.not_mem_nil, List.not_mem_nil, nRp, rfl, fun j q r h => by cases h⟩
    have k1 : Kp p H (upd H R (.lst [])) := (Kp.refl p H).new hR
    have b1 := hb.new hR (o := .lst [])
    generalize upd H R (.lst []) = H1 at hR0 k1 b1 ⊢
    dsimp only [L2.gName]
    refine ⟨_, rfl, (st : Int), rfl, by omega, by omega, ?_⟩
    rw [Int.toNat_natCast]
    refine for_range (lo := 0) (n := st) (fun i σ H' => ∃ x4 x5 x6 x7, σ = [some (.ref p), some (.int (sg : Nat)), some (.int (st : Nat)), some (.ref R), x4, x5, x6, x7, none] ∧ Kp p H H' ∧ BoxAt H' p (c + 10 * i) ∧ ∃ qs rows, RowsL K p H' R qs rows ∧ rows.length = i ∧ ∀ r ∈ rows, r.length = sg ∧ ∀ e ∈ r, okE st e) ⟨_, _, _, _, rfl, k1, b1, [], [], hR0, rfl, fun r h => by cases h⟩ ?_ ?_
    · rintro i σ H2 hi ⟨x4, x5, x6, x7, rfl, k2, b2, qs, rows, hRL, lr, orows⟩
      have lqs := hRL.len
      refine ⟨(by show 0 ≤ sizeLine; decide), fun r hr0 => ?_⟩
      have nrp : r ≠ p := (b2.ne hr0).symm
      have nrR : r ≠ R := fun z => by rw [z, hRL.e] at hr0; cases hr0
      have nrq : r ∉ qs := fun z => by
        obtain ⟨a, ha⟩ := List.getElem?_of_mem z
        have la := (List.getElem?_eq_some_iff.mp ha).1
        obtain ⟨xs, e, _⟩ := hRL.row a r _ ha (List.getElem?_eq_getElem (by omega))
        rw [hr0] at e; cases e
      have s3 : Same H2 (upd H2 r (.lst [])) := Same.new (Same.refl _) hr0
      have hRL3 := hRL.ext s3
      have hr3 : RowL K (upd H2 r (.lst [])) r [] := ⟨[], upd_same, .nil⟩
      have k3 := k2.trans (Kp.of s3)
      have b3 := b2.same s3
      have hrH : H r = none := by
        cases e : H r with
        | none => rfl
        | some o => rw [k2 _ _ nrp e] at hr0; cases hr0
      generalize upd H2 r (.lst []) = H3 at s3 hRL3 hr3 k3 b3 ⊢
      dsimp only [L2.gName]
      refine ⟨_, rfl, (sg : Int), rfl, by omega, by omega, ?_⟩
      rw [Int.toNat_natCast]
      refine for_range (lo := 0) (n := sg) (fun j σ H' => ∃ x4 x6 x7, σ = [some (.ref p), some (.int (sg : Nat)), some (.int (st : Nat)), some (.ref R), x4, some (.ref r), x6, x7, none] ∧ Kp p H H' ∧ BoxAt H' p (c + 10 * i + 3 * j) ∧ RowsL K p H' R qs rows ∧ ∃ ents, RowL K H' r ents ∧ ents.length = j ∧ ∀ e ∈ ents, okE st e) ⟨_, _, _, rfl, k3, b3, hRL3, [], hr3, rfl, fun e h => by cases h⟩ ?_ ?_
      · rintro j σ H4 hj ⟨x4, x6, x7, rfl, k4, b4, hRL4, ents, hr4, le, oe⟩
        refine ⟨_, rfl, _, rfl, p, _, (st : Int), rfl, b4, by omega, by omega, by omega, fun g o5 hg ho5 => ⟨_, rfl, p, _, rfl, ho5.at, by omega, fun w H5 k5 b5 ow => ⟨two, fun t ht => ?_⟩⟩⟩
        have k45 : Kp p H4 H5 := ((Kp.refl p H4).upd).trans k5
        have s6 : Same H5 (upd H5 t (.tup [.int (g : Nat), .str (S w)])) := Same.new (Same.refl _) ht
        have dt : Dg K (upd H5 t (.tup [.int (g : Nat), .str (S w)])) false (.ref t) (enD (some (g, w))) := .tup (SqT.of upd_same) (.cons (.int _) (.cons (.str _) .nil))
        obtain ⟨lb, elb⟩ := box_lst b4
        have hRL6 := (hRL4.box b4 k45).ext s6
        have hr6 := (hr4.kp elb nrp k45).ext s6
        have k6 := (k4.trans k45).trans (Kp.of s6)
        have b6 := b5.same s6
        generalize upd H5 t (.tup [.int (g : Nat), .str (S w)]) = H6 at s6 dt hRL6 hr6 k6 b6 ⊢
        have fin : ∀ (H7 : Hp) (v : V) (e : Ent) (D : Ends), Kp p H H7 → BoxAt H7 p (c + 10 * i + 3 * j + 3) → RowsL K p H7 R qs rows → RowL K H7 r ents → Dg K H7 false v (enD e) → okE st e → (∀ x4 x7 H8, Kp p H H8 → BoxAt H8 p (c + 10 * i + 3 * (j + 1)) → RowsL K p H8 R qs rows → RowL K H8 r (ents ++ [e]) → D.nx [some (.ref p), some (.int (sg : Nat)), some (.int (st : Nat)), some (.ref R), x4, some (.ref r), some (.int (0 + (j : Int))), x7, none] H8) →
            ∃ l xs x, V.ref r = .ref l ∧ [v] = [x] ∧ H7 l = some (.lst xs) ∧ xs.length < sizeLine ∧ D.nx [some (.ref p), some (.int (sg : Nat)), some (.int (st : Nat)), some (.ref R), x4, some (.ref r), some (.int (0 + (j : Int))), some (.ref t), none] (upd H7 l (.lst (xs ++ [x]))) := fun H7 v e D k7 b7 hRL7 hr7 dv oe7 q => by
          obtain ⟨xs, exs, hxs⟩ := hr7
          have lxs := hxs.len
          rw [List.length_map] at lxs
          refine ⟨r, xs, v, rfl, rfl, exs, Nat.lt_of_le_of_lt (show xs.length ≤ 10 by omega) (by decide), q _ _ _ (k7.free hrH) (b7.other nrp.symm) (hRL7.kp exs nrR.symm nrq ((Kp.refl r H7).upd)) ⟨_, upd_same, ?_⟩⟩
          rw [List.map_append]
          exact ((dg_lfwoAll exs _ _ (lfAll_map lf_enD _) hxs).append (.cons (dg_lfwo exs _ _ (lf_enD e) dv) .nil)).ext wo_updS
        dsimp only [L2.gName]
        obtain ⟨xs6, exs6, _⟩ := id hr6
        refine ⟨_, rfl, .inl ⟨rfl, _, SqL.of exs6⟩, _, rfl, p, _, 10, rfl, b6, by omega, by omega, by omega, fun d o7 hd ho7 => ⟨rfl, _, rfl, ?_⟩⟩
        have k67 : Kp p H6 (upd H6 p o7) := (Kp.refl p H6).upd
        obtain ⟨lb6, elb6⟩ := box_lst b6
        have hRL7 := hRL6.box b6 k67
        have hr7 := hr6.kp elb6 nrp k67
        have b7 : BoxAt (upd H6 p o7) p (c + 10 * i + 3 * j + 3) := ho7.at
        have dt7 : Dg K (upd H6 p o7) false (.ref t) (enD (some (g, w))) := ((dg_lfwo elb6 _ _ (lf_enD (some (g, w))) dt).ext k67.wo).ext (wo_same _ p)
        have k7 := k6.trans k67
        generalize upd H6 p o7 = H7 at k67 hRL7 hr7 b7 dt7 k7 ⊢
        have og : okE st (some (g, w)) := fun g' w' e => by injection e with e; injection e with e1 e2; subst e1 e2; exact ⟨by omega, ow⟩
        have go : ∀ e : Ent, okE st e → ∀ x4 x7 H8, Kp p H H8 → BoxAt H8 p (c + 10 * i + 3 * (j + 1)) → RowsL K p H8 R qs rows → RowL K H8 r (ents ++ [e]) → ∃ x4' x6 x7', [some (V.ref p), some (.int (sg : Nat)), some (.int (st : Nat)), some (.ref R), x4, some (.ref r), some (.int (0 + (j : Int))), x7, none] = [some (.ref p), some (.int (sg : Nat)), some (.int (st : Nat)), some (.ref R), x4', some (.ref r), x6, x7', none] ∧ Kp p H H8 ∧ BoxAt H8 p (c + 10 * i + 3 * (j + 1)) ∧ RowsL K p H8 R qs rows ∧ ∃ ents, RowL K H8 r ents ∧ ents.length = j + 1 ∧ ∀ e ∈ ents, okE st e := fun e oe' x4 x7 H8 k8 b8 hRL8 hr8 =>
          ⟨_, _, _, rfl, k8, b8, hRL8, _, hr8, by rw [List.length_append, le]; rfl, fun x hx => by
            rcases List.mem_append.mp hx with z | z
            · exact oe x z
            · rw [List.mem_singleton.mp z]; exact oe'⟩
        refine ite2 (fun _ => ?_) (fun _ => ⟨_, rfl, ?_⟩)
        · exact fin H7 .non none _ k7 b7 hRL7 hr7 .non (fun g w e => by cases e) (go none (fun g w e => by cases e))
        · exact fin H7 (.ref t) (some (g, w)) _ k7 b7 hRL7 hr7 dt7 og (go (some (g, w)) og)
      · rintro σ H4 ⟨x4', x6', x7', rfl, k4, b4, hRL4, ents, hr4, le, oe⟩
        obtain ⟨xs, exs, hxs⟩ := id hr4
        have lR := hRL4.len
        refine ⟨_, rfl, .inl ⟨rfl, _, SqL.of hRL4.e⟩, _, rfl, R, _, _, rfl, rfl, hRL4.e, Nat.lt_of_le_of_lt (show (qs.map V.ref).length ≤ 10 by rw [List.length_map]; omega) (by decide), ?_⟩
        exact ⟨_, _, _, _, rfl, k4.free hR, (b4.other nRp.symm).mono (by omega), qs ++ [r], rows ++ [ents], hRL4.snoc hr4 nrq nrR nrp, by rw [List.length_append, lr]; rfl, fun x hx => by
          rcases List.mem_append.mp hx with z | z
          · exact orows x z
          · rw [List.mem_singleton.mp z]; exact ⟨le, oe⟩⟩
    · rintro σ H2 ⟨x4, x5, x6, x7, rfl, k2, b2, qs, rows, hRL, lr, orows⟩
      refine ⟨_, rfl, (st : Int), rfl, by omega, by omega, fun Le hLe => ?_⟩
      rw [Int.toNat_natCast]
      refine lc_range_box (K := K) (m := false) (p := p) (c := c + 10 * st) (k := 2) (lo := 0) (n := st) (fun _ e => ∃ q : Option (List Nat), e = wdD q ∧ ∀ w, q = some w → okW w) hLe b2 (by omega) (fun j H' R' N hj k' eD b' kk => ⟨rfl, tYesT ⟨two, fun M hM => ⟨_, rfl, p, _, 2, rfl, b'.new hM, by omega, by omega, by omega, fun d o hd ho => ?_⟩⟩⟩) (fun H3 ys es k3 b3 eD3 ha le hg => ?_)
      · have nM : M ≠ p := (b'.ne hM).symm
        obtain ⟨z, hz, oz⟩ : ∃ z, [V.str (Str.ofString "y"), .str (Str.ofString "zz")][d]? = some (.str (S z)) ∧ okW z := by
          have : d = 0 ∨ d = 1 := by omega
          rcases this with rfl | rfl
          · exact ⟨[121], by rw [show Str.ofString "y" = S [121] by decide +kernel]; rfl, Low.one (by decide), by simp⟩
          · exact ⟨[122, 122], by rw [show Str.ofString "zz" = S [122, 122] by decide +kernel]; rfl, fun c hc => by simp at hc; rw [hc]; decide, by simp⟩
        have k4 : Kp p H' (upd (upd H' M (.lst [.str (Str.ofString "y"), .str (Str.ofString "zz")])) p o) := ((Kp.refl p H').new hM).upd
        have b4 : BoxAt (upd (upd H' M (.lst [.str (Str.ofString "y"), .str (Str.ofString "zz")])) p o) p (c + 10 * st + 2 * j + 1) := ho.at
        have e4 : (upd (upd H' M (.lst [.str (Str.ofString "y"), .str (Str.ofString "zz")])) p o) M = some (.lst [.str (Str.ofString "y"), .str (Str.ofString "zz")]) := by rw [upd_ne nM]; exact upd_same
        generalize upd (upd H' M (.lst [.str (Str.ofString "y"), .str (Str.ofString "zz")])) p o = H4 at k4 b4 e4 ⊢
        refine ⟨M, _, (d : Int), _, rfl, rfl, SqL.of e4, atI_nat hz, three, fun M2 hM2 => ⟨_, rfl, p, _, 3, rfl, b4.new hM2, by omega, by omega, by omega, fun d2 o2 hd2 ho2 => ?_⟩⟩
        have nM2 : M2 ≠ p := (b4.ne hM2).symm
        obtain ⟨e', hv, oe⟩ : ∃ e' : Option (List Nat), [V.non, .str (Str.ofString ""), .str (S z)][d2]? = some (wdV e') ∧ ∀ w, e' = some w → okW w := by
          have : d2 = 0 ∨ d2 = 1 ∨ d2 = 2 := by omega
          rcases this with rfl | rfl | rfl
          · exact ⟨none, rfl, fun w e => by cases e⟩
          · exact ⟨some [], by rw [str_nil]; rfl, fun w e => by injection e with e; rw [← e]; exact ⟨Low.nil, by simp⟩⟩
          · exact ⟨some z, rfl, fun w e => by injection e with e; rw [← e]; exact oz⟩
        exact ⟨M2, _, (d2 : Int), _, rfl, rfl, SqL.of (by rw [upd_ne nM2]; exact upd_same), atI_nat hv, kk _ (wdD e') _ (k4.trans (((Kp.refl p H4).new hM2).upd)) (ho2.at.mono (by omega)) (dg_wd e') ⟨e', rfl, oe⟩⟩
      · obtain ⟨en, e3, l3, g3⟩ := map_of (f := wdD) (all_at (G := fun e => ∃ q : Option (List Nat), e = wdD q ∧ ∀ w, q = some w → okW w) hg)
        have hen := own_list ha
        rw [e3] at hen
        have nLe : Le ≠ p := (b2.ne hLe).symm
        have hRL3 := hRL.box b2 k3
        dsimp only [L2.gName]
        refine ⟨_, rfl, _, rfl, _, rfl, three, fun r hr0 => ?_⟩
        have nr : r ≠ p := (b3.ne hr0).symm
        have s4 : Same H3 (upd H3 r (.lst [.int (sg : Nat), .ref R, .ref Le])) := Same.new (Same.refl _) hr0
        have b4 := b3.new hr0 (o := .lst [.int (sg : Nat), .ref R, .ref Le])
        have ok : (Dcd.mk sg rows en).ok := ⟨s1, by show sg ≤ 5; omega, by show 1 ≤ rows.length; omega, by show rows.length ≤ 40; omega, fun x hx => by
          obtain ⟨a, b⟩ := orows x hx
          exact ⟨a, by show ∀ e ∈ x, okE rows.length e; rw [lr]; exact b⟩, by show en.length = rows.length; omega, g3⟩
        refine kQ r ⟨sg, rows, en⟩ _ ((k2.trans k3).trans (Kp.of s4)) (b4.mono (by omega)) ⟨⟨R, Le, SqL.of (by rw [wo_ne nr]; exact upd_same), ?_, ?_, ok⟩, s3, by show rows.length ≤ 5; omega⟩
        · exact (hRL3.ext s4).dgw b4
        · exact .lst (SqL.of (by rw [wo_ne nLe]; exact s4 _ _ eD3)) (fun z => by cases z) (hen.ext (Kp.of s4).wo)
end
end My

set_option Elab.async false
set_option linter.all false
set_option maxRecDepth 100000
set_option maxHeartbeats 8000000
namespace My
open PySem PySem.Spec PyProof.Rows L2
def okWb (w : List Nat) : Bool := w.all low && decide (w.length ≤ 3)
def okDb (D : Dcd) : Bool := decide (1 ≤ D.sg) && decide (D.sg ≤ 5) && decide (1 ≤ D.st.length) && decide (D.st.length ≤ 40) && D.st.all (fun r => decide (r.length = D.sg) && r.all fun e => match e with | none => true | some (g, w) => decide (g < D.st.length) && okWb w) && decide (D.en.length = D.st.length) && D.en.all fun e => match e with | none => true | some w => okWb w
theorem okWb_ok {w : List Nat} (h : okWb w = true) : okW w := by
  unfold okWb at h
  rw [Bool.and_eq_true, decide_eq_true_eq] at h
  exact ⟨fun c hc => List.all_eq_true.mp h.1 c hc, h.2⟩
theorem okDb_ok {D : Dcd} (h : okDb D = true) : D.ok := by
  unfold okDb at h
  simp only [Bool.and_eq_true, decide_eq_true_eq] at h
  obtain ⟨⟨⟨⟨⟨⟨h1, h2⟩, h3⟩, h4⟩, h5⟩, h6⟩, h7⟩ := h
  refine ⟨h1, h2, h3, h4, fun r hr => ?_, h6, fun e he w ew => ?_⟩
  · have := List.all_eq_true.mp h5 r hr
    rw [Bool.and_eq_true, decide_eq_true_eq] at this
    refine ⟨this.1, fun e he g w ew => ?_⟩
    have h8 := List.all_eq_true.mp this.2 e he
    rw [ew] at h8
    have h8 : (decide (g < D.st.length) && okWb w) = true := h8
    rw [Bool.and_eq_true, decide_eq_true_eq] at h8
    exact ⟨h8.1, okWb_ok h8.2⟩
  · have h8 := List.all_eq_true.mp h7 e he
    rw [ew] at h8
    exact okWb_ok h8
theorem sE : Str.ofString "" = S [] := by decide +kernel
theorem sA : Str.ofString "a" = S [97] := by decide +kernel
theorem sB : Str.ofString "b" = S [98] := by decide +kernel
theorem sC : Str.ofString "c" = S [99] := by decide +kernel
theorem sD_ : Str.ofString "d" = S [100] := by decide +kernel
theorem sEe : Str.ofString "e" = S [101] := by decide +kernel
theorem sQ_ : Str.ofString "q" = S [113] := by decide +kernel
theorem sX : Str.ofString "x" = S [120] := by decide +kernel
theorem sY : Str.ofString "y" = S [121] := by decide +kernel
theorem sZ : Str.ofString "z" = S [122] := by decide +kernel
section
variable {P : Program} {w : World} {K : PySem.W.Frag} {mg : Str → Option Value} {base : Heap}
theorem ok_law_plain (T : Txt K mg) : FnOk P w K mg base CX0 4 T.f_law_plain T.fd_law_plain ["box"] (fun vs H Q _ => ∃ (p : Addr) (c : Nat), vs = [.ref p] ∧ BoxAt H p c ∧ c < 1000000 ∧
    ∀ r D H', Kp p H H' → BoxAt H' p (c + 110) → PlainAt K p H' r D → Q (.ref r) H') := by
  refine T.F_law_plain.ok sc_law_plain (fun vs H Q E h => ?_) (fun cdv A outer s H vs Q E hr h => ?_)
  · obtain ⟨p, c, rfl, _⟩ := h; rfl
  · obtain ⟨p, c, rfl, hb, hc, kQ⟩ := h
    refine ⟨_, (pss_cons (ps_set (i := 1) sc_law_plain.nd rfl (Or.inl rfl) (pe_call (ok_law_take T) (hr.mono (by decide)) rfl T.g_law_take T.F_law_take.kp T.b_law_take .nil pass0 (pa_cons (pv 0) (pa_cons pe_int pa_nil))))
      (pss_cons (ps_if (pt_cmpR op_eq (pv 1) pe_int (nomark _)) (pss_one (ps_ret (pe_lst (pa_cons pe_int (pa_cons (pe_lst (pa_cons (pe_lst (pa_cons (pe_tup (pa_cons pe_int (pa_cons pe_str pa_nil))) (pa_cons (pe_tup (pa_cons pe_int (pa_cons pe_str pa_nil))) (pa_cons (pe_tup (pa_cons pe_int (pa_cons pe_str pa_nil))) pa_nil)))) pa_nil)) (pa_cons (pe_lst (pa_cons pe_str pa_nil)) pa_nil)))))) pss_nil)
      (pss_cons (ps_if (pt_cmpR op_eq (pv 1) pe_int (nomark _)) (pss_one (ps_ret (pe_lst (pa_cons pe_int (pa_cons (pe_lst (pa_cons (pe_lst (pa_cons (pe_tup (pa_cons pe_int (pa_cons pe_str pa_nil))) (pa_cons (pe_tup (pa_cons pe_int (pa_cons pe_str pa_nil))) pa_nil))) (pa_cons (pe_lst (pa_cons (pe_tup (pa_cons pe_int (pa_cons pe_str pa_nil))) (pa_cons (pe_tup (pa_cons pe_int (pa_cons pe_str pa_nil))) pa_nil))) pa_nil))) (pa_cons (pe_lst (pa_cons pe_str (pa_cons pe_non pa_nil))) pa_nil)))))) pss_nil)
      (pss_cons (ps_if (pt_cmpR op_eq (pv 1) pe_int (nomark _)) (pss_one (ps_ret (pe_lst (pa_cons pe_int (pa_cons (pe_lst (pa_cons (pe_lst (pa_cons (pe_tup (pa_cons pe_int (pa_cons pe_str pa_nil))) (pa_cons (pe_tup (pa_cons pe_int (pa_cons pe_str pa_nil))) pa_nil))) (pa_cons (pe_lst (pa_cons (pe_tup (pa_cons pe_int (pa_cons pe_str pa_nil))) (pa_cons (pe_tup (pa_cons pe_int (pa_cons pe_str pa_nil))) pa_nil))) pa_nil))) (pa_cons (pe_lst (pa_cons pe_str (pa_cons pe_str pa_nil))) pa_nil)))))) pss_nil)
      (pss_cons (ps_if (pt_cmpR op_eq (pv 1) pe_int (nomark _)) (pss_one (ps_ret (pe_lst (pa_cons pe_int (pa_cons (pe_lst (pa_cons (pe_lst (pa_cons (pe_tup (pa_cons pe_int (pa_cons pe_str pa_nil))) (pa_cons pe_non (pa_cons (pe_tup (pa_cons pe_int (pa_cons pe_str pa_nil))) pa_nil)))) (pa_cons (pe_lst (pa_cons (pe_tup (pa_cons pe_int (pa_cons pe_str pa_nil))) (pa_cons (pe_tup (pa_cons pe_int (pa_cons pe_str pa_nil))) (pa_cons pe_non pa_nil)))) (pa_cons (pe_lst (pa_cons pe_non (pa_cons (pe_tup (pa_cons pe_int (pa_cons pe_str pa_nil))) (pa_cons (pe_tup (pa_cons pe_int (pa_cons pe_str pa_nil))) pa_nil)))) pa_nil)))) (pa_cons (pe_lst (pa_cons pe_str (pa_cons pe_str (pa_cons pe_non pa_nil)))) pa_nil)))))) pss_nil)
      (pss_one (ps_ret (pe_call (ok_law_free T) (hr.mono (by decide)) rfl T.g_law_free T.F_law_free.kp T.b_law_free .nil pass0 (pa_cons (pv 0) (pa_cons (pe_op op_add pe_int (pe_call (ok_law_take T) (hr.mono (by decide)) rfl T.g_law_take T.F_law_take.kp T.b_law_take .nil pass0 (pa_cons (pv 0) (pa_cons pe_int pa_nil)))) (pa_cons (pe_op op_add pe_int (pe_call (ok_law_take T) (hr.mono (by decide)) rfl T.g_law_take T.F_law_take.kp T.b_law_take .nil pass0 (pa_cons (pv 0) (pa_cons pe_int pa_nil)))) pa_nil))))))))))), ?_⟩
    refine ⟨_, rfl, p, c, 8, rfl, hb, by omega, by omega, by omega, fun d o hd ho => ?_⟩
    have k1 : Kp p H (upd H p o) := (Kp.refl p H).upd
    have b1 : BoxAt (upd H p o) p (c + 1) := ho.at
    generalize upd H p o = H1 at k1 b1 ⊢
    have give : ∀ (D : Dcd) (x : V) (H' : Hp), Same H1 H' → Dg K (wo H' p) false x (.list [.int (D.sg : Nat), D.stL, D.enL]) → okDb D = true → D.sg ≤ 3 → D.st.length ≤ 5 → Q x H' := fun D x H' s' dg okb h3 h5 => by
      obtain ⟨r, rfl, hp⟩ := parts_of dg (okDb_ok okb)
      exact kQ r D H' (k1.trans (Kp.of s')) ((b1.same s').mono (by omega)) ⟨hp, h3, h5⟩
    refine ⟨_, rfl, rfl, _, rfl, ite2 (fun c0 => ?_) (fun c0 => ⟨_, rfl, rfl, _, rfl, ite2 (fun c1 => ?_) (fun c1 => ⟨_, rfl, rfl, _, rfl, ite2 (fun c2 => ?_) (fun c2 => ⟨_, rfl, rfl, _, rfl, ite2 (fun c3 => ?_) (fun c3 => ?_)⟩)⟩)⟩)⟩
    · unfold L2.tRet
      refine EvD.here (K := K) (m := false) (w := fun G => wo G p) (p := p) ((fun R => (evD_lst R (evDs_cons R (evD_int _) (evDs_cons R (evD_lst R (evDs_cons R (evD_lst R (evDs_cons R (evD_tup R (evDs_cons R (evD_int _) (evDs_cons R (evD_str _) evDs_nil)) (by simp)) (evDs_cons R (evD_tup R (evDs_cons R (evD_int _) (evDs_cons R (evD_str _) evDs_nil)) (by simp)) (evDs_cons R (evD_tup R (evDs_cons R (evD_int _) (evDs_cons R (evD_str _) evDs_nil)) (by simp)) evDs_nil))) (by simp)) evDs_nil) (by simp)) (evDs_cons R (evD_lst R (evDs_cons R (evD_str _) evDs_nil) (by simp)) evDs_nil))) (by simp))) res_p) b1.some (fun x H' s' dg => ?_)
      simp only [sE, sA, sB, sC, sD_, sEe, sQ_, sX, sY, sZ] at dg
      exact give ⟨3, [[some (0, [97]), some (0, [98]), some (0, [99])]], [some []]⟩ x H' s' dg (by decide) (by decide) (by decide)
    · unfold L2.tRet
      refine EvD.here (K := K) (m := false) (w := fun G => wo G p) (p := p) ((fun R => (evD_lst R (evDs_cons R (evD_int _) (evDs_cons R (evD_lst R (evDs_cons R (evD_lst R (evDs_cons R (evD_tup R (evDs_cons R (evD_int _) (evDs_cons R (evD_str _) evDs_nil)) (by simp)) (evDs_cons R (evD_tup R (evDs_cons R (evD_int _) (evDs_cons R (evD_str _) evDs_nil)) (by simp)) evDs_nil)) (by simp)) (evDs_cons R (evD_lst R (evDs_cons R (evD_tup R (evDs_cons R (evD_int _) (evDs_cons R (evD_str _) evDs_nil)) (by simp)) (evDs_cons R (evD_tup R (evDs_cons R (evD_int _) (evDs_cons R (evD_str _) evDs_nil)) (by simp)) evDs_nil)) (by simp)) evDs_nil)) (by simp)) (evDs_cons R (evD_lst R (evDs_cons R (evD_str _) (evDs_cons R evD_non evDs_nil)) (by simp)) evDs_nil))) (by simp))) res_p) b1.some (fun x H' s' dg => ?_)
      simp only [sE, sA, sB, sC, sD_, sEe, sQ_, sX, sY, sZ] at dg
      exact give ⟨2, [[some (0, [97]), some (1, [])], [some (0, [98]), some (0, [99])]], [some [], none]⟩ x H' s' dg (by decide) (by decide) (by decide)
    · unfold L2.tRet
      refine EvD.here (K := K) (m := false) (w := fun G => wo G p) (p := p) ((fun R => (evD_lst R (evDs_cons R (evD_int _) (evDs_cons R (evD_lst R (evDs_cons R (evD_lst R (evDs_cons R (evD_tup R (evDs_cons R (evD_int _) (evDs_cons R (evD_str _) evDs_nil)) (by simp)) (evDs_cons R (evD_tup R (evDs_cons R (evD_int _) (evDs_cons R (evD_str _) evDs_nil)) (by simp)) evDs_nil)) (by simp)) (evDs_cons R (evD_lst R (evDs_cons R (evD_tup R (evDs_cons R (evD_int _) (evDs_cons R (evD_str _) evDs_nil)) (by simp)) (evDs_cons R (evD_tup R (evDs_cons R (evD_int _) (evDs_cons R (evD_str _) evDs_nil)) (by simp)) evDs_nil)) (by simp)) evDs_nil)) (by simp)) (evDs_cons R (evD_lst R (evDs_cons R (evD_str _) (evDs_cons R (evD_str _) evDs_nil)) (by simp)) evDs_nil))) (by simp))) res_p) b1.some (fun x H' s' dg => ?_)
      simp only [sE, sA, sB, sC, sD_, sEe, sQ_, sX, sY, sZ] at dg
      exact give ⟨2, [[some (1, [120]), some (0, [121])], [some (0, []), some (1, [121])]], [some [], some [122]]⟩ x H' s' dg (by decide) (by decide) (by decide)
    · unfold L2.tRet
      refine EvD.here (K := K) (m := false) (w := fun G => wo G p) (p := p) ((fun R => (evD_lst R (evDs_cons R (evD_int _) (evDs_cons R (evD_lst R (evDs_cons R (evD_lst R (evDs_cons R (evD_tup R (evDs_cons R (evD_int _) (evDs_cons R (evD_str _) evDs_nil)) (by simp)) (evDs_cons R evD_non (evDs_cons R (evD_tup R (evDs_cons R (evD_int _) (evDs_cons R (evD_str _) evDs_nil)) (by simp)) evDs_nil))) (by simp)) (evDs_cons R (evD_lst R (evDs_cons R (evD_tup R (evDs_cons R (evD_int _) (evDs_cons R (evD_str _) evDs_nil)) (by simp)) (evDs_cons R (evD_tup R (evDs_cons R (evD_int _) (evDs_cons R (evD_str _) evDs_nil)) (by simp)) (evDs_cons R evD_non evDs_nil))) (by simp)) (evDs_cons R (evD_lst R (evDs_cons R evD_non (evDs_cons R (evD_tup R (evDs_cons R (evD_int _) (evDs_cons R (evD_str _) evDs_nil)) (by simp)) (evDs_cons R (evD_tup R (evDs_cons R (evD_int _) (evDs_cons R (evD_str _) evDs_nil)) (by simp)) evDs_nil))) (by simp)) evDs_nil))) (by simp)) (evDs_cons R (evD_lst R (evDs_cons R (evD_str _) (evDs_cons R (evD_str _) (evDs_cons R evD_non evDs_nil))) (by simp)) evDs_nil))) (by simp))) res_p) b1.some (fun x H' s' dg => ?_)
      simp only [sE, sA, sB, sC, sD_, sEe, sQ_, sX, sY, sZ] at dg
      exact give ⟨3, [[some (1, [97]), none, some (0, [])], [some (2, [98]), some (1, [99]), none], [none, some (0, [100]), some (2, [101])]], [some [], some [113], none]⟩ x H' s' dg (by decide) (by decide) (by decide)
    · refine ⟨_, rfl, _, rfl, p, _, 3, rfl, b1, by omega, by omega, by omega, fun a o2 ha ho2 => ⟨_, _, rfl, rfl, _, rfl, p, _, 5, rfl, ho2.at, by omega, by omega, by omega, fun b o3 hb3 ho3 => ⟨_, _, rfl, rfl, ?_⟩⟩⟩
      have k3 : Kp p H1 (upd (upd H1 p o2) p o3) := ((Kp.refl p H1).upd).upd
      have b3 : BoxAt (upd (upd H1 p o2) p o3) p (c + 3) := ho3.at
      generalize upd (upd H1 p o2) p o3 = H3 at k3 b3 ⊢
      refine ⟨p, c + 3, 1 + a, 1 + b, by rw [Int.natCast_add, Int.natCast_add]; rfl, b3, by omega, by omega, by omega, by omega, by omega, fun r D H' k' b' hp => kQ r D H' ((k1.trans k3).trans k') (b'.mono (by omega)) hp⟩
theorem ok_law_ring (T : Txt K mg) : FnOk P w K mg base CX0 2 T.f_law_ring T.fd_law_ring ["box"] (fun vs H Q _ => ∃ (p : Addr) (c : Nat), vs = [.ref p] ∧ BoxAt H p c ∧ c < 1000000 ∧
    ∀ r D H', Kp p H H' → BoxAt H' p (c + 110) → PlainAt K p H' r D → Q (.ref r) H') := by
  refine T.F_law_ring.ok sc_law_ring (fun vs H Q E h => ?_) (fun cdv A outer s H vs Q E hr h => ?_)
  · obtain ⟨p, c, rfl, _⟩ := h; rfl
  · obtain ⟨p, c, rfl, hb, hc, kQ⟩ := h
    refine ⟨_, (pss_cons (ps_set (i := 1) sc_law_ring.nd rfl (Or.inl rfl) (pe_ix ix_list (pe_lst (pa_cons pe_int (pa_cons pe_int (pa_cons pe_int (pa_cons pe_int pa_nil))))) (pe_call (ok_law_take T) (hr.mono (by decide)) rfl T.g_law_take T.F_law_take.kp T.b_law_take .nil pass0 (pa_cons (pv 0) (pa_cons pe_int pa_nil))) (fun _ _ => rfl)))
      (pss_cons (ps_set (i := 2) sc_law_ring.nd rfl (Or.inl rfl) (pe_lst pa_nil))
      (pss_cons (ps_for PassesOwn.never rfl (pi_range1 rfl T.z_range (pa_cons (pv 1) pa_nil)) (pg_name (i := 3) sc_law_ring.nd rfl (Or.inl rfl)) (pss_cons (ps_set (i := 4) sc_law_ring.nd rfl (Or.inl rfl) (pe_op op_mod (pe_callTy call_int1 (by rfl) T.z_int (by decide +kernel) (pa_cons (pe_op op_add (pv 3) pe_int) pa_nil)) (pv 1)))
      (pss_one (ps_expr (pe_bm PySem.F.plainAttrs_list PySem.F.slot_list_append PySem.F.type_list_append mt_append (pv 2) (pa_cons (pe_lst (pa_cons (pe_tup (pa_cons (pv 4) (pa_cons pe_str pa_nil))) (pa_cons (pe_tup (pa_cons (pv 3) (pa_cons pe_str pa_nil))) (pa_cons (pe_tup (pa_cons (pv 4) (pa_cons pe_str pa_nil))) pa_nil)))) pa_nil))))))
      (pss_one (ps_ret (pe_lst (pa_cons pe_int (pa_cons (pv 2) (pa_cons (pe_lc (own := [("state", 3)]) (g := gName 3) (by rfl) sc_law_ring.nd (pi_range1 rfl T.z_range (pa_cons (pv 1) pa_nil)) (blkOk_by (own := [("state", 3)]) (N := N_law_ring) (sc := defScope s_law_ring) (by decide +kernel)) (fun _ _ _ _ _ => pg_name (i := 3) sc_law_ring.nd rfl (Or.inl rfl)) (fun _ _ _ _ _ => pts_nil) (fun _ _ _ _ _ => (pe_ix (ix_listK (K := K) rfl) (pe_lst (pa_cons pe_str (pa_cons pe_non (pa_cons pe_str pa_nil)))) (pe_call (ok_law_take T) (hr.mono (by decide)) rfl T.g_law_take T.F_law_take.kp T.b_law_take .nil pass0 (pa_cons (pv 0) (pa_cons pe_int pa_nil))) (fun _ _ => rfl)))) pa_nil))))))))), ?_⟩
    have two : 2 ≤ sizeLine := by decide
    have three : 3 ≤ sizeLine := by decide
    refine ⟨(by show 4 ≤ sizeLine; decide), fun M hM => ⟨_, rfl, p, c, 4, rfl, hb.new hM, by omega, by omega, by omega, fun d o hd ho => ?_⟩⟩
    have nM : M ≠ p := (hb.ne hM).symm
    obtain ⟨st, hst, st3, st5⟩ : ∃ st : Nat, [V.int 3, .int 4, .int 5, .int 4][d]? = some (V.int (st : Nat)) ∧ 3 ≤ st ∧ st ≤ 5 := by
      have : d = 0 ∨ d = 1 ∨ d = 2 ∨ d = 3 := by omega
      rcases this with rfl | rfl | rfl | rfl
      · exact ⟨3, rfl, by omega, by omega⟩
      · exact ⟨4, rfl, by omega, by omega⟩
      · exact ⟨5, rfl, by omega, by omega⟩
      · exact ⟨4, rfl, by omega, by omega⟩
    have k1 : Kp p H (upd (upd H M (.lst [.int 3, .int 4, .int 5, .int 4])) p o) := ((Kp.refl p H).new hM).upd
    have b1 : BoxAt (upd (upd H M (.lst [.int 3, .int 4, .int 5, .int 4])) p o) p (c + 1) := ho.at
    have e1 : (upd (upd H M (.lst [.int 3, .int 4, .int 5, .int 4])) p o) M = some (.lst [.int 3, .int 4, .int 5, .int 4]) := by rw [upd_ne nM]; exact upd_same
    generalize upd (upd H M (.lst [.int 3, .int 4, .int 5, .int 4])) p o = H1 at k1 b1 e1 ⊢
    refine ⟨M, _, (d : Int), _, rfl, rfl, SqL.of e1, atI_nat hst, (by show 0 ≤ sizeLine; decide), fun R hR => ?_⟩
    have nRp : R ≠ p := (b1.ne hR).symm
    have hR0 : RowsL K p (upd H1 R (.lst [])) R [] [] := ⟨upd_same, List.nodup_nil, List.not_mem_nil, List.not_mem_nil, nRp, rfl, fun j q r h => by cases h⟩
    have k2 : Kp p H (upd H1 R (.lst [])) := k1.new hR
    have b2 := b1.new hR (o := .lst [])
    have hRH : H R = none := by
      cases e : H R with
      | none => rfl
      | some o => rw [k1 _ _ nRp e] at hR; cases hR
    generalize upd H1 R (.lst []) = H2 at hR0 k2 b2 ⊢
    dsimp only [L2.gName]
    refine ⟨_, rfl, (st : Int), rfl, by omega, by omega, ?_⟩
    rw [Int.toNat_natCast]
    refine for_range (lo := 0) (n := st) (fun i σ H' => ∃ x3 x4, σ = [some (.ref p), some (.int (st : Nat)), some (.ref R), x3, x4] ∧ Kp p H H' ∧ BoxAt H' p (c + 1) ∧ ∃ qs rows, RowsL K p H' R qs rows ∧ rows.length = i ∧ ∀ r ∈ rows, r.length = 3 ∧ ∀ e ∈ r, okE st e) ⟨_, _, rfl, k2, b2, [], [], hR0, rfl, fun r h => by cases h⟩ ?_ ?_
    · rintro i σ H3 hi ⟨x3, x4, rfl, k3, b3, qs, rows, hRL, lr, orows⟩
      have lqs := hRL.len
      obtain ⟨gl, egl, lgl⟩ : ∃ gl : Nat, ((0 : Int) + (i : Int) + 1) % (st : Int) = (gl : Int) ∧ gl < st := ⟨(i + 1) % st, by rw [Int.natCast_emod]; rw [show ((0 : Int) + (i : Int) + 1) = ((i + 1 : Nat) : Int) by omega], Nat.mod_lt _ (by omega)⟩
      refine ⟨_, rfl, _, _, rfl, rfl, .inl ⟨_, rfl, _, rfl, _, _, rfl, rfl, (by show (0 : Int) < (st : Int); omega), ?_⟩⟩
      show gName 4 (.int (((0 : Int) + (i : Int) + 1) % (st : Int))) _ _ _
      rw [egl]
      refine ⟨_, rfl, .inl ⟨rfl, _, SqL.of hRL.e⟩, _, rfl, two, fun t1 ht1 => ⟨_, rfl, two, fun t2 ht2 => ⟨_, rfl, two, fun t3 ht3 => ⟨three, fun r hr0 => ?_⟩⟩⟩⟩
      have s4 : Same H3 (upd H3 t1 (.tup [.int (gl : Nat), .str (Str.ofString "a")])) := Same.new (Same.refl _) ht1
      have d1 : Dg K (upd H3 t1 (.tup [.int (gl : Nat), .str (Str.ofString "a")])) false (.ref t1) (enD (some (gl, [97]))) := .tup (SqT.of upd_same) (.cons (.int _) (.cons (by rw [sA]; exact .str _) .nil))
      generalize upd H3 t1 (.tup [.int (gl : Nat), .str (Str.ofString "a")]) = H4 at s4 d1 ht2 ht3 hr0 ⊢
      have s5 : Same H4 (upd H4 t2 (.tup [.int (0 + (i : Int)), .str (Str.ofString "b")])) := Same.new (Same.refl _) ht2
      have d2 : Dg K (upd H4 t2 (.tup [.int (0 + (i : Int)), .str (Str.ofString "b")])) false (.ref t2) (enD (some (i, [98]))) := .tup (SqT.of upd_same) (.cons (by rw [Int.zero_add]; exact .int _) (.cons (by rw [sB]; exact .str _) .nil))
      generalize upd H4 t2 (.tup [.int (0 + (i : Int)), .str (Str.ofString "b")]) = H5 at s5 d2 ht3 hr0 ⊢
      have s6 : Same H5 (upd H5 t3 (.tup [.int (gl : Nat), .str (Str.ofString "")])) := Same.new (Same.refl _) ht3
      have d3 : Dg K (upd H5 t3 (.tup [.int (gl : Nat), .str (Str.ofString "")])) false (.ref t3) (enD (some (gl, []))) := .tup (SqT.of upd_same) (.cons (.int _) (.cons (by rw [sE]; exact .str _) .nil))
      generalize upd H5 t3 (.tup [.int (gl : Nat), .str (Str.ofString "")]) = H6 at s6 d3 hr0 ⊢
      have s7 : Same H6 (upd H6 r (.lst [.ref t1, .ref t2, .ref t3])) := Same.new (Same.refl _) hr0
      have s36 := (s4.trans s5).trans s6
      have b6 := b3.same s36
      have hRL6 := hRL.ext s36
      have nrp : r ≠ p := (b6.ne hr0).symm
      have nrR : r ≠ R := fun z => by rw [z, hRL6.e] at hr0; cases hr0
      have nrq : r ∉ qs := fun z => by
        obtain ⟨a, ha⟩ := List.getElem?_of_mem z
        have la := (List.getElem?_eq_some_iff.mp ha).1
        obtain ⟨xs, e, _⟩ := hRL6.row a r _ ha (List.getElem?_eq_getElem (by omega))
        rw [hr0] at e; cases e
      have hr7 : RowL K (upd H6 r (.lst [.ref t1, .ref t2, .ref t3])) r [some (gl, [97]), some (i, [98]), some (gl, [])] := ⟨_, upd_same, .cons (((d1.ext s5).ext s6).ext s7) (.cons ((d2.ext s6).ext s7) (.cons (d3.ext s7) .nil))⟩
      have hRL7 := hRL6.ext s7
      have k7 : Kp p H (upd H6 r (.lst [.ref t1, .ref t2, .ref t3])) := k3.trans (Kp.of (s36.trans s7))
      have b7 := b6.same s7
      generalize upd H6 r (.lst [.ref t1, .ref t2, .ref t3]) = H7 at s7 hr7 hRL7 k7 b7 ⊢
      refine ⟨R, _, _, rfl, rfl, hRL7.e, Nat.lt_of_le_of_lt (show (qs.map V.ref).length ≤ 10 by rw [List.length_map]; omega) (by decide), ?_⟩
      have ow : ∀ g u, (∀ c ∈ u, low c = true) → u.length ≤ 3 → g < st → okE st (some (g, u)) := fun g u h1 h2 h3 g' u' e => by injection e with e; injection e with e1 e2; subst e1 e2; exact ⟨h3, h1, h2⟩
      refine ⟨_, _, rfl, k7.free hRH, b7.other nRp.symm, qs ++ [r], rows ++ [_], hRL7.snoc hr7 nrq nrR nrp, by rw [List.length_append, lr]; rfl, fun x hx => ?_⟩
      rcases List.mem_append.mp hx with z | z
      · exact orows x z
      · rw [List.mem_singleton.mp z]
        refine ⟨rfl, fun e he => ?_⟩
        simp only [List.mem_cons, List.not_mem_nil, or_false] at he
        rcases he with rfl | rfl | rfl
        · exact ow _ _ (by decide) (by decide) lgl
        · exact ow _ _ (by decide) (by decide) hi
        · exact ow _ _ (by decide) (by decide) lgl
    · rintro σ H3 ⟨x3, x4, rfl, k3, b3, qs, rows, hRL, lr, orows⟩
      refine ⟨_, rfl, _, rfl, (st : Int), rfl, by omega, by omega, fun Le hLe => ?_⟩
      rw [Int.toNat_natCast]
      refine lc_range_box (K := K) (m := false) (p := p) (c := c + 1) (k := 1) (lo := 0) (n := st) (fun _ e => ∃ q : Option (List Nat), e = wdD q ∧ ∀ w, q = some w → okW w) hLe b3 (by omega) (fun j H' R' N hj k' eD b' kk => ⟨rfl, tYesT ⟨three, fun M2 hM2 => ⟨_, rfl, p, _, 3, rfl, b'.new hM2, by omega, by omega, by omega, fun d2 o2 hd2 ho2 => ?_⟩⟩⟩) (fun H4 ys es k4 b4 eD4 ha le hg => ?_)
      · have nM2 : M2 ≠ p := (b'.ne hM2).symm
        obtain ⟨e', hv, oe⟩ : ∃ e' : Option (List Nat), [V.str (Str.ofString ""), .non, .str (Str.ofString "y")][d2]? = some (wdV e') ∧ ∀ w, e' = some w → okW w := by
          have : d2 = 0 ∨ d2 = 1 ∨ d2 = 2 := by omega
          rcases this with rfl | rfl | rfl
          · exact ⟨some [], by rw [sE]; rfl, fun w e => by injection e with e; rw [← e]; exact ⟨Low.nil, by simp⟩⟩
          · exact ⟨none, rfl, fun w e => by cases e⟩
          · exact ⟨some [121], by rw [sY]; rfl, fun w e => by injection e with e; rw [← e]; exact ⟨Low.one (by decide), by simp⟩⟩
        exact ⟨M2, _, (d2 : Int), _, rfl, rfl, SqL.of (by rw [upd_ne nM2]; exact upd_same), atI_nat hv, kk _ (wdD e') _ (((Kp.refl p H').new hM2).upd) (ho2.at.mono (by omega)) (dg_wd e') ⟨e', rfl, oe⟩⟩
      · obtain ⟨en, e3, l3, g3⟩ := map_of (f := wdD) (all_at (G := fun e => ∃ q : Option (List Nat), e = wdD q ∧ ∀ w, q = some w → okW w) hg)
        have hen := own_list ha
        rw [e3] at hen
        have nLe : Le ≠ p := (b3.ne hLe).symm
        have hRL4 := hRL.box b3 k4
        refine ⟨three, fun r hr0 => ?_⟩
        have nr : r ≠ p := (b4.ne hr0).symm
        have s5 : Same H4 (upd H4 r (.lst [.int 3, .ref R, .ref Le])) := Same.new (Same.refl _) hr0
        have b5 := b4.new hr0 (o := .lst [.int 3, .ref R, .ref Le])
        have ok : (Dcd.mk 3 rows en).ok := ⟨by show 1 ≤ 3; omega, by show 3 ≤ 5; omega, by show 1 ≤ rows.length; omega, by show rows.length ≤ 40; omega, fun x hx => by
          obtain ⟨a, b⟩ := orows x hx
          exact ⟨a, by show ∀ e ∈ x, okE rows.length e; rw [lr]; exact b⟩, by show en.length = rows.length; omega, g3⟩
        refine kQ r ⟨3, rows, en⟩ _ ((k3.trans k4).trans (Kp.of s5)) (b5.mono (by omega)) ⟨⟨R, Le, SqL.of (by rw [wo_ne nr]; exact upd_same), ?_, ?_, ok⟩, Nat.le_refl _, by show rows.length ≤ 5; omega⟩
        · exact (hRL4.ext s5).dgw b5
        · exact .lst (SqL.of (by rw [wo_ne nLe]; exact s5 _ _ eD4)) (fun z => by cases z) (hen.ext (Kp.of s5).wo)
end
end My

set_option Elab.async false
set_option linter.all false
set_option maxRecDepth 100000
set_option maxHeartbeats 8000000
namespace My
open PySem PySem.Spec PyProof.Rows L2
theorem seq_opaque {s r : TS} {D : Ends} {σ : L2.St} {H : Hp} (h : ∀ N : L2.St → Hp → Prop, (∀ σ' H', r D σ' H' → N σ' H') → s { D with nx := N } σ H) : tSeq s r D σ H := h _ fun _ _ z => z
theorem seq3_opaque {a b c r : TS} {D : Ends} {σ : L2.St} {H : Hp} (h : ∀ N : L2.St → Hp → Prop, (∀ σ' H', r D σ' H' → N σ' H') → a { D with nx := fun σ1 H1 => b { D with nx := fun σ2 H2 => c { D with nx := N } σ2 H2 } σ1 H1 } σ H) : tSeq a (tSeq b (tSeq c r)) D σ H := h _ fun _ _ z => z
def plcD (g : Pl) : PyData := .tuple [.int (g.1 : Nat), .int (g.2.1 : Nat), .int (g.2.2 : Nat)]
theorem plcD_inj {g h : Pl} (e : plcD g = plcD h) : g = h := by
  obtain ⟨a, b, c⟩ := g
  obtain ⟨a', b', c'⟩ := h
  unfold plcD at e
  injection e with e
  injection e with e1 e2
  injection e2 with e2 e3
  injection e3 with e3 _
  injection e1 with e1
  injection e2 with e2
  injection e3 with e3
  have h1 : a = a' := by have : (a : Int) = a' := e1; omega
  have h2 : b = b' := by have : (b : Int) = b' := e2; omega
  have h3 : c = c' := by have : (c : Int) = c' := e3; omega
  rw [h1, h2, h3]
theorem plD_plc (g : Pl) : plD (plcD g) = true := by unfold plcD plD plAll plAll plAll plAll plD; rfl
theorem eqv_plc (g h : Pl) : PyData.eqv (plcD g) (plcD h) = decide (g = h) := by
  rw [Bool.eq_iff_iff, eqv_pl _ _ (plD_plc g) (plD_plc h), decide_eq_true_eq]
  exact ⟨plcD_inj, fun e => by rw [e]⟩
theorem shaped_plc (g : Pl) : SeqAt.shaped (plcD g) = true := by
  refine shaped_of ?_ (by unfold plcD PyData.depth PyData.depthAll PyData.depthAll PyData.depthAll PyData.depthAll PyData.depth; omega)
  unfold plcD PyData.canLay0 PyData.canLayAll0 PyData.canLayAll0 PyData.canLayAll0 PyData.canLayAll0 PyData.canLay0; rfl
theorem depth_plcs : ∀ F : List Pl, PyData.depthAll (F.map plcD) ≤ 1
  | [] => by unfold List.map PyData.depthAll; omega
  | g :: F => by
    rw [List.map_cons]
    unfold PyData.depthAll
    have := depth_plcs F
    have h : (plcD g).depth ≤ 1 := by unfold plcD PyData.depth PyData.depthAll PyData.depthAll PyData.depthAll PyData.depthAll PyData.depth; omega
    omega
theorem shaped_plcs (F : List Pl) : SeqAt.shaped (.list (F.map plcD)) = true := by
  refine shaped_of ?_ ?_
  · unfold PyData.canLay0
    exact canAll _ fun g _ => by unfold plcD PyData.canLay0 PyData.canLayAll0 PyData.canLayAll0 PyData.canLayAll0 PyData.canLayAll0 PyData.canLay0; rfl
  · unfold PyData.depth
    have := depth_plcs F
    omega
theorem any_plc (F : List Pl) (g : Pl) : (F.map plcD).any (fun z => PyData.eqv z (plcD g)) = decide (g ∈ F) := by
  rw [Bool.eq_iff_iff, List.any_eq_true, decide_eq_true_eq]
  constructor
  · rintro ⟨z, hz, e⟩
    obtain ⟨h, hh, rfl⟩ := List.mem_map.mp hz
    rw [eqv_plc, decide_eq_true_eq] at e
    rw [← e]; exact hh
  · exact fun hg => ⟨plcD g, List.mem_map.mpr ⟨g, hg, rfl⟩, by rw [eqv_plc]; exact decide_eq_true rfl⟩
theorem dp_found {K : PySem.W.Frag} {H : Hp} {Fa : Addr} {bs : List Addr} {F : List Pl} (e : H Fa = some (.lst (bs.map V.ref))) (t : TupsAt H bs F) : Dp K H (.ref Fa) (.list (F.map plcD)) := by
  refine dg_dp _ _ (.lst (SqL.of e) (fun z => by cases z) (dgAll_pt2 bs F t))
where
  dgAll_pt2 : ∀ (bs : List Addr) (F : List Pl), TupsAt H bs F → DgAll K H false (bs.map V.ref) (F.map plcD)
    | [], [], _ => .nil
    | [], _ :: _, t => by cases t.1
    | _ :: _, [], t => by cases t.1
    | b :: bs, g :: F, t => .cons (.tup (SqT.of (t.2 0 b g rfl rfl)) (.cons (.int _) (.cons (.int _) (.cons (.int _) .nil)))) (dgAll_pt2 bs F ⟨by have := t.1; simpa using this, fun j b' p hb hp => t.2 (j + 1) b' p hb hp⟩)
theorem idx_pre {A B : List Pl} (h : A <+: B) {g : Pl} (hg : g ∈ A) : B.idxOf g = A.idxOf g := by
  obtain ⟨C, rfl⟩ := h
  rw [List.idxOf_append, if_pos hg]
theorem dgL_row {K : PySem.W.Frag} {H : Hp} {Sa : Addr} {D : Dcd} (ok : D.ok) (h : Dg K H false (.ref Sa) D.stL) {s : Nat} (hs : s < D.st.length) : ∃ xs r zs, SqL K H Sa xs ∧ xs[s]? = some (.ref r) ∧ SqL K H r zs ∧ zs.length = D.sg ∧
    ∀ a, a < D.sg → ∃ e, zs[a]? = some e ∧ Dg K H false e (enD (D.at s a)) := by
  obtain ⟨a, xs, e, hx, _, ha⟩ := h.lst_of
  injection e with e
  subst e
  obtain ⟨x, d, ex, ed, dx⟩ := ha.nth (i := s) (by rw [List.length_map]; exact hs)
  rw [List.getElem?_map, List.getElem?_eq_getElem hs] at ed
  have ed := Option.some.inj ed
  subst ed
  obtain ⟨r, zs, rfl, hz, _, hzs⟩ := dx.lst_of
  have lr := (ok.rows _ (List.getElem_mem hs)).1
  refine ⟨xs, r, zs, hx, ex, hz, by have := hzs.len; rw [List.length_map] at this; omega, fun a ha => ?_⟩
  obtain ⟨y, d, ey, ed, dy⟩ := hzs.nth (i := a) (by rw [List.length_map]; omega)
  rw [List.getElem?_map, List.getElem?_eq_getElem (show a < D.st[s].length by omega)] at ed
  have ed := Option.some.inj ed
  refine ⟨y, ey, ?_⟩
  have : D.at s a = D.st[s][a]'(by omega) := by
    unfold Dcd.at
    rw [List.getD_eq_getElem?_getD, List.getD_eq_getElem?_getD, List.getElem?_eq_getElem hs]
    show (D.st[s])[a]?.getD none = _
    rw [List.getElem?_eq_getElem (show a < D.st[s].length by omega)]; rfl
  rw [this, ed]; exact dy
/-- an entry and its goal, as they are worked out -/
def GoAt (K : PySem.W.Frag) (H : Hp) (ev gv : V) : Option (Pl × List Nat) → Prop
  | none => ev = .non
  | some (g, w) => ∃ (e gb : Addr) (i0 : Int), ev = .ref e ∧ Dg K H false (.ref e) (.tuple [.int i0, .str (S w)]) ∧ gv = .ref gb ∧ H gb = some (.tup (plV g))
section
variable {P : Program} {w : World} {K : PySem.W.Frag} {mg : Str → Option Value} {base : Heap}
theorem pair_of {K : PySem.W.Frag} {H : Hp} {e : Addr} {i0 : Int} {z : Str} (h : Dg K H false (.ref e) (.tuple [.int i0, .str z])) : SqT K H e [.int i0, .str z] := by
  obtain ⟨e', us, ee, hs, ha⟩ := h.tup_of
  injection ee with ee
  subst ee
  obtain ⟨u0, us1, rfl, h0, h1⟩ := ha.cons_of
  obtain ⟨u1, us2, rfl, h1', h2⟩ := h1.cons_of
  obtain rfl := h2.nil_of
  obtain rfl := h0.int_of
  obtain rfl := h1'.str_of
  exact hs
theorem ok_law_blocks (T : Txt K mg) : FnOk P w K mg base CX0 1 T.f_law_blocks T.fd_law_blocks ["plain", "many"] (fun vs H Q _ => ∃ (p r : Addr) (c : Nat) (D : Dcd) (n : Nat), vs = [.ref r, .int (n : Nat)] ∧ BoxAt H p c ∧ PlainAt K p H r D ∧ Sml D n ∧
    ∀ r' H', Same H H' → Dg K (wo H' p) false (.ref r') (.list [.int (D.sg : Nat), (ChkD D n).stL, (ChkD D n).enL]) → Q (.ref r') H') := by
  refine T.F_law_blocks.ok sc_law_blocks (fun vs H Q E h => ?_) (fun cdv A outer s H vs Q E hr h => ?_)
  · obtain ⟨p, r, c, D, n, rfl, _⟩ := h; rfl
  · obtain ⟨p, r, c, D, n, rfl, hb, plain, sm, kQ⟩ := h
    refine ⟨_, (pss_cons (ps_par (i := 2) (j := 3) (by rfl) sc_law_blocks.nd rfl rfl (by decide) rfl rfl (pa_cons (pe_lst (pa_cons (pe_tup (pa_cons pe_int (pa_cons pe_int (pa_cons pe_int pa_nil)))) pa_nil)) (pa_cons (pe_lst pa_nil) pa_nil)) (by rfl))
      (pss_cons (ps_for PassesOwn.never rfl (pi_range1 rfl T.z_range (pa_cons pe_int pa_nil)) (pg_name (i := 4) sc_law_blocks.nd rfl (Or.inl rfl)) (pss_one (ps_if (pt_cmpR op_lt (pv 4) (pe_callB call_len_seq (by rfl) T.z_len (by decide +kernel) (pa_cons (pv 2) pa_nil)) (nomark _)) (pss_cons (ps_asg (pe_ix ix_list (pv 2) (pv 4) (fun _ _ => rfl)) (pg_tup rfl (pgs_cons (pg_name (i := 5) sc_law_blocks.nd rfl (Or.inl rfl)) (pgs_cons (pg_name (i := 6) sc_law_blocks.nd rfl (Or.inl rfl)) (pgs_cons (pg_name (i := 7) sc_law_blocks.nd rfl (Or.inl rfl)) pgs_nil)))))
      (pss_cons (ps_set (i := 8) sc_law_blocks.nd rfl (Or.inl rfl) (pe_lst pa_nil))
      (pss_cons (ps_for PassesOwn.never rfl (pi_range1 rfl T.z_range (pa_cons (pe_ix ix_list (pv 0) pe_int (fun _ _ => rfl)) pa_nil)) (pg_name (i := 9) sc_law_blocks.nd rfl (Or.inl rfl)) (pss_cons (ps_set (i := 10) sc_law_blocks.nd rfl (Or.inl rfl) (pe_ifExp (pt_cmpR op_eq (pv 9) (pv 7) (nomark _)) (pe_tup (pa_cons (pv 5) (pa_cons pe_str pa_nil))) pe_non))
      (pss_cons (ps_set (i := 11) sc_law_blocks.nd rfl (Or.inl rfl) (pe_tup (pa_cons (pv 5) (pa_cons pe_int (pa_cons pe_int pa_nil)))))
      (pss_cons (ps_if (pt_cmpR op_lt (pv 6) (pv 1) (nomark _)) (pss_cons (ps_set (i := 10) sc_law_blocks.nd rfl (Or.inl rfl) (pe_ix ix_list (pe_ix ix_list (pe_ix ix_list (pv 0) pe_int (fun _ _ => rfl)) (pv 5) (fun _ _ => rfl)) (pv 9) (fun _ _ => rfl)))
      (pss_one (ps_set (i := 11) sc_law_blocks.nd rfl (Or.inl rfl) (pe_ifExp (pt_cmp (pc_isN (pv 10))) pe_non (pe_tup (pa_cons (pe_ix ix_tup (pv 10) pe_int (fun _ _ => rfl)) (pa_cons (pe_op op_add (pv 6) pe_int) (pa_cons (pe_op op_mod (pe_callTy call_int1 (by rfl) T.z_int (by decide +kernel) (pa_cons (pe_op op_add (pv 7) (pv 9)) pa_nil)) (pe_ix ix_list (pv 0) pe_int (fun _ _ => rfl))) pa_nil)))))))) pss_nil)
      (pss_cons (ps_if (PW.pt (pw_and (pt_cmp (pc_notN (pv 10))) (pw_and1 (pt_cmpR (op_notInD (un65 hr)) (pv 11) (pv 2) (by rfl))))) (pss_one (ps_expr (pe_bm PySem.F.plainAttrs_list PySem.F.slot_list_append PySem.F.type_list_append mt_append (pv 2) (pa_cons (pv 11) pa_nil)))) pss_nil)
      (pss_one (ps_expr (pe_bm PySem.F.plainAttrs_list PySem.F.slot_list_append PySem.F.type_list_append mt_append (pv 8) (pa_cons (pe_ifExp (pt_cmp (pc_isN (pv 10))) pe_non (pe_tup (pa_cons (pe_bm PySem.F.plainAttrs_list PySem.F.slot_list_index PySem.F.type_list_index (mt_indexD (un65 hr)) (pv 2) (pa_cons (pv 11) pa_nil)) (pa_cons (pe_ix ix_tup (pv 10) pe_int (fun _ _ => rfl)) pa_nil)))) pa_nil)))))))))
      (pss_one (ps_expr (pe_bm PySem.F.plainAttrs_list PySem.F.slot_list_append PySem.F.type_list_append mt_append (pv 3) (pa_cons (pv 8) pa_nil))))))) pss_nil)))
      (pss_one (ps_ret (pe_lst (pa_cons (pe_ix ix_list (pv 0) pe_int (fun _ _ => rfl)) (pa_cons (pv 3) (pa_cons (pe_lc (own := [("place", 12)]) (g := gName 12) (by rfl) sc_law_blocks.nd (pi_list (pv 2)) (blkOk_by (own := [("place", 12)]) (N := N_law_blocks) (sc := defScope s_law_blocks) (by decide +kernel)) (fun _ _ _ _ _ => pg_name (i := 12) sc_law_blocks.nd rfl (Or.inl rfl)) (fun _ _ _ _ _ => pts_nil) (fun _ _ _ _ _ => (pe_ifExp (pt_cmpR op_eq (pe_ix (ix_tupK (K := K) rfl) (pv 12) pe_int (fun _ _ => rfl)) pe_int (nomark _)) (pe_ix (ix_listK (K := K) rfl) (pe_ix (ix_listK (K := K) rfl) (pv 0) pe_int (fun _ _ => rfl)) (pe_ix (ix_tupK (K := K) rfl) (pv 12) pe_int (fun _ _ => rfl)) (fun _ _ => rfl)) pe_non))) pa_nil)))))))), ?_⟩
    obtain ⟨⟨Sa, Ea, hS, hdS, hdE, ok⟩, sg3, st5⟩ := plain
    have three : 3 ≤ sizeLine := by decide
    have one : 1 ≤ sizeLine := by decide
    refine ⟨three, fun b0 hb0 => ⟨one, fun Fa hFa => ⟨(by show 0 ≤ sizeLine; decide), fun Ra hRa => ⟨_, _, rfl, ?_⟩⟩⟩⟩
    have s1 : Same H (upd H b0 (.tup [.int 0, .int 0, .int 0])) := Same.new (Same.refl _) hb0
    have eb : (upd H b0 (.tup [.int 0, .int 0, .int 0])) b0 = some (.tup (plV (0, 0, 0))) := upd_same
    generalize upd H b0 (.tup [.int 0, .int 0, .int 0]) = H1 at s1 eb hFa hRa ⊢
    have s2 : Same H1 (upd H1 Fa (.lst [.ref b0])) := Same.new (Same.refl _) hFa
    have eF : (upd H1 Fa (.lst [.ref b0])) Fa = some (.lst [.ref b0]) := upd_same
    have hFH : H Fa = none := s1.free hFa
    generalize upd H1 Fa (.lst [.ref b0]) = H2 at s2 eF hRa ⊢
    have s3 : Same H2 (upd H2 Ra (.lst [])) := Same.new (Same.refl _) hRa
    have hRH : H Ra = none := (s1.trans s2).free hRa
    have nRF : Ra ≠ Fa := fun z => by rw [z, eF] at hRa; cases hRa
    have b2 := (hb.same s1).same s2
    have nRp : Ra ≠ p := (b2.ne hRa).symm
    have hR0 : RowsL K p (upd H2 Ra (.lst [])) Ra [] [] := ⟨upd_same, List.nodup_nil, List.not_mem_nil, List.not_mem_nil, nRp, rfl, fun j q r h => by cases h⟩
    have t0 : TupsAt (upd H2 Ra (.lst [])) [b0] (Sq D n 0) := ⟨by rw [Sq_zero]; rfl, fun j b pl hb hp => by
      rw [Sq_zero] at hp
      match j, hb, hp with
      | 0, hb, hp =>
        injection hb with hb
        injection hp with hp
        subst hb hp
        exact s3 _ _ (s2 _ _ eb)⟩
    have eF3 := s3 _ _ eF
    have s03 := (s1.trans s2).trans s3
    generalize upd H2 Ra (.lst []) = H3 at s3 hR0 t0 eF3 s03 ⊢
    dsimp only [L2.gName]
    refine ⟨200, rfl, by decide, by decide, ?_⟩
    refine for_range (lo := 0) (n := 200) (fun i σ H' => ∃ x4 x5 x6 x7 x8 x9 x10 x11, σ = [some (.ref r), some (.int (n : Nat)), some (.ref Fa), some (.ref Ra), x4, x5, x6, x7, x8, x9, x10, x11, none] ∧ Same H H' ∧ ∃ bs qs, H' Fa = some (.lst (bs.map V.ref)) ∧ TupsAt H' bs (Sq D n i) ∧ Fa ∉ qs ∧ RowsL K p H' Ra qs (((FinP D n).take i).map fun pl => (rowP D n pl).map (numE (FinP D n)))) ⟨_, _, _, _, _, _, _, _, rfl, s03, [b0], [], eF3, t0, List.not_mem_nil, by rw [List.take_zero]; exact hR0⟩ ?_ ?_
    · rintro i σ H4 hi ⟨x4, x5, x6, x7, x8, x9, x10, x11, rfl, s4, bs, qs, eF4, t4, nFq, hRL⟩
      refine ⟨_, rfl, _, rfl, Fa, _, rfl, .inl (SqL.of eF4), _, _, rfl, rfl, _, rfl, ?_⟩
      rw [List.length_map, t4.1]
      refine ite2 (fun c => ?_) (fun c => ?_)
      · have hlt : i < (Sq D n i).length := by have := of_decide_eq_true c; omega
        obtain ⟨pl, hpl⟩ : ∃ pl, (Sq D n i)[i]? = some pl := ⟨_, List.getElem?_eq_getElem hlt⟩
        obtain ⟨b, hb'⟩ : ∃ b, bs[i]? = some b := ⟨_, List.getElem?_eq_getElem (by rw [t4.1]; exact hlt)⟩
        have ebp := t4.2 i b pl hb' hpl
        have hbR : (bs.map V.ref)[i]? = some (.ref b) := by rw [List.getElem?_map, hb']; rfl
        have vp := Sq_vp ok i pl (List.mem_of_getElem? hpl)
        obtain ⟨s0, m0, t0'⟩ := pl
        have hS4 : SqL K H4 r _ := (hS.ext (wo_same H p)).ext s4
        refine ⟨_, rfl, _, rfl, Fa, _, _, .ref b, rfl, rfl, SqL.of eF4, (by rw [Int.zero_add]; exact atI_nat hbR), b, _, rfl, SqT.of ebp, rfl, _, _, rfl, _, _, rfl, _, _, rfl, rfl, (by show 0 ≤ sizeLine; decide), fun ra hra => ?_⟩
        have lq4 := hRL.len
        have nraF : ra ≠ Fa := fun z => by rw [z, eF4] at hra; cases hra
        have nraR : ra ≠ Ra := fun z => by rw [z, hRL.e] at hra; cases hra
        have b4 := hb.same s4
        have nrap : ra ≠ p := (b4.ne hra).symm
        have nraq : ra ∉ qs := fun z => by
          obtain ⟨a, ha⟩ := List.getElem?_of_mem z
          have la := (List.getElem?_eq_some_iff.mp ha).1
          obtain ⟨xs, e, _⟩ := hRL.row a ra _ ha (List.getElem?_eq_getElem (by omega))
          rw [hra] at e; cases e
        have hraH : H ra = none := s4.free hra
        have s5 : Same H4 (upd H4 ra (.lst [])) := Same.new (Same.refl _) hra
        have hr5 : RowL K (upd H4 ra (.lst [])) ra [] := ⟨[], upd_same, .nil⟩
        have eF5 := s5 _ _ eF4
        have t5 := t4.ext fun b ys e => s5 _ _ e
        have hRL5 := hRL.ext s5
        have s05 := s4.trans s5
        have hS5 := hS4.ext s5
        generalize upd H4 ra (.lst []) = H5 at s5 hr5 eF5 t5 hRL5 s05 hS5 ⊢
        have lrow : (rowP D n (s0, m0, t0')).length = D.sg := by unfold rowP; rw [List.length_map, List.length_range]
        dsimp only [L2.gName]
        refine ⟨_, rfl, r, _, _, _, rfl, rfl, hS5, atI_nat (j := 0) rfl, (D.sg : Int), rfl, by omega, by omega, ?_⟩
        rw [Int.toNat_natCast]
        refine for_range (lo := 0) (n := D.sg) (fun j σ H' => ∃ x9 x10 x11, σ = [some (.ref r), some (.int (n : Nat)), some (.ref Fa), some (.ref Ra), some (.int (0 + (i : Int))), some (.int (s0 : Nat)), some (.int (m0 : Nat)), some (.int (t0' : Nat)), some (.ref ra), x9, x10, x11, none] ∧ Same H H' ∧ RowsL K p H' Ra qs (((FinP D n).take i).map fun pl => (rowP D n pl).map (numE (FinP D n))) ∧ (∃ bs, H' Fa = some (.lst (bs.map V.ref)) ∧ TupsAt H' bs (((rowP D n (s0, m0, t0')).take j).foldl addP (Sq D n i))) ∧ RowL K H' ra (((rowP D n (s0, m0, t0')).take j).map (numE (FinP D n)))) ⟨_, _, _, rfl, s05, hRL5, ⟨bs, eF5, t5⟩, hr5⟩ ?_ ?_
        · rintro j σ H6 hj ⟨x9, x10, x11, rfl, s6, hRL6, ⟨bs6, eF6, t6⟩, hr6⟩
          have hx : (rowP D n (s0, m0, t0'))[j]? = some (nx D n (s0, m0, t0') j) := by unfold rowP; rw [List.getElem?_map, List.getElem?_range hj]; rfl
          have ef : ((rowP D n (s0, m0, t0')).take (j + 1)).foldl addP (Sq D n i) = addP (((rowP D n (s0, m0, t0')).take j).foldl addP (Sq D n i)) (nx D n (s0, m0, t0') j) := by rw [List.take_add_one, hx, List.foldl_append]; rfl
          have er : ((rowP D n (s0, m0, t0')).take (j + 1)).map (numE (FinP D n)) = ((rowP D n (s0, m0, t0')).take j).map (numE (FinP D n)) ++ [numE (FinP D n) (nx D n (s0, m0, t0') j)] := by rw [List.take_add_one, hx, List.map_append]; rfl
          have preF : addP (((rowP D n (s0, m0, t0')).take j).foldl addP (Sq D n i)) (nx D n (s0, m0, t0') j) <+: FinP D n := by
            rw [← ef]
            have h1 : ((rowP D n (s0, m0, t0')).take (j + 1)).foldl addP (Sq D n i) <+: (rowP D n (s0, m0, t0')).foldl addP (Sq D n i) := by
              have := foldP_pre ((rowP D n (s0, m0, t0')).drop (j + 1)) (((rowP D n (s0, m0, t0')).take (j + 1)).foldl addP (Sq D n i))
              rwa [← List.foldl_append, List.take_append_drop] at this
            rw [← Sq_succ hpl] at h1
            exact h1.trans (sm.pre (by omega))
          have nodF := foldP_nodup ((rowP D n (s0, m0, t0')).take j) (Sq D n i) (Sq_nodup i)
          rw [ef, er]
          generalize ((rowP D n (s0, m0, t0')).take j).foldl addP (Sq D n i) = F at t6 preF nodF ⊢
          have lent : (((rowP D n (s0, m0, t0')).take j).map (numE (FinP D n))).length ≤ 10 := by rw [List.length_map, List.length_take]; omega
          have lenF : (FinP D n).length ≤ 75 := sm.lenF
          generalize ((rowP D n (s0, m0, t0')).take j).map (numE (FinP D n)) = ents at hr6 lent ⊢
          have push : ∀ (v : V) (x : Option (Pl × List Nat)) (F' : List Pl) (H8 : Hp), Dg K H8 false v (enD (numE (FinP D n) x)) → Same H H8 → RowsL K p H8 Ra qs (((FinP D n).take i).map fun pl => (rowP D n pl).map (numE (FinP D n))) → (∃ bs, H8 Fa = some (.lst (bs.map V.ref)) ∧ TupsAt H8 bs F') → RowL K H8 ra ents →
              ∃ l xs y, V.ref ra = .ref l ∧ [v] = [y] ∧ H8 l = some (.lst xs) ∧ xs.length < sizeLine ∧ (Same H (upd H8 l (.lst (xs ++ [y]))) ∧ RowsL K p (upd H8 l (.lst (xs ++ [y]))) Ra qs (((FinP D n).take i).map fun pl => (rowP D n pl).map (numE (FinP D n))) ∧ (∃ bs, (upd H8 l (.lst (xs ++ [y]))) Fa = some (.lst (bs.map V.ref)) ∧ TupsAt (upd H8 l (.lst (xs ++ [y]))) bs F') ∧ RowL K (upd H8 l (.lst (xs ++ [y]))) ra (ents ++ [numE (FinP D n) x])) := fun v x F' H8 dv s8 hRL8 ⟨bs8, eF8, t8⟩ hr8 => by
            obtain ⟨xs, exs, hxs⟩ := hr8
            have lxs := hxs.len
            rw [List.length_map] at lxs
            refine ⟨ra, xs, v, rfl, rfl, exs, Nat.lt_of_le_of_lt (show xs.length ≤ 10 by omega) (by decide), fun b o e => by rw [upd_ne (ne_of_none e hraH)]; exact s8 _ _ e, hRL8.kp exs nraR.symm nraq ((Kp.refl ra H8).upd), ⟨bs8, by rw [upd_ne nraF.symm]; exact eF8, t8.ext fun b ys e => by rw [upd_ne (fun z => by rw [z, exs] at e; cases e)]; exact e⟩, _, upd_same, ?_⟩
            rw [List.map_append]
            exact ((dg_lfwoAll exs _ _ (lfAll_map lf_enD _) hxs).append (.cons (dg_lfwo exs _ _ (lf_enD _) dv) .nil)).ext wo_updS
          dsimp only [L2.gName]
          refine seq3_opaque fun N hN => ?_
          have fin : ∀ ev gv H7, Same H6 H7 → GoAt K H7 ev gv (nx D n (s0, m0, t0') j) → N [some (.ref r), some (.int (n : Nat)), some (.ref Fa), some (.ref Ra), some (.int (0 + (i : Int))), some (.int (s0 : Nat)), some (.int (m0 : Nat)), some (.int (t0' : Nat)), some (.ref ra), some (.int (0 + (j : Int))), some ev, some gv, none] H7 := fun ev gv H7 s7 hgo => by
            have s07 := s6.trans s7
            have hRL7 := hRL6.ext s7
            have eF7 := s7 _ _ eF6
            have t7 := t6.ext fun b ys e => s7 _ _ e
            have hr7 := hr6.ext s7
            refine hN _ _ ?_
            cases hx' : nx D n (s0, m0, t0') j with
            | none =>
              rw [hx'] at hgo
              obtain rfl : ev = .non := hgo
              obtain ⟨xs7, exs7, hxs7⟩ := id hr7
              refine ⟨_, rfl, _, rfl, iteF ⟨_, rfl, .inl ⟨rfl, _, SqL.of exs7⟩, _, rfl, _, rfl, iteT ?_⟩⟩
              obtain ⟨l, xs, y, e1, e2, e3, e4, A1, A2, A3, A4⟩ := push .non none F H7 .non s07 hRL7 ⟨bs6, eF7, t7⟩ hr7
              exact ⟨l, xs, y, e1, e2, e3, e4, _, _, _, rfl, A1, A2, A3, A4⟩
            | some q =>
              obtain ⟨g, u⟩ := q
              rw [hx'] at hgo preF
              obtain ⟨e, gb, i0, rfl, de, rfl, hgb⟩ := hgo
              have dg : Dp K H7 (.ref gb) (plcD g) := dg_dp _ _ (.tup (SqT.of hgb) (.cons (.int _) (.cons (.int _) (.cons (.int _) .nil))))
              have lF' : (addP F (some (g, u))).length ≤ 75 := Nat.le_trans preF.length_le lenF
              -- the entry is put into the row
              have rest : ∀ (D' : Ends) (H8 : Hp) (bs8 : List Addr), Same H H8 → RowsL K p H8 Ra qs (((FinP D n).take i).map fun pl => (rowP D n pl).map (numE (FinP D n))) → H8 Fa = some (.lst (bs8.map V.ref)) → TupsAt H8 bs8 (addP F (some (g, u))) → RowL K H8 ra ents → Dg K H8 false (.ref e) (.tuple [.int i0, .str (S u)]) → H8 gb = some (.tup (plV g)) →
                  (∀ H9, Same H H9 ∧ RowsL K p H9 Ra qs (((FinP D n).take i).map fun pl => (rowP D n pl).map (numE (FinP D n))) ∧ (∃ bs, H9 Fa = some (.lst (bs.map V.ref)) ∧ TupsAt H9 bs (addP F (some (g, u)))) ∧ RowL K H9 ra (ents ++ [numE (FinP D n) (some (g, u))]) → D'.nx [some (.ref r), some (.int (n : Nat)), some (.ref Fa), some (.ref Ra), some (.int (0 + (i : Int))), some (.int (s0 : Nat)), some (.int (m0 : Nat)), some (.int (t0' : Nat)), some (.ref ra), some (.int (0 + (j : Int))), some (.ref e), some (.ref gb), none] H9) →
                  tDrop (tBM K "list" rAppend (tVar 8) (tCons (tIf (tB (tIsN (tVar 10))) (tC .non) (tTup (tCons (tBM K "list" (rIndexD K) (tVar 2) (tCons (tVar 11) tNil)) (tCons (tOp (rIxT K) (tVar 10) (tC (.int 1))) tNil)))) tNil)) D' [some (.ref r), some (.int (n : Nat)), some (.ref Fa), some (.ref Ra), some (.int (0 + (i : Int))), some (.int (s0 : Nat)), some (.int (m0 : Nat)), some (.int (t0' : Nat)), some (.ref ra), some (.int (0 + (j : Int))), some (.ref e), some (.ref gb), none] H8 := fun D' H8 bs8 s8 hRL8 eF8 t8 hr8 de8 hgb8 q => by
                obtain ⟨xs8, exs8, hxs8⟩ := id hr8
                have hg : g ∈ addP F (some (g, u)) := addP_mem
                have hlt := List.idxOf_lt_length_of_mem hg
                have dg8 : Dp K H8 (.ref gb) (plcD g) := dg_dp _ _ (.tup (SqT.of hgb8) (.cons (.int _) (.cons (.int _) (.cons (.int _) .nil))))
                have nodF' : (addP F (some (g, u))).Nodup := addP_nodup nodF
                refine ⟨_, rfl, .inl ⟨rfl, _, SqL.of exs8⟩, _, rfl, _, rfl, iteF ⟨_, rfl, .inl ⟨rfl, _, SqL.of eF8⟩, _, rfl, Fa, .ref gb, plcD g, (addP F (some (g, u))).map plcD, (addP F (some (g, u))).idxOf g, plcD g, rfl, rfl, dp_found eF8 t8, dg8, shaped_plcs _, shaped_plc g, ?_, ?_, fun m z' hm hz => ?_, _, rfl, e, _, _, _, rfl, rfl, pair_of de8, atI_nat (j := 1) rfl, (by show 2 ≤ sizeLine; decide), fun t ht => ?_⟩⟩
                · rw [List.getElem?_map, List.getElem?_eq_getElem hlt, List.getElem_idxOf hlt]; rfl
                · rw [eqv_plc]; exact decide_eq_true rfl
                · rw [List.getElem?_map, List.getElem?_eq_getElem (by omega)] at hz
                  injection hz with hz
                  rw [← hz, eqv_plc]
                  refine decide_eq_false fun z => ?_
                  have := nodF'.idxOf_getElem m (by omega)
                  rw [z] at this; omega
                · have s9 : Same H8 (upd H8 t (.tup [.int ((addP F (some (g, u))).idxOf g : Nat), .str (S u)])) := Same.new (Same.refl _) ht
                  have dv : Dg K (upd H8 t (.tup [.int ((addP F (some (g, u))).idxOf g : Nat), .str (S u)])) false (.ref t) (enD (numE (FinP D n) (some (g, u)))) := by
                    show Dg K _ false (.ref t) (.tuple [.int ((FinP D n).idxOf g : Nat), .str (S u)])
                    rw [idx_pre preF hg]
                    exact .tup (SqT.of upd_same) (.cons (.int _) (.cons (.str _) .nil))
                  obtain ⟨l, xs, y, e1, e2, e3, e4, A⟩ := push (.ref t) (some (g, u)) (addP F (some (g, u))) _ dv (s8.trans s9) (hRL8.ext s9) ⟨bs8, s9 _ _ eF8, t8.ext fun b ys e => s9 _ _ e⟩ (hr8.ext s9)
                  exact ⟨l, xs, y, e1, e2, e3, e4, q _ A⟩
              refine ⟨_, rfl, _, rfl, iteT ⟨_, rfl, _, rfl, plcD g, F.map plcD, dg, dp_found eF7 t7, shaped_plc g, shaped_plcs F, _, rfl, ?_⟩⟩
              rw [any_plc]
              by_cases hg : g ∈ F
              · have ea : addP F (some (g, u)) = F := by show (if g ∈ F then F else F ++ [g]) = F; rw [if_pos hg]
                rw [decide_eq_true hg]
                exact iteF (rest _ H7 bs6 s07 hRL7 eF7 (by rw [ea]; exact t7) hr7 de hgb fun H9 ⟨A1, A2, A3, A4⟩ => ⟨_, _, _, rfl, A1, A2, A3, A4⟩)
              · have ea : addP F (some (g, u)) = F ++ [g] := by show (if g ∈ F then F else F ++ [g]) = F ++ [g]; rw [if_neg hg]
                rw [decide_eq_false hg]
                rw [ea] at lF'
                refine iteT ⟨_, rfl, .inl ⟨rfl, _, SqL.of eF7⟩, _, rfl, Fa, _, _, rfl, rfl, eF7, (by rw [List.length_map, t7.1]; rw [List.length_append] at lF'; exact Nat.lt_of_le_of_lt (show F.length ≤ 75 by omega) (by decide)), ?_⟩
                have kF : Kp Fa H7 (upd H7 Fa (.lst (bs6.map V.ref ++ [.ref gb]))) := (Kp.refl Fa H7).upd
                have kt : ∀ b ys, H7 b = some (.tup ys) → (upd H7 Fa (.lst (bs6.map V.ref ++ [.ref gb]))) b = some (.tup ys) := fun b ys e => by rw [upd_ne (fun z => by rw [z, eF7] at e; cases e)]; exact e
                refine rest _ _ (bs6 ++ [gb]) (fun b o e => by rw [upd_ne (ne_of_none e hFH)]; exact s07 _ _ e) (hRL7.kp eF7 nRF nFq kF) (by rw [upd_same, List.map_append]; rfl) (by rw [ea]; exact (t7.ext kt).snoc (kt _ _ hgb)) (hr7.kp eF7 nraF kF) ((dg_lfwo eF7 (.tuple [.int i0, .str (S u)]) _ rfl de).ext wo_updS) (kt _ _ hgb) fun H9 ⟨A1, A2, A3, A4⟩ => ⟨_, _, _, rfl, A1, A2, A3, A4⟩
          have vi : decide (V.int (0 + (j : Int)) = V.int (t0' : Nat)) = decide (j = t0') := by
            rw [Bool.eq_iff_iff, decide_eq_true_eq, decide_eq_true_eq]
            exact ⟨fun z => by have := V.int.inj z; omega, fun z => by rw [z, Int.zero_add]⟩
          refine ⟨_, rfl, _, rfl, rfl, _, rfl, ?_⟩
          rw [vi]
          refine ite2 (fun c2 => ?_) (fun c2 => ?_)
          · have hjt : j = t0' := of_decide_eq_true c2
            refine ⟨_, rfl, (by show 2 ≤ sizeLine; decide), fun e he => ⟨_, rfl, three, fun gb hgb => ?_⟩⟩
            have s7a : Same H6 (upd H6 e (.tup [.int (s0 : Nat), .str (Str.ofString "")])) := Same.new (Same.refl _) he
            have de : Dg K (upd H6 e (.tup [.int (s0 : Nat), .str (Str.ofString "")])) false (.ref e) (.tuple [.int (s0 : Nat), .str (S [])]) := .tup (SqT.of upd_same) (.cons (.int _) (.cons (by rw [sE]; exact .str _) .nil))
            generalize upd H6 e (.tup [.int (s0 : Nat), .str (Str.ofString "")]) = H6' at s7a de hgb ⊢
            have s7b : Same H6' (upd H6' gb (.tup [.int (s0 : Nat), .int 0, .int 0])) := Same.new (Same.refl _) hgb
            have hev : m0 = n → GoAt K (upd H6' gb (.tup [.int (s0 : Nat), .int 0, .int 0])) (.ref e) (.ref gb) (nx D n (s0, m0, t0') j) := fun hm => by
              have en : nx D n (s0, m0, t0') j = some ((s0, 0, 0), []) := by
                unfold nx
                rw [if_pos hm, if_pos hjt]
              rw [en]
              exact ⟨e, gb, (s0 : Int), rfl, de.ext s7b, rfl, upd_same⟩
            have s7 := s7a.trans s7b
            generalize upd H6' gb (.tup [.int (s0 : Nat), .int 0, .int 0]) = H7 at s7 hev ⊢
            have s07 := s6.trans s7
            have hS7 : SqL K H7 r _ := (hS.ext (wo_same H p)).ext s07
            have hd7 : Dg K H7 false (.ref Sa) D.stL := (hdS.ext (wo_same H p)).ext s07
            refine ⟨_, rfl, _, rfl, _, _, rfl, rfl, _, rfl, ite2 (fun c3 => ?_) (fun c3 => ?_)⟩
            · have hmn : ¬ m0 = n := by have := of_decide_eq_true c3; omega
              have en : nx D n (s0, m0, t0') j = (D.at s0 j).map fun e => ((e.1, m0 + 1, (t0' + j) % D.sg), e.2) := by
                unfold nx
                rw [if_neg hmn]
              obtain ⟨xs1, rr, zs1, hx1, ex1, hz1, lz1, hrow1⟩ := dgL_row ok hd7 vp.s
              obtain ⟨e', ez, de'⟩ := hrow1 j hj
              refine ⟨_, rfl, r, _, _, _, rfl, rfl, hS7, atI_nat (j := 1) rfl, _, rfl, Sa, _, _, .ref rr, rfl, rfl, hx1, atI_nat ex1, _, rfl, rr, _, _, e', rfl, rfl, hz1, (by rw [Int.zero_add]; exact atI_nat ez), ?_⟩
              cases q : D.at s0 j with
              | none =>
                have de' : Dg K H7 false e' (enD (D.at s0 j)) := de'
                rw [q] at de' en
                obtain rfl : e' = .non := by cases de'; rfl
                exact ⟨_, rfl, _, rfl, iteT (fin .non .non H7 s7 (by rw [en]; rfl))⟩
              | some pq =>
                obtain ⟨g, u⟩ := pq
                have de' : Dg K H7 false e' (enD (D.at s0 j)) := de'
                rw [q] at de' en
                obtain ⟨te, us, rfl, _, _⟩ := de'.tup_of
                have hte := pair_of (i0 := (g : Int)) (z := S u) de'
                refine ⟨_, rfl, _, rfl, iteF ⟨_, rfl, te, _, _, _, rfl, rfl, hte, atI_nat (j := 0) rfl, _, rfl, _, _, rfl, rfl, _, rfl, _, rfl, _, _, rfl, rfl, .inl ⟨_, rfl, _, rfl, r, _, _, _, rfl, rfl, hS7, atI_nat (j := 0) rfl, _, _, rfl, rfl, (by show (0 : Int) < (D.sg : Int); have := ok.s1; omega), three, fun g2 hg2 => ?_⟩⟩⟩
                have eV : [V.int (g : Nat), .int ((m0 : Int) + 1), .int (((t0' : Int) + (0 + (j : Int))) % (D.sg : Int))] = plV (g, m0 + 1, (t0' + j) % D.sg) := by
                  show _ = [V.int (g : Nat), .int ((m0 + 1 : Nat) : Int), .int (((t0' + j) % D.sg : Nat) : Int)]
                  rw [Int.natCast_emod, Int.natCast_add, Int.zero_add]; rfl
                have s8 : Same H7 (upd H7 g2 (.tup [V.int (g : Nat), .int ((m0 : Int) + 1), .int (((t0' : Int) + (0 + (j : Int))) % (D.sg : Int))])) := Same.new (Same.refl _) hg2
                have e8 : (upd H7 g2 (.tup [V.int (g : Nat), .int ((m0 : Int) + 1), .int (((t0' : Int) + (0 + (j : Int))) % (D.sg : Int))])) g2 = some (.tup (plV (g, m0 + 1, (t0' + j) % D.sg))) := by rw [upd_same, eV]
                refine fin (.ref te) (.ref g2) _ (s7.trans s8) ?_
                rw [en]
                exact ⟨te, g2, (g : Int), rfl, de'.ext s8, rfl, e8⟩
            · have hmn : m0 = n := by
                have h1 : ¬ ((m0 : Int) < (n : Int)) := fun z => c3 (decide_eq_true z)
                have h2 : m0 ≤ n := vp.m
                omega
              exact fin _ _ H7 s7 (hev hmn)
          · have hjt : ¬ j = t0' := fun z => c2 (decide_eq_true z)
            refine ⟨_, rfl, three, fun gb hgb => ?_⟩
            have s7 : Same H6 (upd H6 gb (.tup [.int (s0 : Nat), .int 0, .int 0])) := Same.new (Same.refl _) hgb
            have hev : m0 = n → GoAt K (upd H6 gb (.tup [.int (s0 : Nat), .int 0, .int 0])) .non (.ref gb) (nx D n (s0, m0, t0') j) := fun hm => by
              have en : nx D n (s0, m0, t0') j = none := by
                unfold nx
                rw [if_pos hm, if_neg hjt]
              rw [en]; rfl
            generalize upd H6 gb (.tup [.int (s0 : Nat), .int 0, .int 0]) = H7 at s7 hev ⊢
            have s07 := s6.trans s7
            have hS7 : SqL K H7 r _ := (hS.ext (wo_same H p)).ext s07
            have hd7 : Dg K H7 false (.ref Sa) D.stL := (hdS.ext (wo_same H p)).ext s07
            refine ⟨_, rfl, _, rfl, _, _, rfl, rfl, _, rfl, ite2 (fun c3 => ?_) (fun c3 => ?_)⟩
            · have hmn : ¬ m0 = n := by have := of_decide_eq_true c3; omega
              have en : nx D n (s0, m0, t0') j = (D.at s0 j).map fun e => ((e.1, m0 + 1, (t0' + j) % D.sg), e.2) := by
                unfold nx
                rw [if_neg hmn]
              obtain ⟨xs1, rr, zs1, hx1, ex1, hz1, lz1, hrow1⟩ := dgL_row ok hd7 vp.s
              obtain ⟨e', ez, de'⟩ := hrow1 j hj
              refine ⟨_, rfl, r, _, _, _, rfl, rfl, hS7, atI_nat (j := 1) rfl, _, rfl, Sa, _, _, .ref rr, rfl, rfl, hx1, atI_nat ex1, _, rfl, rr, _, _, e', rfl, rfl, hz1, (by rw [Int.zero_add]; exact atI_nat ez), ?_⟩
              cases q : D.at s0 j with
              | none =>
                have de' : Dg K H7 false e' (enD (D.at s0 j)) := de'
                rw [q] at de' en
                obtain rfl : e' = .non := by cases de'; rfl
                exact ⟨_, rfl, _, rfl, iteT (fin .non .non H7 s7 (by rw [en]; rfl))⟩
              | some pq =>
                obtain ⟨g, u⟩ := pq
                have de' : Dg K H7 false e' (enD (D.at s0 j)) := de'
                rw [q] at de' en
                obtain ⟨te, us, rfl, _, _⟩ := de'.tup_of
                have hte := pair_of (i0 := (g : Int)) (z := S u) de'
                refine ⟨_, rfl, _, rfl, iteF ⟨_, rfl, te, _, _, _, rfl, rfl, hte, atI_nat (j := 0) rfl, _, rfl, _, _, rfl, rfl, _, rfl, _, rfl, _, _, rfl, rfl, .inl ⟨_, rfl, _, rfl, r, _, _, _, rfl, rfl, hS7, atI_nat (j := 0) rfl, _, _, rfl, rfl, (by show (0 : Int) < (D.sg : Int); have := ok.s1; omega), three, fun g2 hg2 => ?_⟩⟩⟩
                have eV : [V.int (g : Nat), .int ((m0 : Int) + 1), .int (((t0' : Int) + (0 + (j : Int))) % (D.sg : Int))] = plV (g, m0 + 1, (t0' + j) % D.sg) := by
                  show _ = [V.int (g : Nat), .int ((m0 + 1 : Nat) : Int), .int (((t0' + j) % D.sg : Nat) : Int)]
                  rw [Int.natCast_emod, Int.natCast_add, Int.zero_add]; rfl
                have s8 : Same H7 (upd H7 g2 (.tup [V.int (g : Nat), .int ((m0 : Int) + 1), .int (((t0' : Int) + (0 + (j : Int))) % (D.sg : Int))])) := Same.new (Same.refl _) hg2
                have e8 : (upd H7 g2 (.tup [V.int (g : Nat), .int ((m0 : Int) + 1), .int (((t0' : Int) + (0 + (j : Int))) % (D.sg : Int))])) g2 = some (.tup (plV (g, m0 + 1, (t0' + j) % D.sg))) := by rw [upd_same, eV]
                refine fin (.ref te) (.ref g2) _ (s7.trans s8) ?_
                rw [en]
                exact ⟨te, g2, (g : Int), rfl, de'.ext s8, rfl, e8⟩
            · have hmn : m0 = n := by
                have h1 : ¬ ((m0 : Int) < (n : Int)) := fun z => c3 (decide_eq_true z)
                have h2 : m0 ≤ n := vp.m
                omega
              exact fin _ _ H7 s7 (hev hmn)
        · rintro σ H6 ⟨x9, x10, x11, rfl, s6, hRL6, ⟨bs6, eF6, t6⟩, hr6⟩
          rw [List.take_of_length_le (by rw [lrow]; exact Nat.le_refl _)] at t6 hr6
          rw [← Sq_succ hpl] at t6
          have eFi : (FinP D n)[i]? = some (s0, m0, t0') := pre_get (sm.pre (i := i) (by omega)) hpl
          have e1 : (FinP D n).take (i + 1) = (FinP D n).take i ++ [(s0, m0, t0')] := by rw [List.take_add_one, eFi]; rfl
          have lq6 := hRL6.len
          have lF75 := sm.lenF
          refine ⟨_, rfl, .inl ⟨rfl, _, SqL.of hRL6.e⟩, _, rfl, Ra, _, _, rfl, rfl, hRL6.e, (by rw [List.length_map, lq6, List.length_map, List.length_take]; exact Nat.lt_of_le_of_lt (show min i (FinP D n).length ≤ 75 by omega) (by decide)), ?_⟩
          have kR : Kp Ra H6 (upd H6 Ra (.lst (qs.map V.ref ++ [.ref ra]))) := (Kp.refl Ra H6).upd
          refine ⟨_, _, _, _, _, _, _, _, rfl, fun b o e => by rw [upd_ne (ne_of_none e hRH)]; exact s6 _ _ e, bs6, qs ++ [ra], by rw [upd_ne nRF.symm]; exact eF6, t6.ext fun b ys e => by rw [upd_ne (fun z => by rw [z, hRL6.e] at e; cases e)]; exact e, fun z => ?_, ?_⟩
          · rcases List.mem_append.mp z with z | z
            · exact nFq z
            · exact nraF (List.mem_singleton.mp z).symm
          · rw [e1, List.map_append]
            exact hRL6.snoc hr6 nraq nraR nrap
      · have hge : (Sq D n i).length ≤ i := by
          have : ¬ ((0 : Int) + (i : Int) < ((Sq D n i).length : Nat)) := fun z => c (decide_eq_true z)
          omega
        have lF : (FinP D n).length ≤ i := by rw [sm.fin (by omega) hge]; exact hge
        refine ⟨_, _, _, _, _, _, _, _, rfl, s4, bs, qs, eF4, by rw [Sq_end hge]; exact t4, nFq, ?_⟩
        rw [List.take_of_length_le (by omega)]
        rw [List.take_of_length_le lF] at hRL
        exact hRL
    · rintro σ H4 ⟨x4, x5, x6, x7, x8, x9, x10, x11, rfl, s4, bs, qs, eF4, t4, nFq, hRL⟩
      have l75 := sm.lenF
      rw [List.take_of_length_le (by omega)] at hRL
      generalize hFF : Sq D n 200 = F0 at t4
      have eFF : FinP D n = F0 := by unfold FinP; exact hFF
      have tQ := t4
      have htl : bs.length = (FinP D n).length := by rw [eFF]; exact tQ.1
      have hS4 := (hS.ext (wo_same H p)).ext s4
      refine ⟨_, rfl, r, _, _, _, rfl, rfl, hS4, atI_nat (j := 0) rfl, _, rfl, _, rfl, Fa, rfl, ⟨_, SqL.of eF4⟩, fun Le hLe => ?_⟩
      refine lc_list_data (K := K) (m := false) (p := p) (a := Fa) (xs := bs.map V.ref) (fun j => ((FinP D n).map fun pl => wdD (if pl.2.1 = 0 then D.en.getD pl.1 none else none)).getD j .none) (SqL.of eF4) hLe (by rw [List.length_map, htl]; omega) (fun j v H' R N hv s' eD kk => ?_) (fun H7 zs s7 eL7 hz => ?_)
      · have hj := (List.getElem?_eq_some_iff.mp hv).1
        rw [List.length_map] at hj
        rw [List.getElem?_map] at hv
        obtain ⟨b, hb', rfl⟩ := Option.map_eq_some_iff.mp hv
        obtain ⟨pl, hpl⟩ : ∃ pl, (FinP D n)[j]? = some pl := ⟨_, List.getElem?_eq_getElem (by omega)⟩
        have ebp := s' _ _ (tQ.2 j b pl hb' (by rw [← eFF]; exact hpl))
        have ex : ((FinP D n).map fun pl => wdD (if pl.2.1 = 0 then D.en.getD pl.1 none else none)).getD j .none = wdD (if pl.2.1 = 0 then D.en.getD pl.1 none else none) := by rw [List.getD_eq_getElem?_getD, List.getElem?_map, hpl]; rfl
        rw [ex] at kk
        have vp := sm.vp (List.mem_of_getElem? hpl)
        refine ⟨rfl, tYesT ⟨_, rfl, b, _, _, _, rfl, rfl, SqT.of ebp, atI_nat (j := 1) rfl, rfl, _, rfl, ?_⟩⟩
        have vi : decide (V.int (pl.2.1 : Nat) = V.int 0) = decide (pl.2.1 = 0) := by
          rw [Bool.eq_iff_iff, decide_eq_true_eq, decide_eq_true_eq]
          exact ⟨fun z => by have := V.int.inj z; omega, fun z => by rw [z]; rfl⟩
        rw [vi]
        refine ite2 (fun c => ?_) (fun c => ?_)
        · have c' : pl.2.1 = 0 := of_decide_eq_true c
          rw [if_pos c'] at kk
          have s05 := s4.trans s'
          obtain ⟨Ea', us, eEa, hus, _, hua⟩ := hdE.lst_of
          injection eEa with eEa
          subst eEa
          have lE := ok.ends
          have hs1 := vp.s
          obtain ⟨v, d, ev, ed, dv⟩ := hua.nth (i := pl.1) (by rw [List.length_map]; omega)
          rw [List.getElem?_map, List.getElem?_eq_getElem (show pl.1 < D.en.length by omega)] at ed
          have ed := Option.some.inj ed
          have eg : D.en.getD pl.1 none = D.en[pl.1] := by rw [List.getD_eq_getElem?_getD, List.getElem?_eq_getElem (show pl.1 < D.en.length by omega)]; rfl
          rw [eg, ed] at kk
          refine ⟨_, rfl, r, _, _, _, rfl, rfl, hS4.ext s', atI_nat (j := 2) rfl, _, rfl, b, _, _, _, rfl, rfl, SqT.of ebp, atI_nat (j := 0) rfl, Ea, _, _, _, rfl, rfl, (hus.ext (wo_same H p)).ext s05, atI_nat ev, kk _ H' (Same.refl _) ?_⟩
          rw [← ed] at dv ⊢
          cases q : D.en[pl.1] with
          | none =>
            rw [q] at dv
            obtain rfl : v = .non := by cases dv; rfl
            exact .non
          | some w =>
            rw [q] at dv
            obtain rfl := dv.str_of
            exact .str _
        · have c' : ¬ pl.2.1 = 0 := fun z => c (decide_eq_true z)
          rw [if_neg c'] at kk
          exact kk _ H' (Same.refl _) .non
      · have hz := own_list hz
        have eEn : (List.range (bs.map V.ref).length).map (fun j => ((FinP D n).map fun pl => wdD (if pl.2.1 = 0 then D.en.getD pl.1 none else none)).getD j .none) = (FinP D n).map fun pl => wdD (if pl.2.1 = 0 then D.en.getD pl.1 none else none) := by
          refine List.ext_getElem? fun j => ?_
          rw [List.getElem?_map, List.length_map]
          by_cases hj : j < bs.length
          · rw [List.getElem?_range hj, List.getElem?_eq_getElem (by rw [List.length_map]; omega)]
            show some (((FinP D n).map fun pl => wdD (if pl.2.1 = 0 then D.en.getD pl.1 none else none)).getD j .none) = _
            rw [List.getD_eq_getElem?_getD, List.getElem?_eq_getElem (by rw [List.length_map]; omega)]; rfl
          · rw [List.getElem?_eq_none (by rw [List.length_range]; omega), List.getElem?_eq_none (by rw [List.length_map]; omega)]; rfl
        rw [eEn] at hz
        have hb4 := hb.same s4
        have hb7 := hb4.same s7
        have nLp : Le ≠ p := (hb4.ne hLe).symm
        have dEn : Dg K (wo H7 p) false (.ref Le) (ChkD D n).enL := by
          refine .lst (SqL.of (by rw [wo_ne nLp]; exact eL7)) (fun z => by cases z) ?_
          show DgAll K (wo H7 p) false zs (((FinP D n).map fun pl => if pl.2.1 = 0 then D.en.getD pl.1 none else none).map wdD)
          rw [List.map_map]
          exact hz
        have dSt : Dg K (wo H7 p) false (.ref Ra) (ChkD D n).stL := (hRL.ext s7).dgw hb7
        refine ⟨three, fun r' hr' => kQ r' _ ((s4.trans s7).trans (Same.new (Same.refl _) hr')) ?_⟩
        have nrp : r' ≠ p := (hb7.ne hr').symm
        rw [wo_new nrp]
        have sn : Same (wo H7 p) (upd (wo H7 p) r' (.lst [.int (D.sg : Nat), .ref Ra, .ref Le])) := Same.new (Same.refl _) (by rw [wo_ne nrp]; exact hr')
        exact .lst (SqL.of upd_same) (fun z => by cases z) (.cons (.int _) (.cons (dSt.ext sn) (.cons (dEn.ext sn) .nil)))
end
end My

set_option Elab.async false
set_option linter.all false
set_option maxRecDepth 100000
set_option maxHeartbeats 8000000
namespace My
open PySem PySem.Spec PyProof.Rows L2
def iN (a : Nat) : V := .int (a : Nat)
theorem cutV_mid (xs : List V) (i j : Nat) : cutV xs (some (i : Int)) (some (j : Int)) = (xs.drop i).take (j - i) := by
  unfold cutV
  rw [sIx_some, sIx_some]
  rcases Nat.le_total i xs.length with h | h
  · rw [Nat.min_eq_left h]
    rcases Nat.le_total j xs.length with h2 | h2
    · rw [Nat.min_eq_left h2]
    · rw [Nat.min_eq_right h2, List.take_of_length_le (by rw [List.length_drop]; exact Nat.le_refl _), List.take_of_length_le (by rw [List.length_drop]; omega)]
  · rw [Nat.min_eq_right h, List.drop_of_length_le (Nat.le_refl _), List.drop_of_length_le h, List.take_nil, List.take_nil]
theorem iN_sum : ∀ l : List Nat, (l.map fun (a : Nat) => (a : Int)).sum = ((l.sum : Nat) : Int)
  | [] => rfl
  | a :: l => by rw [List.map_cons, List.sum_cons, List.sum_cons, iN_sum l]; omega
theorem iN_map (l : List Nat) : l.map iN = (l.map fun (a : Nat) => (a : Int)).map V.int := by rw [List.map_map]; rfl
theorem rg_step : ∀ n : Nat, n ≤ 4 → ∀ k : Nat, k ≤ 13 → RgC 0 (((n + 1) * k : Nat) : Int) ((n : Int) + 1) k := by
  have : ∀ n : Nat, n ≤ 4 → ∀ k : Nat, k ≤ 13 → (((n : Int) + 1 ≠ 0) ∧ ((n : Int) + 1).natAbs < 1073741824 ∧ Builtin.Range.small 0 (((n + 1) * k : Nat) : Int) ((n : Int) + 1) = true ∧ Builtin.Range.rangeSize 0 (((n + 1) * k : Nat) : Int) ((n : Int) + 1) = k) := by decide +kernel
  exact this
section
variable {P : Program} {w : World} {K : PySem.W.Frag} {mg : Str → Option Value} {base : Heap}
theorem ok_law_slipped (T : Txt K mg) : FnOk P w K mg base CX0 2 T.f_law_slipped T.fd_law_slipped ["box", "line", "most"] (fun vs H Q _ => ∃ (p l : Addr) (c sg : Nat) (ns : List Nat), vs = [.ref p, .ref l, .int (sg : Nat)] ∧ BoxAt H p c ∧ c < 10000000 ∧ l ≠ p ∧ H l = some (.lst (ns.map iN)) ∧ ns.length ≤ 20 ∧ 1 ≤ sg ∧ sg ≤ 5 ∧ (∀ a ∈ ns, a < sg) ∧
    ∀ (r : Addr) (ms : List Nat) (H' : Hp), Kp p H H' → BoxAt H' p (c + 3) → r ≠ p → H' r = some (.lst (ms.map iN)) → ms.length ≤ 21 → (∀ a ∈ ms, a < sg) → Q (.ref r) H') := by
  refine T.F_law_slipped.ok sc_law_slipped (fun vs H Q E h => ?_) (fun cdv A outer s H vs Q E hr h => ?_)
  · obtain ⟨p, l, c, sg, ns, rfl, _⟩ := h; rfl
  · obtain ⟨p, l, c, sg, ns, rfl, hb, hc, nl, el, ln, s1, s5, hns, kQ⟩ := h
    refine ⟨_, (pss_cons (ps_par (i := 3) (j := 4) (by rfl) sc_law_slipped.nd rfl rfl (by decide) rfl rfl (pa_cons (pe_call (ok_law_take T) (hr.mono (by decide)) rfl T.g_law_take T.F_law_take.kp T.b_law_take .nil pass0 (pa_cons (pv 0) (pa_cons (pe_op op_add (pe_callB call_len_seq (by rfl) T.z_len (by decide +kernel) (pa_cons (pv 1) pa_nil)) pe_int) pa_nil))) (pa_cons (pe_call (ok_law_take T) (hr.mono (by decide)) rfl T.g_law_take T.F_law_take.kp T.b_law_take .nil pass0 (pa_cons (pv 0) (pa_cons pe_int pa_nil))) pa_nil)) (by rfl))
      (pss_cons (ps_if (PW.pt (pw_and (pt_cmpR op_eq (pv 4) pe_int (nomark _)) (pw_and1 (pt_cmpR op_lt (pv 3) (pe_callB call_len_seq (by rfl) T.z_len (by decide +kernel) (pa_cons (pv 1) pa_nil)) (nomark _))))) (pss_one (ps_ret (pe_op op_cat (pe_slice sl_list (pv 1) po_none (po_some (pv 3))) (pe_slice sl_list (pv 1) (po_some (pe_op op_add (pv 3) pe_int)) po_none)))) pss_nil)
      (pss_one (ps_ret (pe_op op_cat (pe_op op_cat (pe_slice sl_list (pv 1) po_none (po_some (pv 3))) (pe_lst (pa_cons (pe_call (ok_law_take T) (hr.mono (by decide)) rfl T.g_law_take T.F_law_take.kp T.b_law_take .nil pass0 (pa_cons (pv 0) (pa_cons (pv 2) pa_nil))) pa_nil))) (pe_slice sl_list (pv 1) (po_some (pe_op op_add (pv 3) (pe_ifExp (pt_cmpR op_eq (pv 4) pe_int (nomark _)) pe_int pe_int))) po_none)))))), ?_⟩
    have one : 1 ≤ sizeLine := by decide
    have lm : (ns.map iN).length = ns.length := List.length_map _
    refine ⟨_, rfl, _, rfl, l, _, rfl, .inl (SqL.of el), _, _, rfl, rfl, p, c, _, rfl, hb, by omega, by omega, by omega, fun spot o hspot ho => ?_⟩
    refine ⟨_, rfl, p, _, 3, rfl, ho.at, by omega, by omega, by omega, fun way o2 hway ho2 => ⟨_, _, rfl, ?_⟩⟩
    have k1 : Kp p H (upd (upd H p o) p o2) := ((Kp.refl p H).upd).upd
    have b1 : BoxAt (upd (upd H p o) p o2) p (c + 2) := ho2.at
    have e1 := k1 _ _ nl el
    generalize upd (upd H p o) p o2 = H1 at k1 b1 e1 ⊢
    rw [lm] at hspot
    dsimp only
    refine seq_opaque fun N hN => ?_
    have take_ok : ∀ a ∈ ns.take spot, a < sg := fun a ha => hns a (List.mem_of_mem_take ha)
    have drop_ok : ∀ k, ∀ a ∈ ns.drop k, a < sg := fun k a ha => hns a (List.mem_of_mem_drop ha)
    have fin : N ((List.set (L2.start N_law_slipped [V.ref p, V.ref l, V.int (sg : Nat)]) 3 (some (V.int (spot : Nat)))).set 4 (some (V.int (way : Nat)))) H1 := by
      refine hN _ _ ⟨_, rfl, _, rfl, _, rfl, l, _, rfl, SqL.of e1, fun q1 hq1 => ?_⟩
      rw [cutV_to, ← List.map_take]
      have n1 : q1 ≠ p := (b1.ne hq1).symm
      have s2 : Same H1 (upd H1 q1 (.lst ((ns.take spot).map iN))) := Same.new (Same.refl _) hq1
      have e2 : (upd H1 q1 (.lst ((ns.take spot).map iN))) q1 = some (.lst ((ns.take spot).map iN)) := upd_same
      generalize upd H1 q1 (.lst ((ns.take spot).map iN)) = H2 at s2 e2 ⊢
      refine ⟨_, rfl, _, rfl, p, c + 2, _, rfl, b1.same s2, by omega, by omega, by omega, fun d o3 hd ho3 => ⟨one, fun q2 hq2 => ?_⟩⟩
      have k3 : Kp p H2 (upd H2 p o3) := (Kp.refl p H2).upd
      have b3 : BoxAt (upd H2 p o3) p (c + 3) := ho3.at
      generalize upd H2 p o3 = H3 at k3 b3 hq2 ⊢
      have n2 : q2 ≠ p := (b3.ne hq2).symm
      have s4 : Same H3 (upd H3 q2 (.lst [.int (d : Nat)])) := Same.new (Same.refl _) hq2
      have e4 : (upd H3 q2 (.lst [.int (d : Nat)])) q2 = some (.lst ([d].map iN)) := upd_same
      have e24 := s4 _ _ (k3 _ _ n1 e2)
      generalize upd H3 q2 (.lst [.int (d : Nat)]) = H4 at s4 e4 e24 ⊢
      refine ⟨q1, q2, _, _, rfl, rfl, e24, e4, by rw [List.length_map, List.length_map, List.length_take]; exact Nat.le_trans (show min spot ns.length + 1 ≤ 21 by omega) (by decide), fun q3 hq3 => ?_⟩
      rw [← List.map_append]
      have n3 : q3 ≠ p := ((b3.same s4).ne hq3).symm
      have s5 : Same H4 (upd H4 q3 (.lst ((ns.take spot ++ [d]).map iN))) := Same.new (Same.refl _) hq3
      have e5 : (upd H4 q3 (.lst ((ns.take spot ++ [d]).map iN))) q3 = some (.lst ((ns.take spot ++ [d]).map iN)) := upd_same
      generalize upd H4 q3 (.lst ((ns.take spot ++ [d]).map iN)) = H5 at s5 e5 ⊢
      have k5 : Kp p H1 H5 := ((Kp.of s2).trans k3).trans ((Kp.of s4).trans (Kp.of s5))
      have b5 := (b3.same s4).same s5
      have el5 := k5 _ _ nl e1
      have go : ∀ z : Nat, z ≤ 1 → ∀ R : VK, (∀ q6 H6, Kp p H H6 → BoxAt H6 p (c + 3) → q6 ≠ p → H6 q6 = some (.lst ((ns.take spot ++ [d] ++ ns.drop (spot + z)).map iN)) → R (.ref q6) H6) → 
          ∃ a xs, V.ref l = .ref a ∧ SqL K H5 a xs ∧ ∀ q, H5 q = none → rCat (.ref q3) (.ref q) (upd H5 q (.lst (cutV xs (some (((spot : Nat) : Int) + ((z : Nat) : Int))) none))) R := by
        intro z hz R kR
        refine ⟨l, _, rfl, SqL.of el5, fun q4 hq4 => ?_⟩
        rw [show ((spot : Int) + (z : Int)) = ((spot + z : Nat) : Int) by omega, cutV_fr, ← List.map_drop]
        have n4 : q4 ≠ p := (b5.ne hq4).symm
        have s6 : Same H5 (upd H5 q4 (.lst ((ns.drop (spot + z)).map iN))) := Same.new (Same.refl _) hq4
        have e6 : (upd H5 q4 (.lst ((ns.drop (spot + z)).map iN))) q4 = some (.lst ((ns.drop (spot + z)).map iN)) := upd_same
        generalize upd H5 q4 (.lst ((ns.drop (spot + z)).map iN)) = H6 at s6 e6 ⊢
        refine ⟨q3, q4, _, _, rfl, rfl, s6 _ _ e5, e6, by rw [List.length_map, List.length_map, List.length_append, List.length_take, List.length_drop]; exact Nat.le_trans (show min spot ns.length + 1 + (ns.length - (spot + z)) ≤ 21 by omega) (by decide), fun q6 hq6 => ?_⟩
        rw [← List.map_append]
        exact kR q6 _ (k1.trans (k5.trans ((Kp.of s6).trans (Kp.of (Same.new (Same.refl _) hq6))))) ((b5.same s6).new hq6) (((b5.same s6).ne hq6).symm) upd_same
      have last : ∀ z : Nat, z ≤ 1 → ∀ (q6 : Addr) (H6 : Hp), Kp p H H6 → BoxAt H6 p (c + 3) → q6 ≠ p → H6 q6 = some (.lst ((ns.take spot ++ [d] ++ ns.drop (spot + z)).map iN)) → Q (.ref q6) H6 := fun z hz q6 H6 k6 b6 n6 e6 => kQ q6 _ H6 k6 b6 n6 e6 (by rw [List.length_append, List.length_append, List.length_take, List.length_drop]; show min spot ns.length + 1 + (ns.length - (spot + z)) ≤ 21; omega) fun a ha => by
        rcases List.mem_append.mp ha with h | h
        · rcases List.mem_append.mp h with h | h
          · exact take_ok a h
          · rw [List.mem_singleton.mp h]; omega
        · exact drop_ok _ a h
      refine ⟨_, rfl, _, rfl, _, rfl, rfl, _, rfl, ite2 (fun _ => ?_) (fun _ => ?_)⟩
      · exact ⟨_, _, rfl, rfl, _, rfl, go 1 (by omega) _ (last 1 (by omega))⟩
      · exact ⟨_, _, rfl, rfl, _, rfl, go 0 (by omega) _ (last 0 (by omega))⟩
    refine ⟨_, rfl, rfl, _, rfl, ite2 (fun _ => ?_) (fun _ => fin)⟩
    refine ⟨_, rfl, _, rfl, l, _, rfl, .inl (SqL.of e1), _, _, rfl, rfl, _, rfl, ite2 (fun hlt => ?_) (fun _ => fin)⟩
    have hlt' : spot < ns.length := by
      have := of_decide_eq_true hlt
      rw [lm] at this
      omega
    refine ⟨_, rfl, _, rfl, _, rfl, l, _, rfl, SqL.of e1, fun q1 hq1 => ?_⟩
    rw [cutV_to, ← List.map_take]
    have s2 : Same H1 (upd H1 q1 (.lst ((ns.take spot).map iN))) := Same.new (Same.refl _) hq1
    have e2 : (upd H1 q1 (.lst ((ns.take spot).map iN))) q1 = some (.lst ((ns.take spot).map iN)) := upd_same
    generalize upd H1 q1 (.lst ((ns.take spot).map iN)) = H2 at s2 e2 ⊢
    refine ⟨_, rfl, _, rfl, _, _, rfl, rfl, ((spot + 1 : Nat) : Int), rfl, l, _, rfl, SqL.of (s2 _ _ e1), fun q2 hq2 => ?_⟩
    rw [cutV_fr, ← List.map_drop]
    have s3 : Same H2 (upd H2 q2 (.lst ((ns.drop (spot + 1)).map iN))) := Same.new (Same.refl _) hq2
    have e3 : (upd H2 q2 (.lst ((ns.drop (spot + 1)).map iN))) q2 = some (.lst ((ns.drop (spot + 1)).map iN)) := upd_same
    generalize upd H2 q2 (.lst ((ns.drop (spot + 1)).map iN)) = H3 at s3 e3 ⊢
    refine ⟨q1, q2, _, _, rfl, rfl, s3 _ _ e2, e3, by rw [List.length_map, List.length_map, List.length_take, List.length_drop]; exact Nat.le_trans (show min spot ns.length + (ns.length - (spot + 1)) ≤ 21 by omega) (by decide), fun q6 hq6 => ?_⟩
    rw [← List.map_append]
    have b3 := (b1.same s2).same s3
    exact kQ q6 _ _ (k1.trans ((Kp.of s2).trans ((Kp.of s3).trans (Kp.of (Same.new (Same.refl _) hq6))))) ((b3.new hq6).mono (by omega)) ((b3.ne hq6).symm) upd_same (by rw [List.length_append, List.length_take, List.length_drop]; omega) fun a ha => by
      rcases List.mem_append.mp ha with h | h
      · exact take_ok a h
      · exact drop_ok _ a h
end
end My

set_option Elab.async false
set_option linter.all false
set_option maxRecDepth 100000
set_option maxHeartbeats 8000000
namespace My
open PySem PySem.Spec PyProof.Rows L2
theorem ne_l {H : Hp} {q Z : Addr} {o ob : HO} (hq : H q = none) (e : H Z = some ob) : (upd H q o) Z = some ob := by
  rw [upd_ne (fun z => by rw [z, hq] at e; cases e)]; exact e
section
variable {P : Program} {w : World} {K : PySem.W.Frag} {mg : Str → Option Value} {base : Heap}
theorem ok_law_line (T : Txt K mg) : FnOk P w K mg base CX0 2 T.f_law_line T.fd_law_line ["box", "plain", "many"] (fun vs H Q _ => ∃ (p r : Addr) (c : Nat) (D : Dcd) (n : Nat), vs = [.ref p, .ref r, .int (n : Nat)] ∧ BoxAt H p c ∧ c < 10000000 ∧ PlainAt K p H r D ∧ Sml D n ∧
    ∀ (l : Addr) (ns : List Nat) (H' : Hp), Kp p H H' → BoxAt H' p (c + 20) → l ≠ p → H' l = some (.lst (ns.map iN)) → ns.length ≤ 20 → (∀ a ∈ ns, a < D.sg) → Q (.ref l) H') := by
  refine T.F_law_line.ok sc_law_line (fun vs H Q E h => ?_) (fun cdv A outer s H vs Q E hr h => ?_)
  · obtain ⟨p, r, c, D, n, rfl, _⟩ := h; rfl
  · obtain ⟨p, r, c, D, n, rfl, hb, hc, plain, sm, kQ⟩ := h
    refine ⟨_, (pss_cons (ps_asg (pe_tup (pa_cons (pe_lst pa_nil) (pa_cons pe_int pa_nil))) (pg_tup rfl (pgs_cons (pg_name (i := 3) sc_law_line.nd rfl (Or.inl rfl)) (pgs_cons (pg_name (i := 4) sc_law_line.nd rfl (Or.inr rfl)) pgs_nil))))
      (pss_cons (ps_for PassesOwn.never rfl (pi_range1 rfl T.z_range (pa_cons (pe_call (ok_law_take T) (hr.mono (by decide)) rfl T.g_law_take T.F_law_take.kp T.b_law_take .nil pass0 (pa_cons (pv 0) (pa_cons pe_int pa_nil))) pa_nil)) (pg_name (i := 5) sc_law_line.nd rfl (Or.inl rfl)) (pss_cons (ps_set (i := 6) sc_law_line.nd rfl (Or.inl rfl) (pe_lst pa_nil))
      (pss_cons (ps_for PassesOwn.never rfl (pi_range1 rfl T.z_range (pa_cons (pv 2) pa_nil)) (pg_name (i := 7) sc_law_line.nd rfl (Or.inl rfl)) (pss_cons (ps_setLc (i := 8) (own := [("sign", 9)]) (g := gName 9) (by rfl) sc_law_line.nd rfl rfl (sw_true rfl rfl rfl (by decide +kernel)) (pi_range1 rfl T.z_range (pa_cons (pe_ix ix_list (pv 1) pe_int (fun _ _ => rfl)) pa_nil)) (blkOk_by (own := [("sign", 9)]) (N := N_law_line) (sc := defScope s_law_line) (by decide +kernel)) (fun _ _ _ _ _ => pg_name (i := 9) sc_law_line.nd rfl (Or.inl rfl)) (fun _ _ _ _ _ => (pts_one (pt_cmp (pc_notN (pe_ix (ix_listK (K := K) rfl) (pe_ix (ix_listK (K := K) rfl) (pe_ix (ix_listK (K := K) rfl) (pv 1) pe_int (fun _ _ => rfl)) (pv 4) (fun _ _ => rfl)) (pv 9) (fun _ _ => rfl)))))) (fun _ _ _ _ _ => (pv 9)))
      (pss_cons (ps_set (i := 9) sc_law_line.nd rfl (Or.inl rfl) (pe_ifExp (pt_cmpR (op_ne_nil (un0 hr)) (pv 8) (pe_lst pa_nil) (nomark _)) (pe_ix ix_list (pv 8) (pe_call (ok_law_take T) (hr.mono (by decide)) rfl T.g_law_take T.F_law_take.kp T.b_law_take .nil pass0 (pa_cons (pv 0) (pa_cons (pe_callB call_len_seq (by rfl) T.z_len (by decide +kernel) (pa_cons (pv 8) pa_nil)) pa_nil))) (fun _ _ => rfl)) (pe_call (ok_law_take T) (hr.mono (by decide)) rfl T.g_law_take T.F_law_take.kp T.b_law_take .nil pass0 (pa_cons (pv 0) (pa_cons (pe_ix ix_list (pv 1) pe_int (fun _ _ => rfl)) pa_nil)))))
      (pss_cons (ps_set (i := 4) sc_law_line.nd rfl (Or.inr rfl) (pe_ifExp (pt_cmpR (op_ne_nil (un0 hr)) (pv 8) (pe_lst pa_nil) (nomark _)) (pe_ix ix_tup (pe_ix ix_list (pe_ix ix_list (pe_ix ix_list (pv 1) pe_int (fun _ _ => rfl)) (pv 4) (fun _ _ => rfl)) (pv 9) (fun _ _ => rfl)) pe_int (fun _ _ => rfl)) (pv 4)))
      (pss_one (ps_expr (pe_bm PySem.F.plainAttrs_list PySem.F.slot_list_append PySem.F.type_list_append mt_append (pv 6) (pa_cons (pv 9) pa_nil))))))))
      (pss_one (ps_set (i := 3) sc_law_line.nd rfl (Or.inl rfl) (pe_op op_cat (pe_op op_cat (pv 3) (pv 6)) (pe_lst (pa_cons (pe_op op_mod (pe_callB (cr_sum rfl) (by rfl) T.z_sum (by decide +kernel) (pa_cons (pv 6) pa_nil)) (pe_ix ix_list (pv 1) pe_int (fun _ _ => rfl))) pa_nil))))))))
      (pss_one (ps_ret (pv 3))))), ?_⟩
    have ok := sm.ok
    have n1 := sm.n1
    have n4 := sm.n4
    have sg1 := ok.s1
    have st1 := ok.n1
    have sg3 := plain.sg
    have one : 1 ≤ sizeLine := by decide
    have two : 2 ≤ sizeLine := by decide
    have zero : 0 ≤ sizeLine := by decide
    refine ⟨zero, fun l hl => ⟨two, fun t ht => ⟨t, _, rfl, SqT.of upd_same, rfl, _, _, rfl, _, _, rfl, rfl, ?_⟩⟩⟩
    have nl : l ≠ p := (hb.ne hl).symm
    have s1 : Same H (upd H l (.lst [])) := Same.new (Same.refl _) hl
    have el : (upd H l (.lst [])) l = some (.lst (([] : List Nat).map iN)) := upd_same
    generalize upd H l (.lst []) = H1 at s1 el ht ⊢
    have s2 : Same H1 (upd H1 t (.tup [.ref l, .int 0])) := Same.new (Same.refl _) ht
    have el2 := s2 _ _ el
    have k2 : Kp p H (upd H1 t (.tup [.ref l, .int 0])) := (Kp.of s1).trans (Kp.of s2)
    have b2 := (hb.same s1).same s2
    generalize upd H1 t (.tup [.ref l, .int 0]) = H2 at s2 el2 k2 b2 ⊢
    dsimp only [L2.gName]
    refine ⟨_, rfl, p, c, 5, rfl, b2, by omega, by omega, by omega, fun d o hd ho => ⟨(d : Int), rfl, by omega, by omega, ?_⟩⟩
    have k3 : Kp p H (upd H2 p o) := k2.upd
    have b3 : BoxAt (upd H2 p o) p (c + 1) := ho.at
    have el3 : (upd H2 p o) l = some (.lst (([] : List Nat).map iN)) := by rw [upd_ne nl]; exact el2
    generalize upd H2 p o = H3 at k3 b3 el3 ⊢
    rw [Int.toNat_natCast]
    refine for_range (lo := 0) (n := d) (fun i σ H' => ∃ x5 x6 x7 x8 x9 l ns st, σ = [some (.ref p), some (.ref r), some (.int (n : Nat)), some (.ref l), some (.int (st : Nat)), x5, x6, x7, x8, x9] ∧ Kp p H H' ∧ BoxAt H' p (c + 1 + 4 * i) ∧ l ≠ p ∧ H' l = some (.lst (ns.map iN)) ∧ ns.length = (n + 1) * i ∧ (∀ a ∈ ns, a < D.sg) ∧ st < D.st.length) ⟨_, _, _, _, _, l, [], 0, rfl, k3, b3, nl, el3, rfl, (fun a h => by cases h), by omega⟩ ?_ ?_
    · rintro i σ H4 hi ⟨x5, x6, x7, x8, x9, l, ns, st, rfl, k4, b4, nl, el, lns, ons, hst⟩
      have hi4 : i ≤ 3 := by omega
      refine ⟨zero, fun B hB => ?_⟩
      have nB : B ≠ p := (b4.ne hB).symm
      have nBl : B ≠ l := fun z => by rw [z, el] at hB; cases hB
      have s5 : Same H4 (upd H4 B (.lst [])) := Same.new (Same.refl _) hB
      have eB : (upd H4 B (.lst [])) B = some (.lst (([] : List Nat).map iN)) := upd_same
      have k5 := k4.trans (Kp.of s5)
      have b5 := b4.same s5
      have el5 := s5 _ _ el
      have hBH : H B = none := by
        cases e : H B with
        | none => rfl
        | some ob => rw [k4 _ _ nB e] at hB; cases hB
      generalize upd H4 B (.lst []) = H5 at s5 eB k5 b5 el5 ⊢
      dsimp only [L2.gName]
      refine ⟨_, rfl, (n : Int), rfl, by omega, by omega, ?_⟩
      rw [Int.toNat_natCast]
      refine for_range (lo := 0) (n := n) (fun j σ H' => ∃ x5 x7 x8 x9 bs st, σ = [some (.ref p), some (.ref r), some (.int (n : Nat)), some (.ref l), some (.int (st : Nat)), x5, some (.ref B), x7, x8, x9] ∧ Kp p H H' ∧ BoxAt H' p (c + 1 + 4 * i + j) ∧ H' l = some (.lst (ns.map iN)) ∧ H' B = some (.lst (bs.map iN)) ∧ bs.length = j ∧ (∀ a ∈ bs, a < D.sg) ∧ st < D.st.length) ⟨_, _, _, _, [], st, rfl, k5, b5, el5, eB, rfl, (fun a h => by cases h), hst⟩ ?_ ?_
      · rintro j σ H6 hj ⟨x5, x7, x8, x9, bs, st, rfl, k6, b6, el6, eB6, lbs, obs, hst⟩
        have plain6 := plain.kp k6
        obtain ⟨⟨Sa, Ea, hS, hdS, hdE, _⟩, _, _⟩ := id plain6
        have hS6 := hS.ext (wo_same H6 p)
        have hd6 : Dg K H6 false (.ref Sa) D.stL := hdS.ext (wo_same H6 p)
        refine ⟨_, rfl, r, _, _, _, rfl, rfl, hS6, atI_nat (j := 0) rfl, _, rfl, by omega, by omega, fun Z hZ => ?_⟩
        rw [Int.toNat_natCast]
        refine lc_range (lo := 0) (n := D.sg) (fun a H' => Kp Z H6 H' ∧ ∃ zs : List Nat, H' Z = some (.lst (zs.map iN)) ∧ zs.length ≤ a ∧ ∀ x ∈ zs, x < D.sg ∧ D.at st x ≠ none) ⟨(Kp.refl Z H6).upd, [], upd_same, Nat.zero_le _, fun x h => by cases h⟩ ?_ ?_
        · rintro a H7 ha ⟨k7, zs, eZ, lz, oz⟩
          have s7 : Same H6 H7 := k7.toSame (Same.refl _) hZ
          have hd7 := hd6.ext s7
          obtain ⟨xs1, rr, zs1, hx1, ex1, hz1, lz1, hrow1⟩ := dgL_row ok hd7 hst
          obtain ⟨e', ez, de'⟩ := hrow1 a ha
          refine ⟨rfl, _, rfl, r, _, _, _, rfl, rfl, hS6.ext s7, atI_nat (j := 1) rfl, _, rfl, Sa, _, _, .ref rr, rfl, rfl, hx1, atI_nat ex1, _, rfl, rr, _, _, e', rfl, rfl, hz1, (by rw [Int.zero_add]; exact atI_nat ez), ?_⟩
          cases q : D.at st a with
          | none =>
            rw [q] at de'
            obtain rfl : e' = .non := by cases de'; rfl
            exact ⟨_, rfl, iteF ⟨k7, zs, eZ, by omega, oz⟩⟩
          | some g =>
            rw [q] at de'
            obtain ⟨te, us, rfl, _, _⟩ := de'.tup_of
            refine ⟨_, rfl, iteT ⟨_, rfl, _, eZ, by rw [List.length_map]; exact Nat.lt_of_le_of_lt (show zs.length ≤ 10 by omega) (by decide), k7.upd, zs ++ [a], ?_, by rw [List.length_append]; show zs.length + 1 ≤ _; omega, fun x hx => ?_⟩⟩
            · rw [upd_same, List.map_append, Int.zero_add]; rfl
            · rcases List.mem_append.mp hx with h | h
              · exact oz x h
              · rw [List.mem_singleton.mp h]
                exact ⟨ha, by rw [q]; exact fun z => by cases z⟩
        · rintro H7 ⟨k7, zs, eZ, lz, oz⟩
          have s7 : Same H6 H7 := k7.toSame (Same.refl _) hZ
          have k70 := k6.trans (Kp.of s7)
          have b7 := b6.same s7
          have el7 := s7 _ _ el6
          have eB7 := s7 _ _ eB6
          have nZ : Z ≠ p := (b6.ne hZ).symm
          dsimp only [L2.gName]
          refine ⟨_, rfl, zero, fun q1 hq1 => ⟨Z, q1, _, rfl, rfl, ne_l hq1 eZ, upd_same, _, rfl, ?_⟩⟩
          have s8 : Same H7 (upd H7 q1 (.lst [])) := Same.new (Same.refl _) hq1
          have k80 := k70.trans (Kp.of s8)
          have b8 := b7.same s8
          have eZ8 := s8 _ _ eZ
          have el8 := s8 _ _ el7
          have eB8 := s8 _ _ eB7
          have s68 := s7.trans s8
          generalize upd H7 q1 (.lst []) = H8 at s8 k80 b8 eZ8 el8 eB8 s68 ⊢
          have hS8 := hS6.ext s68
          refine ite2 (fun cz => ?_) (fun cz => ?_)
          · have hz0 : zs ≠ [] := fun z => by rw [z] at cz; exact absurd cz (by simp)
            have lz0 : 0 < zs.length := List.length_pos_iff.mpr hz0
            refine ⟨_, rfl, _, rfl, _, rfl, Z, _, rfl, .inl (SqL.of eZ8), p, _, _, rfl, b8, by omega, by rw [List.length_map]; omega, by rw [List.length_map]; omega, fun d2 o2 hd2 ho2 => ?_⟩
            rw [List.length_map] at hd2
            obtain ⟨z, hz⟩ : ∃ z, zs[d2]? = some z := ⟨_, List.getElem?_eq_getElem (by omega)⟩
            obtain ⟨oz1, oz2⟩ := oz z (List.mem_of_getElem? hz)
            have hzV : (zs.map iN)[d2]? = some (.int (z : Nat)) := by rw [List.getElem?_map, hz]; rfl
            have k9 : Kp p H8 (upd H8 p o2) := (Kp.refl p H8).upd
            have b9 : BoxAt (upd H8 p o2) p (c + 1 + 4 * i + j + 1) := ho2.at
            have eZ9 := k9 _ _ nZ eZ8
            have el9 := k9 _ _ nl el8
            have eB9 := k9 _ _ nB eB8
            have k90 := k80.trans k9
            refine ⟨Z, _, (d2 : Int), _, rfl, rfl, SqL.of eZ9, atI_nat hzV, ?_⟩
            generalize upd H8 p o2 = H9 at k9 b9 eZ9 el9 eB9 k90 ⊢
            refine ⟨_, rfl, zero, fun q2 hq2 => ⟨Z, q2, _, rfl, rfl, ne_l hq2 eZ9, upd_same, _, rfl, ?_⟩⟩
            rw [cz]
            have s10 : Same H9 (upd H9 q2 (.lst [])) := Same.new (Same.refl _) hq2
            have k10 := k90.trans (Kp.of s10)
            have b10 := b9.same s10
            have el10 := s10 _ _ el9
            have eB10 := s10 _ _ eB9
            generalize upd H9 q2 (.lst []) = H10 at s10 k10 b10 el10 eB10 ⊢
            have plainT := plain.kp k10
            obtain ⟨⟨Sb, Eb, hS', hdS', _, _⟩, _, _⟩ := id plainT
            have hST := hS'.ext (wo_same H10 p)
            have hdT : Dg K H10 false (.ref Sb) D.stL := hdS'.ext (wo_same H10 p)
            obtain ⟨xs1, rr, zs1, hx1, ex1, hz1, lz1, hrow1⟩ := dgL_row ok hdT hst
            obtain ⟨e', ez, de'⟩ := hrow1 z oz1
            cases q : D.at st z with
            | none => exact absurd q oz2
            | some pq =>
              obtain ⟨g, u⟩ := pq
              rw [q] at de'
              obtain ⟨te, us, rfl, _, _⟩ := de'.tup_of
              have hte := pair_of (i0 := (g : Int)) (z := S u) de'
              have hg := (ok.at (s := st) (a := z)) g u q
              refine iteT ⟨_, rfl, r, _, _, _, rfl, rfl, hST, atI_nat (j := 1) rfl, _, rfl, Sb, _, _, .ref rr, rfl, rfl, hx1, atI_nat ex1, _, rfl, rr, _, _, .ref te, rfl, rfl, hz1, atI_nat ez, te, _, _, _, rfl, rfl, hte, atI_nat (j := 0) rfl, ?_⟩
              dsimp only [L2.gName]
              refine ⟨_, rfl, .inl ⟨rfl, _, SqL.of eB10⟩, _, rfl, B, _, _, rfl, rfl, eB10, by rw [List.length_map]; exact Nat.lt_of_le_of_lt (show bs.length ≤ 4 by omega) (by decide), ?_⟩
              refine ⟨_, _, _, _, bs ++ [z], g, rfl, k10.free hBH, (b10.other nB.symm).mono (by omega), by rw [upd_ne nBl.symm]; exact el10, by rw [upd_same, List.map_append]; rfl, by rw [List.length_append, lbs]; rfl, fun a ha => ?_, hg.1⟩
              rcases List.mem_append.mp ha with h | h
              · exact obs a h
              · rw [List.mem_singleton.mp h]; exact oz1
          · refine ⟨_, rfl, _, rfl, r, _, _, _, rfl, rfl, hS8, atI_nat (j := 0) rfl, p, _, _, rfl, b8, by omega, by omega, by omega, fun d2 o2 hd2 ho2 => ?_⟩
            have k9 : Kp p H8 (upd H8 p o2) := (Kp.refl p H8).upd
            have b9 : BoxAt (upd H8 p o2) p (c + 1 + 4 * i + j + 1) := ho2.at
            have eZ9 := k9 _ _ nZ eZ8
            have el9 := k9 _ _ nl el8
            have eB9 := k9 _ _ nB eB8
            have k90 := k80.trans k9
            dsimp only [L2.gName]
            generalize upd H8 p o2 = H9 at k9 b9 eZ9 el9 eB9 k90 ⊢
            refine ⟨_, rfl, zero, fun q2 hq2 => ⟨Z, q2, _, rfl, rfl, ne_l hq2 eZ9, upd_same, _, rfl, ?_⟩⟩
            rw [Bool.eq_false_iff.mpr cz]
            have s10 : Same H9 (upd H9 q2 (.lst [])) := Same.new (Same.refl _) hq2
            have k10 := k90.trans (Kp.of s10)
            have b10 := b9.same s10
            have el10 := s10 _ _ el9
            have eB10 := s10 _ _ eB9
            generalize upd H9 q2 (.lst []) = H10 at s10 k10 b10 el10 eB10 ⊢
            refine iteF ⟨_, rfl, ?_⟩
            dsimp only [L2.gName]
            refine ⟨_, rfl, .inl ⟨rfl, _, SqL.of eB10⟩, _, rfl, B, _, _, rfl, rfl, eB10, by rw [List.length_map]; exact Nat.lt_of_le_of_lt (show bs.length ≤ 4 by omega) (by decide), ?_⟩
            refine ⟨_, _, _, _, bs ++ [d2], st, rfl, k10.free hBH, (b10.other nB.symm).mono (by omega), by rw [upd_ne nBl.symm]; exact el10, by rw [upd_same, List.map_append]; rfl, by rw [List.length_append, lbs]; rfl, fun a ha => ?_, hst⟩
            rcases List.mem_append.mp ha with h | h
            · exact obs a h
            · rw [List.mem_singleton.mp h]; omega
      · rintro σ H6 ⟨x5, x7, x8, x9, bs, st, rfl, k6, b6, el6, eB6, lbs, obs, hst⟩
        have plain6 := plain.kp k6
        obtain ⟨⟨Sa, Ea, hS, hdS, hdE, _⟩, _, _⟩ := id plain6
        have hS6 := hS.ext (wo_same H6 p)
        have lbm : (bs.map iN).length = n := by rw [List.length_map, lbs]
        have lnm : (ns.map iN).length ≤ 15 := by
          rw [List.length_map, lns]
          exact Nat.mul_le_mul (show n + 1 ≤ 5 by omega) hi4
        refine ⟨_, rfl, _, rfl, l, B, _, _, rfl, rfl, el6, eB6, by rw [lbm]; exact Nat.le_trans (show _ ≤ 40 by omega) (by decide), fun q1 hq1 => ?_⟩
        rw [← List.map_append]
        have n1 : q1 ≠ p := (b6.ne hq1).symm
        have s7 : Same H6 (upd H6 q1 (.lst ((ns ++ bs).map iN))) := Same.new (Same.refl _) hq1
        have e7 : (upd H6 q1 (.lst ((ns ++ bs).map iN))) q1 = some (.lst ((ns ++ bs).map iN)) := upd_same
        generalize upd H6 q1 (.lst ((ns ++ bs).map iN)) = H7 at s7 e7 ⊢
        refine ⟨_, rfl, B, bs.map fun (a : Nat) => (a : Int), rfl, SqL.of (by rw [← iN_map]; exact s7 _ _ eB6), _, rfl, r, _, _, _, rfl, rfl, hS6.ext s7, atI_nat (j := 0) rfl, _, _, rfl, rfl, (by show (0 : Int) < (D.sg : Int); omega), one, fun q2 hq2 => ?_⟩
        have eV : [V.int ((bs.map fun (a : Nat) => (a : Int)).sum % (D.sg : Int))] = [bs.sum % D.sg].map iN := by
          rw [iN_sum]
          show _ = [V.int ((bs.sum % D.sg : Nat) : Int)]
          rw [Int.natCast_emod]
        rw [eV]
        have n2 : q2 ≠ p := ((b6.same s7).ne hq2).symm
        have s8 : Same H7 (upd H7 q2 (.lst ([bs.sum % D.sg].map iN))) := Same.new (Same.refl _) hq2
        have e8 : (upd H7 q2 (.lst ([bs.sum % D.sg].map iN))) q2 = some (.lst ([bs.sum % D.sg].map iN)) := upd_same
        generalize upd H7 q2 (.lst ([bs.sum % D.sg].map iN)) = H8 at s8 e8 ⊢
        refine ⟨q1, q2, _, _, rfl, rfl, s8 _ _ e7, e8, by rw [List.length_map, List.length_append, List.length_map]; rw [List.length_map] at lnm; exact Nat.le_trans (show _ + _ + 1 ≤ 40 by omega) (by decide), fun q3 hq3 => ?_⟩
        rw [← List.map_append]
        have b8 := (b6.same s7).same s8
        have n3 : q3 ≠ p := (b8.ne hq3).symm
        refine ⟨_, _, _, _, _, q3, ns ++ bs ++ [bs.sum % D.sg], st, rfl, (k6.trans ((Kp.of s7).trans (Kp.of s8))).trans (Kp.of (Same.new (Same.refl _) hq3)), (b8.new hq3).mono (by omega), n3, upd_same, ?_, fun a ha => ?_, hst⟩
        · rw [List.length_append, List.length_append, lns, lbs]
          show (n + 1) * i + n + 1 = (n + 1) * (i + 1)
          rw [Nat.mul_add, Nat.mul_one]; omega
        · rcases List.mem_append.mp ha with h | h
          · rcases List.mem_append.mp h with h | h
            · exact ons a h
            · exact obs a h
          · rw [List.mem_singleton.mp h]; exact Nat.mod_lt _ (by omega)
    · rintro σ H4 ⟨x5, x6, x7, x8, x9, l, ns, st, rfl, k4, b4, nl, el, lns, ons, hst⟩
      refine ⟨_, rfl, kQ l ns H4 k4 (b4.mono (by omega)) nl el ?_ ons⟩
      rw [lns]
      exact Nat.mul_le_mul (show n + 1 ≤ 5 by omega) (show d ≤ 4 by omega)
end
end My

set_option Elab.async false
set_option linter.all false
set_option maxRecDepth 100000
set_option maxHeartbeats 8000000
namespace My
open PySem PySem.Spec PyProof.Rows L2
theorem eqv_iN (a b : Nat) : PyData.eqv (.int (a : Nat)) (.int (b : Nat)) = decide (a = b) := by
  rw [Bool.eq_iff_iff, eqv_pl _ _ (by unfold plD; rfl) (by unfold plD; rfl), decide_eq_true_eq]
  exact ⟨fun e => by injection e with e; have : (a : Int) = b := e; omega, fun e => by rw [e]⟩
theorem shaped_iN (a : Nat) : SeqAt.shaped (.int (a : Nat)) = true := shaped_of (by unfold PyData.canLay0; rfl) (by unfold PyData.depth; omega)
theorem takeS {l : List Nat} {m a : Nat} (h : l[m]? = some a) : l.take (m + 1) = l.take m ++ [a] := by rw [List.take_add_one, h]; rfl
theorem wrP_none {D : Dcd} {n : Nat} {l : List Nat} {m : Nat} (h : runP D n (0, 0, 0) (l.take m) = none) : wrP D n l = none := by
  unfold wrP
  rw [runP_pre h]
theorem sum_take {l : List Nat} {m a : Nat} (h : l[m]? = some a) : (l.take (m + 1)).sum = (l.take m).sum + a := by rw [takeS h, List.sum_append, List.sum_cons, List.sum_nil]; rfl
section
variable {P : Program} {w : World} {K : PySem.W.Frag} {mg : Str → Option Value} {base : Heap}
theorem ok_law_read (T : Txt K mg) : FnOk P w K mg base CX0 1 T.f_law_read T.fd_law_read ["plain", "many", "line"] (fun vs H Q _ => ∃ (p r l : Addr) (D : Dcd) (n : Nat) (ns : List Nat), vs = [.ref r, .int (n : Nat), .ref l] ∧ PlainAt K p H r D ∧ Sml D n ∧ H l = some (.lst (ns.map iN)) ∧ ns.length ≤ 21 ∧ (∀ a ∈ ns, a < D.sg) ∧
    ∀ H', Same H H' → Q (txV (wrP D n ns)) H') := by
  refine T.F_law_read.ok sc_law_read (fun vs H Q E h => ?_) (fun cdv A outer s H vs Q E hr h => ?_)
  · obtain ⟨p, r, l, D, n, ns, rfl, _⟩ := h; rfl
  · obtain ⟨p, r, l, D, n, ns, rfl, plain, sm, el, ln, ons, kQ⟩ := h
    refine ⟨_, (pss_cons (ps_if (pt_cmpR op_ne (pe_op op_mod (pe_callTy call_int1 (by rfl) T.z_int (by decide +kernel) (pa_cons (pe_callB call_len_seq (by rfl) T.z_len (by decide +kernel) (pa_cons (pv 2) pa_nil)) pa_nil)) (pe_op op_add (pv 1) pe_int)) pe_int (nomark _)) (pss_one (ps_ret pe_non)) pss_nil)
      (pss_cons (ps_asg (pe_tup (pa_cons pe_int (pa_cons pe_str pa_nil))) (pg_tup rfl (pgs_cons (pg_name (i := 3) sc_law_read.nd rfl (Or.inl rfl)) (pgs_cons (pg_name (i := 4) sc_law_read.nd rfl (Or.inl rfl)) pgs_nil))))
      (pss_cons (ps_for PassesOwn.never rfl (pi_range3 rfl T.z_range (pa_cons pe_int (pa_cons (pe_callB call_len_seq (by rfl) T.z_len (by decide +kernel) (pa_cons (pv 2) pa_nil)) (pa_cons (pe_op op_add (pv 1) pe_int) pa_nil)))) (pg_name (i := 5) sc_law_read.nd rfl (Or.inl rfl)) (pss_cons (ps_set (i := 6) sc_law_read.nd rfl (Or.inl rfl) (pe_slice sl_list (pv 2) (po_some (pv 5)) (po_some (pe_op op_add (pv 5) (pv 1)))))
      (pss_cons (ps_for PassesOwn.never rfl (pi_list (pv 6)) (pg_name (i := 7) sc_law_read.nd rfl (Or.inl rfl)) (pss_cons (ps_set (i := 8) sc_law_read.nd rfl (Or.inl rfl) (pe_ix ix_list (pe_ix ix_list (pe_ix ix_list (pv 0) pe_int (fun _ _ => rfl)) (pv 3) (fun _ _ => rfl)) (pv 7) (fun _ _ => rfl)))
      (pss_cons (ps_if (pt_cmp (pc_isN (pv 8))) (pss_one (ps_ret pe_non)) pss_nil)
      (pss_one (ps_par (i := 3) (j := 4) (by rfl) sc_law_read.nd rfl rfl (by decide) rfl rfl (pa_cons (pe_ix ix_tup (pv 8) pe_int (fun _ _ => rfl)) (pa_cons (pe_op op_add_str (pv 4) (pe_ix ix_tup (pv 8) pe_int (fun _ _ => rfl))) pa_nil)) (by rfl))))))
      (pss_one (ps_if (pt_cmpR (op_neD (un64 hr)) (pe_ix ix_list (pv 2) (pe_op op_add (pv 5) (pv 1)) (fun _ _ => rfl)) (pe_op op_mod (pe_callB (cr_sum rfl) (by rfl) T.z_sum (by decide +kernel) (pa_cons (pv 6) pa_nil)) (pe_ix ix_list (pv 0) pe_int (fun _ _ => rfl))) (nomark _)) (pss_one (ps_ret pe_non)) pss_nil)))))
      (pss_one (ps_ret (pe_ifExp (pt_cmp (pc_isN (pe_ix ix_list (pe_ix ix_list (pv 0) pe_int (fun _ _ => rfl)) (pv 3) (fun _ _ => rfl)))) pe_non (pe_op op_add_str (pv 4) (pe_ix ix_list (pe_ix ix_list (pv 0) pe_int (fun _ _ => rfl)) (pv 3) (fun _ _ => rfl))))))))), ?_⟩
    obtain ⟨⟨Sa, Ea, hS0, hdS0, hdE0, ok⟩, sg3, st5⟩ := plain
    have hS := hS0.ext (wo_same H p)
    have hdS : Dg K H false (.ref Sa) D.stL := hdS0.ext (wo_same H p)
    have hdE : Dg K H false (.ref Ea) D.enL := hdE0.ext (wo_same H p)
    clear hS0 hdS0 hdE0
    have n1 := sm.n1
    have n4 := sm.n4
    have sg1 := ok.s1
    have st1 := ok.n1
    have two : 2 ≤ sizeLine := by decide
    have lm : (ns.map iN).length = ns.length := List.length_map _
    have vi : decide (V.int ((((ns.map iN).length : Nat) : Int) % ((n : Int) + 1)) = V.int 0) = decide (ns.length % (n + 1) = 0) := by
      rw [lm, show (n : Int) + 1 = ((n + 1 : Nat) : Int) by omega, Bool.eq_iff_iff, decide_eq_true_eq, decide_eq_true_eq]
      exact ⟨fun e => by have := V.int.inj e; omega, fun e => by rw [← Int.natCast_emod, e]; rfl⟩
    have kN : ∀ H', Same H H' → wrP D n ns = none → Q .non H' := fun H' s e => by have := kQ H' s; rw [e] at this; exact this
    refine ⟨_, rfl, l, _, rfl, .inl (SqL.of el), .inl ⟨_, rfl, _, rfl, _, _, rfl, rfl, _, _, rfl, rfl, (by show (0 : Int) < (n : Int) + 1; omega), rfl, _, rfl, ite2 (fun cm => ?_) (fun cm => ?_)⟩⟩
    · refine kN H (Same.refl _) ?_
      have hm : ns.length % (n + 1) ≠ 0 := fun z => by
        have cm : (!decide (V.int ((((ns.map iN).length : Nat) : Int) % ((n : Int) + 1)) = V.int 0)) = true := cm
        rw [vi, decide_eq_true z] at cm
        cases cm
      unfold wrP
      cases e : runP D n (0, 0, 0) ns with
      | none => rfl
      | some q =>
        obtain ⟨q, u⟩ := q
        obtain ⟨_, h2⟩ := runP_far (D := D) (n := n) (l := ns) (0, 0, 0) q u (Nat.zero_le _) e
        have h3 : q.2.1 ≠ 0 := by
          rw [h2]
          show (0 + ns.length) % (n + 1) ≠ 0
          rw [Nat.zero_add]; exact hm
        show (if q.2.1 = 0 then _ else none) = none
        rw [if_neg h3]
    have hm : ns.length % (n + 1) = 0 := by
      by_cases z : ns.length % (n + 1) = 0
      · exact z
      · exfalso
        refine cm ?_
        show (!decide (V.int ((((ns.map iN).length : Nat) : Int) % ((n : Int) + 1)) = V.int 0)) = true
        rw [vi, decide_eq_false z]; rfl
    obtain ⟨k, hk⟩ : ∃ k, ns.length = (n + 1) * k := ⟨ns.length / (n + 1), by have := Nat.div_add_mod ns.length (n + 1); omega⟩
    have hk13 : k ≤ 13 := by
      have : 2 * k ≤ (n + 1) * k := Nat.mul_le_mul (by omega) (Nat.le_refl _)
      omega
    refine ⟨two, fun t ht => ⟨t, _, rfl, SqT.of upd_same, rfl, _, _, rfl, _, _, rfl, rfl, ?_⟩⟩
    have s1 : Same H (upd H t (.tup [.int 0, .str (Str.ofString "")])) := Same.new (Same.refl _) ht
    generalize upd H t (.tup [.int 0, .str (Str.ofString "")]) = H1 at s1 ⊢
    dsimp only [L2.gName]
    refine ⟨_, rfl, l, _, rfl, .inl (SqL.of (s1 _ _ el)), _, rfl, _, _, rfl, rfl, 0, _, _, k, rfl, ?_, ?_⟩
    · rw [lm, hk]
      exact rg_step n n4 k hk13
    refine for_rangeC (lo := 0) (n := k) (fun i σ H' => ∃ x5 x6 x7 x8 st u, σ = [some (.ref r), some (.int (n : Nat)), some (.ref l), some (.int (st : Nat)), some (.str (S u)), x5, x6, x7, x8] ∧ Same H H' ∧ runP D n (0, 0, 0) (ns.take ((n + 1) * i)) = some ((st, 0, 0), u) ∧ st < D.st.length ∧ u.length ≤ 3 * ((n + 1) * i)) ⟨_, _, _, _, 0, [], by rw [str_nil]; rfl, s1, by rw [Nat.mul_zero, List.take_zero]; rfl, by omega, Nat.zero_le _⟩ ?_ ?_
    · rintro i σ H2 hi ⟨x5, x6, x7, x8, st, u, rfl, s2, hrun, hst, lu⟩
      have hle : (n + 1) * i + (n + 1) ≤ ns.length := by
        rw [hk, ← Nat.mul_succ]
        exact Nat.mul_le_mul (Nat.le_refl _) hi
      have esp : (0 : Int) + (i : Int) * ((n : Int) + 1) = (((n + 1) * i : Nat) : Int) := by
        rw [Int.natCast_mul, Int.natCast_add, Int.zero_add, Int.mul_comm]; rfl
      rw [esp]
      generalize hm0 : (n + 1) * i = m0 at hrun lu hle ⊢
      dsimp only [L2.gName]
      refine ⟨_, rfl, _, rfl, _, rfl, _, rfl, _, rfl, _, _, rfl, rfl, ((m0 + n : Nat) : Int), rfl, l, _, rfl, SqL.of (s2 _ _ el), fun Bq hBq => ?_⟩
      rw [cutV_mid, ← List.map_drop, ← List.map_take]
      have ebs : ∀ j, j < n → ((ns.drop m0).take (m0 + n - m0))[j]? = ns[m0 + j]? := fun j hj => by
        rw [List.getElem?_take, if_pos (by omega), List.getElem?_drop]
      have lbs : ((ns.drop m0).take (m0 + n - m0)).length = n := by rw [List.length_take, List.length_drop]; omega
      generalize (ns.drop m0).take (m0 + n - m0) = bs at ebs lbs ⊢
      have s3 : Same H2 (upd H2 Bq (.lst (bs.map iN))) := Same.new (Same.refl _) hBq
      have eB : (upd H2 Bq (.lst (bs.map iN))) Bq = some (.lst (bs.map iN)) := upd_same
      have s30 := s2.trans s3
      generalize upd H2 Bq (.lst (bs.map iN)) = H3 at s3 eB s30 ⊢
      dsimp only [L2.gName]
      refine ⟨_, rfl, Bq, rfl, ⟨_, SqL.of eB⟩, ?_⟩
      refine for_list (K := K) (a := Bq) (xs := bs.map iN) (fun j σ H' => ∃ x7 x8 st u, σ = [some (.ref r), some (.int (n : Nat)), some (.ref l), some (.int (st : Nat)), some (.str (S u)), some (.int (m0 : Nat)), some (.ref Bq), x7, x8] ∧ Same H3 H' ∧ runP D n (0, 0, 0) (ns.take (m0 + j)) = some ((st, j, (bs.take j).sum % D.sg), u) ∧ st < D.st.length ∧ u.length ≤ 3 * (m0 + j)) ?_ ?_ ?_ ?_
      · exact ⟨_, _, st, u, rfl, Same.refl _, by rw [List.take_zero, List.sum_nil, Nat.zero_mod]; exact hrun, hst, lu⟩
      · rintro j σ H4 _ ⟨x7, x8, st, u, rfl, s4, _⟩
        exact SqL.of (s4 _ _ eB)
      · rintro j v σ H4 hv ⟨x7, x8, st, u, rfl, s4, hrun, hst, lu⟩
        have hj := (List.getElem?_eq_some_iff.mp hv).1
        rw [List.length_map, lbs] at hj
        have hmj : m0 + j < ns.length := by omega
        obtain ⟨a, ha⟩ : ∃ a, ns[m0 + j]? = some a := ⟨_, List.getElem?_eq_getElem hmj⟩
        have hb : bs[j]? = some a := by rw [ebs j hj]; exact ha
        rw [List.getElem?_map, hb] at hv
        obtain rfl : iN a = v := Option.some.inj hv
        have hasg := ons a (List.mem_of_getElem? ha)
        have s04 := s30.trans s4
        obtain ⟨xs1, rr, zs1, hx1, ex1, hz1, lz1, hrow1⟩ := dgL_row ok (hdS.ext s04) hst
        obtain ⟨e', ez, de'⟩ := hrow1 a hasg
        have hnx : nx D n (st, j, (bs.take j).sum % D.sg) a = (D.at st a).map fun e => ((e.1, j + 1, ((bs.take j).sum % D.sg + a) % D.sg), e.2) := by
          unfold nx
          rw [if_neg (show ¬ j = n by omega)]
        have hsn := runP_snoc (a := a) hrun
        rw [← takeS ha, hnx] at hsn
        refine ⟨_, rfl, r, _, _, _, rfl, rfl, hS.ext s04, atI_nat (j := 1) rfl, _, rfl, Sa, _, _, .ref rr, rfl, rfl, hx1, atI_nat ex1, _, rfl, rr, _, _, e', rfl, rfl, hz1, atI_nat ez, ?_⟩
        dsimp only [L2.gName]
        cases q : D.at st a with
        | none =>
          rw [q] at de' hsn
          obtain rfl : e' = .non := by cases de'; rfl
          exact ⟨_, rfl, _, rfl, iteT (kN H4 s04 (wrP_none (m := m0 + j + 1) hsn))⟩
        | some pq =>
          obtain ⟨g, w'⟩ := pq
          rw [q] at de' hsn
          obtain ⟨te, us, rfl, _, _⟩ := de'.tup_of
          have hte := pair_of (i0 := (g : Int)) (z := S w') de'
          obtain ⟨hg1, hg2⟩ := (ok.at (s := st) (a := a)) g w' q
          refine ⟨_, rfl, _, rfl, iteF ⟨_, rfl, te, _, _, _, rfl, rfl, hte, atI_nat (j := 0) rfl, _, rfl, _, rfl, te, _, _, _, rfl, rfl, hte, atI_nat (j := 1) rfl, _, _, rfl, rfl, ?_, _, _, rfl, some (iN a), some (.ref te), g, u ++ w', ?_, s4, ?_, hg1, ?_⟩⟩
          · rw [S_len, S_len]
            have := hg2.2
            exact Nat.le_trans (show u.length + w'.length ≤ 100000 by omega) (by decide)
          · rw [S_app]; rfl
          · rw [show m0 + (j + 1) = m0 + j + 1 from rfl, hsn, sum_take hb, Nat.mod_add_mod]; rfl
          · rw [List.length_append]
            have := hg2.2
            omega
      · rintro σ H4 ⟨x7, x8, st, u, rfl, s4, hrun, hst, lu⟩
        rw [List.length_map, lbs] at hrun lu
        rw [show bs.take n = bs from List.take_of_length_le (by omega)] at hrun
        obtain ⟨a, ha⟩ : ∃ a, ns[m0 + n]? = some a := ⟨_, List.getElem?_eq_getElem (by omega)⟩
        have s04 := s30.trans s4
        have hnx : nx D n (st, n, bs.sum % D.sg) a = if a = bs.sum % D.sg then some ((st, 0, 0), []) else none := by
          unfold nx
          rw [if_pos rfl]
        have hsn := runP_snoc (a := a) hrun
        rw [← takeS ha, hnx] at hsn
        have haV : (ns.map iN)[m0 + n]? = some (.int (a : Nat)) := by rw [List.getElem?_map, ha]; rfl
        refine ⟨_, rfl, _, rfl, _, rfl, _, _, rfl, rfl, l, _, ((m0 + n : Nat) : Int), _, rfl, rfl, SqL.of (s04 _ _ el), atI_nat haV, _, rfl, Bq, bs.map fun (a : Nat) => (a : Int), rfl, SqL.of (by rw [← iN_map]; exact s4 _ _ eB), _, rfl, r, _, _, _, rfl, rfl, hS.ext s04, atI_nat (j := 0) rfl, _, _, rfl, rfl, (by show (0 : Int) < (D.sg : Int); omega), .int (a : Nat), .int ((bs.sum % D.sg : Nat) : Int), .int _, ?_, shaped_iN _, shaped_iN _, ?_⟩
        · rw [iN_sum, Int.natCast_emod]; exact .int _
        · rw [eqv_iN]
          refine ⟨_, rfl, ite2 (fun ce => ?_) (fun ce => ?_)⟩
          · have : ¬ a = bs.sum % D.sg := fun z => by rw [decide_eq_true z] at ce; cases ce
            rw [if_neg this] at hsn
            exact kN H4 s04 (wrP_none (m := m0 + n + 1) hsn)
          · have : a = bs.sum % D.sg := by
              by_cases z : a = bs.sum % D.sg
              · exact z
              · exact absurd (show (!decide (a = bs.sum % D.sg)) = true by rw [decide_eq_false z]; rfl) ce
            rw [if_pos this] at hsn
            refine ⟨_, _, _, _, st, u, rfl, s04, ?_, hst, ?_⟩
            · rw [Nat.mul_succ, hm0, show m0 + (n + 1) = m0 + n + 1 from rfl, hsn]
              show some ((st, 0, 0), u ++ []) = _
              rw [List.append_nil]
            · rw [Nat.mul_succ, hm0]; omega
    · rintro σ H2 ⟨x5, x6, x7, x8, st, u, rfl, s2, hrun, hst, lu⟩
      rw [← hk] at hrun lu
      rw [List.take_of_length_le (Nat.le_refl _)] at hrun
      obtain ⟨Ea', us, eEa, hus, _, hua⟩ := (hdE.ext s2).lst_of
      injection eEa with eEa
      subst eEa
      have lE := ok.ends
      obtain ⟨v, d, ev, ed, dv⟩ := hua.nth (i := st) (by rw [List.length_map]; omega)
      rw [List.getElem?_map, List.getElem?_eq_getElem (show st < D.en.length by omega)] at ed
      have ed := Option.some.inj ed
      have eg : D.en.getD st none = D.en[st] := by rw [List.getD_eq_getElem?_getD, List.getElem?_eq_getElem (show st < D.en.length by omega)]; rfl
      have ew : wrP D n ns = (D.en[st]).map fun w => u ++ w := by
        unfold wrP
        rw [hrun]
        show (if (0 : Nat) = 0 then (D.en.getD st none).map fun w => u ++ w else none) = _
        rw [if_pos rfl, eg]
      have hend := fun w => ok.end_ (s := st) (w := w)
      rw [eg] at hend
      have kQ' := kQ H2 s2
      rw [ew] at kQ'
      rw [← ed] at dv
      refine ⟨_, rfl, r, _, _, _, rfl, rfl, hS.ext s2, atI_nat (j := 2) rfl, _, rfl, Ea, _, _, _, rfl, rfl, hus, atI_nat ev, ?_⟩
      cases q : D.en[st] with
      | none =>
        rw [q] at dv kQ'
        obtain rfl : v = .non := by cases dv; rfl
        exact ⟨_, rfl, iteT kQ'⟩
      | some w' =>
        rw [q] at dv kQ'
        obtain rfl := dv.str_of
        have hw := hend w' (by rw [q])
        refine ⟨_, rfl, iteF ⟨_, rfl, _, rfl, r, _, _, _, rfl, rfl, hS.ext s2, atI_nat (j := 2) rfl, _, rfl, Ea, _, _, _, rfl, rfl, hus, atI_nat ev, _, _, rfl, rfl, ?_, ?_⟩⟩
        · rw [S_len, S_len]
          have := hw.2
          exact Nat.le_trans (show u.length + w'.length ≤ 100000 by omega) (by decide)
        · show Q (.str (S u ++ S w')) H2; rw [S_app]; exact kQ'
end
end My

set_option Elab.async false
set_option linter.all false
set_option maxRecDepth 100000
set_option maxHeartbeats 8000000
namespace My
open PySem PySem.Spec PyProof.Rows L2
section
variable {P : Program} {w : World} {K : PySem.W.Frag} {mg : Str → Option Value} {base : Heap}
theorem kb_with_check_size_decoder (T : Txt K mg) : KBinds K T.fd_with_check ["decoder", "size"] ["size", "decoder"] (fun us ws => match us, ws with | [], [x1, x0] => [x0, x1] | _, _ => []) (fun us ws => match us, ws with | [], [x1, x0] => [x0, x1] | _, _ => []) := by
  obtain ⟨oc, od, kV, doc, pm, an, cdv, ct, osl, e, _, _⟩ := T.F_with_check.ex
  refine ⟨fun s us ws _ hl => ?_, fun r rz => ?_⟩
  · match us, ws, hl with
    | [], [x1, x0], _ =>
      rw [e]
      exact .of_eq rfl
  · match r, rz with
    | .nil, .cons r1 (.cons r0 (.nil)) => exact .cons r0 (.cons r1 (.nil))
    | .nil, .nil => exact .nil
    | .nil, .cons _ (.nil) => exact .nil
    | .nil, .cons _ (.cons _ (.cons _ _)) => exact .nil
    | .cons _ _, _ => exact .nil

def spTold (T : Txt K mg) : Sp := fun vs H Q _ => ∃ (x y : V) (b : Bool), vs = [x, y, .bl b] ∧
  ((∃ d m, Dg K H m x d ∧ ∀ r H', Same H H' → H r = none → H' r = some (.lst [.str (Str.ofString "decoder"), x]) → Q (.ref r) H') ∨
   (∃ o D, x = .ref o ∧ DecAt K T.C_Decoder H o D ∧ ((∃ e m, Dg K H m y e ∧ isSz e = false ∧ ∀ r H', Same H H' → H r = none → H' r = some (.lst [.str (Str.ofString "period"), y]) → Q (.ref r) H') ∨
     (∃ n : Nat, y = .int (n : Nat) ∧ Sml D n ∧ (40 < (FinP D n).length → ∀ r H', Same H H' → H r = none → H' r = some (.lst [.str (Str.ofString "many"), .int ((FinP D n).length : Nat)]) → Q (.ref r) H') ∧
       ((FinP D n).length ≤ 40 → ∀ r o2 H', Same H H' → H r = none → H' r = some (.lst [.str (Str.ofString "made"), .ref o2]) → DecAt K T.C_Decoder H' o2 (ChkD D n) → Q (.ref r) H')))))
theorem ok_law_told (T : Txt K mg) : FnOk P w K mg base CX0 10 T.f_law_told T.fd_law_told ["thing", "many", "named"] (spTold T) := by
  refine T.F_law_told.ok sc_law_told (fun vs H Q E h => ?_) (fun cdv A outer s0 H vs Q E hr h => ?_)
  · obtain ⟨x, y, b, rfl, _⟩ := h; rfl
  · obtain ⟨x, y, b, rfl, h⟩ := h
    refine ⟨_, (pss_one (ps_tryAll (i := 3) rfl rfl sc_law_told.nd rfl rfl takes0 (fun W pn xe tk _ => (pss_one (ps_ret (pe_lst (pa_cons pe_str (pa_cons (pe_ifExp (pt_val (pv 2)) (pe_callKS (ok_with_check T) (hr.mono (by decide)) rfl T.g_with_check T.F_with_check.kp (kb_with_check_size_decoder T) (fun σ => passAt tk σ) (pk_cons (pv 1) (pk_cons (pv 0) pk_nil))) (pe_callS (ok_with_check T) (hr.mono (by decide)) rfl T.g_with_check T.F_with_check.kp T.b_with_check (fun σ => passAt tk σ) (pa_cons (pv 0) (pa_cons (pv 1) pa_nil)))) pa_nil)))))) (.more ⟨rfl, by decide, Or.inl T.e_InvalidDecoder.gC⟩ (fun a oe cls d pn hz hf => (pss_one (ps_ret (pe_lst (pa_cons pe_str (pa_cons (pe_gvn T.e_InvalidDecoder hz hf (pv 3)) pa_nil)))))) (.more ⟨rfl, by decide, Or.inl T.e_InvalidPeriod.gC⟩ (fun a oe cls d pn hz hf => (pss_one (ps_ret (pe_lst (pa_cons pe_str (pa_cons (pe_gvn T.e_InvalidPeriod hz hf (pv 3)) pa_nil)))))) (.more ⟨rfl, by decide, Or.inl T.e_TooMany.gC⟩ (fun a oe cls d pn hz hf => (pss_one (ps_ret (pe_lst (pa_cons pe_str (pa_cons (pe_cnt T.e_TooMany hz hf (pv 3)) pa_nil)))))) .last))))), ?_⟩
    have two : 2 ≤ sizeLine := by decide
    refine ⟨_, rfl, _, rfl, ite2 (fun _ => ⟨_, rfl, _, rfl, ?_⟩) (fun _ => ⟨_, rfl, _, rfl, ?_⟩)⟩
    all_goals
      refine ⟨x, y, rfl, ?_⟩
      rcases h with ⟨d, m, hd, k⟩ | ⟨o, D, rfl, dec, h⟩
      · refine .inl ⟨d, m, hd, fun dd H1 s1 hdn ed => ?_⟩
        refine ⟨true, T.x_InvalidDecoder, fun _ a ha => ⟨_, rfl, rfl, rfl, dd, _, rfl, ed, two, fun r hr => ?_⟩, fun z => by cases z⟩
        exact k r _ (s1.trans (Same.new (Same.refl _) hr)) (s1.free hr) upd_same
      refine .inr ⟨o, D, rfl, dec, ?_⟩
      rcases h with ⟨e, m, hy, hsz, k⟩ | ⟨n, rfl, sm, kM, kG⟩
      · refine .inl ⟨e, m, hy, hsz, fun dd H1 s1 hdn ed => ?_⟩
        refine ⟨false, T.no_InvalidPeriod_InvalidDecoder, (fun z => by cases z), fun _ => ⟨true, T.x_InvalidPeriod, fun _ a ha => ⟨_, rfl, rfl, rfl, dd, _, rfl, ed, two, fun r hr => ?_⟩, fun z => by cases z⟩⟩
        exact k r _ (s1.trans (Same.new (Same.refl _) hr)) (s1.free hr) upd_same
      refine .inr ⟨n, rfl, sm, fun l40 dd H1 s1 hdn ed => ?_, fun l40 r1 H1 s1 dec1 => ⟨two, fun r hr => ?_⟩⟩
      · refine ⟨false, T.no_TooMany_InvalidDecoder, (fun z => by cases z), fun _ => ⟨false, T.no_TooMany_InvalidPeriod, (fun z => by cases z), fun _ => ⟨true, T.x_TooMany, fun _ a ha => ⟨_, rfl, rfl, rfl, dd, _, rfl, ed, two, fun r hr => ?_⟩, fun z => by cases z⟩⟩⟩
        exact kM l40 r _ (s1.trans (Same.new (Same.refl _) hr)) (s1.free hr) upd_same
      · have s2 : Same H1 (upd H1 r (.lst [.str (Str.ofString "made"), .ref r1])) := Same.new (Same.refl _) hr
        exact kG l40 r r1 _ (s1.trans s2) (s1.free hr) upd_same (dec1.ext s2)
end
end My

set_option Elab.async false
set_option linter.all false
set_option maxRecDepth 100000
set_option maxHeartbeats 8000000
namespace My
open PySem PySem.Spec PyProof.Rows L2
def txD : Option (List Nat) → PyData | none => .none | some u => .str (S u)
theorem dg_tx {K : PySem.W.Frag} {H : Hp} : ∀ u, Dg K H false (txV u) (txD u)
  | none => .non
  | some u => .str _
theorem fit_tx {D : Dcd} (ok : D.ok) {l : List Nat} (hl : l.length ≤ 100) : Sh (txD (D.wr l)) := by
  cases h : D.wr l with
  | none => exact (Fit.none (k := 0)).sh (by omega) (by omega)
  | some u =>
    obtain ⟨h1, h2⟩ := ok.wr h
    exact sh_str (by omega) fun c hc => h1.lt c hc
section
variable {P : Program} {w : World} {K : PySem.W.Frag} {mg : Str → Option Value} {base : Heap}
theorem wri_at (T : Txt K mg) {H : Hp} {mo T1 : Addr} {D : Dcd} {n : Nat} {ms : List Nat} {Q : VK} {E : XK} (sm : Sml D n) (dec : DecAt K T.C_Decoder H mo (ChkD D n)) (hT : H T1 = none) (ons : ∀ a ∈ ms, a < D.sg) (ln : ms.length ≤ 21)
    (q : ∀ H', Same H H' → Q (txV (wrP D n ms)) H') : spWri T [.ref mo, .ref T1] (upd H T1 (.tup (ms.map iN))) Q E := by
  have s : Same H (upd H T1 (.tup (ms.map iN))) := Same.new (Same.refl _) hT
  have sg5 := sm.ok.s5
  have wln : (lnD ms).weight ≤ 100000 := by
    unfold lnD
    rw [PyData.weight]
    refine Nat.le_trans (weight_all (k := 21) _ fun b hb => (Fit.nat (k := 0) (r := b) (by have := ons b hb; omega)).w) (by omega)
  refine ⟨mo, .ref T1, ChkD D n, lnD ms, false, rfl, dec.ext s, .tup (SqT.of upd_same) ?_, wln, .inr ⟨ms, rfl, ons, fun H' s' => ?_⟩⟩
  · have go : ∀ (H' : Hp) (l : List Nat), DgAll K H' false (l.map iN) (l.map fun (b : Nat) => PyData.int b) := by
      intro H' l
      induction l with
      | nil => exact .nil
      | cons x r ih => exact .cons (.int _) ih
    exact go _ ms
  · rw [sm.wr_out ons]
    exact q H' (s.trans s')
theorem ok_law_lines_right (T : Txt K mg) : FnG P w K mg base CX0 6 T.f_law_lines_right T.fd_law_lines_right ["box", "made", "plain", "many"] (fun vs H Q _ => ∃ (p mo r : Addr) (c : Nat) (D : Dcd) (n : Nat), vs = [.ref p, .ref mo, .ref r, .int (n : Nat)] ∧ BoxAt H p c ∧ c < 100000 ∧ DecAt K T.C_Decoder H mo (ChkD D n) ∧ PlainAt K p H r D ∧ Sml D n ∧ (FinP D n).length ≤ 40 ∧
    ∀ H', Kp p H H' → BoxAt H' p (c + 120) → Q (.bl true) H') := by
  refine T.F_law_lines_right.okG sc_law_lines_right (fun vs H Q E h => ?_) (fun cdv A outer s0 H vs Q E hgd hr h => ?_)
  · obtain ⟨p, mo, r, c, D, n, rfl, _⟩ := h; rfl
  · obtain ⟨p, mo, r, c, D, n, rfl, hb, hc, dec, plain, sm, l40, kQ⟩ := h
    have hun := un64 hr
    refine ⟨_, (pss_cons (ps_for PassesOwn.never rfl (pi_range1 rfl T.z_range (pa_cons pe_int pa_nil)) (pg_name (i := 4) sc_law_lines_right.nd rfl (Or.inl rfl)) (pss_cons (ps_set (i := 5) sc_law_lines_right.nd rfl (Or.inl rfl) (pe_call (ok_law_line T) (hr.mono (by decide)) rfl T.g_law_line T.F_law_line.kp T.b_law_line .nil pass0 (pa_cons (pv 0) (pa_cons (pv 2) (pa_cons (pv 3) pa_nil)))))
      (pss_cons (ps_if (pt_cmpR op_eq (pe_call (ok_law_take T) (hr.mono (by decide)) rfl T.g_law_take T.F_law_take.kp T.b_law_take .nil pass0 (pa_cons (pv 0) (pa_cons pe_int pa_nil))) pe_int (nomark _)) (pss_one (ps_set (i := 5) sc_law_lines_right.nd rfl (Or.inl rfl) (pe_call (ok_law_slipped T) (hr.mono (by decide)) rfl T.g_law_slipped T.F_law_slipped.kp T.b_law_slipped .nil pass0 (pa_cons (pv 0) (pa_cons (pv 5) (pa_cons (pe_ix ix_list (pv 2) pe_int (fun _ _ => rfl)) pa_nil)))))) pss_nil)
      (pss_cons (ps_set (i := 6) sc_law_lines_right.nd rfl (Or.inl rfl) (pe_call (ok_law_read T) (hr.mono (by decide)) rfl T.g_law_read T.F_law_read.kp T.b_law_read .nil pass0 (pa_cons (pv 2) (pa_cons (pv 3) (pa_cons (pv 5) pa_nil)))))
      (pss_cons (ps_if (pt_cmpR op_ne (pe_callB (call_reprG hgd hun) (by rfl) T.z_repr (by decide +kernel) (pa_cons (pe_meth (pv 1) T.cl_Decoder T.m_Decoder_written (ok_Decoder_written T) (hr.mono (by decide)) T.b_Decoder_written .nil passL (pa_cons (pe_callTy call_tuple_of (by rfl) T.z_tuple (by decide +kernel) (pa_cons (pv 5) pa_nil)) pa_nil)) pa_nil)) (pe_callB (call_reprG hgd hun) (by rfl) T.z_repr (by decide +kernel) (pa_cons (pv 6) pa_nil)) (nomark _)) (pss_one (ps_ret pe_bl)) pss_nil)
      (pss_one (ps_if (PW.pt (pw_and (pt_cmp (pc_notN (pv 6))) (pw_and (pt_cmpR (op_ne_nil (un0 hr)) (pv 5) (pe_lst pa_nil) (nomark _)) (pw_and1 (pt_cmpR op_gt (pe_ix ix_list (pv 2) pe_int (fun _ _ => rfl)) pe_int (nomark _)))))) (pss_cons (ps_set (i := 7) sc_law_lines_right.nd rfl (Or.inl rfl) (pe_call (ok_law_take T) (hr.mono (by decide)) rfl T.g_law_take T.F_law_take.kp T.b_law_take .nil pass0 (pa_cons (pv 0) (pa_cons (pe_callB call_len_seq (by rfl) T.z_len (by decide +kernel) (pa_cons (pv 5) pa_nil)) pa_nil))))
      (pss_cons (ps_set (i := 8) sc_law_lines_right.nd rfl (Or.inl rfl) (pe_op op_mod (pe_callTy call_int1 (by rfl) T.z_int (by decide +kernel) (pa_cons (pe_op op_add (pe_op op_add (pe_ix ix_list (pv 5) (pv 7) (fun _ _ => rfl)) pe_int) (pe_call (ok_law_take T) (hr.mono (by decide)) rfl T.g_law_take T.F_law_take.kp T.b_law_take .nil pass0 (pa_cons (pv 0) (pa_cons (pe_op op_sub (pe_ix ix_list (pv 2) pe_int (fun _ _ => rfl)) pe_int) pa_nil)))) pa_nil)) (pe_ix ix_list (pv 2) pe_int (fun _ _ => rfl))))
      (pss_one (ps_if (pt_cmp (pc_notN (pe_meth (pv 1) T.cl_Decoder T.m_Decoder_written (ok_Decoder_written T) (hr.mono (by decide)) T.b_Decoder_written .nil passL (pa_cons (pe_callTy call_tuple_of (by rfl) T.z_tuple (by decide +kernel) (pa_cons (pe_op op_cat (pe_op op_cat (pe_slice sl_list (pv 5) po_none (po_some (pv 7))) (pe_lst (pa_cons (pv 8) pa_nil))) (pe_slice sl_list (pv 5) (po_some (pe_op op_add (pv 7) pe_int)) po_none)) pa_nil)) pa_nil)))) (pss_one (ps_ret pe_bl)) pss_nil)))) pss_nil)))))))
      (pss_one (ps_ret pe_bl))), ?_⟩
    have okC := sm.okC l40
    have sg1 := sm.ok.s1
    have sg3 := sm.sg
    have one : 1 ≤ sizeLine := by decide
    have zero : 0 ≤ sizeLine := by decide
    refine ⟨4, rfl, by decide, by decide, ?_⟩
    refine for_range (lo := 0) (n := 4) (fun i σ H' => ∃ x4 x5 x6 x7 x8, σ = [some (.ref p), some (.ref mo), some (.ref r), some (.int (n : Nat)), x4, x5, x6, x7, x8] ∧ Kp p H H' ∧ BoxAt H' p (c + 30 * i)) ⟨_, _, _, _, _, rfl, Kp.refl p _, hb⟩ ?_ ?_
    · rintro i σ H1 hi ⟨x4, x5, x6, x7, x8, rfl, k1, b1⟩
      refine ⟨_, rfl, _, rfl, _, rfl, p, r, _, D, n, rfl, b1, by omega, plain.kp k1, sm, fun l ns H2 k2 b2 nl el ln ons => ?_⟩
      dsimp only [L2.gName]
      refine seq_opaque fun N hN => ?_
      have fin : ∀ (l : Addr) (ns : List Nat) (H3 : Hp), Kp p H1 H3 → BoxAt H3 p (c + 30 * i + 24) → l ≠ p → H3 l = some (.lst (ns.map iN)) → ns.length ≤ 21 → (∀ a ∈ ns, a < D.sg) → N [some (.ref p), some (.ref mo), some (.ref r), some (.int (n : Nat)), some (.int (0 + (i : Int))), some (.ref l), x6, x7, x8] H3 := by
        intro l ns H3 k3 b3 nl el ln ons
        refine hN _ _ ?_
        have k13 := k1.trans k3
        refine ⟨_, rfl, _, rfl, _, rfl, p, r, l, D, n, ns, rfl, plain.kp k13, sm, el, ln, ons, fun H4 s4 => ?_⟩
        dsimp only [L2.gName]
        have k14 := k3.trans (Kp.of s4)
        have k04 := k1.trans k14
        have b4 := b3.same s4
        have el4 := s4 _ _ el
        have dec4 := dec.bx hb k04
        have sh : Sh (txD (wrP D n ns)) := by
          have := fit_tx (l := ns) okC (by omega)
          rwa [sm.wr_out ons] at this
        have dt : ∀ H', Dg K H' false (txV (wrP D n ns)) (txD (wrP D n ns)) := fun H' => dg_tx _
        obtain ⟨⟨dy, Sb, Eb, eo4, _, _⟩, _⟩ := id dec4
        have fno : ∀ {m' n' : Int} {Sa' Ea' : Addr}, (dfs m' n' Sa' Ea').lookup (Str.ofString "written") = none := fun {_ _ _ _} => dfs_no (by decide +kernel) (by decide +kernel) (by decide +kernel) (by decide +kernel)
        refine ⟨_, rfl, mo, dy, _, rfl, eo4, fno, _, rfl, l, _, rfl, .inl ⟨SqL.of el4, fun T1 hT1 => ?_⟩⟩
        dsimp only [L2.tNil, List.cons_append, List.nil_append]
        refine wri_at T sm dec4 hT1 ons ln fun H5 s5 => ?_
        refine ⟨_, txD (wrP D n ns), false, rfl, dt _, sh.1, sh.2.1, sh.2.2, _, rfl, _, txD (wrP D n ns), false, rfl, dt _, sh.1, sh.2.1, sh.2.2, rfl, _, rfl, neSame ?_⟩
        clear sh dt
        have k15 := k14.trans (Kp.of s5)
        have k05 := k1.trans k15
        have b5 := b4.same s5
        have el5 := s5 _ _ el4
        have done : ∀ (x7 x8 : Option V) (H' : Hp), Kp p H5 H' → BoxAt H' p (c + 30 * i + 26) → ∃ x4 x5 x6 x7' x8', [some (V.ref p), some (.ref mo), some (.ref r), some (.int (n : Nat)), some (.int (0 + (i : Int))), some (.ref l), some (txV (wrP D n ns)), x7, x8] = [some (.ref p), some (.ref mo), some (.ref r), some (.int (n : Nat)), x4, x5, x6, x7', x8'] ∧ Kp p H H' ∧ BoxAt H' p (c + 30 * (i + 1)) := fun x7 x8 H' k' b' => ⟨_, _, _, _, _, rfl, k05.trans k', b'.mono (by omega)⟩
        cases eW : wrP D n ns with
        | none =>
          have done' := done x7 x8 H5 (Kp.refl p _) (b5.mono (by omega))
          rw [eW] at done'
          exact ⟨_, rfl, _, rfl, iteF (iteF done')⟩
        | some u =>
        rw [eW] at done
        refine ⟨_, rfl, _, rfl, iteT ⟨_, rfl, zero, fun q1 hq1 => ⟨l, q1, _, rfl, rfl, ne_l hq1 el5, upd_same, _, rfl, ?_⟩⟩⟩
        have s6 : Same H5 (upd H5 q1 (.lst [])) := Same.new (Same.refl _) hq1
        have b6 := b5.same s6
        have el6 := s6 _ _ el5
        have k06 := k05.trans (Kp.of s6)
        have k56 : Kp p H5 (upd H5 q1 (.lst [])) := Kp.of s6
        generalize upd H5 q1 (.lst []) = H6 at s6 b6 el6 k06 k56 ⊢
        refine ite2 (fun cz => ?_) (fun _ => iteF (done x7 x8 H6 k56 (b6.mono (by omega))))
        have hz0 : ns ≠ [] := fun z => by rw [z] at cz; exact absurd cz (by simp)
        have lz0 : 0 < ns.length := List.length_pos_iff.mpr hz0
        have plain6 := plain.kp k06
        obtain ⟨⟨Sa, Ea, hS0, _, _, _⟩, _, _⟩ := id plain6
        have hS := hS0.ext (wo_same H6 p)
        refine ⟨_, rfl, r, _, _, _, rfl, rfl, hS, atI_nat (j := 0) rfl, _, _, rfl, rfl, _, rfl, ite2 (fun cg => ?_) (fun _ => done x7 x8 H6 k56 (b6.mono (by omega)))⟩
        have hsg2 : 1 < D.sg := by have := of_decide_eq_true cg; omega
        refine ⟨_, rfl, _, rfl, l, _, rfl, .inl (SqL.of el6), p, _, _, rfl, b6, by omega, by rw [List.length_map]; omega, by rw [List.length_map]; omega, fun spot o1 hd1 ho1 => ?_⟩
        rw [List.length_map] at hd1
        have hspot : spot < ns.length := by omega
        dsimp only [L2.gName]
        obtain ⟨a, ha⟩ : ∃ a, ns[spot]? = some a := ⟨_, List.getElem?_eq_getElem hspot⟩
        have hasg := ons a (List.mem_of_getElem? ha)
        have haV : (ns.map iN)[spot]? = some (.int (a : Nat)) := by rw [List.getElem?_map, ha]; rfl
        have k67 : Kp p H6 (upd H6 p o1) := (Kp.refl p H6).upd
        have b7 : BoxAt (upd H6 p o1) p (c + 30 * i + 25) := ho1.at
        have el7 := k67 _ _ nl el6
        have hS7 := (hS0.ext k67.wo).ext (wo_same (upd H6 p o1) p)
        generalize upd H6 p o1 = H7 at k67 b7 el7 hS7 ⊢
        refine ⟨_, rfl, _, rfl, l, _, (spot : Int), _, rfl, rfl, SqL.of el7, atI_nat haV, _, _, rfl, rfl, _, rfl, _, rfl, r, _, _, _, rfl, rfl, hS7, atI_nat (j := 0) rfl, _, _, rfl, rfl, p, _, _, rfl, b7, by omega, by omega, by omega, fun d2 o2 hd2 ho2 => ?_⟩
        have k78 : Kp p H7 (upd H7 p o2) := (Kp.refl p H7).upd
        have b8 : BoxAt (upd H7 p o2) p (c + 30 * i + 26) := ho2.at
        have el8 := k78 _ _ nl el7
        have k08 := (k06.trans k67).trans k78
        have k58 := (k56.trans k67).trans k78
        have hS8 : SqL K (upd H7 p o2) r [.int (D.sg : Nat), .ref Sa, .ref Ea] := (hS0.ext (k67.trans k78).wo).ext (wo_same (upd H7 p o2) p)
        refine ⟨_, _, rfl, rfl, .inl ⟨_, rfl, _, rfl, r, _, _, _, rfl, rfl, hS8, atI_nat (j := 0) rfl, _, _, rfl, rfl, (by show (0 : Int) < (D.sg : Int); omega), ?_⟩⟩
        generalize upd H7 p o2 = H8 at k78 b8 el8 k08 k58 hS8 ⊢
        dsimp only [L2.gName]
        obtain ⟨b, hbv, hbs, hab⟩ : ∃ b : Nat, ((a : Int) + 1 + (d2 : Int)) % (D.sg : Int) = (b : Nat) ∧ b < D.sg ∧ a ≠ b := by
          refine ⟨(a + 1 + d2) % D.sg, by rw [Int.natCast_emod]; rfl, Nat.mod_lt _ (by omega), fun z => ?_⟩
          by_cases h3 : a + 1 + d2 < D.sg
          · rw [Nat.mod_eq_of_lt h3] at z; omega
          · rw [Nat.mod_eq_sub_mod (by omega), Nat.mod_eq_of_lt (by omega)] at z; omega
        rw [hbv]
        have dec8 := dec.bx hb k08
        obtain ⟨⟨dz, Sc, Ec, eo8, _, _⟩, _⟩ := id dec8
        refine ⟨_, rfl, mo, dz, _, rfl, eo8, fno, _, rfl, _, rfl, _, rfl, l, _, rfl, SqL.of el8, fun q1 hq1 => ?_⟩
        rw [cutV_to, ← List.map_take]
        have s9 : Same H8 (upd H8 q1 (.lst ((ns.take spot).map iN))) := Same.new (Same.refl _) hq1
        have e9 : (upd H8 q1 (.lst ((ns.take spot).map iN))) q1 = some (.lst ((ns.take spot).map iN)) := upd_same
        generalize upd H8 q1 (.lst ((ns.take spot).map iN)) = H9 at s9 e9 ⊢
        refine ⟨_, rfl, one, fun q2 hq2 => ?_⟩
        have s10 : Same H9 (upd H9 q2 (.lst [.int (b : Nat)])) := Same.new (Same.refl _) hq2
        have e10 : (upd H9 q2 (.lst [.int (b : Nat)])) q2 = some (.lst ([b].map iN)) := upd_same
        generalize upd H9 q2 (.lst [.int (b : Nat)]) = H10 at s10 e10 ⊢
        refine ⟨q1, q2, _, _, rfl, rfl, s10 _ _ e9, e10, by rw [List.length_map, List.length_map, List.length_take]; exact Nat.le_trans (show min spot ns.length + 1 ≤ 22 by omega) (by decide), fun q3 hq3 => ?_⟩
        rw [← List.map_append]
        have s11 : Same H10 (upd H10 q3 (.lst ((ns.take spot ++ [b]).map iN))) := Same.new (Same.refl _) hq3
        have e11 : (upd H10 q3 (.lst ((ns.take spot ++ [b]).map iN))) q3 = some (.lst ((ns.take spot ++ [b]).map iN)) := upd_same
        generalize upd H10 q3 (.lst ((ns.take spot ++ [b]).map iN)) = H11 at s11 e11 ⊢
        have s811 := (s9.trans s10).trans s11
        refine ⟨_, rfl, _, rfl, _, _, rfl, rfl, ((spot + 1 : Nat) : Int), rfl, l, _, rfl, SqL.of (s811 _ _ el8), fun q4 hq4 => ?_⟩
        rw [cutV_fr, ← List.map_drop]
        have s12 : Same H11 (upd H11 q4 (.lst ((ns.drop (spot + 1)).map iN))) := Same.new (Same.refl _) hq4
        have e12 : (upd H11 q4 (.lst ((ns.drop (spot + 1)).map iN))) q4 = some (.lst ((ns.drop (spot + 1)).map iN)) := upd_same
        generalize upd H11 q4 (.lst ((ns.drop (spot + 1)).map iN)) = H12 at s12 e12 ⊢
        refine ⟨q3, q4, _, _, rfl, rfl, s12 _ _ e11, e12, by rw [List.length_map, List.length_map, List.length_append, List.length_take, List.length_drop]; exact Nat.le_trans (show min spot ns.length + 1 + (ns.length - (spot + 1)) ≤ 22 by omega) (by decide), fun q5 hq5 => ?_⟩
        rw [← List.map_append]
        have s13 : Same H12 (upd H12 q5 (.lst ((ns.take spot ++ [b] ++ ns.drop (spot + 1)).map iN))) := Same.new (Same.refl _) hq5
        have e13 : (upd H12 q5 (.lst ((ns.take spot ++ [b] ++ ns.drop (spot + 1)).map iN))) q5 = some (.lst ((ns.take spot ++ [b] ++ ns.drop (spot + 1)).map iN)) := upd_same
        generalize upd H12 q5 (.lst ((ns.take spot ++ [b] ++ ns.drop (spot + 1)).map iN)) = H13 at s13 e13 ⊢
        have s813 := (s811.trans s12).trans s13
        refine ⟨q5, _, rfl, .inl ⟨SqL.of e13, fun T2 hT2 => ?_⟩⟩
        dsimp only [L2.tNil, List.cons_append, List.nil_append]
        refine wri_at T sm (dec8.ext s813) hT2 (fun x hx => ?_) ?_ fun H14 s14 => ?_
        · rcases List.mem_append.mp hx with h | h
          · rcases List.mem_append.mp h with h | h
            · exact ons x (List.mem_of_mem_take h)
            · rw [List.mem_singleton.mp h]; exact hbs
          · exact ons x (List.mem_of_mem_drop h)
        · rw [List.length_append, List.length_append, List.length_take, List.length_drop]
          show min spot ns.length + 1 + (ns.length - (spot + 1)) ≤ 21
          omega
        have ens : ns = ns.take spot ++ a :: ns.drop (spot + 1) := by
          have h1 := List.take_append_drop spot ns
          have h2 : ns.drop spot = a :: ns.drop (spot + 1) := by
            rw [List.drop_eq_getElem_cons hspot]
            have : ns[spot] = a := by
              have := List.getElem?_eq_getElem hspot
              rw [ha] at this
              exact (Option.some.inj this).symm
            rw [this]
          rw [← h2]; exact h1.symm
        have hno : wrP D n (ns.take spot ++ [b] ++ ns.drop (spot + 1)) = none := by
          rw [List.append_assoc]
          show wrP D n (ns.take spot ++ b :: ns.drop (spot + 1)) = none
          refine wrP_change sm.ok hab hasg hbs ?_
          rw [← ens, eW]
          exact fun z => by cases z
        rw [hno]
        exact ⟨_, rfl, iteF (done _ _ H14 (k58.trans ((Kp.of s813).trans (Kp.of s14))) ((b8.same s813).same s14))⟩
      refine ⟨_, rfl, p, _, 2, rfl, b2, by omega, by omega, by omega, fun d1 o1 hd1 ho1 => ⟨rfl, _, rfl, ?_⟩⟩
      have k23 : Kp p H2 (upd H2 p o1) := (Kp.refl p H2).upd
      have b3 : BoxAt (upd H2 p o1) p (c + 30 * i + 21) := ho1.at
      have el3 := k23 _ _ nl el
      generalize upd H2 p o1 = H3 at k23 b3 el3 ⊢
      have k13 := k2.trans k23
      refine ite2 (fun _ => ?_) (fun _ => fin l ns H3 k13 (b3.mono (by omega)) nl el3 (by omega) ons)
      obtain ⟨⟨Sa, Ea, hS0, _, _, _⟩, _, _⟩ := id (plain.kp (k1.trans k13))
      have hS := hS0.ext (wo_same H3 p)
      refine ⟨_, rfl, _, rfl, _, rfl, r, _, _, _, rfl, rfl, hS, atI_nat (j := 0) rfl, p, l, _, D.sg, ns, rfl, b3, by omega, nl, el3, ln, sg1, by omega, ons, fun l' ms H4 k4 b4 nl' el4 lm oms => ?_⟩
      exact fin l' ms H4 (k13.trans k4) (b4.mono (by omega)) nl' el4 lm oms
    · rintro σ H1 ⟨x4, x5, x6, x7, x8, rfl, k1, b1⟩
      exact kQ H1 k1 b1
end
end My

set_option Elab.async false
set_option linter.all false
set_option maxRecDepth 100000
set_option maxHeartbeats 8000000
namespace My
open PySem PySem.Spec PyProof.Rows L2
mutual
def ndD : PyData → Bool
  | .none => true
  | .int _ => true
  | .str _ => true
  | .bool _ => true
  | .list ds => ndAll ds
  | .tuple ds => ndAll ds
  | .dict _ => false
def ndAll : List PyData → Bool
  | [] => true
  | d :: ds => ndD d && ndAll ds
end
mutual
theorem dg_nd {K : PySem.W.Frag} {H : Hp} {m : Bool} : ∀ (d : PyData) (x : V), ndD d = true → Dg K H m x d → Dg K H false x d
  | .none, _, _, h => by cases h; exact .non
  | .int _, _, _, h => by cases h; exact .int _
  | .str _, _, _, h => by cases h; exact .str _
  | .bool _, _, _, h => by cases h; exact .bl _
  | .list ds, _, e, h => by
    have e' : ndAll ds = true := by simpa [ndD] using e
    cases h with
    | lst hs _ ha => exact .lst hs (fun z => by cases z) (dg_ndAll ds _ e' ha)
  | .tuple ds, _, e, h => by
    have e' : ndAll ds = true := by simpa [ndD] using e
    cases h with
    | tup hs ha => exact .tup hs (dg_ndAll ds _ e' ha)
  | .dict _, _, e, _ => by simp [ndD] at e
theorem dg_ndAll {K : PySem.W.Frag} {H : Hp} {m : Bool} : ∀ (ds : List PyData) (xs : List V), ndAll ds = true → DgAll K H m xs ds → DgAll K H false xs ds
  | [], _, _, h => by cases h; exact .nil
  | d :: ds, _, e, h => by
    have e' : ndD d = true ∧ ndAll ds = true := by simpa [ndAll] using e
    cases h with
    | cons h1 h2 => exact .cons (dg_nd d _ e'.1 h1) (dg_ndAll ds _ e'.2 h2)
end
/-- a closed value that is shown -/
def fitQ (d : PyData) : Bool := d.showable && (decide (d.depth ≤ 9) && (d.leavesShort 40 && (decide (d.weight ≤ 1000) && ndD d)))
theorem fitQ_of {d : PyData} (h : fitQ d = true) : Fit d 9 1000 ∧ ndD d = true := by
  unfold fitQ at h
  simp only [Bool.and_eq_true, decide_eq_true_eq] at h
  exact ⟨⟨h.1, h.2.1, h.2.2.1, h.2.2.2.1⟩, h.2.2.2.2⟩
theorem fitQ_menu : ∀ d ∈ [PyData.none, .tuple [.int 2, .tuple [], .tuple []], .str (Str.ofString "signs 1"), .list [], .int 3], fitQ d = true := by decide +kernel
def one1 : Str := Str.ofString "1"
def manyQ (d : PyData) : Bool := fitQ d && (!isSz d && !decide (d.shown = one1))
theorem manyQ_menu : ∀ d ∈ [PyData.int 0, .int 5, .int (-1), .bool true, .none, .str (Str.ofString "2"), .list [.int 2], .tuple [.int 1], .int ((10 : Int) ^ (30 : Int).toNat)], manyQ d = true := by decide +kernel
theorem one_fit : fitQ (.int 1) = true ∧ (PyData.int 1).shown = one1 := by decide +kernel
theorem told_sh {z : Str} {d : PyData} (hz : fitQ (.str z) = true) (h : fitQ d = true) : Sh (.list [.str z, d]) :=
  (Fit.list (FitAll.cons (fitQ_of hz).1 (FitAll.cons (fitQ_of h).1 FitAll.nil))).sh (by omega) (by omega)
theorem told_dg {K : PySem.W.Frag} {H : Hp} {r : Addr} {z : Str} {x : V} {d : PyData} (e : H r = some (.lst [.str z, x])) (h : Dg K H false x d) : Dg K H false (.ref r) (.list [.str z, d]) :=
  .lst (SqL.of e) (fun z => by cases z) (.cons (.str _) (.cons h .nil))
section
variable {P : Program} {w : World} {K : PySem.W.Frag} {mg : Str → Option Value} {base : Heap}
theorem mk_plain (T : Txt K mg) {D : Dcd} {H H3 : Hp} {v2 v3 : V} {Q : VK} {E : XK} (s : Same H H3) (ok : D.ok) (h2 : Dg K H3 false v2 D.stL) (h3 : Dg K H3 false v3 D.enL) (kQ : ∀ r H', Same H H' → DecAt K T.C_Decoder H' r D → Q (.ref r) H') :
    ∀ x dx, H3 x = none → H3 dx = none → dx ≠ x → spInit T [.ref x, .int (D.sg : Nat), v2, v3] (upd (upd H3 dx (.own x)) x (.ins T.C_Decoder dx [])) (fun v H2 => v = .non ∧ Q (.ref x) H2) E := fun x dx hx hdx _ =>
  ⟨x, dx, _, _, _, .int (D.sg : Nat), D.stL, D.enL, false, false, false, rfl, upd_same, .int _, made_dw hx hdx h2, made_dw hx hdx h3, weight_stL ok, weight_enL ok, .inr (.inr (.inr ⟨D, Dcd.goodL ok, fun H' k dec => ⟨rfl, kQ x H' (s.trans (made_same hx hdx k)) dec⟩⟩))⟩
theorem ok_law_refused_right (T : Txt K mg) : FnG P w K mg base CX0 11 T.f_law_refused_right T.fd_law_refused_right ["box", "plain"] (fun vs H Q _ => ∃ (p r : Addr) (c : Nat) (D : Dcd), vs = [.ref p, .ref r] ∧ BoxAt H p c ∧ c < 100000 ∧ PlainAt K p H r D ∧
    ∀ H', Kp p H H' → BoxAt H' p (c + 20) → Q (.bl true) H') := by
  refine T.F_law_refused_right.okG sc_law_refused_right (fun vs H Q E h => ?_) (fun cdv A outer s0 H vs Q E hgd hr h => ?_)
  · obtain ⟨p, r, c, D, rfl, _⟩ := h; rfl
  · obtain ⟨p, r, c, D, rfl, hb, hc, plain, kQ⟩ := h
    have hun := un64 hr
    refine ⟨_, (pss_cons (ps_set (i := 2) sc_law_refused_right.nd rfl (Or.inl rfl) (pe_ix ix_list (pe_lstS (pa_cons pe_non (pa_cons (pe_tup (pa_cons pe_int (pa_cons (pe_tup pa_nil) (pa_cons (pe_tup pa_nil) pa_nil)))) (pa_cons pe_str (pa_cons (pe_lstS pa_nil) (pa_cons pe_int pa_nil)))))) (pe_call (ok_law_take T) (hr.mono (by decide)) rfl T.g_law_take T.F_law_take.kp T.b_law_take .nil pass0 (pa_cons (pv 0) (pa_cons pe_int pa_nil))) (fun _ _ => rfl)))
      (pss_cons (ps_set (i := 3) sc_law_refused_right.nd rfl (Or.inl rfl) (pe_ix ix_list (pe_lstS (pa_cons pe_int (pa_cons pe_int (pa_cons (pe_un un_neg pe_int) (pa_cons pe_bl (pa_cons pe_non (pa_cons pe_str (pa_cons (pe_lstS (pa_cons pe_int pa_nil)) (pa_cons (pe_tup (pa_cons pe_int pa_nil)) (pa_cons (pe_op op_pow pe_int pe_int) (pa_cons pe_int pa_nil))))))))))) (pe_call (ok_law_take T) (hr.mono (by decide)) rfl T.g_law_take T.F_law_take.kp T.b_law_take .nil pass0 (pa_cons (pv 0) (pa_cons pe_int pa_nil))) (fun _ _ => rfl)))
      (pss_cons (ps_set (i := 4) sc_law_refused_right.nd rfl (Or.inl rfl) (pe_make T.mk_Decoder (ok_Decoder_init T) (hr.mono (by decide)) rfl T.g_Decoder T.b_Decoder_init .nil passL (pa_cons (pe_ix ix_list (pv 1) pe_int (fun _ _ => rfl)) (pa_cons (pe_ix ix_list (pv 1) pe_int (fun _ _ => rfl)) (pa_cons (pe_ix ix_list (pv 1) pe_int (fun _ _ => rfl)) pa_nil)))))
      (pss_cons (ps_if (pt_cmpR op_ne (pe_callB (call_reprG hgd hun) (by rfl) T.z_repr (by decide +kernel) (pa_cons (pe_call (ok_law_told T) (hr.mono (by decide)) rfl T.g_law_told T.F_law_told.kp T.b_law_told .nil pass0 (pa_cons (pv 2) (pa_cons (pv 3) (pa_cons (pe_cmpR op_eq (pe_call (ok_law_take T) (hr.mono (by decide)) rfl T.g_law_take T.F_law_take.kp T.b_law_take .nil pass0 (pa_cons (pv 0) (pa_cons pe_int pa_nil))) pe_int (nomark _)) pa_nil)))) pa_nil)) (pe_callB (call_reprG hgd hun) (by rfl) T.z_repr (by decide +kernel) (pa_cons (pe_lstS (pa_cons pe_str (pa_cons (pv 2) pa_nil))) pa_nil)) (nomark _)) (pss_one (ps_ret pe_bl)) pss_nil)
      (pss_cons (ps_set (i := 5) sc_law_refused_right.nd rfl (Or.inl rfl) (pe_call (ok_law_told T) (hr.mono (by decide)) rfl T.g_law_told T.F_law_told.kp T.b_law_told .nil pass0 (pa_cons (pv 4) (pa_cons (pv 3) (pa_cons (pe_cmpR op_eq (pe_call (ok_law_take T) (hr.mono (by decide)) rfl T.g_law_take T.F_law_take.kp T.b_law_take .nil pass0 (pa_cons (pv 0) (pa_cons pe_int pa_nil))) pe_int (nomark _)) pa_nil)))))
      (pss_cons (ps_if (pt_cmpR op_eq (pe_callB (call_reprG hgd hun) (by rfl) T.z_repr (by decide +kernel) (pa_cons (pv 3) pa_nil)) pe_str (nomark _)) (pss_one (ps_ret (pe_or (pe_cmpR op_eq (pe_ix ix_list (pv 5) pe_int (fun _ _ => rfl)) pe_str (nomark _)) (pe_one (pe_cmpR op_eq (pe_ix ix_list (pv 5) pe_int (fun _ _ => rfl)) pe_str (nomark _)))))) pss_nil)
      (pss_cons (ps_if (pt_cmpR op_ne (pe_callB (call_reprG hgd hun) (by rfl) T.z_repr (by decide +kernel) (pa_cons (pv 5) pa_nil)) (pe_callB (call_reprG hgd hun) (by rfl) T.z_repr (by decide +kernel) (pa_cons (pe_lstS (pa_cons pe_str (pa_cons (pv 3) pa_nil))) pa_nil)) (nomark _)) (pss_one (ps_ret pe_bl)) pss_nil)
      (pss_cons (ps_if (pt_val (pe_callB call_isi (by rfl) T.z_isinstance (by decide +kernel) (pa_cons (pv 3) (pa_cons (pe_bltn (v := .ty "list") (u := .type "list") (by rfl) T.z_list (by decide +kernel) rfl) pa_nil)))) (pss_one (ps_expr (pe_bm PySem.F.plainAttrs_list PySem.F.slot_list_append PySem.F.type_list_append mt_append (pv 3) (pa_cons pe_int pa_nil)))) pss_nil)
      (pss_one (ps_ret (pe_cmpR op_eq (pe_callB (call_reprG hgd hun) (by rfl) T.z_repr (by decide +kernel) (pa_cons (pv 5) pa_nil)) (pe_callB (call_reprG hgd hun) (by rfl) T.z_repr (by decide +kernel) (pa_cons (pe_lstS (pa_cons pe_str (pa_cons (pv 3) pa_nil))) pa_nil)) (nomark _)))))))))))), ?_⟩
    obtain ⟨⟨Sa, Ea, hS0, hdS0, hdE0, ok⟩, sg3, st5⟩ := id plain
    have n1 := ok.n1
    have sg1 := ok.s1
    have two : 2 ≤ sizeLine := by decide
    have one : 1 ≤ sizeLine := by decide
    have ten : 10 ≤ sizeLine := by decide
    dsimp only [L2.tSeq]
    show tAsg _ _ _ _ _
    unfold L2.tAsg
    refine menu_here (K := K) (w := fun G => wo G p) res_p (P := fun d => fitQ d = true) hb.some (fun R => (evDs_cons R evD_non (evDs_cons R (evD_tup R (evDs_cons R (evD_int _) (evDs_cons R (evD_tup R evDs_nil (by simp)) (evDs_cons R (evD_tup R evDs_nil (by simp)) evDs_nil))) (by simp)) (evDs_cons R (evD_str _) (evDs_cons R (evD_lstS R evDs_nil (by simp)) (evDs_cons R (evD_int _) evDs_nil)))))) fitQ_menu (by simp) (by simp) ?rest
    intro M H1 ms s1 _ nM eM _ dms lvs l0 _
    have b1 := hb.same s1
    refine ⟨_, rfl, p, c, 5, rfl, b1, by omega, by omega, by omega, fun d0 o0 hd0 ho0 => ?_⟩
    obtain ⟨x0, e0, hx0, he0, dx0⟩ := dms.nth (i := d0) (by show d0 < 5; omega)
    obtain ⟨ft0, nd0⟩ := fitQ_of (lvs e0 (List.mem_of_getElem? he0))
    have dx0 := dg_nd _ _ nd0 dx0
    have k2 : Kp p H1 (upd H1 p o0) := (Kp.refl p H1).upd
    have b2 : BoxAt (upd H1 p o0) p (c + 1) := ho0.at
    have eM2 := k2 _ _ nM eM
    have dx2 := dx0.ext k2.wo
    generalize upd H1 p o0 = H2 at k2 b2 eM2 dx2 ⊢
    have k02 : Kp p H H2 := (Kp.of s1).trans k2
    refine ⟨M, _, (d0 : Int), x0, rfl, rfl, SqL.of eM2, atI_nat hx0, ?_⟩
    dsimp only [L2.gName]
    refine ⟨_, rfl, one, fun a ha _ => ⟨one, fun b hb' => ⟨_, _, rfl, rfl, (by exact ⟨by decide, by decide, by decide⟩), ten, fun M2 hM2 _ => ⟨_, rfl, p, c + 1, 10, rfl, ?bx, by omega, by omega, by omega, fun d1 o1 hd1 ho1 => ?_⟩⟩⟩⟩
    case bx => exact ((b2.new ha).new hb').new hM2
    have na : a ≠ p := (b2.ne ha).symm
    have nb : b ≠ p := ((b2.new ha).ne hb').symm
    have nM2 : M2 ≠ p := (((b2.new ha).new hb').ne hM2).symm
    obtain ⟨H5, eH5⟩ : ∃ H5, H5 = upd (upd (upd (upd H2 a (.lst [.int 2])) b (.tup [.int 1])) M2 (.lst [.int 0, .int 5, .int (-1), .bl true, .non, .str (Str.ofString "2"), .ref a, .ref b, .int ((10 : Int) ^ (30 : Int).toNat), .int 1])) p o1 := ⟨_, rfl⟩
    have k25 : Kp p H2 H5 := by rw [eH5]; exact (((((Kp.refl p H2).new ha).new hb').new hM2)).upd
    have b5 : BoxAt H5 p (c + 2) := by rw [eH5]; exact ho1.at
    have ea5 : H5 a = some (.lst [.int 2]) := by
      rw [eH5, upd_ne na]
      exact ne_l hM2 (ne_l hb' upd_same)
    have eb5 : H5 b = some (.tup [.int 1]) := by
      rw [eH5, upd_ne nb]
      exact ne_l hM2 upd_same
    have eM5 : H5 M2 = some (.lst [.int 0, .int 5, .int (-1), .bl true, .non, .str (Str.ofString "2"), .ref a, .ref b, .int ((10 : Int) ^ (30 : Int).toNat), .int 1]) := by
      rw [eH5, upd_ne nM2]
      exact upd_same
    have haH : H a = none := by
      cases e : H a with
      | none => rfl
      | some ob => rw [k02 _ _ na e] at ha; cases ha
    have mQ : ∀ d ∈ _, manyQ d = true := manyQ_menu
    obtain ⟨x1, e1, hx1, dx1, info⟩ : ∃ x1 e1, [V.int 0, .int 5, .int (-1), .bl true, .non, .str (Str.ofString "2"), .ref a, .ref b, .int ((10 : Int) ^ (30 : Int).toNat), .int 1][d1]? = some x1 ∧ Dg K (wo H5 p) false x1 e1 ∧ ((manyQ e1 = true ∧ ((x1 = .ref a ∧ e1 = .list [.int 2]) ∨ isLstD e1 = false)) ∨ (x1 = .int 1 ∧ e1 = .int 1)) := by
      have h10 : d1 = 0 ∨ d1 = 1 ∨ d1 = 2 ∨ d1 = 3 ∨ d1 = 4 ∨ d1 = 5 ∨ d1 = 6 ∨ d1 = 7 ∨ d1 = 8 ∨ d1 = 9 := by omega
      rcases h10 with rfl | rfl | rfl | rfl | rfl | rfl | rfl | rfl | rfl | rfl
      · exact ⟨_, .int 0, rfl, .int _, .inl ⟨mQ _ (by simp), .inr rfl⟩⟩
      · exact ⟨_, .int 5, rfl, .int _, .inl ⟨mQ _ (by simp), .inr rfl⟩⟩
      · exact ⟨_, .int (-1), rfl, .int _, .inl ⟨mQ _ (by simp), .inr rfl⟩⟩
      · exact ⟨_, .bool true, rfl, .bl _, .inl ⟨mQ _ (by simp), .inr rfl⟩⟩
      · exact ⟨_, .none, rfl, .non, .inl ⟨mQ _ (by simp), .inr rfl⟩⟩
      · exact ⟨_, .str (Str.ofString "2"), rfl, .str _, .inl ⟨mQ _ (by simp), .inr rfl⟩⟩
      · exact ⟨_, .list [.int 2], rfl, .lst (SqL.of (by rw [wo_ne na]; exact ea5)) (fun z => by cases z) (.cons (.int _) .nil), .inl ⟨mQ _ (by simp), .inl ⟨rfl, rfl⟩⟩⟩
      · exact ⟨_, .tuple [.int 1], rfl, .tup (SqT.of (by rw [wo_ne nb]; exact eb5)) (.cons (.int _) .nil), .inl ⟨mQ _ (by simp), .inr rfl⟩⟩
      · exact ⟨_, .int ((10 : Int) ^ (30 : Int).toNat), rfl, .int _, .inl ⟨mQ _ (by simp), .inr rfl⟩⟩
      · exact ⟨_, .int 1, rfl, .int _, .inr ⟨rfl, rfl⟩⟩
    rw [← eH5]
    clear eH5
    refine ⟨M2, _, (d1 : Int), x1, rfl, rfl, SqL.of eM5, atI_nat hx1, ?_⟩
    dsimp only [L2.gName]
    have k05 := k02.trans k25
    have hS5 := (hS0.ext k05.wo).ext (wo_same H5 p)
    have hd5 : Dg K H5 false (.ref Sa) D.stL := (hdS0.ext k05.wo).ext (wo_same H5 p)
    have he5 : Dg K H5 false (.ref Ea) D.enL := (hdE0.ext k05.wo).ext (wo_same H5 p)
    have dx5 : Dg K H5 false x0 e0 := (dx2.ext k25.wo).ext (wo_same H5 p)
    refine ⟨_, rfl, r, _, _, _, rfl, rfl, hS5, atI_nat (j := 0) rfl, _, rfl, r, _, _, _, rfl, rfl, hS5, atI_nat (j := 1) rfl, _, rfl, r, _, _, _, rfl, rfl, hS5, atI_nat (j := 2) rfl, fun o dx hx hdx ne => ⟨o, dx, _, _, _, .int (D.sg : Nat), D.stL, D.enL, false, false, false, rfl, upd_same, .int _, made_dw hx hdx hd5, made_dw hx hdx he5, weight_stL ok, weight_enL ok, .inr (.inr (.inr ⟨D, Dcd.goodL ok, fun H6 k6 dec6 => ⟨rfl, ?_⟩⟩))⟩⟩
    have s6 : Same H5 H6 := made_same hx hdx k6
    have b6 := b5.same s6
    dsimp only [L2.gName]
    have ft0 := lvs e0 (List.mem_of_getElem? he0)
    have k56 : Kp p H5 H6 := Kp.of s6
    refine ⟨_, rfl, _, rfl, _, rfl, p, _, 2, rfl, b6, by omega, by omega, by omega, fun d2 o2 hd2 ho2 => ⟨rfl, ?_⟩⟩
    have k67 : Kp p H6 (upd H6 p o2) := (Kp.refl p H6).upd
    have b7 : BoxAt (upd H6 p o2) p (c + 3) := ho2.at
    have dx7 : Dg K (upd H6 p o2) false x0 e0 := (dx2.ext ((k25.trans k56).trans k67).wo).ext (wo_same _ p)
    have k07 := (k05.trans k56).trans k67
    generalize upd H6 p o2 = H7 at k67 b7 dx7 k07 ⊢
    dsimp only [L2.tNil, List.append_nil]
    refine ⟨x0, x1, _, rfl, .inl ⟨e0, false, dx7, fun q1 H8 s8 hq1 e8 => ?_⟩⟩
    have shA := told_sh (z := Str.ofString "decoder") (by decide +kernel) ft0
    have dA : ∀ (H' : Hp) (q : Addr), H' q = some (.lst [.str (Str.ofString "decoder"), x0]) → Same H7 H' → Dg K H' false (.ref q) (.list [.str (Str.ofString "decoder"), e0]) := fun H' q e s => told_dg e (dx7.ext s)
    generalize PyData.list [.str (Str.ofString "decoder"), e0] = dd at shA dA
    refine ⟨_, dd, false, rfl, dA _ _ e8 s8, shA.1, shA.2.1, shA.2.2, _, rfl, two, fun q2 hq2 _ => ?_⟩
    have s9 : Same H8 (upd H8 q2 (.lst [.str (Str.ofString "decoder"), x0])) := Same.new (Same.refl _) hq2
    refine ⟨_, dd, false, rfl, dA _ _ upd_same (s8.trans s9), shA.1, shA.2.1, shA.2.2, rfl, _, rfl, neSame ?_⟩
    have b9 := (b7.same s8).same s9
    have k79 : Kp p H7 (upd H8 q2 (.lst [.str (Str.ofString "decoder"), x0])) := (Kp.of s8).trans (Kp.of s9)
    generalize upd H8 q2 (.lst [.str (Str.ofString "decoder"), x0]) = H9 at s9 b9 k79 ⊢
    dsimp only [L2.tNext, L2.gName]
    have k59 : Kp p H5 H9 := (k56.trans k67).trans k79
    have k69 : Kp p H6 H9 := k67.trans k79
    have dec9 := dec6.bx b6 k69
    refine ⟨_, rfl, _, rfl, _, rfl, p, _, 2, rfl, b9, by omega, by omega, by omega, fun d3 o3 hd3 ho3 => ⟨rfl, ?_⟩⟩
    have kA : Kp p H9 (upd H9 p o3) := (Kp.refl p H9).upd
    have bA : BoxAt (upd H9 p o3) p (c + 4) := ho3.at
    have decA := dec9.bx b9 kA
    have k5A := k59.trans kA
    have eaA := k5A _ _ na ea5
    have k0A := k05.trans k5A
    have dxA : Dg K (upd H9 p o3) false x1 e1 := (dx1.ext k5A.wo).ext (wo_same _ p)
    generalize upd H9 p o3 = HA at kA bA decA k5A eaA k0A dxA ⊢
    dsimp only [L2.tNil, List.append_nil]
    refine ⟨.ref o, x1, _, rfl, .inr ⟨o, D, rfl, decA, ?_⟩⟩
    rcases info with ⟨mq, il⟩ | ⟨rfl, rfl⟩
    · have ft1 : fitQ e1 = true := by unfold manyQ at mq; simp only [Bool.and_eq_true] at mq; exact mq.1
      have sz1 : isSz e1 = false := by unfold manyQ at mq; simp only [Bool.and_eq_true, Bool.not_eq_true'] at mq; exact mq.2.1
      have no1 : ¬ e1.shown = one1 := by unfold manyQ at mq; simp only [Bool.and_eq_true, Bool.not_eq_true', decide_eq_false_iff_not] at mq; exact mq.2.2
      have sh1 : Sh e1 := (fitQ_of ft1).1.sh (by omega) (by omega)
      refine .inl ⟨e1, false, dxA, sz1, fun q3 HB sB hq3 eB => ?_⟩
      have dxB := dxA.ext sB
      have eaB := sB _ _ eaA
      have bB := bA.same sB
      have k0B := k0A.trans (Kp.of sB)
      refine ⟨_, rfl, x1, e1, false, rfl, dxB, sh1.1, sh1.2.1, sh1.2.2, rfl, _, rfl, ?_⟩
      have nstr : decide (V.str e1.shown = V.str (Str.ofString "1")) = false := decide_eq_false fun z => no1 (V.str.inj z)
      rw [nstr]
      refine iteF ?_
      dsimp only [L2.tNext]
      have shP := told_sh (z := Str.ofString "period") (by decide +kernel) ft1
      refine ⟨_, rfl, _, .list [.str (Str.ofString "period"), e1], false, rfl, told_dg eB dxB, shP.1, shP.2.1, shP.2.2, _, rfl, two, fun q4 hq4 _ => ?_⟩
      have sC : Same HB (upd HB q4 (.lst [.str (Str.ofString "period"), x1])) := Same.new (Same.refl _) hq4
      refine ⟨_, .list [.str (Str.ofString "period"), e1], false, rfl, told_dg upd_same (dxB.ext sC), shP.1, shP.2.1, shP.2.2, rfl, _, rfl, neSame ?_⟩
      have dxC := dxB.ext sC
      have eaC := sC _ _ eaB
      have eC := sC _ _ eB
      have bC := bB.same sC
      have k0C := k0B.trans (Kp.of sC)
      generalize upd HB q4 (.lst [.str (Str.ofString "period"), x1]) = HC at sC dxC eaC eC bC k0C ⊢
      dsimp only [L2.tNext]
      refine ⟨_, rfl, _, _, _, _, isLstD e1, rfl, .ty _, dxC.ty, kit_lstD e1, _, rfl, ?_⟩
      have last : ∀ (HD : Hp) (e : PyData), fitQ e = true → Dg K HD false x1 e → HD q3 = some (.lst [.str (Str.ofString "period"), x1]) → Kp p H HD → BoxAt HD p (c + 4) → ∀ σ : L2.St, σ[3]? = some (some x1) → σ[5]? = some (some (.ref q3)) →
          tRet (tOp rEq (tCB (rReprG K) (tCons (tVar 5) tNil)) (tCB (rReprG K) (tCons (tLstS (tCons (tC (V.str (Str.ofString "period"))) (tCons (tVar 3) tNil))) tNil))) { nx := fun x H' => Q V.non H', rt := Q } σ HD := by
        intro HD e fe dxD eD k0D bD σ h3 h5
        have shD := told_sh (z := Str.ofString "period") (by decide +kernel) fe
        refine ⟨_, h5, _, .list [.str (Str.ofString "period"), e], false, rfl, told_dg eD dxD, shD.1, shD.2.1, shD.2.2, _, h3, two, fun q5 hq5 _ => ?_⟩
        have sE : Same HD (upd HD q5 (.lst [.str (Str.ofString "period"), x1])) := Same.new (Same.refl _) hq5
        refine ⟨_, .list [.str (Str.ofString "period"), e], false, rfl, told_dg upd_same (dxD.ext sE), shD.1, shD.2.1, shD.2.2, rfl, ?_⟩
        show Q (.bl (decide (V.str _ = V.str _))) _
        rw [decide_eq_true rfl]
        exact kQ _ (k0D.trans (Kp.of sE)) ((bD.same sE).mono (by omega))
      rcases il with ⟨rfl, rfl⟩ | nl
      · refine iteT ?_
        have nq : q3 ≠ a := fun z => by rw [z, eaA] at hq3; cases hq3
        refine ⟨_, rfl, .inl ⟨rfl, _, SqL.of eaC⟩, a, _, _, rfl, rfl, eaC, by decide, ?_⟩
        exact last _ (.list [.int 2, .int 3]) (by decide +kernel) (.lst (SqL.of upd_same) (fun z => by cases z) (.cons (.int _) (.cons (.int _) .nil))) (by rw [upd_ne nq]; exact eC) (k0C.free haH) (bC.other na.symm) _ rfl rfl
      · rw [nl]
        exact iteF (last HC e1 ft1 dxC eC k0C bC _ rfl rfl)
    · have one_sh : Sh (.int 1) := (fitQ_of one_fit.1).1.sh (by omega) (by omega)
      have one_eq := one_fit.2
      have yes : decide (V.str (PyData.int 1).shown = V.str (Str.ofString "1")) = true := decide_eq_true (by rw [one_eq]; rfl)
      refine .inr ⟨1, rfl, ⟨ok, st5, sg3, by omega, by omega⟩, fun l40 q1 HB sB hq1 eB => ?_, fun l40 q1 o2 HB sB hq1 eB _ => ?_⟩
      · refine ⟨_, rfl, _, .int 1, false, rfl, .int _, one_sh.1, one_sh.2.1, one_sh.2.2, rfl, _, rfl, ?_⟩
        rw [yes]
        refine iteT ⟨_, rfl, q1, _, _, _, rfl, rfl, SqL.of eB, atI_nat (j := 0) rfl, rfl, _, rfl, ?_⟩
        rw [show decide (V.str (Str.ofString "many") = V.str (Str.ofString "made")) = false by decide +kernel]
        refine iteF ⟨_, rfl, q1, _, _, _, rfl, rfl, SqL.of eB, atI_nat (j := 0) rfl, rfl, ?_⟩
        show Q (.bl (decide (V.str (Str.ofString "many") = V.str (Str.ofString "many")))) _
        rw [decide_eq_true rfl]
        exact kQ _ (k0A.trans (Kp.of sB)) ((bA.same sB).mono (by omega))
      · refine ⟨_, rfl, _, .int 1, false, rfl, .int _, one_sh.1, one_sh.2.1, one_sh.2.2, rfl, _, rfl, ?_⟩
        rw [yes]
        refine iteT ⟨_, rfl, q1, _, _, _, rfl, rfl, SqL.of eB, atI_nat (j := 0) rfl, rfl, _, rfl, ?_⟩
        rw [show decide (V.str (Str.ofString "made") = V.str (Str.ofString "made")) = true by decide +kernel]
        exact iteT (kQ _ (k0A.trans (Kp.of sB)) ((bA.same sB).mono (by omega)))
end
end My

set_option Elab.async false
set_option linter.all false
set_option maxRecDepth 100000
set_option maxHeartbeats 8000000
namespace My
open PySem PySem.Spec PyProof.Rows L2
section
variable {P : Program} {w : World} {K : PySem.W.Frag} {mg : Str → Option Value} {base : Heap}
theorem eqO_ (T : Txt K mg) {H : Hp} {o q : Addr} {D D' : Dcd} {Q : VK} (h1 : DecAt K T.C_Decoder H o D) (h2 : DecAt K T.C_Decoder H q D') (k : Q (.bl (decide (D = D'))) H) : rEqO K T.C_Decoder (spDeq T) (.ref o) (.ref q) H Q := by
  obtain ⟨⟨dx, _, _, e1, _, _⟩, _⟩ := id h1
  obtain ⟨⟨dy, _, _, e2, _, _⟩, _⟩ := id h2
  exact ⟨⟨o, dx, _, rfl, e1⟩, ⟨_, T.oe_Decoder.ty e2, T.oe_Decoder.first⟩, o, _, D, rfl, h1, .inl ⟨q, D', rfl, h2, _, rfl, k⟩⟩
theorem neO_ (T : Txt K mg) {H : Hp} {o q : Addr} {D D' : Dcd} {Q : VK} (h1 : DecAt K T.C_Decoder H o D) (h2 : DecAt K T.C_Decoder H q D') (k : Q (.bl (!decide (D = D'))) H) : rNeO K T.C_Decoder (spDeq T) (.ref o) (.ref q) H Q := by
  obtain ⟨⟨dx, _, _, e1, _, _⟩, _⟩ := id h1
  obtain ⟨⟨dy, _, _, e2, _, _⟩, _⟩ := id h2
  exact ⟨⟨o, dx, _, rfl, e1⟩, ⟨_, T.oe_Decoder.ty e2, T.oe_Decoder.first⟩, o, _, D, rfl, h1, .inl ⟨q, D', rfl, h2, _, rfl, k⟩⟩
theorem ok_law_one_right (T : Txt K mg) : FnG P w K mg base CX0 12 T.f_law_one_right T.fd_law_one_right ["box"] (fun vs H Q _ => ∃ (p : Addr) (c : Nat), vs = [.ref p] ∧ BoxAt H p c ∧ c < 1000 ∧ ∀ H', Kp p H H' → Q (.bl true) H') := by
  refine T.F_law_one_right.okG sc_law_one_right (fun vs H Q E h => ?_) (fun cdv A outer s0 H vs Q E hgd hr h => ?_)
  · obtain ⟨p, c, rfl, _⟩ := h; rfl
  · obtain ⟨p, c, rfl, hb, hc, kQ⟩ := h
    have hun := un64 hr
    refine ⟨_, (pss_cons (ps_par (i := 1) (j := 2) (by rfl) sc_law_one_right.nd rfl rfl (by decide) rfl rfl (pa_cons (pe_call (ok_law_take T) (hr.mono (by decide)) rfl T.g_law_take T.F_law_take.kp T.b_law_take .nil pass0 (pa_cons (pv 0) (pa_cons pe_int pa_nil))) (pa_cons (pe_op op_add pe_int (pe_call (ok_law_take T) (hr.mono (by decide)) rfl T.g_law_take T.F_law_take.kp T.b_law_take .nil pass0 (pa_cons (pv 0) (pa_cons pe_int pa_nil)))) pa_nil)) (by rfl))
      (pss_cons (ps_set (i := 3) sc_law_one_right.nd rfl (Or.inl rfl) (pe_ifExp (pt_cmpR op_eq (pv 1) pe_int (nomark _)) (pe_call (ok_law_ring T) (hr.mono (by decide)) rfl T.g_law_ring T.F_law_ring.kp T.b_law_ring .nil pass0 (pa_cons (pv 0) pa_nil)) (pe_call (ok_law_plain T) (hr.mono (by decide)) rfl T.g_law_plain T.F_law_plain.kp T.b_law_plain .nil pass0 (pa_cons (pv 0) pa_nil))))
      (pss_cons (ps_set (i := 2) sc_law_one_right.nd rfl (Or.inl rfl) (pe_ifExp (pt_cmpR op_eq (pv 1) pe_int (nomark _)) (pe_op op_add pe_int (pe_op op_fdiv (pv 2) pe_int)) (pv 2)))
      (pss_cons (ps_if (PW.pt (pw_and (pt_cmpR op_eq (pv 1) pe_int (nomark _)) (pw_and1 (pt_not (pt_val (pe_callG (ok_law_refused_right T) hgd (hr.mono (by decide)) rfl T.g_law_refused_right T.F_law_refused_right.kp T.b_law_refused_right .nil pass0 (pa_cons (pv 0) (pa_cons (pv 3) pa_nil)))))))) (pss_one (ps_ret pe_bl)) pss_nil)
      (pss_cons (ps_set (i := 4) sc_law_one_right.nd rfl (Or.inl rfl) (pe_make T.mk_Decoder (ok_Decoder_init T) (hr.mono (by decide)) rfl T.g_Decoder T.b_Decoder_init .nil passL (pa_cons (pe_ix ix_list (pv 3) pe_int (fun _ _ => rfl)) (pa_cons (pe_ix ix_list (pv 3) pe_int (fun _ _ => rfl)) (pa_cons (pe_ix ix_list (pv 3) pe_int (fun _ _ => rfl)) pa_nil)))))
      (pss_cons (ps_par (i := 5) (j := 6) (by rfl) sc_law_one_right.nd rfl rfl (by decide) rfl rfl (pa_cons (pe_call (ok_law_told T) (hr.mono (by decide)) rfl T.g_law_told T.F_law_told.kp T.b_law_told .nil pass0 (pa_cons (pv 4) (pa_cons (pv 2) (pa_cons (pe_cmpR op_eq (pv 1) pe_int (nomark _)) pa_nil)))) (pa_cons (pe_call (ok_law_blocks T) (hr.mono (by decide)) rfl T.g_law_blocks T.F_law_blocks.kp T.b_law_blocks .nil pass0 (pa_cons (pv 3) (pa_cons (pv 2) pa_nil))) pa_nil)) (by rfl))
      (pss_cons (ps_if (pt_cmpR (op_neO T.oe_Decoder (ok_Decoder_eq T) T.b_Decoder_eq pass0 (Room.in1 (hr.mono (by decide))) (un64 hr)) (pv 4) (pe_make T.mk_Decoder (ok_Decoder_init T) (hr.mono (by decide)) rfl T.g_Decoder T.b_Decoder_init .nil passL (pa_cons (pe_ix ix_list (pv 3) pe_int (fun _ _ => rfl)) (pa_cons (pe_ix ix_list (pv 3) pe_int (fun _ _ => rfl)) (pa_cons (pe_ix ix_list (pv 3) pe_int (fun _ _ => rfl)) pa_nil)))) (nomark _)) (pss_one (ps_ret pe_bl)) pss_nil)
      (pss_cons (ps_if (pt_cmpR op_gt (pe_callB call_len_seq (by rfl) T.z_len (by decide +kernel) (pa_cons (pe_ix ix_list (pv 6) pe_int (fun _ _ => rfl)) pa_nil)) pe_int (nomark _)) (pss_one (ps_ret (pe_cmpR op_eq (pe_callB (call_reprG hgd hun) (by rfl) T.z_repr (by decide +kernel) (pa_cons (pv 5) pa_nil)) (pe_callB (call_reprG hgd hun) (by rfl) T.z_repr (by decide +kernel) (pa_cons (pe_lst (pa_cons pe_str (pa_cons (pe_callB call_len_seq (by rfl) T.z_len (by decide +kernel) (pa_cons (pe_ix ix_list (pv 6) pe_int (fun _ _ => rfl)) pa_nil)) pa_nil))) pa_nil)) (nomark _)))) pss_nil)
      (pss_cons (ps_if (PW.pt (pw_or (pt_cmpR op_ne (pe_ix ix_list (pv 5) pe_int (fun _ _ => rfl)) pe_str (nomark _)) (pw_or1 (pt_not (pt_val (pe_callB call_isi (by rfl) T.z_isinstance (by decide +kernel) (pa_cons (pe_ix ix_list (pv 5) pe_int (fun _ _ => rfl)) (pa_cons (pe_glob (v := .ref T.C_Decoder) rfl T.g_Decoder rfl) pa_nil)))))))) (pss_one (ps_ret pe_bl)) pss_nil)
      (pss_cons (ps_set (i := 7) sc_law_one_right.nd rfl (Or.inl rfl) (pe_ix ix_list (pv 5) pe_int (fun _ _ => rfl)))
      (pss_cons (ps_par (i := 8) (j := 9) (by rfl) sc_law_one_right.nd rfl rfl (by decide) rfl rfl (pa_cons (pe_callTy call_tuple_of (by rfl) T.z_tuple (by decide +kernel) (pa_cons (pe_lc (own := [("row", 10)]) (g := gName 10) (by rfl) sc_law_one_right.nd (pi_sq (pe_ix ix_list (pv 6) pe_int (fun _ _ => rfl))) (blkOk_by (own := [("row", 10)]) (N := N_law_one_right) (sc := defScope s_law_one_right) (by decide +kernel)) (fun _ _ _ _ _ => pg_name (i := 10) sc_law_one_right.nd rfl (Or.inl rfl)) (fun _ _ _ _ _ => pts_nil) (fun _ _ _ _ _ => (pe_callTy (call_tuple_ofK (K := K) rfl) (by rfl) T.z_tuple (by decide +kernel) (pa_cons (pv 10) pa_nil)))) pa_nil)) (pa_cons (pe_callTy call_tuple_of (by rfl) T.z_tuple (by decide +kernel) (pa_cons (pe_ix ix_list (pv 6) pe_int (fun _ _ => rfl)) pa_nil)) pa_nil)) (by rfl))
      (pss_cons (ps_if (pt_cmpR op_ne (pe_callB (call_reprG hgd hun) (by rfl) T.z_repr (by decide +kernel) (pa_cons (pe_tup (pa_cons (pe_fld (pv 7) rfl) (pa_cons (pe_fld (pv 7) rfl) (pa_cons (pe_fld (pv 7) rfl) (pa_cons (pe_fld (pv 7) rfl) pa_nil))))) pa_nil)) (pe_callB (call_reprG hgd hun) (by rfl) T.z_repr (by decide +kernel) (pa_cons (pe_tup (pa_cons (pe_ix ix_list (pv 3) pe_int (fun _ _ => rfl)) (pa_cons (pe_callB call_len_seq (by rfl) T.z_len (by decide +kernel) (pa_cons (pv 8) pa_nil)) (pa_cons (pv 8) (pa_cons (pv 9) pa_nil))))) pa_nil)) (nomark _)) (pss_one (ps_ret pe_bl)) pss_nil)
      (pss_one (ps_ret (pe_and (pe_cmpR (op_eqO T.oe_Decoder (ok_Decoder_eq T) T.b_Decoder_eq pass0 (hr.mono (by decide)) (un64 hr)) (pv 7) (pe_ix ix_list (pe_call (ok_law_told T) (hr.mono (by decide)) rfl T.g_law_told T.F_law_told.kp T.b_law_told .nil pass0 (pa_cons (pv 4) (pa_cons (pv 2) (pa_cons (pe_cmpR op_eq (pv 1) pe_int (nomark _)) pa_nil)))) pe_int (fun _ _ => rfl)) (nomark _)) (pe_one (pe_callG (ok_law_lines_right T) hgd (hr.mono (by decide)) rfl T.g_law_lines_right T.F_law_lines_right.kp T.b_law_lines_right .nil pass0 (pa_cons (pv 0) (pa_cons (pv 7) (pa_cons (pv 3) (pa_cons (pv 2) pa_nil))))))))))))))))))))), ?_⟩
    have four : 4 ≤ sizeLine := by decide
    have two : 2 ≤ sizeLine := by decide
    refine ⟨_, rfl, p, c, 4, rfl, hb, by omega, by omega, by omega, fun ch o1 hch ho1 => ⟨_, rfl, p, _, 4, rfl, ho1.at, by omega, by omega, by omega, fun m0 o2 hm0 ho2 => ⟨_, _, rfl, rfl, _, _, rfl, ?_⟩⟩⟩
    have k1 : Kp p H (upd (upd H p o1) p o2) := ((Kp.refl p H).upd).upd
    have b1 : BoxAt (upd (upd H p o1) p o2) p (c + 2) := ho2.at
    generalize upd (upd H p o1) p o2 = H1 at k1 b1 ⊢
    dsimp only
    refine seq_opaque fun N hN => ?_
    have fin1 : ∀ r D H2, Kp p H1 H2 → BoxAt H2 p (c + 112) → PlainAt K p H2 r D → N [some (.ref p), some (.int (ch : Nat)), some (.int ((1 : Int) + (m0 : Nat))), some (.ref r), none, none, none, none, none, none, none] H2 := by
      intro r D H2 k2 b2 plain
      refine hN _ _ ?_
      clear hN
      refine seq_opaque fun N2 hN2 => ?_
      have fin2 : ∀ n : Nat, 1 ≤ n → n ≤ 4 → N2 [some (.ref p), some (.int (ch : Nat)), some (.int (n : Nat)), some (.ref r), none, none, none, none, none, none, none] H2 := by
        intro n n1 n4
        refine hN2 _ _ ?_
        clear hN2
        refine seq_opaque fun N3 hN3 => ?_
        have fin3 : ∀ H3, Kp p H2 H3 → BoxAt H3 p (c + 140) → N3 [some (.ref p), some (.int (ch : Nat)), some (.int (n : Nat)), some (.ref r), none, none, none, none, none, none, none] H3 := by
          intro H3 k3 b3
          refine hN3 _ _ ?_
          clear hN3
          have plain3 := plain.kp k3
          obtain ⟨⟨Sa, Ea, hS0, hdS0, hdE0, ok⟩, sg3, st5⟩ := id plain3
          have sm : Sml D n := ⟨ok, st5, sg3, n1, n4⟩
          have hS := hS0.ext (wo_same H3 p)
          have hdS : Dg K H3 false (.ref Sa) D.stL := hdS0.ext (wo_same H3 p)
          have hdE : Dg K H3 false (.ref Ea) D.enL := hdE0.ext (wo_same H3 p)
          have k03 := (k1.trans k2).trans k3
          refine ⟨_, rfl, r, _, _, _, rfl, rfl, hS, atI_nat (j := 0) rfl, _, rfl, r, _, _, _, rfl, rfl, hS, atI_nat (j := 1) rfl, _, rfl, r, _, _, _, rfl, rfl, hS, atI_nat (j := 2) rfl, fun o dx hx hdx ne => ⟨o, dx, _, _, _, .int (D.sg : Nat), D.stL, D.enL, false, false, false, rfl, upd_same, .int _, made_dw hx hdx hdS, made_dw hx hdx hdE, weight_stL ok, weight_enL ok, .inr (.inr (.inr ⟨D, Dcd.goodL ok, fun H4 k4 dec4 => ⟨rfl, ?_⟩⟩))⟩⟩
          have s4 : Same H3 H4 := made_same hx hdx k4
          have b4 := b3.same s4
          have k04 := k03.trans (Kp.of s4)
          dsimp only [L2.gName]
          refine ⟨_, rfl, _, rfl, _, rfl, rfl, .ref o, .int (n : Nat), _, rfl, .inr ⟨o, D, rfl, dec4, .inr ⟨n, rfl, sm, fun l40 q1 H5 s5 hq1 e5 => ?_, fun l40 q1 o2 H5 s5 hq1 e5 dec5 => ?_⟩⟩⟩
          all_goals
            have b5 := b4.same s5
            have plain5 := plain3.kp ((Kp.of s4).trans (Kp.of s5))
            refine ⟨_, rfl, _, rfl, p, r, _, D, n, rfl, b5, plain5, sm, fun r' H6 s6 dd => ⟨_, _, rfl, ?_⟩⟩
            have s36 : Same H3 H6 := (s4.trans s5).trans s6
            refine ⟨_, rfl, _, rfl, r, _, _, _, rfl, rfl, hS.ext s36, atI_nat (j := 0) rfl, _, rfl, r, _, _, _, rfl, rfl, hS.ext s36, atI_nat (j := 1) rfl, _, rfl, r, _, _, _, rfl, rfl, hS.ext s36, atI_nat (j := 2) rfl, fun x dx2 hx2 hdx2 ne2 => ⟨x, dx2, _, _, _, .int (D.sg : Nat), D.stL, D.enL, false, false, false, rfl, upd_same, .int _, made_dw hx2 hdx2 (hdS.ext s36), made_dw hx2 hdx2 (hdE.ext s36), weight_stL ok, weight_enL ok, .inr (.inr (.inr ⟨D, Dcd.goodL ok, fun H7 k7 dec7 => ⟨rfl, neO_ T (dec4.ext ((s5.trans s6).trans (made_same hx2 hdx2 k7))) dec7 ⟨_, rfl, ?_⟩⟩⟩))⟩⟩
            have s67 : Same H6 H7 := made_same hx2 hdx2 k7
            rw [decide_eq_true rfl]
            refine iteF ?_
            dsimp only [L2.tNext]
            have s57 := s6.trans s67
            have s47 := s5.trans s57
            have s37 := s4.trans s47
            have b7 := b5.same s57
            have k07 := k04.trans (Kp.of s47)
            have e7 := s57 _ _ e5
            obtain ⟨r0, xs, er, hxs, _, hall⟩ := (dd.ext (Kp.of s67).wo).lst_of
            injection er with er
            subst er
            obtain ⟨y0, xs1, rfl, h0, h1⟩ := hall.cons_of
            obtain ⟨y1, xs2, rfl, h1', h2⟩ := h1.cons_of
            obtain ⟨y2, xs3, rfl, h2', h3⟩ := h2.cons_of
            obtain rfl := h3.nil_of
            obtain rfl := h0.int_of
            obtain ⟨Rd, ys, rfl, hR, _, hys⟩ := h1'.lst_of
            obtain ⟨Le, zs, rfl, hL, _, hzs⟩ := h2'.lst_of
            have hX : SqL K H7 r' _ := hxs.ext (wo_same H7 p)
            have hR7 : SqL K H7 Rd ys := hR.ext (wo_same H7 p)
            have hL7 : SqL K H7 Le zs := hL.ext (wo_same H7 p)
            have lys : ys.length = (FinP D n).length := by
              have := hys.len
              rw [List.length_map, ChkD_len] at this
              exact this
            have l75 := sm.lenF
            refine ⟨_, rfl, r', _, _, _, rfl, rfl, hX, atI_nat (j := 1) rfl, Rd, ys, rfl, .inl hR7, _, _, rfl, rfl, _, rfl, ?_⟩
          · rw [decide_eq_true (show (40 : Int) < (ys.length : Nat) by omega)]
            have sh : Sh (.list [.str (Str.ofString "many"), .int ((FinP D n).length : Nat)]) := (Fit.list (FitAll.cons (fitQ_of (d := .str (Str.ofString "many")) (by decide +kernel)).1 (FitAll.cons (Fit.nat (by omega)) FitAll.nil))).sh (by omega) (by omega)
            refine iteT ⟨_, rfl, _, .list [.str (Str.ofString "many"), .int ((FinP D n).length : Nat)], false, rfl, told_dg e7 (.int _), sh.1, sh.2.1, sh.2.2, _, rfl, r', _, _, _, rfl, rfl, hX, atI_nat (j := 1) rfl, Rd, ys, rfl, .inl hR7, two, fun q2 hq2 => ?_⟩
            refine ⟨_, .list [.str (Str.ofString "many"), .int ((FinP D n).length : Nat)], false, rfl, told_dg (x := .int ((FinP D n).length : Nat)) (by rw [upd_same, lys]) (.int _), sh.1, sh.2.1, sh.2.2, rfl, ?_⟩
            show Q (.bl (decide (V.str _ = V.str _))) _
            rw [decide_eq_true rfl]
            exact kQ _ (k07.trans (Kp.of (Same.new (Same.refl _) hq2)))
          · rw [decide_eq_false (show ¬ (40 : Int) < (ys.length : Nat) by omega)]
            refine iteF ?_
            dsimp only [L2.tNext]
            have okC := sm.okC l40
            have good := Dcd.goodL okC
            have dec7' := dec5.ext s57
            obtain ⟨⟨dy, Sb, Eb, eo7, hs7, he7⟩, _⟩ := id dec7'
            refine ⟨_, rfl, q1, _, _, _, rfl, rfl, SqL.of e7, atI_nat (j := 0) rfl, rfl, _, rfl, ?_⟩
            rw [show (!decide (V.str (Str.ofString "made") = V.str (Str.ofString "made"))) = false by decide +kernel]
            refine iteF ⟨_, rfl, q1, _, _, _, rfl, rfl, SqL.of e7, atI_nat (j := 1) rfl, _, _, _, _, true, rfl, .own _, T.oe_Decoder.ty eo7, kit_same, _, rfl, iteF ?_⟩
            refine ⟨_, rfl, q1, _, _, _, rfl, rfl, SqL.of e7, atI_nat (j := 1) rfl, ?_⟩
            dsimp only [L2.gName]
            have n40 := okC.n40
            have npx : H7 p ≠ none := b7.some
            dsimp only [L2.tSeq]
            show tPar _ _ _ _ _ _
            unfold L2.tPar
            dsimp only [L2.tCons]
            refine rows_tup (A := Unit) (p := p) (a := Rd) (i := 10) rfl rfl (fun R h => ⟨_, rfl, r', _, _, _, rfl, rfl, hX, atI_nat (j := 1) rfl, h⟩) (.inl hR7) hys good.r2 (by rw [List.length_map]; omega) npx (fun _ => rfl) (fun _ => rfl) (fun t us H8 s8 et nt hus => ?_)
            have hzs8 := hzs.ext (Kp.of s8).wo
            refine ⟨_, rfl, r', _, _, _, rfl, rfl, hX.ext s8, atI_nat (j := 2) rfl, Le, zs, rfl, .inl ⟨hL7.ext s8, fun u hu => ⟨_, _, rfl, ?_⟩⟩⟩
            have nu : u ≠ p := fun z => (same_at s8 npx) (by rw [← z]; exact hu)
            have s9 : Same H8 (upd H8 u (.tup zs)) := Same.new (Same.refl _) hu
            have eu : (upd H8 u (.tup zs)) u = some (.tup zs) := upd_same
            generalize upd H8 u (.tup zs) = H9 at s9 eu ⊢
            have lus : us.length = (ChkD D n).st.length := by
              have := hus.len
              rw [List.length_map, List.length_map] at this
              exact this
            have gt : Dg K (wo H9 p) false (.ref t) (ChkD D n).stD := by
              rw [← good.tup]
              exact .tup (SqT.of (by rw [wo_ne nt]; exact s9 _ _ et)) (hus.ext (Kp.of s9).wo)
            have gu : Dg K (wo H9 p) false (.ref u) (ChkD D n).enD := by
              rw [← good.tupE]
              exact .tup (SqT.of (by rw [wo_ne nu]; exact eu)) (hzs8.ext (Kp.of s9).wo)
            have gt' : Dg K H9 false (.ref t) (ChkD D n).stD := gt.ext (wo_same H9 p)
            have gu' : Dg K H9 false (.ref u) (ChkD D n).enD := gu.ext (wo_same H9 p)
            have et9 := s9 _ _ et
            have s79 := s8.trans s9
            have s39 := s37.trans s79
            have eo9 := s79 _ _ eo7
            have shd : Sh (.tuple [.int (D.sg : Nat), .int ((ChkD D n).st.length : Nat), (ChkD D n).stD, (ChkD D n).enD]) :=
              (Fit.tuple (k := 4) (FitAll.cons (Fit.nat (by omega)) (FitAll.cons (Fit.nat (by omega)) (FitAll.cons (fit_stD okC) (FitAll.cons ((fit_dEn okC).mono (by omega) (Nat.le_refl _)) FitAll.nil))))).sh (by omega) (by omega)
            have mk4 : ∀ (G : Hp) (q : Addr) (a b : V), Dg K G false a (ChkD D n).stD → Dg K G false b (ChkD D n).enD → G q = some (.tup [.int (D.sg : Nat), .int ((ChkD D n).st.length : Nat), a, b]) → Dg K G false (.ref q) (.tuple [.int (D.sg : Nat), .int ((ChkD D n).st.length : Nat), (ChkD D n).stD, (ChkD D n).enD]) := fun G q a b ha hb' e =>
              .tup (SqT.of e) (.cons (.int _) (.cons (.int _) (.cons ha (.cons hb' .nil))))
            generalize edd : PyData.tuple [.int (D.sg : Nat), .int ((ChkD D n).st.length : Nat), (ChkD D n).stD, (ChkD D n).enD] = dd4 at shd mk4
            refine ⟨_, rfl, o2, _, dy, _, _, rfl, eo9, T.cl_Decoder, T.na_Decoder_signs, dfs_signs, _, rfl, o2, _, dy, _, _, rfl, eo9, T.cl_Decoder, T.na_Decoder_states, dfs_states, _, rfl, o2, _, dy, _, _, rfl, eo9, T.cl_Decoder, T.na_Decoder_steps, dfs_steps, _, rfl, o2, _, dy, _, _, rfl, eo9, T.cl_Decoder, T.na_Decoder_ends, dfs_ends, four, fun q3 hq3 => ?_⟩
            have sA : Same H9 (upd H9 q3 (.tup [.int ((ChkD D n).sg : Nat), .int ((ChkD D n).st.length : Nat), .ref Sb, .ref Eb])) := Same.new (Same.refl _) hq3
            have gA := mk4 _ q3 _ _ (hs7.ext (s79.trans sA)) (he7.ext (s79.trans sA)) (upd_same (H := H9))
            refine ⟨_, dd4, false, rfl, gA, shd.1, shd.2.1, shd.2.2, ?_⟩
            generalize upd H9 q3 (.tup [.int ((ChkD D n).sg : Nat), .int ((ChkD D n).st.length : Nat), .ref Sb, .ref Eb]) = HA at sA ⊢
            refine ⟨_, rfl, r, _, _, _, rfl, rfl, hS.ext (s39.trans sA), atI_nat (j := 0) rfl, _, rfl, t, us, rfl, .inr (SqT.of (sA _ _ et9)), _, rfl, _, rfl, four, fun q4 hq4 => ?_⟩
            rw [lus]
            have sB : Same HA (upd HA q4 (.tup [.int (D.sg : Nat), .int ((ChkD D n).st.length : Nat), .ref t, .ref u])) := Same.new (Same.refl _) hq4
            have gB := mk4 _ q4 _ _ (gt'.ext (sA.trans sB)) (gu'.ext (sA.trans sB)) (upd_same (H := HA))
            refine ⟨_, dd4, false, rfl, gB, shd.1, shd.2.1, shd.2.2, rfl, _, rfl, neSame ?_⟩
            clear gA gB
            generalize upd HA q4 (.tup [.int (D.sg : Nat), .int ((ChkD D n).st.length : Nat), .ref t, .ref u]) = HB at sB ⊢
            dsimp only [L2.tNext]
            have s7B := (s79.trans sA).trans sB
            have s4B := s47.trans s7B
            have decB := dec7'.ext s7B
            refine ⟨_, rfl, _, rfl, _, rfl, _, rfl, rfl, .ref o, .int (n : Nat), _, rfl, .inr ⟨o, D, rfl, dec4.ext s4B, .inr ⟨n, rfl, sm, fun z => absurd l40 (by omega), fun _ q5 o3 HC sC hq5 eC decC => ⟨q5, _, _, _, rfl, rfl, SqL.of eC, atI_nat (j := 1) rfl, eqO_ T (decB.ext sC) decC ⟨_, rfl, ?_⟩⟩⟩⟩⟩
            rw [decide_eq_true rfl]
            have s7C := s7B.trans sC
            have kC := k07.trans (Kp.of s7C)
            refine iteT ⟨_, rfl, _, rfl, _, rfl, _, rfl, p, o2, r, _, D, n, rfl, b7.same s7C, by omega, decB.ext sC, plain3.kp (Kp.of (s37.trans s7C)), sm, l40, fun HD kD bD => kQ HD (kC.trans kD)⟩
        refine ⟨_, rfl, rfl, _, rfl, ite2 (fun _ => ?_) (fun _ => iteF (fin3 H2 (Kp.refl p _) (b2.mono (by omega))))⟩
        exact ⟨_, rfl, _, rfl, p, r, _, D, rfl, b2, by omega, plain, fun H3 k3 b3 => ⟨true, rfl, iteF (fin3 H3 k3 (b3.mono (by omega)))⟩⟩
      refine ⟨_, rfl, rfl, _, rfl, ite2 (fun _ => ?_) (fun _ => ?_)⟩
      · refine ⟨_, rfl, _, _, rfl, rfl, (by exact ⟨by decide, by decide⟩), _, _, rfl, rfl, ?_⟩
        have := fin2 (3 + (1 + m0) / 3) (by omega) (by omega)
        have e : (3 : Int) + ((1 : Int) + (m0 : Nat)) / 3 = ((3 + (1 + m0) / 3 : Nat) : Int) := by omega
        rw [← e] at this
        exact this
      · have := fin2 (1 + m0) (by omega) (by omega)
        rw [Int.natCast_add] at this
        exact ⟨_, rfl, this⟩
    refine ⟨_, rfl, rfl, _, rfl, ite2 (fun _ => ?_) (fun _ => ?_)⟩
    · exact ⟨_, rfl, p, _, rfl, b1, by omega, fun r D H2 k2 b2 pl => fin1 r D H2 k2 (b2.mono (by omega)) pl⟩
    · exact ⟨_, rfl, p, _, rfl, b1, by omega, fun r D H2 k2 b2 pl => fin1 r D H2 k2 (b2.mono (by omega)) pl⟩
end
end My

set_option Elab.async false
set_option linter.all false
set_option maxRecDepth 100000
set_option maxHeartbeats 8000000
namespace My
open PySem PySem.Spec PyProof.Rows L2
section
variable {P : Program} {w : World} {K : PySem.W.Frag} {mg : Str → Option Value} {base : Heap}
def spLaw (K : PySem.W.Frag) : Sp := fun vs H Q _ => ∃ (a : Addr) (ns : List Int), vs = [.ref a] ∧ SqL K H a (ns.map V.int) ∧ ns.length ≤ 63 ∧ ∀ H', Q (.bl true) H'
theorem ok_law (T : Txt K mg) : FnG P w K mg base CX0 13 T.f_law T.fd_law ["script"] (spLaw K) := by
  refine T.F_law.okG sc_law (fun vs H Q E h => ?_) (fun cdv A outer s H vs Q E hgd hr h => ?_)
  · obtain ⟨a, ns, rfl, _⟩ := h; rfl
  · obtain ⟨a, ns, rfl, hS, hlen, q⟩ := h
    refine ⟨_, (pss_cons (ps_for PassesOwn.never rfl (pi_range1 rfl T.z_range (pa_cons (pe_callB (call_max2 rfl) (by rfl) T.z_max (by decide +kernel) (pa_cons pe_int (pa_cons (pe_callB (call_min2 rfl) (by rfl) T.z_min (by decide +kernel) (pa_cons pe_int (pa_cons (pe_callB call_len_seq (by rfl) T.z_len (by decide +kernel) (pa_cons (pv 0) pa_nil)) pa_nil))) pa_nil))) pa_nil)) (pg_name (i := 1) sc_law.nd rfl (Or.inl rfl)) (pss_one (ps_if (pt_not (pt_val (pe_callG (ok_law_one_right T) hgd (hr.mono (by decide)) rfl T.g_law_one_right T.F_law_one_right.kp T.b_law_one_right .nil pass0 (pa_cons (pe_call (ok_law_box T) (hr.mono (by decide)) rfl T.g_law_box T.F_law_box.kp T.b_law_box .nil pass0 (pa_cons (pe_call (ok_law_cell T) (hr.mono (by decide)) rfl T.g_law_cell T.F_law_cell.kp T.b_law_cell .nil pass0 (pa_cons (pv 0) (pa_cons (pv 1) pa_nil))) pa_nil)) pa_nil)))) (pss_one (ps_ret pe_bl)) pss_nil)))
      (pss_one (ps_ret pe_bl))), ?_⟩
    refine ⟨_, rfl, a, _, rfl, .inl hS, _, _, rfl, _, _, rfl, _, rfl, ?_, ?_, ?_⟩
    · split <;> split <;> omega
    · split <;> split <;> omega
    refine for_range (lo := 0) (fun i σ H' => ∃ x1, σ = [some (.ref a), x1] ∧ Same H H') ⟨_, rfl, Same.refl _⟩ ?_ ?_
    · rintro i σ H' hi ⟨x1, rfl, sH⟩
      rw [Int.zero_add]
      refine ⟨_, rfl, _, rfl, a, ns, i, rfl, hS.ext sH, fun c H1 s1 => ?_⟩
      refine ⟨c, rfl, fun p o hp ho => ?_⟩
      have sH1 := sH.trans s1
      have hpH : H p = none := sH1.free hp
      have s2 : Same H (upd H1 p o) := Same.new sH1 hp
      refine ⟨p, 0, rfl, ho.at, by omega, fun H2 k2 => ⟨true, rfl, iteF ?_⟩⟩
      exact ⟨_, rfl, k2.toSame s2 hpH⟩
    · rintro σ H' ⟨x1, rfl, sH⟩
      exact q H'
end
end My

set_option Elab.async false
set_option linter.all false
set_option maxRecDepth 100000
set_option maxHeartbeats 8000000
namespace My
open PySem PySem.Spec PyProof.Rows L2
theorem exm_of {K : PySem.W.Frag} {S T : Addr} {b : Bool} (h1 : PySem.W.subIn K (.ref T) (.type "BaseException") = some true) (h2 : PySem.W.isClsIn K T = true) (h3 : PySem.W.typeIn K (.ref T) = some (.type "type")) (h4 : PySem.W.subIn K (.ref S) (.ref T) = some b) :
    PySem.W.exmOne K (.ref S) (.ref T) = some b := by
  have e1 : (PySem.W.subIn K (.ref T) (.type "BaseException") == some true) = true := by rw [h1] <;> rfl
  have e2 : ((PySem.W.clsIn K T).isSome && PySem.W.typeIn K (.ref T) == some (.type "type")) = true := by
    have h2' : (PySem.W.clsIn K T).isSome = true := h2
    rw [h2', h3] <;> rfl
  show (if (PySem.W.subIn K (.ref T) (.type "BaseException") == some true) = true then (if ((PySem.W.clsIn K T).isSome && PySem.W.typeIn K (.ref T) == some (.type "type")) = true then PySem.W.subIn K (.ref S) (.ref T) else none) else none) = some b
  rw [if_pos e1, if_pos e2]
  exact h4
theorem all_mk {P : Program} {w : World} {K : PySem.W.Frag} {h : Heap} {mg : Str → Option Value} {fa : Addr} (X : K.In h) (G : h.Ns mainGlobals mg) (hfa : mg "law" = some (.ref fa))
    {C0 I0 B0 : Addr} {nm0 q0 : Str} {N0 : Addr} {bs0 : List Value} {sn0 : List Str} {sub0 : List Value} {ab0 : Bool} {col0 : Option Bool} {dd0 : Option Addr} {m00 m10 m20 m30 m50 : Option Value}
    {ei0 en0 : Option Addr} {es0 : Array (Option Value)} {eo0 ed0 ep0 ec0 et0 : Value} {p10 p20 q10 q20 q30 q40 : Pos}
    {C1 I1 B1 : Addr} {nm1 q1 : Str} {N1 : Addr} {bs1 : List Value} {sn1 : List Str} {sub1 : List Value} {ab1 : Bool} {col1 : Option Bool} {dd1 : Option Addr} {m01 m11 m21 m31 m51 : Option Value}
    {ei1 en1 : Option Addr} {es1 : Array (Option Value)} {eo1 ed1 ep1 ec1 et1 : Value} {p11 p21 q11 q21 q31 q41 : Pos}
    {C2 I2 B2 : Addr} {nm2 q2 : Str} {N2 : Addr} {bs2 : List Value} {sn2 : List Str} {sub2 : List Value} {ab2 : Bool} {col2 : Option Bool} {dd2 : Option Addr} {m02 m12 m22 m32 m52 : Option Value}
    {ei2 en2 : Option Addr} {es2 : Array (Option Value)} {eo2 ed2 ep2 ec2 et2 : Value} {p12 p22 q12 q22 q32 q42 : Pos}
    {C3 I3 B3 : Addr} {nm3 q3 : Str} {N3 : Addr} {bs3 : List Value} {sn3 : List Str} {sub3 : List Value} {ab3 : Bool} {col3 : Option Bool} {dd3 : Option Addr} {m03 m13 m23 m33 m53 : Option Value}
    {ei3 en3 : Option Addr} {es3 : Array (Option Value)} {eo3 ed3 ep3 ec3 et3 : Value} {p13 p23 q13 q23 q33 q43 : Pos}
    {C4 I4 B4 : Addr} {nm4 q4 : Str} {N4 : Addr} {bs4 : List Value} {sn4 : List Str} {sub4 : List Value} {ab4 : Bool} {col4 : Option Bool} {dd4 : Option Addr} {m04 m14 m24 m34 m54 : Option Value}
    {ei4 en4 : Option Addr} {es4 : Array (Option Value)} {eo4 ed4 ep4 ec4 et4 : Value} {p14 p24 q14 q24 q34 q44 : Pos}
    {C5 I5 B5 : Addr} {nm5 q5 : Str} {N5 : Addr} {bs5 : List Value} {sn5 : List Str} {sub5 : List Value} {ab5 : Bool} {col5 : Option Bool} {dd5 : Option Addr} {m05 m15 m25 m35 m55 : Option Value}
    {ei5 en5 : Option Addr} {es5 : Array (Option Value)} {eo5 ed5 ep5 ec5 et5 : Value} {p15 p25 q15 q25 q35 q45 : Pos}
    {C6 I6 B6 : Addr} {nm6 q6 : Str} {N6 : Addr} {bs6 : List Value} {sn6 : List Str} {sub6 : List Value} {ab6 : Bool} {col6 : Option Bool} {dd6 : Option Addr} {m06 m16 m26 m36 m56 : Option Value}
    {ei6 en6 : Option Addr} {es6 : Array (Option Value)} {eo6 ed6 ep6 ec6 et6 : Value} {p16 p26 q16 q26 q36 q46 : Pos}
    {OC_Decoder : Addr}
    {f0 : Addr} {od0 an0 : Option Addr} {sl0 : Array (Option Value)} {oc0 kV0 dc0 pm0 cd0 ct0 : Value}
    {f1 : Addr} {od1 an1 : Option Addr} {sl1 : Array (Option Value)} {oc1 kV1 dc1 pm1 cd1 ct1 : Value}
    {f2 : Addr} {od2 an2 : Option Addr} {sl2 : Array (Option Value)} {oc2 kV2 dc2 pm2 cd2 ct2 : Value}
    {f3 : Addr} {od3 an3 : Option Addr} {sl3 : Array (Option Value)} {oc3 kV3 dc3 pm3 cd3 ct3 : Value}
    {f4 : Addr} {od4 an4 : Option Addr} {sl4 : Array (Option Value)} {oc4 kV4 dc4 pm4 cd4 ct4 : Value}
    {f5 : Addr} {od5 an5 : Option Addr} {sl5 : Array (Option Value)} {oc5 kV5 dc5 pm5 cd5 ct5 : Value}
    {f6 : Addr} {od6 an6 : Option Addr} {sl6 : Array (Option Value)} {oc6 kV6 dc6 pm6 cd6 ct6 : Value}
    {f7 : Addr} {od7 an7 : Option Addr} {sl7 : Array (Option Value)} {oc7 kV7 dc7 pm7 cd7 ct7 : Value}
    {f8 : Addr} {od8 an8 : Option Addr} {sl8 : Array (Option Value)} {oc8 kV8 dc8 pm8 cd8 ct8 : Value}
    {f9 : Addr} {od9 an9 : Option Addr} {sl9 : Array (Option Value)} {oc9 kV9 dc9 pm9 cd9 ct9 : Value}
    {f10 : Addr} {od10 an10 : Option Addr} {sl10 : Array (Option Value)} {oc10 kV10 dc10 pm10 cd10 ct10 : Value}
    {f11 : Addr} {od11 an11 : Option Addr} {sl11 : Array (Option Value)} {oc11 kV11 dc11 pm11 cd11 ct11 : Value}
    {f12 : Addr} {od12 an12 : Option Addr} {sl12 : Array (Option Value)} {oc12 kV12 dc12 pm12 cd12 ct12 : Value}
    {f13 : Addr} {od13 an13 : Option Addr} {sl13 : Array (Option Value)} {oc13 kV13 dc13 pm13 cd13 ct13 : Value}
    {f14 : Addr} {od14 an14 : Option Addr} {sl14 : Array (Option Value)} {oc14 kV14 dc14 pm14 cd14 ct14 : Value}
    {f15 : Addr} {od15 an15 : Option Addr} {sl15 : Array (Option Value)} {oc15 kV15 dc15 pm15 cd15 ct15 : Value}
    {f16 : Addr} {od16 an16 : Option Addr} {sl16 : Array (Option Value)} {oc16 kV16 dc16 pm16 cd16 ct16 : Value}
    {f17 : Addr} {od17 an17 : Option Addr} {sl17 : Array (Option Value)} {oc17 kV17 dc17 pm17 cd17 ct17 : Value}
    {f18 : Addr} {od18 an18 : Option Addr} {sl18 : Array (Option Value)} {oc18 kV18 dc18 pm18 cd18 ct18 : Value}
    {f19 : Addr} {od19 an19 : Option Addr} {sl19 : Array (Option Value)} {oc19 kV19 dc19 pm19 cd19 ct19 : Value}
    {f20 : Addr} {od20 an20 : Option Addr} {sl20 : Array (Option Value)} {oc20 kV20 dc20 pm20 cd20 ct20 : Value}
    {f21 : Addr} {od21 an21 : Option Addr} {sl21 : Array (Option Value)} {oc21 kV21 dc21 pm21 cd21 ct21 : Value}
    {f22 : Addr} {od22 an22 : Option Addr} {sl22 : Array (Option Value)} {oc22 kV22 dc22 pm22 cd22 ct22 : Value}
    {f23 : Addr} {od23 an23 : Option Addr} {sl23 : Array (Option Value)} {oc23 kV23 dc23 pm23 cd23 ct23 : Value}
    {f24 : Addr} {od24 an24 : Option Addr} {sl24 : Array (Option Value)} {oc24 kV24 dc24 pm24 cd24 ct24 : Value}
    {f25 : Addr} {od25 an25 : Option Addr} {sl25 : Array (Option Value)} {oc25 kV25 dc25 pm25 cd25 ct25 : Value}
    {f26 : Addr} {od26 an26 : Option Addr} {sl26 : Array (Option Value)} {oc26 kV26 dc26 pm26 cd26 ct26 : Value}
    {f27 : Addr} {od27 an27 : Option Addr} {sl27 : Array (Option Value)} {oc27 kV27 dc27 pm27 cd27 ct27 : Value}
    {f28 : Addr} {od28 an28 : Option Addr} {sl28 : Array (Option Value)} {oc28 kV28 dc28 pm28 cd28 ct28 : Value}
    {f29 : Addr} {od29 an29 : Option Addr} {sl29 : Array (Option Value)} {oc29 kV29 dc29 pm29 cd29 ct29 : Value}
    {f30 : Addr} {od30 an30 : Option Addr} {sl30 : Array (Option Value)} {oc30 kV30 dc30 pm30 cd30 ct30 : Value}
    {f31 : Addr} {od31 an31 : Option Addr} {sl31 : Array (Option Value)} {oc31 kV31 dc31 pm31 cd31 ct31 : Value}
    {f32 : Addr} {od32 an32 : Option Addr} {sl32 : Array (Option Value)} {oc32 kV32 dc32 pm32 cd32 ct32 : Value}
    {f33 : Addr} {od33 an33 : Option Addr} {sl33 : Array (Option Value)} {oc33 kV33 dc33 pm33 cd33 ct33 : Value}
    {f34 : Addr} {od34 an34 : Option Addr} {sl34 : Array (Option Value)} {oc34 kV34 dc34 pm34 cd34 ct34 : Value}
    {t_MOST_SIGNS : Tok}
    {t_MOST_LETTERS : Tok}
    {t_MOST_STATES : Tok}
    {t_MOST_SIZE : Tok}
    (eC0 : PySem.W.nsIn K mainGlobals "InvalidDecoder" = some (some (.ref C0)))
    (eL0 : K.lookup C0 = some (excClassObj nm0 q0 C0 N0 bs0 [.ref B0, .type "Exception", .type "BaseException", .type "object"] true sn0 sub0 ab0 col0 dd0 m00 m10 m20 m30 m50 "Exception.__new__"))
    (etk0 : PySem.W.takerIn K C0 "given" = some none)
    (esa0 : PySem.W.findIn K (.ref C0) "__setattr__" = some (some (.builtin "object.__setattr__")))
    (ega0 : PySem.W.findIn K (.ref C0) "__getattribute__" = some (some (.builtin "BaseException.__getattribute__")))
    (egg0 : PySem.W.findIn K (.ref C0) "__getattr__" = some none)
    (eno0 : PySem.W.findIn K (.ref C0) "given" = some none)
    (ein0 : PySem.W.findIn K (.ref C0) "__init__" = some (some (.ref I0)))
    (eti0 : PySem.W.typeIn K (.ref I0) = some (.type "function"))
    (ekC0 : PySem.W.keepIn K (.ref C0) = true)
    (eeC0 : PySem.W.subIn K (.ref C0) (.type "BaseException") = some true)
    (etC0 : PySem.W.typeIn K (.ref C0) = some (.type "type"))
    (ehC0 : PySem.W.hasDictIn K C0 = true)
    (eiC0 : PySem.W.isClsIn K C0 = true)
    (esC0 : PySem.W.subIn K (.ref C0) (.ref C0) = some true)
    (efn0 : K.lookup I0 = some ⟨eo0, ei0, .func (PySem.W.fnOf "__init__" "InvalidDecoder.__init__" (ErrX.iA p10 p20) (ErrX.iB q10 q20 q30 q40) ErrX.iS .none .none ed0 ep0 en0 ec0 et0), es0⟩)
    (eco0 : PySem.W.codeIn K ec0 "InvalidDecoder.__init__" = true)
    (eC1 : PySem.W.nsIn K mainGlobals "InvalidEnds" = some (some (.ref C1)))
    (eL1 : K.lookup C1 = some (excClassObj nm1 q1 C1 N1 bs1 [.ref B1, .type "Exception", .type "BaseException", .type "object"] true sn1 sub1 ab1 col1 dd1 m01 m11 m21 m31 m51 "Exception.__new__"))
    (etk1 : PySem.W.takerIn K C1 "given" = some none)
    (esa1 : PySem.W.findIn K (.ref C1) "__setattr__" = some (some (.builtin "object.__setattr__")))
    (ega1 : PySem.W.findIn K (.ref C1) "__getattribute__" = some (some (.builtin "BaseException.__getattribute__")))
    (egg1 : PySem.W.findIn K (.ref C1) "__getattr__" = some none)
    (eno1 : PySem.W.findIn K (.ref C1) "given" = some none)
    (ein1 : PySem.W.findIn K (.ref C1) "__init__" = some (some (.ref I1)))
    (eti1 : PySem.W.typeIn K (.ref I1) = some (.type "function"))
    (ekC1 : PySem.W.keepIn K (.ref C1) = true)
    (eeC1 : PySem.W.subIn K (.ref C1) (.type "BaseException") = some true)
    (etC1 : PySem.W.typeIn K (.ref C1) = some (.type "type"))
    (ehC1 : PySem.W.hasDictIn K C1 = true)
    (eiC1 : PySem.W.isClsIn K C1 = true)
    (esC1 : PySem.W.subIn K (.ref C1) (.ref C1) = some true)
    (efn1 : K.lookup I1 = some ⟨eo1, ei1, .func (PySem.W.fnOf "__init__" "InvalidEnds.__init__" (ErrX.iA p11 p21) (ErrX.iB q11 q21 q31 q41) ErrX.iS .none .none ed1 ep1 en1 ec1 et1), es1⟩)
    (eco1 : PySem.W.codeIn K ec1 "InvalidEnds.__init__" = true)
    (eC2 : PySem.W.nsIn K mainGlobals "InvalidLine" = some (some (.ref C2)))
    (eL2 : K.lookup C2 = some (excClassObj nm2 q2 C2 N2 bs2 [.ref B2, .type "Exception", .type "BaseException", .type "object"] true sn2 sub2 ab2 col2 dd2 m02 m12 m22 m32 m52 "Exception.__new__"))
    (etk2 : PySem.W.takerIn K C2 "given" = some none)
    (esa2 : PySem.W.findIn K (.ref C2) "__setattr__" = some (some (.builtin "object.__setattr__")))
    (ega2 : PySem.W.findIn K (.ref C2) "__getattribute__" = some (some (.builtin "BaseException.__getattribute__")))
    (egg2 : PySem.W.findIn K (.ref C2) "__getattr__" = some none)
    (eno2 : PySem.W.findIn K (.ref C2) "given" = some none)
    (ein2 : PySem.W.findIn K (.ref C2) "__init__" = some (some (.ref I2)))
    (eti2 : PySem.W.typeIn K (.ref I2) = some (.type "function"))
    (ekC2 : PySem.W.keepIn K (.ref C2) = true)
    (eeC2 : PySem.W.subIn K (.ref C2) (.type "BaseException") = some true)
    (etC2 : PySem.W.typeIn K (.ref C2) = some (.type "type"))
    (ehC2 : PySem.W.hasDictIn K C2 = true)
    (eiC2 : PySem.W.isClsIn K C2 = true)
    (esC2 : PySem.W.subIn K (.ref C2) (.ref C2) = some true)
    (efn2 : K.lookup I2 = some ⟨eo2, ei2, .func (PySem.W.fnOf "__init__" "InvalidLine.__init__" (ErrX.iA p12 p22) (ErrX.iB q12 q22 q32 q42) ErrX.iS .none .none ed2 ep2 en2 ec2 et2), es2⟩)
    (eco2 : PySem.W.codeIn K ec2 "InvalidLine.__init__" = true)
    (eC3 : PySem.W.nsIn K mainGlobals "InvalidPeriod" = some (some (.ref C3)))
    (eL3 : K.lookup C3 = some (excClassObj nm3 q3 C3 N3 bs3 [.ref B3, .type "Exception", .type "BaseException", .type "object"] true sn3 sub3 ab3 col3 dd3 m03 m13 m23 m33 m53 "Exception.__new__"))
    (etk3 : PySem.W.takerIn K C3 "given" = some none)
    (esa3 : PySem.W.findIn K (.ref C3) "__setattr__" = some (some (.builtin "object.__setattr__")))
    (ega3 : PySem.W.findIn K (.ref C3) "__getattribute__" = some (some (.builtin "BaseException.__getattribute__")))
    (egg3 : PySem.W.findIn K (.ref C3) "__getattr__" = some none)
    (eno3 : PySem.W.findIn K (.ref C3) "given" = some none)
    (ein3 : PySem.W.findIn K (.ref C3) "__init__" = some (some (.ref I3)))
    (eti3 : PySem.W.typeIn K (.ref I3) = some (.type "function"))
    (ekC3 : PySem.W.keepIn K (.ref C3) = true)
    (eeC3 : PySem.W.subIn K (.ref C3) (.type "BaseException") = some true)
    (etC3 : PySem.W.typeIn K (.ref C3) = some (.type "type"))
    (ehC3 : PySem.W.hasDictIn K C3 = true)
    (eiC3 : PySem.W.isClsIn K C3 = true)
    (esC3 : PySem.W.subIn K (.ref C3) (.ref C3) = some true)
    (efn3 : K.lookup I3 = some ⟨eo3, ei3, .func (PySem.W.fnOf "__init__" "InvalidPeriod.__init__" (ErrX.iA p13 p23) (ErrX.iB q13 q23 q33 q43) ErrX.iS .none .none ed3 ep3 en3 ec3 et3), es3⟩)
    (eco3 : PySem.W.codeIn K ec3 "InvalidPeriod.__init__" = true)
    (eC4 : PySem.W.nsIn K mainGlobals "InvalidSigns" = some (some (.ref C4)))
    (eL4 : K.lookup C4 = some (excClassObj nm4 q4 C4 N4 bs4 [.ref B4, .type "Exception", .type "BaseException", .type "object"] true sn4 sub4 ab4 col4 dd4 m04 m14 m24 m34 m54 "Exception.__new__"))
    (etk4 : PySem.W.takerIn K C4 "given" = some none)
    (esa4 : PySem.W.findIn K (.ref C4) "__setattr__" = some (some (.builtin "object.__setattr__")))
    (ega4 : PySem.W.findIn K (.ref C4) "__getattribute__" = some (some (.builtin "BaseException.__getattribute__")))
    (egg4 : PySem.W.findIn K (.ref C4) "__getattr__" = some none)
    (eno4 : PySem.W.findIn K (.ref C4) "given" = some none)
    (ein4 : PySem.W.findIn K (.ref C4) "__init__" = some (some (.ref I4)))
    (eti4 : PySem.W.typeIn K (.ref I4) = some (.type "function"))
    (ekC4 : PySem.W.keepIn K (.ref C4) = true)
    (eeC4 : PySem.W.subIn K (.ref C4) (.type "BaseException") = some true)
    (etC4 : PySem.W.typeIn K (.ref C4) = some (.type "type"))
    (ehC4 : PySem.W.hasDictIn K C4 = true)
    (eiC4 : PySem.W.isClsIn K C4 = true)
    (esC4 : PySem.W.subIn K (.ref C4) (.ref C4) = some true)
    (efn4 : K.lookup I4 = some ⟨eo4, ei4, .func (PySem.W.fnOf "__init__" "InvalidSigns.__init__" (ErrX.iA p14 p24) (ErrX.iB q14 q24 q34 q44) ErrX.iS .none .none ed4 ep4 en4 ec4 et4), es4⟩)
    (eco4 : PySem.W.codeIn K ec4 "InvalidSigns.__init__" = true)
    (eC5 : PySem.W.nsIn K mainGlobals "InvalidSteps" = some (some (.ref C5)))
    (eL5 : K.lookup C5 = some (excClassObj nm5 q5 C5 N5 bs5 [.ref B5, .type "Exception", .type "BaseException", .type "object"] true sn5 sub5 ab5 col5 dd5 m05 m15 m25 m35 m55 "Exception.__new__"))
    (etk5 : PySem.W.takerIn K C5 "given" = some none)
    (esa5 : PySem.W.findIn K (.ref C5) "__setattr__" = some (some (.builtin "object.__setattr__")))
    (ega5 : PySem.W.findIn K (.ref C5) "__getattribute__" = some (some (.builtin "BaseException.__getattribute__")))
    (egg5 : PySem.W.findIn K (.ref C5) "__getattr__" = some none)
    (eno5 : PySem.W.findIn K (.ref C5) "given" = some none)
    (ein5 : PySem.W.findIn K (.ref C5) "__init__" = some (some (.ref I5)))
    (eti5 : PySem.W.typeIn K (.ref I5) = some (.type "function"))
    (ekC5 : PySem.W.keepIn K (.ref C5) = true)
    (eeC5 : PySem.W.subIn K (.ref C5) (.type "BaseException") = some true)
    (etC5 : PySem.W.typeIn K (.ref C5) = some (.type "type"))
    (ehC5 : PySem.W.hasDictIn K C5 = true)
    (eiC5 : PySem.W.isClsIn K C5 = true)
    (esC5 : PySem.W.subIn K (.ref C5) (.ref C5) = some true)
    (efn5 : K.lookup I5 = some ⟨eo5, ei5, .func (PySem.W.fnOf "__init__" "InvalidSteps.__init__" (ErrX.iA p15 p25) (ErrX.iB q15 q25 q35 q45) ErrX.iS .none .none ed5 ep5 en5 ec5 et5), es5⟩)
    (eco5 : PySem.W.codeIn K ec5 "InvalidSteps.__init__" = true)
    (eC6 : PySem.W.nsIn K mainGlobals "TooMany" = some (some (.ref C6)))
    (eL6 : K.lookup C6 = some (excClassObj nm6 q6 C6 N6 bs6 [.ref B6, .type "Exception", .type "BaseException", .type "object"] true sn6 sub6 ab6 col6 dd6 m06 m16 m26 m36 m56 "Exception.__new__"))
    (etk6 : PySem.W.takerIn K C6 "count" = some none)
    (esa6 : PySem.W.findIn K (.ref C6) "__setattr__" = some (some (.builtin "object.__setattr__")))
    (ega6 : PySem.W.findIn K (.ref C6) "__getattribute__" = some (some (.builtin "BaseException.__getattribute__")))
    (egg6 : PySem.W.findIn K (.ref C6) "__getattr__" = some none)
    (eno6 : PySem.W.findIn K (.ref C6) "count" = some none)
    (ein6 : PySem.W.findIn K (.ref C6) "__init__" = some (some (.ref I6)))
    (eti6 : PySem.W.typeIn K (.ref I6) = some (.type "function"))
    (ekC6 : PySem.W.keepIn K (.ref C6) = true)
    (eeC6 : PySem.W.subIn K (.ref C6) (.type "BaseException") = some true)
    (etC6 : PySem.W.typeIn K (.ref C6) = some (.type "type"))
    (ehC6 : PySem.W.hasDictIn K C6 = true)
    (eiC6 : PySem.W.isClsIn K C6 = true)
    (esC6 : PySem.W.subIn K (.ref C6) (.ref C6) = some true)
    (efn6 : K.lookup I6 = some ⟨eo6, ei6, .func (PySem.W.fnOf "__init__" "TooMany.__init__" (ErrC.iA p16 p26) (ErrC.iB q16 q26 q36 q46) ErrC.iS .none .none ed6 ep6 en6 ec6 et6), es6⟩)
    (eco6 : PySem.W.codeIn K ec6 "TooMany.__init__" = true)
    (en_0_1 : PySem.W.subIn K (.ref C0) (.ref C1) = some false)
    (en_0_2 : PySem.W.subIn K (.ref C0) (.ref C2) = some false)
    (en_0_3 : PySem.W.subIn K (.ref C0) (.ref C3) = some false)
    (en_0_4 : PySem.W.subIn K (.ref C0) (.ref C4) = some false)
    (en_0_5 : PySem.W.subIn K (.ref C0) (.ref C5) = some false)
    (en_0_6 : PySem.W.subIn K (.ref C0) (.ref C6) = some false)
    (en_1_0 : PySem.W.subIn K (.ref C1) (.ref C0) = some false)
    (en_1_2 : PySem.W.subIn K (.ref C1) (.ref C2) = some false)
    (en_1_3 : PySem.W.subIn K (.ref C1) (.ref C3) = some false)
    (en_1_4 : PySem.W.subIn K (.ref C1) (.ref C4) = some false)
    (en_1_5 : PySem.W.subIn K (.ref C1) (.ref C5) = some false)
    (en_1_6 : PySem.W.subIn K (.ref C1) (.ref C6) = some false)
    (en_2_0 : PySem.W.subIn K (.ref C2) (.ref C0) = some false)
    (en_2_1 : PySem.W.subIn K (.ref C2) (.ref C1) = some false)
    (en_2_3 : PySem.W.subIn K (.ref C2) (.ref C3) = some false)
    (en_2_4 : PySem.W.subIn K (.ref C2) (.ref C4) = some false)
    (en_2_5 : PySem.W.subIn K (.ref C2) (.ref C5) = some false)
    (en_2_6 : PySem.W.subIn K (.ref C2) (.ref C6) = some false)
    (en_3_0 : PySem.W.subIn K (.ref C3) (.ref C0) = some false)
    (en_3_1 : PySem.W.subIn K (.ref C3) (.ref C1) = some false)
    (en_3_2 : PySem.W.subIn K (.ref C3) (.ref C2) = some false)
    (en_3_4 : PySem.W.subIn K (.ref C3) (.ref C4) = some false)
    (en_3_5 : PySem.W.subIn K (.ref C3) (.ref C5) = some false)
    (en_3_6 : PySem.W.subIn K (.ref C3) (.ref C6) = some false)
    (en_4_0 : PySem.W.subIn K (.ref C4) (.ref C0) = some false)
    (en_4_1 : PySem.W.subIn K (.ref C4) (.ref C1) = some false)
    (en_4_2 : PySem.W.subIn K (.ref C4) (.ref C2) = some false)
    (en_4_3 : PySem.W.subIn K (.ref C4) (.ref C3) = some false)
    (en_4_5 : PySem.W.subIn K (.ref C4) (.ref C5) = some false)
    (en_4_6 : PySem.W.subIn K (.ref C4) (.ref C6) = some false)
    (en_5_0 : PySem.W.subIn K (.ref C5) (.ref C0) = some false)
    (en_5_1 : PySem.W.subIn K (.ref C5) (.ref C1) = some false)
    (en_5_2 : PySem.W.subIn K (.ref C5) (.ref C2) = some false)
    (en_5_3 : PySem.W.subIn K (.ref C5) (.ref C3) = some false)
    (en_5_4 : PySem.W.subIn K (.ref C5) (.ref C4) = some false)
    (en_5_6 : PySem.W.subIn K (.ref C5) (.ref C6) = some false)
    (en_6_0 : PySem.W.subIn K (.ref C6) (.ref C0) = some false)
    (en_6_1 : PySem.W.subIn K (.ref C6) (.ref C1) = some false)
    (en_6_2 : PySem.W.subIn K (.ref C6) (.ref C2) = some false)
    (en_6_3 : PySem.W.subIn K (.ref C6) (.ref C3) = some false)
    (en_6_4 : PySem.W.subIn K (.ref C6) (.ref C4) = some false)
    (en_6_5 : PySem.W.subIn K (.ref C6) (.ref C5) = some false)
    (on_Decoder : PySem.W.nsIn K mainGlobals "Decoder" = some (some (.ref OC_Decoder)))
    (opg_Decoder : PySem.W.plainGet K OC_Decoder Str.empty = true)
    (ohd_Decoder : PySem.W.hasDictIn K OC_Decoder = true)
    (opo_Decoder : PySem.W.plainOver K OC_Decoder = true)
    (osa_Decoder : PySem.W.findIn K (.ref OC_Decoder) "__setattr__" = some (some (.builtin "object.__setattr__")))
    (omk_Decoder : PySem.W.makesIn K OC_Decoder = true)
    (okp_Decoder : PySem.W.keepIn K (.ref OC_Decoder) = true)
    (one_Decoder : PySem.W.findIn K (.ref OC_Decoder) "__ne__" = some (some (.builtin "object.__ne__")))
    (omo_Decoder : PySem.W.mroIn K OC_Decoder (.type "object") = some true)
    (oha_Decoder : PySem.W.findIn K (.ref OC_Decoder) "__class__" = some (some (.builtin "object.__class__")))
    (ohn_Decoder : PySem.W.specialIn K (.builtin "object.__class__") "__get__" = some (some (.builtin "getset_descriptor.__get__")))
    (otk_Decoder : PySem.W.takesIn K (.builtin "object.__class__") = some true)
    (oii_Decoder : PySem.W.isClsIn K OC_Decoder = true)
    (oit_Decoder : PySem.W.typeIn K (.ref OC_Decoder) = some (.type "type"))
    (ois_Decoder : PySem.W.subIn K (.ref OC_Decoder) (.ref OC_Decoder) = some true)
    (ona_Decoder_signs : PySem.W.findIn K (.ref OC_Decoder) "signs" = some none)
    (ona_Decoder_states : PySem.W.findIn K (.ref OC_Decoder) "states" = some none)
    (ona_Decoder_steps : PySem.W.findIn K (.ref OC_Decoder) "steps" = some none)
    (ona_Decoder_ends : PySem.W.findIn K (.ref OC_Decoder) "ends" = some none)
    (a0 : PySem.W.nsIn K mainGlobals "is_integer" = some (some (.ref f0)))
    (l0 : K.lookup f0 = some ⟨oc0, od0, .func (PySem.W.fnOf "is_integer" "is_integer" (defArgs s_is_integer) (defBody s_is_integer) (defScope s_is_integer) .none kV0 dc0 pm0 an0 cd0 ct0), sl0⟩)
    (c0 : PySem.W.codeIn K cd0 "is_integer" = true)
    (k0 : PySem.W.keepIn K (.ref f0) = true)
    (a1 : PySem.W.nsIn K mainGlobals "is_count" = some (some (.ref f1)))
    (l1 : K.lookup f1 = some ⟨oc1, od1, .func (PySem.W.fnOf "is_count" "is_count" (defArgs s_is_count) (defBody s_is_count) (defScope s_is_count) .none kV1 dc1 pm1 an1 cd1 ct1), sl1⟩)
    (c1 : PySem.W.codeIn K cd1 "is_count" = true)
    (k1 : PySem.W.keepIn K (.ref f1) = true)
    (a2 : PySem.W.nsIn K mainGlobals "is_list" = some (some (.ref f2)))
    (l2 : K.lookup f2 = some ⟨oc2, od2, .func (PySem.W.fnOf "is_list" "is_list" (defArgs s_is_list) (defBody s_is_list) (defScope s_is_list) .none kV2 dc2 pm2 an2 cd2 ct2), sl2⟩)
    (c2 : PySem.W.codeIn K cd2 "is_list" = true)
    (k2 : PySem.W.keepIn K (.ref f2) = true)
    (a3 : PySem.W.nsIn K mainGlobals "is_text" = some (some (.ref f3)))
    (l3 : K.lookup f3 = some ⟨oc3, od3, .func (PySem.W.fnOf "is_text" "is_text" (defArgs s_is_text) (defBody s_is_text) (defScope s_is_text) .none kV3 dc3 pm3 an3 cd3 ct3), sl3⟩)
    (c3 : PySem.W.codeIn K cd3 "is_text" = true)
    (k3 : PySem.W.keepIn K (.ref f3) = true)
    (a4 : PySem.W.nsIn K mainGlobals "is_word" = some (some (.ref f4)))
    (l4 : K.lookup f4 = some ⟨oc4, od4, .func (PySem.W.fnOf "is_word" "is_word" (defArgs s_is_word) (defBody s_is_word) (defScope s_is_word) .none kV4 dc4 pm4 an4 cd4 ct4), sl4⟩)
    (c4 : PySem.W.codeIn K cd4 "is_word" = true)
    (k4 : PySem.W.keepIn K (.ref f4) = true)
    (a5 : PySem.W.nsIn K mainGlobals "is_number_of_signs" = some (some (.ref f5)))
    (l5 : K.lookup f5 = some ⟨oc5, od5, .func (PySem.W.fnOf "is_number_of_signs" "is_number_of_signs" (defArgs s_is_number_of_signs) (defBody s_is_number_of_signs) (defScope s_is_number_of_signs) .none kV5 dc5 pm5 an5 cd5 ct5), sl5⟩)
    (c5 : PySem.W.codeIn K cd5 "is_number_of_signs" = true)
    (k5 : PySem.W.keepIn K (.ref f5) = true)
    (a6 : PySem.W.nsIn K mainGlobals "is_below" = some (some (.ref f6)))
    (l6 : K.lookup f6 = some ⟨oc6, od6, .func (PySem.W.fnOf "is_below" "is_below" (defArgs s_is_below) (defBody s_is_below) (defScope s_is_below) .none kV6 dc6 pm6 an6 cd6 ct6), sl6⟩)
    (c6 : PySem.W.codeIn K cd6 "is_below" = true)
    (k6 : PySem.W.keepIn K (.ref f6) = true)
    (a7 : PySem.W.nsIn K mainGlobals "is_line" = some (some (.ref f7)))
    (l7 : K.lookup f7 = some ⟨oc7, od7, .func (PySem.W.fnOf "is_line" "is_line" (defArgs s_is_line) (defBody s_is_line) (defScope s_is_line) .none kV7 dc7 pm7 an7 cd7 ct7), sl7⟩)
    (c7 : PySem.W.codeIn K cd7 "is_line" = true)
    (k7 : PySem.W.keepIn K (.ref f7) = true)
    (a8 : PySem.W.nsIn K mainGlobals "are_steps" = some (some (.ref f8)))
    (l8 : K.lookup f8 = some ⟨oc8, od8, .func (PySem.W.fnOf "are_steps" "are_steps" (defArgs s_are_steps) (defBody s_are_steps) (defScope s_are_steps) .none kV8 dc8 pm8 an8 cd8 ct8), sl8⟩)
    (c8 : PySem.W.codeIn K cd8 "are_steps" = true)
    (k8 : PySem.W.keepIn K (.ref f8) = true)
    (a9 : PySem.W.nsIn K mainGlobals "are_entries" = some (some (.ref f9)))
    (l9 : K.lookup f9 = some ⟨oc9, od9, .func (PySem.W.fnOf "are_entries" "are_entries" (defArgs s_are_entries) (defBody s_are_entries) (defScope s_are_entries) .none kV9 dc9 pm9 an9 cd9 ct9), sl9⟩)
    (c9 : PySem.W.codeIn K cd9 "are_entries" = true)
    (k9 : PySem.W.keepIn K (.ref f9) = true)
    (a10 : PySem.W.nsIn K mainGlobals "is_step" = some (some (.ref f10)))
    (l10 : K.lookup f10 = some ⟨oc10, od10, .func (PySem.W.fnOf "is_step" "is_step" (defArgs s_is_step) (defBody s_is_step) (defScope s_is_step) .none kV10 dc10 pm10 an10 cd10 ct10), sl10⟩)
    (c10 : PySem.W.codeIn K cd10 "is_step" = true)
    (k10 : PySem.W.keepIn K (.ref f10) = true)
    (a11 : PySem.W.nsIn K mainGlobals "are_ends" = some (some (.ref f11)))
    (l11 : K.lookup f11 = some ⟨oc11, od11, .func (PySem.W.fnOf "are_ends" "are_ends" (defArgs s_are_ends) (defBody s_are_ends) (defScope s_are_ends) .none kV11 dc11 pm11 an11 cd11 ct11), sl11⟩)
    (c11 : PySem.W.codeIn K cd11 "are_ends" = true)
    (k11 : PySem.W.keepIn K (.ref f11) = true)
    (a12 : PySem.W.nsIn K mainGlobals "check_decoder" = some (some (.ref f12)))
    (l12 : K.lookup f12 = some ⟨oc12, od12, .func (PySem.W.fnOf "check_decoder" "check_decoder" (defArgs s_check_decoder) (defBody s_check_decoder) (defScope s_check_decoder) .none kV12 dc12 pm12 an12 cd12 ct12), sl12⟩)
    (c12 : PySem.W.codeIn K cd12 "check_decoder" = true)
    (k12 : PySem.W.keepIn K (.ref f12) = true)
    (a13 : PySem.W.nsIn K mainGlobals "with_check" = some (some (.ref f13)))
    (l13 : K.lookup f13 = some ⟨oc13, od13, .func (PySem.W.fnOf "with_check" "with_check" (defArgs s_with_check) (defBody s_with_check) (defScope s_with_check) .none kV13 dc13 pm13 an13 cd13 ct13), sl13⟩)
    (c13 : PySem.W.codeIn K cd13 "with_check" = true)
    (k13 : PySem.W.keepIn K (.ref f13) = true)
    (a14 : PySem.W.nsIn K mainGlobals "numbered" = some (some (.ref f14)))
    (l14 : K.lookup f14 = some ⟨oc14, od14, .func (PySem.W.fnOf "numbered" "numbered" (defArgs s_numbered) (defBody s_numbered) (defScope s_numbered) .none kV14 dc14 pm14 an14 cd14 ct14), sl14⟩)
    (c14 : PySem.W.codeIn K cd14 "numbered" = true)
    (k14 : PySem.W.keepIn K (.ref f14) = true)
    (a15 : PySem.W.nsIn K mainGlobals "checked_entry" = some (some (.ref f15)))
    (l15 : K.lookup f15 = some ⟨oc15, od15, .func (PySem.W.fnOf "checked_entry" "checked_entry" (defArgs s_checked_entry) (defBody s_checked_entry) (defScope s_checked_entry) .none kV15 dc15 pm15 an15 cd15 ct15), sl15⟩)
    (c15 : PySem.W.codeIn K cd15 "checked_entry" = true)
    (k15 : PySem.W.keepIn K (.ref f15) = true)
    (a16 : PySem.W.nsIn K mainGlobals "_law_cell" = some (some (.ref f16)))
    (l16 : K.lookup f16 = some ⟨oc16, od16, .func (PySem.W.fnOf "_law_cell" "_law_cell" (defArgs s_law_cell) (defBody s_law_cell) (defScope s_law_cell) .none kV16 dc16 pm16 an16 cd16 ct16), sl16⟩)
    (c16 : PySem.W.codeIn K cd16 "_law_cell" = true)
    (k16 : PySem.W.keepIn K (.ref f16) = true)
    (a17 : PySem.W.nsIn K mainGlobals "_law_box" = some (some (.ref f17)))
    (l17 : K.lookup f17 = some ⟨oc17, od17, .func (PySem.W.fnOf "_law_box" "_law_box" (defArgs s_law_box) (defBody s_law_box) (defScope s_law_box) .none kV17 dc17 pm17 an17 cd17 ct17), sl17⟩)
    (c17 : PySem.W.codeIn K cd17 "_law_box" = true)
    (k17 : PySem.W.keepIn K (.ref f17) = true)
    (a18 : PySem.W.nsIn K mainGlobals "_law_take" = some (some (.ref f18)))
    (l18 : K.lookup f18 = some ⟨oc18, od18, .func (PySem.W.fnOf "_law_take" "_law_take" (defArgs s_law_take) (defBody s_law_take) (defScope s_law_take) .none kV18 dc18 pm18 an18 cd18 ct18), sl18⟩)
    (c18 : PySem.W.codeIn K cd18 "_law_take" = true)
    (k18 : PySem.W.keepIn K (.ref f18) = true)
    (a19 : PySem.W.nsIn K mainGlobals "_law_word" = some (some (.ref f19)))
    (l19 : K.lookup f19 = some ⟨oc19, od19, .func (PySem.W.fnOf "_law_word" "_law_word" (defArgs s_law_word) (defBody s_law_word) (defScope s_law_word) .none kV19 dc19 pm19 an19 cd19 ct19), sl19⟩)
    (c19 : PySem.W.codeIn K cd19 "_law_word" = true)
    (k19 : PySem.W.keepIn K (.ref f19) = true)
    (a20 : PySem.W.nsIn K mainGlobals "_law_free" = some (some (.ref f20)))
    (l20 : K.lookup f20 = some ⟨oc20, od20, .func (PySem.W.fnOf "_law_free" "_law_free" (defArgs s_law_free) (defBody s_law_free) (defScope s_law_free) .none kV20 dc20 pm20 an20 cd20 ct20), sl20⟩)
    (c20 : PySem.W.codeIn K cd20 "_law_free" = true)
    (k20 : PySem.W.keepIn K (.ref f20) = true)
    (a21 : PySem.W.nsIn K mainGlobals "_law_plain" = some (some (.ref f21)))
    (l21 : K.lookup f21 = some ⟨oc21, od21, .func (PySem.W.fnOf "_law_plain" "_law_plain" (defArgs s_law_plain) (defBody s_law_plain) (defScope s_law_plain) .none kV21 dc21 pm21 an21 cd21 ct21), sl21⟩)
    (c21 : PySem.W.codeIn K cd21 "_law_plain" = true)
    (k21 : PySem.W.keepIn K (.ref f21) = true)
    (a22 : PySem.W.nsIn K mainGlobals "_law_ring" = some (some (.ref f22)))
    (l22 : K.lookup f22 = some ⟨oc22, od22, .func (PySem.W.fnOf "_law_ring" "_law_ring" (defArgs s_law_ring) (defBody s_law_ring) (defScope s_law_ring) .none kV22 dc22 pm22 an22 cd22 ct22), sl22⟩)
    (c22 : PySem.W.codeIn K cd22 "_law_ring" = true)
    (k22 : PySem.W.keepIn K (.ref f22) = true)
    (a23 : PySem.W.nsIn K mainGlobals "_law_blocks" = some (some (.ref f23)))
    (l23 : K.lookup f23 = some ⟨oc23, od23, .func (PySem.W.fnOf "_law_blocks" "_law_blocks" (defArgs s_law_blocks) (defBody s_law_blocks) (defScope s_law_blocks) .none kV23 dc23 pm23 an23 cd23 ct23), sl23⟩)
    (c23 : PySem.W.codeIn K cd23 "_law_blocks" = true)
    (k23 : PySem.W.keepIn K (.ref f23) = true)
    (a24 : PySem.W.nsIn K mainGlobals "_law_read" = some (some (.ref f24)))
    (l24 : K.lookup f24 = some ⟨oc24, od24, .func (PySem.W.fnOf "_law_read" "_law_read" (defArgs s_law_read) (defBody s_law_read) (defScope s_law_read) .none kV24 dc24 pm24 an24 cd24 ct24), sl24⟩)
    (c24 : PySem.W.codeIn K cd24 "_law_read" = true)
    (k24 : PySem.W.keepIn K (.ref f24) = true)
    (a25 : PySem.W.nsIn K mainGlobals "_law_line" = some (some (.ref f25)))
    (l25 : K.lookup f25 = some ⟨oc25, od25, .func (PySem.W.fnOf "_law_line" "_law_line" (defArgs s_law_line) (defBody s_law_line) (defScope s_law_line) .none kV25 dc25 pm25 an25 cd25 ct25), sl25⟩)
    (c25 : PySem.W.codeIn K cd25 "_law_line" = true)
    (k25 : PySem.W.keepIn K (.ref f25) = true)
    (a26 : PySem.W.nsIn K mainGlobals "_law_slipped" = some (some (.ref f26)))
    (l26 : K.lookup f26 = some ⟨oc26, od26, .func (PySem.W.fnOf "_law_slipped" "_law_slipped" (defArgs s_law_slipped) (defBody s_law_slipped) (defScope s_law_slipped) .none kV26 dc26 pm26 an26 cd26 ct26), sl26⟩)
    (c26 : PySem.W.codeIn K cd26 "_law_slipped" = true)
    (k26 : PySem.W.keepIn K (.ref f26) = true)
    (a27 : PySem.W.nsIn K mainGlobals "_law_told" = some (some (.ref f27)))
    (l27 : K.lookup f27 = some ⟨oc27, od27, .func (PySem.W.fnOf "_law_told" "_law_told" (defArgs s_law_told) (defBody s_law_told) (defScope s_law_told) .none kV27 dc27 pm27 an27 cd27 ct27), sl27⟩)
    (c27 : PySem.W.codeIn K cd27 "_law_told" = true)
    (k27 : PySem.W.keepIn K (.ref f27) = true)
    (a28 : PySem.W.nsIn K mainGlobals "_law_lines_right" = some (some (.ref f28)))
    (l28 : K.lookup f28 = some ⟨oc28, od28, .func (PySem.W.fnOf "_law_lines_right" "_law_lines_right" (defArgs s_law_lines_right) (defBody s_law_lines_right) (defScope s_law_lines_right) .none kV28 dc28 pm28 an28 cd28 ct28), sl28⟩)
    (c28 : PySem.W.codeIn K cd28 "_law_lines_right" = true)
    (k28 : PySem.W.keepIn K (.ref f28) = true)
    (a29 : PySem.W.nsIn K mainGlobals "_law_refused_right" = some (some (.ref f29)))
    (l29 : K.lookup f29 = some ⟨oc29, od29, .func (PySem.W.fnOf "_law_refused_right" "_law_refused_right" (defArgs s_law_refused_right) (defBody s_law_refused_right) (defScope s_law_refused_right) .none kV29 dc29 pm29 an29 cd29 ct29), sl29⟩)
    (c29 : PySem.W.codeIn K cd29 "_law_refused_right" = true)
    (k29 : PySem.W.keepIn K (.ref f29) = true)
    (a30 : PySem.W.nsIn K mainGlobals "_law_one_right" = some (some (.ref f30)))
    (l30 : K.lookup f30 = some ⟨oc30, od30, .func (PySem.W.fnOf "_law_one_right" "_law_one_right" (defArgs s_law_one_right) (defBody s_law_one_right) (defScope s_law_one_right) .none kV30 dc30 pm30 an30 cd30 ct30), sl30⟩)
    (c30 : PySem.W.codeIn K cd30 "_law_one_right" = true)
    (k30 : PySem.W.keepIn K (.ref f30) = true)
    (a31 : PySem.W.nsIn K mainGlobals "law" = some (some (.ref f31)))
    (l31 : K.lookup f31 = some ⟨oc31, od31, .func (PySem.W.fnOf "law" "law" (defArgs s_law) (defBody s_law) (defScope s_law) .none kV31 dc31 pm31 an31 cd31 ct31), sl31⟩)
    (c31 : PySem.W.codeIn K cd31 "law" = true)
    (k31 : PySem.W.keepIn K (.ref f31) = true)
    (a32 : PySem.W.findIn K (.ref OC_Decoder) "__init__" = some (some (.ref f32)))
    (i32 : PySem.W.isFn K (.ref f32) = true)
    (l32 : K.lookup f32 = some ⟨oc32, od32, .func (PySem.W.fnOf "__init__" "Decoder.__init__" (defArgs s_Decoder_init) (defBody s_Decoder_init) (defScope s_Decoder_init) .none kV32 dc32 pm32 an32 cd32 ct32), sl32⟩)
    (c32 : PySem.W.codeIn K cd32 "Decoder.__init__" = true)
    (k32 : PySem.W.keepIn K (.ref f32) = true)
    (a33 : PySem.W.findIn K (.ref OC_Decoder) "__eq__" = some (some (.ref f33)))
    (i33 : PySem.W.isFn K (.ref f33) = true)
    (l33 : K.lookup f33 = some ⟨oc33, od33, .func (PySem.W.fnOf "__eq__" "Decoder.__eq__" (defArgs s_Decoder_eq) (defBody s_Decoder_eq) (defScope s_Decoder_eq) .none kV33 dc33 pm33 an33 cd33 ct33), sl33⟩)
    (c33 : PySem.W.codeIn K cd33 "Decoder.__eq__" = true)
    (k33 : PySem.W.keepIn K (.ref f33) = true)
    (a34 : PySem.W.findIn K (.ref OC_Decoder) "written" = some (some (.ref f34)))
    (i34 : PySem.W.isFn K (.ref f34) = true)
    (l34 : K.lookup f34 = some ⟨oc34, od34, .func (PySem.W.fnOf "written" "Decoder.written" (defArgs s_Decoder_written) (defBody s_Decoder_written) (defScope s_Decoder_written) .none kV34 dc34 pm34 an34 cd34 ct34), sl34⟩)
    (c34 : PySem.W.codeIn K cd34 "Decoder.written" = true)
    (k34 : PySem.W.keepIn K (.ref f34) = true)
    (z_abs : PySem.W.nsIn K mainGlobals "abs" = some none)
    (z_all : PySem.W.nsIn K mainGlobals "all" = some none)
    (z_bool : PySem.W.nsIn K mainGlobals "bool" = some none)
    (z_int : PySem.W.nsIn K mainGlobals "int" = some none)
    (z_isinstance : PySem.W.nsIn K mainGlobals "isinstance" = some none)
    (z_len : PySem.W.nsIn K mainGlobals "len" = some none)
    (z_list : PySem.W.nsIn K mainGlobals "list" = some none)
    (z_max : PySem.W.nsIn K mainGlobals "max" = some none)
    (z_min : PySem.W.nsIn K mainGlobals "min" = some none)
    (z_range : PySem.W.nsIn K mainGlobals "range" = some none)
    (z_repr : PySem.W.nsIn K mainGlobals "repr" = some none)
    (z_str : PySem.W.nsIn K mainGlobals "str" = some none)
    (z_sum : PySem.W.nsIn K mainGlobals "sum" = some none)
    (z_tuple : PySem.W.nsIn K mainGlobals "tuple" = some none)
    (n_MOST_SIGNS : PySem.W.nsIn K mainGlobals "MOST_SIGNS" = some (some (.int (5) t_MOST_SIGNS)))
    (n_MOST_LETTERS : PySem.W.nsIn K mainGlobals "MOST_LETTERS" = some (some (.int (3) t_MOST_LETTERS)))
    (n_MOST_STATES : PySem.W.nsIn K mainGlobals "MOST_STATES" = some (some (.int (40) t_MOST_STATES)))
    (n_MOST_SIZE : PySem.W.nsIn K mainGlobals "MOST_SIZE" = some (some (.int (4) t_MOST_SIZE))) :
    ∃ fd : FuncData, (∀ (s : Shared) (v : Value), BindsTo s fd ⟨[v], []⟩ [("script", v)]) ∧ ∀ base : Heap, K.In base → base.Ns mainGlobals mg → FnG P w K mg base CX0 13 fa fd ["script"] (spLaw K) := by
  have e := hfa.symm.trans (PySem.W.mg_of X G a31)
  cases e
  have F0 := fun_mk (st := s_is_integer) l0 c0 k0
  have b0 := F0.binds (ps := ["value"]) fun _ _ _ _ _ _ us hl => match us, hl with | [_], _ => rfl
  have F1 := fun_mk (st := s_is_count) l1 c1 k1
  have b1 := F1.binds (ps := ["value"]) fun _ _ _ _ _ _ us hl => match us, hl with | [_], _ => rfl
  have F2 := fun_mk (st := s_is_list) l2 c2 k2
  have b2 := F2.binds (ps := ["value"]) fun _ _ _ _ _ _ us hl => match us, hl with | [_], _ => rfl
  have F3 := fun_mk (st := s_is_text) l3 c3 k3
  have b3 := F3.binds (ps := ["value"]) fun _ _ _ _ _ _ us hl => match us, hl with | [_], _ => rfl
  have F4 := fun_mk (st := s_is_word) l4 c4 k4
  have b4 := F4.binds (ps := ["value"]) fun _ _ _ _ _ _ us hl => match us, hl with | [_], _ => rfl
  have F5 := fun_mk (st := s_is_number_of_signs) l5 c5 k5
  have b5 := F5.binds (ps := ["value"]) fun _ _ _ _ _ _ us hl => match us, hl with | [_], _ => rfl
  have F6 := fun_mk (st := s_is_below) l6 c6 k6
  have b6 := F6.binds (ps := ["value", "limit"]) fun _ _ _ _ _ _ us hl => match us, hl with | [_, _], _ => rfl
  have F7 := fun_mk (st := s_is_line) l7 c7 k7
  have b7 := F7.binds (ps := ["value", "signs"]) fun _ _ _ _ _ _ us hl => match us, hl with | [_, _], _ => rfl
  have F8 := fun_mk (st := s_are_steps) l8 c8 k8
  have b8 := F8.binds (ps := ["value", "signs"]) fun _ _ _ _ _ _ us hl => match us, hl with | [_, _], _ => rfl
  have F9 := fun_mk (st := s_are_entries) l9 c9 k9
  have b9 := F9.binds (ps := ["value", "signs", "states"]) fun _ _ _ _ _ _ us hl => match us, hl with | [_, _, _], _ => rfl
  have F10 := fun_mk (st := s_is_step) l10 c10 k10
  have b10 := F10.binds (ps := ["value", "states"]) fun _ _ _ _ _ _ us hl => match us, hl with | [_, _], _ => rfl
  have F11 := fun_mk (st := s_are_ends) l11 c11 k11
  have b11 := F11.binds (ps := ["value", "states"]) fun _ _ _ _ _ _ us hl => match us, hl with | [_, _], _ => rfl
  have F12 := fun_mk (st := s_check_decoder) l12 c12 k12
  have b12 := F12.binds (ps := ["value"]) fun _ _ _ _ _ _ us hl => match us, hl with | [_], _ => rfl
  have F13 := fun_mk (st := s_with_check) l13 c13 k13
  have b13 := F13.binds (ps := ["decoder", "size"]) fun _ _ _ _ _ _ us hl => match us, hl with | [_, _], _ => rfl
  have F14 := fun_mk (st := s_numbered) l14 c14 k14
  have b14 := F14.binds (ps := ["row", "numbers"]) fun _ _ _ _ _ _ us hl => match us, hl with | [_, _], _ => rfl
  have F15 := fun_mk (st := s_checked_entry) l15 c15 k15
  have b15 := F15.binds (ps := ["decoder", "size", "place", "sign"]) fun _ _ _ _ _ _ us hl => match us, hl with | [_, _, _, _], _ => rfl
  have F16 := fun_mk (st := s_law_cell) l16 c16 k16
  have b16 := F16.binds (ps := ["script", "k"]) fun _ _ _ _ _ _ us hl => match us, hl with | [_, _], _ => rfl
  have F17 := fun_mk (st := s_law_box) l17 c17 k17
  have b17 := F17.binds (ps := ["great"]) fun _ _ _ _ _ _ us hl => match us, hl with | [_], _ => rfl
  have F18 := fun_mk (st := s_law_take) l18 c18 k18
  have b18 := F18.binds (ps := ["box", "many"]) fun _ _ _ _ _ _ us hl => match us, hl with | [_, _], _ => rfl
  have F19 := fun_mk (st := s_law_word) l19 c19 k19
  have b19 := F19.binds (ps := ["box"]) fun _ _ _ _ _ _ us hl => match us, hl with | [_], _ => rfl
  have F20 := fun_mk (st := s_law_free) l20 c20 k20
  have b20 := F20.binds (ps := ["box", "many", "states"]) fun _ _ _ _ _ _ us hl => match us, hl with | [_, _, _], _ => rfl
  have F21 := fun_mk (st := s_law_plain) l21 c21 k21
  have b21 := F21.binds (ps := ["box"]) fun _ _ _ _ _ _ us hl => match us, hl with | [_], _ => rfl
  have F22 := fun_mk (st := s_law_ring) l22 c22 k22
  have b22 := F22.binds (ps := ["box"]) fun _ _ _ _ _ _ us hl => match us, hl with | [_], _ => rfl
  have F23 := fun_mk (st := s_law_blocks) l23 c23 k23
  have b23 := F23.binds (ps := ["plain", "many"]) fun _ _ _ _ _ _ us hl => match us, hl with | [_, _], _ => rfl
  have F24 := fun_mk (st := s_law_read) l24 c24 k24
  have b24 := F24.binds (ps := ["plain", "many", "line"]) fun _ _ _ _ _ _ us hl => match us, hl with | [_, _, _], _ => rfl
  have F25 := fun_mk (st := s_law_line) l25 c25 k25
  have b25 := F25.binds (ps := ["box", "plain", "many"]) fun _ _ _ _ _ _ us hl => match us, hl with | [_, _, _], _ => rfl
  have F26 := fun_mk (st := s_law_slipped) l26 c26 k26
  have b26 := F26.binds (ps := ["box", "line", "most"]) fun _ _ _ _ _ _ us hl => match us, hl with | [_, _, _], _ => rfl
  have F27 := fun_mk (st := s_law_told) l27 c27 k27
  have b27 := F27.binds (ps := ["thing", "many", "named"]) fun _ _ _ _ _ _ us hl => match us, hl with | [_, _, _], _ => rfl
  have F28 := fun_mk (st := s_law_lines_right) l28 c28 k28
  have b28 := F28.binds (ps := ["box", "made", "plain", "many"]) fun _ _ _ _ _ _ us hl => match us, hl with | [_, _, _, _], _ => rfl
  have F29 := fun_mk (st := s_law_refused_right) l29 c29 k29
  have b29 := F29.binds (ps := ["box", "plain"]) fun _ _ _ _ _ _ us hl => match us, hl with | [_, _], _ => rfl
  have F30 := fun_mk (st := s_law_one_right) l30 c30 k30
  have b30 := F30.binds (ps := ["box"]) fun _ _ _ _ _ _ us hl => match us, hl with | [_], _ => rfl
  have F31 := fun_mk (st := s_law) l31 c31 k31
  have b31 := F31.binds (ps := ["script"]) fun _ _ _ _ _ _ us hl => match us, hl with | [_], _ => rfl
  have F32 := fun_mk (st := s_Decoder_init) l32 c32 k32
  have b32 := F32.binds (ps := ["self", "signs", "steps", "ends"]) fun _ _ _ _ _ _ us hl => match us, hl with | [_, _, _, _], _ => rfl
  have F33 := fun_mk (st := s_Decoder_eq) l33 c33 k33
  have b33 := F33.binds (ps := ["self", "other"]) fun _ _ _ _ _ _ us hl => match us, hl with | [_, _], _ => rfl
  have F34 := fun_mk (st := s_Decoder_written) l34 c34 k34
  have b34 := F34.binds (ps := ["self", "line"]) fun _ _ _ _ _ _ us hl => match us, hl with | [_, _], _ => rfl
  have ov0 : PySem.W.excOver K C0 ErrX.tailE = true := by
    unfold PySem.W.excOver PySem.W.clsIn
    rw [eL0]
    show (C0 == C0 && true) = true
    rw [beq_self_eq_true]; rfl
  have E0 : ErrX.ETxt K mg "InvalidDecoder" "InvalidDecoder.__init__" C0 I0 := { gC := PySem.W.mg_of X G eC0, cls := ⟨nm0, q0, N0, bs0, _, sn0, sub0, ab0, col0, dd0, m00, m10, m20, m30, m50, eL0, rfl⟩, ov := ov0, tk := etk0, sa := esa0, ga := ega0, gg := egg0, noN := eno0, iC := ein0, tC := eti0, kC := ekC0, exC := eeC0, tyC := etC0, hdC := ehC0, fn := ⟨_, _, _, _, _, _, _, _, _, _, _, _, _, _, efn0, eco0⟩ }
  have ov1 : PySem.W.excOver K C1 ErrX.tailE = true := by
    unfold PySem.W.excOver PySem.W.clsIn
    rw [eL1]
    show (C1 == C1 && true) = true
    rw [beq_self_eq_true]; rfl
  have E1 : ErrX.ETxt K mg "InvalidEnds" "InvalidEnds.__init__" C1 I1 := { gC := PySem.W.mg_of X G eC1, cls := ⟨nm1, q1, N1, bs1, _, sn1, sub1, ab1, col1, dd1, m01, m11, m21, m31, m51, eL1, rfl⟩, ov := ov1, tk := etk1, sa := esa1, ga := ega1, gg := egg1, noN := eno1, iC := ein1, tC := eti1, kC := ekC1, exC := eeC1, tyC := etC1, hdC := ehC1, fn := ⟨_, _, _, _, _, _, _, _, _, _, _, _, _, _, efn1, eco1⟩ }
  have ov2 : PySem.W.excOver K C2 ErrX.tailE = true := by
    unfold PySem.W.excOver PySem.W.clsIn
    rw [eL2]
    show (C2 == C2 && true) = true
    rw [beq_self_eq_true]; rfl
  have E2 : ErrX.ETxt K mg "InvalidLine" "InvalidLine.__init__" C2 I2 := { gC := PySem.W.mg_of X G eC2, cls := ⟨nm2, q2, N2, bs2, _, sn2, sub2, ab2, col2, dd2, m02, m12, m22, m32, m52, eL2, rfl⟩, ov := ov2, tk := etk2, sa := esa2, ga := ega2, gg := egg2, noN := eno2, iC := ein2, tC := eti2, kC := ekC2, exC := eeC2, tyC := etC2, hdC := ehC2, fn := ⟨_, _, _, _, _, _, _, _, _, _, _, _, _, _, efn2, eco2⟩ }
  have ov3 : PySem.W.excOver K C3 ErrX.tailE = true := by
    unfold PySem.W.excOver PySem.W.clsIn
    rw [eL3]
    show (C3 == C3 && true) = true
    rw [beq_self_eq_true]; rfl
  have E3 : ErrX.ETxt K mg "InvalidPeriod" "InvalidPeriod.__init__" C3 I3 := { gC := PySem.W.mg_of X G eC3, cls := ⟨nm3, q3, N3, bs3, _, sn3, sub3, ab3, col3, dd3, m03, m13, m23, m33, m53, eL3, rfl⟩, ov := ov3, tk := etk3, sa := esa3, ga := ega3, gg := egg3, noN := eno3, iC := ein3, tC := eti3, kC := ekC3, exC := eeC3, tyC := etC3, hdC := ehC3, fn := ⟨_, _, _, _, _, _, _, _, _, _, _, _, _, _, efn3, eco3⟩ }
  have ov4 : PySem.W.excOver K C4 ErrX.tailE = true := by
    unfold PySem.W.excOver PySem.W.clsIn
    rw [eL4]
    show (C4 == C4 && true) = true
    rw [beq_self_eq_true]; rfl
  have E4 : ErrX.ETxt K mg "InvalidSigns" "InvalidSigns.__init__" C4 I4 := { gC := PySem.W.mg_of X G eC4, cls := ⟨nm4, q4, N4, bs4, _, sn4, sub4, ab4, col4, dd4, m04, m14, m24, m34, m54, eL4, rfl⟩, ov := ov4, tk := etk4, sa := esa4, ga := ega4, gg := egg4, noN := eno4, iC := ein4, tC := eti4, kC := ekC4, exC := eeC4, tyC := etC4, hdC := ehC4, fn := ⟨_, _, _, _, _, _, _, _, _, _, _, _, _, _, efn4, eco4⟩ }
  have ov5 : PySem.W.excOver K C5 ErrX.tailE = true := by
    unfold PySem.W.excOver PySem.W.clsIn
    rw [eL5]
    show (C5 == C5 && true) = true
    rw [beq_self_eq_true]; rfl
  have E5 : ErrX.ETxt K mg "InvalidSteps" "InvalidSteps.__init__" C5 I5 := { gC := PySem.W.mg_of X G eC5, cls := ⟨nm5, q5, N5, bs5, _, sn5, sub5, ab5, col5, dd5, m05, m15, m25, m35, m55, eL5, rfl⟩, ov := ov5, tk := etk5, sa := esa5, ga := ega5, gg := egg5, noN := eno5, iC := ein5, tC := eti5, kC := ekC5, exC := eeC5, tyC := etC5, hdC := ehC5, fn := ⟨_, _, _, _, _, _, _, _, _, _, _, _, _, _, efn5, eco5⟩ }
  have ov6 : PySem.W.excOver K C6 ErrX.tailE = true := by
    unfold PySem.W.excOver PySem.W.clsIn
    rw [eL6]
    show (C6 == C6 && true) = true
    rw [beq_self_eq_true]; rfl
  have E6 : ErrC.ETxt K mg "TooMany" "TooMany.__init__" C6 I6 := { gC := PySem.W.mg_of X G eC6, cls := ⟨nm6, q6, N6, bs6, _, sn6, sub6, ab6, col6, dd6, m06, m16, m26, m36, m56, eL6, rfl⟩, ov := ov6, tk := etk6, sa := esa6, ga := ega6, gg := egg6, noN := eno6, iC := ein6, tC := eti6, kC := ekC6, exC := eeC6, tyC := etC6, hdC := ehC6, fn := ⟨_, _, _, _, _, _, _, _, _, _, _, _, _, _, efn6, eco6⟩ }
  exact ⟨PySem.W.fnOf "law" "law" (defArgs s_law) (defBody s_law) (defScope s_law) .none kV31 dc31 pm31 an31 cd31 ct31, fun s v => .of_eq rfl, fun base _ _ => ok_law ({ f_is_integer := f0, fd_is_integer := _, F_is_integer := F0, b_is_integer := b0, g_is_integer := PySem.W.mg_of X G a0, f_is_count := f1, fd_is_count := _, F_is_count := F1, b_is_count := b1, g_is_count := PySem.W.mg_of X G a1, f_is_list := f2, fd_is_list := _, F_is_list := F2, b_is_list := b2, g_is_list := PySem.W.mg_of X G a2, f_is_text := f3, fd_is_text := _, F_is_text := F3, b_is_text := b3, g_is_text := PySem.W.mg_of X G a3, f_is_word := f4, fd_is_word := _, F_is_word := F4, b_is_word := b4, g_is_word := PySem.W.mg_of X G a4, f_is_number_of_signs := f5, fd_is_number_of_signs := _, F_is_number_of_signs := F5, b_is_number_of_signs := b5, g_is_number_of_signs := PySem.W.mg_of X G a5, f_is_below := f6, fd_is_below := _, F_is_below := F6, b_is_below := b6, g_is_below := PySem.W.mg_of X G a6, f_is_line := f7, fd_is_line := _, F_is_line := F7, b_is_line := b7, g_is_line := PySem.W.mg_of X G a7, f_are_steps := f8, fd_are_steps := _, F_are_steps := F8, b_are_steps := b8, g_are_steps := PySem.W.mg_of X G a8, f_are_entries := f9, fd_are_entries := _, F_are_entries := F9, b_are_entries := b9, g_are_entries := PySem.W.mg_of X G a9, f_is_step := f10, fd_is_step := _, F_is_step := F10, b_is_step := b10, g_is_step := PySem.W.mg_of X G a10, f_are_ends := f11, fd_are_ends := _, F_are_ends := F11, b_are_ends := b11, g_are_ends := PySem.W.mg_of X G a11, f_check_decoder := f12, fd_check_decoder := _, F_check_decoder := F12, b_check_decoder := b12, g_check_decoder := PySem.W.mg_of X G a12, f_with_check := f13, fd_with_check := _, F_with_check := F13, b_with_check := b13, g_with_check := PySem.W.mg_of X G a13, f_numbered := f14, fd_numbered := _, F_numbered := F14, b_numbered := b14, g_numbered := PySem.W.mg_of X G a14, f_checked_entry := f15, fd_checked_entry := _, F_checked_entry := F15, b_checked_entry := b15, g_checked_entry := PySem.W.mg_of X G a15, f_law_cell := f16, fd_law_cell := _, F_law_cell := F16, b_law_cell := b16, g_law_cell := PySem.W.mg_of X G a16, f_law_box := f17, fd_law_box := _, F_law_box := F17, b_law_box := b17, g_law_box := PySem.W.mg_of X G a17, f_law_take := f18, fd_law_take := _, F_law_take := F18, b_law_take := b18, g_law_take := PySem.W.mg_of X G a18, f_law_word := f19, fd_law_word := _, F_law_word := F19, b_law_word := b19, g_law_word := PySem.W.mg_of X G a19, f_law_free := f20, fd_law_free := _, F_law_free := F20, b_law_free := b20, g_law_free := PySem.W.mg_of X G a20, f_law_plain := f21, fd_law_plain := _, F_law_plain := F21, b_law_plain := b21, g_law_plain := PySem.W.mg_of X G a21, f_law_ring := f22, fd_law_ring := _, F_law_ring := F22, b_law_ring := b22, g_law_ring := PySem.W.mg_of X G a22, f_law_blocks := f23, fd_law_blocks := _, F_law_blocks := F23, b_law_blocks := b23, g_law_blocks := PySem.W.mg_of X G a23, f_law_read := f24, fd_law_read := _, F_law_read := F24, b_law_read := b24, g_law_read := PySem.W.mg_of X G a24, f_law_line := f25, fd_law_line := _, F_law_line := F25, b_law_line := b25, g_law_line := PySem.W.mg_of X G a25, f_law_slipped := f26, fd_law_slipped := _, F_law_slipped := F26, b_law_slipped := b26, g_law_slipped := PySem.W.mg_of X G a26, f_law_told := f27, fd_law_told := _, F_law_told := F27, b_law_told := b27, g_law_told := PySem.W.mg_of X G a27, f_law_lines_right := f28, fd_law_lines_right := _, F_law_lines_right := F28, b_law_lines_right := b28, g_law_lines_right := PySem.W.mg_of X G a28, f_law_refused_right := f29, fd_law_refused_right := _, F_law_refused_right := F29, b_law_refused_right := b29, g_law_refused_right := PySem.W.mg_of X G a29, f_law_one_right := f30, fd_law_one_right := _, F_law_one_right := F30, b_law_one_right := b30, g_law_one_right := PySem.W.mg_of X G a30, f_law := fa, fd_law := _, F_law := F31, b_law := b31, g_law := PySem.W.mg_of X G a31, f_Decoder_init := f32, fd_Decoder_init := _, F_Decoder_init := F32, b_Decoder_init := b32, f_Decoder_eq := f33, fd_Decoder_eq := _, F_Decoder_eq := F33, b_Decoder_eq := b33, f_Decoder_written := f34, fd_Decoder_written := _, F_Decoder_written := F34, b_Decoder_written := b34, m_Decoder_written := ⟨a34, i34, k34⟩, C_Decoder := OC_Decoder, g_Decoder := PySem.W.mg_of X G on_Decoder, cl_Decoder := ⟨opg_Decoder, ohd_Decoder, opo_Decoder, osa_Decoder⟩, mk_Decoder := ⟨omk_Decoder, a32, i32, okp_Decoder⟩, oe_Decoder := ⟨⟨opg_Decoder, ohd_Decoder, opo_Decoder, osa_Decoder⟩, a33, i33, one_Decoder, omo_Decoder, oha_Decoder, ohn_Decoder, otk_Decoder⟩, ii_Decoder := oii_Decoder, it_Decoder := oit_Decoder, is_Decoder := ois_Decoder, na_Decoder_signs := ona_Decoder_signs, na_Decoder_states := ona_Decoder_states, na_Decoder_steps := ona_Decoder_steps, na_Decoder_ends := ona_Decoder_ends, z_abs := PySem.W.mg_none_of X G z_abs, z_all := PySem.W.mg_none_of X G z_all, z_bool := PySem.W.mg_none_of X G z_bool, z_int := PySem.W.mg_none_of X G z_int, z_isinstance := PySem.W.mg_none_of X G z_isinstance, z_len := PySem.W.mg_none_of X G z_len, z_list := PySem.W.mg_none_of X G z_list, z_max := PySem.W.mg_none_of X G z_max, z_min := PySem.W.mg_none_of X G z_min, z_range := PySem.W.mg_none_of X G z_range, z_repr := PySem.W.mg_none_of X G z_repr, z_str := PySem.W.mg_none_of X G z_str, z_sum := PySem.W.mg_none_of X G z_sum, z_tuple := PySem.W.mg_none_of X G z_tuple, t_MOST_SIGNS := t_MOST_SIGNS, c_MOST_SIGNS := PySem.W.mg_of X G n_MOST_SIGNS, t_MOST_LETTERS := t_MOST_LETTERS, c_MOST_LETTERS := PySem.W.mg_of X G n_MOST_LETTERS, t_MOST_STATES := t_MOST_STATES, c_MOST_STATES := PySem.W.mg_of X G n_MOST_STATES, t_MOST_SIZE := t_MOST_SIZE, c_MOST_SIZE := PySem.W.mg_of X G n_MOST_SIZE, C_InvalidDecoder := C0, i_InvalidDecoder := I0, e_InvalidDecoder := E0, x_InvalidDecoder := exm_of eeC0 eiC0 etC0 esC0, C_InvalidEnds := C1, i_InvalidEnds := I1, e_InvalidEnds := E1, x_InvalidEnds := exm_of eeC1 eiC1 etC1 esC1, C_InvalidLine := C2, i_InvalidLine := I2, e_InvalidLine := E2, x_InvalidLine := exm_of eeC2 eiC2 etC2 esC2, C_InvalidPeriod := C3, i_InvalidPeriod := I3, e_InvalidPeriod := E3, x_InvalidPeriod := exm_of eeC3 eiC3 etC3 esC3, C_InvalidSigns := C4, i_InvalidSigns := I4, e_InvalidSigns := E4, x_InvalidSigns := exm_of eeC4 eiC4 etC4 esC4, C_InvalidSteps := C5, i_InvalidSteps := I5, e_InvalidSteps := E5, x_InvalidSteps := exm_of eeC5 eiC5 etC5 esC5, C_TooMany := C6, i_TooMany := I6, e_TooMany := E6, x_TooMany := exm_of eeC6 eiC6 etC6 esC6, no_InvalidDecoder_InvalidEnds := exm_of eeC1 eiC1 etC1 en_0_1, no_InvalidDecoder_InvalidLine := exm_of eeC2 eiC2 etC2 en_0_2, no_InvalidDecoder_InvalidPeriod := exm_of eeC3 eiC3 etC3 en_0_3, no_InvalidDecoder_InvalidSigns := exm_of eeC4 eiC4 etC4 en_0_4, no_InvalidDecoder_InvalidSteps := exm_of eeC5 eiC5 etC5 en_0_5, no_InvalidDecoder_TooMany := exm_of eeC6 eiC6 etC6 en_0_6, no_InvalidEnds_InvalidDecoder := exm_of eeC0 eiC0 etC0 en_1_0, no_InvalidEnds_InvalidLine := exm_of eeC2 eiC2 etC2 en_1_2, no_InvalidEnds_InvalidPeriod := exm_of eeC3 eiC3 etC3 en_1_3, no_InvalidEnds_InvalidSigns := exm_of eeC4 eiC4 etC4 en_1_4, no_InvalidEnds_InvalidSteps := exm_of eeC5 eiC5 etC5 en_1_5, no_InvalidEnds_TooMany := exm_of eeC6 eiC6 etC6 en_1_6, no_InvalidLine_InvalidDecoder := exm_of eeC0 eiC0 etC0 en_2_0, no_InvalidLine_InvalidEnds := exm_of eeC1 eiC1 etC1 en_2_1, no_InvalidLine_InvalidPeriod := exm_of eeC3 eiC3 etC3 en_2_3, no_InvalidLine_InvalidSigns := exm_of eeC4 eiC4 etC4 en_2_4, no_InvalidLine_InvalidSteps := exm_of eeC5 eiC5 etC5 en_2_5, no_InvalidLine_TooMany := exm_of eeC6 eiC6 etC6 en_2_6, no_InvalidPeriod_InvalidDecoder := exm_of eeC0 eiC0 etC0 en_3_0, no_InvalidPeriod_InvalidEnds := exm_of eeC1 eiC1 etC1 en_3_1, no_InvalidPeriod_InvalidLine := exm_of eeC2 eiC2 etC2 en_3_2, no_InvalidPeriod_InvalidSigns := exm_of eeC4 eiC4 etC4 en_3_4, no_InvalidPeriod_InvalidSteps := exm_of eeC5 eiC5 etC5 en_3_5, no_InvalidPeriod_TooMany := exm_of eeC6 eiC6 etC6 en_3_6, no_InvalidSigns_InvalidDecoder := exm_of eeC0 eiC0 etC0 en_4_0, no_InvalidSigns_InvalidEnds := exm_of eeC1 eiC1 etC1 en_4_1, no_InvalidSigns_InvalidLine := exm_of eeC2 eiC2 etC2 en_4_2, no_InvalidSigns_InvalidPeriod := exm_of eeC3 eiC3 etC3 en_4_3, no_InvalidSigns_InvalidSteps := exm_of eeC5 eiC5 etC5 en_4_5, no_InvalidSigns_TooMany := exm_of eeC6 eiC6 etC6 en_4_6, no_InvalidSteps_InvalidDecoder := exm_of eeC0 eiC0 etC0 en_5_0, no_InvalidSteps_InvalidEnds := exm_of eeC1 eiC1 etC1 en_5_1, no_InvalidSteps_InvalidLine := exm_of eeC2 eiC2 etC2 en_5_2, no_InvalidSteps_InvalidPeriod := exm_of eeC3 eiC3 etC3 en_5_3, no_InvalidSteps_InvalidSigns := exm_of eeC4 eiC4 etC4 en_5_4, no_InvalidSteps_TooMany := exm_of eeC6 eiC6 etC6 en_5_6, no_TooMany_InvalidDecoder := exm_of eeC0 eiC0 etC0 en_6_0, no_TooMany_InvalidEnds := exm_of eeC1 eiC1 etC1 en_6_1, no_TooMany_InvalidLine := exm_of eeC2 eiC2 etC2 en_6_2, no_TooMany_InvalidPeriod := exm_of eeC3 eiC3 etC3 en_6_3, no_TooMany_InvalidSigns := exm_of eeC4 eiC4 etC4 en_6_4, no_TooMany_InvalidSteps := exm_of eeC5 eiC5 etC5 en_6_5 } : Txt K mg)⟩
end My
open PySem PySem.W PyProof.Rows
set_option maxRecDepth 100000 in
set_option maxHeartbeats 0 in
theorem PySem.Challenge.cw_spoiltline_k54_checks_of_blocks_holds : PySem.Challenge.rw_spoiltline_k54_checks_of_blocks.Holds := by
  w_on; o_law; k_head; (case hw => w_witness2)
  k_fill
  refine L2.walk_G (l := PySem.Challenge.rw_spoiltline_k54_checks_of_blocks) (n := 63) (k := 13) (x := "script") (sp := My.spLaw) rfl (by decide) rfl ⟨rfl, by decide, by decide⟩ (fun w h Y => PySem.W.kIn_of Y) ?F (fun _ _ a ns hl _ hS => ⟨a, ns, rfl, hS, hl, fun _ => rfl⟩)
  case F =>
    intro w mg fa h KX G hmg
    refine' My.all_mk KX G hmg ?eC0 ?eL0 ?etk0 ?esa0 ?ega0 ?egg0 ?eno0 ?ein0 ?eti0 ?ekC0 ?eeC0 ?etC0 ?ehC0 ?eiC0 ?esC0 ?efn0 ?eco0 ?eC1 ?eL1 ?etk1 ?esa1 ?ega1 ?egg1 ?eno1 ?ein1 ?eti1 ?ekC1 ?eeC1 ?etC1 ?ehC1 ?eiC1 ?esC1 ?efn1 ?eco1 ?eC2 ?eL2 ?etk2 ?esa2 ?ega2 ?egg2 ?eno2 ?ein2 ?eti2 ?ekC2 ?eeC2 ?etC2 ?ehC2 ?eiC2 ?esC2 ?efn2 ?eco2 ?eC3 ?eL3 ?etk3 ?esa3 ?ega3 ?egg3 ?eno3 ?ein3 ?eti3 ?ekC3 ?eeC3 ?etC3 ?ehC3 ?eiC3 ?esC3 ?efn3 ?eco3 ?eC4 ?eL4 ?etk4 ?esa4 ?ega4 ?egg4 ?eno4 ?ein4 ?eti4 ?ekC4 ?eeC4 ?etC4 ?ehC4 ?eiC4 ?esC4 ?efn4 ?eco4 ?eC5 ?eL5 ?etk5 ?esa5 ?ega5 ?egg5 ?eno5 ?ein5 ?eti5 ?ekC5 ?eeC5 ?etC5 ?ehC5 ?eiC5 ?esC5 ?efn5 ?eco5 ?eC6 ?eL6 ?etk6 ?esa6 ?ega6 ?egg6 ?eno6 ?ein6 ?eti6 ?ekC6 ?eeC6 ?etC6 ?ehC6 ?eiC6 ?esC6 ?efn6 ?eco6 ?en_0_1 ?en_0_2 ?en_0_3 ?en_0_4 ?en_0_5 ?en_0_6 ?en_1_0 ?en_1_2 ?en_1_3 ?en_1_4 ?en_1_5 ?en_1_6 ?en_2_0 ?en_2_1 ?en_2_3 ?en_2_4 ?en_2_5 ?en_2_6 ?en_3_0 ?en_3_1 ?en_3_2 ?en_3_4 ?en_3_5 ?en_3_6 ?en_4_0 ?en_4_1 ?en_4_2 ?en_4_3 ?en_4_5 ?en_4_6 ?en_5_0 ?en_5_1 ?en_5_2 ?en_5_3 ?en_5_4 ?en_5_6 ?en_6_0 ?en_6_1 ?en_6_2 ?en_6_3 ?en_6_4 ?en_6_5 ?on_Decoder ?opg_Decoder ?ohd_Decoder ?opo_Decoder ?osa_Decoder ?omk_Decoder ?okp_Decoder ?one_Decoder ?omo_Decoder ?oha_Decoder ?ohn_Decoder ?otk_Decoder ?oii_Decoder ?oit_Decoder ?ois_Decoder ?ona_Decoder_signs ?ona_Decoder_states ?ona_Decoder_steps ?ona_Decoder_ends ?a0 ?l0 ?c0 ?k0 ?a1 ?l1 ?c1 ?k1 ?a2 ?l2 ?c2 ?k2 ?a3 ?l3 ?c3 ?k3 ?a4 ?l4 ?c4 ?k4 ?a5 ?l5 ?c5 ?k5 ?a6 ?l6 ?c6 ?k6 ?a7 ?l7 ?c7 ?k7 ?a8 ?l8 ?c8 ?k8 ?a9 ?l9 ?c9 ?k9 ?a10 ?l10 ?c10 ?k10 ?a11 ?l11 ?c11 ?k11 ?a12 ?l12 ?c12 ?k12 ?a13 ?l13 ?c13 ?k13 ?a14 ?l14 ?c14 ?k14 ?a15 ?l15 ?c15 ?k15 ?a16 ?l16 ?c16 ?k16 ?a17 ?l17 ?c17 ?k17 ?a18 ?l18 ?c18 ?k18 ?a19 ?l19 ?c19 ?k19 ?a20 ?l20 ?c20 ?k20 ?a21 ?l21 ?c21 ?k21 ?a22 ?l22 ?c22 ?k22 ?a23 ?l23 ?c23 ?k23 ?a24 ?l24 ?c24 ?k24 ?a25 ?l25 ?c25 ?k25 ?a26 ?l26 ?c26 ?k26 ?a27 ?l27 ?c27 ?k27 ?a28 ?l28 ?c28 ?k28 ?a29 ?l29 ?c29 ?k29 ?a30 ?l30 ?c30 ?k30 ?a31 ?l31 ?c31 ?k31 ?a32 ?i32 ?l32 ?c32 ?k32 ?a33 ?i33 ?l33 ?c33 ?k33 ?a34 ?i34 ?l34 ?c34 ?k34 ?z_abs ?z_all ?z_bool ?z_int ?z_isinstance ?z_len ?z_list ?z_max ?z_min ?z_range ?z_repr ?z_str ?z_sum ?z_tuple ?n_MOST_SIGNS ?n_MOST_LETTERS ?n_MOST_STATES ?n_MOST_SIZE
    (case eC0 => k_is)
    (case eL0 => k_is)
    (case etk0 => k_is)
    (case esa0 => k_is)
    (case ega0 => k_is)
    (case egg0 => k_is)
    (case eno0 => k_is)
    (case ein0 => k_is)
    (case eti0 => k_is)
    (case ekC0 => k_is)
    (case eeC0 => k_is)
    (case etC0 => k_is)
    (case ehC0 => k_is)
    (case eiC0 => k_is)
    (case esC0 => k_is)
    (case efn0 => k_is)
    (case eco0 => k_is)
    (case eC1 => k_is)
    (case eL1 => k_is)
    (case etk1 => k_is)
    (case esa1 => k_is)
    (case ega1 => k_is)
    (case egg1 => k_is)
    (case eno1 => k_is)
    (case ein1 => k_is)
    (case eti1 => k_is)
    (case ekC1 => k_is)
    (case eeC1 => k_is)
    (case etC1 => k_is)
    (case ehC1 => k_is)
    (case eiC1 => k_is)
    (case esC1 => k_is)
    (case efn1 => k_is)
    (case eco1 => k_is)
    (case eC2 => k_is)
    (case eL2 => k_is)
    (case etk2 => k_is)
    (case esa2 => k_is)
    (case ega2 => k_is)
    (case egg2 => k_is)
    (case eno2 => k_is)
    (case ein2 => k_is)
    (case eti2 => k_is)
    (case ekC2 => k_is)
    (case eeC2 => k_is)
    (case etC2 => k_is)
    (case ehC2 => k_is)
    (case eiC2 => k_is)
    (case esC2 => k_is)
    (case efn2 => k_is)
    (case eco2 => k_is)
    (case eC3 => k_is)
    (case eL3 => k_is)
    (case etk3 => k_is)
    (case esa3 => k_is)
    (case ega3 => k_is)
    (case egg3 => k_is)
    (case eno3 => k_is)
    (case ein3 => k_is)
    (case eti3 => k_is)
    (case ekC3 => k_is)
    (case eeC3 => k_is)
    (case etC3 => k_is)
    (case ehC3 => k_is)
    (case eiC3 => k_is)
    (case esC3 => k_is)
    (case efn3 => k_is)
    (case eco3 => k_is)
    (case eC4 => k_is)
    (case eL4 => k_is)
    (case etk4 => k_is)
    (case esa4 => k_is)
    (case ega4 => k_is)
    (case egg4 => k_is)
    (case eno4 => k_is)
    (case ein4 => k_is)
    (case eti4 => k_is)
    (case ekC4 => k_is)
    (case eeC4 => k_is)
    (case etC4 => k_is)
    (case ehC4 => k_is)
    (case eiC4 => k_is)
    (case esC4 => k_is)
    (case efn4 => k_is)
    (case eco4 => k_is)
    (case eC5 => k_is)
    (case eL5 => k_is)
    (case etk5 => k_is)
    (case esa5 => k_is)
    (case ega5 => k_is)
    (case egg5 => k_is)
    (case eno5 => k_is)
    (case ein5 => k_is)
    (case eti5 => k_is)
    (case ekC5 => k_is)
    (case eeC5 => k_is)
    (case etC5 => k_is)
    (case ehC5 => k_is)
    (case eiC5 => k_is)
    (case esC5 => k_is)
    (case efn5 => k_is)
    (case eco5 => k_is)
    (case eC6 => k_is)
    (case eL6 => k_is)
    (case etk6 => k_is)
    (case esa6 => k_is)
    (case ega6 => k_is)
    (case egg6 => k_is)
    (case eno6 => k_is)
    (case ein6 => k_is)
    (case eti6 => k_is)
    (case ekC6 => k_is)
    (case eeC6 => k_is)
    (case etC6 => k_is)
    (case ehC6 => k_is)
    (case eiC6 => k_is)
    (case esC6 => k_is)
    (case efn6 => k_is)
    (case eco6 => k_is)
    (case en_0_1 => k_is)
    (case en_0_2 => k_is)
    (case en_0_3 => k_is)
    (case en_0_4 => k_is)
    (case en_0_5 => k_is)
    (case en_0_6 => k_is)
    (case en_1_0 => k_is)
    (case en_1_2 => k_is)
    (case en_1_3 => k_is)
    (case en_1_4 => k_is)
    (case en_1_5 => k_is)
    (case en_1_6 => k_is)
    (case en_2_0 => k_is)
    (case en_2_1 => k_is)
    (case en_2_3 => k_is)
    (case en_2_4 => k_is)
    (case en_2_5 => k_is)
    (case en_2_6 => k_is)
    (case en_3_0 => k_is)
    (case en_3_1 => k_is)
    (case en_3_2 => k_is)
    (case en_3_4 => k_is)
    (case en_3_5 => k_is)
    (case en_3_6 => k_is)
    (case en_4_0 => k_is)
    (case en_4_1 => k_is)
    (case en_4_2 => k_is)
    (case en_4_3 => k_is)
    (case en_4_5 => k_is)
    (case en_4_6 => k_is)
    (case en_5_0 => k_is)
    (case en_5_1 => k_is)
    (case en_5_2 => k_is)
    (case en_5_3 => k_is)
    (case en_5_4 => k_is)
    (case en_5_6 => k_is)
    (case en_6_0 => k_is)
    (case en_6_1 => k_is)
    (case en_6_2 => k_is)
    (case en_6_3 => k_is)
    (case en_6_4 => k_is)
    (case en_6_5 => k_is)
    (case on_Decoder => k_is)
    (case opg_Decoder => k_is)
    (case ohd_Decoder => k_is)
    (case opo_Decoder => k_is)
    (case osa_Decoder => k_is)
    (case omk_Decoder => k_is)
    (case okp_Decoder => k_is)
    (case one_Decoder => k_is)
    (case omo_Decoder => k_is)
    (case oha_Decoder => k_is)
    (case ohn_Decoder => k_is)
    (case otk_Decoder => k_is)
    (case oii_Decoder => k_is)
    (case oit_Decoder => k_is)
    (case ois_Decoder => k_is)
    (case ona_Decoder_signs => k_is)
    (case ona_Decoder_states => k_is)
    (case ona_Decoder_steps => k_is)
    (case ona_Decoder_ends => k_is)
    (case a0 => k_is)
    (case l0 => k_is)
    (case c0 => k_is)
    (case k0 => k_is)
    (case a1 => k_is)
    (case l1 => k_is)
    (case c1 => k_is)
    (case k1 => k_is)
    (case a2 => k_is)
    (case l2 => k_is)
    (case c2 => k_is)
    (case k2 => k_is)
    (case a3 => k_is)
    (case l3 => k_is)
    (case c3 => k_is)
    (case k3 => k_is)
    (case a4 => k_is)
    (case l4 => k_is)
    (case c4 => k_is)
    (case k4 => k_is)
    (case a5 => k_is)
    (case l5 => k_is)
    (case c5 => k_is)
    (case k5 => k_is)
    (case a6 => k_is)
    (case l6 => k_is)
    (case c6 => k_is)
    (case k6 => k_is)
    (case a7 => k_is)
    (case l7 => k_is)
    (case c7 => k_is)
    (case k7 => k_is)
    (case a8 => k_is)
    (case l8 => k_is)
    (case c8 => k_is)
    (case k8 => k_is)
    (case a9 => k_is)
    (case l9 => k_is)
    (case c9 => k_is)
    (case k9 => k_is)
    (case a10 => k_is)
    (case l10 => k_is)
    (case c10 => k_is)
    (case k10 => k_is)
    (case a11 => k_is)
    (case l11 => k_is)
    (case c11 => k_is)
    (case k11 => k_is)
    (case a12 => k_is)
    (case l12 => k_is)
    (case c12 => k_is)
    (case k12 => k_is)
    (case a13 => k_is)
    (case l13 => k_is)
    (case c13 => k_is)
    (case k13 => k_is)
    (case a14 => k_is)
    (case l14 => k_is)
    (case c14 => k_is)
    (case k14 => k_is)
    (case a15 => k_is)
    (case l15 => k_is)
    (case c15 => k_is)
    (case k15 => k_is)
    (case a16 => k_is)
    (case l16 => k_is)
    (case c16 => k_is)
    (case k16 => k_is)
    (case a17 => k_is)
    (case l17 => k_is)
    (case c17 => k_is)
    (case k17 => k_is)
    (case a18 => k_is)
    (case l18 => k_is)
    (case c18 => k_is)
    (case k18 => k_is)
    (case a19 => k_is)
    (case l19 => k_is)
    (case c19 => k_is)
    (case k19 => k_is)
    (case a20 => k_is)
    (case l20 => k_is)
    (case c20 => k_is)
    (case k20 => k_is)
    (case a21 => k_is)
    (case l21 => k_is)
    (case c21 => k_is)
    (case k21 => k_is)
    (case a22 => k_is)
    (case l22 => k_is)
    (case c22 => k_is)
    (case k22 => k_is)
    (case a23 => k_is)
    (case l23 => k_is)
    (case c23 => k_is)
    (case k23 => k_is)
    (case a24 => k_is)
    (case l24 => k_is)
    (case c24 => k_is)
    (case k24 => k_is)
    (case a25 => k_is)
    (case l25 => k_is)
    (case c25 => k_is)
    (case k25 => k_is)
    (case a26 => k_is)
    (case l26 => k_is)
    (case c26 => k_is)
    (case k26 => k_is)
    (case a27 => k_is)
    (case l27 => k_is)
    (case c27 => k_is)
    (case k27 => k_is)
    (case a28 => k_is)
    (case l28 => k_is)
    (case c28 => k_is)
    (case k28 => k_is)
    (case a29 => k_is)
    (case l29 => k_is)
    (case c29 => k_is)
    (case k29 => k_is)
    (case a30 => k_is)
    (case l30 => k_is)
    (case c30 => k_is)
    (case k30 => k_is)
    (case a31 => k_is)
    (case l31 => k_is)
    (case c31 => k_is)
    (case k31 => k_is)
    (case a32 => k_is)
    (case i32 => k_is)
    (case l32 => k_is)
    (case c32 => k_is)
    (case k32 => k_is)
    (case a33 => k_is)
    (case i33 => k_is)
    (case l33 => k_is)
    (case c33 => k_is)
    (case k33 => k_is)
    (case a34 => k_is)
    (case i34 => k_is)
    (case l34 => k_is)
    (case c34 => k_is)
    (case k34 => k_is)
    (case z_abs => k_is)
    (case z_all => k_is)
    (case z_bool => k_is)
    (case z_int => k_is)
    (case z_isinstance => k_is)
    (case z_len => k_is)
    (case z_list => k_is)
    (case z_max => k_is)
    (case z_min => k_is)
    (case z_range => k_is)
    (case z_repr => k_is)
    (case z_str => k_is)
    (case z_sum => k_is)
    (case z_tuple => k_is)
    (case n_MOST_SIGNS => k_is)
    (case n_MOST_LETTERS => k_is)
    (case n_MOST_STATES => k_is)
    (case n_MOST_SIZE => k_is)

