import PyProof.Rows.All
import Wide.All
import OpenK.AllK
import Wide.FinOn
import HandS.ForMost
import HandS.Exc
import HandS.ExcOwn
import HandS.WordsExc
import HandS.TryMany
import HandS.ExcSuper
import HandS.ExcInit
import KE.KExcInit
import HandS.Flt
import HandS.StrMore
import HandS.IsInst
import HandS.Conv
import HandS.Wide
import KE.KxIndex
import HandS.OwnEq
import HandS.ExcIs
import KE.KExcIs
import PyProof.ListStr
import HandS.TryOnly
import HandS.Style
import PyProof.EqKinds
import PyProof.NeKinds
import HandS.More
import HandS.HeadHook3
import HandS.TupAny
import PyProof.CollectIter
import PyProof.WalksMore
import HandS.Base
import HandS.Walk
import HandS.Zip
import HandS.SortKw
import HandS.Star
import HandS.MakeKw
import HandS.MakeKwOnly
import PyProof.InstNe
import KE.KDictDisplayH
import HandS.TupLen
import HandS.Deep
import KE.KDictList
import KE.KStar
import HandS.DictComp
import KE.SortData
import HandS.Sort
import HandS.Evl
import PySem.Challenge.RW_spoiltline_k42_steady_decoders
set_option Elab.async false
set_option linter.all false
set_option maxRecDepth 100000
set_option maxHeartbeats 2000000
/-! An own error class over another own class over Exception, whose __init__ keeps its one argument: raised, caught, its attribute read. -/
namespace ErrX
open PySem PySem.W PySem.Calls PyProof.Rows PySem.HandSPX Builtin Builtin.ObjectAttr
abbrev tailE : List Value := [.type "Exception", .type "BaseException", .type "object"]
/-! ### the text of such an __init__ -/
def iA (p1 p2 : Pos) : Arguments := { posonlyargs := [], args := [{ arg := "self", annotation := none, pos := p1 }, { arg := "given", annotation := none, pos := p2 }], vararg := none, kwonlyargs := [], kw_defaults := [], kwarg := none, defaults := [] }
def iB (q1 q2 q3 q4 : Pos) : List Stmt := [.Assign [.Attribute (.Name "self" q1) "given" q2] (.Name "given" q3) q4]
def iS : Scope := { kind := .function, names := [(PySem.Str.ofString "self", .local), (PySem.Str.ofString "given", .local)], isGenerator := false, isCoroutine := false, more := [] }
/-- what the written part says of the class cn, at C, and of its __init__, at fI -/
structure ETxt (K : Frag) (mg : Str → Option Value) (cn qi : Str) (C fI : Addr) : Prop where
  gC : mg cn = some (.ref C)
  cls : ∃ nm q N bs bm sn sub ab col dd k0 k1 k2 k3 k5, K.lookup C = some (excClassObj nm q C N bs bm true sn sub ab col dd k0 k1 k2 k3 k5 "Exception.__new__") ∧ excTail tailE bm = true
  ov : excOver K C tailE = true
  tk : takerIn K C "given" = some none
  sa : findIn K (.ref C) "__setattr__" = some (some (.builtin "object.__setattr__"))
  ga : findIn K (.ref C) "__getattribute__" = some (some (.builtin "BaseException.__getattribute__"))
  gg : findIn K (.ref C) "__getattr__" = some none
  noN : findIn K (.ref C) "given" = some none
  iC : findIn K (.ref C) "__init__" = some (some (.ref fI))
  tC : typeIn K (.ref fI) = some (.type "function")
  kC : keepIn K (.ref C) = true
  exC : subIn K (.ref C) (.type "BaseException") = some true
  tyC : typeIn K (.ref C) = some (.type "type")
  hdC : hasDictIn K C = true
  fn : ∃ (oc : Value) (od : Option Addr) (doc pm : Value) (an : Option Addr) (cdv ct : Value) (osl : Array (Option Value)) (p1 p2 q1 q2 q3 q4 : Pos),
    K.lookup fI = some ⟨oc, od, .func (fnOf "__init__" qi (iA p1 p2) (iB q1 q2 q3 q4) iS .none .none doc pm an cdv ct), osl⟩ ∧ codeIn K cdv qi = true
theorem one_fits (v : Value) : [v].length ≤ sizeLine := by
  rw [sizeLine_eq]
  exact (by decide : 1 ≤ 16777216)
/-- what __init__ leaves of a fresh error at x -/
structure EndE (h h' : Heap) (x C dx t1 : Addr) (fl : Str) (v : Value) : Prop where
  keep : ∀ b o, b ≠ x → h.get? b = some o → h'.get? b = some o
  obj : h'.get? x = some (excObj C t1 (some dx) .none)
  dbig : h.objs.size ≤ dx
  dne : dx ≠ x
  ns : h'.Ns1 dx (fun y => if y = fl then some v else none)
structure MadeE (h h' : Heap) (e C d : Addr) (fl : Str) (v : Value) : Prop where
  keep : ∀ b o, h.get? b = some o → h'.get? b = some o
  new : h.objs.size ≤ e
  obj : ∃ t, h'.get? e = some (excObj C t (some d) .none)
  dbig : h.objs.size ≤ d
  dne : d ≠ e
  ns : h'.Ns1 d (fun y => if y = fl then some v else none)
section
variable {prog : Program} {w : World} {A : Around} {E : Value → Shared → Prop} {R : Result → Shared → Prop} {s : Shared} {K : Frag} {mg : Str → Option Value} {C fI : Addr} {cn qi : Str}
/-- the first store into a fresh error -/
theorem store_new {name : Str} {tk : Tok} {v : Value} {x t0 : Addr} (X : K.In s.heap) (hx : s.heap.get? x = some (excObj C t0 none .none)) (ho : excOver K C tailE = true) (ht : takerIn K C name = some none) (hh : hasDictIn K C = true)
    (hq : ∀ h' tk' dx, EndE s.heap h' x C dx t0 name v → R (.ok (.ret .none)) { s with heap := h', toks := tk' }) :
    codeAny (model prog w) A (.call (.builtin "object.__setattr__") ⟨[.ref x, .str name tk, v], []⟩) R s := by
  refine osa_openX (od := none) F.store_Exception X ⟨hx, rfl, rfl, trivial⟩ ho ht fun b => ?_
  obtain ⟨cd, hc, hd'⟩ := any_some hh
  have hxs : x ≠ s.heap.objs.size := Nat.ne_of_lt (Heap.lt_size hx)
  have hx1 : (s.heap.push { cls := .type "dict", data := .dict #[] }).get? x = some (excObj C t0 none .none) := Heap.get?_push_of_some _ hx
  refine wpAny_bind (wpAny_pure (wpAny_bind (instanceDict_exc hx (looks_clsIn X hc) hd' ?_)))
  show wpAny _ _ (storeInDict s.heap.objs.size (.str name tk) name v) _ _ _
  obtain ⟨hp, g, dr, t, os⟩ := s
  refine store_in_new ?_ ?_
  · exact ⟨_, #[], _, (Heap.get?_update_ne _ _ _ _ hxs.symm).trans (Heap.get?_push_at rfl rfl), rfl, fun e he => absurd he (by simp), fun _ => rfl⟩
  · intro h' tk' hn' hs
    refine hq h' tk' hp.objs.size ⟨fun b o hb ho => ?_, ?_, Nat.le_refl _, hxs.symm, hn'⟩
    · exact (hs.2 b (Nat.ne_of_lt (Heap.lt_size ho))).trans ((Heap.get?_update_ne _ _ _ _ hb).trans (Heap.get?_push_of_some _ ho))
    · exact (hs.2 x hxs).trans (Heap.get?_update_self _ hx1 rfl)
theorem ldC {M : Model} {s : Shared} {name : Str} {scope : Scope} {L a : Addr} {cd : Value} {m : Str → Option Value} {x : Str} {pos : Pos} {v : Value} {Q : Value → Shared → Prop} {A : Around} {E : Value → Shared → Prop} (hn : s.heap.Ns L m) (hv : m x = some v) (h : Q v s)
    (hk : scope.kind = .function := by rfl) (hl : (envOfC name scope L a cd).kindOf x = some .local := by rfl) (hd : (x == ("__debug__" : Str)) = false := by decide) :
    wpAny M A (eval (.Name x pos) (envOfC name scope L a cd)) Q E s := wpAny_Name (wpAny_loadName_local hk hl hn hv h) hd
theorem init_ok (T : ETxt K mg cn qi C fI) {x t0 : Addr} {v : Value} (X : K.In s.heap) (hlim : s.heap.NoLimit) (hx : s.heap.get? x = some (excObj C t0 none .none)) (hroom : A.depth < recursionLimit)
    (hq : ∀ h' tk dx, EndE s.heap h' x C dx t0 "given" v → R (.ok (.ret .none)) { s with heap := h', toks := tk }) :
    codeAny (model prog w) A (.call (.ref fI) ⟨[.ref x, v], []⟩) R s := by
  obtain ⟨oc, od, doc, pm, an, cdv, ct, osl, p1, p2, q1, q2, q3, q4, ho, hcd⟩ := T.fn
  refine Att.call_fn (binds := [("self", .ref x), ("given", v)]) X hlim ho hcd hroom (BindsTo.of_eq (by first | rfl | with_unfolding_all rfl)) (by first | rfl | decide | with_unfolding_all rfl) (fun s1 IC => ?_) rfl rfl rfl
  obtain ⟨h1, tk1, rfl⟩ := IC.toInCall.same
  have k : ∀ b o, s.heap.get? b = some o → h1.get? b = some o := IC.toInCall.keep
  have hn := IC.toInCall.ns
  have X1 : K.In h1 := X.keeps k
  have hx1 := k _ _ hx
  show wpAny _ _ (execs _ _) _ _ _
  refine wpAny_execs_cons (plainObj_wpAny_Assign_Attribute ?_)
  refine ldC (v := v) hn (by first | rfl | with_unfolding_all rfl | kernel_rfl) (ldC (v := .ref x) hn (by first | rfl | with_unfolding_all rfl | kernel_rfl) ?_)
  refine set_plain X1 (ox := excObj C t0 none .none) (od := none) ⟨hx1, rfl, rfl, trivial⟩ T.sa ?_
  refine store_new X1 hx1 T.ov T.tk T.hdC fun h3 tk3 dx M => ?_
  show wpAny _ _ (execs _ _) _ _ _
  have z : s.heap.objs.size < h1.objs.size := hn.lt
  exact wpAny_execs_nil (hq h3 tk3 dx ⟨fun b o hb e => M.keep b o hb (k b o e), M.obj, Nat.le_of_lt (Nat.lt_of_lt_of_le z M.dbig), M.dne, M.ns⟩)
theorem made_ok (T : ETxt K mg cn qi C fI) {v : Value} (X : K.In s.heap) (hlim : s.heap.NoLimit) (hroom : A.depth + 1 < recursionLimit)
    (hq : ∀ h' tk e d, MadeE s.heap h' e C d "given" v → R (.ok (.ret (.ref e))) { s with heap := h', toks := tk }) :
    codeAny (model prog w) A (.call (.ref C) ⟨[v], []⟩) R s := by
  obtain ⟨nm, q, N, bs, bm, sn, sub, ab, col, dd, k0, k1, k2, k3, k5, hC, hbm⟩ := T.cls
  obtain ⟨hp, g, dr, tk, os⟩ := s
  have k : ∀ b o, hp.get? b = some o → ((hp.push (kdv_tup [v])).push (excO C hp.objs.size)).get? b = some o := fun b o e => Heap.get?_push_of_some _ (Heap.get?_push_of_some _ e)
  have hget : ((hp.push (kdv_tup [v])).push (excO C hp.objs.size)).get? (hp.objs.size + 1) = some (excO C hp.objs.size) := by heap_get
  refine call_own F.excBase_Exception (fun X => excTail_contains X bm hbm) (X _ _ hC) (looks_findIn X T.iC) (fun self => bind_fn X self T.tC) (one_fits v) ?_
  refine init_ok (s := ⟨(hp.push (kdv_tup [v])).push (excO C hp.objs.size), g, dr, tk, os⟩) T (X.keeps k) (hlim.keeps k) hget ?_ fun h' tk' dx M => ?_
  · show A.depth + 1 < recursionLimit
    exact hroom
  · have old : ∀ b o, hp.get? b = some o → h'.get? b = some o := fun b o e => M.keep b o (Nat.ne_of_lt (Nat.lt_succ_of_lt (Heap.lt_size e))) (k b o e)
    have z : hp.objs.size + 1 + 1 ≤ dx := by
      have q := M.dbig
      first
        | exact q
        | (rw [Heap.size_push, Heap.size_push] at q; exact q)
        | (simpa only [Heap.size_push] using q)
    exact ⟨rfl, hq h' tk' (hp.objs.size + 1) dx ⟨old, Nat.le_succ _, ⟨_, M.obj⟩, Nat.le_trans (Nat.le_trans (Nat.le_succ _) (Nat.le_succ _)) z, M.dne, M.ns⟩⟩
end
end ErrX
namespace L2
open PySem PySem.Spec PyProof.Rows
/-- the own dict of an error that keeps v -/
abbrev gvn (v : V) : List (Str × V) := [(("given" : Str), v)]
theorem relO_gvn {v : V} {v' : Value} (r : RelV v v') (f : Str) : RelO (List.lookup f (gvn v)) (if f = "given" then some v' else none) := by
  have e := lookup_put "given" f v []
  show RelO (List.lookup f [(("given" : Str), v)]) _
  rw [e]
  by_cases h : f = "given"
  · rw [if_pos h, if_pos h]; exact r
  · rw [if_neg h, if_neg h]; trivial
section
variable {X : Cx} {C fI : Addr} {cn qi : Str}
/-- C(e) -/
def tMkE (C : Addr) (ta : TA) : St → Hp → XK → Prop := fun σ H Q => ta σ H fun vs H1 => ∃ v, vs = [v] ∧ ∀ d, H1 d = none → Q (.ref C) (some d) (upd H1 d (.xd (gvn v)))
theorem pmk_err {a : Expr} {ta : TA} {p pos : Pos} {k : Nat} (T : ErrX.ETxt X.K X.mg cn qi C fI) (hr : Room k X.A) (ha : PA X [a] ta) (hg : Gl X cn) (hdb : (cn == ("__debug__" : Str)) = false)
    (he : starEach (a :: []) X.env = (false, eval a X.env) :: starEach [] X.env := by rfl) (hpl : (backTo pos (starEach [] X.env)).any (·.1) = false := by rfl) :
    PMk X (.Call (.Name cn p) [a] [] pos) (tMkE C ta) := by
  intro pins s σ H Q I h
  refine wpAny_Call_Name_kw (ld_glob I hg T.gC ?_ hdb)
  refine PySem.W.callWith_K (h₀ := X.base) I.ok.mod.kin T.kC (thn (ha.run pos pins s σ H _ I h) fun us s1 hh => ?_) he hpl
  obtain ⟨vs, H1, I1, r1, v, ev, q1⟩ := hh
  subst ev
  refine ⟨I1.kIn, ?_⟩
  cases r1 with
  | cons rv rn =>
    rename_i v' us'
    cases rn
    show wpAny _ _ (call (.ref C) [v']) _ _ _
    have hlim := I1.nolimit
    obtain ⟨hp, g, dr, tk, os⟩ := s1
    refine wpAny_call (ErrX.made_ok T I1.kIn hlim (by have := hr.dp; omega) fun h' tk' e d M => ?_)
    show MkP X pins σ Q (.ref e) ⟨h', g, dr, tk', os⟩
    obtain ⟨t, hoe⟩ := M.obj
    have hns := M.ns
    obtain ⟨G', g1, g2⟩ := restrict h' fun b => decide (b ≠ e)
    have gk : ∀ b, b ≠ e → G'.get? b = h'.get? b := fun b hb => g1 b (decide_eq_true hb)
    have ge : G'.get? e = none := g2 e (by simp)
    have old : ∀ b o, hp.get? b = some o → G'.get? b = some o := fun b o q => (gk b (Nat.ne_of_lt (Nat.lt_of_lt_of_le (Heap.lt_size q) M.new))).trans (M.keep b o q)
    have ob : ObjOk X.prog X.w (upd H1 d (.xd (gvn v))) G' d (.xd (gvn v)) :=
      ⟨_, hns.at (fun o q => (gk d M.dne).trans q), fun f => relO_gvn rv f⟩
    have J : Inv X pins σ (upd H1 d (.xd (gvn v))) ⟨G', g, dr, tk', os⟩ := I1.laid (t' := tk') old M.dbig ob
    refine ⟨e, _, _, ⟨G', g, dr, tk', os⟩, _, .ref C, some d, rfl, J, fun b o q => ?_, ge, hoe, ⟨rfl, rfl⟩, rfl, rfl, ?_, rfl, I1.bare, raises_own T.exC T.tyC, q1 d (I1.hok.fresh M.dbig)⟩
    · by_cases hb : b = e
      · have q' : G'.get? b = some o := q
        rw [hb, ge] at q'; cases q'
      · exact (gk b hb).symm.trans q
    · rw [upd_ne (Ne.symm M.dne)]
      exact I1.hok.fresh M.new
/-- raise C(e) -/
def tRaiseE (C : Addr) (W : WX) (ta : TA) : TS := fun _ σ H => tMkE C ta σ H fun cls d H' => W cls d σ H'
theorem ps_raiseE {a : Expr} {ta : TA} {W : WX} {p pos pos2 : Pos} {k : Nat} (hc : X.calm = true) (T : ErrX.ETxt X.K X.mg cn qi C fI) (hr : Room k X.A) (tk : Takes X W) (ha : PA X [a] ta) (hg : Gl X cn := by rfl) (hdb : (cn == ("__debug__" : Str)) = false := by decide)
    (he : starEach (a :: []) X.env = (false, eval a X.env) :: starEach [] X.env := by rfl) (hpl : (backTo pos (starEach [] X.env)).any (·.1) = false := by rfl) :
    PS X (.Raise (some (.Call (.Name cn p) [a] [] pos)) none pos2) (tRaiseE C W ta) := ps_raise hc tk (pmk_err T hr ha hg hdb he hpl)
/-- e.given, e the error that the suite holds (at a; its class cls, its dict d) -/
def tGvn (C : Addr) (a : Addr) (cls : Value) (d : Option Addr) (te : TE) : TE := fun σ H Q => te σ H fun x H1 => x = .ref a ∧ cls = .ref C ∧ ∃ (dd : Addr) (v : V), d = some dd ∧ H1 dd = some (.xd (gvn v)) ∧ Q v H1
theorem pe_gvn {a : Addr} {oe : Obj} {cls : Value} {d : Option Addr} {pn : List (Addr × Obj)} {e : Expr} {te : TE} {pos : Pos} (T : ErrX.ETxt X.K X.mg cn qi C fI) (hz : Zc cls d oe) (hf : ∃ vs, oe.data = .fields vs) (he : PE (X.suite a ((a, oe) :: pn)) e te)
    (hb : attributeBase e "given" X.env (eval e X.env) = eval e X.env := by rfl) :
    PE (X.suite a ((a, oe) :: pn)) (.Attribute e "given" pos) (tGvn C a cls d te) := by
  refine ⟨fun pins s σ H Q I h => ?_⟩
  refine attr_of hb (thn (he.run pins s σ H _ I h) fun u s1 hh => ?_)
  obtain ⟨x, H1, I1, rx, ex, ec, dd, v, ed, ea, q⟩ := hh
  subst ex
  obtain rfl : u = Value.ref a := rx
  subst ec
  subst ed
  obtain ⟨ha, _⟩ := I1.pin (a, oe) (List.mem_append_left _ List.mem_cons_self)
  obtain ⟨vs, hd⟩ := hf
  have hx : ObjOk X.prog X.w H1 s1.heap dd (.xd (gvn v)) := I1.hok dd _ ea
  obtain ⟨mA, hns, hr⟩ := hx
  obtain ⟨od, ho, hl⟩ := lookIn_ns hns
  have l : List.lookup ("given" : Str) (gvn v) = some v := by
    show List.lookup ("given" : Str) [(("given" : Str), v)] = some v
    rw [lookup_put, if_pos rfl]
  obtain ⟨u, hu, ru⟩ := RelO.some_of (v := v) (o := mA "given") (by rw [← l]; exact hr "given")
  have J : PySem.W.InstAt s1.heap a oe C (some od) := ⟨ha, hz.1, by unfold PySem.W.notCls; rw [hd] <;> rfl, by rw [hz.2]; exact ho⟩
  exact HandSPX.exc_get I1.kIn J T.ga T.gg T.exC (PySem.W.findObj_own T.hdC T.noN rfl (by rw [hl, hu])) (handed_of ru) ⟨v, H1, I1.tok _, ru, q⟩
end
end L2

set_option Elab.async false
set_option linter.all false
set_option maxRecDepth 100000
set_option maxHeartbeats 2000000
/-! Further rules over the hand layer: texts by their codes, three numbers' max and min, repr of data. -/
namespace L2
open PySem PySem.Spec PyProof.Rows
/-! ### texts by their codes -/
abbrev cs (x : Str) : List Nat := x.cps.toList
def S (l : List Nat) : Str := ⟨l.toArray⟩
theorem S_tl (l : List Nat) : cs (S l) = l := by simp [S, cs]
theorem S_of (z : Str) : S (cs z) = z := by obtain ⟨⟨l⟩⟩ := z; rfl
theorem S_len (l : List Nat) : (S l).length = l.length := by simp [S, Str.length]
theorem S_inj {l m : List Nat} (h : S l = S m) : l = m := by have := congrArg cs h; rwa [S_tl, S_tl] at this
theorem S_app (l m : List Nat) : S l ++ S m = S (l ++ m) := by
  show (⟨l.toArray ++ m.toArray⟩ : Str) = ⟨(l ++ m).toArray⟩
  simp
theorem S_eqV (l m : List Nat) : decide (V.str (S l) = V.str (S m)) = decide (l = m) := by
  by_cases h : l = m
  · subst h; simp
  · rw [decide_eq_false h, decide_eq_false]
    intro e; exact h (S_inj (V.str.inj e))
theorem sIx_some (n d i : Nat) : HT.sIx n d (some ((i : Nat) : Int)) = min i n := HT.sIx_nat n d i
theorem cut_from (l : List Nat) (i : Nat) : cutS (S l) (some (i : Int)) none = S (l.drop i) := by
  show S (((cs (S l)).drop (HT.sIx (S l).length 0 (some (i : Int)))).take (HT.sIx (S l).length (S l).length none - HT.sIx (S l).length 0 (some (i : Int)))) = _
  rw [S_tl, S_len, sIx_some, HT.sIx_none]
  congr 1
  rcases Nat.le_total i l.length with h | h
  · rw [Nat.min_eq_left h, List.take_of_length_le (by rw [List.length_drop]; omega)]
  · rw [Nat.min_eq_right h, Nat.sub_self, List.take_zero, List.drop_of_length_le h]
theorem cut_to (l : List Nat) (i : Nat) : cutS (S l) none (some (i : Int)) = S (l.take i) := by
  show S (((cs (S l)).drop (HT.sIx (S l).length 0 none)).take (HT.sIx (S l).length (S l).length (some (i : Int)) - HT.sIx (S l).length 0 none)) = _
  rw [S_tl, S_len, sIx_some, HT.sIx_none, List.drop_zero, Nat.sub_zero]
  congr 1
  rcases Nat.le_total i l.length with h | h
  · rw [Nat.min_eq_left h]
  · rw [Nat.min_eq_right h, List.take_of_length_le h, List.take_of_length_le (Nat.le_refl _)]
theorem cut_mid (l : List Nat) (i j : Nat) : cutS (S l) (some (i : Int)) (some (j : Int)) = S ((l.drop i).take (j - i)) := by
  show S (((cs (S l)).drop (HT.sIx (S l).length 0 (some (i : Int)))).take (HT.sIx (S l).length (S l).length (some (j : Int)) - HT.sIx (S l).length 0 (some (i : Int)))) = _
  rw [S_tl, S_len, sIx_some, sIx_some]
  congr 1
  rcases Nat.le_total i l.length with h | h
  · rw [Nat.min_eq_left h]
    rcases Nat.le_total j l.length with h2 | h2
    · rw [Nat.min_eq_left h2]
    · rw [Nat.min_eq_right h2, List.take_of_length_le (by rw [List.length_drop]; omega), List.take_of_length_le (by rw [List.length_drop]; omega)]
  · rw [Nat.min_eq_right h, List.drop_of_length_le h, List.drop_of_length_le (Nat.le_refl _)]
    simp
theorem atI_S {l : List Nat} {i : Nat} {c : Nat} (h : l[i]? = some c) : atI (S l).cps.toList (i : Int) = some c := by
  show atI (cs (S l)) (i : Int) = some c
  rw [S_tl]
  exact atI_nat h
/-! ### what a text is -/
def low (c : Nat) : Bool := decide (97 ≤ c) && decide (c ≤ 122)
theorem ascii_facts : ∀ c : Fin 128, Unicode.isAlpha c.val = (low c.val || (decide (65 ≤ c.val) && decide (c.val ≤ 90))) ∧ Unicode.isLower c.val = low c.val ∧ (Unicode.isUpper c.val || Unicode.isTitle c.val) = (decide (65 ≤ c.val) && decide (c.val ≤ 90)) := by
  decide +kernel
theorem istext_eq (z : Str) : (decide (V.str z = V.str (Str.ofString "")) || (Txt.isascii z && Txt.isalpha z && Txt.islower z)) = (cs z).all low := by
  obtain ⟨⟨l⟩⟩ := z
  have e0 : (V.str (⟨⟨l⟩⟩ : Str) = V.str (Str.ofString "")) ↔ l = [] := by
    constructor
    · intro h
      have h2 := congrArg cs (V.str.inj h)
      exact h2
    · intro h; subst h; rfl
  show (decide _ || ((l.toArray.all (· < 128)) && (decide (l.toArray.size > 0) && l.toArray.all Unicode.isAlpha) && (l.toArray.any Unicode.isLower && !l.toArray.any fun c => Unicode.isUpper c || Unicode.isTitle c))) = l.all low
  have ea : ∀ p : Nat → Bool, (l.toArray).all p = l.all p := fun p => by rw [← Array.all_toList]
  have eb : ∀ p : Nat → Bool, (l.toArray).any p = l.any p := fun p => by rw [← Array.any_toList]
  have ec : (⟨l⟩ : Array Nat) = l.toArray := rfl
  simp only [ea, eb]
  simp only [List.size_toArray]
  clear ea eb ec
  cases l with
  | nil => rw [decide_eq_true (e0.mpr rfl)]; rfl
  | cons a r =>
    rw [decide_eq_false (fun h => by cases e0.mp h), Bool.false_or]
    generalize hl : a :: r = l
    have hne : l ≠ [] := by rw [← hl]; simp
    have F : ∀ c ∈ l, c < 128 → Unicode.isAlpha c = (low c || (decide (65 ≤ c) && decide (c ≤ 90))) ∧ Unicode.isLower c = low c ∧ (Unicode.isUpper c || Unicode.isTitle c) = (decide (65 ≤ c) && decide (c ≤ 90)) := fun c _ hc => ascii_facts ⟨c, hc⟩
    rw [Bool.eq_iff_iff]
    simp only [Bool.and_eq_true, List.all_eq_true, List.any_eq_true, Bool.not_eq_true', List.any_eq_false, decide_eq_true_eq]
    constructor
    · rintro ⟨⟨h1, _, h2⟩, _, h3⟩ c hc
      obtain ⟨f1, f2, f3⟩ := F c hc (h1 c hc)
      have q2 := h2 c hc
      have q3 := h3 c hc
      rw [f1] at q2
      rw [f3] at q3
      simp only [Bool.or_eq_true] at q2
      rcases q2 with q2 | q2
      · exact q2
      · exact absurd q2 q3
    · intro h
      have hb : ∀ c ∈ l, c < 128 := fun c hc => by
        have := h c hc
        unfold low at this
        simp only [Bool.and_eq_true, decide_eq_true_eq] at this
        omega
      refine ⟨⟨hb, by rw [← hl]; simp, fun c hc => ?_⟩, ?_, fun c hc => ?_⟩
      · rw [(F c hc (hb c hc)).1, h c hc, Bool.true_or]
      · obtain ⟨c, hc⟩ := List.exists_mem_of_ne_nil l hne
        exact ⟨c, hc, by rw [(F c hc (hb c hc)).2.1]; exact h c hc⟩
      · rw [(F c hc (hb c hc)).2.2]
        have := h c hc
        unfold low at this
        simp only [Bool.and_eq_true, decide_eq_true_eq] at this
        simp; omega
/-! ### calls -/
theorem nuMax3_int (i j k : Int) : nuMax3 (.int i) (.int j) (.int k) = some (.int (max (max i j) k)) := by
  have h2 : ∀ a b : Int, nuMax2 (.int a) (.int b) = some (.int (max a b)) := fun a b => by
    show Option.map (fun c => if c = true then V.int b else V.int a) (some (decide (a < b))) = some (V.int (max a b))
    by_cases h : a < b
    · rw [decide_eq_true h]; simp; omega
    · rw [decide_eq_false h]; simp; omega
  unfold nuMax3
  rw [h2]
  exact h2 _ _
theorem nuMin3_int (i j k : Int) : nuMin3 (.int i) (.int j) (.int k) = some (.int (min (min i j) k)) := by
  have h2 : ∀ a b : Int, nuMin2 (.int a) (.int b) = some (.int (min a b)) := fun a b => by
    show Option.map (fun c => if c = true then V.int b else V.int a) (some (decide (b < a))) = some (V.int (min a b))
    by_cases h : b < a
    · rw [decide_eq_true h]; simp; omega
    · rw [decide_eq_false h]; simp; omega
  unfold nuMin3
  rw [h2]
  exact h2 _ _
def rMax3 : List V → Hp → VK → Prop := fun xs H Q => ∃ i j k, xs = [.int i, .int j, .int k] ∧ Q (.int (max (max i j) k)) H
def rMin3 : List V → Hp → VK → Prop := fun xs H Q => ∃ i j k, xs = [.int i, .int j, .int k] ∧ Q (.int (min (min i j) k)) H
theorem call_max3 {X : Cx} (hc : X.calm = true) : CallR X (.builtin "max") rMax3 := fun pins s σ H xs us Q I r h => by
  obtain ⟨i, j, k, rfl, q⟩ := h
  exact call_max3Nu hc pins s σ H _ us Q I r ⟨_, _, _, _, rfl, nuMax3_int i j k, q⟩
theorem call_min3 {X : Cx} (hc : X.calm = true) : CallR X (.builtin "min") rMin3 := fun pins s σ H xs us Q I r h => by
  obtain ⟨i, j, k, rfl, q⟩ := h
  exact call_min3Nu hc pins s σ H _ us Q I r ⟨_, _, _, _, rfl, nuMin3_int i j k, q⟩
/-! ### repr of data: Dp, and an empty dict -/
def Dr (K : PySem.W.Frag) (H : Hp) (x : V) (d : PyData) : Prop := Dp K H x d ∨ ∃ a, x = .ref a ∧ H a = some (.dK []) ∧ d = .dict []
def rRepr (K : PySem.W.Frag) : List V → Hp → VK → Prop := fun xs H Q => ∃ x d, xs = [x] ∧ Dr K H x d ∧ d.showable = true ∧ d.depth ≤ 60 ∧ d.shown.length ≤ sizeLine ∧ Q (.str d.shown) H
theorem hasDict_dp {K : PySem.W.Frag} {H : Hp} : (∀ {x d}, Dp K H x d → d.hasDict = false) ∧ (∀ {xs ds}, DpAll K H xs ds → PyData.hasDictAll ds = false) := by
  constructor
  · intro x d h
    exact Dp.rec (motive_1 := fun _ d _ => d.hasDict = false) (motive_2 := fun _ ds _ => PyData.hasDictAll ds = false) rfl (fun _ => rfl) (fun _ => rfl) (fun _ => rfl)
      (fun _ _ ih => by unfold PyData.hasDict; exact ih) (fun _ _ ih => by unfold PyData.hasDict; exact ih) rfl (fun _ _ i1 i2 => by unfold PyData.hasDictAll; rw [i1, i2]; rfl) h
  · intro x d h
    exact DpAll.rec (motive_1 := fun _ d _ => d.hasDict = false) (motive_2 := fun _ ds _ => PyData.hasDictAll ds = false) rfl (fun _ => rfl) (fun _ => rfl) (fun _ => rfl)
      (fun _ _ ih => by unfold PyData.hasDict; exact ih) (fun _ _ ih => by unfold PyData.hasDict; exact ih) rfl (fun _ _ i1 i2 => by unfold PyData.hasDictAll; rw [i1, i2]; rfl) h
end L2
namespace L2
open PySem PySem.Spec PyProof.Rows
section
variable {X : Cx}
theorem call_repr (hc : X.A.guards = some []) (hu : X.A.units + 64 < cLine) : CallR X (.builtin "repr") (rRepr X.K) := by
  intro pins s σ H xs us Q I r h
  obtain ⟨x, d, rfl, hd, hs, hdp, hz, q⟩ := h
  cases r with
  | cons r1 rn =>
    rename_i u us'
    cases rn
    rcases hd with hd | ⟨a, rfl, ha, rfl⟩
    · obtain ⟨as, rd⟩ := Dp.reads I d x u hd r1
      cases hd with
      | non => cases rd; exact P.repr_of_none ⟨.str _, H, I.tok _, ⟨_, rfl⟩, q⟩
      | bl b => cases rd; exact P.repr_of_bool ⟨.str _, H, I.tok _, ⟨_, rfl⟩, q⟩
      | int i =>
        cases rd
        have hi : i.natAbs.log2 < 1920 := of_decide_eq_true hs
        exact P.repr_of_int hi ⟨.str _, H, I.tok _, ⟨_, rfl⟩, q⟩
      | str z => cases rd; exact P.repr_of_str ⟨.str _, H, I.tok _, ⟨_, rfl⟩, q⟩ hz
      | lst h1 h2 =>
        obtain rfl : u = Value.ref _ := r1
        have hh : PyData.hasDict _ = false := hasDict_dp.1 (Dp.lst h1 h2)
        exact repr_of_reads' rd hs (fun e => by rw [hh] at e; cases e) hc (by omega) (fun _ _ e => e) (fun h' u tk k => ⟨.str _, H, I.kept k, ⟨_, rfl⟩, q⟩) hz
      | tup h1 h2 =>
        obtain rfl : u = Value.ref _ := r1
        have hh : PyData.hasDict _ = false := hasDict_dp.1 (Dp.tup h1 h2)
        exact repr_of_reads' rd hs (fun e => by rw [hh] at e; cases e) hc (by omega) (fun _ _ e => e) (fun h' u tk k => ⟨.str _, H, I.kept k, ⟨_, rfl⟩, q⟩) hz
    · obtain rfl : u = Value.ref a := r1
      obtain ⟨_, hsys, vs, hkv, od, es, ep, hget, hcl, hdat, hko, hps, _⟩ : ObjOk X.prog X.w H s.heap a (.dK []) := I.hok a _ ha
      cases hkv
      have he : es.toList = [] := by
        generalize es.toList = l at hps
        cases hps; rfl
      have rd : Reads s.heap (.ref a) (.dict []) (a :: [] ++ []) := .dict hget hcl.1 hdat (by rw [he]; exact .nil) (by rw [he]; exact .nil)
      refine repr_of_reads' rd hs (fun _ hm => ?_) hc (by omega) (fun _ _ e => e) (fun h' u tk k => ⟨.str _, H, I.kept k, ⟨_, rfl⟩, q⟩) hz
      have e : sysModules = a := by simpa using hm
      rw [← e] at hsys
      exact absurd hsys (by decide)
end
end L2
namespace L2
open PySem PySem.Spec PyProof.Rows
section
variable {X : Cx}
theorem op_mul_str : OpR X (binaryOp .Mult) (fun x y H Q => ∃ z k, x = .str z ∧ y = .int k ∧ MulOk z k ∧ Q (.str (Txt.mul z k)) H) := by
  intro pins s σ H x y v u Q I rx ry h
  obtain ⟨z, k, rfl, rfl, hz, q⟩ := h
  obtain ⟨t, rfl⟩ := rx
  obtain ⟨t', rfl⟩ := ry
  exact SB.mul hz fun t2 k2 => ⟨.str _, H, I.tok _, ⟨_, rfl⟩, q⟩
/-- f(k = v, ..) by keywords alone, what is raised wished for at the slots -/
def tCallKS (sp : Sp) (gV : List V → List V → List V) (E : St → XK) (tk : TA) : TE := fun σ H Q => tk σ H fun zs H1 => sp (gV [] zs) H1 Q (E σ)
theorem pe_callKS {CX : CXT} {k : Nat} {f : Addr} {fd : FuncData} {ps ks : List Str} {sp : Sp} {E : St → XK} {x : Str} {p pos : Pos} {kws : List Keyword} {tk : TA} {g : List Value → List Value → List Value} {gV : List V → List V → List V}
    (F : FnOk X.prog X.w X.K X.mg X.base CX k f fd ps sp) (hr : Room k X.A) (hg : Gl X x) (hm : X.mg x = some (.ref f)) (hk : PySem.W.keepIn X.K (.ref f) = true) (hb : KBinds X.K fd ps ks g gV) (hx : ∀ σ, PassesAt CX X σ (E σ))
    (hkw : PK X kws tk) (hall : (backToKw pos (keywordEach kws X.env)).all (·.1.isSome) = true := by rfl) (hks : (backToKw pos (keywordEach kws X.env)).filterMap (·.1) = ks := by rfl)
    (hdb : (x == ("__debug__" : Str)) = false := by decide) (hpl : ((backTo pos (starEach [] X.env)).any (·.1) || (backToKw pos (keywordEach kws X.env)).any (·.1.isNone)) = false := by rfl) :
    PE X (.Call (.Name x p) [] kws pos) (tCallKS sp gV E tk) := by
  constructor
  intro pins s σ H Q I h
  apply wpAny_Call_Name_kw (ld_glob I hg hm ?_ hdb)
  apply PySem.W.callWith_KW0 (h₀ := X.base) I.ok.mod.kin hk hall (thn (hkw.run pos pins s σ H _ I h) ?_) hpl
  rintro ws s1 ⟨zs, H1, I1, rz, q⟩
  refine ⟨I1.kIn, ?_⟩
  rw [hks]
  have r2 := hb.rel (vs := []) (us := []) .nil rz
  have hl : (g [] ws).length = ps.length := (r2.length).symm.trans (F.len _ _ _ _ q)
  apply wpAny_call
  apply codeAny_mono (F.run X.A X.stack s1 H1 ⟨[], ks.zip ws⟩ (g [] ws) (gV [] zs) Q (E σ) hr I1.env0 (hb.to s1 [] ws I1.kIn hl) r2 q)
  intro r s' hq
  match r, hq with
  | .error er, hq => exact hx σ pins H1 s1 er s' I1 hq
  | .ok (.ret u), hq => exact I1.after hq
  | .ok .next, hq => exact hq.elim
  | .ok .brk, hq => exact hq.elim
  | .ok .cont, hq => exact hq.elim
end
end L2

set_option Elab.async false
set_option linter.all false
set_option maxRecDepth 100000
set_option maxHeartbeats 2000000
/-! Defs that call repr: the promise is shown only where no repr is running around the call. -/
namespace L2
open PySem PySem.Spec PyProof.Rows
/-- as FnOk, where no guard stands around -/
structure FnG (P : Program) (w : World) (K : PySem.W.Frag) (mg : Str → Option Value) (base : Heap) (CX : CXT) (k : Nat) (f : Addr) (fd : FuncData) (ps : List Str) (sp : Sp) : Prop where
  len : ∀ vs H Q E, sp vs H Q E → vs.length = ps.length
  run : ∀ (A : Around) (outer : List Env) (s : Shared) (H : Hp) (args : Args) (us : List Value) (vs : List V) (Q : VK) (E : XK), A.guards = some [] → Room k A → Env0 P w K mg base A outer s H →
    BindsTo s fd args (ps.zip us) → Vals vs us → sp vs H Q E → codeAny (model P w) A (.call (.ref f) args) (CR CX outer P w H s Q E) s
theorem FnOk.toG {P : Program} {w : World} {K : PySem.W.Frag} {mg : Str → Option Value} {base : Heap} {CX : CXT} {k : Nat} {f : Addr} {fd : FuncData} {ps : List Str} {sp : Sp} (F : FnOk P w K mg base CX k f fd ps sp) : FnG P w K mg base CX k f fd ps sp :=
  ⟨F.len, fun A outer s H args us vs Q E _ hr => F.run A outer s H args us vs Q E hr⟩
section
variable {X : Cx} {CX : CXT} {k : Nat} {f : Addr} {fd : FuncData} {ps : List Str} {sp : Sp} {dvs : List V} {ds : List Value} {E : XK} {x : Str} {p pos : Pos} {e : Expr} {es : List Expr} {t : TA}
theorem pe_callG (F : FnG X.prog X.w X.K X.mg X.base CX k f fd ps sp) (hgd : X.A.guards = some []) (hr : Room k X.A) (hg : Gl X x) (hm : X.mg x = some (.ref f)) (hk : PySem.W.keepIn X.K (.ref f) = true) (hb : Binds X.K fd ps ds) (hd : Vals dvs ds) (hx : Passes CX X E)
    (ha : PA X (e :: es) t) (hdb : (x == ("__debug__" : Str)) = false := by decide) (he : starEach (e :: es) X.env = (false, eval e X.env) :: starEach es X.env := by rfl) (hpl : (backTo pos (starEach es X.env)).any (·.1) = false := by rfl) :
    PE X (.Call (.Name x p) (e :: es) [] pos) (tCall sp dvs E t) := by
  constructor
  intro pins s σ H Q I h
  apply wpAny_Call_Name_kw (ld_glob I hg hm ?_ hdb)
  apply PySem.W.callWith_K (h₀ := X.base) I.ok.mod.kin hk (thn (ha.run pos pins s σ H _ I h) ?_) he hpl
  rintro us s1 ⟨vs, H1, I1, rv, q⟩
  refine ⟨I1.kIn, ?_⟩
  have r2 : Vals (vs ++ dvs) (us ++ ds) := rv.append hd
  have hl : (us ++ ds).length = ps.length := (r2.length).symm.trans (F.len _ _ _ _ q)
  apply wpAny_call
  apply codeAny_mono (F.run X.A X.stack s1 H1 ⟨us, []⟩ (us ++ ds) (vs ++ dvs) Q E hgd hr I1.env0 (hb s1 us I1.kIn hl) r2 q)
  intro r s' hq
  match r, hq with
  | .error er, hq => exact hx pins σ H1 s1 er s' I1 hq
  | .ok (.ret u), hq => exact I1.after hq
  | .ok .next, hq => exact hq.elim
  | .ok .brk, hq => exact hq.elim
  | .ok .cont, hq => exact hq.elim
end
theorem deeper_guards {A : Around} {env : Env} : (A.deeper env).guards = A.guards := rfl
section
variable {P : Program} {w : World} {K : PySem.W.Frag} {mg : Str → Option Value} {base : Heap}
/-- the rule for a def, where no guard stands around -/
theorem Fun.okG {x qual : Str} {st : Stmt} {f : Addr} {fd : FuncData} {N ps : List Str} {k : Nat} {sp : Sp} (F : Fun K x qual st f fd) (S : FnScope N ps (defScope st)) (len : ∀ vs H Q E, sp vs H Q E → vs.length = ps.length)
    (hbody : ∀ (cdv : Value) (A : Around) (outer : List Env) (s : Shared) (H : Hp) (vs : List V) (Q : VK) (E : XK), (A.deeper (envOfC qual (defScope st) s.heap.objs.size f cdv)).guards = some [] → Room k (A.deeper (envOfC qual (defScope st) s.heap.objs.size f cdv)) → sp vs H Q E →
      ∃ t, PSs (cxOf CX0 P w K mg base N qual (defScope st) f cdv A outer s H E).nox (defBody st) t ∧ t { nx := fun _ H' => Q .non H', rt := Q } (start N vs) H) : FnG P w K mg base CX0 (k + 1) f fd ps sp := by
  obtain ⟨oc, od, kV, doc, pm, an, cdv, ct, osl, rfl, lk, hcd⟩ := F.ex
  refine ⟨len, fun A outer s H args us vs Q E hgd hr e0 hb r hsp => ?_⟩
  have KX : K.In s.heap := e0.mod.kin.keeps fun b o e => (e0.bs b o e).1
  have lim : s.heap.NoLimit := e0.mod.nolimit.keeps fun b o e => (e0.bs b o e).1
  apply codeAny_call_function hr.depth (KX _ _ lk) rfl S.co S.gen rfl (PySem.W.codeRec_of KX hcd) (hb _ _ _ _ ?_)
  apply wpAny_newFunctionEnv_cells S.kind ?_ ?_
  · rintro ⟨n, v⟩ hy
    rcases S.par n (List.of_mem_zip hy).1 with q | q
    · exact Or.inl q
    · exact Or.inr ⟨q, PySem.W.cellsFrom_some _ _ _ (Or.inl q)⟩
  · intro env he s1 x
    subst he
    refine ⟨lim.keeps x.toInCall.keep, codeAny_func ?_⟩
    obtain ⟨t, ht, hq⟩ := hbody cdv A outer s H vs Q E (deeper_guards.trans hgd) (hr.deeper _) hsp
    have I := inv_start (CX := CX0) (E := E) S hr.hd e0 (len _ _ _ _ hsp) r x
    apply wpAny_mono (ht.nox.run [] s1 (start N vs) H _ I hq) ?_ fun e s' hs => hs
    intro fl s' hs
    match fl, hs with
    | .ret u, ⟨v, σ', H', J, rv, q⟩ => exact ⟨v, H', J.os, J.bare, J.base, J.hok, rv, q⟩
    | .next, ⟨σ', H', J, q⟩ => exact ⟨V.non, H', J.os, J.bare, J.base, J.hok, rfl, q⟩
    | .brk, ⟨_, _, _, q⟩ => exact q.elim
    | .cont, ⟨_, _, _, q⟩ => exact q.elim
end
end L2
namespace L2
open PySem PySem.Spec PyProof.Rows
section
variable {P : Program} {w : World} {K : PySem.W.Frag} {mg mb : Str → Option Value} {k : Nat} {fa a : Addr} {fd : FuncData} {x : Str} {sp : Sp} {s1 : Shared} {vs : List Value} {ns : List Int}
/-- the law's call, H telling nothing but, maybe, the script at a -/
theorem enterG {H : Hp} (KX : K.In s1.heap) (hns : s1.heap.Ns mainGlobals mg) (hb : s1.heap.Ns builtinsNs mb) (hbb : ∀ x : Str, x ≠ "__name__" → mb x = bootBuiltins x) (hlim : s1.heap.NoLimit) (hg : s1.gens = #[])
    (ha : s1.heap.get? a = some { cls := .type "list", data := .seq vs.toArray }) (hr : Room k callerA)
    (F : ∀ base : Heap, K.In base → base.Ns mainGlobals mg → FnG P w K mg base CX0 k fa fd [x] sp) (hbind : ∀ (s : Shared) (u : Value), BindsTo s fd ⟨[u], []⟩ [(x, u)])
    (hO : Only H) (hok : HOk P w H s1.heap) (hA : ∀ b, H b ≠ none → b = a) (hK : ∀ b o, K.lookup b = some o → H b = none) (hsp : sp [.ref a] H (fun v _ => v = .bl true) fun _ _ _ => False) :
    codeAny (model P w) callerA (.call (.ref fa) ⟨[.ref a], []⟩) (fun r s' => r = .ok (.ret (.bool true)) ∧ OldK s1.heap s'.heap ∧ s'.os = s1.os ∧ AllBare s'.gens) s1 := by
  have nsK : ∀ {b : Addr} {m : Str → Option Value}, s1.heap.Ns b m → (hidT s1.heap H).Ns b m := by
    rintro b m ⟨o, es, ep, e, d, r⟩
    have n : H b = none := by
      cases q : H b with
      | none => rfl
      | some u =>
        have z := hA b (by rw [q]; exact fun z => nomatch z)
        rw [z, ha] at e
        rw [← Option.some.inj e] at d
        exact nomatch d
    exact ⟨o, es, ep, hidT_get e n, d, r⟩
  have hKb : K.In (hidT s1.heap H) := fun b o e => hidT_get (KX b o e) (hK b o e)
  have e0 : Env0 P w K mg (hidT s1.heap H) callerA [] s1 H :=
    { frames := rfl, mod := ⟨hKb, nsK hns, ⟨mb, nsK hb, hbb⟩, hlim.elim fun mc h => ⟨mc, nsK h.1, h.2⟩⟩, bs := fun b o e => of_hidT e, bsz := Nat.le_of_eq (hidT_size _ _), funs := trivial, frf := fun b hb => (List.not_mem_nil hb).elim, hok := hok, bare := .of_eq hg }
  apply codeAny_mono ((F _ hKb (nsK hns)).run callerA [] s1 H ⟨[.ref a], []⟩ [.ref a] [.ref a] _ _ rfl hr e0 (hbind s1 (.ref a)) (.cons rfl .nil) hsp)
  intro r s' h
  match r, h with
  | .error e, h =>
    obtain ⟨_, _, _, h⟩ := h
  | .ok .next, h => exact h.elim
  | .ok .brk, h => exact h.elim
  | .ok .cont, h => exact h.elim
  | .ok (.ret u), ⟨v, H', os, bare, un, hok', r', q⟩ =>
    obtain rfl : v = .bl true := q
    obtain rfl : u = Value.bool true := r'
    refine ⟨rfl, OldK.of_keep fun b o e => ?_, os, bare⟩
    rcases hO b with z | ⟨ob, xs, z⟩
    · exact un.keep b o e z (List.not_mem_nil) (List.not_mem_nil)
    · have e1 := (hok b _ z).1
      have e2 := (hok' b _ (un.frzs b ob _ z)).1
      rw [e] at e1
      rw [Option.some.inj e1]
      exact e2
end
/-- the goal that the head leaves, from the law's promise, where the law's def calls repr -/
theorem walk_G {l : PySem.W.OpenLaw} {n k : Nat} {q : Program} {loose : List Str} {XP : (Str → Option Value) → Heap → Prop} {YP : World → Heap → Prop} {d : DefRec} {K : Params → PySem.W.Frag} {sp : PySem.W.Frag → Sp} {x : Str}
    (hn : l.most = some n) (hn2 : n ≤ sizeLine) (hdf : d.params.defaults = []) (hr : Room k callerA)
    (hY : ∀ (w : World) (h : Heap), YP w h → (K w.params).In h)
    (F : ∀ (w : World) (mg : Str → Option Value) (fa : Addr) (h : Heap), (K w.params).In h → h.Ns mainGlobals mg → mg d.name = some (.ref fa) →
      ∃ fd : FuncData, (∀ (s : Shared) (u : Value), BindsTo s fd ⟨[u], []⟩ [(x, u)]) ∧
        ∀ base : Heap, (K w.params).In base → base.Ns mainGlobals mg → FnG l.prog w (K w.params) mg base CX0 k fa fd [x] (sp (K w.params)))
    (hsp : ∀ (K : PySem.W.Frag) (H : Hp) (a : Addr) (ns : List Int), ns.length ≤ n → Only H → SqL K H a (ns.map V.int) → sp K [.ref a] H (fun v _ => v = .bl true) fun _ _ _ => False) :
    PySem.W.WalkO q loose XP YP l.row.toRowW d [] (fun f vs => PySem.call f vs) := by
  refine Att.attach_call hn hdf fun w s0 s1 mg mb fa o pm cd doc a vs ns G Y ho hd hcd hmg hobj hints hlen hg => ?_
  have KX := hY w _ Y
  obtain ⟨fd, hb, hF⟩ := F w mg fa _ KX G.T.g hmg
  have rv := vals_ints hints
  have lenV := hints.length
  have hl := Nat.le_trans hlen hn2
  cases hk : (K w.params).lookup a with
  | some ob =>
    have e := KX a ob hk
    rw [hobj] at e
    have e' := (Option.some.inj e).symm
    subst e'
    refine enterG (H := fun _ => none) KX G.T.g G.T.b G.T.builtins G.T.nolimit hg hobj hr hF hb (fun _ => .inl rfl) (fun b u z => nomatch (show (none : Option HO) = some u from z)) (fun b z => (z rfl).elim) (fun _ _ _ => rfl) ?_
    exact hsp (K w.params) _ a ns hlen (fun _ => .inl rfl) (.inr ⟨_, vs.toArray, _, hk, rfl, rfl, rfl, by rw [List.size_toArray, lenV]; exact hl, by simpa using rv⟩)
  | none =>
    have at_a : (fun b => if b = a then some (HO.frz { cls := .type "list", data := .seq vs.toArray } (.lst (ns.map V.int))) else none) a = some (HO.frz { cls := .type "list", data := .seq vs.toArray } (.lst (ns.map V.int))) := if_pos rfl
    have only : Only (fun b => if b = a then some (HO.frz { cls := .type "list", data := .seq vs.toArray } (.lst (ns.map V.int))) else none) := fun b => by
      by_cases z : b = a
      · exact .inr ⟨_, _, if_pos z⟩
      · exact .inl (if_neg z)
    refine enterG (H := fun b => if b = a then some (HO.frz { cls := .type "list", data := .seq vs.toArray } (.lst (ns.map V.int))) else none) KX G.T.g G.T.b G.T.builtins G.T.nolimit hg hobj hr hF hb only (fun b u z => ?_) (fun b z => ?_) (fun b ob z => ?_) ?_
    · by_cases y : b = a
      · subst y
        have z' := at_a.symm.trans z
        rw [← Option.some.inj z']
        exact ⟨hobj, by rw [List.length_map]; exact hl, vs, _, rv, hobj⟩
      · exact nomatch (if_neg y).symm.trans z
    · by_cases y : b = a
      · exact y
      · exact (z (if_neg y)).elim
    · refine if_neg fun y => ?_
      rw [y, hk] at z
      cases z
    · exact hsp (K w.params) _ a ns hlen only (.inl (.inr ⟨_, at_a⟩))
end L2

set_option Elab.async false
set_option linter.all false
set_option maxRecDepth 100000
set_option maxHeartbeats 2000000
/-! Several clauses 'except .. as e', one behind the other, all of them with one name. -/
namespace L2
open PySem PySem.Spec PyProof.Rows
/-- what stands behind the suite: the name is gone -/
def goneEnds (i : Nat) (D : Ends) : Ends :=
  { nx := fun u G => D.nx (u.set i none) G,
    rt := D.rt,
    bk := fun u G => D.bk (u.set i none) G,
    ct := fun u G => D.ct (u.set i none) G }
abbrev SuiteT := Addr → Value → Option Addr → TS
def wAll (K : PySem.W.Frag) (i : Nat) (Wo : WX) (D : Ends) : List (Value × SuiteT) → WX
  | [] => Wo
  | q :: l => fun cls d σ H =>
    ∃ b, PySem.W.exmOne K cls q.1 = some b ∧
      (b = true → ∀ a, H a = none → q.2 a cls d (goneEnds i D) (σ.set i (some (.ref a))) H) ∧
      (b = false → wAll K i Wo D l cls d σ H)
/-- the clauses and what their suites tell -/
inductive Clauses (X : Cx) (n : Str) : List ExceptHandler → List (Value × SuiteT) → Prop
  | last : Clauses X n [] []
  | more {x : Str} {c : Value} {ts : SuiteT} {b₀ : Stmt} {su : List Stmt} {p1 p2 : Pos} {hl : List ExceptHandler} {l : List (Value × SuiteT)} :
      Names X x c →
      (∀ (a : Addr) (oe : Obj) (cls : Value) (d : Option Addr) (pn : List (Addr × Obj)), Zc cls d oe → (∃ vs, oe.data = .fields vs) →
        PSs (X.suite a ((a, oe) :: pn)) (b₀ :: su) (ts a cls d)) →
      Clauses X n hl l → Clauses X n (.ExceptHandler (some (.Name x p1)) (some n) (b₀ :: su) p2 :: hl) ((c, ts) :: l)
section
variable {X : Cx} {n : Str} {i : Nat} {body : List Stmt} {h₀ : ExceptHandler} {hl : List ExceptHandler} {l : List (Value × SuiteT)} {pos : Pos} {tb : WX → TS} {Wo : WX}
theorem ps_tryAll (eS : X.stack = X.env :: X.outer) (eF : X.env.frame = some X.env.locals) (nd : X.N.Nodup) (ei : X.N[i]? = some n) (en : X.env.kindOf n = some .local) (tk : Takes X Wo)
    (hb : ∀ (W : WX) (pn : List (Addr × Obj)) (xe : Value → Shared → Prop), Takes (X.tr pn xe) W →
      PassesOwn (model X.prog X.w) X.A X.env xe → PSs (X.tr pn xe) body (tb W))
    (hc : Clauses X n (h₀ :: hl) l) :
    PS X (.Try body (h₀ :: hl) [] [] pos) (fun D σ H => tb (wAll X.K i Wo D l) D σ H) := by
  constructor
  intro pins s σ H D I hyp
  have iok := I.ok
  have fr : X.A.frames = some (X.env :: X.outer) := iok.frames.trans (congrArg some eS)
  apply wpAny_Try_except
  let XE : Value → Shared → Prop := fun e s₁ =>
    wpAny (model X.prog X.w) X.A (noteFrame e X.env) (fun _ s₂ =>
      wpAny (model X.prog X.w) X.A (setFlight e none) (fun _ s₃ =>
        wpAny (model X.prog X.w) X.A (handleBy e X.env (h₀ :: hl)) (SP X pins D) X.xe s₃) X.xe s₂) X.xe s₁
  have run := (hb (wAll X.K i Wo D l) (X.pn ++ pins) XE ?_ PassesOwn.looking).run [] s σ H D (I.toTry _) hyp
  · refine wpAny_mono run (fun f s1 sp => ?_) (fun e s1 q => q)
    match f, sp with
    | .next, ⟨u, G, J, q⟩ => exact wpAny_execs_nil ⟨u, G, J.ofTry iok, q⟩
    | .brk, ⟨u, G, J, q⟩ => exact ⟨u, G, J.ofTry iok, q⟩
    | .cont, ⟨u, G, J, q⟩ => exact ⟨u, G, J.ofTry iok, q⟩
    | .ret _, ⟨v, u, G, J, r, q⟩ => exact ⟨v, u, G, J.ofTry iok, r, q⟩
  · -- what flies out of the body
    rintro u s' ⟨a, B, sI, pins', τ, G, cls, d, rfl, J', nb, up, sky, na, os, ag, wish⟩
    have J : Inv X pins τ G sI := J'.ofTry iok
    have sky2 : Sky B (X.env :: X.outer) a (Zc cls d) X.env.locals s'.heap := eS ▸ sky
    show wpAny _ X.A (noteFrame (.ref a) X.env) _ _ _
    apply Sky.land Zc.steady fr eF sky2
    intro g3 fly3 up3
    have J3 : Inv X pins τ G { s' with heap := g3 } := J.landed nb fly3.1 (up.trans up3) os ag
    obtain ⟨o3, v3, at3, z3, d3⟩ := fly3.there
    have off : a ∉ frs (X.env :: X.outer) := by
      intro hm
      obtain ⟨_, o', e', hn⟩ := fly3.2.2.1.mem hm
      rw [at3] at e'
      cases e'
      exact hn _ d3
    have offL : a ≠ X.env.locals := by
      intro z
      exact off (List.mem_filterMap.mpr ⟨X.env, List.mem_cons_self, by rw [eF, z]⟩)
    have offF : a ∉ X.fs := by
      intro hm
      obtain ⟨e, he, q⟩ := List.mem_filterMap.mp hm
      exact off (List.mem_filterMap.mpr ⟨e, List.mem_cons_of_mem _ he, q⟩)
    have S3 := J3.suite at3 d3 na offL offF
    -- clause by clause
    suffices go : ∀ {hs : List ExceptHandler} {k : List (Value × SuiteT)}, Clauses X n hs k → wAll X.K i Wo D k cls d τ G →
        wpAny (model X.prog X.w) X.A (handleBy (.ref a) X.env hs) (SP X pins D) X.xe { s' with heap := g3 } from go hc wish
    intro hs k hk
    induction hk with
    | last =>
      intro out
      apply wpAny_handleBy_nil
      obtain ⟨k1, k2, k3, oe, vs, T, oT, ts', he, hz, hd, h1, hr⟩ := id fly3
      unfold PySem.passOn
      apply wpAny_bind
      apply wpAny_field he hd h1
      rw [if_neg (by simp : ¬ ((Value.ref T == Value.none) = true))]
      have thrown : wpAny (model X.prog X.w) X.A (setFlight (.ref a) X.env.frame) (fun _ s4 =>
          wpAny (model X.prog X.w) X.A (throw (.ref a) : Sem Flow) (SP X pins D) X.xe s4) X.xe { s' with heap := g3 } := by
        rw [eF]
        apply HandSPX.setFlight_upZ fly3
        intro g4 fly4 up4
        apply wpAny_throw
        apply tk
        exact ⟨a, B, sI, pins, τ, G, cls, d, rfl, J, nb, (up.trans up3).trans up4, .inr (.inr (eS ▸ fly4)), na, os, ag, out⟩
      first
        | exact wpAny_bind (wpAny_pure (wpAny_bind thrown))
        | exact wpAny_bind thrown
    | @more x c ts b₀ su p1 p2 hl2 l2 nm suite _ ih =>
      rintro ⟨b, eb, yes, no⟩
      have looks : PySem.W.Looks (model X.prog X.w) g3 (typeOf (.ref a)) cls := by
        intro A' Q' E' t k q
        exact wpAny_typeOf_ref (k _ _ at3) (by rw [z3.1]; exact q)
      have LM := PySem.W.exm_one (M := model X.prog X.w) (J3.kIn) looks eb
      apply wpAny_handleBy_cons (codeAny_handlers_test ?_) (by intro q; cases q)
      have named : ∀ {Q' : Value → Shared → Prop} {E' : Value → Shared → Prop}, Q' c { s' with heap := g3 } →
          wpAny (model X.prog X.w) (X.A.mark (some (.ref a))) (eval (.Name x p1) X.env) Q' E' { s' with heap := g3 } := by
        intro Q' E' q
        rcases nm with ⟨g, dbg, m | ⟨m, v, w⟩⟩
        · exact ld_glob (X := X.suite a ((a, o3) :: (X.pn ++ pins))) S3 g m q dbg
        · exact ld_blt (X := X.suite a ((a, o3) :: (X.pn ++ pins))) S3 g m v q w dbg
      apply named
      apply LM.here
      match b, yes, no with
      | false, _, no => exact ih (no rfl)
      | true, yes, _ =>
        apply codeAny_handlers_suite_as
        apply HandSPX.lands_againZ fly3
        intro g4 fly4 up4
        have J4 : Inv X pins τ G { s' with heap := g4 } := J.landed nb fly4.1 ((up.trans up3).trans up4) os ag
        obtain ⟨o4, v4, at4, z4, d4⟩ := fly4.there
        have S4 := J4.suite at4 d4 na offL offF
        apply store_ok (X := X.suite a ((a, o4) :: (X.pn ++ pins))) (v := .ref a) S4 nd ei (.inl en) rfl ?_ (.inr en)
        intro s5 S5
        have ran := (suite a o4 cls d (X.pn ++ pins) z4 ⟨_, d4⟩).run [] s5 _ G _ S5 (yes rfl a na)
        refine wpAny_mono ran (fun f s6 sp => ?_) (fun _ _ z => z.elim)
        have gone : ∀ {u : St} {K6 : Hp} {Q' : Shared → Prop}, Inv (X.suite a ((a, o4) :: (X.pn ++ pins))) [] u K6 s6 →
            (∀ s7, Inv X pins (u.set i none) K6 s7 → Q' s7) →
            wpAny (model X.prog X.w) X.A (do bindName X.env n .none; unbindBehindTheSuite X.env n p2) (fun _ s7 => Q' s7) X.xe s6 :=
          fun S6 q => gone_ok (S6.unsuite iok) nd ei en q
        match f, sp with
        | .next, ⟨_, _, S6, q⟩ => exact gone S6 fun _ J7 => ⟨_, _, J7, q⟩
        | .brk, ⟨_, _, S6, q⟩ => exact gone S6 fun _ J7 => ⟨_, _, J7, q⟩
        | .cont, ⟨_, _, S6, q⟩ => exact gone S6 fun _ J7 => ⟨_, _, J7, q⟩
        | .ret _, ⟨_, _, _, S6, r, q⟩ => exact gone S6 fun _ J7 => ⟨_, _, _, J7, r, q⟩
end
end L2

set_option Elab.async false
set_option linter.all false
set_option maxRecDepth 100000
set_option maxHeartbeats 2000000
/-! Further rules: isinstance of a caught error, list of a text, == of lists of unlike length, find, dicts shown. -/
namespace L2
open PySem PySem.Spec PyProof.Rows PySem.Builtin PySem.Builtin.Str
/-! ### find -/
theorem occ_stay (s sub : Str) (hi : Nat) : ∀ (l : List Nat) (st : Array Nat × Nat), st.1.size = 1 → (forIn l st (StrLaws.occBody s sub hi 1)).run.fst = st.1
  | [], st, h => rfl
  | a :: l, st, h => by
    rw [List.forIn_cons]
    unfold StrLaws.occBody
    rw [if_neg (fun z => by have := z.1.1.1; omega)]
    exact occ_stay s sub hi l _ h
theorem occ_one (s sub : Str) (hi : Nat) : ∀ (l : List Nat) (free : Nat), (∀ i ∈ l, free ≤ i) →
    (forIn l ((#[] : Array Nat), free) (StrLaws.occBody s sub hi 1)).run.fst.toList = (l.find? fun i => decide (i + sub.length ≤ hi) && subAt s sub i).toList
  | [], free, _ => rfl
  | a :: l, free, hf => by
    have ha : free ≤ a := hf a List.mem_cons_self
    rw [List.forIn_cons]
    by_cases c : a + sub.length ≤ hi ∧ subAt s sub a = true
    · rw [List.find?_cons_of_pos (by simp [c.1, c.2])]
      have e : StrLaws.occBody s sub hi 1 a ((#[] : Array Nat), free) = pure (ForInStep.yield ((#[] : Array Nat).push a, a + sub.length)) := by
        unfold StrLaws.occBody
        rw [if_pos ⟨⟨⟨by simp, ha⟩, c.1⟩, c.2⟩]
      rw [e]
      show (forIn l ((#[] : Array Nat).push a, a + sub.length) (StrLaws.occBody s sub hi 1)).run.fst.toList = _
      rw [occ_stay s sub hi l _ (by simp)]
      rfl
    · rw [List.find?_cons_of_neg (by simpa using c)]
      have e : StrLaws.occBody s sub hi 1 a ((#[] : Array Nat), free) = pure (ForInStep.yield ((#[] : Array Nat), free)) := by
        unfold StrLaws.occBody
        rw [if_neg (fun h => c ⟨h.1.2, h.2⟩)]
      rw [e]
      exact occ_one s sub hi l free fun i h => hf i (List.mem_cons_of_mem _ h)
theorem occ_find (s sub : Str) (lo hi : Nat) : occurrences s sub lo hi 1 = ((List.range' lo (hi + 1 - lo)).find? fun i => decide (i + sub.length ≤ hi) && subAt s sub i).toList := by
  rw [StrLaws.occ_eq]
  exact occ_one s sub hi _ lo fun i h => (List.mem_range'_1.mp h).1
/-- v stands in u at i -/
def AtL (u v : List Nat) (i : Nat) : Prop := i + v.length ≤ u.length ∧ (u.drop i).take v.length = v
theorem atL_iff (u v : List Nat) (i : Nat) : (decide (i + (S v).length ≤ (S u).length) && subAt (S u) (S v) i) = true ↔ AtL u v i := by
  rw [StrLaws.subAt_eq, Bool.and_eq_true, decide_eq_true_iff]
  show (i + (S v).length ≤ (S u).length ∧ (((cs (S u)).drop i).take (S v).length == cs (S v)) = true) ↔ _
  rw [S_tl, S_tl, S_len, S_len, beq_iff_eq]
  exact Iff.rfl
/-- the first place from lo on -/
def FindL (u v : List Nat) (lo : Nat) (r : Int) : Prop := (∃ i : Nat, r = i ∧ lo ≤ i ∧ AtL u v i ∧ ∀ j, lo ≤ j → j < i → ¬ AtL u v j) ∨ (r = -1 ∧ ∀ j, lo ≤ j → ¬ AtL u v j)
theorem find_range' {lo n : Nat} {p : Nat → Bool} {s : Nat} (h : (List.range' lo n).find? p = some s) : lo ≤ s ∧ p s = true ∧ ∀ t, lo ≤ t → t < s → p t = false := by
  obtain ⟨h1, i, hi, h2, h3⟩ := List.find?_eq_some_iff_getElem.mp h
  rw [List.getElem_range'] at h2
  subst h2
  refine ⟨by omega, h1, fun t ht hlt => ?_⟩
  have := h3 (t - lo) (by omega)
  rw [List.getElem_range'] at this
  rw [show lo + 1 * (t - lo) = t by omega] at this
  simpa using this
theorem occ_FindL (u v : List Nat) (lo : Nat) : FindL u v lo (match occurrences (S u) (S v) lo (S u).length 1 with | k :: _ => (k : Int) | [] => -1) := by
  rw [occ_find]
  cases h : (List.range' lo ((S u).length + 1 - lo)).find? fun i => decide (i + (S v).length ≤ (S u).length) && subAt (S u) (S v) i with
  | none =>
    right
    refine ⟨rfl, fun j hj z => ?_⟩
    have l := z.1
    have := List.find?_eq_none.mp h j (List.mem_range'_1.mpr ⟨hj, by rw [S_len]; omega⟩)
    exact this ((atL_iff u v j).mpr z)
  | some i =>
    left
    obtain ⟨h1, h2, h3⟩ := find_range' h
    refine ⟨i, rfl, h1, (atL_iff u v i).mp h2, fun j a b z => ?_⟩
    have := (atL_iff u v j).mpr z
    rw [h3 j a b] at this
    cases this
theorem find_FindL (u v : List Nat) : FindL u v 0 (Txt.find (S u) (S v)) := occ_FindL u v 0
theorem find3_FindL (u v : List Nat) (i : Nat) : FindL u v i (Txt.find3 (S u) (S v) (i : Int)) := by
  unfold Txt.find3
  rw [show fromIndex (S u).length (i : Int) = i by unfold fromIndex; rw [if_neg (by omega)]; omega]
  exact occ_FindL u v i
/-! ### list of a text -/
section
variable {X : Cx}
theorem call_listStr (hc : X.calm = true) : CallR X (.type "list") (fun xs H Q => ∃ z : List Nat, xs = [.str (S z)] ∧ z.length ≤ sizeLine ∧ ∀ l, H l = none → Q (.ref l) (upd H l (.lst (z.map fun c => V.str (S [c]))))) := by
  intro pins s σ H xs us Q I r h
  obtain ⟨z, rfl, hz, q⟩ := h
  obtain ⟨u, rfl, t, rfl⟩ := vals1 r
  refine call_list_str (I.ok.hd hc) (S z) t (fun h' tk acc' c' kp e hacc => ?_) (by show (S z).length ≤ sizeLine; rw [S_len]; exact hz)
  obtain ⟨hsz, hat⟩ := hacc
  have hsz' : acc'.size = z.length := hsz.trans (S_len z)
  refine ⟨.ref s.heap.objs.size, _, I.laid (t' := tk) kp (Nat.le_refl _) (show ObjOk X.prog X.w _ h' _ (.lst (z.map fun c => V.str (S [c]))) from ⟨by rw [List.length_map]; exact hz, acc'.toList, c', ?_, by rw [Array.toArray_toList]; exact e⟩), rfl, q _ (I.hok.fresh (Nat.le_refl _))⟩
  -- the items
  have go : ∀ (ys : List Nat) (vs : List Value), vs.length = ys.length → (∀ (i c : Nat), ys[i]? = some c → ∃ t, vs[i]? = some (Value.str ⟨#[c]⟩ t)) → Vals (ys.map fun c => V.str (S [c])) vs := by
    intro ys
    induction ys with
    | nil => intro vs h _; rw [List.length_eq_zero_iff.mp h]; exact .nil
    | cons c ys ih =>
      intro vs h k
      match vs, h with
      | v :: vs, h =>
        obtain ⟨t, e⟩ := k 0 c rfl
        obtain rfl := Option.some.inj e
        exact .cons ⟨t, rfl⟩ (ih vs (Nat.succ.inj h) fun i c hc => k (i + 1) c hc)
  refine go z acc'.toList (by rw [Array.length_toList]; exact hsz') fun i c hc => ?_
  have hi : i < z.length := (List.getElem?_eq_some_iff.mp hc).1
  have hv : acc'[i]? = some (acc'[i]'(by omega)) := Array.getElem?_eq_getElem _
  obtain ⟨c', t', hc', e'⟩ := hat i _ hv
  rw [e'] at hv
  have : (S z).cps[i]? = some c := by
    show z.toArray[i]? = some c
    rw [List.getElem?_toArray]; exact hc
  rw [this] at hc'
  obtain rfl := Option.some.inj hc'
  exact ⟨t', by rw [Array.getElem?_toList]; exact hv⟩
end
/-! ### isinstance of the error that the suite holds, with an own dict -/
def rIsEd (K : PySem.W.Frag) (C a : Addr) (cls : Value) (d : Option Addr) : List V → Hp → VK → Prop := fun xs H Q => ∃ (c : V) (cv : Value) (b : Bool) (dd : Addr) (fs : List (Str × V)), xs = [.ref a, c] ∧ ClsV c cv ∧ cls = .ref C ∧ d = some dd ∧ H dd = some (.xd fs) ∧ PySem.W.kitOne K (.ref C) cv = some b ∧ Q (.bl b) H
theorem call_isEd {X : Cx} {a C : Addr} {oe : Obj} {cls : Value} {d : Option Addr} {pn : List (Addr × Obj)} (T : ExcC X.K C) (hz : Zc cls d oe) (hf : ∃ vs, oe.data = .fields vs) : CallR (X.suite a ((a, oe) :: pn)) (.builtin "isinstance") (rIsEd X.K C a cls d) := by
  intro pins s σ H xs us Q I r h
  obtain ⟨c, cv, b, dd, fs, rfl, hcv, rfl, rfl, hd, e, q⟩ := h
  obtain ⟨u1, u2, rfl, r1, r2⟩ := vals2 r
  cases (show u1 = Value.ref a from r1)
  have ec := hcv.eq r2
  subst ec
  obtain ⟨hget, _⟩ := I.pin (a, oe) (List.mem_append.mpr (.inl List.mem_cons_self))
  obtain ⟨vs, hv⟩ := hf
  have hx : ObjOk X.prog X.w H s.heap dd (.xd fs) := I.hok dd _ hd
  obtain ⟨mA, hns, hr⟩ := hx
  obtain ⟨od, ho, hl⟩ := lookIn_ns hns
  have J : PySem.W.InstAt s.heap a oe C (some od) := ⟨hget, hz.1, by unfold PySem.W.notCls; rw [hv] <;> rfl, by rw [hz.2]; exact ho⟩
  obtain ⟨cd, hcd, _⟩ := PySem.W.any_some T.hd
  exact PySem.W.kia_one (PySem.W.kitx_exc (by rw [hcd]; rfl) T.hg T.hk T.hs T.ha T.hn T.ht T.hm) I.kIn J e (fun z => nomatch z) fun tk => ⟨.bl b, H, I.kept (t' := tk) fun _ _ z => z, rfl, q⟩
end L2
namespace GQ
open PySem PySem.Spec PyProof.Rows
section
variable {prog : Program} {w : World} {A : Around} {R : Result → Shared → Prop}
theorem list_eq_len (l b : Addr) (items items2 : Array Value) (n n2 : Nat) (hne : items.size ≠ items2.size) {s : Shared} (hl1 : s.heap.get? l = some { cls := .type "list", data := .seq items n }) (hb1 : s.heap.get? b = some { cls := .type "list", data := .seq items2 n2 })
    (fin : R (.ok (.ret (.bool false))) s) :
    wpAny (model prog w) A.in1 (Builtin.«list.__eq__» ⟨[.ref l, .ref b], []⟩) (FinOf prog w A R) (fun e s' => R (.error e) s') s := by
  obtain ⟨hp, g, d, tk, os⟩ := s
  have f3 := AutoSeq1.sub_list_list
  have hne' : (items.size != items2.size) = true := by simp [hne]
  wp_walk using wpAny_loadPart' hl1, wpAny_loadPart' hb1
  exact fin
end
section
variable {prog : Program} {w : World} {A : Around} {E : Value → Shared → Prop} {s : Shared}
theorem rc_list_len {l b : Addr} {items items2 : Array Value} {n n2 : Nat} {Q : Value → Shared → Prop} (hu : A.units < cLine) (hne : items.size ≠ items2.size) (hl1 : s.heap.get? l = some { cls := .type "list", data := .seq items n }) (hb1 : s.heap.get? b = some { cls := .type "list", data := .seq items2 n2 })
    (fin : Q (.bool false) s) : wpAny (model prog w) A (richCompare .Eq (.ref l) (.ref b)) Q E s := by
  refine wpAny_richCompare_same_room (op := .Eq) ⟨_, hl1, rfl⟩ ⟨_, hb1, rfl⟩ F.slot_list_eq (call_here F.slot_list_eq ⟨_, hl1, rfl⟩ F.entry_list_eq (F.args_list_eq_2 _ _) ?_) hu
  exact list_eq_len (R := wants (fun v s' => v ≠ .notImplemented ∧ Q v s') E) l b items items2 n n2 hne hl1 hb1 ⟨(fun x => nomatch x), fin⟩
end
end GQ
namespace L2
open PySem PySem.Spec PyProof.Rows PySem.Builtin PySem.Builtin.Str
section
variable {X : Cx}
/-- xs == ys of two lists of which one is empty -/
def rEqNil : R2 := fun x y H Q => ∃ p q xs ys, x = .ref p ∧ y = .ref q ∧ H p = some (.lst xs) ∧ H q = some (.lst ys) ∧ (xs = [] ∨ ys = []) ∧ Q (.bl (decide (xs.length = ys.length))) H
theorem op_eq_nil (hu : X.A.units < cLine) : OpR X (compareOp .Eq) rEqNil := by
  intro pins s σ H x y v u Q I rx ry h
  obtain ⟨p, q, xs, ys, rfl, rfl, hp, hq, hn, k⟩ := h
  cases (show v = Value.ref p from rx)
  cases (show u = Value.ref q from ry)
  obtain ⟨z1, its, n, r1, hl, e1⟩ := I.lstM hp
  obtain ⟨z2, its2, n2, r2, hl2, e2⟩ := I.lstM hq
  by_cases hl3 : xs.length = ys.length
  · have ex : xs = [] := by
      rcases hn with e | e
      · exact e
      · subst e; exact List.length_eq_zero_iff.mp hl3
    have ey : ys = [] := by
      rcases hn with e | e
      · subst e; exact List.length_eq_zero_iff.mp hl3.symm
      · exact e
    subst ex ey
    cases r1; cases r2
    rw [decide_eq_true hl3] at k
    exact GQ.rc_listG hu (N := 0) (fun i s' => i = 0 ∧ s' = s) (fun i s' hi => by obtain ⟨rfl, rfl⟩ := hi; exact ⟨_, _, _, _, e1, e2, rfl, rfl, fun h1 _ => absurd h1 (by simp)⟩) (fun s' hs => by obtain ⟨_, rfl⟩ := hs; exact ⟨.bl true, H, I, rfl, k⟩) ⟨rfl, rfl⟩
  · rw [decide_eq_false hl3] at k
    refine GQ.rc_list_len hu ?_ e1 e2 ⟨.bl false, H, I, rfl, k⟩
    have := r1.length
    have := r2.length
    simp only [List.size_toArray]
    omega
/-! ### dicts of flat values, shown -/
def FlatD : V → PyData → Prop := fun v d => (v = .non ∧ d = .none) ∨ (∃ b, v = .bl b ∧ d = .bool b) ∨ (∃ i, v = .int i ∧ d = .int i) ∨ ∃ z, v = .str z ∧ d = .str z
def keyD : Key → PyData
  | .inl i => .int i
  | .inr x => .str x
def DictD : List (Key × V) → List (PyData × PyData) → Prop := Paired fun p q => q.1 = keyD p.1 ∧ FlatD p.2 q.2
/-- data, or a dict of flat values -/
def Ds (K : PySem.W.Frag) (H : Hp) (x : V) (d : PyData) : Prop := Dp K H x d ∨ ∃ a kvs ds, x = .ref a ∧ H a = some (.dK kvs) ∧ d = .dict ds ∧ DictD kvs ds
def rReprD (K : PySem.W.Frag) : List V → Hp → VK → Prop := fun xs H Q => ∃ x d, xs = [x] ∧ Ds K H x d ∧ d.showable = true ∧ d.depth ≤ 60 ∧ d.shown.length ≤ sizeLine ∧ Q (.str d.shown) H
theorem FlatD.reads {v : V} {d : PyData} {u : Value} {h : Heap} (f : FlatD v d) (r : RelV v u) : Reads h u d [] := by
  rcases f with ⟨rfl, rfl⟩ | ⟨b, rfl, rfl⟩ | ⟨i, rfl, rfl⟩ | ⟨z, rfl, rfl⟩
  · cases (show u = Value.none from r); exact .none
  · cases (show u = Value.bool b from r); exact .bool _
  · obtain ⟨t, rfl⟩ := r; exact .int _ _
  · obtain ⟨t, rfl⟩ := r; exact .str _ _
theorem keyD_reads {k : Key} {u : Value} {h : Heap} (e : keyIs k u = true) : Reads h u (keyD k) [] := by
  rcases keyIs_shape e with ⟨i, t, rfl, rfl⟩ | ⟨x, t, rfl, rfl⟩
  · exact .int _ _
  · exact .str _ _
theorem dictD_reads {h : Heap} {P : Program} {w : World} {kvs : List (Key × V)} {ds : List (PyData × PyData)} (dd : DictD kvs ds) : ∀ {vs : List (Key × Value)} {es : List DictEntry}, KV kvs vs → Pairs (mixKind P w) es vs →
    ReadsAll h (es.map (·.key)) (ds.map (·.1)) [] ∧ ReadsAll h (es.map (·.val)) (ds.map (·.2)) [] := by
  unfold DictD at dd
  induction dd with
  | nil =>
    intro vs es kv ps
    cases kv
    cases ps
    exact ⟨.nil, .nil⟩
  | @cons p q l1 l2 h1 _ ih =>
    intro vs es kv ps
    unfold KV at kv
    cases kv with
    | cons a t =>
      cases ps with
      | cons hk hv hp =>
        obtain ⟨i1, i2⟩ := ih t hp
        obtain ⟨e1, f⟩ := h1
        obtain ⟨ka, ra⟩ := a
        refine ⟨.cons (as := []) (bs := []) ?_ i1, .cons (as := []) (bs := []) ?_ i2⟩
        · show Reads h _ q.1 []
          rw [e1, ka]
          exact keyD_reads hk
        · have := f.reads (h := h) ra
          rw [← hv] at this
          exact this
theorem call_reprD (hc : X.A.guards = some []) (hu : X.A.units + 64 < cLine) : CallR X (.builtin "repr") (rReprD X.K) := by
  intro pins s σ H xs us Q I r h
  obtain ⟨x, d, rfl, hd, hs, hdp, hz, q⟩ := h
  rcases hd with hd | ⟨a, kvs, ds, rfl, ha, rfl, dd⟩
  · exact call_repr hc hu pins s σ H _ us Q I r ⟨x, d, rfl, .inl hd, hs, hdp, hz, q⟩
  · obtain ⟨u, rfl, r1⟩ := vals1 r
    obtain rfl : u = Value.ref a := r1
    obtain ⟨_, hsys, vs, hkv, od, es, ep, hget, hcl, hdat, hko, hps, _⟩ : ObjOk X.prog X.w H s.heap a (.dK kvs) := I.hok a _ ha
    obtain ⟨i1, i2⟩ := dictD_reads (h := s.heap) dd hkv hps
    have rd : Reads s.heap (.ref a) (.dict ds) (a :: [] ++ []) := .dict hget hcl.1 hdat i1 i2
    refine repr_of_reads' rd hs (fun _ hm => ?_) hc (by omega) (fun _ _ e => e) (fun h' u tk k => ⟨.str _, H, I.kept k, ⟨_, rfl⟩, q⟩) hz
    have e : sysModules = a := by simpa using hm
    rw [← e] at hsys
    exact absurd hsys (by decide)
end
end L2

set_option Elab.async false
set_option linter.all false
set_option maxHeartbeats 8000000
namespace Lev
section
variable {α : Type}
/-- an alignment of two lists with c changes -/
inductive A : List α → List α → Nat → Prop where
  | nil : A [] [] 0
  | keep {a u v c} : A u v c → A (a :: u) (a :: v) c
  | swap {a b u v c} : A u v c → A (a :: u) (b :: v) (c + 1)
  | drop {a u v c} : A u v c → A (a :: u) v (c + 1)
  | add {b u v c} : A u v c → A u (b :: v) (c + 1)
theorem A.cast {u v u' v' : List α} {c c' : Nat} (h : A u v c) (e1 : u = u') (e2 : v = v') (e3 : c = c') : A u' v' c' := by
  subst e1 e2 e3; exact h
theorem A.refl : ∀ u : List α, A u u 0
  | [] => .nil
  | _ :: u => .keep (A.refl u)
theorem A.symm {u v : List α} {c : Nat} (h : A u v c) : A v u c := by
  induction h with
  | nil => exact .nil
  | keep _ ih => exact .keep ih
  | swap _ ih => exact .swap ih
  | drop _ ih => exact .add ih
  | add _ ih => exact .drop ih
theorem A.append {u v u' v' : List α} {c c' : Nat} (h : A u v c) (h' : A u' v' c') : A (u ++ u') (v ++ v') (c + c') := by
  induction h with
  | nil => exact h'.cast rfl rfl (Nat.zero_add _).symm
  | keep _ ih => exact .keep ih
  | swap _ ih => exact (A.swap ih).cast rfl rfl (by omega)
  | drop _ ih => exact (A.drop ih).cast rfl rfl (by omega)
  | add _ ih => exact (A.add ih).cast rfl rfl (by omega)
theorem A.drops : ∀ u : List α, A u [] u.length
  | [] => .nil
  | _ :: u => .drop (A.drops u)
theorem A.adds (u : List α) : A [] u u.length := (A.drops u).symm
theorem A.nilLeft {v : List α} {c : Nat} (h : A [] v c) : v.length ≤ c := by
  generalize e : ([] : List α) = u at h
  induction h with
  | nil => exact Nat.le_refl _
  | keep _ _ => cases e
  | swap _ _ => cases e
  | drop _ _ => cases e
  | add _ ih => have := ih e; simp; omega
/-- an alignment is cut where the left list is -/
theorem A.split {w v : List α} {c : Nat} (h : A w v c) : ∀ u u' : List α, w = u ++ u' → ∃ v1 v2 c1 c2, v = v1 ++ v2 ∧ A u v1 c1 ∧ A u' v2 c2 ∧ c = c1 + c2 := by
  induction h with
  | nil =>
    intro u u' e
    have e1 : u = [] := (List.append_eq_nil_iff.mp e.symm).1
    have e2 : u' = [] := (List.append_eq_nil_iff.mp e.symm).2
    subst e1 e2
    exact ⟨[], [], 0, 0, rfl, .nil, .nil, rfl⟩
  | @keep a w v c h ih =>
    intro u u' e
    cases u with
    | nil => exact ⟨[], a :: v, 0, c, rfl, .nil, (A.keep h).cast e rfl rfl, (Nat.zero_add _).symm⟩
    | cons x u =>
      injection e with e1 e2
      subst e1
      obtain ⟨v1, v2, c1, c2, rfl, h1, h2, rfl⟩ := ih u u' e2
      exact ⟨_ :: v1, v2, c1, c2, rfl, .keep h1, h2, rfl⟩
  | @swap a b w v c h ih =>
    intro u u' e
    cases u with
    | nil => exact ⟨[], b :: v, 0, c + 1, rfl, .nil, (A.swap h).cast e rfl rfl, (Nat.zero_add _).symm⟩
    | cons x u =>
      injection e with e1 e2
      subst e1
      obtain ⟨v1, v2, c1, c2, rfl, h1, h2, rfl⟩ := ih u u' e2
      exact ⟨_ :: v1, v2, c1 + 1, c2, rfl, .swap h1, h2, by omega⟩
  | @drop a w v c h ih =>
    intro u u' e
    cases u with
    | nil => exact ⟨[], v, 0, c + 1, rfl, .nil, (A.drop h).cast e rfl rfl, (Nat.zero_add _).symm⟩
    | cons x u =>
      injection e with e1 e2
      subst e1
      obtain ⟨v1, v2, c1, c2, rfl, h1, h2, rfl⟩ := ih u u' e2
      exact ⟨v1, v2, c1 + 1, c2, rfl, .drop h1, h2, by omega⟩
  | @add b w v c h ih =>
    intro u u' e
    obtain ⟨v1, v2, c1, c2, rfl, h1, h2, rfl⟩ := ih u u' e
    exact ⟨b :: v1, v2, c1 + 1, c2, rfl, .add h1, h2, by omega⟩

/-! ### ways over places of two lists -/
inductive P (u v : List α) : Nat → Nat → Nat → Prop where
  | zero : P u v 0 0 0
  | keep {i j c a} : P u v i j c → u[i]? = some a → v[j]? = some a → P u v (i + 1) (j + 1) c
  | swap {i j c} : P u v i j c → i < u.length → j < v.length → P u v (i + 1) (j + 1) (c + 1)
  | drop {i j c} : P u v i j c → i < u.length → P u v (i + 1) j (c + 1)
  | add {i j c} : P u v i j c → j < v.length → P u v i (j + 1) (c + 1)
variable {u v : List α}
theorem P.bounds {i j c : Nat} (h : P u v i j c) : i ≤ u.length ∧ j ≤ v.length := by
  induction h with
  | zero => exact ⟨Nat.zero_le _, Nat.zero_le _⟩
  | keep _ e1 e2 _ =>
    have h1 := (List.getElem?_eq_some_iff.mp e1).1
    have h2 := (List.getElem?_eq_some_iff.mp e2).1
    exact ⟨h1, h2⟩
  | swap _ h1 h2 _ => exact ⟨h1, h2⟩
  | drop _ h1 ih => exact ⟨h1, ih.2⟩
  | add _ h1 ih => exact ⟨ih.1, h1⟩
theorem P.toA {i j c : Nat} (h : P u v i j c) : A (u.take i) (v.take j) c := by
  induction h with
  | zero => exact (A.nil).cast (by simp) (by simp) rfl
  | keep _ e1 e2 ih =>
    exact (ih.append (A.keep A.nil)).cast (by rw [List.take_add_one, e1]; rfl) (by rw [List.take_add_one, e2]; rfl) rfl
  | @swap i j c _ h1 h2 ih =>
    exact (ih.append (A.swap (a := u[i]) (b := v[j]) A.nil)).cast (by rw [List.take_add_one, List.getElem?_eq_getElem h1]; rfl) (by rw [List.take_add_one, List.getElem?_eq_getElem h2]; rfl) rfl
  | @drop i j c _ h1 ih =>
    exact (ih.append (A.drop (a := u[i]) A.nil)).cast (by rw [List.take_add_one, List.getElem?_eq_getElem h1]; rfl) (by simp) rfl
  | @add i j c _ h1 ih =>
    exact (ih.append (A.add (b := v[j]) A.nil)).cast (by simp) (by rw [List.take_add_one, List.getElem?_eq_getElem h1]; rfl) rfl
theorem P.onA {u' v' : List α} {c' : Nat} (h : A u' v' c') : ∀ {i j c : Nat}, P u v i j c → u.drop i = u' → v.drop j = v' → i ≤ u.length → j ≤ v.length → P u v u.length v.length (c + c') := by
  induction h with
  | nil =>
    intro i j c p e1 e2 b1 b2
    have h1 : u.length ≤ i := List.drop_eq_nil_iff.mp e1
    have h2 : v.length ≤ j := List.drop_eq_nil_iff.mp e2
    have e3 : i = u.length := Nat.le_antisymm b1 h1
    have e4 : j = v.length := Nat.le_antisymm b2 h2
    subst e3 e4
    exact p
  | @keep a u' v' c' _ ih =>
    intro i j c p e1 e2 b1 b2
    have g1 : u[i]? = some a := by have := congrArg (·[0]?) e1; simpa using this
    have g2 : v[j]? = some a := by have := congrArg (·[0]?) e2; simpa using this
    have h1 := (List.getElem?_eq_some_iff.mp g1).1
    have h2 := (List.getElem?_eq_some_iff.mp g2).1
    exact ih (.keep p g1 g2) (by rw [← List.drop_drop, e1]; rfl) (by rw [← List.drop_drop, e2]; rfl) h1 h2
  | @swap a b u' v' c' _ ih =>
    intro i j c p e1 e2 b1 b2
    have g1 : u[i]? = some a := by have := congrArg (·[0]?) e1; simpa using this
    have g2 : v[j]? = some b := by have := congrArg (·[0]?) e2; simpa using this
    have h1 := (List.getElem?_eq_some_iff.mp g1).1
    have h2 := (List.getElem?_eq_some_iff.mp g2).1
    have := ih (.swap p h1 h2) (by rw [← List.drop_drop, e1]; rfl) (by rw [← List.drop_drop, e2]; rfl) h1 h2
    rw [show c + (c' + 1) = c + 1 + c' by omega]; exact this
  | @drop a u' v' c' _ ih =>
    intro i j c p e1 e2 b1 b2
    have g1 : u[i]? = some a := by have := congrArg (·[0]?) e1; simpa using this
    have h1 := (List.getElem?_eq_some_iff.mp g1).1
    have := ih (.drop p h1) (by rw [← List.drop_drop, e1]; rfl) e2 h1 b2
    rw [show c + (c' + 1) = c + 1 + c' by omega]; exact this
  | @add b u' v' c' _ ih =>
    intro i j c p e1 e2 b1 b2
    have g2 : v[j]? = some b := by have := congrArg (·[0]?) e2; simpa using this
    have h2 := (List.getElem?_eq_some_iff.mp g2).1
    have := ih (.add p h2) e1 (by rw [← List.drop_drop, e2]; rfl) b1 h2
    rw [show c + (c' + 1) = c + 1 + c' by omega]; exact this
theorem A.toP {c : Nat} (h : A u v c) : P u v u.length v.length c := by
  have := P.onA (u := u) (v := v) h .zero rfl rfl (Nat.zero_le _) (Nat.zero_le _)
  simpa using this
theorem P.toA' {c : Nat} (h : P u v u.length v.length c) : A u v c := h.toA.cast (List.take_length) (List.take_length) rfl

/-! ### the table -/
variable [DecidableEq α]
def neq (x y : Option α) : Nat := if x = y then 0 else 1
def T (u v : List α) : Nat → Nat → Nat
  | 0, j => j
  | i + 1, 0 => i + 1
  | i + 1, j + 1 => min (T u v i j + neq u[i]? v[j]?) (min (T u v (i + 1) j + 1) (T u v i (j + 1) + 1))
theorem T_zero (j : Nat) : T u v 0 j = j := by unfold T; rfl
theorem T_left (i : Nat) : T u v i 0 = i := by cases i <;> (unfold T; rfl)
theorem T_step (i j : Nat) : T u v (i + 1) (j + 1) = min (T u v i j + neq u[i]? v[j]?) (min (T u v (i + 1) j + 1) (T u v i (j + 1) + 1)) := by
  rw [T]
theorem T_le {i j c : Nat} (h : P u v i j c) : T u v i j ≤ c := by
  induction h with
  | zero => rw [T_zero]; omega
  | keep _ e1 e2 ih => rw [T_step, e1, e2]; simp only [neq, if_true]; omega
  | @swap i j c _ _ _ ih =>
    rw [T_step]
    have : neq u[i]? v[j]? ≤ 1 := by unfold neq; split <;> omega
    omega
  | @drop i j c _ _ ih => cases j with
    | zero => rw [T_left] at *; omega
    | succ j => rw [T_step]; omega
  | @add i j c _ _ ih => cases i with
    | zero => rw [T_zero] at *; omega
    | succ i => rw [T_step]; omega
theorem T_P : ∀ (i j : Nat), i ≤ u.length → j ≤ v.length → P u v i j (T u v i j) := by
  intro i
  induction i with
  | zero =>
    intro j
    induction j with
    | zero => intro _ _; rw [T_zero]; exact .zero
    | succ j ih => intro h1 h2; rw [T_zero]; have := ih h1 (by omega); rw [T_zero] at this; exact .add this (by omega)
  | succ i ihi =>
    intro j
    induction j with
    | zero => intro h1 h2; rw [T_left]; have := ihi 0 (by omega) h2; rw [T_left] at this; exact .drop this (by omega)
    | succ j ih =>
      intro h1 h2
      have p1 := ihi j (by omega) (by omega)
      have p2 := ih h1 (by omega)
      have p3 := ihi (j + 1) (by omega) h2
      rw [T_step]
      by_cases q1 : T u v i j + neq u[i]? v[j]? ≤ min (T u v (i + 1) j + 1) (T u v i (j + 1) + 1)
      · rw [Nat.min_eq_left q1]
        by_cases e : u[i]? = v[j]?
        · rw [show neq u[i]? v[j]? = 0 by unfold neq; rw [if_pos e]]
          exact .keep p1 (List.getElem?_eq_getElem (by omega)) (by rw [← e]; exact List.getElem?_eq_getElem (by omega))
        · rw [show neq u[i]? v[j]? = 1 by unfold neq; rw [if_neg e]]
          exact .swap p1 (by omega) (by omega)
      · rw [Nat.min_eq_right (by omega)]
        by_cases q2 : T u v (i + 1) j + 1 ≤ T u v i (j + 1) + 1
        · rw [Nat.min_eq_left q2]; exact .add p2 (by omega)
        · rw [Nat.min_eq_right (by omega)]; exact .drop p3 (by omega)
/-- the distance -/
def D (u v : List α) : Nat := T u v u.length v.length
theorem D_A (u v : List α) : A u v (D u v) := (T_P _ _ (Nat.le_refl _) (Nat.le_refl _)).toA'
theorem D_le {u v : List α} {c : Nat} (h : A u v c) : D u v ≤ c := T_le h.toP
theorem D_symm (u v : List α) : D u v = D v u := Nat.le_antisymm (D_le (D_A v u).symm) (D_le (D_A u v).symm)
theorem D_self (u : List α) : D u u = 0 := Nat.le_zero.mp (D_le (A.refl u))
theorem D_le_max (u v : List α) : D u v ≤ max u.length v.length := by
  have key : ∀ u v : List α, ∃ c, A u v c ∧ c ≤ max u.length v.length := by
    intro u
    induction u with
    | nil => intro v; exact ⟨_, A.adds v, by simp⟩
    | cons a u ih =>
      intro v
      cases v with
      | nil => exact ⟨_, A.drops (a :: u), by simp⟩
      | cons b v =>
        obtain ⟨c, h, hc⟩ := ih v
        exact ⟨c + 1, .swap h, by simp; omega⟩
  obtain ⟨c, h, hc⟩ := key u v
  exact Nat.le_trans (D_le h) hc
theorem A.lens {u v : List α} {c : Nat} (h : A u v c) : u.length ≤ v.length + c ∧ v.length ≤ u.length + c := by
  induction h with
  | nil => exact ⟨Nat.le_refl _, Nat.le_refl _⟩
  | keep _ ih => simp only [List.length_cons]; omega
  | swap _ ih => simp only [List.length_cons]; omega
  | drop _ ih => simp only [List.length_cons]; omega
  | add _ ih => simp only [List.length_cons]; omega
end
end Lev

set_option Elab.async false
set_option linter.all false
set_option maxHeartbeats 400000
namespace Lev
section
variable {α : Type}
/-- w is a turn of v -/
def Turn (v w : List α) : Prop := ∃ x y, v = x ++ y ∧ w = y ++ x
theorem Turn.refl (v : List α) : Turn v v := ⟨[], v, rfl, (List.append_nil v).symm⟩
theorem Turn.symm {v w : List α} (h : Turn v w) : Turn w v := by
  obtain ⟨x, y, rfl, rfl⟩ := h
  exact ⟨y, x, rfl, rfl⟩
theorem Turn.trans {u v w : List α} (h : Turn u v) (h' : Turn v w) : Turn u w := by
  obtain ⟨x, y, rfl, rfl⟩ := h
  obtain ⟨x', y', e, rfl⟩ := h'
  rcases List.append_eq_append_iff.mp e with ⟨e1, rfl, rfl⟩ | ⟨e1, rfl, rfl⟩
  · exact ⟨e1, y' ++ y, by rw [List.append_assoc], by rw [List.append_assoc]⟩
  · exact ⟨x ++ x', e1, by rw [List.append_assoc], by rw [List.append_assoc]⟩
theorem Turn.length {v w : List α} (h : Turn v w) : w.length = v.length := by
  obtain ⟨x, y, rfl, rfl⟩ := h
  simp only [List.length_append]; omega
theorem Turn.at (v : List α) (k : Nat) : Turn v (v.drop k ++ v.take k) := ⟨v.take k, v.drop k, (List.take_append_drop k v).symm, rfl⟩
/-- an alignment of turns of both is one of u and a turn -/
theorem cut {u u' v v' : List α} {c : Nat} (hu : Turn u u') (hv : Turn v v') (h : A u' v' c) : ∃ w, Turn v w ∧ A u w c := by
  obtain ⟨x, y, rfl, rfl⟩ := hu
  obtain ⟨w1, w2, c1, c2, rfl, h1, h2, rfl⟩ := h.split y x rfl
  exact ⟨w2 ++ w1, hv.trans ⟨w1, w2, rfl, rfl⟩, (h2.append h1).cast rfl rfl (Nat.add_comm _ _)⟩
/-! ### the window that is just as long -/
theorem window (N : Nat) : ∀ {u w w' : List α} {c c' k b : Nat}, u.length + w.length + w'.length ≤ N → A u w c → A u w' c' → w.length + k ≤ b → b ≤ w'.length + k →
    ∃ p q s t s' t' c1 c2 c3 c4, u = p ++ q ∧ w = s ++ t ∧ w' = s' ++ t' ∧ A p s c1 ∧ A q t c2 ∧ A p s' c3 ∧ A q t' c4 ∧ c = c1 + c2 ∧ c' = c3 + c4 ∧ t.length + (k + s'.length) = b := by
  induction N with
  | zero =>
    intro u w w' c c' k b hN h h' l1 l2
    have e1 : u = [] := List.eq_nil_of_length_eq_zero (by omega)
    have e2 : w = [] := List.eq_nil_of_length_eq_zero (by omega)
    have e3 : w' = [] := List.eq_nil_of_length_eq_zero (by omega)
    subst e1 e2 e3
    exact ⟨[], [], [], [], [], [], 0, c, 0, c', rfl, rfl, rfl, .nil, h, .nil, h', (Nat.zero_add _).symm, (Nat.zero_add _).symm, by simp at *; omega⟩
  | succ N ih =>
    intro u w w' c c' k b hN h h' l1 l2
    by_cases e : w.length + k = b
    · exact ⟨[], u, [], w, [], w', 0, c, 0, c', rfl, rfl, rfl, .nil, h, .nil, h', (Nat.zero_add _).symm, (Nat.zero_add _).symm, by simp; omega⟩
    · -- a letter more of the second
      have main : ∀ {a : α} {u w1 w1' pw pw' : List α} {c1 c1' pc pc' : Nat}, A u w1 c1 → A u w1' c1' → (∀ {p s d}, A p s d → A (a :: p) (pw ++ s) (pc + d)) → (∀ {p s d}, A p s d → A (a :: p) (pw' ++ s) (pc' + d)) → pw.length ≤ 1 → pw'.length ≤ 1 →
          (u.length + 1) + (pw ++ w1).length + (pw' ++ w1').length ≤ N + 1 → (pw ++ w1).length + k ≤ b → b ≤ (pw' ++ w1').length + k → ¬ (pw ++ w1).length + k = b →
          ∃ p q s t s' t' d1 d2 d3 d4, a :: u = p ++ q ∧ pw ++ w1 = s ++ t ∧ pw' ++ w1' = s' ++ t' ∧ A p s d1 ∧ A q t d2 ∧ A p s' d3 ∧ A q t' d4 ∧ pc + c1 = d1 + d2 ∧ pc' + c1' = d3 + d4 ∧ t.length + (k + s'.length) = b := by
        intro a u w1 w1' pw pw' c1 c1' pc pc' g g' f f' n1 n2 hN l1 l2 e
        rw [List.length_append] at hN l1 l2 e
        rw [List.length_append] at hN
        obtain ⟨p, q, s, t, s', t', d1, d2, d3, d4, rfl, rfl, rfl, a1, a2, a3, a4, e1, e2, e3⟩ := ih (k := k + pw'.length) (b := b) (by omega) g g' (by omega) (by omega)
        exact ⟨a :: p, q, pw ++ s, t, pw' ++ s', t', pc + d1, d2, pc' + d3, d4, rfl, by simp, by simp, f a1, a2, f' a3, a4, by omega, by omega, by rw [List.length_append]; omega⟩
      cases h' with
      | nil =>
        have := h.nilLeft
        simp at l2
        omega
      | @add b' _ w'' c'' g' =>
        simp only [List.length_cons] at hN l2
        obtain ⟨p, q, s, t, s', t', d1, d2, d3, d4, rfl, rfl, rfl, a1, a2, a3, a4, e1, e2, e3⟩ := ih (k := k + 1) (b := b) (by omega) h g' (by omega) (by omega)
        exact ⟨p, q, s, t, b' :: s', t', d1, d2, d3 + 1, d4, rfl, rfl, rfl, a1, a2, .add a3, a4, e1, by omega, by simp only [List.length_cons]; omega⟩
      | @keep a u w1' c1' g' =>
        cases h with
        | @add b' _ w1 c1 g =>
          simp only [List.length_cons] at hN l1 l2 e
          obtain ⟨p, q, s, t, s', t', d1, d2, d3, d4, e0, rfl, e00, a1, a2, a3, a4, e1, e2, e3⟩ := ih (k := k) (b := b) (by simp only [List.length_cons]; omega) g (A.keep g') (by omega) (by simp only [List.length_cons]; omega)
          exact ⟨p, q, b' :: s, t, s', t', d1 + 1, d2, d3, d4, e0, rfl, e00, .add a1, a2, a3, a4, by omega, e2, e3⟩
        | @keep _ _ w1 c1 g => simpa using main (pw := [a]) (pw' := [a]) (pc := 0) (pc' := 0) g g' (fun z => (A.keep z).cast rfl rfl (by omega)) (fun z => (A.keep z).cast rfl rfl (by omega)) (by simp) (by simp) (by simpa using hN) (by simpa using l1) (by simpa using l2) (by simpa using e)
        | @swap _ x _ w1 c1 g => simpa [Nat.add_comm] using main (pw := [x]) (pw' := [a]) (pc := 1) (pc' := 0) g g' (fun z => (A.swap z).cast rfl rfl (by omega)) (fun z => (A.keep z).cast rfl rfl (by omega)) (by simp) (by simp) (by simpa using hN) (by simpa using l1) (by simpa using l2) (by simpa using e)
        | @drop _ _ _ c1 g => simpa [Nat.add_comm] using main (pw := []) (pw' := [a]) (pc := 1) (pc' := 0) g g' (fun z => (A.drop z).cast rfl rfl (by omega)) (fun z => (A.keep z).cast rfl rfl (by omega)) (by simp) (by simp) (by simpa using hN) (by simpa using l1) (by simpa using l2) (by simpa using e)
      | @swap a y u w1' c1' g' =>
        cases h with
        | @add b' _ w1 c1 g =>
          simp only [List.length_cons] at hN l1 l2 e
          obtain ⟨p, q, s, t, s', t', d1, d2, d3, d4, e0, rfl, e00, a1, a2, a3, a4, e1, e2, e3⟩ := ih (k := k) (b := b) (by simp only [List.length_cons]; omega) g (A.swap (b := y) g') (by omega) (by simp only [List.length_cons]; omega)
          exact ⟨p, q, b' :: s, t, s', t', d1 + 1, d2, d3, d4, e0, rfl, e00, .add a1, a2, a3, a4, by omega, e2, e3⟩
        | @keep _ _ w1 c1 g => simpa [Nat.add_comm] using main (pw := [a]) (pw' := [y]) (pc := 0) (pc' := 1) g g' (fun z => (A.keep z).cast rfl rfl (by omega)) (fun z => (A.swap z).cast rfl rfl (by omega)) (by simp) (by simp) (by simpa using hN) (by simpa using l1) (by simpa using l2) (by simpa using e)
        | @swap _ x _ w1 c1 g => simpa [Nat.add_comm] using main (pw := [x]) (pw' := [y]) (pc := 1) (pc' := 1) g g' (fun z => (A.swap z).cast rfl rfl (by omega)) (fun z => (A.swap z).cast rfl rfl (by omega)) (by simp) (by simp) (by simpa using hN) (by simpa using l1) (by simpa using l2) (by simpa using e)
        | @drop _ _ _ c1 g => simpa [Nat.add_comm] using main (pw := []) (pw' := [y]) (pc := 1) (pc' := 1) g g' (fun z => (A.drop z).cast rfl rfl (by omega)) (fun z => (A.swap z).cast rfl rfl (by omega)) (by simp) (by simp) (by simpa using hN) (by simpa using l1) (by simpa using l2) (by simpa using e)
      | @drop a u _ c1' g' =>
        cases h with
        | @add b' _ w1 c1 g =>
          simp only [List.length_cons] at hN l1 l2 e
          obtain ⟨p, q, s, t, s', t', d1, d2, d3, d4, e0, rfl, e00, a1, a2, a3, a4, e1, e2, e3⟩ := ih (k := k) (b := b) (by simp only [List.length_cons]; omega) g (A.drop g') (by omega) (by omega)
          exact ⟨p, q, b' :: s, t, s', t', d1 + 1, d2, d3, d4, e0, rfl, e00, .add a1, a2, a3, a4, by omega, e2, e3⟩
        | @keep _ _ w1 c1 g => simpa [Nat.add_comm] using main (pw := [a]) (pw' := []) (pc := 0) (pc' := 1) g g' (fun z => (A.keep z).cast rfl rfl (by omega)) (fun z => (A.drop z).cast rfl rfl (by omega)) (by simp) (by simp) (by simpa using hN) (by simpa using l1) (by simpa using l2) (by simpa using e)
        | @swap _ x _ w1 c1 g => simpa [Nat.add_comm] using main (pw := [x]) (pw' := []) (pc := 1) (pc' := 1) g g' (fun z => (A.swap z).cast rfl rfl (by omega)) (fun z => (A.drop z).cast rfl rfl (by omega)) (by simp) (by simp) (by simpa using hN) (by simpa using l1) (by simpa using l2) (by simpa using e)
        | @drop _ _ _ c1 g => simpa [Nat.add_comm] using main (pw := []) (pw' := []) (pc := 1) (pc' := 1) g g' (fun z => (A.drop z).cast rfl rfl (by omega)) (fun z => (A.drop z).cast rfl rfl (by omega)) (by simp) (by simp) (by simpa using hN) (by simpa using l1) (by simpa using l2) (by simpa using e)
/-! ### rounds -/
def rounds : Nat → List α → List α
  | 0, _ => []
  | n + 1, v => v ++ rounds n v
theorem rounds_len (n : Nat) (v : List α) : (rounds n v).length = n * v.length := by
  induction n with
  | zero => simp [rounds]
  | succ n ih => simp [rounds, ih, Nat.succ_mul]; omega
theorem rounds_get (n : Nat) (v : List α) {i : Nat} (h : i < n * v.length) : (rounds n v)[i]? = v[i % v.length]? := by
  induction n generalizing i with
  | zero => omega
  | succ n ih =>
    show (v ++ rounds n v)[i]? = _
    rw [Nat.succ_mul] at h
    rcases Nat.lt_or_ge i v.length with q | q
    · rw [List.getElem?_append_left q, Nat.mod_eq_of_lt q]
    · rw [List.getElem?_append_right q, ih (by omega)]
      congr 1
      conv => rhs; rw [← Nat.sub_add_cancel q, Nat.add_mod_right]
/-- a piece of rounds that is as long as the text is a turn of it; the rest are rounds -/
theorem piece {n : Nat} {v x y z : List α} (h : rounds (n + 1) v = x ++ y ++ z) (hy : y.length = v.length) : Turn v y ∧ x ++ z = rounds n v := by
  by_cases hv : v.length = 0
  · have e1 : v = [] := List.eq_nil_of_length_eq_zero hv
    subst e1
    have hz : ∀ n, rounds n ([] : List α) = [] := fun n => List.eq_nil_of_length_eq_zero (by rw [rounds_len]; simp)
    rw [hz] at h
    have h' := congrArg List.length h
    simp only [List.length_nil, List.length_append] at h'
    have e2 : x = [] := List.eq_nil_of_length_eq_zero (by omega)
    have e3 : y = [] := List.eq_nil_of_length_eq_zero (by omega)
    have e4 : z = [] := List.eq_nil_of_length_eq_zero (by omega)
    subst e2 e3 e4
    exact ⟨Turn.refl _, (hz n).symm⟩
  have pos : 0 < v.length := Nat.pos_of_ne_zero hv
  have hl := congrArg List.length h
  rw [rounds_len, List.length_append, List.length_append, Nat.succ_mul] at hl
  have G : ∀ i, i < (n + 1) * v.length → (x ++ y ++ z)[i]? = v[i % v.length]? := fun i hi => by rw [← h]; exact rounds_get (n + 1) v hi
  rw [Nat.succ_mul] at G
  constructor
  · have e : y = v.drop (x.length % v.length) ++ v.take (x.length % v.length) := by
      have lt := Nat.mod_lt x.length pos
      apply List.ext_getElem?
      intro i
      rcases Nat.lt_or_ge i y.length with q | q
      · have g := G (x.length + i) (by omega)
        rw [List.append_assoc, List.getElem?_append_right (by omega), Nat.add_sub_cancel_left, List.getElem?_append_left q] at g
        rw [g]
        rcases Nat.lt_or_ge i (v.length - x.length % v.length) with q2 | q2
        · rw [List.getElem?_append_left (by rw [List.length_drop]; exact q2), List.getElem?_drop]
          congr 1
          rw [Nat.add_mod, Nat.mod_eq_of_lt (show i < v.length by omega), Nat.mod_eq_of_lt (by omega)]
        · rw [List.getElem?_append_right (by rw [List.length_drop]; exact q2), List.length_drop, List.getElem?_take, if_pos (by omega)]
          congr 1
          rw [Nat.add_mod, Nat.mod_eq_of_lt (show i < v.length by omega), Nat.mod_eq_sub_mod (by omega), Nat.mod_eq_of_lt (by omega)]
          omega
      · rw [List.getElem?_eq_none q, List.getElem?_eq_none (by simp only [List.length_append, List.length_drop, List.length_take]; omega)]
    rw [e]
    exact Turn.at v _
  · apply List.ext_getElem?
    intro i
    rcases Nat.lt_or_ge i (n * v.length) with q | q
    · rw [rounds_get n v q]
      rcases Nat.lt_or_ge i x.length with q2 | q2
      · rw [List.getElem?_append_left q2]
        have g := G i (by omega)
        rw [List.append_assoc, List.getElem?_append_left q2] at g
        exact g
      · rw [List.getElem?_append_right q2]
        have g := G (i + v.length) (by omega)
        rw [List.getElem?_append_right (by rw [List.length_append]; omega), List.length_append, Nat.add_mod_right] at g
        rw [← g]
        congr 1
        omega
    · rw [List.getElem?_eq_none (by rw [List.length_append]; omega), List.getElem?_eq_none (by rw [rounds_len]; omega)]
/-- the parts of a text that go with each round of u -/
inductive Blocks (u : List α) : Nat → List α → Nat → Prop where
  | nil : Blocks u 0 [] 0
  | cons {n w v c d} : A u w c → Blocks u n v d → Blocks u (n + 1) (w ++ v) (c + d)
theorem blocks_of {u : List α} : ∀ {n : Nat} {v : List α} {c : Nat}, A (rounds (n + 1) u) v c → Blocks u (n + 1) v c
  | 0, v, c, h => by
    have h' : A u v c := h.cast (List.append_nil u) rfl rfl
    have := Blocks.cons h' .nil
    rw [List.append_nil] at this
    exact this
  | n + 1, v, c, h => by
    obtain ⟨v1, v2, c1, c2, rfl, h1, h2, rfl⟩ := h.split u (rounds (n + 1) u) rfl
    exact .cons h1 (blocks_of h2)
def Gone (u : List α) (b n : Nat) (V : List α) (c : Nat) : Prop :=
  ∃ x y z c1 c2 u', V = x ++ y ++ z ∧ y.length = b ∧ Blocks u n (x ++ z) c1 ∧ Turn u u' ∧ A u' y c2 ∧ c = c1 + c2
theorem tri {u : List α} {b : Nat} : ∀ {n : Nat} {V : List α} {c : Nat}, Blocks u (n + 1) V c →
    (∃ w V' c1 d, V = w ++ V' ∧ A u w c1 ∧ Blocks u n V' d ∧ c = c1 + d ∧ w.length < b ∧ V.length < (n + 1) * b) ∨
    (∃ w V' c1 d, V = w ++ V' ∧ A u w c1 ∧ Blocks u n V' d ∧ c = c1 + d ∧ b < w.length ∧ (n + 1) * b < V.length) ∨ Gone u b n V c := by
  intro n
  induction n with
  | zero =>
    intro V c h
    cases h with
    | @cons _ w V' c d h1 h2 =>
      cases h2
      rcases Nat.lt_trichotomy w.length b with q | q | q
      · exact .inl ⟨w, [], c, 0, rfl, h1, .nil, rfl, q, by simp; exact q⟩
      · exact .inr (.inr ⟨[], w, [], 0, c, u, by simp, q, .nil, Turn.refl u, h1, by omega⟩)
      · exact .inr (.inl ⟨w, [], c, 0, rfl, h1, .nil, rfl, q, by simp; exact q⟩)
  | succ n ih =>
    intro V c h
    cases h with
    | @cons _ w V' c d h1 h2 =>
      have em : (n + 1 + 1) * b = (n + 1) * b + b := Nat.succ_mul _ _
      rcases ih h2 with ⟨w', V'', c', d', rfl, g1, g2, rfl, l1, l2⟩ | ⟨w', V'', c', d', rfl, g1, g2, rfl, l1, l2⟩ | ⟨x, y, z, d1, d2, u', rfl, hy, g1, g2, g3, rfl⟩
      · rcases Nat.lt_trichotomy w.length b with q | q | q
        · exact .inl ⟨w, _, c, _, rfl, h1, h2, rfl, q, by rw [List.length_append]; omega⟩
        · exact .inr (.inr ⟨[], w, _, _, c, u, by simp, q, h2, Turn.refl u, h1, by omega⟩)
        · -- longer, then shorter
          obtain ⟨p, q', s, t, s', t', k1, k2, k3, k4, rfl, rfl, rfl, a1, a2, a3, a4, rfl, rfl, e⟩ := window _ (k := 0) (b := w.length + w'.length - b) (Nat.le_refl _) g1 h1 (by omega) (by omega)
          simp only [List.length_append] at e q l1
          refine .inr (.inr ⟨s', t' ++ s, t ++ V'', (k3 + k2) + d', k4 + k1, q' ++ p, by simp, by rw [List.length_append]; omega, ?_, ⟨p, q', rfl, rfl⟩, a4.append a1, by omega⟩)
          have := Blocks.cons (a3.append a2) g2
          rw [List.append_assoc] at this
          exact this
      · rcases Nat.lt_trichotomy w.length b with q | q | q
        · obtain ⟨p, q', s, t, s', t', k1, k2, k3, k4, rfl, rfl, rfl, a1, a2, a3, a4, rfl, rfl, e⟩ := window _ (k := 0) (b := b) (Nat.le_refl _) h1 g1 (by omega) (by omega)
          refine .inr (.inr ⟨s, t ++ s', t' ++ V'', (k1 + k4) + d', k2 + k3, q' ++ p, by simp, by rw [List.length_append]; omega, ?_, ⟨p, q', rfl, rfl⟩, a2.append a3, by omega⟩)
          have := Blocks.cons (a1.append a4) g2
          rw [List.append_assoc] at this
          exact this
        · exact .inr (.inr ⟨[], w, _, _, c, u, by simp, q, h2, Turn.refl u, h1, by omega⟩)
        · exact .inr (.inl ⟨w, _, c, _, rfl, h1, h2, rfl, q, by rw [List.length_append]; omega⟩)
      · refine .inr (.inr ⟨w ++ x, y, z, c + d1, d2, u', by simp, hy, ?_, g2, g3, by omega⟩)
        rw [List.append_assoc]
        exact .cons h1 g1
/-- rounds are at least as far apart as so many turns -/
theorem rounds_ge {u v : List α} {r : Nat} (hr : ∀ w c, Turn v w → A u w c → r ≤ c) : ∀ {n : Nat} {c : Nat}, Blocks u (n + 1) (rounds (n + 1) v) c → (n + 1) * r ≤ c := by
  intro n
  induction n with
  | zero =>
    intro c h
    rw [show rounds 1 v = v from List.append_nil v] at h
    generalize e : v = V at h
    cases h with
    | @cons _ w V' c d h1 h2 =>
      cases h2
      rw [List.append_nil] at e
      subst e
      have := hr v c (Turn.refl v) h1
      omega
  | succ n ih =>
    intro c h
    have hl := rounds_len (n + 1 + 1) v
    rcases tri (b := v.length) h with ⟨w, V', c', d', e, g1, g2, _, l1, l2⟩ | ⟨w, V', c', d', e, g1, g2, _, l1, l2⟩ | ⟨x, y, z, d1, d2, u', e, hy, g1, g2, g3, rfl⟩
    · rw [hl] at l2; exact absurd l2 (Nat.lt_irrefl _)
    · rw [hl] at l2; exact absurd l2 (Nat.lt_irrefl _)
    · obtain ⟨ht, hz⟩ := piece e hy
      rw [hz] at g1
      have k1 := ih g1
      obtain ⟨w, tw, aw⟩ := cut g2 ht g3
      have k2 := hr w d2 tw aw
      rw [Nat.succ_mul]
      omega
theorem rounds_A {u w : List α} {c : Nat} (h : A u w c) : ∀ n, A (rounds n u) (rounds n w) (n * c)
  | 0 => (A.nil).cast rfl rfl (by omega)
  | n + 1 => (h.append (rounds_A h n)).cast rfl rfl (by rw [Nat.succ_mul]; omega)
theorem rounds_turn (x y : List α) : ∀ n, rounds (n + 1) (x ++ y) = x ++ rounds n (y ++ x) ++ y
  | 0 => by simp [rounds]
  | n + 1 => by
    show (x ++ y) ++ rounds (n + 1) (x ++ y) = x ++ ((y ++ x) ++ rounds n (y ++ x)) ++ y
    rw [rounds_turn x y n]
    simp
theorem rounds_last (u : List α) : ∀ n, rounds (n + 1) u = rounds n u ++ u
  | 0 => by simp [rounds]
  | n + 1 => by
    show u ++ rounds (n + 1) u = (u ++ rounds n u) ++ u
    rw [rounds_last u n]; simp
theorem rounds_le {u v w : List α} {c : Nat} (ht : Turn v w) (h : A u w c) (n : Nat) : ∃ d, A (rounds (n + 1) u) (rounds (n + 1) v) d ∧ d ≤ n * c + u.length + v.length := by
  obtain ⟨x, y, rfl, rfl⟩ := ht
  refine ⟨_, (((A.adds x).append (rounds_A h n)).append ((A.drops u).append (A.adds y))).cast (by simp [rounds_last]) (by rw [rounds_turn]; simp) rfl, ?_⟩
  simp only [List.length_append]; omega
/-! ### the price of rounds -/
variable [DecidableEq α]
/-- the least of the distances of u and the turns of v -/
def Rp (u v : List α) (r : Nat) : Prop := (∃ w, Turn v w ∧ D u w = r) ∧ ∀ w, Turn v w → r ≤ D u w
theorem Rp.uniq {u v : List α} {r r' : Nat} (h : Rp u v r) (h' : Rp u v r') : r = r' := by
  obtain ⟨⟨w, t, e⟩, k⟩ := h
  obtain ⟨⟨w', t', e'⟩, k'⟩ := h'
  have := k w' t'
  have := k' w t
  omega
theorem Rp.turns {u u' v v' : List α} {r : Nat} (h : Rp u v r) (hu : Turn u u') (hv : Turn v v') : Rp u' v' r := by
  obtain ⟨⟨w, t, e⟩, k⟩ := h
  have low : ∀ w', Turn v' w' → r ≤ D u' w' := fun w' t' => by
    obtain ⟨w2, t2, a2⟩ := cut hu (hv.trans t') (D_A u' w')
    exact Nat.le_trans (k w2 t2) (D_le a2)
  obtain ⟨w2, t2, a2⟩ := cut (v := v') hu.symm (hv.symm.trans t) (D_A u w)
  have := D_le a2
  have := low w2 t2
  exact ⟨⟨w2, t2, by omega⟩, low⟩
theorem Rp.symm {u v : List α} {r : Nat} (h : Rp u v r) : Rp v u r := by
  obtain ⟨⟨w, t, e⟩, k⟩ := h
  have low : ∀ w', Turn u w' → r ≤ D v w' := fun w' t' => by
    obtain ⟨w2, t2, a2⟩ := cut t' (Turn.refl v) (D_A v w').symm
    exact Nat.le_trans (k w2 t2) (D_le a2)
  obtain ⟨w2, t2, a2⟩ := cut (v := u) t (Turn.refl u) (D_A u w).symm
  have := D_le a2
  have := low w2 t2
  exact ⟨⟨w2, t2, by omega⟩, low⟩
theorem Rp.self {u w : List α} (h : Turn u w) : Rp u w 0 := ⟨⟨u, h.symm, D_self u⟩, fun _ _ => Nat.zero_le _⟩
theorem Rp.ge {u v : List α} {r : Nat} (h : Rp u v r) (n : Nat) : (n + 1) * r ≤ D (rounds (n + 1) u) (rounds (n + 1) v) :=
  rounds_ge (fun w c t a => Nat.le_trans (h.2 w t) (D_le a)) (blocks_of (D_A _ _))
theorem Rp.le {u v : List α} {r : Nat} (h : Rp u v r) (n : Nat) : D (rounds (n + 1) u) (rounds (n + 1) v) ≤ n * r + u.length + v.length := by
  obtain ⟨⟨w, t, rfl⟩, _⟩ := h
  obtain ⟨d, a, hd⟩ := rounds_le t (D_A u w) n
  exact Nat.le_trans (D_le a) hd
/-- the turns by their places -/
theorem turn_at {v w : List α} (h : Turn v w) : ∃ k, k < max 1 v.length ∧ w = v.drop k ++ v.take k := by
  obtain ⟨x, y, rfl, rfl⟩ := h
  by_cases e : y = []
  · subst e
    exact ⟨0, by omega, by simp⟩
  · have : 0 < y.length := List.length_pos_iff.mpr e
    exact ⟨x.length, by rw [List.length_append]; omega, by simp⟩
end
end Lev

set_option Elab.async false
set_option linter.all false
set_option maxHeartbeats 400000
namespace Lev
section
variable {α : Type} [DecidableEq α]
/-! ### turns by a number, and roots -/
def rot (k : Nat) (v : List α) : List α := v.drop k ++ v.take k
theorem rot_len (k : Nat) (v : List α) : (rot k v).length = v.length := by
  unfold rot; rw [List.length_append, List.length_drop, List.length_take]; omega
theorem rot_get {k : Nat} {v : List α} (hk : k ≤ v.length) {i : Nat} (hi : i < v.length) : (rot k v)[i]? = v[(i + k) % v.length]? := by
  unfold rot
  by_cases h : i < v.length - k
  · rw [List.getElem?_append_left (by rw [List.length_drop]; exact h), List.getElem?_drop, Nat.mod_eq_of_lt (by omega), Nat.add_comm]
  · rw [List.getElem?_append_right (by rw [List.length_drop]; omega), List.length_drop, List.getElem?_take, if_pos (by omega)]
    have e : i + k = (i - (v.length - k)) + v.length := by omega
    rw [e, Nat.add_mod_right, Nat.mod_eq_of_lt (by omega)]
/-- each letter is the one so many places on -/
def Pr (v u : List α) (s : Nat) : Prop := ∀ i, i < v.length → v[(i + s) % v.length]? = u[i]?
theorem rot_eq {k : Nat} {v u : List α} (hk : k ≤ v.length) (hl : u.length = v.length) : rot k v = u ↔ Pr v u k := by
  constructor
  · intro h i hi
    rw [← h, rot_get hk hi]
  · intro h
    apply List.ext_getElem?
    intro i
    by_cases hi : i < v.length
    · rw [rot_get hk hi]; exact h i hi
    · rw [List.getElem?_eq_none (by rw [rot_len]; omega), List.getElem?_eq_none (by omega)]
theorem Pr.zero (v : List α) : Pr v v 0 := fun i hi => by rw [Nat.add_zero, Nat.mod_eq_of_lt hi]
theorem Pr.whole (v : List α) : Pr v v v.length := fun i hi => by rw [Nat.add_mod_right, Nat.mod_eq_of_lt hi]
theorem Pr.add {v u : List α} {s t : Nat} (h : Pr v v s) (g : Pr v u t) : Pr v u (t + s) := fun i hi => by
  have e := h ((i + t) % v.length) (Nat.mod_lt _ (by omega))
  rw [Nat.mod_add_mod] at e
  rw [← Nat.add_assoc, e, g i hi]
theorem Pr.sub {v u : List α} {s t : Nat} (h : Pr v v s) (g : Pr v u (t + s)) : Pr v u t := fun i hi => by
  have e := h ((i + t) % v.length) (Nat.mod_lt _ (by omega))
  rw [Nat.mod_add_mod] at e
  rw [← e, Nat.add_assoc, g i hi]
theorem Pr.mul {v : List α} {s : Nat} (h : Pr v v s) : ∀ q, Pr v v (q * s)
  | 0 => by rw [Nat.zero_mul]; exact Pr.zero v
  | q + 1 => by rw [Nat.succ_mul]; exact h.add (Pr.mul h q)
theorem Pr.mod {v u : List α} {s t : Nat} (h : Pr v v s) (g : Pr v u t) : Pr v u (t % s) := by
  refine Pr.sub (h.mul (t / s)) ?_
  rw [Nat.mul_comm, Nat.mod_add_div]; exact g
theorem Pr.diff {v u : List α} {s t : Nat} (h : Pr v u s) (g : Pr v u (t + s)) : Pr v v t := fun i hi => by
  -- the letters i + t and i are both read by u
  have hv : 0 < v.length := by omega
  -- choose j with j + s ≡ i
  have key : ∃ j, j < v.length ∧ (j + s) % v.length = i := by
    refine ⟨(i + (v.length - s % v.length)) % v.length, Nat.mod_lt _ hv, ?_⟩
    rw [Nat.mod_add_mod]
    have hs := Nat.mod_lt s hv
    have e : i + (v.length - s % v.length) + s = i + v.length * (s / v.length + 1) := by
      have := Nat.mod_add_div s v.length
      rw [Nat.mul_add, Nat.mul_one]
      generalize v.length * (s / v.length) = z at *
      omega
    rw [e, Nat.add_mul_mod_self_left, Nat.mod_eq_of_lt hi]
  obtain ⟨j, hj, ej⟩ := key
  have e1 := h j hj
  have e2 := g j hj
  rw [ej] at e1
  have e3 : (j + (t + s)) % v.length = (i + t) % v.length := by
    rw [show j + (t + s) = (j + s) + t by omega, ← Nat.mod_add_mod, ej]
  rw [e3] at e2
  rw [e2, e1]
instance (v u : List α) (s : Nat) : Decidable (Pr v u s) := by unfold Pr; infer_instance
/-- the length of the root -/
def rho (v : List α) : Nat := ((List.range v.length).find? fun s => decide (Pr v v (s + 1))).elim 0 (· + 1)
theorem rho_nil : rho ([] : List α) = 0 := rfl
theorem find_range {n : Nat} {p : Nat → Bool} {s : Nat} (h : (List.range n).find? p = some s) : s < n ∧ p s = true ∧ ∀ t, t < s → p t = false := by
  have e := List.find?_eq_some_iff_getElem.mp h
  obtain ⟨h1, i, hi, h2, h3⟩ := e
  rw [List.length_range] at hi
  rw [List.getElem_range] at h2
  subst h2
  exact ⟨hi, h1, fun t ht => by have := h3 t ht; rw [List.getElem_range] at this; simpa using this⟩
theorem rho_spec {v : List α} (hv : v ≠ []) : 0 < rho v ∧ rho v ≤ v.length ∧ Pr v v (rho v) ∧ ∀ t, 0 < t → t < rho v → ¬ Pr v v t := by
  have hl : 0 < v.length := List.length_pos_iff.mpr hv
  unfold rho
  cases h : (List.range v.length).find? fun s => decide (Pr v v (s + 1)) with
  | none =>
    have := List.find?_eq_none.mp h (v.length - 1) (List.mem_range.mpr (by omega))
    rw [show v.length - 1 + 1 = v.length by omega] at this
    exact absurd (decide_eq_true (Pr.whole v)) this
  | some s =>
    obtain ⟨h1, h2, h3⟩ := find_range h
    refine ⟨Nat.succ_pos _, h1, of_decide_eq_true h2, fun t t0 t1 => ?_⟩
    have := h3 (t - 1) (by have : t < s + 1 := t1; omega)
    rw [show t - 1 + 1 = t by omega] at this
    exact of_decide_eq_false this
theorem rho_le (v : List α) : rho v ≤ v.length := by
  by_cases h : v = []
  · subst h; exact Nat.le_refl _
  · exact (rho_spec h).2.1
theorem rho_least {v : List α} (hv : v ≠ []) {t : Nat} (t0 : 0 < t) (h : Pr v v t) : rho v ≤ t := by
  obtain ⟨_, _, _, k⟩ := rho_spec hv
  rcases Nat.lt_or_ge t (rho v) with q | q
  · exact absurd h (k t t0 q)
  · exact q
theorem rho_eq {v : List α} (hv : v ≠ []) {s : Nat} (s0 : 0 < s) (h : Pr v v s) (k : ∀ t, 0 < t → t < s → ¬ Pr v v t) : rho v = s := by
  refine Nat.le_antisymm (rho_least hv s0 h) ?_
  obtain ⟨a, _, c, _⟩ := rho_spec hv
  rcases Nat.lt_or_ge (rho v) s with q | q
  · exact absurd c (k _ a q)
  · exact q
theorem rho_dvd {v : List α} (hv : v ≠ []) {t : Nat} (h : Pr v v t) : t % rho v = 0 := by
  obtain ⟨a, _, c, k⟩ := rho_spec hv
  rcases Nat.eq_zero_or_pos (t % rho v) with q | q
  · exact q
  · exact absurd (Pr.mod c h) (k _ q (Nat.mod_lt _ a))
/-- the rounds of a piece -/
theorem rounds_Pr {w : List α} (hw : w ≠ []) (k : Nat) (s : Nat) : Pr (rounds (k + 1) w) (rounds (k + 1) w) s ↔ Pr w w s := by
  have hm : 0 < w.length := List.length_pos_iff.mpr hw
  have hl : (rounds (k + 1) w).length = (k + 1) * w.length := rounds_len _ _
  have get : ∀ i, (rounds (k + 1) w)[i % ((k + 1) * w.length)]? = w[i % w.length]? := fun i => by
    rw [rounds_get _ _ (Nat.mod_lt _ (Nat.mul_pos (Nat.succ_pos _) hm)), Nat.mod_mod_of_dvd _ (Nat.dvd_mul_left _ _)]
  constructor
  · intro h i hi
    have e := h i (by rw [hl, Nat.succ_mul]; omega)
    rw [hl, get] at e
    have e2 := get i
    rw [Nat.mod_eq_of_lt (by rw [Nat.succ_mul]; omega), Nat.mod_eq_of_lt hi] at e2
    rw [e, e2]
  · intro h i hi
    rw [hl] at hi
    rw [hl, get]
    have e2 := get i
    rw [Nat.mod_eq_of_lt hi] at e2
    rw [e2]
    have := h (i % w.length) (Nat.mod_lt _ hm)
    rw [Nat.mod_add_mod] at this
    exact this
theorem rounds_ne {w : List α} (hw : w ≠ []) (k : Nat) : rounds (k + 1) w ≠ [] := by
  intro h
  have := congrArg List.length h
  rw [rounds_len, Nat.succ_mul, List.length_nil] at this
  have := List.length_pos_iff.mpr hw
  omega
theorem rho_rounds {w : List α} (hw : w ≠ []) (k : Nat) : rho (rounds (k + 1) w) = rho w := by
  obtain ⟨a, _, c, d⟩ := rho_spec hw
  exact rho_eq (rounds_ne hw k) a ((rounds_Pr hw k _).mpr c) fun t t0 t1 h => d t t0 t1 ((rounds_Pr hw k _).mp h)
theorem rho_ext {v w : List α} (h : ∀ s, Pr v v s ↔ Pr w w s) (hv : v ≠ []) (hw : w ≠ []) : rho v = rho w := by
  obtain ⟨a, _, c, d⟩ := rho_spec hw
  exact rho_eq hv a ((h _).mpr c) fun t t0 t1 q => d t t0 t1 ((h _).mp q)
/-- a text is the rounds of a beginning of s letters exactly if s divides and it is periodic -/
theorem rounds_iff {v : List α} {s : Nat} (s0 : 0 < s) (hs : s ≤ v.length) : (v.length % s = 0 ∧ rounds (v.length / s) (v.take s) = v) ↔ (v.length % s = 0 ∧ Pr v v s) := by
  have lt : (v.take s).length = s := by rw [List.length_take]; omega
  constructor
  · rintro ⟨h1, h2⟩
    refine ⟨h1, ?_⟩
    have hq : 0 < v.length / s := Nat.div_pos hs s0
    obtain ⟨k, hk⟩ : ∃ k, v.length / s = k + 1 := ⟨v.length / s - 1, by omega⟩
    rw [hk] at h2
    have hw : v.take s ≠ [] := by intro z; rw [z] at lt; simp at lt; omega
    have := (rounds_Pr hw k s).mpr (by have := Pr.whole (v.take s); rw [lt] at this; exact this)
    rw [h2] at this
    exact this
  · rintro ⟨h1, h2⟩
    refine ⟨h1, ?_⟩
    have hd : v.length / s * s = v.length := Nat.div_mul_cancel (Nat.dvd_of_mod_eq_zero h1)
    apply List.ext_getElem?
    intro i
    by_cases hi : i < v.length
    · rw [rounds_get _ _ (by rw [lt, hd]; exact hi), lt, List.getElem?_take, if_pos (Nat.mod_lt _ s0)]
      have e := h2.mul (i / s) (i % s) (Nat.lt_of_lt_of_le (Nat.mod_lt _ s0) hs)
      rw [Nat.mul_comm, Nat.mod_add_div, Nat.mod_eq_of_lt hi] at e
      exact e.symm
    · rw [List.getElem?_eq_none (by rw [rounds_len, lt, hd]; omega), List.getElem?_eq_none (by omega)]
theorem rho_rounds_of {v : List α} (hv : v ≠ []) : v.length % rho v = 0 ∧ rounds (v.length / rho v) (v.take (rho v)) = v := by
  obtain ⟨a, b, c, _⟩ := rho_spec hv
  exact (rounds_iff a b).mpr ⟨rho_dvd hv (Pr.whole v), c⟩
def root (v : List α) : List α := v.take (rho v)
theorem root_nil : root ([] : List α) = [] := rfl
theorem root_len (v : List α) : (root v).length = rho v := by unfold root; rw [List.length_take]; have := rho_le v; omega
theorem root_ne {v : List α} (hv : v ≠ []) : root v ≠ [] := by
  intro h
  have := congrArg List.length h
  rw [root_len] at this
  have := (rho_spec hv).1
  simp at *; omega
theorem root_rounds {w : List α} (hw : w ≠ []) (k : Nat) : root (rounds (k + 1) w) = root w := by
  unfold root
  rw [rho_rounds hw]
  show (w ++ rounds k w).take (rho w) = _
  rw [List.take_append_of_le_length (rho_le w)]
theorem root_of {v : List α} (hv : v ≠ []) : ∃ k, v = rounds (k + 1) (root v) := by
  obtain ⟨h1, h2⟩ := rho_rounds_of hv
  have hq : 0 < v.length / rho v := Nat.div_pos (rho_le v) (rho_spec hv).1
  exact ⟨v.length / rho v - 1, by rw [show v.length / rho v - 1 + 1 = v.length / rho v by omega]; exact h2.symm⟩
theorem rounds_addR (v : List α) (n : Nat) : ∀ k, rounds (k + n) v = rounds k v ++ rounds n v
  | 0 => by rw [Nat.zero_add]; rfl
  | k + 1 => by
    rw [Nat.add_right_comm]
    show v ++ rounds (k + n) v = (v ++ rounds k v) ++ rounds n v
    rw [rounds_addR v n k, List.append_assoc]
/-- texts that commute are rounds of one text -/
theorem commute {N : Nat} : ∀ {x y : List α}, x.length + y.length ≤ N → x ≠ [] → y ≠ [] → x ++ y = y ++ x → ∃ z a b, z ≠ [] ∧ x = rounds (a + 1) z ∧ y = rounds (b + 1) z := by
  induction N with
  | zero => intro x y h hx _ _; exact absurd (List.length_eq_zero_iff.mp (by omega)) hx
  | succ N ih =>
    intro x y h hx hy e
    have px := List.length_pos_iff.mpr hx
    have py := List.length_pos_iff.mpr hy
    have one : ∀ {x y : List α}, x.length + y.length ≤ N + 1 → x ≠ [] → y ≠ [] → x ++ y = y ++ x → x.length < y.length → ∃ z a b, z ≠ [] ∧ x = rounds (a + 1) z ∧ y = rounds (b + 1) z := by
      intro x y h hx hy e l
      have px := List.length_pos_iff.mpr hx
      have hp : y = x ++ y.drop x.length := by
        have := congrArg (List.take x.length) e
        rw [List.take_left', List.take_append_of_le_length (by omega)] at this
        · conv => lhs; rw [← List.take_append_drop x.length y]
          rw [← this]
        · rfl
      generalize hy' : y.drop x.length = y' at hp
      have ly : y'.length = y.length - x.length := by rw [← hy', List.length_drop]
      rw [hp] at e
      have e2 : x ++ y' = y' ++ x := by
        rw [List.append_assoc] at e
        exact List.append_cancel_left e
      have hy2 : y' ≠ [] := by intro z; rw [z] at ly; simp at ly; omega
      obtain ⟨z, a, b, hz, e3, e4⟩ := ih (by omega) hx hy2 e2
      refine ⟨z, a, a + 1 + b, hz, e3, ?_⟩
      rw [hp, show a + 1 + b + 1 = (a + 1) + (b + 1) by omega, rounds_addR, ← e3, ← e4]
    rcases Nat.lt_trichotomy x.length y.length with l | l | l
    · exact one h hx hy e l
    · have : x = y := by
        have := congrArg (List.take x.length) e
        rw [List.take_left' rfl, List.take_left' l.symm] at this
        exact this
      subst this
      exact ⟨x, 0, 0, hx, by simp [rounds], by simp [rounds]⟩
    · obtain ⟨z, a, b, hz, e1, e2⟩ := one (by omega) hy hx e.symm l
      exact ⟨z, b, a, hz, e2, e1⟩
theorem root_commute {x y : List α} (hx : x ≠ []) (hy : y ≠ []) : root x = root y ↔ x ++ y = y ++ x := by
  constructor
  · intro h
    obtain ⟨a, ea⟩ := root_of hx
    obtain ⟨b, eb⟩ := root_of hy
    rw [← h] at eb
    rw [ea, eb, ← rounds_addR, ← rounds_addR, Nat.add_comm]
  · intro h
    obtain ⟨z, a, b, hz, e1, e2⟩ := commute (Nat.le_refl _) hx hy h
    rw [e1, e2, root_rounds hz, root_rounds hz]
end
end Lev

set_option Elab.async false
set_option linter.all false
set_option maxRecDepth 100000
set_option maxHeartbeats 4000000
/-! What the laws share: the box of draws, what stands, texts of small letters, what is shown. -/
namespace My
open PySem PySem.Spec PyProof.Rows L2
/-! ### the law's box of draws -/
def BoxO (n : Nat) (o : HO) : Prop := ∃ (a m c : Int) (b : Bool), o = .lst [.int a, .bl b, .int m, .int c] ∧ 0 ≤ m ∧ m < 2147483648 ∧ 0 ≤ c ∧ c ≤ n
def BoxAt (H : Hp) (p : Addr) (n : Nat) : Prop := ∃ o, H p = some o ∧ BoxO n o
theorem BoxAt.mono {H : Hp} {p : Addr} {n m : Nat} (h : BoxAt H p n) (l : n ≤ m) : BoxAt H p m := by
  obtain ⟨o, e, a, m', c, b, e2, h1, h2, h3, h4⟩ := h
  exact ⟨o, e, a, m', c, b, e2, h1, h2, h3, by omega⟩
/-- all but the box stands -/
def Kp (p : Addr) (H H' : Hp) : Prop := ∀ b o, b ≠ p → H b = some o → H' b = some o
theorem Kp.refl (p : Addr) (H : Hp) : Kp p H H := fun _ _ _ e => e
theorem Kp.trans {p : Addr} {H H1 H2 : Hp} (a : Kp p H H1) (b : Kp p H1 H2) : Kp p H H2 := fun c o n e => b c o n (a c o n e)
theorem Kp.of {p : Addr} {H H' : Hp} (s : Same H H') : Kp p H H' := fun b o _ e => s b o e
theorem Kp.new {p q : Addr} {H H' : Hp} {o : HO} (k : Kp p H H') (h : H' q = none) : Kp p H (upd H' q o) := fun b ob n e => by
  have := k b ob n e
  rw [upd_ne (ne_of_none this h)]; exact this
theorem BoxAt.new {p q : Addr} {H : Hp} {o : HO} {n : Nat} (h : BoxAt H p n) (hq : H q = none) : BoxAt (upd H q o) p n := by
  obtain ⟨ob, e, r⟩ := h
  exact ⟨ob, by rw [upd_ne (ne_of_none e hq)]; exact e, r⟩
theorem BoxAt.same {p : Addr} {H H' : Hp} {n : Nat} (h : BoxAt H p n) (s : Same H H') : BoxAt H' p n := by
  obtain ⟨ob, e, r⟩ := h
  exact ⟨ob, s _ _ e, r⟩
theorem Same.new {q : Addr} {H H' : Hp} {o : HO} (k : Same H H') (h : H' q = none) : Same H (upd H' q o) := fun b ob e => by
  have := k b ob e
  rw [upd_ne (ne_of_none this h)]; exact this
theorem cutV_to (xs : List V) (n : Nat) : cutV xs none (some (n : Int)) = xs.take n := by
  unfold cutV
  rw [HT.sIx_none, sIx_some, List.drop_zero, Nat.sub_zero]
  rcases Nat.le_total n xs.length with h | h
  · rw [Nat.min_eq_left h]
  · rw [Nat.min_eq_right h, List.take_of_length_le h, List.take_of_length_le (Nat.le_refl _)]
theorem Kp.upd {p : Addr} {H H' : Hp} {o : HO} (k : Kp p H H') : Kp p H (upd H' p o) := fun b ob n e => by
  rw [upd_ne n]; exact k b ob n e
theorem BoxO.at {H : Hp} {p : Addr} {n : Nat} {o : HO} (h : BoxO n o) : BoxAt (upd H p o) p n := ⟨o, upd_same, h⟩
def isT (z : Str) : Bool := (cs z).all low
def Big (u : List Nat) : Prop := u.length ≤ 100000
theorem Big.fits {u : List Nat} (h : Big u) : (S u).length ≤ sizeLine := by rw [S_len]; exact Nat.le_trans h (by decide)
theorem Big.lt {n : Nat} (h : n ≤ 100000) : n < sizeLine := Nat.lt_of_le_of_lt h (by decide)
theorem Big.dbl {u : List Nat} (h : Big u) : (S u).length + (S u).length ≤ sizeLine := by
  rw [S_len]
  have : u.length ≤ 100000 := h
  exact Nat.le_trans (by omega) (by decide : 200000 ≤ sizeLine)
theorem Big.two {a : Nat} {t : List Nat} (h : Big t) : (S (t.drop a)).length + (S (t.take a)).length ≤ sizeLine := by
  rw [S_len, S_len]
  have : t.length ≤ 100000 := h
  exact Nat.le_trans (by rw [List.length_drop, List.length_take]; omega) (by decide : 200000 ≤ sizeLine)
theorem tYesT {σ : L2.St} {H : Hp} {A B : Hp → Prop} (h : A H) : tYes σ H (fun b H3 => if b = true then A H3 else B H3) := by
  show (if true = true then A H else B H)
  rw [if_pos rfl]; exact h
theorem ixN_nat {n j : Nat} (h : j < n) : ixN n (j : Int) = some j := by
  unfold ixN
  rw [if_pos (by omega), if_pos (by omega), Int.toNat_natCast]
theorem ix_listK {X : Cx} {K : PySem.W.Frag} (e : X.K = K) : IxR X (rIxL K) := by rw [← e]; exact ix_list
/-! ### rounds as a product -/
theorem foldl_rep (x : Array Nat) : ∀ (n : Nat) (b : Array Nat), (List.replicate n x).foldl (· ++ ·) b = b ++ (Lev.rounds n x.toList).toArray
  | 0, b => by simp [Lev.rounds]
  | n + 1, b => by
    rw [List.replicate_succ, List.foldl_cons, foldl_rep x n]
    simp [Lev.rounds]
    obtain ⟨x⟩ := x
    simp
theorem rounds_nil : ∀ n, Lev.rounds n ([] : List Nat) = []
  | 0 => rfl
  | n + 1 => by simp [Lev.rounds, rounds_nil n]
theorem mul_S (x : List Nat) (n : Nat) : Txt.mul (S x) (n : Int) = S (Lev.rounds n x) := by
  unfold Txt.mul
  by_cases h : n = 0
  · subst h; rfl
  · rw [if_neg (by omega)]
    by_cases h1 : ((n : Int) == 1 || (S x).length == 0) = true
    · rw [if_pos h1]
      simp only [Bool.or_eq_true, beq_iff_eq] at h1
      rcases h1 with e | e
      · have : n = 1 := by omega
        subst this
        simp [Lev.rounds]
      · rw [S_len] at e
        have : x = [] := List.eq_nil_of_length_eq_zero e
        subst this
        rw [rounds_nil]
    · rw [if_neg h1, Int.toNat_natCast, foldl_rep]
      simp [S]
theorem mulOk_S {x : List Nat} {n : Nat} (hx : x.length ≤ 1000) (hn : n ≤ 1000) : MulOk (S x) (n : Int) := by
  refine ⟨?_, fun _ _ => ?_, fun _ _ => ?_⟩
  · simp only [Bool.or_eq_false_iff, decide_eq_false_iff_not]; omega
  · rw [S_len]
    rcases Nat.eq_zero_or_pos n with e | e
    · subst e; contradiction
    · have : ((2 : Int) ^ 63 - 1) / n ≥ ((2 : Int) ^ 63 - 1) / 1000 := by
        have h1 : (2 ^ 63 - 1 : Int) / 1000 * n ≤ 2 ^ 63 - 1 := by omega
        exact Int.le_ediv_of_mul_le (by omega) h1
      omega
  · rw [S_len, Int.toNat_natCast]
    have : x.length * n ≤ 1000 * 1000 := Nat.mul_le_mul hx hn
    show decide (x.length * n > sizeLine) = false
    rw [decide_eq_false_iff_not]
    exact Nat.not_lt.mpr (Nat.le_trans this (by decide))
/-! ### letters -/
def Low (t : List Nat) : Prop := ∀ c ∈ t, low c = true
theorem Low.isT {t : List Nat} (h : Low t) : isT (S t) = true := by
  unfold My.isT
  rw [S_tl]
  exact List.all_eq_true.mpr h
theorem Low.append {t u : List Nat} (h : Low t) (g : Low u) : Low (t ++ u) := fun c hc => by
  rcases List.mem_append.mp hc with q | q
  · exact h c q
  · exact g c q
theorem Low.take {t : List Nat} (h : Low t) (n : Nat) : Low (t.take n) := fun c hc => h c (List.mem_of_mem_take hc)
theorem Low.drop {t : List Nat} (h : Low t) (n : Nat) : Low (t.drop n) := fun c hc => h c (List.mem_of_mem_drop hc)
theorem Low.nil : Low [] := fun c hc => by cases hc
theorem Low.one {c : Nat} (h : low c = true) : Low [c] := fun d hd => by rw [List.mem_singleton.mp hd]; exact h
theorem Kp.free {p D : Addr} {H H' : Hp} {o : HO} (k : Kp p H H') (h : H D = none) : Kp p H (L2.upd H' D o) := fun b ob n e => by
  rw [upd_ne (ne_of_none e h)]; exact k b ob n e
theorem BoxAt.other {p q : Addr} {H : Hp} {o : HO} {n : Nat} (h : BoxAt H p n) (hq : p ≠ q) : BoxAt (upd H q o) p n := by
  obtain ⟨ob, e, r⟩ := h
  exact ⟨ob, by rw [upd_ne hq]; exact e, r⟩
theorem BoxAt.ne {p q : Addr} {H : Hp} {n : Nat} (h : BoxAt H p n) (hq : H q = none) : p ≠ q := by
  obtain ⟨ob, e, r⟩ := h
  exact ne_of_none e hq
theorem ones_sum (t : List Nat) : (List.map ((fun x : Str => x.length) ∘ fun c => S [c]) t).sum = t.length := by
  induction t with
  | nil => rfl
  | cons c r ih => rw [List.map_cons, List.sum_cons, ih, List.length_cons]; show 1 + _ = _; omega
theorem alpha_at {d : Nat} (h : d < 26) : atI (Str.ofString "abcdefghijklmnopqrstuvwxyz").cps.toList (d : Int) = some (97 + d) := by
  have e : (Str.ofString "abcdefghijklmnopqrstuvwxyz").cps.toList = (List.range 26).map (97 + ·) := by decide +kernel
  rw [e]
  exact atI_nat (by rw [List.getElem?_map, List.getElem?_range h]; rfl)
theorem low_alpha {d : Nat} (h : d < 26) : low (97 + d) = true := by
  unfold low; simp; omega
theorem join_ones (t : List Nat) : Txt.join (Str.ofString "") (t.map fun c => S [c]) = S t := by
  rw [TL.join_eq]
  have e : cs (Str.join (Str.ofString "") (t.map fun c => S [c])) = t := by
    rw [show cs (Str.join (Str.ofString "") (t.map fun c => S [c])) = TL.tl (Str.join (Str.ofString "") (t.map fun c => S [c])) from rfl, TL.tl_join, List.map_map]
    have go : ∀ t : List Nat, TL.joinL [] (t.map fun c => [c]) = t := by
      intro t
      induction t with
      | nil => rfl
      | cons c r ih =>
        cases r with
        | nil => rfl
        | cons d r => show [c] ++ ([] ++ TL.joinL [] ((d :: r).map fun c => [c])) = _; rw [ih]; rfl
    exact go t
  rw [← S_of (Str.join _ _), e]
/-- whether a value is a text, as is_text says -/
def Jd (K : PySem.W.Frag) (H : Hp) (x : V) (b : Bool) : Prop := (∃ z, x = .str z ∧ b = isT z) ∨ ∃ t, TyX K H x (.type t) ∧ kitB t "str" = some false ∧ b = false
/-- an error of class C, made of x -/
def Bad (C : Addr) (H : Hp) (x : V) (E : XK) : Prop := ∀ d H', Same H H' → H d = none → H' d = some (.xd (gvn x)) → E (.ref C) (some d) H'
theorem tyOf_same {K : PySem.W.Frag} {H H' : Hp} {x : V} {t : Value} (h : TyOf K H x t) (s : Same H H') : TyOf K H' x t := by
  cases h
  case non => exact .non
  case bl => exact .bl _
  case int => exact .int _
  case str => exact .str _
  case flt => exact .flt _
  case lst e => exact .lst (s _ _ e)
  case frz e => exact .frz (s _ _ e)
  case tup e => exact .tup (s _ _ e)
  case dK e => exact .dK (s _ _ e)
  case dT e => exact .dT (s _ _ e)
  case ins e cl ha hn htk hm => exact .ins (s _ _ e) cl ha hn htk hm
theorem tyX_same {K : PySem.W.Frag} {H H' : Hp} {x : V} {t : Value} (h : TyX K H x t) (s : Same H H') : TyX K H' x t := by
  cases h
  case base e => exact .base (tyOf_same e s)
  case byt => exact .byt _
  case set e => exact .set (s _ _ e)
  case kList e c => exact .kList e c
  case kTuple e c => exact .kTuple e c
  case kDict e c => exact .kDict e c
  case fTuple e => exact .fTuple (s _ _ e)
  case fDict e => exact .fDict (s _ _ e)
theorem Jd.same {K : PySem.W.Frag} {H H' : Hp} {x : V} {b : Bool} (h : Jd K H x b) (s : Same H H') : Jd K H' x b := by
  rcases h with h | ⟨t, h1, h2, h3⟩
  · exact .inl h
  · exact .inr ⟨t, tyX_same h1 s, h2, h3⟩
/-! ### what can be shown -/
def Sh (d : PyData) : Prop := d.showable = true ∧ d.depth ≤ 60 ∧ d.shown.length ≤ sizeLine
theorem sh_of {d : PyData} (h1 : d.showable = true) (h2 : d.depth ≤ 60) (h3 : d.leavesShort 40 = true) (h4 : d.weight ≤ 100000) : Sh d := by
  refine ⟨h1, h2, ?_⟩
  have e := PyData.shown_le 40 (by omega) d h3
  exact Nat.le_trans e (Nat.le_trans (by omega : (40 + 2) * d.weight + 40 ≤ 4200040) (by decide))
theorem log2_20 {r : Nat} (h : r < 1048576) : r.log2 < 20 := PySem.Flt.log2_lt_of (by decide) h
theorem short_int {r : Nat} (h : r < 1048576) : (PyData.int r).leavesShort 40 = true := by
  have e := int_text_length_le (a := (r : Int)) (k := 20) (by decide) (log2_20 h)
  have e2 : (PyData.int (r : Int)).shown = Str.ofString (toString (r : Int)) := by simp only [PyData.shown]
  unfold PyData.leavesShort
  refine decide_eq_true ?_
  rw [e2, PySem.ofString_length]
  omega
theorem show_int {r : Nat} (h : r < 1048576) : (PyData.int r).showable = true := by
  simp only [PyData.showable, decide_eq_true_eq]
  exact Nat.lt_trans (log2_20 h) (by decide)
theorem weight_int {r : Nat} (h : r < 1048576) : (PyData.int r).weight ≤ 21 := by
  simp only [PyData.weight]
  have := log2_20 h
  split
  · omega
  · show (r : Int).natAbs.log2 + 1 ≤ 21
    rw [Int.natAbs_natCast]; omega
theorem un64 {k : Nat} {A : Around} (hr : Room k A) : A.units + 64 < cLine := by have := hr.un; omega
theorem neSame {z : Str} {A B : Prop} (h : B) : if (!decide (V.str z = V.str z)) = true then A else B := by
  rw [decide_eq_true rfl]; exact iteF h
theorem jd_low {K : PySem.W.Frag} {H : Hp} {t : List Nat} (h : Low t) : Jd K H (.str (S t)) true := .inl ⟨_, rfl, h.isT.symm⟩
theorem eqT {i : Int} {A B : Prop} (h : A) : if decide (V.int i = V.int i) = true then A else B := by
  rw [decide_eq_true rfl]; exact iteT h
theorem eqF {i j : Int} {A B : Prop} (n : i ≠ j) (h : B) : if decide (V.int i = V.int j) = true then A else B := by
  rw [decide_eq_false (fun z => n (V.int.inj z))]; exact iteF h
theorem through2 {t : TE} {σ : L2.St} {H : Hp} {Q : VK} (R : V → Hp → Prop) (h : ∀ Q' : VK, (∀ v H', R v H' → Q' v H') → t σ H Q') (rest : ∀ v H', R v H' → Q v H') : t σ H Q := h Q rest
theorem eqS {z : Str} {A B : Prop} (h : A) : if decide (V.str z = V.str z) = true then A else B := by
  rw [decide_eq_true rfl]; exact iteT h
theorem dp_same {K : PySem.W.Frag} {H H' : Hp} (s : Same H H') {x : V} {d : PyData} (h : Dp K H x d) : Dp K H' x d :=
  Dp.rec (motive_1 := fun x d _ => Dp K H' x d) (motive_2 := fun xs ds _ => DpAll K H' xs ds) .non (fun _ => .bl _) (fun _ => .int _) (fun _ => .str _)
    (fun hs _ ih => .lst (hs.ext s) ih) (fun hs _ ih => .tup (hs.elim (fun h => .inl (h.elim (fun h => .inl (s _ _ h)) fun ⟨o, h⟩ => .inr ⟨o, s _ _ h⟩)) fun h => .inr h) ih) .nil (fun _ _ i1 i2 => .cons i1 i2) h
theorem Ds.same {K : PySem.W.Frag} {H H' : Hp} (s : Same H H') {x : V} {d : PyData} (h : Ds K H x d) : Ds K H' x d := by
  rcases h with h | ⟨a, kvs, ds, e, ea, r⟩
  · exact .inl (dp_same s h)
  · exact .inr ⟨a, kvs, ds, e, s _ _ ea, r⟩
theorem Kp.toSame {p : Addr} {H H1 H2 : Hp} (k : Kp p H1 H2) (s : Same H H1) (h : H p = none) : Same H H2 := fun b o e => k b o (ne_of_none e h) (s b o e)
theorem sh_str {z : List Nat} (h : z.length ≤ 1000) (hc : ∀ c ∈ z, c < 200) : Sh (.str (S z)) := by
  refine sh_of (by simp only [PyData.showable]) (by simp only [PyData.depth]; omega) ?_ ?_
  · unfold PyData.leavesShort
    rw [List.all_eq_true]
    intro c hcm
    have : c ∈ z := by rw [← S_tl z]; exact hcm
    have := hc c this
    exact decide_eq_true (by omega)
  · unfold PyData.weight
    show (S z).length ≤ 100000
    rw [S_len]; omega
/-! ### data that is small enough to be shown -/
structure Fit (x : PyData) (k w : Nat) : Prop where
  s : x.showable = true
  d : x.depth ≤ k
  l : x.leavesShort 40 = true
  w : x.weight ≤ w
structure FitAll (ds : List PyData) (k w : Nat) : Prop where
  s : PyData.showableAll ds = true
  d : PyData.depthAll ds ≤ k
  l : PyData.leavesShortAll 40 ds = true
  w : PyData.weightAll ds ≤ w
structure FitKv (ds : List (PyData × PyData)) (k w : Nat) : Prop where
  s : PyData.showableKv ds = true
  d : PyData.depthKv ds ≤ k
  l : PyData.leavesShortKv 40 ds = true
  w : PyData.weightKv ds ≤ w
theorem Fit.sh {d : PyData} {k w : Nat} (h : Fit d k w) (hk : k ≤ 60) (hw : w ≤ 100000) : Sh d := sh_of h.s (Nat.le_trans h.d hk) h.l (Nat.le_trans h.w hw)
theorem Fit.mono {d : PyData} {k w k' w' : Nat} (h : Fit d k w) (hk : k ≤ k') (hw : w ≤ w') : Fit d k' w' := ⟨h.s, Nat.le_trans h.d hk, h.l, Nat.le_trans h.w hw⟩
theorem FitAll.mono {d : List PyData} {k w k' w' : Nat} (h : FitAll d k w) (hk : k ≤ k') (hw : w ≤ w') : FitAll d k' w' := ⟨h.s, Nat.le_trans h.d hk, h.l, Nat.le_trans h.w hw⟩
theorem FitAll.nil {k : Nat} : FitAll [] k 0 := ⟨rfl, Nat.zero_le _, rfl, Nat.le_refl _⟩
theorem FitAll.cons {d : PyData} {ds : List PyData} {k w1 w2 : Nat} (h : Fit d k w1) (t : FitAll ds k w2) : FitAll (d :: ds) k (w1 + 1 + w2) := by
  refine ⟨?_, ?_, ?_, ?_⟩
  · unfold PyData.showableAll; rw [h.s, t.s]; rfl
  · unfold PyData.depthAll; have := h.d; have := t.d; omega
  · unfold PyData.leavesShortAll; rw [h.l, t.l]; rfl
  · unfold PyData.weightAll; have := h.w; have := t.w; omega
theorem Fit.list {ds : List PyData} {k w : Nat} (t : FitAll ds k w) : Fit (.list ds) (k + 1) w := by
  refine ⟨?_, ?_, ?_, ?_⟩
  · unfold PyData.showable; exact t.s
  · unfold PyData.depth; have := t.d; omega
  · unfold PyData.leavesShort; exact t.l
  · unfold PyData.weight; exact t.w
theorem Fit.tuple {ds : List PyData} {k w : Nat} (t : FitAll ds k w) : Fit (.tuple ds) (k + 1) w := by
  refine ⟨?_, ?_, ?_, ?_⟩
  · unfold PyData.showable; exact t.s
  · unfold PyData.depth; have := t.d; omega
  · unfold PyData.leavesShort; exact t.l
  · unfold PyData.weight; exact t.w
theorem Fit.none {k : Nat} : Fit .none k 0 := ⟨by unfold PyData.showable; rfl, by unfold PyData.depth; omega, by decide +kernel, by unfold PyData.weight; exact Nat.le_refl _⟩
theorem Fit.bool {b : Bool} {k : Nat} : Fit (.bool b) k 0 := ⟨by unfold PyData.showable; rfl, by unfold PyData.depth; omega, by cases b <;> decide +kernel, by unfold PyData.weight; exact Nat.le_refl _⟩
theorem Fit.nat {r k : Nat} (h : r < 1048576) : Fit (.int r) k 21 := ⟨show_int h, by unfold PyData.depth; omega, short_int h, weight_int h⟩
theorem Fit.str {z : List Nat} {k w : Nat} (h : z.length ≤ w) (hc : ∀ c ∈ z, c < 200) : Fit (.str (S z)) k w := by
  refine ⟨by unfold PyData.showable; rfl, by unfold PyData.depth; omega, ?_, ?_⟩
  · unfold PyData.leavesShort
    rw [List.all_eq_true]
    intro c hcm
    have : c ∈ z := by rw [← S_tl z]; exact hcm
    have := hc c this
    exact decide_eq_true (by omega)
  · unfold PyData.weight
    show (S z).length ≤ w
    rw [S_len]; exact h
theorem FitKv.nil {k : Nat} : FitKv [] k 0 := ⟨rfl, Nat.zero_le _, rfl, Nat.le_refl _⟩
theorem FitKv.cons {a b : PyData} {ds : List (PyData × PyData)} {k w1 w2 w3 : Nat} (h : Fit a k w1) (g : Fit b k w2) (t : FitKv ds k w3) : FitKv ((a, b) :: ds) k (w1 + w2 + 2 + w3) := by
  refine ⟨?_, ?_, ?_, ?_⟩
  · unfold PyData.showableKv; rw [h.s, g.s, t.s]; rfl
  · unfold PyData.depthKv; have := h.d; have := g.d; have := t.d; omega
  · unfold PyData.leavesShortKv; rw [h.l, g.l, t.l]; rfl
  · unfold PyData.weightKv; have := h.w; have := g.w; have := t.w; omega
theorem Fit.dict {ds : List (PyData × PyData)} {k w : Nat} (t : FitKv ds k w) : Fit (.dict ds) (k + 1) w := by
  refine ⟨?_, ?_, ?_, ?_⟩
  · unfold PyData.showable; exact t.s
  · unfold PyData.depth; have := t.d; omega
  · unfold PyData.leavesShort; exact t.l
  · unfold PyData.weight; exact t.w
abbrev natsD (ns : List Nat) : List PyData := ns.map fun (n : Nat) => PyData.int n
theorem FitAll.nats {k : Nat} : ∀ {ns : List Nat}, (∀ n ∈ ns, n < 1048576) → FitAll (natsD ns) k (22 * ns.length)
  | [], _ => FitAll.nil
  | n :: ns, h => (FitAll.cons (Fit.nat (h n List.mem_cons_self)) (FitAll.nats fun m hm => h m (List.mem_cons_of_mem _ hm))).mono (Nat.le_refl _) (by rw [List.length_cons]; omega)
theorem Low.lt {t : List Nat} (h : Low t) : ∀ c ∈ t, c < 200 := fun c hc => by
  have := h c hc
  unfold low at this
  simp only [Bool.and_eq_true, decide_eq_true_eq] at this
  omega
theorem dp_nats {K : PySem.W.Frag} {H : Hp} : ∀ ns : List Nat, DpAll K H (ns.map fun n => V.int (n : Nat)) (natsD ns)
  | [] => .nil
  | n :: ns => .cons (.int _) (dp_nats ns)
theorem un0 {k : Nat} {A : Around} (hr : Room k A) : A.units < cLine := Nat.lt_of_le_of_lt (Nat.le_add_right _ 64) (un64 hr)
end My

set_option Elab.async false
set_option linter.all false
set_option maxRecDepth 100000
set_option maxHeartbeats 4000000
/-! Values as data, empty dicts among them: what they are, their classes, == with a text, shown. -/
namespace L2
open PySem PySem.Spec PyProof.Rows
def kvV (p : Int × Int) : Key × V := (Sum.inl p.1, .int p.2)
def kvD (p : Int × Int) : PyData × PyData := (.int p.1, .int p.2)
/-! x is the data d; m: dicts are let, and then no list lies where the modules lie -/
mutual
inductive Dg (K : PySem.W.Frag) (H : Hp) (m : Bool) : V → PyData → Prop
  | non : Dg K H m .non .none
  | bl (b : Bool) : Dg K H m (.bl b) (.bool b)
  | int (i : Int) : Dg K H m (.int i) (.int i)
  | str (x : Str) : Dg K H m (.str x) (.str x)
  | lst {a : Addr} {xs : List V} {ds : List PyData} : SqL K H a xs → (m = true → (a == sysModules) = false) → DgAll K H m xs ds → Dg K H m (.ref a) (.list ds)
  | tup {a : Addr} {xs : List V} {ds : List PyData} : SqT K H a xs → DgAll K H m xs ds → Dg K H m (.ref a) (.tuple ds)
  | emp {a : Addr} : m = true → H a = some (.dK []) → Dg K H m (.ref a) (.dict [])
  | dct {a : Addr} (l : List (Int × Int)) : m = true → H a = some (.dK (l.map kvV)) → Dg K H m (.ref a) (.dict (l.map kvD))
inductive DgAll (K : PySem.W.Frag) (H : Hp) (m : Bool) : List V → List PyData → Prop
  | nil : DgAll K H m [] []
  | cons {v : V} {vs : List V} {d : PyData} {ds : List PyData} : Dg K H m v d → DgAll K H m vs ds → DgAll K H m (v :: vs) (d :: ds)
end
theorem dct_reads {P : Program} {w : World} (h : Heap) : ∀ (l : List (Int × Int)) (vs : List (Key × Value)) (es : List DictEntry), KV (l.map kvV) vs → PySem.Pairs (mixKind P w) es vs →
    ReadsAll h (es.map (·.key)) ((l.map kvD).map (·.1)) [] ∧ ReadsAll h (es.map (·.val)) ((l.map kvD).map (·.2)) []
  | [], _, _, hk, hp => by
    cases hk
    cases hp
    exact ⟨.nil, .nil⟩
  | (k, i) :: l, _, _, hk, hp => by
    cases hk with
    | cons h1 h2 =>
      obtain ⟨e1, r1⟩ := h1
      cases hp with
      | cons p1 p2 p3 =>
        rename_i q qs e es
        obtain ⟨qk, qv⟩ := q
        obtain rfl : Sum.inl k = qk := e1
        obtain ⟨t, rfl⟩ : ∃ t, qv = .int i t := r1
        obtain ⟨ih1, ih2⟩ := dct_reads h l qs es h2 p3
        have k1 : Value.isInt k e.key = true := p1
        obtain ⟨u, eu⟩ := Value.isInt_shape k1
        refine ⟨?_, ?_⟩
        · show ReadsAll h (e.key :: _) (.int k :: _) _
          rw [eu]
          exact ReadsAll.cons (Reads.int k u) ih1
        · show ReadsAll h (e.val :: _) (.int i :: _) _
          rw [p2]
          exact ReadsAll.cons (Reads.int i t) ih2
section
variable {X : Cx} {pins : List (Addr × Obj)} {σ : St} {H : Hp} {s : Shared} {m : Bool}
mutual
theorem Dg.reads (I : Inv X pins σ H s) : ∀ (d : PyData) (v : V) (u : Value), Dg X.K H m v d → RelV v u → ∃ as, Reads s.heap u d as ∧ (m = true → sysModules ∉ as)
  | .none, _, _, h, r => by
    cases h
    cases r
    exact ⟨_, Reads.none, fun _ => List.not_mem_nil⟩
  | .bool b, _, _, h, r => by
    cases h
    cases r
    exact ⟨_, Reads.bool b, fun _ => List.not_mem_nil⟩
  | .int i, _, _, h, r => by
    cases h
    obtain ⟨t, rfl⟩ := r
    exact ⟨_, Reads.int i t, fun _ => List.not_mem_nil⟩
  | .str x, _, _, h, r => by
    cases h
    obtain ⟨t, rfl⟩ := r
    exact ⟨_, Reads.str x t, fun _ => List.not_mem_nil⟩
  | .list ds, _, _, h, r => by
    cases h with
    | lst hs hl ha =>
      cases r
      obtain ⟨its, rv, ⟨o, n, ho, hc, _, hd⟩, _⟩ := I.list hs
      obtain ⟨as, hr, hm⟩ := Dg.readsAll I ds _ its ha rv
      refine ⟨_, Reads.list ho hc hd hr, fun e hh => ?_⟩
      rcases List.mem_cons.mp hh with q | q
      · have := hl e
        rw [← q] at this
        exact absurd this (by decide)
      · exact hm e q
  | .tuple ds, _, _, h, r => by
    cases h with
    | tup hs ha =>
      cases r
      obtain ⟨its, rv, ⟨o, ho, hc, n, hd⟩, _⟩ := I.tuple hs
      obtain ⟨as, hr, hm⟩ := Dg.readsAll I ds _ its ha rv
      exact ⟨_, Reads.tuple ho hc hd hr, hm⟩
  | .dict _, _, _, h, r => by
    cases h with
    | @emp a hm ha =>
      cases r
      obtain ⟨_, hsys, vs, hkv, od, es, ep, hget, hcl, hdat, hko, hps, _⟩ : ObjOk X.prog X.w H s.heap a (.dK []) := I.hok a _ ha
      cases hkv
      have he : es.toList = [] := by
        generalize es.toList = l at hps
        cases hps; rfl
      refine ⟨a :: [] ++ [], .dict hget hcl.1 hdat (by rw [he]; exact .nil) (by rw [he]; exact .nil), fun _ hh => ?_⟩
      have e : sysModules = a := by simpa using hh
      rw [← e] at hsys
      exact absurd hsys (by decide)
    | @dct a l hm ha =>
      cases r
      obtain ⟨_, hsys, vs, hkv, od, es, ep, hget, hcl, hdat, hko, hps, _⟩ : ObjOk X.prog X.w H s.heap a (.dK (l.map kvV)) := I.hok a _ ha
      obtain ⟨r1, r2⟩ := dct_reads s.heap l vs es.toList hkv hps
      refine ⟨a :: [] ++ [], .dict hget hcl.1 hdat r1 r2, fun _ hh => ?_⟩
      have e : sysModules = a := by simpa using hh
      rw [← e] at hsys
      exact absurd hsys (by decide)
theorem Dg.readsAll (I : Inv X pins σ H s) : ∀ (ds : List PyData) (vs : List V) (us : List Value), DgAll X.K H m vs ds → Vals vs us → ∃ as, ReadsAll s.heap us ds as ∧ (m = true → sysModules ∉ as)
  | [], _, _, h, r => by
    cases h
    cases r
    exact ⟨_, ReadsAll.nil, fun _ => List.not_mem_nil⟩
  | d :: ds, _, _, h, r => by
    cases h with
    | cons h1 h2 =>
      cases r with
      | cons r1 r2 =>
        obtain ⟨as, q1, n1⟩ := Dg.reads I d _ _ h1 r1
        obtain ⟨bs, q2, n2⟩ := Dg.readsAll I ds _ _ h2 r2
        exact ⟨_, ReadsAll.cons q1 q2, fun e hh => by
          rcases List.mem_append.mp hh with q | q
          · exact n1 e q
          · exact n2 e q⟩
end
end
theorem Dg.noDict {K : PySem.W.Frag} {H : Hp} {x : V} {d : PyData} (h : Dg K H false x d) : d.hasDict = false :=
  Dg.rec (motive_1 := fun _ d _ => d.hasDict = false) (motive_2 := fun _ ds _ => PyData.hasDictAll ds = false) rfl (fun _ => rfl) (fun _ => rfl) (fun _ => rfl)
    (fun _ _ _ ih => by unfold PyData.hasDict; exact ih) (fun _ _ ih => by unfold PyData.hasDict; exact ih) (fun e => by cases e) (fun _ e => by cases e) rfl (fun _ _ i1 i2 => by unfold PyData.hasDictAll; rw [i1, i2]; rfl) h
theorem SqL.same {K : PySem.W.Frag} {H H' : Hp} {a : Addr} {xs : List V} (h : SqL K H a xs) (s : ∀ b o, H b = some o → H' b = some o) : SqL K H' a xs := h.ext s
theorem Dg.ext {K : PySem.W.Frag} {H H' : Hp} {m : Bool} (s : ∀ b o, H b = some o → H' b = some o) {x : V} {d : PyData} (h : Dg K H m x d) : Dg K H' m x d :=
  Dg.rec (motive_1 := fun x d _ => Dg K H' m x d) (motive_2 := fun xs ds _ => DgAll K H' m xs ds) .non (fun _ => .bl _) (fun _ => .int _) (fun _ => .str _)
    (fun hs hl _ ih => .lst (hs.ext s) hl ih) (fun hs _ ih => .tup (hs.elim (fun h => .inl (h.elim (fun h => .inl (s _ _ h)) fun ⟨o, h⟩ => .inr ⟨o, s _ _ h⟩)) fun h => .inr h) ih) (fun e h => .emp e (s _ _ h)) (fun l e h => .dct l e (s _ _ h)) .nil (fun _ _ i1 i2 => .cons i1 i2) h
theorem DgAll.ext {K : PySem.W.Frag} {H H' : Hp} {m : Bool} (s : ∀ b o, H b = some o → H' b = some o) : ∀ {xs : List V} {ds : List PyData}, DgAll K H m xs ds → DgAll K H' m xs ds
  | _, _, .nil => .nil
  | _, _, .cons h t => .cons (h.ext s) (DgAll.ext s t)
theorem DgAll.len {K : PySem.W.Frag} {H : Hp} {m : Bool} : ∀ {xs : List V} {ds : List PyData}, DgAll K H m xs ds → xs.length = ds.length
  | _, _, .nil => rfl
  | _, _, .cons _ t => by rw [List.length_cons, List.length_cons, DgAll.len t]
theorem DgAll.at {K : PySem.W.Frag} {H : Hp} {m : Bool} : ∀ {xs : List V} {ds : List PyData}, DgAll K H m xs ds → ∀ (i : Nat) (x : V), xs[i]? = some x → ∃ d, ds[i]? = some d ∧ Dg K H m x d
  | _, _, .nil, i, x, h => by cases h
  | _, _, .cons h t, 0, x, e => by
    obtain rfl := Option.some.inj e
    exact ⟨_, rfl, h⟩
  | _, _, .cons h t, i + 1, x, e => DgAll.at t i x e
theorem DgAll.append {K : PySem.W.Frag} {H : Hp} {m : Bool} : ∀ {xs ys : List V} {ds es : List PyData}, DgAll K H m xs ds → DgAll K H m ys es → DgAll K H m (xs ++ ys) (ds ++ es)
  | _, _, _, _, .nil, h => h
  | _, _, _, _, .cons h t, g => .cons h (DgAll.append t g)
theorem DgAll.take {K : PySem.W.Frag} {H : Hp} {m : Bool} : ∀ (n : Nat) {xs : List V} {ds : List PyData}, DgAll K H m xs ds → DgAll K H m (xs.take n) (ds.take n)
  | 0, _, _, _ => by simp; exact .nil
  | n + 1, _, _, .nil => by simp; exact .nil
  | n + 1, _, _, .cons h t => by simp only [List.take_succ_cons]; exact .cons h (DgAll.take n t)
theorem DgAll.drop {K : PySem.W.Frag} {H : Hp} {m : Bool} : ∀ (n : Nat) {xs : List V} {ds : List PyData}, DgAll K H m xs ds → DgAll K H m (xs.drop n) (ds.drop n)
  | 0, _, _, h => h
  | n + 1, _, _, .nil => by simp; exact .nil
  | n + 1, _, _, .cons h t => by simp only [List.drop_succ_cons]; exact DgAll.drop n t
theorem Dg.int_of {K : PySem.W.Frag} {H : Hp} {m : Bool} {x : V} {i : Int} (h : Dg K H m x (.int i)) : x = .int i := by cases h; rfl
theorem Dg.str_of {K : PySem.W.Frag} {H : Hp} {m : Bool} {x : V} {i : Str} (h : Dg K H m x (.str i)) : x = .str i := by cases h; rfl
theorem Dg.tup_of {K : PySem.W.Frag} {H : Hp} {m : Bool} {x : V} {ds : List PyData} (h : Dg K H m x (.tuple ds)) : ∃ a xs, x = .ref a ∧ SqT K H a xs ∧ DgAll K H m xs ds := by
  cases h with
  | tup h1 h2 => exact ⟨_, _, rfl, h1, h2⟩
theorem Dg.lst_of {K : PySem.W.Frag} {H : Hp} {m : Bool} {x : V} {ds : List PyData} (h : Dg K H m x (.list ds)) : ∃ a xs, x = .ref a ∧ SqL K H a xs ∧ (m = true → (a == sysModules) = false) ∧ DgAll K H m xs ds := by
  cases h with
  | lst h1 h2 h3 => exact ⟨_, _, rfl, h1, h2, h3⟩
theorem DgAll.cons_of {K : PySem.W.Frag} {H : Hp} {m : Bool} {xs : List V} {d : PyData} {ds : List PyData} (h : DgAll K H m xs (d :: ds)) : ∃ x ys, xs = x :: ys ∧ Dg K H m x d ∧ DgAll K H m ys ds := by
  cases h with
  | cons h1 h2 => exact ⟨_, _, rfl, h1, h2⟩
theorem DgAll.nil_of {K : PySem.W.Frag} {H : Hp} {m : Bool} {xs : List V} (h : DgAll K H m xs []) : xs = [] := by cases h; rfl
/-! ### the classes of data -/
def tyD : PyData → String
  | .none => "NoneType" | .bool _ => "bool" | .int _ => "int" | .str _ => "str" | .list _ => "list" | .tuple _ => "tuple" | .dict _ => "dict"
theorem Dg.ty {K : PySem.W.Frag} {H : Hp} {m : Bool} {x : V} {d : PyData} (h : Dg K H m x d) : TyX K H x (.type (tyD d)) := by
  cases h with
  | non => exact .base .non
  | bl b => exact .base (.bl b)
  | int i => exact .base (.int i)
  | str z => exact .base (.str z)
  | lst hs _ _ =>
    rcases hs with (h | ⟨o, h⟩) | ⟨o, its, n, e, c, _⟩
    · exact .base (.lst h)
    · exact .base (.frz h)
    · exact .kList e c
  | tup hs _ =>
    rcases hs with (h | ⟨o, h⟩) | ⟨o, its, n, e, c, _⟩
    · exact .base (.tup h)
    · exact .fTuple h
    · exact .kTuple e c
  | emp _ h => exact .base (.dK h)
  | dct l _ h => exact .base (.dK h)
def isTupD : PyData → Bool | .tuple _ => true | _ => false
def isLstD : PyData → Bool | .list _ => true | _ => false
def isStrD : PyData → Bool | .str _ => true | _ => false
def isBlD : PyData → Bool | .bool _ => true | _ => false
def isNumD : PyData → Bool | .bool _ => true | .int _ => true | _ => false
theorem kit_tupD {K : PySem.W.Frag} (d : PyData) : PySem.W.kitOne K (.type (tyD d)) (.type "tuple") = some (isTupD d) := by
  cases d with
  | none => exact kit_ty (by decide +kernel : kitB "NoneType" "tuple" = some false)
  | bool _ => exact kit_ty (by decide +kernel : kitB "bool" "tuple" = some false)
  | int _ => exact kit_ty (by decide +kernel : kitB "int" "tuple" = some false)
  | str _ => exact kit_ty (by decide +kernel : kitB "str" "tuple" = some false)
  | list _ => exact kit_ty (by decide +kernel : kitB "list" "tuple" = some false)
  | tuple _ => exact kit_ty (by decide +kernel : kitB "tuple" "tuple" = some true)
  | dict _ => exact kit_ty (by decide +kernel : kitB "dict" "tuple" = some false)
theorem kit_lstD {K : PySem.W.Frag} (d : PyData) : PySem.W.kitOne K (.type (tyD d)) (.type "list") = some (isLstD d) := by
  cases d with
  | none => exact kit_ty (by decide +kernel : kitB "NoneType" "list" = some false)
  | bool _ => exact kit_ty (by decide +kernel : kitB "bool" "list" = some false)
  | int _ => exact kit_ty (by decide +kernel : kitB "int" "list" = some false)
  | str _ => exact kit_ty (by decide +kernel : kitB "str" "list" = some false)
  | list _ => exact kit_ty (by decide +kernel : kitB "list" "list" = some true)
  | tuple _ => exact kit_ty (by decide +kernel : kitB "tuple" "list" = some false)
  | dict _ => exact kit_ty (by decide +kernel : kitB "dict" "list" = some false)
theorem kit_strD {K : PySem.W.Frag} (d : PyData) : PySem.W.kitOne K (.type (tyD d)) (.type "str") = some (isStrD d) := by
  cases d with
  | none => exact kit_ty (by decide +kernel : kitB "NoneType" "str" = some false)
  | bool _ => exact kit_ty (by decide +kernel : kitB "bool" "str" = some false)
  | int _ => exact kit_ty (by decide +kernel : kitB "int" "str" = some false)
  | str _ => exact kit_ty (by decide +kernel : kitB "str" "str" = some true)
  | list _ => exact kit_ty (by decide +kernel : kitB "list" "str" = some false)
  | tuple _ => exact kit_ty (by decide +kernel : kitB "tuple" "str" = some false)
  | dict _ => exact kit_ty (by decide +kernel : kitB "dict" "str" = some false)
theorem kit_blD {K : PySem.W.Frag} (d : PyData) : PySem.W.kitOne K (.type (tyD d)) (.type "bool") = some (isBlD d) := by
  cases d with
  | none => exact kit_ty (by decide +kernel : kitB "NoneType" "bool" = some false)
  | bool _ => exact kit_ty (by decide +kernel : kitB "bool" "bool" = some true)
  | int _ => exact kit_ty (by decide +kernel : kitB "int" "bool" = some false)
  | str _ => exact kit_ty (by decide +kernel : kitB "str" "bool" = some false)
  | list _ => exact kit_ty (by decide +kernel : kitB "list" "bool" = some false)
  | tuple _ => exact kit_ty (by decide +kernel : kitB "tuple" "bool" = some false)
  | dict _ => exact kit_ty (by decide +kernel : kitB "dict" "bool" = some false)
theorem kit_numD {K : PySem.W.Frag} (d : PyData) : PySem.W.kitOne K (.type (tyD d)) (.type "int") = some (isNumD d) := by
  cases d with
  | none => exact kit_ty (by decide +kernel : kitB "NoneType" "int" = some false)
  | bool _ => exact kit_ty (by decide +kernel : kitB "bool" "int" = some true)
  | int _ => exact kit_ty (by decide +kernel : kitB "int" "int" = some true)
  | str _ => exact kit_ty (by decide +kernel : kitB "str" "int" = some false)
  | list _ => exact kit_ty (by decide +kernel : kitB "list" "int" = some false)
  | tuple _ => exact kit_ty (by decide +kernel : kitB "tuple" "int" = some false)
  | dict _ => exact kit_ty (by decide +kernel : kitB "dict" "int" = some false)
/-! ### shown -/
def rReprG (K : PySem.W.Frag) : List V → Hp → VK → Prop := fun xs H Q => ∃ x d m, xs = [x] ∧ Dg K H m x d ∧ d.showable = true ∧ d.depth ≤ 60 ∧ d.shown.length ≤ sizeLine ∧ Q (.str d.shown) H
theorem call_reprG {X : Cx} (hc : X.A.guards = some []) (hu : X.A.units + 64 < cLine) : CallR X (.builtin "repr") (rReprG X.K) := by
  intro pins s σ H xs us Q I r h
  obtain ⟨x, d, m, rfl, hd, hs, hdp, hz, q⟩ := h
  obtain ⟨u, rfl, r1⟩ := vals1 r
  obtain ⟨as, rd, hn⟩ := Dg.reads I d x u hd r1
  have nd : d.hasDict = true → sysModules ∉ as := fun e => by
    cases m with
    | true => exact hn rfl
    | false => rw [hd.noDict] at e; cases e
  cases hd with
  | non => cases rd; exact P.repr_of_none ⟨.str _, H, I.tok _, ⟨_, rfl⟩, q⟩
  | bl b => cases rd; exact P.repr_of_bool ⟨.str _, H, I.tok _, ⟨_, rfl⟩, q⟩
  | int i =>
    cases rd
    have hi : i.natAbs.log2 < 1920 := of_decide_eq_true hs
    exact P.repr_of_int hi ⟨.str _, H, I.tok _, ⟨_, rfl⟩, q⟩
  | str z => cases rd; exact P.repr_of_str ⟨.str _, H, I.tok _, ⟨_, rfl⟩, q⟩ hz
  | lst h1 h2 h3 =>
    obtain rfl : u = Value.ref _ := r1
    exact repr_of_reads' rd hs nd hc (by omega) (fun _ _ e => e) (fun h' u tk k => ⟨.str _, H, I.kept k, ⟨_, rfl⟩, q⟩) hz
  | tup h1 h2 =>
    obtain rfl : u = Value.ref _ := r1
    exact repr_of_reads' rd hs nd hc (by omega) (fun _ _ e => e) (fun h' u tk k => ⟨.str _, H, I.kept k, ⟨_, rfl⟩, q⟩) hz
  | emp h1 h2 =>
    obtain rfl : u = Value.ref _ := r1
    exact repr_of_reads' rd hs nd hc (by omega) (fun _ _ e => e) (fun h' u tk k => ⟨.str _, H, I.kept k, ⟨_, rfl⟩, q⟩) hz
  | dct l h1 h2 =>
    obtain rfl : u = Value.ref _ := r1
    exact repr_of_reads' rd hs nd hc (by omega) (fun _ _ e => e) (fun h' u tk k => ⟨.str _, H, I.kept k, ⟨_, rfl⟩, q⟩) hz
end L2
namespace DataQ
open PySem PySem.Spec PyProof.Rows
/-! ### a dict is no text -/
section
variable {prog : Program} {w : World} {A : Around} {E : Value → Shared → Prop} {s : Shared}
theorem dict_eq_declines_str (l : Addr) (es : Array DictEntry) (n : Nat) (dd : Option Addr) (sl : Array (Option Value)) (b : Str) (u : Tok) :
    Meets (Builtin.«dict.__eq__» ⟨[.ref l, .str b u], []⟩) (fun _ R s => s.heap.get? l = some { cls := .type "dict", dict := dd, data := .dict es n, slots := sl } ∧ R (.ok (.ret .notImplemented)) s) :=
  .of_wp fun prog w A R s h => by obtain ⟨hp, g, d, tk, os⟩ := s; obtain ⟨hl, h⟩ := h; have f1 := F.sub_str_dict; wp_walk using wpAny_load hl; exact ⟨_, rfl, h⟩
theorem dict_ne_declines_str (l : Addr) (es : Array DictEntry) (n : Nat) (dd : Option Addr) (sl : Array (Option Value)) (b : Str) (u : Tok) :
    Meets (Builtin.«dict.__ne__» ⟨[.ref l, .str b u], []⟩) (fun _ R s => s.heap.get? l = some { cls := .type "dict", dict := dd, data := .dict es n, slots := sl } ∧ R (.ok (.ret .notImplemented)) s) :=
  .of_wp fun prog w A R s h => by obtain ⟨hp, g, d, tk, os⟩ := s; obtain ⟨hl, h⟩ := h; have f1 := F.sub_str_dict; wp_walk using wpAny_load hl; exact ⟨_, rfl, h⟩
theorem str_eq_declines_dict (b : Str) (u : Tok) (l : Addr) (es : Array DictEntry) (n : Nat) (dd : Option Addr) (sl : Array (Option Value)) :
    Meets (Builtin.«str.__eq__» ⟨[.str b u, .ref l], []⟩) (fun _ R s => s.heap.get? l = some { cls := .type "dict", dict := dd, data := .dict es n, slots := sl } ∧ R (.ok (.ret .notImplemented)) s) :=
  .of_wp fun prog w A R s h => by obtain ⟨hp, g, d, tk, os⟩ := s; obtain ⟨hl, h⟩ := h; wp_walk using wpAny_load hl; exact ⟨_, rfl, h⟩
theorem str_ne_declines_dict (b : Str) (u : Tok) (l : Addr) (es : Array DictEntry) (n : Nat) (dd : Option Addr) (sl : Array (Option Value)) :
    Meets (Builtin.«str.__ne__» ⟨[.str b u, .ref l], []⟩) (fun _ R s => s.heap.get? l = some { cls := .type "dict", dict := dd, data := .dict es n, slots := sl } ∧ R (.ok (.ret .notImplemented)) s) :=
  .of_wp fun prog w A R s h => by obtain ⟨hp, g, d, tk, os⟩ := s; obtain ⟨hl, h⟩ := h; wp_walk using wpAny_load hl; exact ⟨_, rfl, h⟩
theorem rc_dict_str {l : Addr} {dd : Option Addr} {es : Array DictEntry} {n : Nat} {sl : Array (Option Value)} (b : Str) (u : Tok) (ho : s.heap.get? l = some { cls := .type "dict", dict := dd, data := .dict es n, slots := sl }) (hu : A.units < cLine)
    {Q : Value → Shared → Prop} (h : Q (.bool false) s) : wpAny (model prog w) A (richCompare .Eq (.ref l) (.str b u)) Q E s :=
  PySem.SeqAt.rc_eq_decline_or (k := false) ⟨_, ho, rfl⟩ (typeIs_str s b u) (by decide) F.sub_str_dict F.slot_dict_eq F.slot_str_eq_refl
    (fun _ hq => call_meets F.slot_dict_eq ⟨_, ho, rfl⟩ F.entry_dict_eq (F.args_dict_eq_2 _ _) (dict_eq_declines_str l es n dd sl b u) ⟨ho, hq⟩)
    (fun _ hq => call_meets F.slot_str_eq_refl (typeIs_str s b u) F.entry_str_eq (F.args_str_eq_2 _ _) (str_eq_declines_dict b u l es n dd sl) ⟨ho, hq⟩)
    (fun _ hq => wpAny_of_eq (rfl : isSame (.ref l) (.str b u) = pure false) hq) (.inr hu) h
theorem rcNe_dict_str {l : Addr} {dd : Option Addr} {es : Array DictEntry} {n : Nat} {sl : Array (Option Value)} (b : Str) (u : Tok) (ho : s.heap.get? l = some { cls := .type "dict", dict := dd, data := .dict es n, slots := sl }) (hu : A.units < cLine)
    {Q : Value → Shared → Prop} (h : Q (.bool true) s) : wpAny (model prog w) A (richCompare .NotEq (.ref l) (.str b u)) Q E s :=
  PySem.SeqAt.rc_ne_decline_or (k := false) ⟨_, ho, rfl⟩ (typeIs_str s b u) (by decide) F.sub_str_dict F.slot_dict_ne F.slot_str_ne_refl
    (fun _ hq => call_meets F.slot_dict_ne ⟨_, ho, rfl⟩ F.entry_dict_ne (F.args_dict_ne_2 _ _) (dict_ne_declines_str l es n dd sl b u) ⟨ho, hq⟩)
    (fun _ hq => call_meets F.slot_str_ne_refl (typeIs_str s b u) F.entry_str_ne (F.args_str_ne_2 _ _) (str_ne_declines_dict b u l es n dd sl) ⟨ho, hq⟩)
    (fun _ hq => wpAny_of_eq (rfl : isSame (.ref l) (.str b u) = pure false) hq) (.inr hu) h
end
end DataQ
namespace L2
open PySem PySem.Spec PyProof.Rows
/-- the data is this text -/
def isS (z : Str) : PyData → Bool
  | .str y => decide (y = z)
  | _ => false
section
variable {X : Cx}
def rEqGS (K : PySem.W.Frag) : R2 := fun x y H Q => ∃ d m z, Dg K H m x d ∧ y = .str z ∧ Q (.bl (isS z d)) H
def rNeGS (K : PySem.W.Frag) : R2 := fun x y H Q => ∃ d m z, Dg K H m x d ∧ y = .str z ∧ Q (.bl (!isS z d)) H
theorem op_eqGS (hu : X.A.units + 64 < cLine) : OpR X (compareOp .Eq) (rEqGS X.K) := by
  intro pins s σ H x y v u Q I rx ry h
  obtain ⟨d, m, z, hd, rfl, q⟩ := h
  have hu' : X.A.units < cLine := by omega
  obtain ⟨as, rd, _⟩ := Dg.reads I d x v hd rx
  obtain ⟨t, rfl⟩ := ry
  cases hd with
  | non => exact op_eq pins s σ H .non (.str z) _ _ Q I rx ⟨t, rfl⟩ ⟨rfl, by rw [decide_eq_false (fun e => V.noConfusion e)]; exact q⟩
  | bl b => exact op_eq pins s σ H (.bl b) (.str z) _ _ Q I rx ⟨t, rfl⟩ ⟨rfl, by rw [decide_eq_false (fun e => V.noConfusion e)]; exact q⟩
  | int i => exact op_eq pins s σ H (.int i) (.str z) _ _ Q I rx ⟨t, rfl⟩ ⟨rfl, by rw [decide_eq_false (fun e => V.noConfusion e)]; exact q⟩
  | str y =>
    refine op_eq pins s σ H (.str y) (.str z) _ _ Q I rx ⟨t, rfl⟩ ⟨rfl, ?_⟩
    have e : decide (V.str y = V.str z) = isS z (.str y) := by
      show _ = decide (y = z)
      rw [Bool.eq_iff_iff]; simp
    rw [e]; exact q
  | lst h1 h2 h3 =>
    obtain rfl : v = Value.ref _ := rx
    obtain ⟨its, rv, ⟨o, n, ho, hc, _, hdd⟩, _⟩ := I.list h1
    exact PySem.SeqAt.RcAt.list_str z t ⟨o, ho, hc, n, hdd⟩ hu' X.prog X.w _ _ ⟨.bl _, H, I, rfl, q⟩
  | tup h1 h2 =>
    obtain rfl : v = Value.ref _ := rx
    obtain ⟨its, rv, ⟨o, ho, hc, n, hdd⟩, _⟩ := I.tuple h1
    exact PySem.SeqAt.RcAt.tuple_str z t ⟨o, ho, hc, n, hdd⟩ hu' X.prog X.w _ _ ⟨.bl _, H, I, rfl, q⟩
  | @emp a h1 ha =>
    obtain rfl : v = Value.ref _ := rx
    obtain ⟨_, hsys, vs, hkv, od, es, ep, hget, hcl, hdat, hko, hps, _⟩ : ObjOk X.prog X.w H s.heap a (.dK []) := I.hok a _ ha
    obtain ⟨oc, odd, odt, osl⟩ := od
    obtain ⟨hc1, hc2⟩ := hcl
    simp only at hc1 hdat
    subst hc1 hdat
    exact DataQ.rc_dict_str z t hget hu' ⟨.bl _, H, I, rfl, q⟩
  | @dct a l h1 ha =>
    obtain rfl : v = Value.ref _ := rx
    obtain ⟨_, hsys, vs, hkv, od, es, ep, hget, hcl, hdat, hko, hps, _⟩ : ObjOk X.prog X.w H s.heap a (.dK (l.map kvV)) := I.hok a _ ha
    obtain ⟨oc, odd, odt, osl⟩ := od
    obtain ⟨hc1, hc2⟩ := hcl
    simp only at hc1 hdat
    subst hc1 hdat
    exact DataQ.rc_dict_str z t hget hu' ⟨.bl _, H, I, rfl, q⟩
theorem op_neGS (hu : X.A.units + 64 < cLine) : OpR X (compareOp .NotEq) (rNeGS X.K) := by
  intro pins s σ H x y v u Q I rx ry h
  obtain ⟨d, m, z, hd, rfl, q⟩ := h
  have hu' : X.A.units < cLine := by omega
  obtain ⟨as, rd, _⟩ := Dg.reads I d x v hd rx
  obtain ⟨t, rfl⟩ := ry
  cases hd with
  | non => exact op_ne pins s σ H .non (.str z) _ _ Q I rx ⟨t, rfl⟩ ⟨rfl, by rw [decide_eq_false (fun e => V.noConfusion e)]; exact q⟩
  | bl b => exact op_ne pins s σ H (.bl b) (.str z) _ _ Q I rx ⟨t, rfl⟩ ⟨rfl, by rw [decide_eq_false (fun e => V.noConfusion e)]; exact q⟩
  | int i => exact op_ne pins s σ H (.int i) (.str z) _ _ Q I rx ⟨t, rfl⟩ ⟨rfl, by rw [decide_eq_false (fun e => V.noConfusion e)]; exact q⟩
  | str y =>
    refine op_ne pins s σ H (.str y) (.str z) _ _ Q I rx ⟨t, rfl⟩ ⟨rfl, ?_⟩
    have e : decide (V.str y = V.str z) = isS z (.str y) := by
      show _ = decide (y = z)
      rw [Bool.eq_iff_iff]; simp
    rw [e]; exact q
  | lst h1 h2 h3 =>
    obtain rfl : v = Value.ref _ := rx
    obtain ⟨its, rv, ⟨o, n, ho, hc, _, hdd⟩, _⟩ := I.list h1
    exact PySem.SeqAt.RcNeAt.list_str z t ⟨o, ho, hc, n, hdd⟩ hu' X.prog X.w _ _ ⟨.bl _, H, I, rfl, q⟩
  | tup h1 h2 =>
    obtain rfl : v = Value.ref _ := rx
    obtain ⟨its, rv, ⟨o, ho, hc, n, hdd⟩, _⟩ := I.tuple h1
    exact PySem.SeqAt.RcNeAt.tuple_str z t ⟨o, ho, hc, n, hdd⟩ hu' X.prog X.w _ _ ⟨.bl _, H, I, rfl, q⟩
  | @emp a h1 ha =>
    obtain rfl : v = Value.ref _ := rx
    obtain ⟨_, hsys, vs, hkv, od, es, ep, hget, hcl, hdat, hko, hps, _⟩ : ObjOk X.prog X.w H s.heap a (.dK []) := I.hok a _ ha
    obtain ⟨oc, odd, odt, osl⟩ := od
    obtain ⟨hc1, hc2⟩ := hcl
    simp only at hc1 hdat
    subst hc1 hdat
    exact DataQ.rcNe_dict_str z t hget hu' ⟨.bl _, H, I, rfl, q⟩
  | @dct a l h1 ha =>
    obtain rfl : v = Value.ref _ := rx
    obtain ⟨_, hsys, vs, hkv, od, es, ep, hget, hcl, hdat, hko, hps, _⟩ : ObjOk X.prog X.w H s.heap a (.dK (l.map kvV)) := I.hok a _ ha
    obtain ⟨oc, odd, odt, osl⟩ := od
    obtain ⟨hc1, hc2⟩ := hcl
    simp only at hc1 hdat
    subst hc1 hdat
    exact DataQ.rcNe_dict_str z t hget hu' ⟨.bl _, H, I, rfl, q⟩
/-- a list display, which does not lie where the modules lie -/
def tLstS (t : TA) : TE := fun σ H Q => t σ H fun xs H1 => xs.length ≤ sizeLine ∧ ∀ l, H1 l = none → (l == sysModules) = false → Q (.ref l) (upd H1 l (.lst xs))
theorem pe_lstS {es : List Expr} {pos : Pos} {t : TA} (h : PA X es t) : PE X (.List es pos) (tLstS t) := by
  refine ⟨fun pins s σ H Q I hq => ?_⟩
  refine wpAny_List_spliced (thn (h.run pos pins s σ H _ I hq) fun us s1 ⟨xs, H1, I1, r, z, q⟩ => ⟨by rw [← r.length]; exact z, ?_⟩)
  have hf : H1 s1.heap.objs.size = none := I1.hok.fresh (Nat.le_refl _)
  have hb := I1.big
  refine ⟨.ref s1.heap.objs.size, upd H1 s1.heap.objs.size (.lst xs), I1.laid (t' := s1.toks) (fun b u e => Heap.get?_push_of_some _ e) (Nat.le_refl _) ?_, rfl, q _ hf ?_⟩
  · exact ⟨z, us, 0, r, Heap.get?_push_size _ rfl⟩
  · rw [beq_eq_false_iff_ne]
    exact Ne.symm (Nat.ne_of_lt hb)
/-- xs != [] -/
def rNeNil : R2 := fun x y H Q => ∃ p q xs, x = .ref p ∧ y = .ref q ∧ H p = some (.lst xs) ∧ H q = some (.lst []) ∧ Q (.bl (!decide (xs = []))) H
theorem op_ne_nil (hu : X.A.units < cLine) : OpR X (compareOp .NotEq) rNeNil := by
  intro pins s σ H x y v u Q I rx ry h
  obtain ⟨p, q, xs, rfl, rfl, hp, hq, k⟩ := h
  cases (show v = Value.ref p from rx)
  cases (show u = Value.ref q from ry)
  obtain ⟨z1, its, n, r1, hl, e1⟩ := I.lstM hp
  obtain ⟨z2, its2, n2, r2, hl2, e2⟩ := I.lstM hq
  cases r2
  have L2 : s.heap.IsList q (#[] : Array Value) := ⟨_, e2, rfl, _, rfl⟩
  have L1 : s.heap.IsList p its.toArray := ⟨_, e1, rfl, _, rfl⟩
  by_cases e : xs = []
  · subst e
    cases r1
    have := PySem.SeqAt.RcNeAt.lists (e := fun _ => true) L1 L2 rfl hu (fun j h1 _ => absurd h1 (Nat.not_lt_zero j))
    exact this X.prog X.w _ _ ⟨.bl _, H, I, rfl, k⟩
  · rw [decide_eq_false e] at k
    have l := r1.length
    have := List.length_pos_iff.mpr e
    exact PySem.SeqAt.RcNeAt.lists_lengths L1 L2 (by simp only [List.size_toArray, bne_iff_ne, ne_eq]; show ¬ its.length = 0; omega) hu X.prog X.w _ _ ⟨.bl _, H, I, rfl, k⟩
/-- D is a dict of the module that tells numbers for texts -/
def KTab (K : PySem.W.Frag) (w : World) (D : Addr) (f : Str → Option Int) : Prop := (∃ es n, KDict K w D es n) ∧ ∀ z, match f z with | none => PySem.W.nsIn K D z = some none | some i => ∃ t, PySem.W.nsIn K D z = some (some (.int i t))
def rNotInTab (D : Addr) (f : Str → Option Int) : R2 := fun x y H Q => ∃ z, x = .str z ∧ y = .ref D ∧ Q (.bl (f z).isNone) H
theorem op_notIn_tab {D : Addr} {f : Str → Option Int} (T : KTab X.K X.w D f) : OpR X (compareOp .NotIn) (rNotInTab D f) := by
  obtain ⟨⟨es, n, kd⟩, hv⟩ := T
  intro pins s σ H x y v u Q I rx ry h
  obtain ⟨z, rfl, rfl, q⟩ := h
  have e := hv z
  cases hf : f z with
  | none =>
    rw [hf] at e q
    exact op_notIn_kd kd pins s σ H _ _ v u Q I rx ry ⟨z, none, rfl, rfl, e, q⟩
  | some i =>
    rw [hf] at e q
    obtain ⟨t, e⟩ := e
    exact op_notIn_kd kd pins s σ H _ _ v u Q I rx ry ⟨z, _, rfl, rfl, e, q⟩
def rIxTab (D : Addr) (f : Str → Option Int) : R2 := fun x y H Q => ∃ z i, x = .ref D ∧ y = .str z ∧ f z = some i ∧ Q (.int i) H
theorem ix_tab {D : Addr} {f : Str → Option Int} (T : KTab X.K X.w D f) : IxR X (rIxTab D f) := by
  obtain ⟨⟨es, n, kd⟩, hv⟩ := T
  intro value slice pins s σ H x y v u Q I rx ry h hs
  obtain ⟨z, i, rfl, rfl, hf, q⟩ := h
  have e := hv z
  rw [hf] at e
  obtain ⟨t, e⟩ := e
  exact ix_kdict value slice pins s σ H _ _ v u Q I rx ry ⟨D, z, .int i, rfl, rfl, ⟨es, n, _, kd.at_, kd.lit, e, ⟨t, rfl⟩⟩, q⟩ hs
theorem call_list_ofS : CallR X (.type "list") (fun xs H Q => ∃ p ys, xs = [.ref p] ∧ (SqL X.K H p ys ∨ SqT X.K H p ys) ∧ ∀ l, H l = none → (l == sysModules) = false → Q (.ref l) (upd H l (.lst ys))) := by
  intro pins s σ H xs us Q I r h
  obtain ⟨p, ys, rfl, hq, q⟩ := h
  obtain ⟨u, rfl, rx⟩ := vals1 r
  cases rx
  have hb := I.big
  have fin : ∀ (its : List Value), Vals ys its → ys.length ≤ sizeLine → ∀ (h' : Heap) (c' : Nat), (∀ b o', s.heap.get? b = some o' → h'.get? b = some o') →
      h'.get? s.heap.objs.size = some { cls := .type "list", dict := none, data := .seq its.toArray c', slots := #[] } → EP X pins σ Q (.ref s.heap.objs.size) { s with heap := h' } := fun its r' hz h' c' kp e =>
    ⟨.ref s.heap.objs.size, _, I.laid (t' := s.toks) kp (Nat.le_refl _) (show ObjOk X.prog X.w _ h' _ (.lst ys) from ⟨hz, its, c', r', e⟩), rfl, q _ (I.hok.fresh (Nat.le_refl _)) (beq_eq_false_iff_ne.mpr (Ne.symm (Nat.ne_of_lt hb)))⟩
  rcases hq with hq | hq
  · obtain ⟨its, r', pl, hz⟩ := I.list hq
    have hlen := r'.length
    obtain ⟨o, ho, hc, n, hd⟩ := pl.isList
    exact call_list_seq p (.inl rfl) ho hc hd (fun h' c' kp e => fin its r' hz h' c' kp e) (by simp only [List.size_toArray] <;> omega)
  · obtain ⟨its, r', pl, hz⟩ := I.tuple hq
    have hlen := r'.length
    obtain ⟨o, ho, hc, n, hd⟩ := pl
    exact call_list_seq p (.inr rfl) ho hc hd (fun h' c' kp e => fin its r' hz h' c' kp e) (by simp only [List.size_toArray] <;> omega)
theorem ix_tupK {K : PySem.W.Frag} (e : X.K = K) : IxR X (rIxT K) := by rw [← e]; exact ix_tup
theorem op_eqGSK {K : PySem.W.Frag} (e : X.K = K) (hu : X.A.units + 64 < cLine) : OpR X (compareOp .Eq) (rEqGS K) := by subst e; exact op_eqGS hu
theorem op_neGSK {K : PySem.W.Frag} (e : X.K = K) (hu : X.A.units + 64 < cLine) : OpR X (compareOp .NotEq) (rNeGS K) := by subst e; exact op_neGS hu
theorem sl_tupAK {K : PySem.W.Frag} (e : X.K = K) : SlR X (rSlA K) := by subst e; exact sl_tupA
end
theorem tab_keys {P : Params} {z : Str} : ∀ {l : List DictEntry} {ks : List Str}, l.map He.keyOf = He.keysIn P ks → z ∉ ks → l.find? (·.key.isStr z) = none ∧ l.any (·.refKey) = false
  | [], _, _, _ => ⟨rfl, rfl⟩
  | e :: r, [], h, _ => by cases h
  | e :: r, k :: ks, h, n => by
    have h1 : He.keyOf e :: r.map He.keyOf = some (k, PyData.keyHash P k) :: He.keysIn P ks := h
    injection h1 with h2 h3
    obtain ⟨i1, i2⟩ := tab_keys h3 (fun z => n (List.mem_cons_of_mem _ z))
    unfold He.keyOf at h2
    split at h2
    · rename_i x t q
      have h4 := Option.some.inj h2
      obtain ⟨h5, h6⟩ := Prod.mk.inj h4
      have e1 : e.key.isStr z = false := by
        rw [q, h5]
        show (k == z) = false
        exact beq_eq_false_iff_ne.mpr fun e => n (by rw [← e]; exact List.mem_cons_self)
      have e2 : e.refKey = false := by unfold DictEntry.refKey; rw [q]
      exact ⟨by rw [List.find?_cons_of_neg (by rw [e1]; exact Bool.false_ne_true)]; exact i1, by rw [List.any_cons, e2, i2]; rfl⟩
    · cases h2
theorem tab_none {K : PySem.W.Frag} {P : Params} {D : Addr} {ks : List Str} {z : Str} (h : He.dicW K D = some (He.keysIn P ks)) (hz : z ∉ ks) : PySem.W.nsIn K D z = some none := by
  unfold He.dicW at h
  unfold PySem.W.nsIn
  cases q : K.lookup D with
  | none => rw [q] at h; cases h
  | some o =>
    obtain ⟨oc, od, dt, osl⟩ := o
    rw [q] at h
    cases oc with
    | type c =>
      cases od with
      | none =>
        cases dt with
        | dict es n =>
          have h1 : (match decide (c = "dict") && (osl.isEmpty && !(D == sysModules)) with
            | true => some (es.toList.map He.keyOf)
            | false => none) = some (He.keysIn P ks) := h
          split at h1
          · obtain ⟨a, b⟩ := tab_keys (Option.some.inj h1) hz
            show (match es.toList.find? (·.key.isStr z) with
              | some e => some (some e.val)
              | none => if es.toList.any (·.refKey) then none else some none) = some none
            rw [a, b]; rfl
          · cases h1
        | _ => cases h
      | some _ => cases h
    | _ => cases h
end L2

set_option Elab.async false
set_option linter.all false
set_option maxRecDepth 100000
set_option maxHeartbeats 4000000
/-! Data beside the box of draws; displays of data. -/
namespace My
open PySem PySem.Spec PyProof.Rows L2
/-- the heap without p -/
def wo (H : Hp) (p : Addr) : Hp := fun b => if b = p then none else H b
theorem wo_ne {H : Hp} {p b : Addr} (h : b ≠ p) : wo H p b = H b := by unfold wo; rw [if_neg h]
theorem wo_at {H : Hp} {p : Addr} : wo H p p = none := by unfold wo; rw [if_pos rfl]
theorem wo_le {H : Hp} {p b : Addr} {o : HO} (h : wo H p b = some o) : H b = some o := by
  by_cases e : b = p
  · rw [e, wo_at] at h; cases h
  · rw [wo_ne e] at h; exact h
theorem wo_upd {H : Hp} {p : Addr} {o : HO} : wo (upd H p o) p = wo H p := by
  funext b
  by_cases e : b = p
  · rw [e, wo_at, wo_at]
  · rw [wo_ne e, wo_ne e, upd_ne e]
theorem Kp.wo {p : Addr} {H H' : Hp} (k : Kp p H H') : Same (wo H p) (wo H' p) := fun b o e => by
  have n : b ≠ p := fun z => by rw [z, wo_at] at e; cases e
  rw [wo_ne n] at e ⊢
  exact k b o n e
theorem wo_same (H : Hp) (p : Addr) : Same (wo H p) H := fun _ _ e => wo_le e
/-- data, of which p is no part -/
abbrev Dw (K : PySem.W.Frag) (p : Addr) (H : Hp) (m : Bool) (x : V) (d : PyData) : Prop := Dg K (wo H p) m x d
abbrev DwAll (K : PySem.W.Frag) (p : Addr) (H : Hp) (m : Bool) (xs : List V) (ds : List PyData) : Prop := DgAll K (wo H p) m xs ds
theorem _root_.L2.Dg.kp {K : PySem.W.Frag} {p : Addr} {H H' : Hp} {m : Bool} {x : V} {d : PyData} (h : Dw K p H m x d) (k : Kp p H H') : Dw K p H' m x d := h.ext k.wo
theorem _root_.L2.DgAll.kp {K : PySem.W.Frag} {p : Addr} {H H' : Hp} {m : Bool} {x : List V} {d : List PyData} (h : DwAll K p H m x d) (k : Kp p H H') : DwAll K p H' m x d := h.ext k.wo
theorem _root_.L2.Dg.dg {K : PySem.W.Frag} {p : Addr} {H : Hp} {m : Bool} {x : V} {d : PyData} (h : Dw K p H m x d) : Dg K H m x d := h.ext (wo_same H p)
theorem _root_.L2.DgAll.dg {K : PySem.W.Frag} {p : Addr} {H : Hp} {m : Bool} {x : List V} {d : List PyData} (h : DwAll K p H m x d) : DgAll K H m x d := h.ext (wo_same H p)
theorem wo_new {H : Hp} {p q : Addr} {o : HO} (h : q ≠ p) : wo (upd H q o) p = upd (wo H p) q o := by
  funext b
  by_cases e : b = p
  · rw [e, wo_at, upd_ne (Ne.symm h), wo_at]
  · rw [wo_ne e]
    by_cases e2 : b = q
    · rw [e2, upd_same, upd_same]
    · rw [upd_ne e2, upd_ne e2, wo_ne e]
/-- a part of the heap that keeps what stands beside p, and all new things -/
structure Res (p : Addr) (H : Hp) (w : Hp → Hp) : Prop where
  sub : ∀ G, Same (w G) G
  kp : ∀ {G G' : Hp}, Kp p G G' → Same (w G) (w G')
  new : ∀ {G : Hp} {r : Addr} {o : HO}, Kp p H G → G p ≠ none → G r = none → w (L2.upd G r o) r = some o
theorem Res.mono {p : Addr} {H H' : Hp} {w : Hp → Hp} (R : Res p H w) (k : Kp p H H') : Res p H' w := ⟨R.sub, R.kp, fun k' n hr => R.new (k.trans k') n hr⟩
theorem res_p {p : Addr} {H : Hp} : Res p H (fun G => wo G p) := ⟨fun G => wo_same G p, fun k => k.wo, fun {G r o} _ n hr => by
  have nr : r ≠ p := fun z => n (by rw [← z]; exact hr)
  show wo (L2.upd G r o) p r = some o
  rw [wo_ne nr]; exact upd_same⟩
theorem res_two {p D : Addr} {H : Hp} {ob : HO} (hD : H D = some ob) (n : D ≠ p) : Res p H (fun G => wo (wo G p) D) := ⟨fun G => fun b o e => wo_le (wo_le e), fun {G G'} k => fun b o e => by
  have n : b ≠ D := fun z => by rw [z, wo_at] at e; cases e
  rw [wo_ne n] at e ⊢
  exact k.wo b o e, fun {G r o} k np hr => by
  have nr : r ≠ p := fun z => np (by rw [← z]; exact hr)
  have nD : r ≠ D := fun z => by rw [z, k D ob n hD] at hr; cases hr
  show wo (wo (L2.upd G r o) p) D r = some o
  rw [wo_ne nD, wo_ne nr]; exact upd_same⟩
theorem _root_.L2.Dg.rk {K : PySem.W.Frag} {p : Addr} {H H' H0 : Hp} {w : Hp → Hp} {m : Bool} {x : V} {d : PyData} (h : Dg K (w H) m x d) (R : Res p H0 w) (k : Kp p H H') : Dg K (w H') m x d := h.ext (R.kp k)
theorem _root_.L2.DgAll.rk {K : PySem.W.Frag} {p : Addr} {H H' H0 : Hp} {w : Hp → Hp} {m : Bool} {x : List V} {d : List PyData} (h : DgAll K (w H) m x d) (R : Res p H0 w) (k : Kp p H H') : DgAll K (w H') m x d := h.ext (R.kp k)
/-! ### displays -/
section
variable {K : PySem.W.Frag} {m : Bool} {p : Addr} {σ : L2.St} {H : Hp} {w : Hp → Hp}
/-- an expression gives the data d, and what stood stands -/
def EvD (K : PySem.W.Frag) (m : Bool) (p : Addr) (w : Hp → Hp) (te : TE) (σ : L2.St) (H : Hp) (d : PyData) : Prop :=
  ∀ H1, Kp p H H1 → H1 p ≠ none → ∀ Q : VK, (∀ x H', Same H1 H' → Dg K (w H') m x d → Q x H') → te σ H1 Q
def EvDs (K : PySem.W.Frag) (m : Bool) (p : Addr) (w : Hp → Hp) (ta : TA) (σ : L2.St) (H : Hp) (ds : List PyData) : Prop :=
  ∀ H1, Kp p H H1 → H1 p ≠ none → ∀ Q : List V → Hp → Prop, (∀ xs H', Same H1 H' → DgAll K (w H') m xs ds → Q xs H') → ta σ H1 Q
def EvI (p : Addr) (te : TE) (σ : L2.St) (H : Hp) (i : Int) : Prop :=
  ∀ H1, Kp p H H1 → H1 p ≠ none → ∀ Q : VK, (∀ H', Same H1 H' → Q (.int i) H') → te σ H1 Q
theorem same_at {H H' : Hp} {p : Addr} (s : Same H H') (h : H p ≠ none) : H' p ≠ none := fun z => by
  cases e : H p with
  | none => exact h e
  | some o => rw [s _ _ e] at z; cases z
theorem evD_c {x : V} {d : PyData} (h : ∀ G, Dg K G m x d) : EvD K m p w (tC x) σ H d := fun H1 _ _ Q q => q x H1 (Same.refl _) (h _)
theorem evD_int (i : Int) : EvD K m p w (tC (.int i)) σ H (.int i) := evD_c fun _ => .int i
theorem evD_str (z : Str) : EvD K m p w (tC (.str z)) σ H (.str z) := evD_c fun _ => .str z
theorem evD_bl (b : Bool) : EvD K m p w (tC (.bl b)) σ H (.bool b) := evD_c fun _ => .bl b
theorem evD_non : EvD K m p w (tC .non) σ H .none := evD_c fun _ => .non
theorem evD_var (R : Res p H w) {i : Nat} {x : V} {d : PyData} (e : σ[i]? = some (some x)) (h : Dg K (w H) m x d) : EvD K m p w (tVar i) σ H d :=
  fun H1 k _ Q q => ⟨x, e, q x H1 (Same.refl _) (h.rk R k)⟩
theorem evI_var {i : Nat} {j : Int} (e : σ[i]? = some (some (.int j))) : EvI p (tVar i) σ H j := fun H1 _ _ Q q => ⟨_, e, q H1 (Same.refl _)⟩
theorem evI_c (j : Int) : EvI p (tC (.int j)) σ H j := fun H1 _ _ Q q => q H1 (Same.refl _)
theorem evD_I {te : TE} {j : Int} (h : EvI p te σ H j) : EvD K m p w te σ H (.int j) := fun H1 k n Q q => h H1 k n Q fun H' s => q _ _ s (.int j)
theorem evI_op {ta tb : TE} {i j : Int} {g : Int → Int → Int} (ha : EvI p ta σ H i) (hb : EvI p tb σ H j) : EvI p (tOp (rI0 fun i j => .int (g i j)) ta tb) σ H (g i j) :=
  fun H1 k n Q q => ha H1 k n _ fun H2 s2 => hb H2 (k.trans (Kp.of s2)) (same_at s2 n) _ fun H3 s3 => ⟨_, _, rfl, rfl, q _ (s2.trans s3)⟩
theorem evI_opC {ta tb : TE} {i j : Int} {C : Int → Int → Prop} {g : Int → Int → Int} (ha : EvI p ta σ H i) (hb : EvI p tb σ H j) (c : C i j) : EvI p (tOp (rI C fun i j => .int (g i j)) ta tb) σ H (g i j) :=
  fun H1 k n Q q => ha H1 k n _ fun H2 s2 => hb H2 (k.trans (Kp.of s2)) (same_at s2 n) _ fun H3 s3 => ⟨_, _, rfl, rfl, c, q _ (s2.trans s3)⟩
theorem evDs_nil : EvDs K m p w tNil σ H [] := fun H1 _ _ Q q => q [] H1 (Same.refl _) .nil
theorem evDs_cons (R : Res p H w) {te : TE} {ta : TA} {d : PyData} {ds : List PyData} (h : EvD K m p w te σ H d) (t : EvDs K m p w ta σ H ds) : EvDs K m p w (tCons te ta) σ H (d :: ds) :=
  fun H1 k n Q q => h H1 k n _ fun x H2 s2 dx => t H2 (k.trans (Kp.of s2)) (same_at s2 n) _ fun xs H3 s3 dxs => q _ _ (s2.trans s3) (.cons (dx.rk R (Kp.of s3)) dxs)
theorem evD_tup (R : Res p H w) {ta : TA} {ds : List PyData} (h : EvDs K m p w ta σ H ds) (l : ds.length ≤ 1000) : EvD K m p w (tTup ta) σ H (.tuple ds) :=
  fun H1 k n Q q => h H1 k n _ fun xs H2 s2 dxs => ⟨by rw [dxs.len]; exact Nat.le_trans l (by decide), fun r hr => by
    have nr : r ≠ p := fun z => same_at s2 n (by rw [← z]; exact hr)
    have s3 : Same H2 (upd H2 r (.tup xs)) := Same.new (Same.refl _) hr
    exact q _ _ (s2.trans s3) (.tup (SqT.of (R.new (k.trans (Kp.of s2)) (same_at s2 n) hr)) (dxs.rk R (Kp.of s3)))⟩
theorem evD_lst (R : Res p H w) {ta : TA} {ds : List PyData} (h : EvDs K false p w ta σ H ds) (l : ds.length ≤ 1000) : EvD K false p w (tLst ta) σ H (.list ds) :=
  fun H1 k n Q q => h H1 k n _ fun xs H2 s2 dxs => ⟨by rw [dxs.len]; exact Nat.le_trans l (by decide), fun r hr => by
    have nr : r ≠ p := fun z => same_at s2 n (by rw [← z]; exact hr)
    have s3 : Same H2 (upd H2 r (.lst xs)) := Same.new (Same.refl _) hr
    exact q _ _ (s2.trans s3) (.lst (SqL.of (R.new (k.trans (Kp.of s2)) (same_at s2 n) hr)) (fun z => by cases z) (dxs.rk R (Kp.of s3)))⟩
theorem evD_lstS (R : Res p H w) {ta : TA} {ds : List PyData} (h : EvDs K m p w ta σ H ds) (l : ds.length ≤ 1000) : EvD K m p w (tLstS ta) σ H (.list ds) :=
  fun H1 k n Q q => h H1 k n _ fun xs H2 s2 dxs => ⟨by rw [dxs.len]; exact Nat.le_trans l (by decide), fun r hr hl => by
    have nr : r ≠ p := fun z => same_at s2 n (by rw [← z]; exact hr)
    have s3 : Same H2 (upd H2 r (.lst xs)) := Same.new (Same.refl _) hr
    exact q _ _ (s2.trans s3) (.lst (SqL.of (R.new (k.trans (Kp.of s2)) (same_at s2 n) hr)) (fun _ => hl) (dxs.rk R (Kp.of s3)))⟩
theorem evD_emp (R : Res p H w) : EvD K true p w tDNewK σ H (.dict []) := fun H1 k n Q q r hr => by
  have nr : r ≠ p := fun z => n (by rw [← z]; exact hr)
  exact q _ _ (Same.new (Same.refl _) hr) (.emp rfl (R.new k n hr))
/-- a display that is assigned, or handed back -/
theorem EvD.here {te : TE} {d : PyData} (h : EvD K m p w te σ H d) (n : H p ≠ none) {Q : VK} (q : ∀ x H', Same H H' → Dg K (w H') m x d → Q x H') : te σ H Q := h H (Kp.refl p H) n Q q
end
theorem BoxAt.some {H : Hp} {p : Addr} {n : Nat} (h : BoxAt H p n) : H p ≠ none := by
  obtain ⟨o, e, _⟩ := h
  rw [e]; exact fun z => by cases z
section
variable {K : PySem.W.Frag} {p : Addr} {σ : L2.St} {H : Hp} {w : Hp → Hp}
theorem evD_listOf (R : Res p H w) {te : TE} {ds : List PyData} (h : EvD K true p w te σ H (.tuple ds)) :
    EvD K true p w (tCB (fun xs H Q => ∃ p ys, xs = [.ref p] ∧ (SqL K H p ys ∨ SqT K H p ys) ∧ ∀ l, H l = none → (l == sysModules) = false → Q (.ref l) (L2.upd H l (.lst ys))) (tCons te tNil)) σ H (.list ds) := fun H1 k n Q q => h H1 k n _ fun x H2 s2 dx => by
  obtain ⟨a, xs, rfl, hs, ha⟩ := dx.tup_of
  have hs' : SqT K H2 a xs := hs.ext (R.sub H2)
  refine ⟨a, xs, rfl, .inr hs', fun l hl low => ?_⟩
  have nl : l ≠ p := fun z => same_at s2 n (by rw [← z]; exact hl)
  have s3 : Same H2 (L2.upd H2 l (.lst xs)) := Same.new (Same.refl _) hl
  exact q _ _ (s2.trans s3) (.lst (SqL.of (R.new (k.trans (Kp.of s2)) (same_at s2 n) hl)) (fun _ => low) (ha.rk R (Kp.of s3)))
theorem evD_catA (R : Res p H w) {m : Bool} {ta tb : TE} {ds es : List PyData} (ha : EvD K m p w ta σ H (.tuple ds)) (hb : EvD K m p w tb σ H (.tuple es)) (l : ds.length + es.length ≤ 10000) : EvD K m p w (tOp (rCatA K) ta tb) σ H (.tuple (ds ++ es)) :=
  fun H1 k n Q q => ha H1 k n _ fun x H2 s2 dx => hb H2 (k.trans (Kp.of s2)) (same_at s2 n) _ fun y H3 s3 dy => by
    have dx := dx.rk R (Kp.of s3)
    obtain ⟨a, xs, rfl, hs, hx⟩ := dx.tup_of
    obtain ⟨b, ys, rfl, ht, hy⟩ := dy.tup_of
    have lx := hx.len
    have ly := hy.len
    refine ⟨a, b, xs, ys, rfl, rfl, hs.ext (R.sub H3), ht.ext (R.sub H3), by rw [lx, ly]; exact Nat.le_trans l (by decide), fun e => ?_, fun _ e => ?_, fun _ _ r hr => ?_⟩
    · subst e
      have : ds = [] := List.length_eq_zero_iff.mp (by rw [← lx]; rfl)
      subst this
      exact q _ _ (s2.trans s3) dy
    · subst e
      have : es = [] := List.length_eq_zero_iff.mp (by rw [← ly]; rfl)
      subst this
      exact q _ _ (s2.trans s3) (by rw [List.append_nil]; exact dx)
    · have nr : r ≠ p := fun z => same_at (s2.trans s3) n (by rw [← z]; exact hr)
      have s4 : Same H3 (L2.upd H3 r (.tup (xs ++ ys))) := Same.new (Same.refl _) hr
      exact q _ _ ((s2.trans s3).trans s4) (.tup (SqT.of (R.new ((k.trans (Kp.of s2)).trans (Kp.of s3)) (same_at (s2.trans s3) n) hr)) ((hx.append hy).rk R (Kp.of s4)))
/-- te[:k], k written -/
theorem evD_head (R : Res p H w) {m : Bool} {te : TE} {ds : List PyData} (h : EvD K m p w te σ H (.tuple ds)) (k : Nat) : EvD K m p w (tSl (rSlA K) te tNoPart (tPart (tC (.int (k : Int))))) σ H (.tuple (ds.take k)) :=
  fun H1 kp n Q q => h H1 kp n _ fun x H2 s2 dx => by
    obtain ⟨a, xs, rfl, hs, hx⟩ := dx.tup_of
    have lx := hx.len
    refine ⟨_, rfl, a, xs, rfl, hs.ext (R.sub H2), fun e => ?_, fun _ r hr => ?_⟩
    · have e2 : HT.sIx xs.length xs.length (some (k : Int)) = xs.length := e.2
      rw [sIx_some] at e2
      exact q _ _ s2 (by rw [List.take_of_length_le (by omega)]; exact dx)
    · have nr : r ≠ p := fun z => same_at s2 n (by rw [← z]; exact hr)
      have s4 : Same H2 (L2.upd H2 r (.tup (cutV xs none (some (k : Int))))) := Same.new (Same.refl _) hr
      refine q _ _ (s2.trans s4) (.tup (SqT.of (R.new (kp.trans (Kp.of s2)) (same_at s2 n) hr)) ?_)
      rw [cutV_to]
      rw [cutV_to] at s4
      exact (hx.take k).rk R (Kp.of s4)
theorem evD_strI {m : Bool} {te : TE} {i : Int} (h : EvI p te σ H i) (l : i.natAbs.log2 < 1920) : EvD K m p w (tCB (fun xs H Q => ∃ i, xs = [.int i] ∧ i.natAbs.log2 < 1920 ∧ Q (.str (toString i)) H) (tCons te tNil)) σ H (.str (toString i)) :=
  fun H1 k n Q q => h H1 k n _ fun H2 s2 => ⟨i, rfl, l, q _ _ s2 (.str _)⟩
theorem evI_int1 {te : TE} {i : Int} (h : EvI p te σ H i) : EvI p (tCB (fun xs H Q => (∃ i, xs = [.int i] ∧ Q (.int i) H) ∨ ∃ k, xs = [.bl k] ∧ Q (.int (if k then 1 else 0)) H) (tCons te tNil)) σ H i :=
  fun H1 k n Q q => h H1 k n _ fun H2 s2 => .inl ⟨i, rfl, q _ s2⟩
/-- a list display of data, so that its items can be drawn -/
theorem menu_here (R : Res p H w) {P : PyData → Prop} {ta : TA} {Q : VK} {ds : List PyData} (n : H p ≠ none) (hd : Res p H w → EvDs K true p w ta σ H ds) (hp : ∀ d ∈ ds, P d) (h0 : 0 < ds.length) (h4 : ds.length ≤ 40)
    (q : ∀ M H' xs, Same H H' → H M = none → M ≠ p → H' M = some (.lst xs) → (M == sysModules) = false → DgAll K (w H') true xs ds → (∀ d ∈ ds, P d) → 0 < ds.length → ds.length ≤ 40 → Q (.ref M) H') : tLstS ta σ H Q := by
  refine hd R H (Kp.refl p H) n _ fun xs H2 s2 dxs => ⟨by rw [dxs.len]; exact Nat.le_trans h4 (by decide), fun r hr low => ?_⟩
  have nr : r ≠ p := fun z => same_at s2 n (by rw [← z]; exact hr)
  have s3 : Same H2 (L2.upd H2 r (.lst xs)) := Same.new (Same.refl _) hr
  exact q r _ xs (s2.trans s3) (s2.free hr) nr upd_same low (dxs.rk R (Kp.of s3)) hp h0 h4
end
theorem cutV_fr (xs : List V) (n : Nat) : cutV xs (some (n : Int)) none = xs.drop n := by
  unfold cutV
  rw [HT.sIx_none, sIx_some]
  rcases Nat.le_total n xs.length with h | h
  · rw [Nat.min_eq_left h, List.take_of_length_le (by rw [List.length_drop]; exact Nat.le_refl _)]
  · rw [Nat.min_eq_right h, List.drop_of_length_le h, List.drop_of_length_le (Nat.le_refl _), List.take_nil]
section
variable {K : PySem.W.Frag} {p : Addr} {H : Hp} {m : Bool} {x : V} {ds : List PyData} {Q : VK}
theorem sl_take (n : H p ≠ none) (dx : Dw K p H m x (.tuple ds)) (k : Nat) (q : ∀ y H', Same H H' → Dw K p H' m y (.tuple (ds.take k)) → Q y H') : rSlA K x none (some (k : Int)) H Q := by
  obtain ⟨a, xs, rfl, hs, hx⟩ := dx.tup_of
  have lx := hx.len
  refine ⟨a, xs, rfl, hs.ext (wo_same H p), fun e => ?_, fun _ r hr => ?_⟩
  · have e2 : HT.sIx xs.length xs.length (some (k : Int)) = xs.length := e.2
    rw [sIx_some] at e2
    exact q _ _ (Same.refl _) (by rw [List.take_of_length_le (by omega)]; exact dx)
  · have nr : r ≠ p := fun z => n (by rw [← z]; exact hr)
    rw [cutV_to]
    have s4 : Same H (L2.upd H r (.tup (xs.take k))) := Same.new (Same.refl _) hr
    exact q _ _ s4 (.tup (SqT.of (by rw [wo_ne nr]; exact upd_same)) ((hx.take k).kp (Kp.of s4)))
theorem sl_drop (n : H p ≠ none) (dx : Dw K p H m x (.tuple ds)) (k : Nat) (q : ∀ y H', Same H H' → Dw K p H' m y (.tuple (ds.drop k)) → Q y H') : rSlA K x (some (k : Int)) none H Q := by
  obtain ⟨a, xs, rfl, hs, hx⟩ := dx.tup_of
  have lx := hx.len
  refine ⟨a, xs, rfl, hs.ext (wo_same H p), fun e => ?_, fun _ r hr => ?_⟩
  · have e2 : HT.sIx xs.length 0 (some (k : Int)) = 0 := e.1
    rw [sIx_some] at e2
    have : ds.drop k = ds := by
      rcases Nat.eq_zero_or_pos k with z | z
      · rw [z, List.drop_zero]
      · have : ds = [] := List.length_eq_zero_iff.mp (by omega)
        rw [this]; simp
    exact q _ _ (Same.refl _) (by rw [this]; exact dx)
  · have nr : r ≠ p := fun z => n (by rw [← z]; exact hr)
    rw [cutV_fr]
    have s4 : Same H (L2.upd H r (.tup (xs.drop k))) := Same.new (Same.refl _) hr
    exact q _ _ s4 (.tup (SqT.of (by rw [wo_ne nr]; exact upd_same)) ((hx.drop k).kp (Kp.of s4)))
theorem cat_tup {y : V} {es : List PyData} (n : H p ≠ none) (dx : Dw K p H m x (.tuple ds)) (dy : Dw K p H m y (.tuple es)) (l : ds.length + es.length ≤ 10000) (q : ∀ z H', Same H H' → Dw K p H' m z (.tuple (ds ++ es)) → Q z H') : rCatA K x y H Q := by
  obtain ⟨a, xs, rfl, hs, hx⟩ := dx.tup_of
  obtain ⟨b, ys, rfl, ht, hy⟩ := dy.tup_of
  have lx := hx.len
  have ly := hy.len
  refine ⟨a, b, xs, ys, rfl, rfl, hs.ext (wo_same H p), ht.ext (wo_same H p), by rw [lx, ly]; exact Nat.le_trans l (by decide), fun e => ?_, fun _ e => ?_, fun _ _ r hr => ?_⟩
  · subst e
    have : ds = [] := List.length_eq_zero_iff.mp (by rw [← lx]; rfl)
    subst this
    exact q _ _ (Same.refl _) dy
  · subst e
    have : es = [] := List.length_eq_zero_iff.mp (by rw [← ly]; rfl)
    subst this
    exact q _ _ (Same.refl _) (by rw [List.append_nil]; exact dx)
  · have nr : r ≠ p := fun z => n (by rw [← z]; exact hr)
    have s4 : Same H (L2.upd H r (.tup (xs ++ ys))) := Same.new (Same.refl _) hr
    exact q _ _ s4 (.tup (SqT.of (by rw [wo_ne nr]; exact upd_same)) ((hx.append hy).kp (Kp.of s4)))
/-- a new tuple of one -/
theorem one_tup {d : PyData} (n : H p ≠ none) (dx : Dw K p H m x d) : ∀ r, H r = none → Same H (L2.upd H r (.tup [x])) ∧ Dw K p (L2.upd H r (.tup [x])) m (.ref r) (.tuple [d]) := fun r hr => by
  have nr : r ≠ p := fun z => n (by rw [← z]; exact hr)
  have s4 : Same H (L2.upd H r (.tup [x])) := Same.new (Same.refl _) hr
  exact ⟨s4, .tup (SqT.of (by rw [wo_ne nr]; exact upd_same)) (.cons (dx.kp (Kp.of s4)) .nil)⟩
end
/-- an item of a list of data -/
theorem _root_.L2.DgAll.nth {K : PySem.W.Frag} {H : Hp} {m : Bool} {xs : List V} {ds : List PyData} (h : DgAll K H m xs ds) {i : Nat} (l : i < ds.length) : ∃ x d, xs[i]? = some x ∧ ds[i]? = some d ∧ Dg K H m x d := by
  have l' : i < xs.length := by rw [h.len]; exact l
  obtain ⟨d, e, g⟩ := h.at i xs[i] (List.getElem?_eq_getElem l')
  exact ⟨_, d, List.getElem?_eq_getElem l', e, g⟩
/-! ### small data -/
def wid (k : Nat) : Nat := 100 * 6 ^ k
def Lv (k : Nat) (d : PyData) : Prop := Fit d k (wid k)
theorem lv_up {k : Nat} {d : PyData} (h : Lv k d) : Lv (k + 1) d := Fit.mono h (Nat.le_succ _) (by unfold wid; rw [Nat.pow_succ]; omega)
theorem FitAll.all {k w : Nat} : ∀ {ds : List PyData}, (∀ d ∈ ds, Fit d k w) → FitAll ds k ((w + 1) * ds.length)
  | [], _ => FitAll.nil
  | d :: ds, h => (FitAll.cons (h d List.mem_cons_self) (FitAll.all fun e he => h e (List.mem_cons_of_mem _ he))).mono (Nat.le_refl _) (by rw [List.length_cons, Nat.mul_succ]; omega)
theorem lv_len {k n : Nat} (h : n ≤ 5) : (wid k + 1) * n ≤ wid (k + 1) := by
  have e : wid (k + 1) = 6 * wid k := by unfold wid; rw [Nat.pow_succ]; omega
  have p : 100 ≤ wid k := by unfold wid; exact Nat.le_mul_of_pos_right 100 (Nat.pow_pos (by decide))
  rw [e]
  have := Nat.mul_le_mul_left (wid k + 1) h
  omega
theorem lv_tup {k : Nat} {ds : List PyData} (h : ∀ d ∈ ds, Lv k d) (l : ds.length ≤ 5) : Lv (k + 1) (.tuple ds) := Fit.mono (Fit.tuple (FitAll.all h)) (Nat.le_refl _) (lv_len l)
theorem lv_lst {k : Nat} {ds : List PyData} (h : ∀ d ∈ ds, Lv k d) (l : ds.length ≤ 5) : Lv (k + 1) (.list ds) := Fit.mono (Fit.list (FitAll.all h)) (Nat.le_refl _) (lv_len l)
theorem lv0 {d : PyData} (k : Nat) (h : Lv 0 d) : Lv k d := by
  induction k with
  | zero => exact h
  | succ k ih => exact lv_up ih
theorem lv_non {k : Nat} : Lv k .none := lv0 k (Fit.none.mono (Nat.le_refl _) (Nat.zero_le _))
theorem lv_bl {k : Nat} {b : Bool} : Lv k (.bool b) := lv0 k (Fit.bool.mono (Nat.le_refl _) (Nat.zero_le _))
theorem fit_int {i : Int} {k : Nat} (h : i.natAbs < 10 ^ 30) : Fit (.int i) k 100 := by
  have lg : i.natAbs.log2 < 100 := PySem.Flt.log2_lt_of (by decide) (Nat.lt_of_lt_of_le h (by decide))
  refine ⟨?_, ?_, ?_, ?_⟩
  · simp only [PyData.showable, decide_eq_true_eq]
    exact Nat.lt_trans lg (by decide)
  · unfold PyData.depth; omega
  · have e := int_text_length_le10 (a := i) (k := 30) (by decide) h
    have e2 : (PyData.int i).shown = Str.ofString (toString i) := by simp only [PyData.shown]
    unfold PyData.leavesShort
    refine decide_eq_true ?_
    rw [e2, PySem.ofString_length]
    omega
  · simp only [PyData.weight]
    split <;> omega
theorem lv_int {k : Nat} {i : Int} (h : i.natAbs < 10 ^ 30) : Lv k (.int i) := lv0 k (fit_int h)
theorem lv_str {k : Nat} {z : List Nat} (h : z.length ≤ 100) (hc : ∀ c ∈ z, c < 200) : Lv k (.str (S z)) := lv0 k (Fit.str h hc)
theorem lv_emp {k : Nat} : Lv (k + 1) (.dict []) := Fit.mono (Fit.dict (k := k) FitKv.nil) (Nat.le_refl _) (Nat.zero_le _)
theorem all_nil {P : PyData → Prop} : ∀ d ∈ ([] : List PyData), P d := fun d h => by cases h
theorem all_cons {P : PyData → Prop} {e : PyData} {es : List PyData} (h : P e) (t : ∀ d ∈ es, P d) : ∀ d ∈ e :: es, P d := fun d hd => by
  rcases List.mem_cons.mp hd with q | q
  · rw [q]; exact h
  · exact t d q
theorem all_app {P : PyData → Prop} {a b : List PyData} (h : ∀ d ∈ a, P d) (g : ∀ d ∈ b, P d) : ∀ d ∈ a.append b, P d := fun d hd => (List.mem_append.mp hd).elim (h d) (g d)
theorem Lv.sh {k : Nat} {d : PyData} (h : Lv k d) (hk : k ≤ 3) : Sh d := by
  have : k = 0 ∨ k = 1 ∨ k = 2 ∨ k = 3 := by omega
  rcases this with rfl | rfl | rfl | rfl
  · exact Fit.sh h (by omega) (by decide)
  · exact Fit.sh h (by omega) (by decide)
  · exact Fit.sh h (by omega) (by decide)
  · exact Fit.sh h (by omega) (by decide)
theorem lv_any {k : Nat} {z : Str} (h : (cs z).length ≤ 100) (hc : (cs z).all (fun c => decide (c < 200)) = true) : Lv k (.str z) := by
  rw [← S_of z]
  exact lv_str h fun c hm => of_decide_eq_true (List.all_eq_true.mp hc c hm)
theorem lv_digit {k a : Nat} (h : a < 5) : Lv k (.str (Str.ofString (toString (a : Int)))) := by
  match a, h with
  | 0, _ => exact lv_any (by decide +kernel) (by decide +kernel)
  | 1, _ => exact lv_any (by decide +kernel) (by decide +kernel)
  | 2, _ => exact lv_any (by decide +kernel) (by decide +kernel)
  | 3, _ => exact lv_any (by decide +kernel) (by decide +kernel)
  | 4, _ => exact lv_any (by decide +kernel) (by decide +kernel)
end My

set_option Elab.async false
set_option linter.all false
set_option maxRecDepth 100000
set_option maxHeartbeats 4000000
/-! Comprehensions of two clauses over ranges; lists of new data that grow. -/
namespace L2
open PySem PySem.Spec PyProof.Rows
theorem lc2_range {lo : Int} {n : Nat} {g g1 : TG} {tt tt1 : TT} {te : TE} {wi1 : TI} {vs vs1 : List Nat} {σ : St} {H1 : Hp} {D : Addr} {Qd : Hp → Prop} (Pv : Nat → Hp → Prop) (h0 : Pv 0 (upd H1 D (.lst [])))
    (hs : ∀ i H, i < n → Pv i H → g (.int (lo + i)) (wipe σ vs) H fun σ2 H2 => wipe σ2 vs = wipe σ vs ∧ tt σ2 H2 fun b H3 =>
      if b = true then wi1 σ2 H3 fun J1 H4 => ∃ W1 : Nat → Nat → Hp → Prop, (∃ m, W1 0 m H4) ∧ ∀ j k H, W1 j k H →
        (J1.stop j H ∧ Pv (i + 1) H) ∨ (J1.go j H ∧ ∃ Nx1 : Hp → Prop, (∀ H', Nx1 H' → ∃ k', k' < k ∧ W1 (j + 1) k' H') ∧ ∀ x H', J1.yld j H x H' → g1 x (wipe σ2 vs1) H' fun σ3 H5 => wipe σ3 vs1 = wipe σ2 vs1 ∧ tt1 σ3 H5 fun b H6 =>
          if b = true then te σ3 H6 fun y H7 => ∃ acc, H7 D = some (.lst acc) ∧ acc.length < sizeLine ∧ Nx1 (upd H7 D (.lst (acc ++ [y]))) else Nx1 H6)
      else Pv (i + 1) H3) (hd : ∀ H, Pv n H → Qd H) :
    ∃ W : Nat → Nat → Hp → Prop, (∃ m, W 0 m (upd H1 D (.lst []))) ∧ ∀ i m H, W i m H →
      ((Itr lo n).stop i H ∧ Qd H) ∨ ((Itr lo n).go i H ∧ ∃ Nx : Hp → Prop, (∀ H', Nx H' → ∃ m', m' < m ∧ W (i + 1) m' H') ∧ ∀ x H', (Itr lo n).yld i H x H' → g x (wipe σ vs) H' fun σ2 H2 => wipe σ2 vs = wipe σ vs ∧ tt σ2 H2 fun b H3 =>
        if b = true then wi1 σ2 H3 fun J1 H4 => ∃ W1 : Nat → Nat → Hp → Prop, (∃ m, W1 0 m H4) ∧ ∀ j k H, W1 j k H →
          (J1.stop j H ∧ Nx H) ∨ (J1.go j H ∧ ∃ Nx1 : Hp → Prop, (∀ H', Nx1 H' → ∃ k', k' < k ∧ W1 (j + 1) k' H') ∧ ∀ x H', J1.yld j H x H' → g1 x (wipe σ2 vs1) H' fun σ3 H5 => wipe σ3 vs1 = wipe σ2 vs1 ∧ tt1 σ3 H5 fun b H6 =>
            if b = true then te σ3 H6 fun y H7 => ∃ acc, H7 D = some (.lst acc) ∧ acc.length < sizeLine ∧ Nx1 (upd H7 D (.lst (acc ++ [y]))) else Nx1 H6)
        else Nx H3) := by
  refine ⟨fun i m H => m = n - i ∧ i ≤ n ∧ Pv i H, ⟨n, by simp, Nat.zero_le _, h0⟩, ?_⟩
  rintro i m H ⟨rfl, hi, p⟩
  by_cases hlt : i < n
  · refine .inr ⟨hlt, Pv (i + 1), fun H' p' => ⟨n - (i + 1), by omega, rfl, hlt, p'⟩, fun x H' y => ?_⟩
    obtain ⟨e, y⟩ := y
    subst e y
    exact hs i _ hlt p
  · have e : i = n := by omega
    subst e
    exact .inl ⟨Nat.le_refl _, hd H p⟩
theorem lcr_inner {lo : Int} {n : Nat} {g : TG} {tt : TT} {te : TE} {vs : List Nat} {σ : St} {H4 : Hp} {D : Addr} {Qd : Hp → Prop} (Pv : Nat → Hp → Prop) (h0 : Pv 0 H4)
    (hs : ∀ i H, i < n → Pv i H → g (.int (lo + i)) (wipe σ vs) H fun σ2 H2 => wipe σ2 vs = wipe σ vs ∧ tt σ2 H2 fun b H3 =>
      if b = true then te σ2 H3 fun y H4 => ∃ acc, H4 D = some (.lst acc) ∧ acc.length < sizeLine ∧ Pv (i + 1) (upd H4 D (.lst (acc ++ [y]))) else Pv (i + 1) H3) (hd : ∀ H, Pv n H → Qd H) :
    ∃ W : Nat → Nat → Hp → Prop, (∃ m, W 0 m H4) ∧ ∀ i m H, W i m H →
      ((Itr lo n).stop i H ∧ Qd H) ∨ ((Itr lo n).go i H ∧ ∃ Nx : Hp → Prop, (∀ H', Nx H' → ∃ m', m' < m ∧ W (i + 1) m' H') ∧ ∀ x H', (Itr lo n).yld i H x H' → g x (wipe σ vs) H' fun σ2 H2 => wipe σ2 vs = wipe σ vs ∧ tt σ2 H2 fun b H3 =>
        if b = true then te σ2 H3 fun y H4 => ∃ acc, H4 D = some (.lst acc) ∧ acc.length < sizeLine ∧ Nx (upd H4 D (.lst (acc ++ [y]))) else Nx H3) := by
  refine ⟨fun i m H => m = n - i ∧ i ≤ n ∧ Pv i H, ⟨n, by simp, Nat.zero_le _, h0⟩, ?_⟩
  rintro i m H ⟨rfl, hi, p⟩
  by_cases hlt : i < n
  · refine .inr ⟨hlt, Pv (i + 1), fun H' p' => ⟨n - (i + 1), by omega, rfl, hlt, p'⟩, fun x H' y => ?_⟩
    obtain ⟨e, y⟩ := y
    subst e y
    exact hs i _ hlt p
  · have e : i = n := by omega
    subst e
    exact .inl ⟨Nat.le_refl _, hd H p⟩
end L2
namespace My
open PySem PySem.Spec PyProof.Rows L2
/-- the list at D, new since H1, holds the data ds, of which it is no part -/
def Ac (K : PySem.W.Frag) (H1 : Hp) (D : Addr) (ds : List PyData) (H : Hp) : Prop := Same H1 H ∧ ∃ acc, H D = some (.lst acc) ∧ DwAll K D H true acc ds
theorem Ac.start {K : PySem.W.Frag} {H1 : Hp} {D : Addr} (hD : H1 D = none) : Ac K H1 D [] (L2.upd H1 D (.lst [])) := ⟨Same.new (Same.refl _) hD, [], upd_same, .nil⟩
theorem Ac.snoc {K : PySem.W.Frag} {H1 H H2 : Hp} {D : Addr} {ds : List PyData} {y : V} {d : PyData} (h : Ac K H1 D ds H) (hD : H1 D = none) (l : ds.length ≤ 10000) (s : Same H H2) (dy : Dw K D H2 true y d) :
    ∃ acc, H2 D = some (.lst acc) ∧ acc.length < sizeLine ∧ Ac K H1 D (ds ++ [d]) (L2.upd H2 D (.lst (acc ++ [y]))) := by
  obtain ⟨s1, acc, e, ha⟩ := h
  refine ⟨acc, s _ _ e, by rw [ha.len]; exact Nat.lt_of_le_of_lt l (by decide), fun b o q => ?_, acc ++ [y], upd_same, ?_⟩
  · rw [upd_ne (ne_of_none q hD)]; exact s _ _ (s1 _ _ q)
  · show DgAll K (wo (L2.upd H2 D _) D) true _ _
    rw [wo_upd]
    exact (ha.kp (Kp.of s)).append (.cons dy .nil)
/-- a new tuple for it -/
theorem dw_tup {K : PySem.W.Frag} {H : Hp} {D q : Addr} {xs : List V} {es : List PyData} (e : H D ≠ none) (hq : H q = none) (h : DwAll K D H true xs es) : Dw K D (L2.upd H q (.tup xs)) true (.ref q) (.tuple es) := by
  have n : q ≠ D := fun z => e (by rw [← z]; exact hq)
  exact .tup (SqT.of (by rw [wo_ne n]; exact upd_same)) (h.kp ((Kp.refl D H).new hq))
theorem Ac.ne {K : PySem.W.Frag} {H1 H : Hp} {D : Addr} {ds : List PyData} (h : Ac K H1 D ds H) : H D ≠ none := by
  obtain ⟨_, acc, e, _⟩ := h
  rw [e]; exact fun z => by cases z
/-- one more tuple of known items -/
theorem Ac.tup {K : PySem.W.Frag} {H1 H : Hp} {D q : Addr} {ds es : List PyData} {xs : List V} (h : Ac K H1 D ds H) (hD : H1 D = none) (l : ds.length ≤ 10000) (hq : H q = none) (hx : ∀ G, DgAll K G true xs es) :
    ∃ acc, L2.upd H q (.tup xs) D = some (.lst acc) ∧ acc.length < sizeLine ∧ Ac K H1 D (ds ++ [.tuple es]) (L2.upd (L2.upd H q (.tup xs)) D (.lst (acc ++ [.ref q]))) :=
  h.snoc hD l (Same.new (Same.refl _) hq) (dw_tup h.ne hq (hx _))
theorem same_wo {H : Hp} {p : Addr} {o : HO} (h : H p = none) : Same H (wo (L2.upd H p o) p) := fun b ob e => by
  have n : b ≠ p := fun z => by rw [z, h] at e; cases e
  rw [wo_ne n, upd_ne n]; exact e
end My

set_option Elab.async false
set_option linter.all false
set_option maxRecDepth 100000
set_option maxHeartbeats 2000000
namespace PySem
open PyProof.Rows
theorem Walks.tupleOn {prog : Program} {w : World} {A : Around} (hh : A.handled = none) (I ax : Addr) (hne : ax ≠ I) (items : Array Value) (k : Nat) (hk : k ≤ items.size) :
    Walks prog w A I [I, ax] [I] (items.size - k) (fun i v => items[k + i]? = some v) (fun i h => h.IsTupleIter I ax (k + i) ∧ h.IsTuple ax items) where
  sub := fun b hb => by simp at hb; simp [hb]
  frame := fun _ _ _ st hk => ⟨st.1.at fun o e => hk I (by simp) o e, st.2.at fun o e => hk ax (by simp) o e⟩
  item := fun i s Q E hi st hQ => by
    have hi' : k + i < items.size := by omega
    refine wpAny_pyNext_tuple_item st.1 st.2 (x := items[k + i]) (by simp [hi']) fun h' hit' hs' => ?_
    exact hQ _ h' s.toks (by simp [hi']) ⟨hit', st.2.extBut hs'.extBut hne⟩ fun b o hb e => hs'.extBut b o (fun h => hb (by simp [h])) e
  done := fun s Q E st hQ => wpAny_pyNext_tuple_end hh st.1 st.2 (by simp; omega) fun h' he' => hQ h' s.toks fun b o hb e => he' b o (fun h => hb (by simp [h])) e
  self := fun _ _ _ _ st hQ => wpAny_pyIter_tupleiter st.1 hQ
section
variable {prog : Program} {w : World} {A : Around} {E : Value → Shared → Prop} {s : Shared}
theorem unpackStar {t : Addr} {items : Array Value} {Q : List Value → Shared → Prop} (hh : A.handled = none) (ht : s.heap.IsTuple t items) (h1 : 1 ≤ items.size) (hz : items.size ≤ sizeLine)
    (hQ : ∀ s', Moved [s.heap.objs.size] (fun a b => b = a) s s' → Q [items[0], .ref s'.heap.objs.size] { s' with heap := s'.heap.push { cls := .type "list", data := .seq (items.toList.drop 1).toArray } }) :
    wpAny (model prog w) A (unpackItems (.ref t) 2 (some 1)) Q E s := by
  have hlt : t ≠ s.heap.objs.size := by obtain ⟨o, ho, _⟩ := ht; exact Nat.ne_of_lt (Heap.lt_size ho)
  unfold unpackItems
  refine wpAny_bind ?_
  unfold notIterableAtAll
  refine wpAny_bind (wpAny_specialOf ht.typeIs F.slot_tuple_iter.lookup ?_)
  refine wpAny_pure ?_
  simp only [Bool.false_eq_true, if_false]
  refine wpAny_bind (wpAny_holding (wpAny_pyIter_tuple ht ?_))
  refine wpAny_bind (wpAny_holding (wpAny_draw_tuple hlt 1 0 _ _ ⟨_, Heap.get?_push_size _ rfl, rfl, rfl⟩ (ht.push _) (by omega) fun h₁ hit₁ hs₁ => ?_))
  have hone : List.take 1 (List.drop 0 items.toList) = [items[0]] := by
    rw [List.drop_zero]
    have : items.toList = items[0] :: items.toList.drop 1 := by
      have := List.drop_eq_getElem_cons (l := items.toList) (i := 0) (by rw [Array.length_toList]; omega)
      simpa using this
    rw [this]; rfl
  rw [hone, if_neg (by simp)]
  have W := (Walks.tupleOn (prog := prog) (w := w) (A := A.in1) hh s.heap.objs.size t hlt items 1 h1).toS
  have k0 : ∀ b o, b ∉ [s.heap.objs.size] → s.heap.get? b = some o → h₁.get? b = some o := fun b o hb e => hs₁.extBut b o (fun z => hb (by simp [z])) (Heap.get?_push_of_some _ e)
  have sz1 : s.heap.objs.size < h₁.objs.size := by
    obtain ⟨o, ho, _⟩ := hit₁
    exact Heap.lt_size ho
  refine wpAny_bind (wpAny_holding (wpAny_collect_iter (T := "tuple_iterator") (.inr (.inr (.inr rfl))) W (fun i s' st => st.1.typeIs) ⟨hit₁, (ht.push _).extBut hs₁.extBut hlt⟩ ?_ (by simp) (fun s' acc hm hacc => ?_) (by omega)))
  · intro b hb
    rcases List.mem_cons.mp hb with rfl | hb
    · exact sz1
    · rw [List.mem_singleton.mp hb]
      obtain ⟨o, ho, _⟩ := ht
      exact Nat.lt_trans (Heap.lt_size ho) sz1
  · have el : acc.toList = items.toList.drop 1 := by
      obtain ⟨e1, e2⟩ := hacc
      apply List.ext_getElem?
      intro i
      rw [List.getElem?_drop, Array.getElem?_toList, Array.getElem?_toList]
      by_cases hi : i < acc.size
      · have g : acc[i]? = some acc[i] := by simp [hi]
        rw [g]; exact (e2 i _ g).symm
      · have a1 : acc[i]? = none := by simp; omega
        have a2 : items[1 + i]? = none := by simp; omega
        rw [a1, a2]
    rw [el, if_neg (by simp)]
    have et : List.take ((items.toList.drop 1).length - (2 - 1 - 1)) (items.toList.drop 1) = items.toList.drop 1 := by rw [show 2 - 1 - 1 = 0 from rfl, Nat.sub_zero, List.take_length]
    have ed : List.drop ((items.toList.drop 1).length - (2 - 1 - 1)) (items.toList.drop 1) = [] := by rw [show 2 - 1 - 1 = 0 from rfl, Nat.sub_zero, List.drop_length]
    rw [et, ed]
    refine wpAny_bind (wpAny_newList (wpAny_pure ?_) ?_)
    · exact hQ s' ⟨fun b o hb e => hm.heap b o hb (k0 b o hb e), hm.gens, hm.drawn, hm.os, hm.toks⟩
    · simp; omega
end
end PySem
namespace L2
open PySem PySem.Spec PyProof.Rows
section
variable {X : Cx} {pos : Pos}
/-- x, *rest = v (v a tuple of one item or more): rest becomes a new list -/
def gStar (K : PySem.W.Frag) (t : TGs) : TG := fun v σ H Q => ∃ a x xs, v = .ref a ∧ SqT K H a (x :: xs) ∧ ∀ p, H p = none → t [x, .ref p] σ (upd H p (.lst xs)) Q
theorem pg_star {e1 e2 : Expr} {k : Nat} {p2 : Pos} {t : TGs} (hc : X.calm = true) (h : PGs X [e1, e2] t)
    (hn : (assignEach [e1, .Starred e2 p2] X.env).length = 2 := by rfl) (hst : (assignEach [e1, .Starred e2 p2] X.env).findIdx? (·.1) = some 1 := by rfl)
    (hm : (assignEach [e1, .Starred e2 p2] X.env).map (·.2) = (assignEach [e1, e2] X.env).map (·.2) := by rfl) : PG X (.Tuple [e1, .Starred e2 p2] k pos) (gStar X.K t) := by
  refine ⟨fun pins s σ H v u Q I r hw => ?_⟩
  obtain ⟨a, x, xs, e1', hq, hw⟩ := hw
  subst e1'
  cases r
  obtain ⟨its, rv, ht, hz⟩ := I.tuple hq
  rw [assign_Tuple]
  refine wpAny_bind (wpAny_standAt ?_)
  unfold unpack
  rw [hn, hst, hm]
  cases rv with
  | cons r0 rv =>
    rename_i u0 us
    refine wpAny_bind (wpAny_holding (unpackStar (items := (u0 :: us).toArray) (I.ok.hd hc) ht (by simp) (by simp; have := rv.length; simp at hz; omega) fun s' mv => ?_))
    have I1 : Inv X pins σ H s' := by
      rw [Moved.eq_with mv]
      exact I.kept (t' := s'.toks) fun b o e => mv.heap b o (fun z => by have h1 := Heap.lt_size e; rw [List.mem_singleton.mp z] at h1; exact Nat.lt_irrefl _ h1) e
    have hf : H s'.heap.objs.size = none := I1.hok.fresh (Nat.le_refl _)
    have I2 : Inv X pins σ (upd H s'.heap.objs.size (.lst xs)) { s' with heap := s'.heap.push { cls := .type "list", data := .seq ((u0 :: us).drop 1).toArray }, toks := s'.toks } := by
      refine I1.laid (t' := s'.toks) (fun b u e => Heap.get?_push_of_some _ e) (Nat.le_refl _) ?_
      exact ⟨by simp at hz; omega, us, 0, rv, Heap.get?_push_size _ rfl⟩
    exact h.run pins _ σ _ [x, .ref s'.heap.objs.size] [u0, .ref s'.heap.objs.size] Q I2 (.cons r0 (.cons rfl .nil)) (hw _ hf)
end
end L2

set_option Elab.async false
set_option linter.all false
set_option maxRecDepth 100000
set_option maxHeartbeats 4000000
/-! A value that is a list or a tuple: its items, a slice of it, walked through; a body behind a call that never comes back. -/
namespace L2
open PySem PySem.Spec PyProof.Rows
section
variable {X : Cx} {K : PySem.W.Frag}
def rIxQ (K : PySem.W.Frag) : R2 := fun x y H Q => rIxL K x y H Q ∨ rIxT K x y H Q
theorem ix_q : IxR X (rIxQ X.K) := by
  intro value slice pins s σ H x y v u Q I rx ry h hs
  rcases h with h | h
  · exact ix_list value slice pins s σ H x y v u Q I rx ry h hs
  · exact ix_tup value slice pins s σ H x y v u Q I rx ry h hs
theorem ix_qK (e : X.K = K) : IxR X (rIxQ K) := by rw [← e]; exact ix_q
def rSlQ (K : PySem.W.Frag) : V → Option Int → Option Int → Hp → VK → Prop := fun x lo hi H Q => rSlL K x lo hi H Q ∨ rSlA K x lo hi H Q
theorem sl_q : SlR X (rSlQ X.K) := SlR.or sl_list sl_tupA
def iSq (K : PySem.W.Frag) (tl : TE) : TI := fun σ H R => tl σ H fun x H1 => ∃ a, x = .ref a ∧ ((∃ xs, SqL K H1 a xs) ∧ R (Itl K a) H1 ∨ (∃ xs, SqT K H1 a xs) ∧ R (Itt K a) H1)
theorem pi_sq {tg l : Expr} {tl : TE} (hl : PE X l tl) : PI X tg l (iSq X.K tl) := by
  refine ⟨fun pins s σ H R I h => ?_⟩
  refine thn (hl.run pins s σ H _ I h) fun v s1 ⟨x, H1, I1, r1, q1⟩ => ?_
  obtain ⟨a, e, q1⟩ := q1
  subst e
  cases r1
  rcases q1 with ⟨⟨xs, hq⟩, q⟩ | ⟨⟨xs, hq⟩, q⟩
  · obtain ⟨its, rv, p, hz⟩ := I1.list hq
    refine wpAny_pyIter_list p.isList ?_
    refine ⟨s1.heap.objs.size, [s1.heap.objs.size], _, _, H1, rfl, I1.kept (t' := s1.toks) fun b o e => Heap.get?_push_of_some _ e, turn_list a _, ⟨_, Heap.get?_push_size _ rfl, rfl, rfl⟩, fun b hb => ?_, q⟩
    have e : b = s1.heap.objs.size := by simpa using hb
    subst e
    exact I1.fpOk (Nat.le_refl _) (I1.hok.fresh (Nat.le_refl _))
  · obtain ⟨its, rv, p, hz⟩ := I1.tuple hq
    refine wpAny_pyIter_tuple (show s1.heap.IsTuple a its.toArray from p) ?_
    refine ⟨s1.heap.objs.size, [s1.heap.objs.size], _, _, H1, rfl, I1.kept (t' := s1.toks) fun b o e => Heap.get?_push_of_some _ e, turn_tuple a _, ⟨_, Heap.get?_push_size _ rfl, rfl, rfl⟩, fun b hb => ?_, q⟩
    have e : b = s1.heap.objs.size := by simpa using hb
    subst e
    exact I1.fpOk (Nat.le_refl _) (I1.hok.fresh (Nat.le_refl _))
theorem pg_tupK {es : List Expr} {k : Nat} {t : TGs} {n : Nat} {pos : Pos} (e : X.K = K) (hc : X.calm = true) (h : PGs X es t)
    (hn : (assignEach es X.env).length = n := by rfl) (hst : (assignEach es X.env).findIdx? (·.1) = none := by rfl) : PG X (.Tuple es k pos) (gTup K n t) := by subst e; exact pg_tup hc h hn hst
/-- a statement behind which nothing is reached -/
theorem pss_dead {st : Stmt} {rest : List Stmt} {t : TS} (h1 : PS X st t) : PSs X (st :: rest) (fun D σ H => t { D with nx := fun _ _ => False } σ H) := by
  refine ⟨fun pins s σ H D I h => ?_⟩
  refine wpAny_execs_cons (thn (h1.run pins s σ H { D with nx := fun _ _ => False } I h) fun f s1 q => ?_)
  cases f with
  | next =>
    obtain ⟨_, _, _, q⟩ := q
    exact q.elim
  | ret v => exact q
  | brk => exact q
  | cont => exact q
end
end L2
namespace My
open PySem PySem.Spec PyProof.Rows L2
/-- a list, or a tuple -/
def SqQ (K : PySem.W.Frag) (H : Hp) (a : Addr) (xs : List V) : Prop := SqL K H a xs ∨ SqT K H a xs
theorem SqQ.same {K : PySem.W.Frag} {H H' : Hp} {a : Addr} {xs : List V} (h : SqQ K H a xs) (s : ∀ b o, H b = some o → H' b = some o) : SqQ K H' a xs := h.elim (fun h => .inl (h.ext s)) (fun h => .inr (h.ext s))
theorem SqQ.ix {K : PySem.W.Frag} {H : Hp} {a : Addr} {xs : List V} {i : Int} {v : V} {Q : VK} (h : SqQ K H a xs) (e : atI xs i = some v) (q : Q v H) : rIxQ K (.ref a) (.int i) H Q :=
  h.elim (fun h => .inl ⟨a, xs, i, v, rfl, rfl, h, e, q⟩) (fun h => .inr ⟨a, xs, i, v, rfl, rfl, h, e, q⟩)
/-- a comprehension over a list or a tuple -/
theorem lc_sq {K : PySem.W.Frag} {a : Addr} {xs : List V} {g : TG} {tt : TT} {te : TE} {vs : List Nat} {σ : L2.St} {H1 : Hp} {Qd : Addr → Hp → Prop} (hq : SqQ K H1 a xs)
    (h : ∀ D, H1 D = none → ∃ Pv : Nat → Hp → Prop, Pv 0 (upd H1 D (.lst [])) ∧ (∀ i H, Pv i H → Same H1 H) ∧
      (∀ i x H, xs[i]? = some x → Pv i H → g x (wipe σ vs) H fun σ2 H2 => wipe σ2 vs = wipe σ vs ∧ tt σ2 H2 fun b H3 =>
        if b = true then te σ2 H3 fun y H4 => ∃ acc, H4 D = some (.lst acc) ∧ acc.length < sizeLine ∧ Pv (i + 1) (upd H4 D (.lst (acc ++ [y]))) else Pv (i + 1) H3) ∧ ∀ H, Pv xs.length H → Qd D H) :
    ((∃ xs, SqL K H1 a xs) ∧ ∀ D, H1 D = none → ∃ W : Nat → Nat → Hp → Prop, (∃ m, W 0 m (upd H1 D (.lst []))) ∧ ∀ i m H, W i m H →
      ((Itl K a).stop i H ∧ Qd D H) ∨ ((Itl K a).go i H ∧ ∃ Nx : Hp → Prop, (∀ H', Nx H' → ∃ m', m' < m ∧ W (i + 1) m' H') ∧ ∀ x H', (Itl K a).yld i H x H' → g x (wipe σ vs) H' fun σ2 H2 => wipe σ2 vs = wipe σ vs ∧ tt σ2 H2 fun b H3 =>
        if b = true then te σ2 H3 fun y H4 => ∃ acc, H4 D = some (.lst acc) ∧ acc.length < sizeLine ∧ Nx (upd H4 D (.lst (acc ++ [y]))) else Nx H3)) ∨ ((∃ xs, SqT K H1 a xs) ∧ ∀ D, H1 D = none → ∃ W : Nat → Nat → Hp → Prop, (∃ m, W 0 m (upd H1 D (.lst []))) ∧ ∀ i m H, W i m H →
      ((Itt K a).stop i H ∧ Qd D H) ∨ ((Itt K a).go i H ∧ ∃ Nx : Hp → Prop, (∀ H', Nx H' → ∃ m', m' < m ∧ W (i + 1) m' H') ∧ ∀ x H', (Itt K a).yld i H x H' → g x (wipe σ vs) H' fun σ2 H2 => wipe σ2 vs = wipe σ vs ∧ tt σ2 H2 fun b H3 =>
        if b = true then te σ2 H3 fun y H4 => ∃ acc, H4 D = some (.lst acc) ∧ acc.length < sizeLine ∧ Nx (upd H4 D (.lst (acc ++ [y]))) else Nx H3)) := by
  rcases hq with hq | hq
  · exact .inl ⟨⟨xs, hq⟩, fun D hD => by obtain ⟨Pv, h0, hl, hs, hd⟩ := h D hD; exact lc_list (K := K) (a := a) (xs := xs) Pv h0 (fun i H hi h => hq.ext (hl i H h)) hs hd⟩
  · exact .inr ⟨⟨xs, hq⟩, fun D hD => by obtain ⟨Pv, h0, hl, hs, hd⟩ := h D hD; exact lc_tup (K := K) (a := a) (xs := xs) Pv h0 (fun i H hi h => hq.ext (hl i H h)) hs hd⟩
theorem walk_zipT {K : PySem.W.Frag} {a b : Addr} {xs ys : List V} {n : Nat} (hn : n = min xs.length ys.length) : Walk (RZ.ItzT K a b) n (fun H => SqT K H a xs ∧ SqT K H b ys) (YPair (fun i => xs[i]?) (fun i => ys[i]?)) := by
  subst hn
  refine ⟨fun i _ hi q => ?_, fun _ q => ⟨xs, ys, q.1, q.2, by omega⟩, fun i H v H' _ q y => ?_⟩
  · have h1 : i < xs.length := by omega
    have h2 : i < ys.length := by omega
    exact ⟨xs, ys, xs[i], ys[i], q.1, q.2, by simp [h1], by simp [h2]⟩
  · obtain ⟨T, x, z, h1, h2, h3, h4, h5⟩ := y
    exact ⟨T, x, z, h1, h2, h3, h4 xs q.1, h5 ys q.2⟩
/-- a comprehension over the pairs of two lists, or of two tuples -/
theorem lc_zipA {K : PySem.W.Frag} {a b : Addr} {xs ys : List V} {g : TG} {tt : TT} {te : TE} {vs : List Nat} {σ : L2.St} {H1 : Hp} {Qd : Addr → Hp → Prop} (hq : (SqL K H1 a xs ∧ SqL K H1 b ys) ∨ (SqT K H1 a xs ∧ SqT K H1 b ys))
    (h : ∀ D, H1 D = none → ∃ Pv : Nat → Hp → Prop, Pv 0 (upd H1 D (.lst [])) ∧ (∀ i H, Pv i H → Same H1 H) ∧
      (∀ i T x y H, xs[i]? = some x → ys[i]? = some y → Pv i H → H T = none → g (.ref T) (wipe σ vs) (upd H T (.tup [x, y])) fun σ2 H2 => wipe σ2 vs = wipe σ vs ∧ tt σ2 H2 fun b H3 =>
        if b = true then te σ2 H3 fun y H4 => ∃ acc, H4 D = some (.lst acc) ∧ acc.length < sizeLine ∧ Pv (i + 1) (upd H4 D (.lst (acc ++ [y]))) else Pv (i + 1) H3) ∧ ∀ H, Pv (min xs.length ys.length) H → Qd D H) :
    (SqL K H1 a xs ∧ SqL K H1 b ys ∧ ∀ D, H1 D = none → ∃ W : Nat → Nat → Hp → Prop, (∃ m, W 0 m (upd H1 D (.lst []))) ∧ ∀ i m H, W i m H →
      ((Itz K a b).stop i H ∧ Qd D H) ∨ ((Itz K a b).go i H ∧ ∃ Nx : Hp → Prop, (∀ H', Nx H' → ∃ m', m' < m ∧ W (i + 1) m' H') ∧ ∀ x H', (Itz K a b).yld i H x H' → g x (wipe σ vs) H' fun σ2 H2 => wipe σ2 vs = wipe σ vs ∧ tt σ2 H2 fun b H3 =>
        if b = true then te σ2 H3 fun y H4 => ∃ acc, H4 D = some (.lst acc) ∧ acc.length < sizeLine ∧ Nx (upd H4 D (.lst (acc ++ [y]))) else Nx H3)) ∨ (SqT K H1 a xs ∧ SqT K H1 b ys ∧ ∀ D, H1 D = none → ∃ W : Nat → Nat → Hp → Prop, (∃ m, W 0 m (upd H1 D (.lst []))) ∧ ∀ i m H, W i m H →
      ((RZ.ItzT K a b).stop i H ∧ Qd D H) ∨ ((RZ.ItzT K a b).go i H ∧ ∃ Nx : Hp → Prop, (∀ H', Nx H' → ∃ m', m' < m ∧ W (i + 1) m' H') ∧ ∀ x H', (RZ.ItzT K a b).yld i H x H' → g x (wipe σ vs) H' fun σ2 H2 => wipe σ2 vs = wipe σ vs ∧ tt σ2 H2 fun b H3 =>
        if b = true then te σ2 H3 fun y H4 => ∃ acc, H4 D = some (.lst acc) ∧ acc.length < sizeLine ∧ Nx (upd H4 D (.lst (acc ++ [y]))) else Nx H3)) := by
  rcases hq with ⟨h1, h2⟩ | ⟨h1, h2⟩
  · refine .inl ⟨h1, h2, fun D hD => ?_⟩
    obtain ⟨Pv, h0, hl, hs, hd⟩ := h D hD
    refine lc_it (walk_zip rfl) Pv h0 (fun i H _ p => ⟨h1.ext (hl i H p), h2.ext (hl i H p)⟩) ?_ hd
    rintro i v H H' hi p ⟨T, x, y, rfl, hT, rfl, ex, ey⟩
    exact hs i T x y H ex ey p hT
  · refine .inr ⟨h1, h2, fun D hD => ?_⟩
    obtain ⟨Pv, h0, hl, hs, hd⟩ := h D hD
    refine lc_it (walk_zipT rfl) Pv h0 (fun i H _ p => ⟨h1.ext (hl i H p), h2.ext (hl i H p)⟩) ?_ hd
    rintro i v H H' hi p ⟨T, x, y, rfl, hT, rfl, ex, ey⟩
    exact hs i T x y H ex ey p hT
theorem _root_.L2.Dg.lst_q {K : PySem.W.Frag} {H : Hp} {m : Bool} {x : V} {ds : List PyData} {d : PyData} (hd : d = .list ds ∨ d = .tuple ds) (h : Dg K H m x d) : ∃ a xs, x = .ref a ∧ SqQ K H a xs ∧ DgAll K H m xs ds := by
  rcases hd with rfl | rfl
  · obtain ⟨a, xs, rfl, hs, _, ha⟩ := h.lst_of
    exact ⟨a, xs, rfl, .inl hs, ha⟩
  · obtain ⟨a, xs, rfl, hs, ha⟩ := h.tup_of
    exact ⟨a, xs, rfl, .inr hs, ha⟩
end My

set_option Elab.async false
set_option linter.all false
set_option maxRecDepth 100000
set_option maxHeartbeats 4000000
/-! Instances of an own class with its own __eq__: == and != with an instance or with data. -/
namespace OwnC
open PySem PySem.Spec PyProof.Rows PySem.Builtin
section
variable {M : Model} {prog : Program} {w : World} {A : Around} {E : Value → Shared → Prop} {s : Shared} {K : PySem.W.Frag} {x C f : Addr} {ox : Obj} {od : Option Obj} {b tb : Value}
theorem ifBound_objNe {args : List Value} {Q : Option Value → Shared → Prop} (X : K.In s.heap) (I : PySem.W.InstAt s.heap x ox C od) (hs : PySem.W.findIn K (.ref C) "__ne__" = some (some (.builtin "object.__ne__")))
    (h : wpAny M A (call (.builtin "object.__ne__") (.ref x :: args)) (fun v => Q (some v)) E s) : wpAny M A (callSpecialIfBound? (.ref x) "__ne__" args) Q E s := by
  simp only [callSpecialIfBound?, bindSpecialIfBound?]
  refine wpAny_holding (wpAny_bind (wpAny_bind (wpAny_bind (I.type.here ((PySem.W.looks_findIn X hs).here ?_)))))
  refine wpAny_bind (wpAny_askSetting (wpAny_ite ?_))
  have fin : wpAny M A (call (.builtin "object.__ne__") ([.ref x] ++ args) >>= fun v => pure (some v)) Q E s := wpAny_bind (wpAny_mono h (fun v s' h' => wpAny_pure h') fun _ _ h' => h')
  split
  · exact wpAny_bind (wpAny_of_eq (F.cmp_object.ne.bind _) (wpAny_pure (by exact fin)))
  · exact wpAny_tryCatch (wpAny_bind (wpAny_of_eq (F.cmp_object.ne.bind _) (wpAny_pure (by exact fin))))
theorem entry_ne {Q : Fin → Shared → Prop} (hu : A.units < cLine) (X : K.In s.heap) (I : PySem.W.InstAt s.heap x ox C od) (hs : PySem.W.findIn K (.ref C) "__eq__" = some (some (.ref f))) (hf : PySem.W.isFn K (.ref f) = true)
    (h : wpAny (model prog w) A (call (.ref f) [.ref x, b]) (fun v s' => ∃ r, v = .bool r ∧ Q (.done (.ret (.bool (!r)))) s') E s) : wpAny (model prog w) A (Builtin.«object.__ne__» ⟨[.ref x, b], []⟩) Q E s := by
  unfold Builtin.«object.__ne__»
  refine wpAny_bind (m := slotArgs "__ne__" 1 _) (wpAny_pure ?_)
  refine wpAny_bind (m := cRoomFor _ _) (wpAny_cRoomFor hu ?_)
  refine wpAny_bind (m := callSpecialIfBound? (.ref x) (Str.ofString "__eq__") _) (PySem.W.ifBound_K X I hs hf (wpAny_mono h (fun r s' hq => ?_) fun _ _ y => y))
  obtain ⟨r, rfl, hq⟩ := hq
  refine wpAny_bind (wpAny_truthy_bool ?_)
  exact wpAny_pure hq
theorem call_ne {Q : Value → Shared → Prop} (hu : A.in1.units < cLine) (X : K.In s.heap) (I : PySem.W.InstAt s.heap x ox C od) (hm : PySem.W.mroIn K C (.type "object") = some true) (hs : PySem.W.findIn K (.ref C) "__eq__" = some (some (.ref f))) (hf : PySem.W.isFn K (.ref f) = true)
    (h : wpAny (model prog w) A.in1 (call (.ref f) [.ref x, b]) (fun v s' => ∃ r, v = .bool r ∧ Q (.bool (!r)) s') E s) : wpAny (model prog w) A (call (.builtin "object.__ne__") [.ref x, b]) Q E s :=
  wpAny_call (codeAny_call_builtin F.cmp_object.ne.plain F.cmpEntry_ne (PySem.W.check_slot F.cmpKind_ne F.cmpSplit_ne (I.type.andThen (PySem.W.looks_mroIn X hm)) (F.cmpArgs_ne _ _) (entry_ne hu X I hs hf h)))
theorem cmp_ne {Q : Value → Shared → Prop} (hu : A.units + 1 < cLine) (X : K.In s.heap) (I : PySem.W.InstAt s.heap x ox C od) (hb : PySem.W.Looks (model prog w) s.heap (typeOf b) tb) (hn : PySem.W.notFirst K C tb = true)
    (hm : PySem.W.mroIn K C (.type "object") = some true) (hN : PySem.W.findIn K (.ref C) "__ne__" = some (some (.builtin "object.__ne__"))) (hs : PySem.W.findIn K (.ref C) "__eq__" = some (some (.ref f))) (hf : PySem.W.isFn K (.ref f) = true)
    (h : wpAny (model prog w) A.in1 (call (.ref f) [.ref x, b]) (fun v s' => ∃ r, v = .bool r ∧ Q (.bool (!r)) s') E s) : wpAny (model prog w) A (richCompare .NotEq (.ref x) b) Q E s := by
  have one : wpAny (model prog w) A (tryCompare (.ref x) (cmpInfo .NotEq).2.1 b) (fun r s' => ∃ v, r = some v ∧ Q v s') E s := by
    rw [cmpInfo_NotEq]
    unfold tryCompare
    refine wpAny_bind (ifBound_objNe X I hN (call_ne (by show A.units + 1 < cLine; omega) X I hm hs hf (wpAny_mono h (fun v s' hv => ?_) fun _ _ e => e)))
    obtain ⟨r, rfl, hq⟩ := hv
    exact ⟨r, rfl, wpAny_pure ⟨_, rfl, hq⟩⟩
  unfold richCompare
  simp only [oneThing_ref]
  refine wpAny_holding (wpAny_bind (wpAny_cRoomFor (Nat.lt_of_succ_lt hu) ?_))
  refine wpAny_bind (I.type.here (wpAny_bind (hb.here ?_)))
  split
  · rename_i q
    have e : PySem.W.subIn K tb (.ref C) = some false := by
      rcases Bool.or_eq_true_iff.mp hn with e | e
      · rw [beq_iff_eq.mp e] at q; simp at q
      · exact beq_iff_eq.mp e
    refine wpAny_bind ((PySem.W.looks_subIn X e).here ?_)
    simp only [Bool.false_eq_true, if_false]
    refine wpAny_bind (wpAny_mono one (fun r s' z => ?_) fun _ _ e => e)
    obtain ⟨v, rfl, hq⟩ := z
    exact wpAny_pure hq
  · refine wpAny_bind (wpAny_pure ?_)
    simp only [Bool.false_eq_true, if_false]
    refine wpAny_bind (wpAny_mono one (fun r s' z => ?_) fun _ _ e => e)
    obtain ⟨v, rfl, hq⟩ := z
    exact wpAny_pure hq
theorem cmp_eq {Q : Value → Shared → Prop} (hu : A.units < cLine) (X : K.In s.heap) (I : PySem.W.InstAt s.heap x ox C od) (hb : PySem.W.Looks (model prog w) s.heap (typeOf b) tb) (hn : PySem.W.notFirst K C tb = true)
    (hs : PySem.W.findIn K (.ref C) "__eq__" = some (some (.ref f))) (hf : PySem.W.isFn K (.ref f) = true)
    (h : wpAny (model prog w) A (call (.ref f) [.ref x, b]) (fun v s' => ∃ r, v = .bool r ∧ Q (.bool r) s') E s) : wpAny (model prog w) A (richCompare .Eq (.ref x) b) Q E s := by
  have one : wpAny (model prog w) A (tryCompare (.ref x) (cmpInfo .Eq).2.1 b) (fun r s' => ∃ v, r = some v ∧ Q v s') E s := by
    rw [cmpInfo_Eq]
    unfold tryCompare
    refine wpAny_bind (PySem.W.ifBound_K X I hs hf (wpAny_mono h (fun v s' hv => ?_) fun _ _ e => e))
    obtain ⟨r, rfl, hq⟩ := hv
    exact wpAny_pure ⟨_, rfl, hq⟩
  unfold richCompare
  simp only [oneThing_ref]
  refine wpAny_holding (wpAny_bind (wpAny_cRoomFor hu ?_))
  refine wpAny_bind (I.type.here (wpAny_bind (hb.here ?_)))
  split
  · rename_i q
    have e : PySem.W.subIn K tb (.ref C) = some false := by
      rcases Bool.or_eq_true_iff.mp hn with e | e
      · rw [beq_iff_eq.mp e] at q; simp at q
      · exact beq_iff_eq.mp e
    refine wpAny_bind ((PySem.W.looks_subIn X e).here ?_)
    simp only [Bool.false_eq_true, if_false]
    refine wpAny_bind (wpAny_mono one (fun r s' z => ?_) fun _ _ e => e)
    obtain ⟨v, rfl, hq⟩ := z
    exact wpAny_pure hq
  · refine wpAny_bind (wpAny_pure ?_)
    simp only [Bool.false_eq_true, if_false]
    refine wpAny_bind (wpAny_mono one (fun r s' z => ?_) fun _ _ e => e)
    obtain ⟨v, rfl, hq⟩ := z
    exact wpAny_pure hq
end
end OwnC
namespace L2
open PySem PySem.Spec PyProof.Rows
/-- what the written part says of a class with an own __eq__ -/
structure OEq (K : PySem.W.Frag) (C f : Addr) : Prop where
  cl : Cls K C
  eq : PySem.W.findIn K (.ref C) "__eq__" = some (some (.ref f))
  fn : PySem.W.isFn K (.ref f) = true
  ne : PySem.W.findIn K (.ref C) "__ne__" = some (some (.builtin "object.__ne__"))
  mo : PySem.W.mroIn K C (.type "object") = some true
  ha : PySem.W.findIn K (.ref C) "__class__" = some (some (.builtin "object.__class__"))
  hn : PySem.W.specialIn K (.builtin "object.__class__") "__get__" = some (some (.builtin "getset_descriptor.__get__"))
  htk : PySem.W.takesIn K (.builtin "object.__class__") = some true
theorem OEq.ty {K : PySem.W.Frag} {C f : Addr} (T : OEq K C f) {H : Hp} {a dx : Addr} {fs : List (Str × V)} (e : H a = some (.ins C dx fs)) : TyX K H (.ref a) (.ref C) := .base (.ins e T.cl T.ha T.hn T.htk T.mo)
theorem OEq.first {K : PySem.W.Frag} {C f : Addr} (T : OEq K C f) : PySem.W.notFirst K C (.ref C) = true := by
  unfold PySem.W.notFirst
  rw [show (Value.ref C == Value.ref C) = true from by simp]
  rfl
section
variable {X : Cx} {pins : List (Addr × Obj)} {σ : St} {H : Hp} {s : Shared}
theorem looks_ref {M : Model} {h : Heap} {a : Addr} {o : Obj} (e : h.get? a = some o) : PySem.W.Looks M h (typeOf (.ref a)) o.cls := (PySem.W.Looks.ld e).andThen .now
theorem tyX_looks {x : V} {u t : Value} (I : Inv X pins σ H s) (rx : RelV x u) (ty : TyX X.K H x t) : PySem.W.Looks (model X.prog X.w) s.heap (typeOf u) t := by
  cases ty with
  | base b =>
    cases b with
    | non => cases (show u = Value.none from rx); exact PySem.W.Looks.of_pure rfl
    | bl y => cases (show u = Value.bool y from rx); exact PySem.W.Looks.of_pure rfl
    | int i => obtain ⟨t, q⟩ := (show ∃ t, u = Value.int i t from rx); cases q; exact PySem.W.Looks.of_pure rfl
    | str y => obtain ⟨t, q⟩ := (show ∃ t, u = Value.str y t from rx); cases q; exact PySem.W.Looks.of_pure rfl
    | flt y => obtain ⟨t, q⟩ := (show ∃ t, u = Value.float y t from rx); cases q; exact PySem.W.Looks.of_pure rfl
    | @lst a xs ea =>
      cases (show u = Value.ref a from rx)
      obtain ⟨_, _, n, _, h1⟩ := (show ObjOk X.prog X.w H s.heap a (.lst xs) from I.hok a _ ea)
      exact looks_ref h1
    | @frz a ob xs ea =>
      cases (show u = Value.ref a from rx)
      obtain ⟨_, _, _, n, _, h1⟩ := (show ObjOk X.prog X.w H s.heap a (.frz ob (.lst xs)) from I.hok a _ ea)
      exact looks_ref h1
    | @tup a xs ea =>
      cases (show u = Value.ref a from rx)
      obtain ⟨_, _, _, o, h1, h2, _⟩ := (show ObjOk X.prog X.w H s.heap a (.tup xs) from I.hok a _ ea)
      exact h2 ▸ looks_ref h1
    | @dK a kvs ea =>
      cases (show u = Value.ref a from rx)
      obtain ⟨_, _, vs, _, o, es, ep, h1, h2, _⟩ := (show ObjOk X.prog X.w H s.heap a (.dK kvs) from I.hok a _ ea)
      exact h2.1 ▸ looks_ref h1
    | @dT a kvs ea =>
      cases (show u = Value.ref a from rx)
      obtain ⟨_, _, xs, _, o, es, ep, h1, h2, _⟩ := (show ObjOk X.prog X.w H s.heap a (.dT kvs) from I.hok a _ ea)
      exact h2.1 ▸ looks_ref h1
    | @ins a C dx fs ea cl ha hn htk hm =>
      cases (show u = Value.ref a from rx)
      obtain ⟨mA, O, _⟩ := ins_get I.hok ea
      obtain ⟨od, J, _⟩ := O.look
      exact J.type
  | byt y => obtain ⟨t, q⟩ := (show ∃ t, u = Value.bytes y t from rx); cases q; exact PySem.W.Looks.of_pure rfl
  | @set a S n ea =>
    cases (show u = Value.ref a from rx)
    obtain ⟨o, _, _, _, e, ex, _⟩ := I.hok a _ ea
    exact ex.1 ▸ looks_ref e
  | @kList a o e c =>
    cases (show u = Value.ref a from rx)
    exact c ▸ looks_ref (I.kIn a o e)
  | @kTuple a o e c =>
    cases (show u = Value.ref a from rx)
    exact c ▸ looks_ref (I.kIn a o e)
  | @kDict a o e c =>
    cases (show u = Value.ref a from rx)
    exact c ▸ looks_ref (I.kIn a o e)
  | @fTuple a ob xs ea =>
    cases (show u = Value.ref a from rx)
    obtain ⟨_, _, _, _, o, h1, h2, _⟩ := (show ObjOk X.prog X.w H s.heap a (.frz ob (.tup xs)) from I.hok a _ ea)
    exact h2 ▸ looks_ref h1
  | @fDict a ob kvs ea =>
    cases (show u = Value.ref a from rx)
    obtain ⟨_, _, _, vs, _, o, es, ep, h1, h2, _⟩ := (show ObjOk X.prog X.w H s.heap a (.frz ob (.dK kvs)) from I.hok a _ ea)
    exact h2.1 ▸ looks_ref h1
/-- x == y, x an instance of the class at C with its own __eq__ (its promise sp) -/
def rEqO (K : PySem.W.Frag) (C : Addr) (sp : Sp) : R2 := fun x y H Q => (∃ a dx fs, x = .ref a ∧ H a = some (.ins C dx fs)) ∧ (∃ t, TyX K H y t ∧ PySem.W.notFirst K C t = true) ∧ sp [x, y] H (fun v H' => ∃ b, v = .bl b ∧ Q (.bl b) H') (fun _ _ _ => False)
def rNeO (K : PySem.W.Frag) (C : Addr) (sp : Sp) : R2 := fun x y H Q => (∃ a dx fs, x = .ref a ∧ H a = some (.ins C dx fs)) ∧ (∃ t, TyX K H y t ∧ PySem.W.notFirst K C t = true) ∧ sp [x, y] H (fun v H' => ∃ b, v = .bl b ∧ Q (.bl (!b)) H') (fun _ _ _ => False)
theorem run_own {CX : CXT} {n : Nat} {f : Addr} {fd : FuncData} {sp : Sp} {A : Around} {x y : V} {u v : Value} {Q : VK} (F : FnOk X.prog X.w X.K X.mg X.base CX n f fd ["self", "other"] sp) (hb : Binds X.K fd ["self", "other"] []) (hx : Passes CX X (fun _ _ _ => False))
    (hr : Room n A) (hfr : A.frames = X.A.frames) (I : Inv X pins σ H s) (rx : RelV x u) (ry : RelV y v) (h : sp [x, y] H Q (fun _ _ _ => False)) :
    wpAny (model X.prog X.w) A (call (.ref f) [u, v]) (EP X pins σ Q) X.xe s := by
  have e0 : Env0 X.prog X.w X.K X.mg X.base A X.stack s H := by
    have e := I.env0
    exact ⟨by rw [hfr]; exact e.frames, e.mod, e.bs, e.bsz, e.funs, e.frf, e.hok, e.bare⟩
  have r2 : Vals [x, y] [u, v] := .cons rx (.cons ry .nil)
  refine wpAny_call (codeAny_mono (F.run A X.stack s H ⟨[u, v], []⟩ [u, v] [x, y] Q _ hr e0 (by
    have := hb s [u, v] I.kIn rfl
    simpa using this) r2 h) fun r s' hq => ?_)
  cases r with
  | error e => exact hx pins σ H s e s' I hq
  | ok fl =>
    cases fl with
    | ret w => exact I.after hq
    | next => exact False.elim hq
    | brk => exact False.elim hq
    | cont => exact False.elim hq
theorem op_eqO {CX : CXT} {n : Nat} {C f : Addr} {fd : FuncData} {sp : Sp} (T : OEq X.K C f) (F : FnOk X.prog X.w X.K X.mg X.base CX n f fd ["self", "other"] sp) (hb : Binds X.K fd ["self", "other"] []) (hx : Passes CX X (fun _ _ _ => False)) (hr : Room n X.A) (hu : X.A.units + 64 < cLine) :
    OpR X (compareOp .Eq) (rEqO X.K C sp) := by
  intro pins s σ H x y v u Q I rx ry hq
  obtain ⟨⟨a, dx, fs, rfl, ha⟩, ⟨t, ty, hn⟩, q⟩ := hq
  obtain rfl : v = Value.ref a := rx
  obtain ⟨mA, J, _⟩ := ins_get I.hok ha
  obtain ⟨od, J, _⟩ := J.look
  show wpAny (model X.prog X.w) X.A (richCompare .Eq (.ref a) u) (EP X pins σ Q) X.xe s
  refine OwnC.cmp_eq (by omega) I.kIn J (tyX_looks I ry ty) hn T.eq T.fn (wpAny_mono (run_own F hb hx hr rfl I (x := .ref a) rfl ry q) (fun r s' z => ?_) fun _ _ e => e)
  obtain ⟨z, H', I', rz, b, rfl, q'⟩ := z
  cases rz
  exact ⟨b, rfl, .bl b, H', I', rfl, q'⟩
theorem op_neO {CX : CXT} {n : Nat} {C f : Addr} {fd : FuncData} {sp : Sp} (T : OEq X.K C f) (F : FnOk X.prog X.w X.K X.mg X.base CX n f fd ["self", "other"] sp) (hb : Binds X.K fd ["self", "other"] []) (hx : Passes CX X (fun _ _ _ => False)) (hr : Room n X.A.in1) (hu : X.A.units + 64 < cLine) :
    OpR X (compareOp .NotEq) (rNeO X.K C sp) := by
  intro pins s σ H x y v u Q I rx ry hq
  obtain ⟨⟨a, dx, fs, rfl, ha⟩, ⟨t, ty, hn⟩, q⟩ := hq
  obtain rfl : v = Value.ref a := rx
  obtain ⟨mA, J, _⟩ := ins_get I.hok ha
  obtain ⟨od, J, _⟩ := J.look
  show wpAny (model X.prog X.w) X.A (richCompare .NotEq (.ref a) u) (EP X pins σ Q) X.xe s
  refine OwnC.cmp_ne (by omega) I.kIn J (tyX_looks I ry ty) hn T.mo T.ne T.eq T.fn (wpAny_mono (run_own F hb hx hr rfl I (x := .ref a) rfl ry q) (fun r s' z => ?_) fun _ _ e => e)
  obtain ⟨z, H', I', rz, b, rfl, q'⟩ := z
  cases rz
  exact ⟨b, rfl, .bl (!b), H', I', rfl, q'⟩
end
section
variable {X : Cx} {K : PySem.W.Frag}
theorem call_len_seqK (e : X.K = K) : CallR X (.builtin "len") (fun xs H Q => ∃ p ys, xs = [.ref p] ∧ (SqL K H p ys ∨ SqT K H p ys) ∧ Q (.int ys.length) H) := by subst e; exact call_len_seq
theorem call_tuple_ofK (e : X.K = K) : CallR X (.type "tuple") (fun xs H Q => ∃ p ys, xs = [.ref p] ∧ (SqL K H p ys ∧ (∀ q, H q = none → Q (.ref q) (upd H q (.tup ys))) ∨ SqT K H p ys ∧ Q (.ref p) H)) := by subst e; exact call_tuple_of
end
end L2

set_option Elab.async false
set_option linter.all false
set_option maxRecDepth 100000
set_option maxHeartbeats 4000000
/-! Decoders as data: what the program asks of their parts; what they write. -/
namespace My
open PySem PySem.Spec PyProof.Rows L2
/-! ### what the program asks of data -/
def isI : PyData → Bool | .int _ => true | _ => false
def isCn : PyData → Bool | .int i => decide (0 ≤ i) | _ => false
def isSg : PyData → Bool | .int i => decide (1 ≤ i) && decide (i ≤ 5) | _ => false
def isBe (n : Int) : PyData → Bool | .int i => decide (0 ≤ i) && decide (i < n) | _ => false
def numD : PyData → Int | .int i => i | _ => 0
def isSqD : PyData → Bool | .list _ => true | .tuple _ => true | _ => false
def isNn : PyData → Bool | .none => true | _ => false
def isTx : PyData → Bool | .str z => isT z | _ => false
def isWd : PyData → Bool | .str z => isT z && decide ((z.length : Int) ≤ 3) | _ => false
def isStp (n : Int) : PyData → Bool | .tuple [a, b] => isBe n a && isWd b | _ => false
def isEn (n : Int) (d : PyData) : Bool := isNn d || isStp n d
def itsD : PyData → List PyData | .list es => es | .tuple es => es | _ => []
def entB (m n : Int) (d : PyData) : Bool := isSqD d && (decide (((itsD d).length : Int) = m) && (itsD d).all (isEn n))
def stepsB (m : Int) (d : PyData) : Bool := isSqD d && ((decide (1 ≤ ((itsD d).length : Int)) && decide (((itsD d).length : Int) ≤ 40)) && (itsD d).all (entB m ((itsD d).length : Int)))
def endB (d : PyData) : Bool := isNn d || isWd d
def endsB (n : Int) (d : PyData) : Bool := isSqD d && (decide (((itsD d).length : Int) = n) && (itsD d).all endB)
def isLn (n : Int) : PyData → Bool | .tuple ds => ds.all (isBe n) | _ => false
theorem kit_sqD {K : PySem.W.Frag} (d : PyData) : PySem.W.kitAny K (.type (tyD d)) [.type "list", .type "tuple"] = some (isSqD d) := by
  have h1 := kit_lstD (K := K) d
  have h2 := kit_tupD (K := K) d
  unfold PySem.W.kitAny
  rw [h1]
  cases d <;> simp [isLstD, isSqD, isTupD, PySem.W.kitAny, h2] <;> rfl
/-- an own class is none of data's -/
theorem kit_ownD {K : PySem.W.Frag} {C : Addr} (h2 : PySem.W.isClsIn K C = true) (h3 : PySem.W.typeIn K (.ref C) = some (.type "type")) (d : PyData) : PySem.W.kitOne K (.type (tyD d)) (.ref C) = some false := by
  have hs : ∀ T : String, (∃ l : List Value, fastBuiltinMro T = some l ∧ l.contains (.ref C) = false) → PySem.W.kitOne K (.type T) (.ref C) = some false := fun T ⟨l, e, hl⟩ => by
    unfold PySem.W.kitOne
    rw [if_neg (by simp)]
    have h2' : (PySem.W.clsIn K C).isSome = true := h2
    show (if ((PySem.W.clsIn K C).isSome && PySem.W.typeIn K (.ref C) == some (.type "type")) = true then PySem.W.subIn K (.type T) (.ref C) else none) = some false
    rw [if_pos (by rw [h2', h3] <;> rfl)]
    show (fastBuiltinMro T).map (·.contains (.ref C)) = some false
    rw [e]
    show some (l.contains (.ref C)) = some false
    rw [hl]
  cases d with
  | none => exact hs "NoneType" ⟨[.type "NoneType", .type "object"], by decide +kernel, by simp⟩
  | bool _ => exact hs "bool" ⟨[.type "bool", .type "int", .type "object"], by decide +kernel, by simp⟩
  | int _ => exact hs "int" ⟨[.type "int", .type "object"], by decide +kernel, by simp⟩
  | str _ => exact hs "str" ⟨[.type "str", .type "object"], by decide +kernel, by simp⟩
  | list _ => exact hs "list" ⟨[.type "list", .type "object"], by decide +kernel, by simp⟩
  | tuple _ => exact hs "tuple" ⟨[.type "tuple", .type "object"], by decide +kernel, by simp⟩
  | dict _ => exact hs "dict" ⟨[.type "dict", .type "object"], by decide +kernel, by simp⟩
theorem kit_same {K : PySem.W.Frag} {C : Addr} : PySem.W.kitOne K (.ref C) (.ref C) = some true := by
  unfold PySem.W.kitOne
  rw [if_pos (by simp)]
theorem notFirst_data {K : PySem.W.Frag} {C : Addr} (d : PyData) : PySem.W.notFirst K C (.type (tyD d)) = true := by
  have hs : ∀ T : String, (∃ l : List Value, fastBuiltinMro T = some l ∧ l.contains (.ref C) = false) → PySem.W.notFirst K C (.type T) = true := fun T ⟨l, e, hl⟩ => by
    unfold PySem.W.notFirst
    have : PySem.W.subIn K (.type T) (.ref C) = some false := by
      show (fastBuiltinMro T).map (·.contains (.ref C)) = some false
      rw [e]
      show some (l.contains (.ref C)) = some false
      rw [hl]
    rw [this]
    simp
  cases d with
  | none => exact hs "NoneType" ⟨[.type "NoneType", .type "object"], by decide +kernel, by simp⟩
  | bool _ => exact hs "bool" ⟨[.type "bool", .type "int", .type "object"], by decide +kernel, by simp⟩
  | int _ => exact hs "int" ⟨[.type "int", .type "object"], by decide +kernel, by simp⟩
  | str _ => exact hs "str" ⟨[.type "str", .type "object"], by decide +kernel, by simp⟩
  | list _ => exact hs "list" ⟨[.type "list", .type "object"], by decide +kernel, by simp⟩
  | tuple _ => exact hs "tuple" ⟨[.type "tuple", .type "object"], by decide +kernel, by simp⟩
  | dict _ => exact hs "dict" ⟨[.type "dict", .type "object"], by decide +kernel, by simp⟩
/-! ### the weight of data -/
theorem weight_len : ∀ ds : List PyData, ds.length ≤ PyData.weightAll ds
  | [] => Nat.zero_le _
  | d :: ds => by unfold PyData.weightAll; have := weight_len ds; rw [List.length_cons]; omega
theorem weight_mem : ∀ {ds : List PyData} {d : PyData}, d ∈ ds → d.weight ≤ PyData.weightAll ds
  | e :: ds, d, h => by
    unfold PyData.weightAll
    rcases List.mem_cons.mp h with z | z
    · rw [z]; omega
    · have := weight_mem z; omega
theorem weight_its {d : PyData} : (itsD d).length ≤ d.weight ∧ ∀ e ∈ itsD d, e.weight ≤ d.weight := by
  cases d with
  | list ds =>
    have e0 : (PyData.list ds).weight = PyData.weightAll ds := by rw [PyData.weight]
    rw [e0]
    exact ⟨weight_len ds, fun e he => weight_mem he⟩
  | tuple ds =>
    have e0 : (PyData.tuple ds).weight = PyData.weightAll ds := by rw [PyData.weight]
    rw [e0]
    exact ⟨weight_len ds, fun e he => weight_mem he⟩
  | _ => exact ⟨Nat.zero_le _, fun e he => by cases he⟩
theorem sq_its {d : PyData} (h : isSqD d = true) : d = .list (itsD d) ∨ d = .tuple (itsD d) := by
  cases d with
  | list ds => exact .inl rfl
  | tuple ds => exact .inr rfl
  | _ => cases h
theorem all_map {α : Type} {f : α → PyData} {p : PyData → Bool} {G : α → Prop} (h : ∀ d, p d = true → ∃ e, d = f e ∧ G e) : ∀ ds : List PyData, ds.all p = true → ∃ es : List α, ds = es.map f ∧ ∀ e ∈ es, G e
  | [], _ => ⟨[], rfl, fun e he => by cases he⟩
  | d :: ds, ha => by
    rw [List.all_cons, Bool.and_eq_true] at ha
    obtain ⟨e, rfl, g⟩ := h d ha.1
    obtain ⟨es, rfl, gs⟩ := all_map h ds ha.2
    exact ⟨e :: es, rfl, fun e' he => by
      rcases List.mem_cons.mp he with z | z
      · rw [z]; exact g
      · exact gs e' z⟩
/-! ### plain data: == is being the same -/
mutual
def plD : PyData → Bool
  | .none => true
  | .int _ => true
  | .str _ => true
  | .list ds => plAll ds
  | .tuple ds => plAll ds
  | .bool _ => false
  | .dict _ => false
def plAll : List PyData → Bool
  | [] => true
  | d :: ds => plD d && plAll ds
end
mutual
theorem eqv_pl : ∀ (x y : PyData), plD x = true → plD y = true → (PyData.eqv x y = true ↔ x = y)
  | .none, y, _, hy => by cases y <;> simp [PyData.eqv]
  | .int i, y, _, hy => by
    cases y with
    | bool b => simp [plD] at hy
    | _ => simp [PyData.eqv]
  | .str i, y, _, hy => by cases y <;> simp [PyData.eqv]
  | .list ds, y, hx, hy => by
    cases y with
    | list es =>
      have h1 : plAll ds = true := by simpa [plD] using hx
      have h2 : plAll es = true := by simpa [plD] using hy
      have := eqv_plAll ds es h1 h2
      unfold PyData.eqv
      rw [this]
      exact ⟨fun e => by rw [e], fun e => by injection e⟩
    | _ => simp [PyData.eqv]
  | .tuple ds, y, hx, hy => by
    cases y with
    | tuple es =>
      have h1 : plAll ds = true := by simpa [plD] using hx
      have h2 : plAll es = true := by simpa [plD] using hy
      have := eqv_plAll ds es h1 h2
      unfold PyData.eqv
      rw [this]
      exact ⟨fun e => by rw [e], fun e => by injection e⟩
    | _ => simp [PyData.eqv]
  | .bool _, _, hx, _ => by simp [plD] at hx
  | .dict _, _, hx, _ => by simp [plD] at hx
theorem eqv_plAll : ∀ (xs ys : List PyData), plAll xs = true → plAll ys = true → (PyData.eqvAll xs ys = true ↔ xs = ys)
  | [], [], _, _ => by simp [PyData.eqvAll]
  | [], y :: ys, _, _ => by simp [PyData.eqvAll]
  | x :: xs, [], _, _ => by simp [PyData.eqvAll]
  | x :: xs, y :: ys, hx, hy => by
    have h1 : plD x = true ∧ plAll xs = true := by simpa [plAll] using hx
    have h2 : plD y = true ∧ plAll ys = true := by simpa [plAll] using hy
    have i1 := eqv_pl x y h1.1 h2.1
    have i2 := eqv_plAll xs ys h1.2 h2.2
    unfold PyData.eqvAll
    rw [Bool.and_eq_true, i1, i2]
    exact ⟨fun ⟨a, b⟩ => by rw [a, b], fun e => by injection e with a b; exact ⟨a, b⟩⟩
end
theorem plAll_map {α : Type} {f : α → PyData} (h : ∀ a, plD (f a) = true) : ∀ l : List α, plAll (l.map f) = true
  | [] => by simp [plAll]
  | a :: l => by rw [List.map_cons]; unfold plAll; rw [h a, plAll_map h l]; rfl
theorem map_inj {α β : Type} {f : α → β} (h : ∀ a b, f a = f b → a = b) : ∀ {l l' : List α}, l.map f = l'.map f → l = l'
  | [], [], _ => rfl
  | [], _ :: _, e => by cases e
  | _ :: _, [], e => by cases e
  | a :: l, b :: l', e => by
    rw [List.map_cons, List.map_cons] at e
    injection e with e1 e2
    rw [h a b e1, map_inj h e2]
/-! ### decoders -/
abbrev Ent := Option (Nat × List Nat)
structure Dcd where
  sg : Nat
  st : List (List Ent)
  en : List (Option (List Nat))
deriving DecidableEq
def enD : Ent → PyData | none => .none | some (g, w) => .tuple [.int (g : Nat), .str (S w)]
def wdD : Option (List Nat) → PyData | none => .none | some w => .str (S w)
def okW (w : List Nat) : Prop := Low w ∧ w.length ≤ 3
def okE (n : Nat) (e : Ent) : Prop := ∀ g w, e = some (g, w) → g < n ∧ okW w
structure Dcd.ok (D : Dcd) : Prop where
  s1 : 1 ≤ D.sg
  s5 : D.sg ≤ 5
  n1 : 1 ≤ D.st.length
  n40 : D.st.length ≤ 40
  rows : ∀ r ∈ D.st, r.length = D.sg ∧ ∀ e ∈ r, okE D.st.length e
  ends : D.en.length = D.st.length
  words : ∀ e ∈ D.en, ∀ w, e = some w → okW w
def Dcd.stD (D : Dcd) : PyData := .tuple (D.st.map fun r => .tuple (r.map enD))
def Dcd.enD (D : Dcd) : PyData := .tuple (D.en.map wdD)
theorem enD_inj : ∀ a b : Ent, enD a = enD b → a = b
  | none, none, _ => rfl
  | none, some (g, w), e => by cases e
  | some (g, w), none, e => by cases e
  | some (g, w), some (g', w'), e => by
    unfold My.enD at e
    injection e with e
    injection e with e1 e2
    injection e1 with e1
    injection e2 with e2 _
    injection e2 with e2
    have : g = g' := by omega
    rw [this, S_inj e2]
theorem wdD_inj : ∀ a b : Option (List Nat), wdD a = wdD b → a = b
  | none, none, _ => rfl
  | none, some w, e => by cases e
  | some w, none, e => by cases e
  | some w, some w', e => by
    unfold wdD at e
    injection e with e
    rw [S_inj e]
theorem stD_inj {D D' : Dcd} (h : D.stD = D'.stD) : D.st = D'.st := by
  unfold Dcd.stD at h
  injection h with h
  exact map_inj (fun a b e => map_inj enD_inj (by injection e)) h
theorem dEn_inj {D D' : Dcd} (h : D.enD = D'.enD) : D.en = D'.en := by
  unfold Dcd.enD at h
  injection h with h
  exact map_inj wdD_inj h
theorem plD_enD (e : Ent) : plD (enD e) = true := by
  cases e with
  | none => rfl
  | some p => obtain ⟨g, w⟩ := p; rfl
theorem plD_wdD (e : Option (List Nat)) : plD (wdD e) = true := by cases e <;> rfl
theorem plD_stD (D : Dcd) : plD D.stD = true := by
  unfold Dcd.stD plD
  exact plAll_map (fun r => by unfold plD; exact plAll_map plD_enD r) _
theorem plD_dEn (D : Dcd) : plD D.enD = true := by
  unfold Dcd.enD plD
  exact plAll_map plD_wdD _
theorem isBe_int {n : Int} {d : PyData} (h : isBe n d = true) : ∃ i : Int, d = .int i ∧ 0 ≤ i ∧ i < n := by
  cases d with
  | int i =>
    have h' : (decide (0 ≤ i) && decide (i < n)) = true := h
    simp only [Bool.and_eq_true, decide_eq_true_eq] at h'
    exact ⟨i, rfl, h'.1, h'.2⟩
  | _ => cases h
theorem isWd_str {d : PyData} (h : isWd d = true) : ∃ w, d = .str (S w) ∧ okW w := by
  cases d with
  | str z =>
    have h' : (isT z && decide ((z.length : Int) ≤ 3)) = true := h
    simp only [Bool.and_eq_true, decide_eq_true_eq] at h'
    refine ⟨cs z, by rw [S_of], ?_, ?_⟩
    · intro c hc
      have := h'.1
      unfold isT at this
      exact List.all_eq_true.mp this c hc
    · have : z.length = (cs z).length := by rw [← S_len, S_of]
      omega
  | _ => cases h
theorem isWd_of {w : List Nat} (h : okW w) : isWd (.str (S w)) = true := by
  show (isT (S w) && decide (((S w).length : Int) ≤ 3)) = true
  rw [h.1.isT, S_len, decide_eq_true (by have := h.2; omega)]; rfl
theorem isEn_ent {n : Nat} {d : PyData} (h : isEn n d = true) : ∃ e : Ent, d = enD e ∧ okE n e := by
  unfold isEn at h
  rw [Bool.or_eq_true] at h
  rcases h with h | h
  · cases d with
    | none => exact ⟨none, rfl, fun g w e => by cases e⟩
    | _ => cases h
  · cases d with
    | tuple ds =>
      match ds, h with
      | [], h => cases h
      | [a], h => cases h
      | [a, b], h =>
        have h' : (isBe n a && isWd b) = true := h
        rw [Bool.and_eq_true] at h'
        obtain ⟨i, rfl, i0, i1⟩ := isBe_int h'.1
        obtain ⟨w, rfl, ow⟩ := isWd_str h'.2
        obtain ⟨k, rfl⟩ : ∃ k : Nat, i = k := ⟨i.toNat, by omega⟩
        exact ⟨some (k, w), rfl, fun g w' e => by injection e with e; injection e with e1 e2; subst e1 e2; exact ⟨by omega, ow⟩⟩
      | a :: b :: c :: r, h => cases h
    | _ => cases h
theorem isEn_of {n : Nat} {e : Ent} (h : okE n e) : isEn n (enD e) = true := by
  cases e with
  | none => rfl
  | some p =>
    obtain ⟨g, w⟩ := p
    obtain ⟨h1, h2⟩ := h g w rfl
    show (isNn _ || (isBe n (.int (g : Nat)) && isWd (.str (S w)))) = true
    rw [isWd_of h2]
    show (false || ((decide ((0 : Int) ≤ (g : Nat)) && decide (((g : Nat) : Int) < n)) && true)) = true
    rw [decide_eq_true (by omega), decide_eq_true (by omega)]; rfl
theorem endB_wd {d : PyData} (h : endB d = true) : ∃ e : Option (List Nat), d = wdD e ∧ ∀ w, e = some w → okW w := by
  unfold endB at h
  rw [Bool.or_eq_true] at h
  rcases h with h | h
  · cases d with
    | none => exact ⟨none, rfl, fun w e => by cases e⟩
    | _ => cases h
  · obtain ⟨w, rfl, o⟩ := isWd_str h
    exact ⟨some w, rfl, fun w' e => by injection e with e; rw [← e]; exact o⟩
theorem endB_of {e : Option (List Nat)} (h : ∀ w, e = some w → okW w) : endB (wdD e) = true := by
  cases e with
  | none => rfl
  | some w =>
    show (isNn _ || isWd (.str (S w))) = true
    rw [isWd_of (h w rfl)]; rfl
/-- data that are a decoder's parts -/
structure GoodD (D : Dcd) (d1 d2 d3 : PyData) : Prop where
  ok : D.ok
  e1 : d1 = .int (D.sg : Nat)
  s2 : isSqD d2 = true
  r2 : ∀ r ∈ itsD d2, isSqD r = true
  e2 : (itsD d2).map itsD = D.st.map (fun r => r.map enD)
  s3 : isSqD d3 = true
  e3 : itsD d3 = D.en.map wdD
theorem rows_of {m n : Nat} : ∀ rows : List PyData, rows.all (entB m n) = true → ∃ st : List (List Ent), rows.map itsD = st.map (fun r => r.map enD) ∧ (∀ r ∈ rows, isSqD r = true) ∧ ∀ r ∈ st, r.length = m ∧ ∀ e ∈ r, okE n e
  | [], _ => ⟨[], rfl, (fun r h => by cases h), (fun r h => by cases h)⟩
  | d :: rows, h => by
    rw [List.all_cons, Bool.and_eq_true] at h
    obtain ⟨st, e, h1, h2⟩ := rows_of rows h.2
    have hd := h.1
    unfold entB at hd
    rw [Bool.and_eq_true, Bool.and_eq_true, decide_eq_true_eq] at hd
    obtain ⟨es, ee, ge⟩ := all_map (f := enD) (G := okE n) (fun d h => isEn_ent h) _ hd.2.2
    refine ⟨es :: st, by rw [List.map_cons, List.map_cons, e, ee], fun r hr => ?_, fun r hr => ?_⟩
    · rcases List.mem_cons.mp hr with z | z
      · rw [z]; exact hd.1
      · exact h1 r z
    · rcases List.mem_cons.mp hr with z | z
      · rw [z]
        refine ⟨?_, ge⟩
        have := hd.2.1
        rw [ee, List.length_map] at this
        omega
      · exact h2 r z
theorem good_of {d1 d2 d3 : PyData} (h1 : isSg d1 = true) (h2 : stepsB (numD d1) d2 = true) (h3 : endsB ((itsD d2).length : Int) d3 = true) : ∃ D, GoodD D d1 d2 d3 := by
  cases d1 with
  | int i =>
    have h1' : (decide (1 ≤ i) && decide (i ≤ 5)) = true := h1
    simp only [Bool.and_eq_true, decide_eq_true_eq] at h1'
    obtain ⟨k, rfl⟩ : ∃ k : Nat, i = k := ⟨i.toNat, by omega⟩
    unfold stepsB at h2
    rw [Bool.and_eq_true, Bool.and_eq_true, Bool.and_eq_true, decide_eq_true_eq, decide_eq_true_eq] at h2
    obtain ⟨st, es, hq, hr⟩ := rows_of (m := k) (n := (itsD d2).length) (itsD d2) h2.2.2
    unfold endsB at h3
    rw [Bool.and_eq_true, Bool.and_eq_true, decide_eq_true_eq] at h3
    obtain ⟨en, ee, ge⟩ := all_map (f := wdD) (G := fun e => ∀ w, e = some w → okW w) (fun d h => endB_wd h) _ h3.2.2
    have ls : st.length = (itsD d2).length := by have := congrArg List.length es; rw [List.length_map, List.length_map] at this; exact this.symm
    have le : en.length = (itsD d3).length := by rw [ee, List.length_map]
    refine ⟨⟨k, st, en⟩, ⟨by show 1 ≤ k; omega, by show k ≤ 5; omega, by show 1 ≤ st.length; omega, by show st.length ≤ 40; omega, fun r hr' => ?_, by show en.length = st.length; omega, ge⟩, rfl, h2.1, hq, es, h3.1, ee⟩
    show r.length = k ∧ ∀ e ∈ r, okE st.length e
    rw [ls]; exact hr r hr'
  | _ => cases h1
theorem GoodD.sg {D : Dcd} {d1 d2 d3 : PyData} (g : GoodD D d1 d2 d3) : isSg d1 = true := by
  rw [g.e1]
  show (decide (1 ≤ ((D.sg : Nat) : Int)) && decide (((D.sg : Nat) : Int) ≤ 5)) = true
  have h1 := g.ok.s1
  have h5 := g.ok.s5
  rw [decide_eq_true (by omega), decide_eq_true (by omega)]; rfl
theorem GoodD.len2 {D : Dcd} {d1 d2 d3 : PyData} (g : GoodD D d1 d2 d3) : (itsD d2).length = D.st.length := by
  have := congrArg List.length g.e2
  rwa [List.length_map, List.length_map] at this
theorem rows_all {m n : Nat} : ∀ (rows : List PyData) (st : List (List Ent)), rows.map itsD = st.map (fun r => r.map enD) → (∀ r ∈ rows, isSqD r = true) → (∀ r ∈ st, r.length = m ∧ ∀ e ∈ r, okE n e) → rows.all (entB m n) = true
  | [], _, _, _, _ => rfl
  | d :: rows, [], e, _, _ => by cases e
  | d :: rows, r :: st, e, hq, hr => by
    rw [List.map_cons, List.map_cons] at e
    injection e with e1 e2
    rw [List.all_cons, rows_all rows st e2 (fun r' h => hq r' (List.mem_cons_of_mem _ h)) (fun r' h => hr r' (List.mem_cons_of_mem _ h)), Bool.and_true]
    obtain ⟨l, o⟩ := hr r List.mem_cons_self
    unfold entB
    rw [hq d List.mem_cons_self, e1, List.length_map, decide_eq_true (by omega), Bool.true_and, Bool.true_and, List.all_eq_true]
    intro x hx
    obtain ⟨en, hen, rfl⟩ := List.mem_map.mp hx
    exact isEn_of (o en hen)
theorem GoodD.steps {D : Dcd} {d1 d2 d3 : PyData} (g : GoodD D d1 d2 d3) : stepsB (D.sg : Nat) d2 = true := by
  unfold stepsB
  have n1 := g.ok.n1
  have n40 := g.ok.n40
  rw [g.s2, g.len2, rows_all _ _ g.e2 g.r2 g.ok.rows, decide_eq_true (by omega), decide_eq_true (by omega)]; rfl
theorem GoodD.ends {D : Dcd} {d1 d2 d3 : PyData} (g : GoodD D d1 d2 d3) : endsB ((itsD d2).length : Int) d3 = true := by
  unfold endsB
  rw [g.s3, g.e3, g.len2, List.length_map, g.ok.ends, decide_eq_true rfl, Bool.true_and, Bool.true_and, List.all_eq_true]
  intro x hx
  obtain ⟨en, hen, rfl⟩ := List.mem_map.mp hx
  exact endB_of fun w e => g.ok.words en hen w e
theorem GoodD.tup {D : Dcd} {d1 d2 d3 : PyData} (g : GoodD D d1 d2 d3) : PyData.tuple ((itsD d2).map fun r => .tuple (itsD r)) = D.stD := by
  unfold Dcd.stD
  have := congrArg (List.map PyData.tuple) g.e2
  rw [List.map_map, List.map_map] at this
  exact congrArg PyData.tuple this
theorem GoodD.tupE {D : Dcd} {d1 d2 d3 : PyData} (g : GoodD D d1 d2 d3) : PyData.tuple (itsD d3) = D.enD := by
  unfold Dcd.enD
  rw [g.e3]
/-- the parts of a decoder, as tuples -/
theorem Dcd.good {D : Dcd} (h : D.ok) : GoodD D (.int (D.sg : Nat)) D.stD D.enD :=
  ⟨h, rfl, rfl, fun r hr => by
    obtain ⟨x, _, rfl⟩ := List.mem_map.mp hr
    rfl, by show (D.st.map fun r => PyData.tuple (r.map My.enD)).map itsD = _; rw [List.map_map]; rfl, rfl, rfl⟩
/-! ### how large it is -/
theorem okW.fit {w : List Nat} (h : okW w) : Fit (.str (S w)) 1 4 := Fit.str (Nat.le_trans h.2 (by omega)) (fun c hc => h.1.lt c hc)
theorem fit_enD {n : Nat} {e : Ent} (h : okE n e) (hn : n ≤ 40) : Fit (enD e) 2 40 := by
  cases e with
  | none => exact Fit.none.mono (Nat.le_refl _) (Nat.zero_le _)
  | some p =>
    obtain ⟨g, w⟩ := p
    obtain ⟨h1, h2⟩ := h g w rfl
    exact (Fit.tuple (FitAll.cons (Fit.nat (by omega)) (FitAll.cons h2.fit FitAll.nil))).mono (Nat.le_refl _) (by omega)
theorem fit_stD {D : Dcd} (h : D.ok) : Fit D.stD 4 9000 := by
  have n40 := h.n40
  have s5 := h.s5
  refine (Fit.tuple (k := 3) (FitAll.all (w := 210) fun d hd => ?_)).mono (Nat.le_refl _) (by rw [List.length_map]; omega)
  obtain ⟨r, hr, rfl⟩ := List.mem_map.mp hd
  obtain ⟨l, o⟩ := h.rows r hr
  refine (Fit.tuple (k := 2) (FitAll.all (w := 40) fun x hx => ?_)).mono (Nat.le_refl _) (by rw [List.length_map]; omega)
  obtain ⟨e, he, rfl⟩ := List.mem_map.mp hx
  exact fit_enD (o e he) n40
theorem fit_wdD {e : Option (List Nat)} (h : ∀ w, e = some w → okW w) : Fit (wdD e) 1 4 := by
  cases e with
  | none => exact Fit.none.mono (Nat.le_refl _) (Nat.zero_le _)
  | some w => exact (h w rfl).fit
theorem fit_dEn {D : Dcd} (h : D.ok) : Fit D.enD 2 300 := by
  have n40 := h.n40
  have le := h.ends
  refine (Fit.tuple (k := 1) (FitAll.all (w := 4) fun d hd => ?_)).mono (Nat.le_refl _) (by rw [List.length_map]; omega)
  obtain ⟨e, he, rfl⟩ := List.mem_map.mp hd
  exact fit_wdD fun w q => h.words e he w q
/-! ### what it writes -/
def Dcd.at (D : Dcd) (s a : Nat) : Ent := ((D.st.getD s []).getD a none)
def Dcd.go (D : Dcd) : Nat → List Nat → Option (Nat × List Nat)
  | s, [] => some (s, [])
  | s, a :: l => match D.at s a with
    | none => none
    | some (g, w) => (D.go g l).map fun (p : Nat × List Nat) => (p.1, w ++ p.2)
def Dcd.wr (D : Dcd) (l : List Nat) : Option (List Nat) := match D.go 0 l with
  | none => none
  | some (s, u) => (D.en.getD s none).map fun w => u ++ w
theorem Dcd.go_snoc (D : Dcd) : ∀ (l : List Nat) (s a : Nat), D.go s (l ++ [a]) = match D.go s l with
    | none => none
    | some (t, u) => (D.at t a).map fun (p : Nat × List Nat) => (p.1, u ++ p.2)
  | [], s, a => by
    show (match D.at s a with | none => none | some (g, w) => (D.go g []).map fun (p : Nat × List Nat) => (p.1, w ++ p.2)) = _
    cases h : D.at s a with
    | none => show _ = (D.at s a).map _; rw [h]; rfl
    | some p =>
      obtain ⟨g, w⟩ := p
      show _ = (D.at s a).map _
      rw [h]
      show some (g, w ++ []) = some (g, [] ++ w)
      simp
  | b :: l, s, a => by
    show (match D.at s b with | none => none | some (g, w) => (D.go g (l ++ [a])).map fun (p : Nat × List Nat) => (p.1, w ++ p.2)) = match (match D.at s b with | none => none | some (g, w) => (D.go g l).map fun (p : Nat × List Nat) => (p.1, w ++ p.2)) with | none => none | some (t, u) => (D.at t a).map fun (p : Nat × List Nat) => (p.1, u ++ p.2)
    cases h : D.at s b with
    | none => rfl
    | some p =>
      obtain ⟨g, w⟩ := p
      show (D.go g (l ++ [a])).map _ = match (D.go g l).map (fun (p : Nat × List Nat) => (p.1, w ++ p.2)) with | none => none | some (t, u) => (D.at t a).map fun (p : Nat × List Nat) => (p.1, u ++ p.2)
      rw [D.go_snoc l g a]
      cases D.go g l with
      | none => rfl
      | some q =>
        obtain ⟨t, u⟩ := q
        show Option.map _ (Option.map _ (D.at t a)) = Option.map _ (D.at t a)
        rw [Option.map_map]
        cases D.at t a with
        | none => rfl
        | some r => obtain ⟨x, y⟩ := r; show some (x, w ++ (u ++ y)) = some (x, w ++ u ++ y); rw [List.append_assoc]
theorem Dcd.ok.at {D : Dcd} (h : D.ok) {s a : Nat} : okE D.st.length (D.at s a) := by
  intro g w e
  unfold Dcd.at at e
  by_cases hs : s < D.st.length
  · rw [List.getD_eq_getElem?_getD, List.getD_eq_getElem?_getD, List.getElem?_eq_getElem hs] at e
    show g < _ ∧ _
    have hr := h.rows D.st[s] (List.getElem_mem hs)
    by_cases ha : a < D.st[s].length
    · have e' : (D.st[s])[a]?.getD none = some (g, w) := e
      rw [List.getElem?_eq_getElem ha] at e'
      exact hr.2 _ (List.getElem_mem ha) g w e'
    · have e' : (D.st[s])[a]?.getD none = some (g, w) := e
      rw [List.getElem?_eq_none (Nat.le_of_not_lt ha)] at e'
      cases e'
  · have e0 : D.st.getD s [] = [] := by rw [List.getD_eq_getElem?_getD, List.getElem?_eq_none (by omega)]; rfl
    rw [e0] at e
    simp at e
theorem Dcd.ok.go {D : Dcd} (h : D.ok) : ∀ (l : List Nat) (s t : Nat) (u : List Nat), s < D.st.length → D.go s l = some (t, u) → t < D.st.length ∧ Low u ∧ u.length ≤ 3 * l.length
  | [], s, t, u, hs, e => by
    have e' : some (s, ([] : List Nat)) = some (t, u) := e
    injection e' with e'
    injection e' with e1 e2
    subst e1 e2
    exact ⟨hs, Low.nil, Nat.zero_le _⟩
  | a :: l, s, t, u, hs, e => by
    have e' : (match D.at s a with | none => none | some (g, w) => (D.go g l).map fun (p : Nat × List Nat) => (p.1, w ++ p.2)) = some (t, u) := e
    have oa : okE D.st.length (D.at s a) := h.at
    cases q : D.at s a with
    | none => rw [q] at e'; cases e'
    | some p =>
      obtain ⟨g, w⟩ := p
      rw [q] at e'
      obtain ⟨g1, g2⟩ := oa g w q
      have e2 : (D.go g l).map (fun (p : Nat × List Nat) => (p.1, w ++ p.2)) = some (t, u) := e'
      cases r : D.go g l with
      | none => rw [r] at e2; cases e2
      | some p =>
        obtain ⟨t', u'⟩ := p
        rw [r] at e2
        have e3 : some (t', w ++ u') = some (t, u) := e2
        injection e3 with e3
        injection e3 with a1 a2
        subst a1 a2
        obtain ⟨b1, b2, b3⟩ := h.go l g t' u' g1 r
        exact ⟨b1, g2.1.append b2, by rw [List.length_append, List.length_cons]; have := g2.2; omega⟩
theorem Dcd.ok.end_ {D : Dcd} (h : D.ok) {s : Nat} {w : List Nat} (e : D.en.getD s none = some w) : okW w := by
  by_cases hs : s < D.en.length
  · rw [List.getD_eq_getElem?_getD, List.getElem?_eq_getElem hs] at e
    exact h.words _ (List.getElem_mem hs) w e
  · rw [List.getD_eq_getElem?_getD, List.getElem?_eq_none (by omega)] at e
    cases e
theorem Dcd.ok.wr {D : Dcd} (h : D.ok) {l : List Nat} {u : List Nat} (e : D.wr l = some u) : Low u ∧ u.length ≤ 3 * l.length + 3 := by
  unfold Dcd.wr at e
  cases q : D.go 0 l with
  | none => rw [q] at e; cases e
  | some p =>
    obtain ⟨s, v⟩ := p
    rw [q] at e
    obtain ⟨_, lv, nv⟩ := h.go l 0 s v h.n1 q
    have e' : (D.en.getD s none).map (fun w => v ++ w) = some u := e
    cases r : D.en.getD s none with
    | none => rw [r] at e'; cases e'
    | some w =>
      rw [r] at e'
      have e2 : some (v ++ w) = some u := e'
      injection e2 with e2
      have ow := h.end_ r
      rw [← e2]
      exact ⟨lv.append ow.1, by rw [List.length_append]; have := ow.2; omega⟩
/-! ### a decoder in the heap -/
def dfs (m n : Int) (Sa Ea : Addr) : List (Str × V) := putF "ends" (.ref Ea) (putF "steps" (.ref Sa) (putF "states" (.int n) (putF "signs" (.int m) [])))
theorem dfs_signs {m n : Int} {Sa Ea : Addr} : (dfs m n Sa Ea).lookup ("signs" : Str) = some (V.int m) := by
  unfold dfs
  rw [lookup_putF, if_neg (by decide +kernel), lookup_putF, if_neg (by decide +kernel), lookup_putF, if_neg (by decide +kernel), lookup_putF, if_pos rfl]
theorem dfs_states {m n : Int} {Sa Ea : Addr} : (dfs m n Sa Ea).lookup ("states" : Str) = some (V.int n) := by
  unfold dfs
  rw [lookup_putF, if_neg (by decide +kernel), lookup_putF, if_neg (by decide +kernel), lookup_putF, if_pos rfl]
theorem dfs_steps {m n : Int} {Sa Ea : Addr} : (dfs m n Sa Ea).lookup ("steps" : Str) = some (V.ref Sa) := by
  unfold dfs
  rw [lookup_putF, if_neg (by decide +kernel), lookup_putF, if_pos rfl]
theorem dfs_ends {m n : Int} {Sa Ea : Addr} : (dfs m n Sa Ea).lookup ("ends" : Str) = some (V.ref Ea) := by
  unfold dfs
  rw [lookup_putF, if_pos rfl]
theorem dfs_no {m n : Int} {Sa Ea : Addr} {f : Str} (h1 : ¬ f = "ends") (h2 : ¬ f = "steps") (h3 : ¬ f = "states") (h4 : ¬ f = "signs") : (dfs m n Sa Ea).lookup f = none := by
  unfold dfs
  rw [lookup_putF, if_neg h1, lookup_putF, if_neg h2, lookup_putF, if_neg h3, lookup_putF, if_neg h4]
  all_goals rfl
structure DecAt (K : PySem.W.Frag) (C : Addr) (H : Hp) (p : Addr) (D : Dcd) : Prop where
  ob : ∃ dx Sa Ea, H p = some (.ins C dx (dfs (D.sg : Nat) (D.st.length : Nat) Sa Ea)) ∧ Dg K H false (.ref Sa) D.stD ∧ Dg K H false (.ref Ea) D.enD
  ok : D.ok
theorem DecAt.ext {K : PySem.W.Frag} {C : Addr} {H H' : Hp} {p : Addr} {D : Dcd} (h : DecAt K C H p D) (s : Same H H') : DecAt K C H' p D := by
  obtain ⟨⟨dx, Sa, Ea, e, h1, h2⟩, ok⟩ := h
  exact ⟨⟨dx, Sa, Ea, s _ _ e, h1.ext s, h2.ext s⟩, ok⟩
/-- beside b -/
def DecW (K : PySem.W.Frag) (C : Addr) (b : Addr) (H : Hp) (p : Addr) (D : Dcd) : Prop := DecAt K C (wo H b) p D
theorem DecW.kp {K : PySem.W.Frag} {C b : Addr} {H H' : Hp} {p : Addr} {D : Dcd} (h : DecW K C b H p D) (k : Kp b H H') : DecW K C b H' p D := DecAt.ext h k.wo
theorem DecW.at {K : PySem.W.Frag} {C b : Addr} {H : Hp} {p : Addr} {D : Dcd} (h : DecW K C b H p D) : DecAt K C H p D := DecAt.ext h (wo_same H b)
theorem DecAt.w {K : PySem.W.Frag} {C b : Addr} {H H' : Hp} {p : Addr} {D : Dcd} (h : DecAt K C H p D) (s : Same H (wo H' b)) : DecW K C b H' p D := DecAt.ext h s
end My

set_option Elab.async false
set_option linter.all false
set_option maxRecDepth 100000
set_option maxHeartbeats 4000000
/-! Comprehensions that make data: lists that grow beside p; rows as tuples. -/
namespace My
open PySem PySem.Spec PyProof.Rows L2
/-- the list at D, new since H1, holds the data ds; neither it nor p is part of them -/
def AcM (K : PySem.W.Frag) (m : Bool) (p : Addr) (H1 : Hp) (D : Addr) (ds : List PyData) (H : Hp) : Prop := Same H1 H ∧ ∃ acc, H D = some (.lst acc) ∧ DgAll K (wo (wo H p) D) m acc ds
section
variable {K : PySem.W.Frag} {m : Bool} {p D : Addr} {H1 H H2 : Hp} {ds : List PyData}
theorem AcM.start (hD : H1 D = none) : AcM K m p H1 D [] (L2.upd H1 D (.lst [])) := ⟨Same.new (Same.refl _) hD, [], upd_same, .nil⟩
theorem two_same (s : Same H H2) : Same (wo (wo H p) D) (wo (wo H2 p) D) := fun b o e => by
  have n : b ≠ D := fun z => by rw [z, wo_at] at e; cases e
  rw [wo_ne n] at e ⊢
  have n2 : b ≠ p := fun z => by rw [z, wo_at] at e; cases e
  rw [wo_ne n2] at e ⊢
  exact s b o e
theorem two_upd {o : HO} : wo (wo (L2.upd H D o) p) D = wo (wo H p) D := by
  funext b
  by_cases e : b = D
  · rw [e, wo_at, wo_at]
  · rw [wo_ne e, wo_ne e]
    by_cases e2 : b = p
    · rw [e2, wo_at, wo_at]
    · rw [wo_ne e2, wo_ne e2, upd_ne e]
theorem two_le : Same (wo (wo H p) D) (wo H p) := fun b o e => wo_le e
/-- one more -/
theorem AcM.snoc {y : V} {d : PyData} (h : AcM K m p H1 D ds H) (hD : H1 D = none) (l : ds.length ≤ 100000) (s : Same H H2) (dy : Dg K (wo (wo H2 p) D) m y d) :
    ∃ acc, H2 D = some (.lst acc) ∧ acc.length < sizeLine ∧ AcM K m p H1 D (ds ++ [d]) (L2.upd H2 D (.lst (acc ++ [y]))) := by
  obtain ⟨s1, acc, e, ha⟩ := h
  refine ⟨acc, s _ _ e, by rw [ha.len]; exact Nat.lt_of_le_of_lt l (by decide), fun b o q => ?_, acc ++ [y], upd_same, ?_⟩
  · rw [upd_ne (ne_of_none q hD)]; exact s _ _ (s1 _ _ q)
  · rw [two_upd]
    exact (ha.ext (two_same s)).append (.cons dy .nil)
theorem AcM.ne (h : AcM K m p H1 D ds H) : H D ≠ none := by
  obtain ⟨_, acc, e, _⟩ := h
  rw [e]; exact fun z => by cases z
/-- a new tuple of data -/
theorem two_tup {q : Addr} {xs : List V} {es : List PyData} (eD : H D ≠ none) (ep : H p ≠ none) (hq : H q = none) (h : DgAll K (wo (wo H p) D) m xs es) : Same H (L2.upd H q (.tup xs)) ∧ Dg K (wo (wo (L2.upd H q (.tup xs)) p) D) m (.ref q) (.tuple es) := by
  have n : q ≠ D := fun z => eD (by rw [← z]; exact hq)
  have n2 : q ≠ p := fun z => ep (by rw [← z]; exact hq)
  have s : Same H (L2.upd H q (.tup xs)) := Same.new (Same.refl _) hq
  exact ⟨s, .tup (SqT.of (by rw [wo_ne n, wo_ne n2]; exact upd_same)) (h.ext (two_same s))⟩
/-- what stood beside p when D was still free -/
theorem two_old {x : V} {d : PyData} (hD : H1 D = none) (s : Same H1 H) (h : Dg K (wo H1 p) m x d) : Dg K (wo (wo H p) D) m x d := h.ext fun b o e => by
  have n2 : b ≠ p := fun z => by rw [z, wo_at] at e; cases e
  have e' := e
  rw [wo_ne n2] at e'
  have n : b ≠ D := fun z => by rw [z, hD] at e'; cases e'
  rw [wo_ne n, wo_ne n2]
  exact s b o e'
theorem two_olds {x : List V} {d : List PyData} (hD : H1 D = none) (s : Same H1 H) (h : DgAll K (wo H1 p) m x d) : DgAll K (wo (wo H p) D) m x d := h.ext fun b o e => by
  have n2 : b ≠ p := fun z => by rw [z, wo_at] at e; cases e
  have e' := e
  rw [wo_ne n2] at e'
  have n : b ≠ D := fun z => by rw [z, hD] at e'; cases e'
  rw [wo_ne n, wo_ne n2]
  exact s b o e'
end
def tupD (r : PyData) : PyData := .tuple (itsD r)
theorem SqQ.le {K : PySem.W.Frag} {H H' : Hp} {a : Addr} {xs : List V} (h : SqQ K H a xs) (s : Same H H') : SqQ K H' a xs := h.same s
/-- tuple([tuple(row) for row in rows]) -/
theorem rows_tup {K : PySem.W.Frag} {H : Hp} {p a : Addr} {m : Bool} {ys : List V} {es : List PyData} {σ : L2.St} {te : TE} {i : Nat} {vs : List Nat} {Q : VK} {A : Type} {rT rT2 : List V → Hp → VK → Prop}
    (e1 : rT = fun xs H Q => ∃ p ys, xs = [.ref p] ∧ ((SqL K H p ys ∧ ∀ l, H l = none → Q (.ref l) (L2.upd H l (.tup ys))) ∨ (SqT K H p ys ∧ Q (.ref p) H)))
    (e2 : rT2 = fun xs H Q => ∃ p ys, xs = [.ref p] ∧ (SqL K H p ys ∧ (∀ l, H l = none → Q (.ref l) (L2.upd H l (.tup ys))) ∨ SqT K H p ys ∧ Q (.ref p) H))
    (hte : ∀ R : VK, R (.ref a) H → te σ H R) (hq : SqQ K H a ys) (hes : DgAll K (wo H p) m ys es) (hr : ∀ r ∈ es, isSqD r = true) (hl : es.length ≤ 1000) (np : H p ≠ none)
    (hw : ∀ x, wipe ((wipe σ vs).set i (some x)) vs = wipe σ vs) (hi : ∀ x, ((wipe σ vs).set i (some x))[i]? = some (some x))
    (q : ∀ r zs H', Same H H' → H' r = some (.tup zs) → r ≠ p → DgAll K (wo H' p) m zs (es.map tupD) → Q (.ref r) H') :
    tCB rT (tCons (tLc (iSq K te) (gName i) tYes (tCB rT2 (tCons (tVar i) tNil)) vs) tNil) σ H Q := by
  refine hte _ ⟨a, rfl, lc_sq hq fun D hD => ⟨fun j H' => AcM K m p H D ((es.take j).map tupD) H', AcM.start hD, fun j H' h => h.1, ?_, ?_⟩⟩
  · rintro j x H' hx hA
    obtain ⟨d, hd, dx⟩ := hes.at j x hx
    have hm : d ∈ es := List.mem_of_getElem? hd
    have s' := hA.1
    have dx' : Dg K (wo (wo H' p) D) m x d := two_old hD s' dx
    have eD := hA.ne
    have ep : H' p ≠ none := same_at s' np
    refine ⟨hw x, tYesT ⟨_, hi x, ?_⟩⟩
    have len : ((es.take j).map tupD).length ≤ 100000 := by rw [List.length_map]; exact Nat.le_trans (List.length_take_le' _ _) (by omega)
    have fin : ∀ y H2, Same H' H2 → Dg K (wo (wo H2 p) D) m y (tupD d) → ∃ acc, H2 D = some (.lst acc) ∧ acc.length < sizeLine ∧ AcM K m p H D ((es.take (j + 1)).map tupD) (L2.upd H2 D (.lst (acc ++ [y]))) := fun y H2 s2 dy => by
      have := hA.snoc hD len s2 dy
      rw [List.take_add_one, hd, List.map_append]
      exact this
    rw [e2]
    obtain ⟨r, zs, rfl, hz, hzs⟩ := dx'.lst_q (sq_its (hr d hm))
    rcases hz with hz | hz
    · refine ⟨r, zs, rfl, .inl ⟨hz.ext (fun b o e => wo_le (wo_le e)), fun q' hq' => ?_⟩⟩
      obtain ⟨s2, dy⟩ := two_tup eD ep hq' hzs
      exact fin _ _ s2 dy
    · exact ⟨r, zs, rfl, .inr ⟨hz.ext (fun b o e => wo_le (wo_le e)), fin _ _ (Same.refl _) (.tup hz hzs)⟩⟩
  · rintro H' ⟨s', acc, e, ha⟩
    rw [hes.len, List.take_length] at ha
    rw [e1]
    refine ⟨D, acc, rfl, .inl ⟨SqL.of e, fun l hl' => ?_⟩⟩
    have nl : l ≠ p := fun z => (same_at s' np) (by rw [← z]; exact hl')
    have s2 : Same H' (L2.upd H' l (.tup acc)) := Same.new (Same.refl _) hl'
    refine q l acc _ (s'.trans s2) upd_same nl ?_
    exact ha.ext (fun b o e => (Kp.of s2).wo b o (wo_le e))
/-! ### data without lists and dicts -/
mutual
def lfD : PyData → Bool
  | .none => true
  | .int _ => true
  | .str _ => true
  | .bool _ => true
  | .tuple ds => lfAll ds
  | .list _ => false
  | .dict _ => false
def lfAll : List PyData → Bool
  | [] => true
  | d :: ds => lfD d && lfAll ds
end
mutual
theorem dg_lf {K : PySem.W.Frag} {H : Hp} {m m' : Bool} : ∀ (d : PyData) (x : V), lfD d = true → Dg K H m x d → Dg K H m' x d
  | .none, _, _, h => by cases h; exact .non
  | .int _, _, _, h => by cases h; exact .int _
  | .str _, _, _, h => by cases h; exact .str _
  | .bool _, _, _, h => by cases h; exact .bl _
  | .tuple ds, _, e, h => by
    have e' : lfAll ds = true := by simpa [lfD] using e
    cases h with
    | tup hs ha => exact .tup hs (dg_lfAll ds _ e' ha)
  | .list _, _, e, _ => by simp [lfD] at e
  | .dict _, _, e, _ => by simp [lfD] at e
theorem dg_lfAll {K : PySem.W.Frag} {H : Hp} {m m' : Bool} : ∀ (ds : List PyData) (xs : List V), lfAll ds = true → DgAll K H m xs ds → DgAll K H m' xs ds
  | [], _, _, h => by cases h; exact .nil
  | d :: ds, _, e, h => by
    have e' : lfD d = true ∧ lfAll ds = true := by simpa [lfAll] using e
    cases h with
    | cons h1 h2 => exact .cons (dg_lf d _ e'.1 h1) (dg_lfAll ds _ e'.2 h2)
end
theorem lfAll_map {α : Type} {f : α → PyData} (h : ∀ a, lfD (f a) = true) : ∀ l : List α, lfAll (l.map f) = true
  | [] => by simp [lfAll]
  | a :: l => by rw [List.map_cons]; unfold lfAll; rw [h a, lfAll_map h l]; rfl
theorem lf_enD (e : Ent) : lfD (enD e) = true := by
  cases e with
  | none => rfl
  | some p => obtain ⟨g, w⟩ := p; rfl
theorem lf_stD (D : Dcd) : lfD D.stD = true := by
  unfold Dcd.stD lfD
  exact lfAll_map (fun r => by unfold lfD; exact lfAll_map lf_enD r) _
theorem lf_dEn (D : Dcd) : lfD D.enD = true := by
  unfold Dcd.enD lfD
  exact lfAll_map (fun e => by cases e <;> rfl) _
mutual
theorem dg_dp {K : PySem.W.Frag} {H : Hp} : ∀ (d : PyData) (x : V), Dg K H false x d → Dp K H x d
  | .none, _, h => by cases h; exact .non
  | .int _, _, h => by cases h; exact .int _
  | .str _, _, h => by cases h; exact .str _
  | .bool _, _, h => by cases h; exact .bl _
  | .tuple ds, _, h => by
    cases h with
    | tup hs ha => exact .tup hs (dg_dpAll ds _ ha)
  | .list ds, _, h => by
    cases h with
    | lst hs _ ha => exact .lst hs (dg_dpAll ds _ ha)
  | .dict _, _, h => by
    cases h with
    | emp e => cases e
    | dct _ e => cases e
theorem dg_dpAll {K : PySem.W.Frag} {H : Hp} : ∀ (ds : List PyData) (xs : List V), DgAll K H false xs ds → DpAll K H xs ds
  | [], _, h => by cases h; exact .nil
  | d :: ds, _, h => by
    cases h with
    | cons h1 h2 => exact .cons (dg_dp d _ h1) (dg_dpAll ds _ h2)
end
end My
namespace My
open PySem PySem.Spec PyProof.Rows L2
theorem strOk_of {w : List Nat} (h : ∀ c ∈ w, c < 200) : PyData.strOk (S w) = true := by
  show (S w).cps.all (· < 0x110000) = true
  rw [← Array.all_toList, List.all_eq_true]
  intro c hc
  have hc' : c ∈ w := by rw [← S_tl w]; exact hc
  exact decide_eq_true (by have := h c hc'; omega)
theorem canAll {α : Type} {f : α → PyData} : ∀ (l : List α), (∀ a ∈ l, (f a).canLay0 = true) → PyData.canLayAll0 (l.map f) = true
  | [], _ => by simp [PyData.canLayAll0]
  | a :: l, h => by
    rw [List.map_cons]
    unfold PyData.canLayAll0
    rw [h a List.mem_cons_self, canAll l fun b hb => h b (List.mem_cons_of_mem _ hb)]; rfl
theorem shaped_of {d : PyData} (h1 : d.canLay0 = true) (h2 : d.depth ≤ 64) : SeqAt.shaped d = true := by
  unfold SeqAt.shaped
  rw [h1, decide_eq_true h2]; rfl
theorem shaped_stD {D : Dcd} (h : D.ok) : SeqAt.shaped D.stD = true := by
  refine shaped_of ?_ (Nat.le_trans (fit_stD h).d (by omega))
  unfold Dcd.stD PyData.canLay0
  refine canAll _ fun r hr => ?_
  unfold PyData.canLay0
  refine canAll _ fun e he => ?_
  have o := (h.rows r hr).2 e he
  cases e with
  | none => unfold enD PyData.canLay0; rfl
  | some p =>
    obtain ⟨g, w⟩ := p
    unfold enD PyData.canLay0 PyData.canLayAll0 PyData.canLayAll0 PyData.canLayAll0 PyData.canLay0
    rw [strOk_of fun c hc => (o g w rfl).2.1.lt c hc]; rfl
theorem shaped_dEn {D : Dcd} (h : D.ok) : SeqAt.shaped D.enD = true := by
  refine shaped_of ?_ (Nat.le_trans (fit_dEn h).d (by omega))
  unfold Dcd.enD PyData.canLay0
  refine canAll _ fun e he => ?_
  cases e with
  | none => unfold wdD PyData.canLay0; rfl
  | some w =>
    unfold wdD
    rw [show PyData.canLay0 (.str (S w)) = PyData.strOk (S w) by unfold PyData.canLay0; rfl, strOk_of fun c hc => (h.words _ he w rfl).1.lt c hc]
theorem dcd_eq {D D' : Dcd} : D = D' ↔ D.sg = D'.sg ∧ D.st = D'.st ∧ D.en = D'.en := by
  obtain ⟨a, b, c⟩ := D
  obtain ⟨a', b', c'⟩ := D'
  exact ⟨fun e => by injection e with e1 e2 e3; exact ⟨e1, e2, e3⟩, fun ⟨e1, e2, e3⟩ => by simp at e1 e2 e3; rw [e1, e2, e3]⟩
theorem eqv_stD {D D' : Dcd} : PyData.eqv D.stD D'.stD = decide (D.st = D'.st) := by
  rw [Bool.eq_iff_iff, eqv_pl _ _ (plD_stD D) (plD_stD D'), decide_eq_true_eq]
  exact ⟨stD_inj, fun e => by unfold Dcd.stD; rw [e]⟩
theorem eqv_dEn {D D' : Dcd} : PyData.eqv D.enD D'.enD = decide (D.en = D'.en) := by
  rw [Bool.eq_iff_iff, eqv_pl _ _ (plD_dEn D) (plD_dEn D'), decide_eq_true_eq]
  exact ⟨dEn_inj, fun e => by unfold Dcd.enD; rw [e]⟩
/-- a line of signs -/
abbrev lnD (l : List Nat) : PyData := .tuple (l.map fun (a : Nat) => PyData.int a)
theorem isLn_of {n : Nat} {l : List Nat} (h : ∀ a ∈ l, a < n) : isLn n (lnD l) = true := by
  show (l.map fun (a : Nat) => PyData.int a).all (isBe n) = true
  rw [List.all_eq_true]
  intro d hd
  obtain ⟨a, ha, rfl⟩ := List.mem_map.mp hd
  show (decide ((0 : Int) ≤ (a : Nat)) && decide (((a : Nat) : Int) < n)) = true
  rw [decide_eq_true (by omega), decide_eq_true (by have := h a ha; omega)]; rfl
theorem joinL_nil : ∀ ws : List (List Nat), TL.joinL [] ws = ws.flatten
  | [] => rfl
  | [w] => by simp [TL.joinL]
  | w :: v :: r => by
    show w ++ ([] ++ TL.joinL [] (v :: r)) = _
    rw [joinL_nil (v :: r)]; rfl
theorem join_words (ws : List (List Nat)) : Txt.join (Str.ofString "") (ws.map S) = S ws.flatten := by
  rw [TL.join_eq]
  have e : cs (Str.join (Str.ofString "") (ws.map S)) = ws.flatten := by
    rw [show cs (Str.join (Str.ofString "") (ws.map S)) = TL.tl (Str.join (Str.ofString "") (ws.map S)) from rfl, TL.tl_join, List.map_map]
    have : (ws.map (TL.tl ∘ S)) = ws := by
      rw [show (TL.tl ∘ S) = id from funext fun l => S_tl l]; simp
    rw [this]
    exact joinL_nil ws
  rw [← S_of (Str.join _ _), e]
theorem sum_words (ws : List (List Nat)) : ((ws.map S).map (·.length)).sum = ws.flatten.length := by
  induction ws with
  | nil => rfl
  | cons w r ih => rw [List.map_cons, List.map_cons, List.sum_cons, ih, List.flatten_cons, List.length_append, S_len]
end My
namespace My
open PySem PySem.Spec PyProof.Rows L2
theorem Dcd.go_app (D : Dcd) (l2 : List Nat) : ∀ (l1 : List Nat) (s : Nat), D.go s (l1 ++ l2) = match D.go s l1 with
    | none => none
    | some (t, u) => (D.go t l2).map fun (p : Nat × List Nat) => (p.1, u ++ p.2)
  | [], s => by
    show D.go s l2 = (D.go s l2).map fun (p : Nat × List Nat) => (p.1, [] ++ p.2)
    cases D.go s l2 with
    | none => rfl
    | some p => rfl
  | b :: l, s => by
    show (match D.at s b with | none => none | some (g, w) => (D.go g (l ++ l2)).map fun (p : Nat × List Nat) => (p.1, w ++ p.2)) = match (match D.at s b with | none => none | some (g, w) => (D.go g l).map fun (p : Nat × List Nat) => (p.1, w ++ p.2)) with | none => none | some (t, u) => (D.go t l2).map fun (p : Nat × List Nat) => (p.1, u ++ p.2)
    cases h : D.at s b with
    | none => rfl
    | some p =>
      obtain ⟨g, w⟩ := p
      show (D.go g (l ++ l2)).map _ = match (D.go g l).map (fun (p : Nat × List Nat) => (p.1, w ++ p.2)) with | none => none | some (t, u) => (D.go t l2).map fun (p : Nat × List Nat) => (p.1, u ++ p.2)
      rw [D.go_app l2 l g]
      cases D.go g l with
      | none => rfl
      | some q =>
        obtain ⟨t, u⟩ := q
        show Option.map _ (Option.map _ (D.go t l2)) = Option.map _ (D.go t l2)
        rw [Option.map_map]
        cases D.go t l2 with
        | none => rfl
        | some r => obtain ⟨x, y⟩ := r; show some (x, w ++ (u ++ y)) = some (x, w ++ u ++ y); rw [List.append_assoc]
theorem Dcd.go_none (D : Dcd) {l : List Nat} {s i : Nat} (h : D.go s (l.take i) = none) : D.go s l = none := by
  have := D.go_app (l.drop i) (l.take i) s
  rw [List.take_append_drop, h] at this
  exact this
theorem Dcd.wr_none (D : Dcd) {l : List Nat} {i : Nat} (h : D.go 0 (l.take i) = none) : D.wr l = none := by
  unfold Dcd.wr
  rw [D.go_none h]
theorem take_snoc {l : List Nat} {i a : Nat} (h : l[i]? = some a) : l.take (i + 1) = l.take i ++ [a] := by rw [List.take_add_one, h]; rfl
end My
namespace My
open PySem PySem.Spec PyProof.Rows L2
theorem wo_wo {H : Hp} {D : Addr} : wo (wo H D) D = wo H D := by
  funext b
  by_cases e : b = D
  · rw [e, wo_at, wo_at]
  · rw [wo_ne e]
/-- a comprehension over a range whose items are data -/
theorem lc_range_data {K : PySem.W.Frag} {m : Bool} {p : Addr} {lo : Int} {n : Nat} {g : TG} {tt : TT} {te : TE} {vs : List Nat} {σ : L2.St} {H1 : Hp} {D : Addr} {Qd : Hp → Prop} (f : Nat → PyData) (hD : H1 D = none) (hn : n ≤ 100000)
    (step : ∀ j H' (R : VK) (N : Hp → Prop), j < n → Same H1 H' → H' D ≠ none → (∀ y H4, Same H' H4 → Dg K (wo (wo H4 p) D) m y (f j) → R y H4) →
      g (.int (lo + j)) (wipe σ vs) H' fun σ2 H2 => wipe σ2 vs = wipe σ vs ∧ tt σ2 H2 fun b H3 => if b = true then te σ2 H3 R else N H3)
    (done : ∀ H' xs, Same H1 H' → H' D = some (.lst xs) → DgAll K (wo (wo H' p) D) m xs ((List.range n).map f) → Qd H') :
    ∃ W : Nat → Nat → Hp → Prop, (∃ m, W 0 m (L2.upd H1 D (.lst []))) ∧ ∀ i m H, W i m H →
      ((Itr lo n).stop i H ∧ Qd H) ∨ ((Itr lo n).go i H ∧ ∃ Nx : Hp → Prop, (∀ H', Nx H' → ∃ m', m' < m ∧ W (i + 1) m' H') ∧ ∀ x H', (Itr lo n).yld i H x H' → g x (wipe σ vs) H' fun σ2 H2 => wipe σ2 vs = wipe σ vs ∧ tt σ2 H2 fun b H3 =>
        if b = true then te σ2 H3 fun y H4 => ∃ acc, H4 D = some (.lst acc) ∧ acc.length < sizeLine ∧ Nx (L2.upd H4 D (.lst (acc ++ [y]))) else Nx H3) := by
  refine lc_range (lo := lo) (n := n) (fun i H' => AcM K m p H1 D ((List.range i).map f) H') (AcM.start hD) ?_ ?_
  · rintro i H' hi hA
    refine step i H' _ _ hi hA.1 hA.ne fun y H4 s4 dy => ?_
    have := hA.snoc hD (by rw [List.length_map, List.length_range]; omega) s4 dy
    rw [List.range_succ, List.map_append]
    exact this
  · rintro H' ⟨s', acc, e, ha⟩
    exact done H' acc s' e ha
/-- over a list of known values -/
theorem lc_list_data {K : PySem.W.Frag} {m : Bool} {p a : Addr} {xs : List V} {g : TG} {tt : TT} {te : TE} {vs : List Nat} {σ : L2.St} {H1 : Hp} {D : Addr} {Qd : Hp → Prop} (f : Nat → PyData) (hL : SqL K H1 a xs) (hD : H1 D = none) (hn : xs.length ≤ 100000)
    (step : ∀ j x H' (R : VK) (N : Hp → Prop), xs[j]? = some x → Same H1 H' → H' D ≠ none → (∀ y H4, Same H' H4 → Dg K (wo (wo H4 p) D) m y (f j) → R y H4) →
      g x (wipe σ vs) H' fun σ2 H2 => wipe σ2 vs = wipe σ vs ∧ tt σ2 H2 fun b H3 => if b = true then te σ2 H3 R else N H3)
    (done : ∀ H' ys, Same H1 H' → H' D = some (.lst ys) → DgAll K (wo (wo H' p) D) m ys ((List.range xs.length).map f) → Qd H') :
    ∃ W : Nat → Nat → Hp → Prop, (∃ m, W 0 m (L2.upd H1 D (.lst []))) ∧ ∀ i m H, W i m H →
      ((Itl K a).stop i H ∧ Qd H) ∨ ((Itl K a).go i H ∧ ∃ Nx : Hp → Prop, (∀ H', Nx H' → ∃ m', m' < m ∧ W (i + 1) m' H') ∧ ∀ x H', (Itl K a).yld i H x H' → g x (wipe σ vs) H' fun σ2 H2 => wipe σ2 vs = wipe σ vs ∧ tt σ2 H2 fun b H3 =>
        if b = true then te σ2 H3 fun y H4 => ∃ acc, H4 D = some (.lst acc) ∧ acc.length < sizeLine ∧ Nx (L2.upd H4 D (.lst (acc ++ [y]))) else Nx H3) := by
  refine lc_list (K := K) (a := a) (xs := xs) (fun i H' => AcM K m p H1 D ((List.range i).map f) H') (AcM.start hD) (fun i H' _ h => hL.ext h.1) ?_ ?_
  · rintro i x H' hx hA
    have hi := (List.getElem?_eq_some_iff.mp hx).1
    refine step i x H' _ _ hx hA.1 hA.ne fun y H4 s4 dy => ?_
    have := hA.snoc hD (by rw [List.length_map, List.length_range]; omega) s4 dy
    rw [List.range_succ, List.map_append]
    exact this
  · rintro H' ⟨s', acc, e, ha⟩
    exact done H' acc s' e ha
/-- what the list at D holds, told without D -/
theorem own_list {K : PySem.W.Frag} {m : Bool} {p D : Addr} {H : Hp} {xs : List V} {ds : List PyData} (h : DgAll K (wo (wo H p) D) m xs ds) : DgAll K (wo H p) m xs ds := h.ext fun _ _ e => wo_le e
theorem own_list0 {K : PySem.W.Frag} {m : Bool} {D : Addr} {H : Hp} {xs : List V} {ds : List PyData} (h : DgAll K (wo (wo H D) D) m xs ds) : DgAll K H m xs ds := h.ext fun _ _ e => wo_le (wo_le e)
/-- a decoder's parts as lists -/
def Dcd.stL (D : Dcd) : PyData := .list (D.st.map fun r => .list (r.map My.enD))
def Dcd.enL (D : Dcd) : PyData := .list (D.en.map wdD)
theorem Dcd.goodL {D : Dcd} (h : D.ok) : GoodD D (.int (D.sg : Nat)) D.stL D.enL :=
  ⟨h, rfl, rfl, fun r hr => by
    obtain ⟨x, _, rfl⟩ := List.mem_map.mp hr
    rfl, by show (D.st.map fun r => PyData.list (r.map My.enD)).map itsD = _; rw [List.map_map]; rfl, rfl, rfl⟩
theorem weight_all {α : Type} {f : α → PyData} {k : Nat} : ∀ l : List α, (∀ a ∈ l, (f a).weight ≤ k) → PyData.weightAll (l.map f) ≤ (k + 1) * l.length
  | [], _ => by simp [PyData.weightAll]
  | a :: l, h => by
    rw [List.map_cons]
    unfold PyData.weightAll
    have h1 := h a List.mem_cons_self
    have h2 := weight_all l fun b hb => h b (List.mem_cons_of_mem _ hb)
    rw [List.length_cons, Nat.mul_succ]; omega
theorem weight_stL {D : Dcd} (h : D.ok) : D.stL.weight ≤ 100000 := by
  have n40 := h.n40
  have s5 := h.s5
  unfold Dcd.stL
  rw [PyData.weight]
  refine Nat.le_trans (weight_all (k := 210) _ fun r hr => ?_) (by omega)
  rw [PyData.weight]
  obtain ⟨l, o⟩ := h.rows r hr
  refine Nat.le_trans (weight_all (k := 40) _ fun e he => (fit_enD (o e he) n40).w) (by omega)
theorem weight_enL {D : Dcd} (h : D.ok) : D.enL.weight ≤ 100000 := by
  have n40 := h.n40
  have le := h.ends
  unfold Dcd.enL
  rw [PyData.weight]
  refine Nat.le_trans (weight_all (k := 4) _ fun e he => (fit_wdD fun w q => h.words e he w q).w) (by omega)
/-- where a new instance is made, the data stand beside it -/
theorem made_dw {K : PySem.W.Frag} {H : Hp} {x dx : Addr} {o : HO} {C : Addr} {m : Bool} {v : V} {d : PyData} (hx : H x = none) (hdx : H dx = none) (h : Dg K H m v d) : Dw K x (L2.upd (L2.upd H dx o) x (.ins C dx [])) m v d := by
  refine h.ext fun b ob e => ?_
  have n1 : b ≠ x := fun z => by rw [z, hx] at e; cases e
  have n2 : b ≠ dx := fun z => by rw [z, hdx] at e; cases e
  rw [wo_ne n1, upd_ne n1, upd_ne n2]; exact e
theorem made_same {H H' : Hp} {x dx : Addr} {o : HO} {C : Addr} (hx : H x = none) (hdx : H dx = none) (k : Kp x (L2.upd (L2.upd H dx o) x (.ins C dx [])) H') : Same H H' := fun b ob e => by
  have n1 : b ≠ x := fun z => by rw [z, hx] at e; cases e
  have n2 : b ≠ dx := fun z => by rw [z, hdx] at e; cases e
  exact k b ob n1 (by rw [upd_ne n1, upd_ne n2]; exact e)
end My
namespace My
open PySem PySem.Spec PyProof.Rows L2
/-- a new tuple of known items, in a comprehension -/
theorem tup_new {K : PySem.W.Frag} {m : Bool} {p D t : Addr} {H : Hp} {xs : List V} {ds : List PyData} (eD : H D ≠ none) (ep : H p ≠ none) (ht : H t = none) (h : ∀ G, DgAll K G m xs ds) : Same H (L2.upd H t (.tup xs)) ∧ Dg K (wo (wo (L2.upd H t (.tup xs)) p) D) m (.ref t) (.tuple ds) := by
  have n1 : t ≠ D := fun z => eD (by rw [← z]; exact ht)
  have n2 : t ≠ p := fun z => ep (by rw [← z]; exact ht)
  exact ⟨Same.new (Same.refl _) ht, .tup (SqT.of (by rw [wo_ne n1, wo_ne n2]; exact upd_same)) (h _)⟩
end My

set_option Elab.async false
set_option linter.all false
set_option maxRecDepth 100000
set_option maxHeartbeats 4000000
/-! C(..) within a try: what its __init__ lets out is caught. -/
namespace L2
open PySem PySem.Spec PyProof.Rows
section
variable {X : Cx} {CX : CXT} {k : Nat} {f C : Addr} {fd : FuncData} {ps : List Str} {ds : List Value} {dvs : List V} {sp : Sp} {E : St → XK} {x : Str} {p pos : Pos} {e : Expr} {es : List Expr} {t : TA}
theorem run_makeS {pins : List (Addr × Obj)} {σ : St} {H : Hp} {s : Shared} {Q : VK} {us : List Value} {vs : List V} (M : Mk X.K C f) (F : FnOk X.prog X.w X.K X.mg X.base CX k f fd ps sp) (hr : Room (k + 1) X.A) (hb : Binds X.K fd ps ds) (hd : Vals dvs ds)
    (hx : PassesAt CX X σ (E σ)) (I : Inv X pins σ H s) (r : Vals vs us)
    (h : ∀ x dx, H x = none → H dx = none → dx ≠ x → sp (.ref x :: (vs ++ dvs)) (upd (upd H dx (.own x)) x (.ins C dx [])) (fun v H2 => v = .non ∧ Q (.ref x) H2) (E σ)) :
    wpAny (model X.prog X.w) X.A (call (.ref C) us) (EP X pins σ Q) X.xe s := by
  have hq := h (s.heap.objs.size + 1) s.heap.objs.size (I.hok.fresh (Nat.le_succ _)) (I.hok.fresh (Nat.le_refl _)) (Nat.ne_of_lt (Nat.lt_succ_self _))
  have I2 := Inv.made (C := C) I
  have r2 : Vals (V.ref (s.heap.objs.size + 1) :: (vs ++ dvs)) (Value.ref (s.heap.objs.size + 1) :: (us ++ ds)) := .cons rfl (r.append hd)
  have hl : (Value.ref (s.heap.objs.size + 1) :: us ++ ds).length = ps.length := by
    have e := r2.length
    rw [F.len _ _ _ _ hq] at e
    exact e.symm
  refine wpAny_call (make_map (f := f) I.kIn M.makes M.init (beq_iff_eq.mp M.fn) (codeAny_mono (F.run _ X.stack _ _ ⟨Value.ref (s.heap.objs.size + 1) :: us, []⟩ (Value.ref (s.heap.objs.size + 1) :: (us ++ ds)) _ _ (E σ) (hr.make C us [])
    (I2.env0.make C us []) (hb _ (Value.ref (s.heap.objs.size + 1) :: us) I2.kIn hl) r2 hq) fun r s' hq' => ?_))
  cases r with
  | error e => exact hx pins _ _ e s' I2 hq'
  | ok fl =>
    cases fl with
    | ret u =>
      obtain ⟨v, H', I3, rv, ev, q3⟩ := I2.after hq'
      subst ev
      exact ⟨rv, ⟨V.ref (s.heap.objs.size + 1), H', I3, rfl, q3⟩⟩
    | next => exact False.elim hq'
    | brk => exact False.elim hq'
    | cont => exact False.elim hq'
def tMakeS (C : Addr) (sp : Sp) (dvs : List V) (E : St → XK) (t : TA) : TE := fun σ H Q => t σ H fun vs H1 => ∀ x dx, H1 x = none → H1 dx = none → dx ≠ x →
  sp (.ref x :: (vs ++ dvs)) (upd (upd H1 dx (.own x)) x (.ins C dx [])) (fun v H2 => v = .non ∧ Q (.ref x) H2) (E σ)
theorem pe_makeS (M : Mk X.K C f) (F : FnOk X.prog X.w X.K X.mg X.base CX k f fd ps sp) (hr : Room (k + 1) X.A) (hg : Gl X x) (hm : X.mg x = some (.ref C)) (hb : Binds X.K fd ps ds) (hd : Vals dvs ds) (hx : ∀ σ, PassesAt CX X σ (E σ))
    (ha : PA X (e :: es) t) (hdb : (x == ("__debug__" : Str)) = false := by decide) (he : starEach (e :: es) X.env = (false, eval e X.env) :: starEach es X.env := by rfl) (hpl : (backTo pos (starEach es X.env)).any (·.1) = false := by rfl) :
    PE X (.Call (.Name x p) (e :: es) [] pos) (tMakeS C sp dvs E t) := by
  refine ⟨fun pins s σ H Q I h => ?_⟩
  refine wpAny_Call_Name_kw (ld_glob I hg hm ?_ hdb)
  refine PySem.W.callWith_K (h₀ := X.base) I.ok.mod.kin M.kp (thn (ha.run pos pins s σ H _ I h) fun us s1 ⟨vs, H1, I1, r, q⟩ => ⟨I1.kIn, ?_⟩) he hpl
  exact run_makeS M F hr hb hd (hx σ) I1 r q
end
end L2
namespace L2
open PySem PySem.Spec PyProof.Rows
theorem call_isi_K {X : Cx} {K : PySem.W.Frag} (e : X.K = K) : CallR X (.builtin "isinstance") (rIsi K) := by subst e; exact call_isi
theorem call_list_of_K {X : Cx} {K : PySem.W.Frag} (e : X.K = K) : CallR X (.type "list") (fun xs H Q => ∃ p ys, xs = [.ref p] ∧ (SqL K H p ys ∨ SqT K H p ys) ∧ ∀ l, H l = none → Q (.ref l) (upd H l (.lst ys))) := by subst e; exact call_list_of
theorem call_list_ofSK {X : Cx} {K : PySem.W.Frag} (e : X.K = K) : CallR X (.type "list") (fun xs H Q => ∃ p ys, xs = [.ref p] ∧ (SqL K H p ys ∨ SqT K H p ys) ∧ ∀ l, H l = none → (l == sysModules) = false → Q (.ref l) (upd H l (.lst ys))) := by subst e; exact call_list_ofS
/-- no list of one's own lies where the modules lie -/
def tLow (te : TE) : TE := fun σ H Q => te σ H fun v H' => H' sysModules = none → Q v H'
theorem pe_low {X : Cx} {base : Heap} {e : Expr} {te : TE} (hk : X.base = base) (hs : ∃ o, base.get? sysModules = some o) (h : PE X e te) : PE X e (tLow te) := by
  subst hk
  refine ⟨fun pins s σ H Q I hq => wpAny_mono (h.run pins s σ H _ I hq) (fun u s' hh => ?_) fun _ _ z => z⟩
  obtain ⟨v, H', I', r, q⟩ := hh
  obtain ⟨o, e⟩ := hs
  exact ⟨v, H', I', r, q (I'.bs _ _ e).2⟩
theorem low_ne {H : Hp} {a : Addr} (hs : H sysModules = none) (ha : H a ≠ none) : (a == sysModules) = false := beq_eq_false_iff_ne.mpr fun e => ha (by rw [e]; exact hs)
end L2

set_option Elab.async false
set_option linter.all false
set_option maxRecDepth 100000
set_option maxHeartbeats 4000000
/-! {k: v}, one pair, the key a tuple. -/
namespace L2
open PySem PySem.Spec PyProof.Rows
def tDispT1 (tk tv : TE) : TE := fun σ H Q => ∀ p, H p = none → tk σ (upd H p (.dT [])) fun x H1 => tv σ H1 fun y H2 => H2 p = some (.dT []) ∧ ∃ (b : Addr) (ks : List Key), x = .ref b ∧ H2 b = some (.tup (ks.map kV)) ∧ Q (.ref p) (upd H2 p (.dT [(ks, y)]))
theorem pe_dispT1 {X : Cx} {pos : Pos} {k v : Expr} {tk tv : TE} (hu : X.A.units + 1 < cLine) (hk : PE X k tk) (hv : PE X v tv) : PE X (.Dict [some k] [v] pos) (tDispT1 tk tv) := by
  refine ⟨fun pins s σ H Q I q => ?_⟩
  have hn := I.hok.fresh (Nat.le_refl s.heap.objs.size)
  have I1 := I.laid (a := s.heap.objs.size) (o := .dT []) (h' := s.heap.push { cls := .type "dict", data := .dict #[] }) (t' := s.toks) (fun _ _ q => Heap.get?_push_of_some _ q) (Nat.le_refl _) (dt_empty s.heap I.big)
  have hshape : (evalEachOpt [some k] X.env).zip ((evalEach [v] X.env).map fun v => do let x ← v; standAt pos; pure x) = (pairTrees [some k] [v] X.env pos).map fun p => (some p.1, p.2) := zip_pairTrees [some k] [v] X.env pos rfl rfl
  have hlen : (pairTrees [some k] [v] X.env pos).length = 1 := pairTrees_length [some k] [v] X.env pos rfl rfl
  have hne : pairTrees [some k] [v] X.env pos ≠ [] := fun e => by rw [e] at hlen; cases hlen
  rw [arm_eval_Dict, hshape, dictDisplay_pairs _ hne (by omega)]
  refine wpAny_bind (wpAny_standAt (wpAny_bind (wpAny_subDictH (knd := tupleKind (mixKind X.prog X.w)) (Q := fun d s' => wpAny (model X.prog X.w) X.A (pure (Value.ref d)) (EP X pins σ Q) X.xe s') (show X.A.units < cLine by omega) (by omega) ?_)))
  refine pairTrees_cons_walk (thn (hk.run pins _ σ _ _ I1 (q s.heap.objs.size hn)) fun u s1 ⟨x, H1, I1, rx, q1⟩ => thn (hv.run pins s1 σ H1 _ I1 q1) fun w2 s2 ⟨y, H2, I2, ry, e, b, ks, ex, eb, q2⟩ => pairTrees_nil_walk ?_)
  subst ex
  cases (show u = Value.ref b from rx)
  obtain ⟨z, hd, xs0, r0, dd⟩ := dt_of I2.hok e
  cases r0
  refine ⟨[(ks, b, w2)], ⟨rfl, rfl, key_of I2.hok eb, trivial⟩, dd, fun h' tk dd' hs => wpAny_pure ⟨.ref s.heap.objs.size, _, ?_, rfl, q2⟩⟩
  have he : ∃ q, h'.get? s.heap.objs.size = some q := let ⟨q, _, _, hq, _⟩ := dd'; ⟨q, hq⟩
  obtain ⟨o, es, ep, h1, h2, h3, h4, _, h5⟩ := dd'
  refine d_write I2 (by rw [e]; exact True.intro) hs he ⟨by show 1 ≤ sizeLine; decide, hd, [(ks, b, w2)], ?_, o, es, ep, h1, h2, h3, h4, h5⟩
  refine .cons ⟨rfl, ?_, ry⟩ .nil
  show upd H2 s.heap.objs.size (.dT [(ks, y)]) b = some (.tup (ks.map kV))
  rw [upd_ne (ne_of eb e (fun z => nomatch z))]
  exact eb
theorem pe_fldK {X : Cx} {K : PySem.W.Frag} {e : Expr} {f : Str} {pos : Pos} {ta : TE} (ek : X.K = K) (he : PE X e ta) (hb : attributeBase e f X.env (eval e X.env) = eval e X.env) : PE X (.Attribute e f pos) (tFld K ta f) := by subst ek; exact pe_fld he hb
end L2

set_option Elab.async false
set_option linter.all false
set_option maxRecDepth 100000
set_option maxHeartbeats 4000000
/-! [*d, ..], d a dict whose keys are tuples: the keys that were laid. -/
namespace My
open PySem PySem.Spec PyProof.Rows L2
theorem collect_src {prog : Program} {w : World} {A : Around} {E : Value → Shared → Prop} {s : Shared} {T : String} {r d : Addr} {n : Nat} {P : Nat → Value → Prop} {OK : Heap → Prop} {Q : List Value → Shared → Prop}
    (K : PySem.W.KdlSrc prog w T r d n P OK) (hh : A.handled = none) (ok : OK s.heap) (hn : n ≤ sizeLine)
    (q : ∀ h' tk (acc : Array Value), (∀ b o, s.heap.get? b = some o → h'.get? b = some o) → ItemsOf P acc n → Q acc.toList { s with heap := h', toks := tk }) : wpAny (model prog w) A (collect (.ref r)) Q E s := by
  have there := K.there _ ok
  unfold collect
  refine wpAny_bind (wpAny_runValue ?start)
  refine codeAny_builtin PySem.F.entry_proto_collect ?go
  rw [Around.under_plainId PySem.F.plain_proto_collect]
  show wpAny _ A.in1 (newList [] >>= fun z => again (.builtin "list.__iadd__" ⟨[z, .ref r], []⟩)) _ _ s
  refine wpAny_bind (wpAny_newObj_type ?made)
  refine wpAny_pure ⟨plainId_quiet PySem.F.plain_list_iadd _, ?add⟩
  refine codeAny_builtin PySem.F.entry_list_iadd ?more
  rw [Around.under_plainId PySem.F.plain_list_iadd]
  have new : (s.heap.push { cls := .type "list", data := .seq #[] }).get? s.heap.objs.size = some { cls := .type "list", data := .seq #[] } := Heap.get?_push_size _ rfl
  have old : OK (s.heap.push { cls := .type "list", data := .seq #[] }) := K.keep _ _ ok fun b _ o e => Heap.get?_push_of_some _ e
  show wpAny _ A.in1 (Builtin.List.listExtendWith (.ref s.heap.objs.size) (.ref r) (.ref s.heap.objs.size)) _ _ { s with heap := s.heap.push { cls := .type "list", data := .seq #[] } }
  refine PySem.W.kdl_extend (R := fun r s' => match r with | .ok (.ret v) => wpAny (model prog w) A (match v with | .ref a => (do match (← load a).data with | .seq xs _ => pure xs.toList | _ => unsupported "internal:collect") | _ => unsupported "internal:collect") Q E s' | .ok _ => False | .error e => E e s') (s := { s with heap := s.heap.push { cls := .type "list", data := .seq #[] } }) K hh old s.heap.objs.size (Nat.ne_of_gt there.1) (Nat.ne_of_gt there.2) _ _ new (fun h' tk acc c k hS it => ?_) hn
  show wpAny _ A (load s.heap.objs.size >>= _) _ _ { s with heap := h', toks := tk }
  exact wpAny_bind (wpAny_load hS (wpAny_pure (q h' tk acc (fun b o e => k b o (Nat.ne_of_lt (Heap.lt_size e)) (Heap.get?_push_of_some _ e)) it)))
section
variable {X : Cx} {pins : List (Addr × Obj)} {σ : L2.St} {H : Hp} {s : Shared}
theorem laid_keys {P : Program} {w : World} {es : Array DictEntry} {ks : List (List L2.Key × Addr × Value)} {acc : Array Value} (he : ∀ j : Nat, es[j]? = (ks[j]?).map (entryOfKey (tupleKind (mixKind P w)))) (n : acc.size = es.size)
    (it : ∀ (j : Nat) (v : Value), acc[j]? = some v → ∃ en : DictEntry, es[j]? = some en ∧ v = en.key) : acc.toList = (ks.map fun x => x.2.1).map Value.ref := by
  refine List.ext_getElem? fun j => ?_
  rw [Array.getElem?_toList, List.getElem?_map, List.getElem?_map]
  have hj := he j
  cases q : ks[j]? with
  | none =>
    rw [q] at hj
    have z : es.size ≤ j := Array.getElem?_eq_none_iff.mp hj
    rw [Array.getElem?_eq_none (by omega)]; rfl
  | some x =>
    rw [q] at hj
    obtain ⟨z, _⟩ := Array.getElem?_eq_some_iff.mp hj
    obtain ⟨en, h1, h2⟩ := it j _ (Array.getElem?_eq_getElem (show j < acc.size by omega))
    rw [Array.getElem?_eq_getElem (show j < acc.size by omega), h2]
    rw [hj] at h1
    have h1 := Option.some.inj h1
    rw [← h1]; rfl
theorem star_dT {d : Addr} {kvs : List (List L2.Key × V)} {E : Value → Shared → Prop} {Q : List Value → Shared → Prop} (hc : X.calm = true) (I : Inv X pins σ H s) (hd : Rd H d (.dT kvs)) (q : ∀ us bs s', Inv X pins σ H s' → IsKeys H kvs bs → Vals (bs.map V.ref) us → Q us s') :
    PySem.W.StarOf (model X.prog X.w) X.A E (.ref d) Q s := by
  obtain ⟨z, lo, ks, pr, o, es, ep, ho, hx, hdt, he, _⟩ := (show ObjOk X.prog X.w H s.heap d (.dT kvs) from hd.ok I.hok)
  have n1 : es.size = ks.length := size_of_entries he
  have n2 : kvs.length = ks.length := Paired.length pr
  have c : wpAny (model X.prog X.w) X.A (collect (.ref d)) Q E s := by
    refine collect_src (kdl_raw lo hx hdt) (I.ok.hd hc) ho (by omega) fun h' tk acc kp it => ?_
    refine q acc.toList (ks.map fun x => x.2.1) _ (I.kept (t' := tk) kp) (isKeys_of pr) ?_
    rw [laid_keys (fun j => entry_at he j) it.1 it.2]
    exact vals_refs _
  unfold PySem.W.StarOf notIterableAtAll
  exact wpAny_bind (wpAny_specialOf (T := "dict") ⟨o, ho, hx.1⟩ PySem.F.slot_dict_iter.lookup (wpAny_pure ⟨rfl, c⟩))
/-- *d, ..: the keys of a dict of tuples, as they were laid -/
def tStarT (te : TE) (t : TA) : TA := fun σ H Q => te σ H fun y H1 => ∃ d kvs, y = .ref d ∧ Rd H1 d (.dT kvs) ∧ ∀ bs, IsKeys H1 kvs bs → t σ H1 fun vs H2 => Q (bs.map V.ref ++ vs) H2
theorem pa_starT {e : Expr} {es : List Expr} {p : Pos} {te : TE} {t : TA} (hc : X.calm = true) (he : PE X e te) (hr : PA X es t) (hs : starEach (.Starred e p :: es) X.env = (true, eval e X.env) :: starEach es X.env := by rfl) : PA X (.Starred e p :: es) (tStarT te t) := by
  refine ⟨fun at_ pn s0 σ0 H0 R I0 h => ?_⟩
  refine PySem.W.items_star (thn (he.run pn s0 σ0 H0 _ I0 h) fun u s1 ⟨y, H1, I1, ry, d, kvs, e1, hd, k⟩ => ?_) hs
  subst e1
  cases (show u = Value.ref d from ry)
  refine star_dT hc I1 hd fun us bs s2 I2 ik rv => ?_
  exact thn (hr.run at_ pn s2 σ0 H1 _ I2 (k bs ik)) fun ws s3 ⟨vs, H3, I3, r3, q3⟩ => ⟨bs.map V.ref ++ vs, H3, I3, rv.append r3, q3⟩
end
end My

set_option Elab.async false
set_option linter.all false
set_option maxRecDepth 100000
set_option maxHeartbeats 4000000
/-! {k: v for ..}, the keys tuples. -/
namespace My
open PySem PySem.Spec PyProof.Rows L2
section
variable {X : Cx} {pins : List (Addr × Obj)} {σ : L2.St} {H : Hp} {s : Shared}
theorem put_dT {E : Value → Shared → Prop} {D b : Addr} {kvs : List (List L2.Key × V)} {k : List L2.Key} {v : V} {r : Value} {Q : Unit → Shared → Prop} (hu : X.A.units + 1 < cLine) (I : Inv X pins σ H s) (eD : H D = some (.dT kvs)) (eb : H b = some (.tup (k.map kV))) (lt : kvs.length < sizeLine)
    (rv : RelV v r) (q : ∀ s', Inv X pins σ (L2.upd H D (.dT (putK kvs k v))) s' → Q () s') : wpAny (model X.prog X.w) X.A (dictSet D (.ref b) r) Q E s := by
  obtain ⟨z, lo, xs, rel, dd⟩ := dt_of I.hok eD
  have n1 : xs.length ≤ sizeLine := by
    have := Paired.length rel
    omega
  have n2 := length_putK kvs k v
  refine wpAny_dictSet_heap (hsz := n1) ?room (key_of I.hok eb) dd fun h' dd' hs => q _ ?_
  case room => exact (show X.A.units < cLine by omega)
  obtain ⟨o, es, ep, h1, h2, h3, h4, _, h5⟩ := dd'
  refine d_write I (by rw [eD]; exact True.intro) hs ⟨o, h1⟩ ⟨by omega, lo, _, (rel.put k eb rv).keeps fun c ys ec => ?_, o, es, ep, h1, h2, h3, h4, h5⟩
  rw [upd_ne (ne_of ec eD nofun)]; exact ec
end
section
variable {X : Cx}
/-- {k: v for ..}: D the new dict, its keys tuples that are laid -/
def tDcT (wi : TI) (g : TG) (tt : TT) (tk tv : TE) (vs : List Nat) : TE := fun σ H Q => wi σ H fun J H1 => ∀ D, H1 D = none → ∃ W : Nat → Nat → Hp → Prop, (∃ m, W 0 m (L2.upd H1 D (.dT []))) ∧ ∀ i m G, W i m G →
  (J.stop i G ∧ Q (.ref D) G) ∨ (J.go i G ∧ ∃ N : Hp → Prop, (∀ G', N G' → ∃ m', m' < m ∧ W (i + 1) m' G') ∧ ∀ x G', J.yld i G x G' → g x (wipe σ vs) G' fun τ G2 => wipe τ vs = wipe σ vs ∧ tt τ G2 fun yes G3 =>
    if yes = true then tk τ G3 fun y G4 => tv τ G4 fun z G5 => ∃ kvs k b, y = .ref b ∧ G5 b = some (.tup (k.map kV)) ∧ G5 D = some (.dT kvs) ∧ kvs.length < sizeLine ∧ N (L2.upd G5 D (.dT (putK kvs k z))) else N G3)
theorem dcT_core {pins : List (Addr × Obj)} {s : Shared} {σ : L2.St} {H : Hp} {Q : VK} {kx vx tg iter : Expr} {ifs : List Expr} {scope : Scope} {own : List (Str × Nat)} {pos pos2 : Pos} {wi : TI} {g : TG} {tt : TT} {tk tv : TE} {use : Option (Value → Sem Unit)} {Qf : Value → Shared → Prop} (hu : X.A.units + 1 < cLine) (hc : X.calm = true) (hN : X.N.Nodup) (I : Inv X pins σ H s) (hi : PI X tg iter wi) (ok : BlkOk X.N X.env.scope scope own)
    (hg : ∀ (t : Shared) (G : Hp) (C : Addr) (cl : List (Str × Addr)) (fp : List Addr), PG (X.blk t G scope (compEnvC scope cl C X.env) fp) tg g)
    (ht : ∀ (t : Shared) (G : Hp) (C : Addr) (cl : List (Str × Addr)) (fp : List Addr), PTs (X.blk t G scope (compEnvC scope cl C X.env) fp) ifs tt)
    (hk : ∀ (t : Shared) (G : Hp) (C : Addr) (cl : List (Str × Addr)) (fp : List Addr), PE (X.blk t G scope (compEnvC scope cl C X.env) fp) kx tk)
    (hv : ∀ (t : Shared) (G : Hp) (C : Addr) (cl : List (Str × Addr)) (fp : List Addr), PE (X.blk t G scope (compEnvC scope cl C X.env) fp) vx tv)
    (hs : ∀ x, foldedSetIterable iter X.env x = pure x) (q0 : tDcT wi g tt tk tv (own.map (·.2)) σ H Q)
    (ret : ∀ D C s' m H', Inv X pins σ H' s' → Q (.ref D) H' → s'.heap.Ns C m → FpOk X pins H' C → compPost (model X.prog X.w) X.A X.xe use Qf (.ref D) C (.ok .next) s') :
    wpAny (model X.prog X.w) X.A (comprehension (.DictComp kx vx [⟨tg, iter, ifs, 0⟩] scope pos) scope X.env pos2 newDict false (eval iter X.env) use) Qf X.xe s := by
  have cells : ∀ y ∈ scope.names, y.2 = .free → ∃ c, X.env.cells.lookup y.1 = some c := fun y m e => (ok.free y m e).elim (fun z => I.ok.has _ (.inl z)) fun z => I.ok.has _ (.inr z)
  refine wpAny_comprehension_free (use := use) rfl hs (closure_ok cells) ok.kind (fun y m e => (by rw [ok.uniq y m, e])) (thn (hi.run pins s σ H _ I q0) fun _ s1 q1 => thn q1 fun _ s2 q2 => ?_)
  obtain ⟨it, fp, tn, J, H2, rfl, I2, T, st2, f2, q⟩ := q2
  refine wpAny_newObj_type (newEnv_comp ?_)
  obtain ⟨D, eD⟩ : ∃ D, D = s2.heap.objs.size := ⟨_, rfl⟩
  obtain ⟨W, ⟨m0, w0⟩, turn⟩ := q D (I2.hok.fresh (Nat.le_of_eq eD.symm))
  clear q
  obtain ⟨s3, e3⟩ : ∃ s3, s3 = ({ s2 with heap := s2.heap.push { cls := .type "dict", data := .dict #[] } } : Shared) := ⟨_, rfl⟩
  have grown : ∀ b o, s2.heap.get? b = some o → s3.heap.get? b = some o := fun b o e => by rw [e3]; exact Heap.get?_push_of_some _ e
  have more : s2.heap.objs.size < s3.heap.objs.size := by rw [e3, Heap.size_push]; exact Nat.lt_succ_self _
  have I3 : Inv X pins σ (L2.upd H2 D (.dT [])) s3 := by
    rw [e3, eD]
    exact I2.laid (t' := s2.toks) (fun _ _ e => Heap.get?_push_of_some _ e) (Nat.le_refl _) (dt_empty s2.heap I2.big)
  have below : ∀ b ∈ fp, b < s2.heap.objs.size := fun b m => (T.obj _ _ st2 b m).elim fun o z => Heap.lt_size z.1
  have f3 : ∀ b ∈ fp, FpOk X pins (L2.upd H2 D (.dT [])) b ∧ b < s3.heap.objs.size := fun b m => by
    have lt := below b m
    refine ⟨⟨?_, (f2 b m).2⟩, Nat.lt_trans lt more⟩
    rw [upd_ne (fun z => by rw [z, eD] at lt; exact Nat.lt_irrefl _ lt)]
    exact (f2 b m).1
  have none3 : ∀ b ∈ fp, (L2.upd H2 D (.dT [])) b = none := fun b m => (f3 b m).1.1
  have I4 := block_start I3 ok hN f3
  have st3 : tn 0 s3.heap := T.keep _ _ _ st2 fun b _ o e => grown b o e
  have pG := hg s3 (L2.upd H2 D (.dT [])) s3.heap.objs.size (cellsFrom (s3.heap.objs.size + 1) scope.names (cloFrom X.env.cells scope.names [])) fp
  have pT := ht s3 (L2.upd H2 D (.dT [])) s3.heap.objs.size (cellsFrom (s3.heap.objs.size + 1) scope.names (cloFrom X.env.cells scope.names [])) fp
  have pK := hk s3 (L2.upd H2 D (.dT [])) s3.heap.objs.size (cellsFrom (s3.heap.objs.size + 1) scope.names (cloFrom X.env.cells scope.names [])) fp
  have pV := hv s3 (L2.upd H2 D (.dT [])) s3.heap.objs.size (cellsFrom (s3.heap.objs.size + 1) scope.names (cloFrom X.env.cells scope.names [])) fp
  obtain ⟨ce, ece⟩ : ∃ ce, ce = compEnvC scope (cellsFrom (s3.heap.objs.size + 1) scope.names (cloFrom X.env.cells scope.names [])) s3.heap.objs.size X.env := ⟨_, rfl⟩
  obtain ⟨H3, eH3⟩ : ∃ H3, H3 = L2.upd H2 D (.dT []) := ⟨_, rfl⟩
  obtain ⟨s4, e4⟩ : ∃ s4, s4 = ({ s3 with heap := pushCells (s3.heap.push { cls := .type "dict", data := .dict #[] }) scope.names } : Shared) := ⟨_, rfl⟩
  have st4 : tn 0 s4.heap := T.keep _ _ _ st3 fun b _ o e => by rw [e4]; exact pushCells_keeps _ _ _ _ (Heap.get?_push_of_some _ e)
  rw [← ece, ← eH3] at pG pT pK pV
  rw [← ece, ← eH3, ← e4] at I4
  rw [← eH3] at I3 w0 none3 f3
  have loc : ce.locals = s3.heap.objs.size := by rw [ece]; rfl
  have still : ∀ {τ : L2.St} {G : Hp} {t : Shared}, Inv (X.blk s3 H3 scope ce fp) [] τ G t → (∀ b ∈ fp, G b = none) → ∀ b ∈ fp, FpOk (X.blk s3 H3 scope ce fp) [] G b := fun {τ G t} J' n' b m =>
    ⟨n' b m, (J'.ok.exf b m).1, J'.ok.exfs b m, .inl m, fun x c e => (J'.ok.exf b m).2 x c e, fun z hz => nomatch (show z ∈ ([] : List (Addr × Obj)) ++ [] from hz)⟩
  have loop : codeAny (model X.prog X.w) X.A (.compLoop (.DictComp kx vx [⟨tg, iter, ifs, 0⟩] scope pos) 0 (.ref it) (.ref D) ce) (compPost (model X.prog X.w) X.A X.xe use Qf (.ref D) s3.heap.objs.size) s4 := by
    refine compLoop_anyD (fun n t => ∃ i G, Inv (X.blk s3 H3 scope ce fp) [] (wipe σ (own.map (·.2))) G t ∧ tn i t.heap ∧ (∀ b ∈ fp, G b = none) ∧ W i n G) ?_ m0 ⟨0, H3, I4, st4, none3, w0⟩
    rintro n s5 ⟨i, H5, I5, st5, n5, w5⟩
    rcases turn i n H5 w5 with ⟨stop, qq⟩ | ⟨go, N, dec, step⟩
    · refine thnF (T.done (X.blk s3 H3 scope ce fp) rfl rfl rfl hc i [] s5 _ H5 (fun _ _ => False) I5 (still I5 n5) st5 stop) fun r s6 ⟨er, I6⟩ => ?_
      subst er
      have home : Inv X pins σ H5 s6 := I3.call' (ch := fp) I6.os I6.base I6.hok I6.bare fun b m => ⟨(f3 b m).1.2.2.2.1, (f3 b m).1.2.1, (f3 b m).1.2.2.2.2.1, (f3 b m).1.2.2.2.2.2⟩
      have free : H5 s3.heap.objs.size = none := by rw [← loc]; exact I6.free
      obtain ⟨m, ns, _⟩ := I6.loc
      have ns : s6.heap.Ns ce.locals m := ns
      rw [loc] at ns
      exact ret D s3.heap.objs.size s6 m H5 home qq ns (I3.fpOk (Nat.le_refl _) free)
    · refine thnF (T.item (X.blk s3 H3 scope ce fp) rfl rfl rfl hc i [] s5 _ H5 (fun _ _ => False) I5 (still I5 n5) st5 go) fun r s6 ⟨u, er, q6⟩ => ?_
      subst er
      refine thnF q6 fun _ s7 ⟨x, H7, I7, rx, yl, st7, n7⟩ => ?_
      have held := I7.pinned (still I7 n7) (T.obj _ _ st7)
      refine thnF (pG.run _ s7 _ H7 x u _ held rx (step x H7 yl)) fun _ s8 ⟨τ, H8, I8, ew, q8⟩ => ?_
      refine thnF (pT.run _ s8 τ H8 _ I8 q8) fun yes s9 ⟨H9, I9, q9⟩ => ?_
      have ended : ∀ {t : Shared} {G : Hp}, Inv (X.blk s3 H3 scope ce fp) ([] ++ pinsAt fp s7.heap) τ G t → N G → ∃ m, m < n ∧ ∃ i G, Inv (X.blk s3 H3 scope ce fp) [] (wipe σ (own.map (·.2))) G t ∧ tn i t.heap ∧ (∀ b ∈ fp, G b = none) ∧ W i m G := fun {t G} J' nx => by
        obtain ⟨m', lt, w'⟩ := dec G nx
        have here : ∀ b ∈ fp, ∀ ob, s7.heap.get? b = some ob → t.heap.get? b = some ob ∧ G b = none := fun b m ob e => by
          have z := J'.pin (b, ob) (List.mem_append_right _ (List.mem_append_right _ (mem_pinsAt m e)))
          exact ⟨z.1, z.2.1⟩
        have len : (wipe σ (own.map (·.2))).length = τ.length := by rw [← ew, wipe_length]
        refine ⟨m', lt, i + 1, G, (J'.unpinned (pins := [])).weak len (fun j v e => ?_), T.keep _ _ _ st7 (fun b m ob e => (here b m ob e).1), fun b m => ?_, w'⟩
        · rw [← ew] at e; exact (wipe_some e).1
        · obtain ⟨ob, e, _⟩ := T.obj _ _ st7 b m
          exact (here b m ob e).2
      cases yes with
      | false =>
        rw [if_neg Bool.false_ne_true] at q9 ⊢
        exact ended I9 q9
      | true =>
        rw [if_pos rfl] at q9 ⊢
        refine thnF (pK.run _ s9 τ H9 _ I9 q9) fun z1 sA ⟨y, HA, IA, ry, qA⟩ => ?_
        refine thnF (pV.run _ sA τ HA _ IA qA) fun z2 sB ⟨z, HB, IB, rz, kvs, k, b, ey, eb, eD', lt, nx⟩ => ?_
        subst ey
        cases (show z1 = Value.ref b from ry)
        exact put_dT (X := X.blk s3 H3 scope ce fp) hu IB eD' eb lt rz fun sC IC => ended IC nx
  have goal_ := codeAny_compStart_dict loop (T.self X.A 0 _ _ _ st4 loop)
  rw [e4, ece, e3, eD] at goal_
  rw [e3, eD] at loop
  exact goal_
theorem pe_dcT {kx vx tg iter : Expr} {ifs : List Expr} {scope : Scope} {own : List (Str × Nat)} {pos : Pos} {wi : TI} {g : TG} {tt : TT} {tk tv : TE} (hu : X.A.units + 1 < cLine) (hc : X.calm = true) (hN : X.N.Nodup) (hi : PI X tg iter wi) (ok : BlkOk X.N X.env.scope scope own)
    (hg : ∀ (t : Shared) (G : Hp) (C : Addr) (cl : List (Str × Addr)) (fp : List Addr), PG (X.blk t G scope (compEnvC scope cl C X.env) fp) tg g)
    (ht : ∀ (t : Shared) (G : Hp) (C : Addr) (cl : List (Str × Addr)) (fp : List Addr), PTs (X.blk t G scope (compEnvC scope cl C X.env) fp) ifs tt)
    (hk : ∀ (t : Shared) (G : Hp) (C : Addr) (cl : List (Str × Addr)) (fp : List Addr), PE (X.blk t G scope (compEnvC scope cl C X.env) fp) kx tk)
    (hv : ∀ (t : Shared) (G : Hp) (C : Addr) (cl : List (Str × Addr)) (fp : List Addr), PE (X.blk t G scope (compEnvC scope cl C X.env) fp) vx tv)
    (hs : ∀ x, foldedSetIterable iter X.env x = pure x := by intro _; rfl) : PE X (.DictComp kx vx [⟨tg, iter, ifs, 0⟩] scope pos) (tDcT wi g tt tk tv (own.map (·.2))) := by
  refine ⟨fun pins s σ H Q I q0 => ?_⟩
  rw [arm_eval_DictComp]
  refine dcT_core (use := none) (Qf := EP X pins σ Q) hu hc hN I hi ok hg ht hk hv hs q0 fun D C s6 m H5 home qq ns f => ⟨m, ns, fun h7 sb => ?_⟩
  obtain ⟨a0, a1, _, a3, a4, a5⟩ := f
  exact ⟨.ref D, H5, home.turned (t' := s6.toks) (fun b o hb e => (sb.2 b hb).trans e) a0 a1 a3 a4 a5, rfl, qq⟩
/-- y = {..}, on one row -/
theorem ps_setDcT {i : Nat} {y : Str} {py : Pos} {kx vx tg iter : Expr} {ifs : List Expr} {scope : Scope} {own : List (Str × Nat)} {pos spos : Pos} {wi : TI} {g : TG} {tt : TT} {tk tv : TE} (hu : X.A.units + 1 < cLine) (hc : X.calm = true) (hN : X.N.Nodup) (hy : X.N[i]? = some y) (hyl : X.env.scope.names.lookup y = some .local)
    (hsw : swapsWith (.DictComp kx vx [⟨tg, iter, ifs, 0⟩] scope pos) (some (.Name y py)) spos.line X.env = pure true) (hi : PI X tg iter wi) (ok : BlkOk X.N X.env.scope scope own)
    (hg : ∀ (t : Shared) (G : Hp) (C : Addr) (cl : List (Str × Addr)) (fp : List Addr), PG (X.blk t G scope (compEnvC scope cl C X.env) fp) tg g)
    (ht : ∀ (t : Shared) (G : Hp) (C : Addr) (cl : List (Str × Addr)) (fp : List Addr), PTs (X.blk t G scope (compEnvC scope cl C X.env) fp) ifs tt)
    (hk : ∀ (t : Shared) (G : Hp) (C : Addr) (cl : List (Str × Addr)) (fp : List Addr), PE (X.blk t G scope (compEnvC scope cl C X.env) fp) kx tk)
    (hv : ∀ (t : Shared) (G : Hp) (C : Addr) (cl : List (Str × Addr)) (fp : List Addr), PE (X.blk t G scope (compEnvC scope cl C X.env) fp) vx tv)
    (hs : ∀ x, foldedSetIterable iter X.env x = pure x := by intro _; rfl) : PS X (.Assign [.Name y py] (.DictComp kx vx [⟨tg, iter, ifs, 0⟩] scope pos) spos) (tAsg (tDcT wi g tt tk tv (own.map (·.2))) (gName i)) := by
  refine ⟨fun pins s σ H D I q0 => ?_⟩
  rw [exec_Assign_Name_used _ _ _ _ hsw]
  refine wpAny_bind (wpAny_standAt (wpAny_bind ?_))
  show wpAny _ X.A (do let _ ← comprehension (.DictComp kx vx [⟨tg, iter, ifs, 0⟩] scope pos) scope X.env (firstIterPos [⟨tg, iter, ifs, 0⟩] pos) newDict false (eval iter X.env) (some (assign (.Name y py) X.env))) _ _ s
  have q0 : tDcT wi g tt tk tv (own.map (·.2)) σ H (fun x H1 => gName i x σ H1 D.nx) := q0
  refine wpAny_bind (thn (dcT_core (Qf := fun _ t => SP X pins D .next t) hu hc hN I hi ok hg ht hk hv hs q0 fun L C s6 m H5 home qq ns f => ?_) fun _ _ z => wpAny_pure (wpAny_pure z))
  show wpAny _ _ (assign (.Name y py) X.env (.ref L)) _ _ _
  refine wpAny_assign_Name (store_ok2 (v := V.ref L) home hN hy (.inl hyl) rfl (fun s2 I2 ⟨a, sb, ha⟩ => ?_) (.inr hyl))
  obtain ⟨a0, a1, _, a3, a4, a5⟩ := f
  have other : C ≠ a := by
    rcases ha with z | z
    · rw [z]; exact a1
    · exact fun e => a4 y a z e.symm
  exact ⟨m, ns.sameBut sb other, fun h3 sb3 => ⟨_, H5, I2.turned (t' := s2.toks) (fun b o hb e => (sb3.2 b hb).trans e) a0 a1 a3 a4 a5, qq⟩⟩
theorem sw_dc {kx vx : Expr} {gs : List Comprehension} {scope : Scope} {pos py : Pos} {y : Str} {l : Nat} {env : Env} (hk : env.scope.kind = .function) (hy : env.scope.names.lookup y = some .local) (hl : (py.line == pos.line) = true)
    (ha : (scope.names.any fun (n, k) => n == y && (k == .local || k == .cell)) = false) : swapsWith (.DictComp kx vx gs scope pos) (some (.Name y py)) l env = pure true := by
  have hb : env.blockKind = .function := by unfold Env.blockKind; rw [hk]; rfl
  have e : env.kindOf y = some .local := hy
  unfold swapsWith
  simp only [hb, e, ha, Expr.pos, hl]
  rfl
end
end My
namespace My
open PySem PySem.Spec PyProof.Rows L2
/-- a dict comprehension over a list or a tuple -/
theorem dcT_sq {K : PySem.W.Frag} {a : Addr} {xs : List V} {g : TG} {tt : TT} {tk tv : TE} {vs : List Nat} {σ : L2.St} {H1 : Hp} {Qd : Addr → Hp → Prop} (hq : SqQ K H1 a xs)
    (h : ∀ D, H1 D = none → ∃ Pv : Nat → Hp → Prop, Pv 0 (L2.upd H1 D (.dT [])) ∧ (∀ i G, Pv i G → Same H1 G) ∧
      (∀ i x G, xs[i]? = some x → Pv i G → g x (wipe σ vs) G fun τ G2 => wipe τ vs = wipe σ vs ∧ tt τ G2 fun yes G3 =>
        if yes = true then tk τ G3 fun y G4 => tv τ G4 fun z G5 => ∃ kvs k b, y = .ref b ∧ G5 b = some (.tup (k.map kV)) ∧ G5 D = some (.dT kvs) ∧ kvs.length < sizeLine ∧ Pv (i + 1) (L2.upd G5 D (.dT (putK kvs k z))) else Pv (i + 1) G3) ∧ ∀ G, Pv xs.length G → Qd D G) :
    ((∃ xs, SqL K H1 a xs) ∧ ∀ D, H1 D = none → ∃ W : Nat → Nat → Hp → Prop, (∃ m, W 0 m (L2.upd H1 D (.dT []))) ∧ ∀ i m G, W i m G →
      ((Itl K a).stop i G ∧ Qd D G) ∨ ((Itl K a).go i G ∧ ∃ N : Hp → Prop, (∀ G', N G' → ∃ m', m' < m ∧ W (i + 1) m' G') ∧ ∀ x G', (Itl K a).yld i G x G' → g x (wipe σ vs) G' fun τ G2 => wipe τ vs = wipe σ vs ∧ tt τ G2 fun yes G3 =>
        if yes = true then tk τ G3 fun y G4 => tv τ G4 fun z G5 => ∃ kvs k b, y = .ref b ∧ G5 b = some (.tup (k.map kV)) ∧ G5 D = some (.dT kvs) ∧ kvs.length < sizeLine ∧ N (L2.upd G5 D (.dT (putK kvs k z))) else N G3)) ∨
    ((∃ xs, SqT K H1 a xs) ∧ ∀ D, H1 D = none → ∃ W : Nat → Nat → Hp → Prop, (∃ m, W 0 m (L2.upd H1 D (.dT []))) ∧ ∀ i m G, W i m G →
      ((Itt K a).stop i G ∧ Qd D G) ∨ ((Itt K a).go i G ∧ ∃ N : Hp → Prop, (∀ G', N G' → ∃ m', m' < m ∧ W (i + 1) m' G') ∧ ∀ x G', (Itt K a).yld i G x G' → g x (wipe σ vs) G' fun τ G2 => wipe τ vs = wipe σ vs ∧ tt τ G2 fun yes G3 =>
        if yes = true then tk τ G3 fun y G4 => tv τ G4 fun z G5 => ∃ kvs k b, y = .ref b ∧ G5 b = some (.tup (k.map kV)) ∧ G5 D = some (.dT kvs) ∧ kvs.length < sizeLine ∧ N (L2.upd G5 D (.dT (putK kvs k z))) else N G3)) := by
  have lt_of : ∀ {i : Nat} {x : V}, xs[i]? = some x → i < xs.length := fun e => (List.getElem?_eq_some_iff.mp e).1
  rcases hq with hq | hq
  · refine .inl ⟨⟨xs, hq⟩, fun D hD => ?_⟩
    obtain ⟨Pv, h0, hs, st, en⟩ := h D hD
    refine ⟨fun i m G => m = xs.length - i ∧ i ≤ xs.length ∧ Pv i G, ⟨_, rfl, Nat.zero_le _, h0⟩, ?_⟩
    rintro i m G ⟨rfl, le, p⟩
    have here := hq.ext (hs i G p)
    by_cases lt : i < xs.length
    · refine .inr ⟨⟨xs, xs[i], here, by simp [lt]⟩, Pv (i + 1), fun G' p' => ⟨xs.length - (i + 1), by omega, rfl, lt, p'⟩, fun x G' y => ?_⟩
      obtain ⟨e, y⟩ := y
      subst e
      exact st i x _ (y xs here) p
    · obtain rfl : i = xs.length := by omega
      exact .inl ⟨⟨xs, here, Nat.le_refl _⟩, en G p⟩
  · refine .inr ⟨⟨xs, hq⟩, fun D hD => ?_⟩
    obtain ⟨Pv, h0, hs, st, en⟩ := h D hD
    refine ⟨fun i m G => m = xs.length - i ∧ i ≤ xs.length ∧ Pv i G, ⟨_, rfl, Nat.zero_le _, h0⟩, ?_⟩
    rintro i m G ⟨rfl, le, p⟩
    have here := hq.ext (hs i G p)
    by_cases lt : i < xs.length
    · refine .inr ⟨⟨xs, xs[i], here, by simp [lt]⟩, Pv (i + 1), fun G' p' => ⟨xs.length - (i + 1), by omega, rfl, lt, p'⟩, fun x G' y => ?_⟩
      obtain ⟨e, y⟩ := y
      subst e
      exact st i x _ (y xs here) p
    · obtain rfl : i = xs.length := by omega
      exact .inl ⟨⟨xs, here, Nat.le_refl _⟩, en G p⟩
end My

set_option Elab.async false
set_option linter.all false
set_option maxRecDepth 100000
set_option maxHeartbeats 4000000
/-! sorted(xs), xs a list of alike data (tuples of a text and numbers, of any lengths, too). -/
namespace My
open PySem PySem.Spec PyProof.Rows L2
/-- the items of xs, with what they are as data, in order -/
def srtD (xs : List V) (ds : List PyData) : List (V × PyData) := (xs.zip ds).mergeSort (PySem.W.dataLe false fun b => b.2)
def rSortedD (K : PySem.W.Frag) : List V → Hp → VK → Prop := fun vs H Q => ∃ (a : Addr) (xs : List V) (ds : List PyData), vs = [.ref a] ∧ SqL K H a xs ∧ DpAll K H xs ds ∧ PySem.W.AllAlike ds ∧ PySem.W.Sortable ds ∧ (∀ d ∈ ds, d.depth ≤ 60) ∧
  ∀ p, H p = none → Q (.ref p) (L2.upd H p (.lst ((srtD xs ds).map (·.1))))
theorem dpAll_len {K : PySem.W.Frag} {H : Hp} : ∀ {xs : List V} {ds : List PyData}, DpAll K H xs ds → xs.length = ds.length
  | _, _, .nil => rfl
  | _, _, .cons _ h => by rw [List.length_cons, List.length_cons, dpAll_len h]
section
variable {X : Cx} {pins : List (Addr × Obj)} {σ : L2.St} {H : Hp} {s : Shared}
theorem each_rel : ∀ {xs : List V} {ds : List PyData} {vs : List Value}, Vals xs vs → xs.length = ds.length → PySem.W.EachIs (fun v (b : V × PyData) => RelV b.1 v) vs (xs.zip ds)
  | [], [], _, .nil, _ => .nil
  | [], _ :: _, _, .nil, h => by cases h
  | x :: xs, [], _, .cons _ _, h => by cases h
  | x :: xs, d :: ds, _, .cons r rv, h => .cons r (each_rel rv (by simpa using h))
theorem each_reads (I : Inv X pins σ H s) : ∀ {xs : List V} {ds : List PyData} {vs : List Value}, Vals xs vs → DpAll X.K H xs ds → PySem.W.EachIs (fun v (b : V × PyData) => ∃ as, Reads s.heap v b.2 as) vs (xs.zip ds)
  | [], [], _, .nil, _ => .nil
  | x :: xs, d :: ds, _, .cons r rv, .cons h1 h2 => .cons (Dp.reads I d x _ h1 r) (each_reads I rv h2)
theorem vals_of_each : ∀ {vs : List Value} {bs : List (V × PyData)}, PySem.W.EachIs (fun v (b : V × PyData) => RelV b.1 v) vs bs → Vals (bs.map (·.1)) vs
  | _, _, .nil => .nil
  | _, _, .cons r h => .cons r (vals_of_each h)
theorem cr_sortedD (hu : X.A.units + 64 < cLine) : CallR X (.builtin "sorted") (rSortedD X.K) := by
  intro pins s σ H vs us Q I r h
  obtain ⟨a, xs, ds, rfl, hs, hd, hal, hk, hdp, q⟩ := h
  obtain ⟨its, rv, hl, hz⟩ := I.list hs
  obtain ⟨u, rfl, ru⟩ := vals1 r
  obtain rfl : u = Value.ref a := ru
  have hlen := dpAll_len hd
  have em : (xs.zip ds).map (fun b => b.2) = ds := by
    have := List.map_snd_zip (l₁ := xs) (l₂ := ds) (by omega)
    exact this
  have lz : (xs.zip ds).length = xs.length := by rw [List.length_zip, hlen, Nat.min_self]
  refine PySem.W.sorted_data (bs := xs.zip ds) (enc := fun b => b.2) (R := fun v (b : V × PyData) => RelV b.1 v) hl.isList (each_rel rv hlen) (each_reads I rv hd) (by rw [em]; exact hal) (by rw [em]; exact hk) (by rw [lz]; exact hz) (fun b hb => ?_) fun out ho eo => ?_
  · have : b.2 ∈ ds := by rw [← em]; exact List.mem_map.mpr ⟨b, hb, rfl⟩
    have := hdp _ this
    omega
  · obtain ⟨en, hen⟩ := sortedAll_at s.heap its out.toArray
    refine ⟨.ref (s.heap.objs.size + 1), L2.upd H (s.heap.objs.size + 1) (.lst ((srtD xs ds).map (·.1))), I.laid (t' := s.toks) (fun b o e => sortedAll_old e) (Nat.le_succ _) ⟨?_, out, en, vals_of_each eo, hen⟩, rfl, q _ (I.hok.fresh (Nat.le_succ _))⟩
    unfold srtD
    rw [List.length_map, List.length_mergeSort, lz]; exact hz
end
/-- what is sorted is what was there, in another order -/
theorem srtD_perm (xs : List V) (ds : List PyData) : (srtD xs ds).Perm (xs.zip ds) := List.mergeSort_perm _ _
end My

set_option Elab.async false
set_option linter.all false
set_option maxRecDepth 100000
set_option maxHeartbeats 2000000
namespace My
open PySem PySem.Spec PyProof.Rows L2
def topS (i : Nat) : Stmt := PySem.Challenge.pw_spoiltline_k42_steady_decoders.main.body.getD i (.Pass ⟨0, 0, 0, 0⟩)
abbrev s_is_integer : Stmt := topS 4
abbrev N_is_integer : List Str := ["value"]
theorem sc_is_integer : FnScope N_is_integer ["value"] (defScope s_is_integer) := ⟨rfl, rfl, rfl, by decide +kernel, rfl, by decide +kernel, by decide +kernel⟩
abbrev s_is_count : Stmt := topS 5
abbrev N_is_count : List Str := ["value"]
theorem sc_is_count : FnScope N_is_count ["value"] (defScope s_is_count) := ⟨rfl, rfl, rfl, by decide +kernel, rfl, by decide +kernel, by decide +kernel⟩
abbrev s_is_list : Stmt := topS 6
abbrev N_is_list : List Str := ["value"]
theorem sc_is_list : FnScope N_is_list ["value"] (defScope s_is_list) := ⟨rfl, rfl, rfl, by decide +kernel, rfl, by decide +kernel, by decide +kernel⟩
abbrev s_is_text : Stmt := topS 7
abbrev N_is_text : List Str := ["value"]
theorem sc_is_text : FnScope N_is_text ["value"] (defScope s_is_text) := ⟨rfl, rfl, rfl, by decide +kernel, rfl, by decide +kernel, by decide +kernel⟩
abbrev s_is_word : Stmt := topS 8
abbrev N_is_word : List Str := ["value"]
theorem sc_is_word : FnScope N_is_word ["value"] (defScope s_is_word) := ⟨rfl, rfl, rfl, by decide +kernel, rfl, by decide +kernel, by decide +kernel⟩
abbrev s_is_number_of_signs : Stmt := topS 9
abbrev N_is_number_of_signs : List Str := ["value"]
theorem sc_is_number_of_signs : FnScope N_is_number_of_signs ["value"] (defScope s_is_number_of_signs) := ⟨rfl, rfl, rfl, by decide +kernel, rfl, by decide +kernel, by decide +kernel⟩
abbrev s_is_below : Stmt := topS 10
abbrev N_is_below : List Str := ["value", "limit"]
theorem sc_is_below : FnScope N_is_below ["value", "limit"] (defScope s_is_below) := ⟨rfl, rfl, rfl, by decide +kernel, rfl, by decide +kernel, by decide +kernel⟩
abbrev s_are_steps : Stmt := topS 21
abbrev N_are_steps : List Str := ["value", "signs", "row"]
theorem sc_are_steps : FnScope N_are_steps ["value", "signs"] (defScope s_are_steps) := ⟨rfl, rfl, rfl, by decide +kernel, rfl, by decide +kernel, by decide +kernel⟩
abbrev s_are_entries : Stmt := topS 22
abbrev N_are_entries : List Str := ["value", "signs", "states", "entry"]
theorem sc_are_entries : FnScope N_are_entries ["value", "signs", "states"] (defScope s_are_entries) := ⟨rfl, rfl, rfl, by decide +kernel, rfl, by decide +kernel, by decide +kernel⟩
abbrev s_is_step_decoders : Stmt := topS 23
abbrev N_is_step_decoders : List Str := ["value", "states"]
theorem sc_is_step_decoders : FnScope N_is_step_decoders ["value", "states"] (defScope s_is_step_decoders) := ⟨rfl, rfl, rfl, by decide +kernel, rfl, by decide +kernel, by decide +kernel⟩
abbrev s_are_ends : Stmt := topS 25
abbrev N_are_ends : List Str := ["value", "states", "end"]
theorem sc_are_ends : FnScope N_are_ends ["value", "states"] (defScope s_are_ends) := ⟨rfl, rfl, rfl, by decide +kernel, rfl, by decide +kernel, by decide +kernel⟩
abbrev s_is_kind : Stmt := topS 28
abbrev N_is_kind : List Str := ["value", "signs"]
theorem sc_is_kind : FnScope N_is_kind ["value", "signs"] (defScope s_is_kind) := ⟨rfl, rfl, rfl, by decide +kernel, rfl, by decide +kernel, by decide +kernel⟩
abbrev s_is_step_passings : Stmt := topS 29
abbrev N_is_step_passings : List Str := ["value", "signs", "name", "told", "sign"]
theorem sc_is_step_passings : FnScope N_is_step_passings ["value", "signs"] (defScope s_is_step_passings) := ⟨rfl, rfl, rfl, by decide +kernel, rfl, by decide +kernel, by decide +kernel⟩
abbrev s_is_free : Stmt := topS 31
abbrev N_is_free : List Str := ["step"]
theorem sc_is_free : FnScope N_is_free ["step"] (defScope s_is_free) := ⟨rfl, rfl, rfl, by decide +kernel, rfl, by decide +kernel, by decide +kernel⟩
abbrev s_are_kinds : Stmt := topS 32
abbrev N_are_kinds : List Str := ["value", "signs", "kind"]
theorem sc_are_kinds : FnScope N_are_kinds ["value", "signs"] (defScope s_are_kinds) := ⟨rfl, rfl, rfl, by decide +kernel, rfl, by decide +kernel, by decide +kernel⟩
abbrev s_check_decoder : Stmt := topS 33
abbrev N_check_decoder : List Str := ["value"]
theorem sc_check_decoder : FnScope N_check_decoder ["value"] (defScope s_check_decoder) := ⟨rfl, rfl, rfl, by decide +kernel, rfl, by decide +kernel, by decide +kernel⟩
abbrev s_check_kinds : Stmt := topS 34
abbrev N_check_kinds : List Str := ["decoder", "kinds"]
theorem sc_check_kinds : FnScope N_check_kinds ["decoder", "kinds"] (defScope s_check_kinds) := ⟨rfl, rfl, rfl, by decide +kernel, rfl, by decide +kernel, by decide +kernel⟩
abbrev s_steps_with : Stmt := topS 35
abbrev N_steps_with : List Str := ["signs", "kinds", "known", "kind", "sign"]
theorem sc_steps_with : FnScope N_steps_with ["signs", "kinds"] (defScope s_steps_with) := ⟨rfl, rfl, rfl, by decide +kernel, rfl, by decide +kernel, by decide +kernel⟩
abbrev s_is_steady : Stmt := topS 38
abbrev N_is_steady : List Str := ["decoder", "kinds", "steps", "met", "stack", "one", "other", "step", "left", "right"]
theorem sc_is_steady : FnScope N_is_steady ["decoder", "kinds"] (defScope s_is_steady) := ⟨rfl, rfl, rfl, by decide +kernel, rfl, by decide +kernel, by decide +kernel⟩
abbrev s_accepts : Stmt := topS 39
abbrev N_accepts : List Str := ["decoder", "state"]
theorem sc_accepts : FnScope N_accepts ["decoder", "state"] (defScope s_accepts) := ⟨rfl, rfl, rfl, by decide +kernel, rfl, by decide +kernel, by decide +kernel⟩
abbrev s_state_behind : Stmt := topS 40
abbrev N_state_behind : List Str := ["decoder", "state", "sign"]
theorem sc_state_behind : FnScope N_state_behind ["decoder", "state", "sign"] (defScope s_state_behind) := ⟨rfl, rfl, rfl, by decide +kernel, rfl, by decide +kernel, by decide +kernel⟩
abbrev s_law_cell : Stmt := topS 42
abbrev N_law_cell : List Str := ["script", "k"]
theorem sc_law_cell : FnScope N_law_cell ["script", "k"] (defScope s_law_cell) := ⟨rfl, rfl, rfl, by decide +kernel, rfl, by decide +kernel, by decide +kernel⟩
abbrev s_law_box : Stmt := topS 43
abbrev N_law_box : List Str := ["great"]
theorem sc_law_box : FnScope N_law_box ["great"] (defScope s_law_box) := ⟨rfl, rfl, rfl, by decide +kernel, rfl, by decide +kernel, by decide +kernel⟩
abbrev s_law_take : Stmt := topS 44
abbrev N_law_take : List Str := ["box", "many", "digit", "mixed"]
theorem sc_law_take : FnScope N_law_take ["box", "many"] (defScope s_law_take) := ⟨rfl, rfl, rfl, by decide +kernel, rfl, by decide +kernel, by decide +kernel⟩
abbrev s_law_blocks : Stmt := topS 45
abbrev N_law_blocks : List Str := ["box", "size", "signs", "steps", "moves", "sign", "barred", "state", "row", "word", "ends"]
theorem sc_law_blocks : FnScope N_law_blocks ["box"] (defScope s_law_blocks) := ⟨rfl, rfl, rfl, by decide +kernel, rfl, by decide +kernel, by decide +kernel⟩
abbrev s_law_parts : Stmt := topS 46
abbrev N_law_parts : List Str := ["box", "steps", "state", "row", "sign", "other", "ends"]
theorem sc_law_parts : FnScope N_law_parts ["box"] (defScope s_law_parts) := ⟨rfl, rfl, rfl, by decide +kernel, rfl, by decide +kernel, by decide +kernel⟩
abbrev s_law_double : Stmt := topS 47
abbrev N_law_double : List Str := ["box", "steps", "part", "flips", "behind", "bit", "row", "flip"]
theorem sc_law_double : FnScope N_law_double ["box"] (defScope s_law_double) := ⟨rfl, rfl, rfl, by decide +kernel, rfl, by decide +kernel, by decide +kernel⟩
abbrev s_law_free : Stmt := topS 48
abbrev N_law_free : List Str := ["box", "sure", "signs", "states", "steps", "state", "row", "sign", "entry", "menu"]
theorem sc_law_free : FnScope N_law_free ["box", "sure"] (defScope s_law_free) := ⟨rfl, rfl, rfl, by decide +kernel, rfl, by decide +kernel, by decide +kernel⟩
abbrev s_law_kinds : Stmt := topS 49
abbrev N_law_kinds : List Str := ["box", "signs", "pool", "sign", "other", "turn"]
theorem sc_law_kinds : FnScope N_law_kinds ["box", "signs"] (defScope s_law_kinds) := ⟨rfl, rfl, rfl, by decide +kernel, rfl, by decide +kernel, by decide +kernel⟩
abbrev s_law_scene : Stmt := topS 50
abbrev N_law_scene : List Str := ["box", "choice", "plain"]
theorem sc_law_scene : FnScope N_law_scene ["box"] (defScope s_law_scene) := ⟨rfl, rfl, rfl, by decide +kernel, rfl, by decide +kernel, by decide +kernel⟩
abbrev s_law_behind : Stmt := topS 51
abbrev N_law_behind : List Str := ["plain", "state", "sign"]
theorem sc_law_behind : FnScope N_law_behind ["plain", "state", "sign"] (defScope s_law_behind) := ⟨rfl, rfl, rfl, by decide +kernel, rfl, by decide +kernel, by decide +kernel⟩
abbrev s_law_accepts : Stmt := topS 52
abbrev N_law_accepts : List Str := ["plain", "state"]
theorem sc_law_accepts : FnScope N_law_accepts ["plain", "state"] (defScope s_law_accepts) := ⟨rfl, rfl, rfl, by decide +kernel, rfl, by decide +kernel, by decide +kernel⟩
abbrev s_law_is_steady : Stmt := topS 53
abbrev N_law_is_steady : List Str := ["plain", "kinds", "moves", "sign", "kind", "known", "line", "p", "q", "one", "other", "pair"]
theorem sc_law_is_steady : FnScope N_law_is_steady ["plain", "kinds"] (defScope s_law_is_steady) := ⟨rfl, rfl, rfl, by decide +kernel, rfl, by decide +kernel, by decide +kernel⟩
abbrev s_law_refused : Stmt := topS 54
abbrev N_law_refused : List Str := ["decoder", "kinds", "error", "told"]
theorem sc_law_refused : FnScope N_law_refused ["decoder", "kinds"] (defScope s_law_refused) := ⟨rfl, rfl, rfl, by decide +kernel, rfl, by decide +kernel, by decide +kernel⟩
abbrev s_law_refusals_right : Stmt := topS 55
abbrev N_law_refusals_right : List Str := ["box", "decoder", "signs", "odd", "kinds", "handed", "other", "given"]
theorem sc_law_refusals_right : FnScope N_law_refusals_right ["box", "decoder", "signs"] (defScope s_law_refusals_right) := ⟨rfl, rfl, rfl, by decide +kernel, rfl, by decide +kernel, by decide +kernel⟩
abbrev s_law_right : Stmt := topS 56
abbrev N_law_right : List Str := ["box", "plain", "kinds", "handed", "due", "decoder", "kept", "turn", "answer"]
theorem sc_law_right : FnScope N_law_right ["box"] (defScope s_law_right) := ⟨rfl, rfl, rfl, by decide +kernel, rfl, by decide +kernel, by decide +kernel⟩
abbrev s_law : Stmt := topS 57
abbrev N_law : List Str := ["script", "k"]
theorem sc_law : FnScope N_law ["script"] (defScope s_law) := ⟨rfl, rfl, rfl, by decide +kernel, rfl, by decide +kernel, by decide +kernel⟩
abbrev s_Decoder_init : Stmt := inClass (topS 20) 0
abbrev N_Decoder_init : List Str := ["self", "signs", "steps", "ends", "row"]
theorem sc_Decoder_init : FnScope N_Decoder_init ["self", "signs", "steps", "ends"] (defScope s_Decoder_init) := ⟨rfl, rfl, rfl, by decide +kernel, rfl, by decide +kernel, by decide +kernel⟩
abbrev s_Decoder_eq : Stmt := inClass (topS 20) 1
abbrev N_Decoder_eq : List Str := ["self", "other"]
theorem sc_Decoder_eq : FnScope N_Decoder_eq ["self", "other"] (defScope s_Decoder_eq) := ⟨rfl, rfl, rfl, by decide +kernel, rfl, by decide +kernel, by decide +kernel⟩
def tab_SIGNS_TOLD (z : Str) : Option Int := if z = "lost" then some 1 else if z = "put" then some 1 else if z = "same" then some 1 else if z = "turned" then some 2 else none
structure Txt (K : PySem.W.Frag) (mg : Str → Option Value) (w : World) where
  f_is_integer : Addr
  fd_is_integer : FuncData
  F_is_integer : Fun K "is_integer" "is_integer" s_is_integer f_is_integer fd_is_integer
  b_is_integer : Binds K fd_is_integer ["value"] []
  g_is_integer : mg "is_integer" = some (.ref f_is_integer)
  f_is_count : Addr
  fd_is_count : FuncData
  F_is_count : Fun K "is_count" "is_count" s_is_count f_is_count fd_is_count
  b_is_count : Binds K fd_is_count ["value"] []
  g_is_count : mg "is_count" = some (.ref f_is_count)
  f_is_list : Addr
  fd_is_list : FuncData
  F_is_list : Fun K "is_list" "is_list" s_is_list f_is_list fd_is_list
  b_is_list : Binds K fd_is_list ["value"] []
  g_is_list : mg "is_list" = some (.ref f_is_list)
  f_is_text : Addr
  fd_is_text : FuncData
  F_is_text : Fun K "is_text" "is_text" s_is_text f_is_text fd_is_text
  b_is_text : Binds K fd_is_text ["value"] []
  g_is_text : mg "is_text" = some (.ref f_is_text)
  f_is_word : Addr
  fd_is_word : FuncData
  F_is_word : Fun K "is_word" "is_word" s_is_word f_is_word fd_is_word
  b_is_word : Binds K fd_is_word ["value"] []
  g_is_word : mg "is_word" = some (.ref f_is_word)
  f_is_number_of_signs : Addr
  fd_is_number_of_signs : FuncData
  F_is_number_of_signs : Fun K "is_number_of_signs" "is_number_of_signs" s_is_number_of_signs f_is_number_of_signs fd_is_number_of_signs
  b_is_number_of_signs : Binds K fd_is_number_of_signs ["value"] []
  g_is_number_of_signs : mg "is_number_of_signs" = some (.ref f_is_number_of_signs)
  f_is_below : Addr
  fd_is_below : FuncData
  F_is_below : Fun K "is_below" "is_below" s_is_below f_is_below fd_is_below
  b_is_below : Binds K fd_is_below ["value", "limit"] []
  g_is_below : mg "is_below" = some (.ref f_is_below)
  f_are_steps : Addr
  fd_are_steps : FuncData
  F_are_steps : Fun K "are_steps" "are_steps" s_are_steps f_are_steps fd_are_steps
  b_are_steps : Binds K fd_are_steps ["value", "signs"] []
  g_are_steps : mg "are_steps" = some (.ref f_are_steps)
  f_are_entries : Addr
  fd_are_entries : FuncData
  F_are_entries : Fun K "are_entries" "are_entries" s_are_entries f_are_entries fd_are_entries
  b_are_entries : Binds K fd_are_entries ["value", "signs", "states"] []
  g_are_entries : mg "are_entries" = some (.ref f_are_entries)
  f_is_step_decoders : Addr
  fd_is_step_decoders : FuncData
  F_is_step_decoders : Fun K "is_step" "is_step" s_is_step_decoders f_is_step_decoders fd_is_step_decoders
  b_is_step_decoders : Binds K fd_is_step_decoders ["value", "states"] []
  g_is_step_decoders : mg "is_step_decoders" = some (.ref f_is_step_decoders)
  f_are_ends : Addr
  fd_are_ends : FuncData
  F_are_ends : Fun K "are_ends" "are_ends" s_are_ends f_are_ends fd_are_ends
  b_are_ends : Binds K fd_are_ends ["value", "states"] []
  g_are_ends : mg "are_ends" = some (.ref f_are_ends)
  f_is_kind : Addr
  fd_is_kind : FuncData
  F_is_kind : Fun K "is_kind" "is_kind" s_is_kind f_is_kind fd_is_kind
  b_is_kind : Binds K fd_is_kind ["value", "signs"] []
  g_is_kind : mg "is_kind" = some (.ref f_is_kind)
  f_is_step_passings : Addr
  fd_is_step_passings : FuncData
  F_is_step_passings : Fun K "is_step" "is_step" s_is_step_passings f_is_step_passings fd_is_step_passings
  b_is_step_passings : Binds K fd_is_step_passings ["value", "signs"] []
  g_is_step_passings : mg "is_step_passings" = some (.ref f_is_step_passings)
  f_is_free : Addr
  fd_is_free : FuncData
  F_is_free : Fun K "is_free" "is_free" s_is_free f_is_free fd_is_free
  b_is_free : Binds K fd_is_free ["step"] []
  g_is_free : mg "is_free" = some (.ref f_is_free)
  f_are_kinds : Addr
  fd_are_kinds : FuncData
  F_are_kinds : Fun K "are_kinds" "are_kinds" s_are_kinds f_are_kinds fd_are_kinds
  b_are_kinds : Binds K fd_are_kinds ["value", "signs"] []
  g_are_kinds : mg "are_kinds" = some (.ref f_are_kinds)
  f_check_decoder : Addr
  fd_check_decoder : FuncData
  F_check_decoder : Fun K "check_decoder" "check_decoder" s_check_decoder f_check_decoder fd_check_decoder
  b_check_decoder : Binds K fd_check_decoder ["value"] []
  g_check_decoder : mg "check_decoder" = some (.ref f_check_decoder)
  f_check_kinds : Addr
  fd_check_kinds : FuncData
  F_check_kinds : Fun K "check_kinds" "check_kinds" s_check_kinds f_check_kinds fd_check_kinds
  b_check_kinds : Binds K fd_check_kinds ["decoder", "kinds"] []
  g_check_kinds : mg "check_kinds" = some (.ref f_check_kinds)
  f_steps_with : Addr
  fd_steps_with : FuncData
  F_steps_with : Fun K "steps_with" "steps_with" s_steps_with f_steps_with fd_steps_with
  b_steps_with : Binds K fd_steps_with ["signs", "kinds"] []
  g_steps_with : mg "steps_with" = some (.ref f_steps_with)
  f_is_steady : Addr
  fd_is_steady : FuncData
  F_is_steady : Fun K "is_steady" "is_steady" s_is_steady f_is_steady fd_is_steady
  b_is_steady : Binds K fd_is_steady ["decoder", "kinds"] []
  g_is_steady : mg "is_steady" = some (.ref f_is_steady)
  f_accepts : Addr
  fd_accepts : FuncData
  F_accepts : Fun K "accepts" "accepts" s_accepts f_accepts fd_accepts
  b_accepts : Binds K fd_accepts ["decoder", "state"] []
  g_accepts : mg "accepts" = some (.ref f_accepts)
  f_state_behind : Addr
  fd_state_behind : FuncData
  F_state_behind : Fun K "state_behind" "state_behind" s_state_behind f_state_behind fd_state_behind
  b_state_behind : Binds K fd_state_behind ["decoder", "state", "sign"] []
  g_state_behind : mg "state_behind" = some (.ref f_state_behind)
  f_law_cell : Addr
  fd_law_cell : FuncData
  F_law_cell : Fun K "_law_cell" "_law_cell" s_law_cell f_law_cell fd_law_cell
  b_law_cell : Binds K fd_law_cell ["script", "k"] []
  g_law_cell : mg "_law_cell" = some (.ref f_law_cell)
  f_law_box : Addr
  fd_law_box : FuncData
  F_law_box : Fun K "_law_box" "_law_box" s_law_box f_law_box fd_law_box
  b_law_box : Binds K fd_law_box ["great"] []
  g_law_box : mg "_law_box" = some (.ref f_law_box)
  f_law_take : Addr
  fd_law_take : FuncData
  F_law_take : Fun K "_law_take" "_law_take" s_law_take f_law_take fd_law_take
  b_law_take : Binds K fd_law_take ["box", "many"] []
  g_law_take : mg "_law_take" = some (.ref f_law_take)
  f_law_blocks : Addr
  fd_law_blocks : FuncData
  F_law_blocks : Fun K "_law_blocks" "_law_blocks" s_law_blocks f_law_blocks fd_law_blocks
  b_law_blocks : Binds K fd_law_blocks ["box"] []
  g_law_blocks : mg "_law_blocks" = some (.ref f_law_blocks)
  f_law_parts : Addr
  fd_law_parts : FuncData
  F_law_parts : Fun K "_law_parts" "_law_parts" s_law_parts f_law_parts fd_law_parts
  b_law_parts : Binds K fd_law_parts ["box"] []
  g_law_parts : mg "_law_parts" = some (.ref f_law_parts)
  f_law_double : Addr
  fd_law_double : FuncData
  F_law_double : Fun K "_law_double" "_law_double" s_law_double f_law_double fd_law_double
  b_law_double : Binds K fd_law_double ["box"] []
  g_law_double : mg "_law_double" = some (.ref f_law_double)
  f_law_free : Addr
  fd_law_free : FuncData
  F_law_free : Fun K "_law_free" "_law_free" s_law_free f_law_free fd_law_free
  b_law_free : Binds K fd_law_free ["box", "sure"] []
  g_law_free : mg "_law_free" = some (.ref f_law_free)
  f_law_kinds : Addr
  fd_law_kinds : FuncData
  F_law_kinds : Fun K "_law_kinds" "_law_kinds" s_law_kinds f_law_kinds fd_law_kinds
  b_law_kinds : Binds K fd_law_kinds ["box", "signs"] []
  g_law_kinds : mg "_law_kinds" = some (.ref f_law_kinds)
  f_law_scene : Addr
  fd_law_scene : FuncData
  F_law_scene : Fun K "_law_scene" "_law_scene" s_law_scene f_law_scene fd_law_scene
  b_law_scene : Binds K fd_law_scene ["box"] []
  g_law_scene : mg "_law_scene" = some (.ref f_law_scene)
  f_law_behind : Addr
  fd_law_behind : FuncData
  F_law_behind : Fun K "_law_behind" "_law_behind" s_law_behind f_law_behind fd_law_behind
  b_law_behind : Binds K fd_law_behind ["plain", "state", "sign"] []
  g_law_behind : mg "_law_behind" = some (.ref f_law_behind)
  f_law_accepts : Addr
  fd_law_accepts : FuncData
  F_law_accepts : Fun K "_law_accepts" "_law_accepts" s_law_accepts f_law_accepts fd_law_accepts
  b_law_accepts : Binds K fd_law_accepts ["plain", "state"] []
  g_law_accepts : mg "_law_accepts" = some (.ref f_law_accepts)
  f_law_is_steady : Addr
  fd_law_is_steady : FuncData
  F_law_is_steady : Fun K "_law_is_steady" "_law_is_steady" s_law_is_steady f_law_is_steady fd_law_is_steady
  b_law_is_steady : Binds K fd_law_is_steady ["plain", "kinds"] []
  g_law_is_steady : mg "_law_is_steady" = some (.ref f_law_is_steady)
  f_law_refused : Addr
  fd_law_refused : FuncData
  F_law_refused : Fun K "_law_refused" "_law_refused" s_law_refused f_law_refused fd_law_refused
  b_law_refused : Binds K fd_law_refused ["decoder", "kinds"] []
  g_law_refused : mg "_law_refused" = some (.ref f_law_refused)
  f_law_refusals_right : Addr
  fd_law_refusals_right : FuncData
  F_law_refusals_right : Fun K "_law_refusals_right" "_law_refusals_right" s_law_refusals_right f_law_refusals_right fd_law_refusals_right
  b_law_refusals_right : Binds K fd_law_refusals_right ["box", "decoder", "signs"] []
  g_law_refusals_right : mg "_law_refusals_right" = some (.ref f_law_refusals_right)
  f_law_right : Addr
  fd_law_right : FuncData
  F_law_right : Fun K "_law_right" "_law_right" s_law_right f_law_right fd_law_right
  b_law_right : Binds K fd_law_right ["box"] []
  g_law_right : mg "_law_right" = some (.ref f_law_right)
  f_law : Addr
  fd_law : FuncData
  F_law : Fun K "law" "law" s_law f_law fd_law
  b_law : Binds K fd_law ["script"] []
  g_law : mg "law" = some (.ref f_law)
  C_Decoder : Addr
  f_Decoder_init : Addr
  fd_Decoder_init : FuncData
  F_Decoder_init : Fun K "__init__" "Decoder.__init__" s_Decoder_init f_Decoder_init fd_Decoder_init
  b_Decoder_init : Binds K fd_Decoder_init ["self", "signs", "steps", "ends"] []
  f_Decoder_eq : Addr
  fd_Decoder_eq : FuncData
  F_Decoder_eq : Fun K "__eq__" "Decoder.__eq__" s_Decoder_eq f_Decoder_eq fd_Decoder_eq
  b_Decoder_eq : Binds K fd_Decoder_eq ["self", "other"] []
  z_abs : mg "abs" = none
  z_all : mg "all" = none
  z_bool : mg "bool" = none
  z_int : mg "int" = none
  z_isinstance : mg "isinstance" = none
  z_len : mg "len" = none
  z_list : mg "list" = none
  z_max : mg "max" = none
  z_min : mg "min" = none
  z_range : mg "range" = none
  z_repr : mg "repr" = none
  z_sorted : mg "sorted" = none
  z_str : mg "str" = none
  z_sum : mg "sum" = none
  z_tuple : mg "tuple" = none
  g_Decoder : mg "Decoder" = some (.ref C_Decoder)
  cl_Decoder : Cls K C_Decoder
  mk_Decoder : Mk K C_Decoder f_Decoder_init
  oe_Decoder : OEq K C_Decoder f_Decoder_eq
  na_Decoder_signs : NoAttr K C_Decoder "signs"
  na_Decoder_states : NoAttr K C_Decoder "states"
  na_Decoder_steps : NoAttr K C_Decoder "steps"
  na_Decoder_ends : NoAttr K C_Decoder "ends"
  ii_Decoder : PySem.W.isClsIn K C_Decoder = true
  it_Decoder : PySem.W.typeIn K (.ref C_Decoder) = some (.type "type")
  is_Decoder : PySem.W.subIn K (.ref C_Decoder) (.ref C_Decoder) = some true
  t_MOST_SIGNS : Tok
  c_MOST_SIGNS : mg "MOST_SIGNS" = some (.int (5) t_MOST_SIGNS)
  t_MOST_LETTERS : Tok
  c_MOST_LETTERS : mg "MOST_LETTERS" = some (.int (3) t_MOST_LETTERS)
  t_MOST_STATES : Tok
  c_MOST_STATES : mg "MOST_STATES" = some (.int (40) t_MOST_STATES)
  t_REJECTED : Tok
  c_REJECTED : mg "REJECTED" = some (.int (-1) t_REJECTED)
  D_SIGNS_TOLD : Addr
  g_SIGNS_TOLD : mg "SIGNS_TOLD" = some (.ref D_SIGNS_TOLD)
  kd_SIGNS_TOLD : KTab K w D_SIGNS_TOLD tab_SIGNS_TOLD
  C_InvalidDecoder : Addr
  i_InvalidDecoder : Addr
  e_InvalidDecoder : ErrX.ETxt K mg "InvalidDecoder" "InvalidDecoder.__init__" C_InvalidDecoder i_InvalidDecoder
  x_InvalidDecoder : PySem.W.exmOne K (.ref C_InvalidDecoder) (.ref C_InvalidDecoder) = some true
  C_InvalidEnds : Addr
  i_InvalidEnds : Addr
  e_InvalidEnds : ErrX.ETxt K mg "InvalidEnds" "InvalidEnds.__init__" C_InvalidEnds i_InvalidEnds
  x_InvalidEnds : PySem.W.exmOne K (.ref C_InvalidEnds) (.ref C_InvalidEnds) = some true
  C_InvalidKinds : Addr
  i_InvalidKinds : Addr
  e_InvalidKinds : ErrX.ETxt K mg "InvalidKinds" "InvalidKinds.__init__" C_InvalidKinds i_InvalidKinds
  x_InvalidKinds : PySem.W.exmOne K (.ref C_InvalidKinds) (.ref C_InvalidKinds) = some true
  C_InvalidSigns : Addr
  i_InvalidSigns : Addr
  e_InvalidSigns : ErrX.ETxt K mg "InvalidSigns" "InvalidSigns.__init__" C_InvalidSigns i_InvalidSigns
  x_InvalidSigns : PySem.W.exmOne K (.ref C_InvalidSigns) (.ref C_InvalidSigns) = some true
  C_InvalidSteps : Addr
  i_InvalidSteps : Addr
  e_InvalidSteps : ErrX.ETxt K mg "InvalidSteps" "InvalidSteps.__init__" C_InvalidSteps i_InvalidSteps
  x_InvalidSteps : PySem.W.exmOne K (.ref C_InvalidSteps) (.ref C_InvalidSteps) = some true
  no_InvalidDecoder_InvalidEnds : PySem.W.exmOne K (.ref C_InvalidDecoder) (.ref C_InvalidEnds) = some false
  no_InvalidDecoder_InvalidKinds : PySem.W.exmOne K (.ref C_InvalidDecoder) (.ref C_InvalidKinds) = some false
  no_InvalidDecoder_InvalidSigns : PySem.W.exmOne K (.ref C_InvalidDecoder) (.ref C_InvalidSigns) = some false
  no_InvalidDecoder_InvalidSteps : PySem.W.exmOne K (.ref C_InvalidDecoder) (.ref C_InvalidSteps) = some false
  no_InvalidEnds_InvalidDecoder : PySem.W.exmOne K (.ref C_InvalidEnds) (.ref C_InvalidDecoder) = some false
  no_InvalidEnds_InvalidKinds : PySem.W.exmOne K (.ref C_InvalidEnds) (.ref C_InvalidKinds) = some false
  no_InvalidEnds_InvalidSigns : PySem.W.exmOne K (.ref C_InvalidEnds) (.ref C_InvalidSigns) = some false
  no_InvalidEnds_InvalidSteps : PySem.W.exmOne K (.ref C_InvalidEnds) (.ref C_InvalidSteps) = some false
  no_InvalidKinds_InvalidDecoder : PySem.W.exmOne K (.ref C_InvalidKinds) (.ref C_InvalidDecoder) = some false
  no_InvalidKinds_InvalidEnds : PySem.W.exmOne K (.ref C_InvalidKinds) (.ref C_InvalidEnds) = some false
  no_InvalidKinds_InvalidSigns : PySem.W.exmOne K (.ref C_InvalidKinds) (.ref C_InvalidSigns) = some false
  no_InvalidKinds_InvalidSteps : PySem.W.exmOne K (.ref C_InvalidKinds) (.ref C_InvalidSteps) = some false
  no_InvalidSigns_InvalidDecoder : PySem.W.exmOne K (.ref C_InvalidSigns) (.ref C_InvalidDecoder) = some false
  no_InvalidSigns_InvalidEnds : PySem.W.exmOne K (.ref C_InvalidSigns) (.ref C_InvalidEnds) = some false
  no_InvalidSigns_InvalidKinds : PySem.W.exmOne K (.ref C_InvalidSigns) (.ref C_InvalidKinds) = some false
  no_InvalidSigns_InvalidSteps : PySem.W.exmOne K (.ref C_InvalidSigns) (.ref C_InvalidSteps) = some false
  no_InvalidSteps_InvalidDecoder : PySem.W.exmOne K (.ref C_InvalidSteps) (.ref C_InvalidDecoder) = some false
  no_InvalidSteps_InvalidEnds : PySem.W.exmOne K (.ref C_InvalidSteps) (.ref C_InvalidEnds) = some false
  no_InvalidSteps_InvalidKinds : PySem.W.exmOne K (.ref C_InvalidSteps) (.ref C_InvalidKinds) = some false
  no_InvalidSteps_InvalidSigns : PySem.W.exmOne K (.ref C_InvalidSteps) (.ref C_InvalidSigns) = some false
end My

set_option Elab.async false
set_option linter.all false
set_option maxRecDepth 100000
set_option maxHeartbeats 8000000
namespace My
open PySem PySem.Spec PyProof.Rows L2
section
variable {P : Program} {w : World} {K : PySem.W.Frag} {mg : Str → Option Value} {base : Heap}
def spD (K : PySem.W.Frag) (f : PyData → Bool) : Sp := fun vs H Q _ => ∃ x d m, vs = [x] ∧ Dg K H m x d ∧ Q (.bl (f d)) H
def spDn (K : PySem.W.Frag) (f : Int → PyData → Bool) : Sp := fun vs H Q _ => ∃ x d m n, vs = [x, .int n] ∧ Dg K H m x d ∧ Q (.bl (f n d)) H
def spDw (K : PySem.W.Frag) (f : PyData → Bool) : Sp := fun vs H Q _ => ∃ x d m, vs = [x] ∧ Dg K H m x d ∧ d.weight ≤ 100000 ∧ Q (.bl (f d)) H
def spDnw (K : PySem.W.Frag) (f : Int → PyData → Bool) : Sp := fun vs H Q _ => ∃ x d m n, vs = [x, .int n] ∧ Dg K H m x d ∧ d.weight ≤ 100000 ∧ Q (.bl (f n d)) H
def spDns (K : PySem.W.Frag) (f : Int → PyData → Bool) : Sp := fun vs H Q _ => ∃ x d m n, vs = [x, .int n] ∧ Dg K H m x d ∧ d.weight ≤ 100000 ∧ ∀ H', Same H H' → Q (.bl (f n d)) H'
theorem all_id {f : PyData → Bool} (l : List PyData) : (l.map f).all id = l.all f := by rw [List.all_map]; rfl
theorem ok_is_integer (T : Txt K mg w) : FnOk P w K mg base CX0 1 T.f_is_integer T.fd_is_integer ["value"] (spD K isI) := by
  refine T.F_is_integer.ok sc_is_integer (fun vs H Q E h => ?_) (fun cdv A outer s H vs Q E hr h => ?_)
  · obtain ⟨x, d, m, rfl, _⟩ := h; rfl
  · obtain ⟨x, d, m, rfl, hd, q⟩ := h
    refine ⟨_, (pss_one (ps_ret (pe_and (pe_callB call_isi (by rfl) T.z_isinstance (by decide +kernel) (pa_cons (pv 0) (pa_cons (pe_bltn (v := .ty "int") (u := .type "int") (by rfl) T.z_int (by decide +kernel) rfl) pa_nil))) (pe_one (pe_not (pe_callB call_isi (by rfl) T.z_isinstance (by decide +kernel) (pa_cons (pv 0) (pa_cons (pe_bltn (v := .ty "bool") (u := .type "bool") (by rfl) T.z_bool (by decide +kernel) rfl) pa_nil)))))))), ?_⟩
    have e : (isNumD d && !isBlD d) = isI d := by cases d <;> rfl
    rw [← e] at q
    refine ⟨_, rfl, _, _, _, _, isNumD d, rfl, .ty _, hd.ty, kit_numD d, _, rfl, ?_⟩
    cases h1 : isNumD d with
    | false => rw [h1] at q; exact iteF q
    | true =>
      rw [h1, Bool.true_and] at q
      exact iteT ⟨_, rfl, _, _, _, _, isBlD d, rfl, .ty _, hd.ty, kit_blD d, _, rfl, q⟩
theorem ok_is_count (T : Txt K mg w) : FnOk P w K mg base CX0 2 T.f_is_count T.fd_is_count ["value"] (spD K isCn) := by
  refine T.F_is_count.ok sc_is_count (fun vs H Q E h => ?_) (fun cdv A outer s H vs Q E hr h => ?_)
  · obtain ⟨x, d, m, rfl, _⟩ := h; rfl
  · obtain ⟨x, d, m, rfl, hd, q⟩ := h
    refine ⟨_, (pss_one (ps_ret (pe_and (pe_call (ok_is_integer T) (hr.mono (by decide)) rfl T.g_is_integer T.F_is_integer.kp T.b_is_integer .nil pass0 (pa_cons (pv 0) pa_nil)) (pe_one (pe_cmpR op_ge (pv 0) pe_int (nomark _)))))), ?_⟩
    refine ⟨_, rfl, x, d, m, rfl, hd, _, rfl, ?_⟩
    cases d with
    | int i =>
      obtain rfl := hd.int_of
      exact iteT ⟨_, rfl, _, _, rfl, rfl, q⟩
    | _ => exact iteF q
theorem ok_is_list (T : Txt K mg w) : FnOk P w K mg base CX0 1 T.f_is_list T.fd_is_list ["value"] (fun vs H Q _ => ∃ x d m, vs = [x] ∧ Dg K H m x d ∧ ∀ H', Same H H' → Q (.bl (isSqD d)) H') := by
  refine T.F_is_list.ok sc_is_list (fun vs H Q E h => ?_) (fun cdv A outer s H vs Q E hr h => ?_)
  · obtain ⟨x, d, m, rfl, _⟩ := h; rfl
  · obtain ⟨x, d, m, rfl, hd, q⟩ := h
    refine ⟨_, (pss_one (ps_ret (pe_callB call_isiT (by rfl) T.z_isinstance (by decide +kernel) (pa_cons (pv 0) (pa_cons (pe_tup (pa_cons (pe_bltn (v := .ty "list") (u := .type "list") (by rfl) T.z_list (by decide +kernel) rfl) (pa_cons (pe_bltn (v := .ty "tuple") (u := .type "tuple") (by rfl) T.z_tuple (by decide +kernel) rfl) pa_nil))) pa_nil))))), ?_⟩
    exact ⟨_, rfl, (by show 2 ≤ sizeLine; decide), fun tp htp => ⟨_, tp, _, _, [.type "list", .type "tuple"], isSqD d, rfl, upd_same, .cons (.ty _) (.cons (.ty _) .nil), (hd.ext (Same.new (Same.refl H) htp)).ty, kit_sqD d, q _ (Same.new (Same.refl H) htp)⟩⟩
theorem ok_is_number_of_signs (T : Txt K mg w) : FnOk P w K mg base CX0 2 T.f_is_number_of_signs T.fd_is_number_of_signs ["value"] (spD K isSg) := by
  refine T.F_is_number_of_signs.ok sc_is_number_of_signs (fun vs H Q E h => ?_) (fun cdv A outer s H vs Q E hr h => ?_)
  · obtain ⟨x, d, m, rfl, _⟩ := h; rfl
  · obtain ⟨x, d, m, rfl, hd, q⟩ := h
    refine ⟨_, (pss_one (ps_ret (pe_and (pe_call (ok_is_integer T) (hr.mono (by decide)) rfl T.g_is_integer T.F_is_integer.kp T.b_is_integer .nil pass0 (pa_cons (pv 0) pa_nil)) (pe_one (pe_chain op_le op_le pe_int (pv 0) (pe_glob (v := .int (5)) rfl T.c_MOST_SIGNS ⟨_, rfl⟩)))))), ?_⟩
    refine ⟨_, rfl, x, d, m, rfl, hd, _, rfl, ?_⟩
    cases d with
    | int i =>
      obtain rfl := hd.int_of
      refine iteT ⟨_, rfl, _, _, rfl, rfl, _, rfl, ?_⟩
      have q' : Q (.bl (decide (1 ≤ i) && decide (i ≤ 5))) H := q
      refine ite2 (fun c => ?_) (fun c => ?_)
      · rw [c, Bool.true_and] at q'
        exact ⟨_, _, rfl, rfl, q'⟩
      · rw [Bool.not_eq_true] at c
        rw [c, Bool.false_and] at q'
        exact q'
    | _ => exact iteF q
theorem ok_is_below (T : Txt K mg w) : FnOk P w K mg base CX0 3 T.f_is_below T.fd_is_below ["value", "limit"] (spDn K isBe) := by
  refine T.F_is_below.ok sc_is_below (fun vs H Q E h => ?_) (fun cdv A outer s H vs Q E hr h => ?_)
  · obtain ⟨x, d, m, n, rfl, _⟩ := h; rfl
  · obtain ⟨x, d, m, n, rfl, hd, q⟩ := h
    refine ⟨_, (pss_one (ps_ret (pe_and (pe_call (ok_is_count T) (hr.mono (by decide)) rfl T.g_is_count T.F_is_count.kp T.b_is_count .nil pass0 (pa_cons (pv 0) pa_nil)) (pe_one (pe_cmpR op_lt (pv 0) (pv 1) (nomark _)))))), ?_⟩
    refine ⟨_, rfl, x, d, m, rfl, hd, _, rfl, ?_⟩
    cases d with
    | int i =>
      obtain rfl := hd.int_of
      have q' : Q (.bl (decide (0 ≤ i) && decide (i < n))) H := q
      show if decide (0 ≤ i) = true then _ else _
      refine ite2 (fun c => ?_) (fun c => ?_)
      · rw [c, Bool.true_and] at q'
        exact ⟨_, rfl, _, rfl, _, _, rfl, rfl, q'⟩
      · rw [Bool.not_eq_true] at c
        rw [c, Bool.false_and] at q'
        exact q'
    | _ => exact iteF q
theorem ok_is_text (T : Txt K mg w) : FnOk P w K mg base CX0 1 T.f_is_text T.fd_is_text ["value"] (spD K isTx) := by
  refine T.F_is_text.ok sc_is_text (fun vs H Q E h => ?_) (fun cdv A outer s H vs Q E hr h => ?_)
  · obtain ⟨x, d, m, rfl, _⟩ := h; rfl
  · obtain ⟨x, d, m, rfl, hd, q⟩ := h
    refine ⟨_, (pss_cons (ps_if (pt_not (pt_val (pe_callB call_isi (by rfl) T.z_isinstance (by decide +kernel) (pa_cons (pv 0) (pa_cons (pe_bltn (v := .ty "str") (u := .type "str") (by rfl) T.z_str (by decide +kernel) rfl) pa_nil))))) (pss_one (ps_ret pe_bl)) pss_nil)
      (pss_one (ps_ret (pe_or (pe_cmpR op_eq (pv 0) pe_str (nomark _)) (pe_one (pe_and (pe_bm0 PySem.F.plainAttrs_str PySem.F.slot_str_isascii PySem.F.type_str_isascii mt_isascii (pv 0)) (pe_and (pe_bm0 PySem.F.plainAttrs_str PySem.F.slot_str_isalpha PySem.F.type_str_isalpha mt_isalpha (pv 0)) (pe_one (pe_bm0 PySem.F.plainAttrs_str PySem.F.slot_str_islower PySem.F.type_str_islower mt_islower (pv 0)))))))))), ?_⟩
    refine ⟨_, rfl, _, _, _, _, isStrD d, rfl, .ty _, hd.ty, kit_strD d, _, rfl, ?_⟩
    cases d with
    | str z =>
      obtain rfl := hd.str_of
      have q : Q (.bl (isT z)) H := q
      refine iteF ⟨_, rfl, rfl, _, rfl, ?_⟩
      have e := istext_eq z
      cases h0 : decide (V.str z = V.str (Str.ofString "")) with
      | true =>
        rw [h0, Bool.true_or] at e
        refine iteT ?_
        unfold isT at q
        rw [← e] at q
        exact q
      | false =>
        rw [h0, Bool.false_or] at e
        have e2 : (Txt.isascii z && (Txt.isalpha z && Txt.islower z)) = isT z := by rw [← Bool.and_assoc]; exact e
        refine iteF ⟨_, rfl, rfl, z, rfl, rfl, trivial, _, rfl, ?_⟩
        cases h1 : Txt.isascii z with
        | false => rw [h1] at e2; rw [← e2] at q; exact iteF q
        | true =>
          rw [h1, Bool.true_and] at e2
          refine iteT ⟨_, rfl, rfl, z, rfl, rfl, trivial, _, rfl, ?_⟩
          cases h2 : Txt.isalpha z with
          | false => rw [h2] at e2; rw [← e2] at q; exact iteF q
          | true =>
            rw [h2, Bool.true_and] at e2
            rw [← e2] at q
            exact iteT ⟨_, rfl, rfl, z, rfl, rfl, trivial, q⟩
    | _ => exact iteT q
theorem ok_is_word (T : Txt K mg w) : FnOk P w K mg base CX0 2 T.f_is_word T.fd_is_word ["value"] (spDw K isWd) := by
  refine T.F_is_word.ok sc_is_word (fun vs H Q E h => ?_) (fun cdv A outer s H vs Q E hr h => ?_)
  · obtain ⟨x, d, m, rfl, _⟩ := h; rfl
  · obtain ⟨x, d, m, rfl, hd, hw, q⟩ := h
    refine ⟨_, (pss_one (ps_ret (pe_and (pe_call (ok_is_text T) (hr.mono (by decide)) rfl T.g_is_text T.F_is_text.kp T.b_is_text .nil pass0 (pa_cons (pv 0) pa_nil)) (pe_one (pe_cmpR op_le (pe_callB call_len_str (by rfl) T.z_len (by decide +kernel) (pa_cons (pv 0) pa_nil)) (pe_glob (v := .int (3)) rfl T.c_MOST_LETTERS ⟨_, rfl⟩) (nomark _)))))), ?_⟩
    refine ⟨_, rfl, x, d, m, rfl, hd, _, rfl, ?_⟩
    cases d with
    | str z =>
      obtain rfl := hd.str_of
      have q' : Q (.bl (isT z && decide ((z.length : Int) ≤ 3))) H := q
      have hz : z.length ≤ sizeLine := by
        rw [PyData.weight] at hw
        exact Nat.le_trans hw (by decide)
      show if isT z = true then _ else _
      refine ite2 (fun c => ?_) (fun c => ?_)
      · rw [c, Bool.true_and] at q'
        exact ⟨_, rfl, z, rfl, hz, _, _, rfl, rfl, q'⟩
      · rw [Bool.not_eq_true] at c
        rw [c, Bool.false_and] at q'
        exact q'
    | _ => exact iteF q
theorem ok_is_step_decoders (T : Txt K mg w) : FnOk P w K mg base CX0 4 T.f_is_step_decoders T.fd_is_step_decoders ["value", "states"] (spDnw K isStp) := by
  refine T.F_is_step_decoders.ok sc_is_step_decoders (fun vs H Q E h => ?_) (fun cdv A outer s H vs Q E hr h => ?_)
  · obtain ⟨x, d, m, n, rfl, _⟩ := h; rfl
  · obtain ⟨x, d, m, n, rfl, hd, hw, q⟩ := h
    refine ⟨_, (pss_cons (ps_if (PW.pt (pw_or (pt_not (pt_val (pe_callB call_isi (by rfl) T.z_isinstance (by decide +kernel) (pa_cons (pv 0) (pa_cons (pe_bltn (v := .ty "tuple") (u := .type "tuple") (by rfl) T.z_tuple (by decide +kernel) rfl) pa_nil))))) (pw_or1 (pt_cmpR op_ne (pe_callB call_len_seq (by rfl) T.z_len (by decide +kernel) (pa_cons (pv 0) pa_nil)) pe_int (nomark _))))) (pss_one (ps_ret pe_bl)) pss_nil)
      (pss_one (ps_ret (pe_and (pe_call (ok_is_below T) (hr.mono (by decide)) rfl T.g_is_below T.F_is_below.kp T.b_is_below .nil pass0 (pa_cons (pe_ix ix_tup (pv 0) pe_int (fun _ _ => rfl)) (pa_cons (pv 1) pa_nil))) (pe_one (pe_call (ok_is_word T) (hr.mono (by decide)) rfl T.g_is_word T.F_is_word.kp T.b_is_word .nil pass0 (pa_cons (pe_ix ix_tup (pv 0) pe_int (fun _ _ => rfl)) pa_nil))))))), ?_⟩
    refine ⟨_, rfl, _, _, _, _, isTupD d, rfl, .ty _, hd.ty, kit_tupD d, _, rfl, ?_⟩
    cases d with
    | tuple ds =>
      obtain ⟨a, xs, rfl, hs, ha⟩ := hd.tup_of
      have wt := (weight_its (d := .tuple ds)).2
      refine iteF ⟨_, rfl, a, xs, rfl, .inr hs, rfl, _, rfl, ?_⟩
      have hl := ha.len
      match ds, ha, q, hl, wt, hw with
      | [a1, b1], ha, q, hl, wt, hw =>
        rw [decide_eq_true (show V.int (xs.length : Int) = V.int 2 by rw [hl]; rfl)]
        obtain ⟨x0, ys, rfl, h0, ht⟩ := ha.cons_of
        obtain ⟨x1, zs, rfl, h1, ht'⟩ := ht.cons_of
        refine iteF ⟨_, rfl, a, _, _, _, rfl, rfl, hs, atI_nat (j := 0) rfl, _, rfl, x0, a1, m, n, rfl, h0, _, rfl, ?_⟩
        have q' : Q (.bl (isBe n a1 && isWd b1)) H := q
        show if isBe n a1 = true then _ else _
        refine ite2 (fun c => ?_) (fun c => ?_)
        · rw [c, Bool.true_and] at q'
          exact ⟨_, rfl, a, _, _, _, rfl, rfl, hs, atI_nat (j := 1) rfl, x1, b1, m, rfl, h1, Nat.le_trans (wt b1 (by show b1 ∈ [a1, b1]; simp)) hw, q'⟩
        · rw [Bool.not_eq_true] at c
          rw [c, Bool.false_and] at q'
          exact q'
      | [], ha, q, hl, _, _ =>
        rw [decide_eq_false (show ¬ V.int (xs.length : Int) = V.int 2 by rw [hl]; simp)]
        exact iteT q
      | [a1], ha, q, hl, _, _ =>
        rw [decide_eq_false (show ¬ V.int (xs.length : Int) = V.int 2 by rw [hl]; simp)]
        exact iteT q
      | a1 :: b1 :: c1 :: r, ha, q, hl, _, _ =>
        rw [decide_eq_false (show ¬ V.int (xs.length : Int) = V.int 2 from fun z => by have := V.int.inj z; rw [hl, List.length_cons, List.length_cons, List.length_cons] at this; omega)]
        exact iteT q
    | _ => exact iteT (iteT q)
theorem dg_non {K : PySem.W.Frag} {H : Hp} {m : Bool} {x : V} {d : PyData} (h : Dg K H m x d) : decide (x = .non) = isNn d := by
  cases h <;> simp [isNn]
theorem ok_are_entries (T : Txt K mg w) : FnOk P w K mg base CX0 5 T.f_are_entries T.fd_are_entries ["value", "signs", "states"] (fun vs H Q _ => ∃ x d m k n, vs = [x, .int k, .int n] ∧ Dg K H m x d ∧ d.weight ≤ 100000 ∧ ∀ H', Same H H' → Q (.bl (entB k n d)) H') := by
  refine T.F_are_entries.ok sc_are_entries (fun vs H Q E h => ?_) (fun cdv A outer s H vs Q E hr h => ?_)
  · obtain ⟨x, d, m, k, n, rfl, _⟩ := h; rfl
  · obtain ⟨x, d, m, k, n, rfl, hd, hw, q⟩ := h
    refine ⟨_, (pss_cons (ps_if (PW.pt (pw_or (pt_not (pt_val (pe_call (ok_is_list T) (hr.mono (by decide)) rfl T.g_is_list T.F_is_list.kp T.b_is_list .nil pass0 (pa_cons (pv 0) pa_nil)))) (pw_or1 (pt_cmpR op_ne (pe_callB call_len_seq (by rfl) T.z_len (by decide +kernel) (pa_cons (pv 0) pa_nil)) (pv 1) (nomark _))))) (pss_one (ps_ret pe_bl)) pss_nil)
      (pss_one (ps_ret (pe_callB (cr_all rfl) (by rfl) T.z_all (by decide +kernel) (pa_cons (pe_lc (own := [("entry", 3)]) (g := gName 3) (by rfl) sc_are_entries.nd (pi_sq (pv 0)) (blkOk_by (own := [("entry", 3)]) (N := N_are_entries) (sc := defScope s_are_entries) (by decide +kernel)) (fun _ _ _ _ _ => pg_name (i := 3) sc_are_entries.nd rfl (Or.inl rfl)) (fun _ _ _ _ _ => pts_nil) (fun _ _ _ _ _ => (pe_or (pe_cmp (pc_isN (pv 3)) rfl) (pe_one (pe_call (ok_is_step_decoders T) (hr.mono (by decide)) rfl T.g_is_step_decoders T.F_is_step_decoders.kp T.b_is_step_decoders .nil pass0 (pa_cons (pv 3) (pa_cons (pv 2) pa_nil))))))) pa_nil))))), ?_⟩
    refine ⟨_, rfl, x, d, m, rfl, hd, fun H1 s1 => ⟨_, rfl, ?_⟩⟩
    have q' : ∀ H', Same H H' → Q (.bl (isSqD d && (decide (((itsD d).length : Int) = k) && (itsD d).all (isEn n)))) H' := q
    obtain ⟨hlen, hwt⟩ := weight_its (d := d)
    cases hf : isSqD d with
    | false => rw [hf] at q'; exact iteT (iteT (q' _ s1))
    | true =>
      rw [hf, Bool.true_and] at q'
      obtain ⟨a, ys, rfl, hq, hes⟩ := (hd.ext s1).lst_q (sq_its hf)
      generalize itsD d = es at *
      have le := hes.len
      refine iteF ⟨_, rfl, a, ys, rfl, hq, _, rfl, rfl, _, rfl, ?_⟩
      by_cases c : (es.length : Int) = k
      · rw [decide_eq_true (show V.int (ys.length : Int) = V.int k by rw [le, c])]
        rw [decide_eq_true c, Bool.true_and] at q'
        refine iteF ⟨_, rfl, a, rfl, lc_sq hq fun D hD => ⟨fun i H' => Same H1 H' ∧ H' D = some (.lst (((es.take i).map (isEn n)).map V.bl)), ⟨Same.new (Same.refl _) hD, upd_same⟩, fun i H' h => h.1, ?_, ?_⟩⟩
        · rintro i x H' hx ⟨s', e'⟩
          obtain ⟨d', hd', dx⟩ := hes.at i x hx
          have hm : d' ∈ es := List.mem_of_getElem? hd'
          refine ⟨rfl, tYesT ?_⟩
          have fin : ∀ H2, Same H' H2 → ∃ acc, H2 D = some (.lst acc) ∧ acc.length < sizeLine ∧ Same H1 (upd H2 D (.lst (acc ++ [.bl (isEn n d')]))) ∧ (upd H2 D (.lst (acc ++ [.bl (isEn n d')]))) D = some (.lst (((es.take (i + 1)).map (isEn n)).map V.bl)) := fun H2 s2 => by
            refine ⟨_, s2 _ _ e', ?_, fun b o e => ?_, ?_⟩
            · rw [List.length_map, List.length_map]
              exact Nat.lt_of_le_of_lt (List.length_take_le' _ _) (Nat.lt_of_le_of_lt (by omega : es.length ≤ 100000) (by decide))
            · rw [upd_ne (ne_of_none e hD)]; exact s2 _ _ (s' b o e)
            · rw [upd_same, List.take_add_one, hd', List.map_append, List.map_append]; rfl
          have dn := dg_non dx
          refine ⟨_, rfl, _, rfl, ?_⟩
          rw [dn]
          unfold isEn at fin
          cases hn : isNn d' with
          | true => rw [hn] at fin; exact iteT (fin H' (Same.refl _))
          | false =>
            rw [hn] at fin
            exact iteF ⟨_, rfl, _, rfl, x, d', m, n, rfl, dx.ext s', Nat.le_trans (hwt d' hm) hw, fin H' (Same.refl _)⟩
        · rintro H2 ⟨s', e'⟩
          rw [le, List.take_length] at e'
          refine ⟨D, _, rfl, SqL.of e', ?_⟩
          rw [all_id]
          exact q' _ (s1.trans s')
      · rw [decide_eq_false (show ¬ V.int (ys.length : Int) = V.int k from fun z => c (by rw [← le]; exact V.int.inj z))]
        rw [decide_eq_false c, Bool.false_and] at q'
        exact iteT (q' _ s1)
theorem ok_are_steps (T : Txt K mg w) : FnOk P w K mg base CX0 6 T.f_are_steps T.fd_are_steps ["value", "signs"] (spDns K stepsB) := by
  refine T.F_are_steps.ok sc_are_steps (fun vs H Q E h => ?_) (fun cdv A outer s H vs Q E hr h => ?_)
  · obtain ⟨x, d, m, n, rfl, _⟩ := h; rfl
  · obtain ⟨x, d, m, n, rfl, hd, hw, q⟩ := h
    refine ⟨_, (pss_cons (ps_if (PW.pt (pw_or (pt_not (pt_val (pe_call (ok_is_list T) (hr.mono (by decide)) rfl T.g_is_list T.F_is_list.kp T.b_is_list .nil pass0 (pa_cons (pv 0) pa_nil)))) (pw_or1 (pt_not (pt_chain op_le op_le pe_int (pe_callB call_len_seq (by rfl) T.z_len (by decide +kernel) (pa_cons (pv 0) pa_nil)) (pe_glob (v := .int (40)) rfl T.c_MOST_STATES ⟨_, rfl⟩)))))) (pss_one (ps_ret pe_bl)) pss_nil)
      (pss_one (ps_ret (pe_callB (cr_all rfl) (by rfl) T.z_all (by decide +kernel) (pa_cons (pe_lc (own := [("row", 2)]) (g := gName 2) (by rfl) sc_are_steps.nd (pi_sq (pv 0)) (blkOk_by (own := [("row", 2)]) (N := N_are_steps) (sc := defScope s_are_steps) (by decide +kernel)) (fun _ _ _ _ _ => pg_name (i := 2) sc_are_steps.nd rfl (Or.inl rfl)) (fun _ _ _ _ _ => pts_nil) (fun _ _ _ _ _ => (pe_call (ok_are_entries T) (hr.mono (by decide)) rfl T.g_are_entries T.F_are_entries.kp T.b_are_entries .nil pass0 (pa_cons (pv 2) (pa_cons (pv 1) (pa_cons (pe_callB (call_len_seqK (K := K) rfl) (by rfl) T.z_len (by decide +kernel) (pa_cons (pv 0) pa_nil)) pa_nil)))))) pa_nil))))), ?_⟩
    refine ⟨_, rfl, x, d, m, rfl, hd, fun H1 s1 => ⟨_, rfl, ?_⟩⟩
    have q' : ∀ H', Same H H' → Q (.bl (isSqD d && ((decide (1 ≤ ((itsD d).length : Int)) && decide (((itsD d).length : Int) ≤ 40)) && (itsD d).all (entB n ((itsD d).length : Int))))) H' := q
    obtain ⟨hlen, hwt⟩ := weight_its (d := d)
    cases hf : isSqD d with
    | false => rw [hf] at q'; exact iteT (iteT (q' _ s1))
    | true =>
      rw [hf, Bool.true_and] at q'
      obtain ⟨a, ys, rfl, hq, hes⟩ := (hd.ext s1).lst_q (sq_its hf)
      generalize itsD d = es at *
      have le := hes.len
      refine iteF ⟨_, rfl, a, ys, rfl, hq, _, _, rfl, rfl, _, rfl, ?_⟩
      refine ite2 (fun c1 => ?_) (fun c1 => ?_)
      · have c1' : (1 : Int) ≤ (ys.length : Int) := of_decide_eq_true c1
        refine ⟨_, _, rfl, rfl, _, rfl, ?_⟩
        show if (!decide ((ys.length : Int) ≤ 40)) = true then _ else _
        rw [decide_eq_true (show (1 : Int) ≤ (es.length : Int) by omega), Bool.true_and] at q'
        cases c2 : decide ((ys.length : Int) ≤ 40) with
        | false =>
          rw [← le, c2, Bool.false_and] at q'
          exact iteT (q' _ s1)
        | true =>
          rw [← le, c2, Bool.true_and, le] at q'
          refine iteF ⟨_, rfl, a, rfl, lc_sq hq fun D hD => ⟨fun i H' => Same H1 H' ∧ H' D = some (.lst (((es.take i).map (entB n (es.length : Int))).map V.bl)), ⟨Same.new (Same.refl _) hD, upd_same⟩, fun i H' h => h.1, ?_, ?_⟩⟩
          · rintro i x H' hx ⟨s', e'⟩
            obtain ⟨d', hd', dx⟩ := hes.at i x hx
            have hm : d' ∈ es := List.mem_of_getElem? hd'
            refine ⟨rfl, tYesT ⟨_, rfl, _, rfl, _, rfl, a, ys, rfl, hq.same s', x, d', m, n, (ys.length : Int), rfl, dx.ext s', Nat.le_trans (hwt d' hm) hw, fun H2 s2 => ⟨_, s2 _ _ e', ?_, fun b o e => ?_, ?_⟩⟩⟩
            · rw [List.length_map, List.length_map]
              exact Nat.lt_of_le_of_lt (List.length_take_le' _ _) (Nat.lt_of_le_of_lt (by omega : es.length ≤ 100000) (by decide))
            · rw [upd_ne (ne_of_none e hD)]; exact s2 _ _ (s' b o e)
            · rw [upd_same, List.take_add_one, hd', List.map_append, List.map_append, le]; rfl
          · rintro H2 ⟨s', e'⟩
            rw [le, List.take_length] at e'
            refine ⟨D, _, rfl, SqL.of e', ?_⟩
            rw [all_id]
            exact q' _ (s1.trans s')
      · have c1' : ¬ (1 : Int) ≤ (ys.length : Int) := fun z => c1 (decide_eq_true z)
        rw [decide_eq_false (show ¬ (1 : Int) ≤ (es.length : Int) by omega), Bool.false_and, Bool.false_and] at q'
        exact ⟨_, rfl, iteT (q' _ s1)⟩
theorem ok_are_ends (T : Txt K mg w) : FnOk P w K mg base CX0 3 T.f_are_ends T.fd_are_ends ["value", "states"] (spDns K endsB) := by
  refine T.F_are_ends.ok sc_are_ends (fun vs H Q E h => ?_) (fun cdv A outer s H vs Q E hr h => ?_)
  · obtain ⟨x, d, m, n, rfl, _⟩ := h; rfl
  · obtain ⟨x, d, m, n, rfl, hd, hw, q⟩ := h
    refine ⟨_, (pss_cons (ps_if (PW.pt (pw_or (pt_not (pt_val (pe_call (ok_is_list T) (hr.mono (by decide)) rfl T.g_is_list T.F_is_list.kp T.b_is_list .nil pass0 (pa_cons (pv 0) pa_nil)))) (pw_or1 (pt_cmpR op_ne (pe_callB call_len_seq (by rfl) T.z_len (by decide +kernel) (pa_cons (pv 0) pa_nil)) (pv 1) (nomark _))))) (pss_one (ps_ret pe_bl)) pss_nil)
      (pss_one (ps_ret (pe_callB (cr_all rfl) (by rfl) T.z_all (by decide +kernel) (pa_cons (pe_lc (own := [("end", 2)]) (g := gName 2) (by rfl) sc_are_ends.nd (pi_sq (pv 0)) (blkOk_by (own := [("end", 2)]) (N := N_are_ends) (sc := defScope s_are_ends) (by decide +kernel)) (fun _ _ _ _ _ => pg_name (i := 2) sc_are_ends.nd rfl (Or.inl rfl)) (fun _ _ _ _ _ => pts_nil) (fun _ _ _ _ _ => (pe_or (pe_cmp (pc_isN (pv 2)) rfl) (pe_one (pe_call (ok_is_word T) (hr.mono (by decide)) rfl T.g_is_word T.F_is_word.kp T.b_is_word .nil pass0 (pa_cons (pv 2) pa_nil)))))) pa_nil))))), ?_⟩
    refine ⟨_, rfl, x, d, m, rfl, hd, fun H1 s1 => ⟨_, rfl, ?_⟩⟩
    have q' : ∀ H', Same H H' → Q (.bl (isSqD d && (decide (((itsD d).length : Int) = n) && (itsD d).all endB))) H' := q
    obtain ⟨hlen, hwt⟩ := weight_its (d := d)
    cases hf : isSqD d with
    | false => rw [hf] at q'; exact iteT (iteT (q' _ s1))
    | true =>
      rw [hf, Bool.true_and] at q'
      obtain ⟨a, ys, rfl, hq, hes⟩ := (hd.ext s1).lst_q (sq_its hf)
      generalize itsD d = es at *
      have le := hes.len
      refine iteF ⟨_, rfl, a, ys, rfl, hq, _, rfl, rfl, _, rfl, ?_⟩
      by_cases c : (es.length : Int) = n
      · rw [decide_eq_true (show V.int (ys.length : Int) = V.int n by rw [le, c])]
        rw [decide_eq_true c, Bool.true_and] at q'
        refine iteF ⟨_, rfl, a, rfl, lc_sq hq fun D hD => ⟨fun i H' => Same H1 H' ∧ H' D = some (.lst (((es.take i).map endB).map V.bl)), ⟨Same.new (Same.refl _) hD, upd_same⟩, fun i H' h => h.1, ?_, ?_⟩⟩
        · rintro i x H' hx ⟨s', e'⟩
          obtain ⟨d', hd', dx⟩ := hes.at i x hx
          have hm : d' ∈ es := List.mem_of_getElem? hd'
          refine ⟨rfl, tYesT ?_⟩
          have fin : ∀ H2, Same H' H2 → ∃ acc, H2 D = some (.lst acc) ∧ acc.length < sizeLine ∧ Same H1 (upd H2 D (.lst (acc ++ [.bl (endB d')]))) ∧ (upd H2 D (.lst (acc ++ [.bl (endB d')]))) D = some (.lst (((es.take (i + 1)).map endB).map V.bl)) := fun H2 s2 => by
            refine ⟨_, s2 _ _ e', ?_, fun b o e => ?_, ?_⟩
            · rw [List.length_map, List.length_map]
              exact Nat.lt_of_le_of_lt (List.length_take_le' _ _) (Nat.lt_of_le_of_lt (by omega : es.length ≤ 100000) (by decide))
            · rw [upd_ne (ne_of_none e hD)]; exact s2 _ _ (s' b o e)
            · rw [upd_same, List.take_add_one, hd', List.map_append, List.map_append]; rfl
          have dn := dg_non dx
          refine ⟨_, rfl, _, rfl, ?_⟩
          rw [dn]
          unfold endB at fin
          cases hn : isNn d' with
          | true => rw [hn] at fin; exact iteT (fin H' (Same.refl _))
          | false =>
            rw [hn] at fin
            exact iteF ⟨_, rfl, x, d', m, rfl, dx.ext s', Nat.le_trans (hwt d' hm) hw, fin H' (Same.refl _)⟩
        · rintro H2 ⟨s', e'⟩
          rw [le, List.take_length] at e'
          refine ⟨D, _, rfl, SqL.of e', ?_⟩
          rw [all_id]
          exact q' _ (s1.trans s')
      · rw [decide_eq_false (show ¬ V.int (ys.length : Int) = V.int n from fun z => c (by rw [← le]; exact V.int.inj z))]
        rw [decide_eq_false c, Bool.false_and] at q'
        exact iteT (q' _ s1)
end
end My

set_option Elab.async false
set_option linter.all false
set_option maxRecDepth 100000
set_option maxHeartbeats 8000000
namespace My
open PySem PySem.Spec PyProof.Rows L2
def eqI : PyData → PyData → Bool | .int i, .int j => decide (i = j) | _, _ => false
def isKd (n : Int) : PyData → Bool
  | .tuple [.str z, a] => (decide (z = Str.ofString "lost") || decide (z = Str.ofString "put")) && isBe n a
  | .tuple [.str z, a, b] => decide (z = Str.ofString "turned") && (isBe n a && (isBe n b && !eqI a b))
  | _ => false
def isSm (n : Int) : PyData → Bool
  | .tuple [.str z, a] => decide (z = Str.ofString "same") && isBe n a
  | _ => false
def isSt (n : Int) (d : PyData) : Bool := isKd n d || isSm n d
def isKind (d e : PyData) : Bool := isSg e && isKd (numD e) d
def hd1 : List PyData → PyData | a :: _ => a | _ => .none
theorem isSt_eq (n : Int) (z : Str) (a : PyData) (r : List PyData) : isSt n (.tuple (.str z :: a :: r)) =
    (match tab_SIGNS_TOLD z with | none => false | some i => decide (((a :: r).length : Int) = i) && ((a :: r).all (isBe n) && (decide (z ≠ Str.ofString "turned") || !eqI a (hd1 r)))) := by
  have d1 : (Str.ofString "lost") ≠ Str.ofString "same" := by decide
  have d2 : (Str.ofString "put") ≠ Str.ofString "same" := by decide
  have d3 : (Str.ofString "turned") ≠ Str.ofString "same" := by decide
  have d4 : (Str.ofString "lost") ≠ Str.ofString "turned" := by decide
  have d5 : (Str.ofString "put") ≠ Str.ofString "turned" := by decide
  have d6 : (Str.ofString "put") ≠ Str.ofString "lost" := by decide
  have d7 : (Str.ofString "turned") ≠ Str.ofString "lost" := by decide
  have d8 : (Str.ofString "turned") ≠ Str.ofString "put" := by decide
  have d9 : (Str.ofString "same") ≠ Str.ofString "lost" := by decide
  have d10 : (Str.ofString "same") ≠ Str.ofString "put" := by decide
  have e1 : ("lost" : Str) = Str.ofString "lost" := rfl
  have e2 : ("put" : Str) = Str.ofString "put" := rfl
  have e3 : ("same" : Str) = Str.ofString "same" := rfl
  have e4 : ("turned" : Str) = Str.ofString "turned" := rfl
  unfold tab_SIGNS_TOLD isSt
  rw [e1, e2, e3, e4]
  match r with
  | [] =>
    unfold isKd isSm hd1
    by_cases h1 : z = Str.ofString "lost"
    · subst h1; simp [d1, d4]
    · by_cases h2 : z = Str.ofString "put"
      · subst h2; simp [d2, d5, d6]
      · by_cases h3 : z = Str.ofString "same"
        · subst h3; simp [d9, d10, Ne.symm d3]
        · by_cases h4 : z = Str.ofString "turned"
          · subst h4; simp [d3, d7, d8]
          · simp [h1, h2, h3, h4]
  | [b] =>
    unfold isKd isSm hd1
    by_cases h1 : z = Str.ofString "lost"
    · subst h1; simp [d4]
    · by_cases h2 : z = Str.ofString "put"
      · subst h2; simp [d5, d6]
      · by_cases h3 : z = Str.ofString "same"
        · subst h3; simp [d9, d10, Ne.symm d3]
        · by_cases h4 : z = Str.ofString "turned"
          · subst h4; simp [d3, d7, d8, Bool.and_assoc]
          · simp [h1, h2, h3, h4]
  | b :: c :: s =>
    have l : ¬ (((a :: b :: c :: s).length : Int) = 1) := by simp only [List.length_cons]; omega
    have l2 : ¬ (((a :: b :: c :: s).length : Int) = 2) := by simp only [List.length_cons]; omega
    unfold isKd isSm
    by_cases h1 : z = Str.ofString "lost"
    · rw [if_pos h1]; simp only [l, decide_false, Bool.false_and, Bool.or_false]
    · rw [if_neg h1]
      by_cases h2 : z = Str.ofString "put"
      · rw [if_pos h2]; simp only [l, decide_false, Bool.false_and, Bool.or_false]
      · rw [if_neg h2]
        by_cases h3 : z = Str.ofString "same"
        · rw [if_pos h3]; simp only [l, decide_false, Bool.false_and, Bool.or_false]
        · rw [if_neg h3]
          by_cases h4 : z = Str.ofString "turned"
          · rw [if_pos h4]; simp only [l2, decide_false, Bool.false_and, Bool.or_false]
          · rw [if_neg h4]; rfl
section
variable {P : Program} {w : World} {K : PySem.W.Frag} {mg : Str → Option Value} {base : Heap}
def Bd : PyData → Prop | .tuple ds => ds.length ≤ 1000 | _ => True
def spSt (K : PySem.W.Frag) : Sp := fun vs H Q _ => ∃ x d m n, vs = [x, .int n] ∧ Dg K H m x d ∧ Bd d ∧ ∀ H', Same H H' → Q (.bl (isSt n d)) H'
theorem ok_is_step_passings (T : Txt K mg w) : FnOk P w K mg base CX0 4 T.f_is_step_passings T.fd_is_step_passings ["value", "signs"] (spSt K) := by
  refine T.F_is_step_passings.ok sc_is_step_passings (fun vs H Q E h => ?_) (fun cdv A outer s H vs Q E hr h => ?_)
  · obtain ⟨x, d, m, n, rfl, _⟩ := h; rfl
  · obtain ⟨x, d, m, n, rfl, hd, bd, q⟩ := h
    refine ⟨_, (pss_cons (ps_if (PW.pt (pw_or (pt_not (pt_val (pe_callB call_isi (by rfl) T.z_isinstance (by decide +kernel) (pa_cons (pv 0) (pa_cons (pe_bltn (v := .ty "tuple") (u := .type "tuple") (by rfl) T.z_tuple (by decide +kernel) rfl) pa_nil))))) (pw_or (pt_cmpR op_lt (pe_callB call_len_seq (by rfl) T.z_len (by decide +kernel) (pa_cons (pv 0) pa_nil)) pe_int (nomark _)) (pw_or1 (pt_not (pt_val (pe_callB call_isi (by rfl) T.z_isinstance (by decide +kernel) (pa_cons (pe_ix ix_tup (pv 0) pe_int (fun _ _ => rfl)) (pa_cons (pe_bltn (v := .ty "str") (u := .type "str") (by rfl) T.z_str (by decide +kernel) rfl) pa_nil))))))))) (pss_one (ps_ret pe_bl)) pss_nil)
      (pss_cons (ps_asg (pv 0) (pg_star rfl (pgs_cons (pg_name (i := 2) sc_is_step_passings.nd rfl (Or.inl rfl)) (pgs_cons (pg_name (i := 3) sc_is_step_passings.nd rfl (Or.inl rfl)) pgs_nil))))
      (pss_cons (ps_if (PW.pt (pw_or (pt_cmpR (op_notIn_tab T.kd_SIGNS_TOLD) (pv 2) (pe_glob (v := .ref T.D_SIGNS_TOLD) rfl T.g_SIGNS_TOLD rfl) (by rfl)) (pw_or1 (pt_cmpR op_ne (pe_callB call_len_seq (by rfl) T.z_len (by decide +kernel) (pa_cons (pv 3) pa_nil)) (pe_ix (ix_tab T.kd_SIGNS_TOLD) (pe_glob (v := .ref T.D_SIGNS_TOLD) rfl T.g_SIGNS_TOLD rfl) (pv 2) (fun _ _ => rfl)) (nomark _))))) (pss_one (ps_ret pe_bl)) pss_nil)
      (pss_cons (ps_if (pt_not (pt_val (pe_callB (cr_all rfl) (by rfl) T.z_all (by decide +kernel) (pa_cons (pe_lc (own := [("sign", 4)]) (g := gName 4) (by rfl) sc_is_step_passings.nd (pi_list (pv 3)) (blkOk_by (own := [("sign", 4)]) (N := N_is_step_passings) (sc := defScope s_is_step_passings) (by decide +kernel)) (fun _ _ _ _ _ => pg_name (i := 4) sc_is_step_passings.nd rfl (Or.inl rfl)) (fun _ _ _ _ _ => pts_nil) (fun _ _ _ _ _ => (pe_call (ok_is_below T) (hr.mono (by decide)) rfl T.g_is_below T.F_is_below.kp T.b_is_below .nil pass0 (pa_cons (pv 4) (pa_cons (pv 1) pa_nil))))) pa_nil)))) (pss_one (ps_ret pe_bl)) pss_nil)
      (pss_one (ps_ret (pe_or (pe_cmpR op_ne (pv 2) pe_str (nomark _)) (pe_one (pe_cmpR op_ne (pe_ix ix_list (pv 3) pe_int (fun _ _ => rfl)) (pe_ix ix_list (pv 3) pe_int (fun _ _ => rfl)) (nomark _)))))))))), ?_⟩
    refine ⟨_, rfl, _, _, _, _, isTupD d, rfl, .ty _, hd.ty, kit_tupD d, _, rfl, ?_⟩
    cases d with
    | tuple ds =>
      obtain ⟨a, xs, rfl, hs, ha⟩ := hd.tup_of
      refine iteF ⟨_, rfl, a, xs, rfl, .inr hs, _, _, rfl, rfl, _, rfl, ?_⟩
      have hl := ha.len
      match ds, ha, q, hl, bd with
      | [], ha, q, hl, _ =>
        rw [decide_eq_true (by rw [hl]; show (0 : Int) < 2; decide)]
        exact iteT (iteT (q _ (Same.refl _)))
      | [e], ha, q, hl, _ =>
        rw [decide_eq_true (by rw [hl]; show (1 : Int) < 2; decide)]
        have e0 : isSt n (.tuple [e]) = false := by cases e <;> rfl
        rw [e0] at q
        exact iteT (iteT (q _ (Same.refl _)))
      | e :: f :: r, ha, q, hl, bd =>
        rw [decide_eq_false (by rw [hl]; simp only [List.length_cons]; omega)]
        obtain ⟨x0, ys, rfl, h0, ht⟩ := ha.cons_of
        refine iteF ⟨_, rfl, a, _, _, _, rfl, rfl, hs, atI_nat (j := 0) rfl, _, _, _, _, isStrD e, rfl, .ty _, h0.ty, kit_strD e, _, rfl, ?_⟩
        cases e with
        | str z =>
          obtain rfl := h0.str_of
          refine iteF ?_
          refine ⟨_, rfl, a, _, ys, rfl, hs, fun p hp => ?_⟩
          have ly : ys.length = (f :: r).length := ht.len
          rw [isSt_eq] at q
          have s1 : Same H (upd H p (.lst ys)) := Same.new (Same.refl H) hp
          have ht1 := ht.ext s1
          have ep : (upd H p (.lst ys)) p = some (.lst ys) := upd_same
          generalize upd H p (.lst ys) = H1 at s1 ht1 ep
          refine ⟨_, _, rfl, _, _, rfl, rfl, _, rfl, z, rfl, rfl, _, rfl, ?_⟩
          cases hf : tab_SIGNS_TOLD z with
          | none =>
            rw [hf] at q
            exact iteT (iteT (q _ s1))
          | some i =>
            rw [hf] at q
            refine iteF ⟨_, rfl, p, ys, rfl, .inl (SqL.of ep), _, rfl, z, i, rfl, rfl, hf, rfl, _, rfl, ?_⟩
            have q' : ∀ H', Same H H' → Q (.bl (decide (((f :: r).length : Int) = i) && ((f :: r).all (isBe n) && (decide (z ≠ Str.ofString "turned") || !eqI f (hd1 r))))) H' := q
            by_cases c : ((f :: r).length : Int) = i
            · rw [decide_eq_true (show V.int (ys.length : Int) = V.int i by rw [ly, c])]
              rw [decide_eq_true c, Bool.true_and] at q'
              refine iteF ?_
              refine ⟨_, rfl, p, rfl, ⟨_, SqL.of ep⟩, fun D hD => ?_⟩
              refine lc_list (K := K) (a := p) (xs := ys) (fun i H' => Same H1 H' ∧ H' D = some (.lst ((((f :: r).take i).map (isBe n)).map V.bl))) ⟨Same.new (Same.refl H1) hD, upd_same⟩ (fun i H' _ h => SqL.of (h.1 _ _ ep)) ?_ ?_
              · rintro i x H' hx ⟨s', e'⟩
                obtain ⟨d, hd', dx⟩ := ht1.at i x hx
                refine ⟨rfl, tYesT ?_⟩
                refine ⟨_, rfl, _, rfl, x, d, m, n, rfl, dx.ext s', _, e', ?_, fun b o e => ?_, ?_⟩
                · rw [List.length_map, List.length_map]
                  exact Nat.lt_of_le_of_lt (List.length_take_le' _ _) (by have : (PyData.str z :: f :: r).length ≤ 1000 := bd; rw [List.length_cons] at this; exact Nat.lt_of_le_of_lt (by omega : (f :: r).length ≤ 1000) (by decide))
                · rw [upd_ne (ne_of_none e hD)]; exact s' b o e
                · rw [upd_same, List.take_add_one, hd', List.map_append, List.map_append]; rfl
              · rintro H' ⟨s', e'⟩
                have ef : ((f :: r).take ys.length) = f :: r := by rw [ly]; exact List.take_length
                rw [ef] at e'
                refine ⟨D, _, rfl, SqL.of e', _, rfl, ?_⟩
                show if (!((f :: r).map (isBe n)).all id) = true then _ else _
                rw [all_id]
                have t' : Same H H' := s1.trans s'
                cases hall : (f :: r).all (isBe n) with
                | false =>
                  rw [hall, Bool.false_and] at q'
                  exact iteT (q' _ t')
                | true =>
                  rw [hall, Bool.true_and] at q'
                  refine iteF ⟨_, rfl, rfl, _, rfl, ?_⟩
                  by_cases hz : z = Str.ofString "turned"
                  · rw [decide_eq_false (by simpa using hz), Bool.false_or] at q'
                    rw [decide_eq_true (congrArg V.str hz)]
                    have i2 : i = 2 := by rw [hz] at hf; exact (Option.some.inj hf).symm
                    rw [List.all_cons, Bool.and_eq_true] at hall
                    obtain ⟨u, rfl, _⟩ := isBe_int hall.1
                    match r, ly, c, hall, ht, q', e' with
                    | [], _, c, _, _, _, _ => rw [i2] at c; simp at c
                    | g :: s, ly, c, hall, ht, q', e' =>
                      have hg := hall.2
                      rw [List.all_cons, Bool.and_eq_true] at hg
                      obtain ⟨v, rfl, _⟩ := isBe_int hg.1
                      obtain ⟨y0, ys1, rfl, h0', ht'⟩ := ht.cons_of
                      obtain ⟨y1, ys2, rfl, h1', _⟩ := ht'.cons_of
                      obtain rfl := h0'.int_of
                      obtain rfl := h1'.int_of
                      have ep' := s' _ _ ep
                      refine iteF ⟨_, rfl, p, _, _, _, rfl, rfl, SqL.of ep', atI_nat (j := 0) rfl, _, rfl, p, _, _, _, rfl, rfl, SqL.of ep', atI_nat (j := 1) rfl, rfl, ?_⟩
                      have e1 : (!decide (V.int u = V.int v)) = !eqI (.int u) (hd1 (.int v :: s)) := by
                        show _ = !decide (u = v)
                        rw [Bool.eq_iff_iff]; simp
                      rw [e1]
                      exact q' _ t'
                  · rw [decide_eq_true (by simpa using hz), Bool.true_or] at q'
                    rw [decide_eq_false (fun e => hz (V.str.inj e))]
                    exact iteT (q' _ t')
            · rw [decide_eq_false (show ¬ V.int (ys.length : Int) = V.int i from fun z => c (by rw [← ly]; exact V.int.inj z))]
              rw [decide_eq_false c, Bool.false_and] at q'
              exact iteT (q' _ s1)
        | _ => exact iteT (q _ (Same.refl _))
    | _ => exact iteT (iteT (q _ (Same.refl _)))
end
end My

set_option Elab.async false
set_option linter.all false
set_option maxRecDepth 100000
set_option maxHeartbeats 8000000
namespace My
open PySem PySem.Spec PyProof.Rows L2
/-! ### what is read of steps -/
def fstD : PyData → Str | .tuple (.str z :: _) => z | _ => Str.ofString ""
def secD : PyData → PyData | .tuple (_ :: a :: _) => a | _ => .none
def lasD : PyData → PyData | .tuple [_, a] => a | .tuple [_, _, b] => b | _ => .none
def sentL (ds : List PyData) : List PyData := (ds.filter fun d => !decide (fstD d = Str.ofString "put")).map secD
def cameL (ds : List PyData) : List PyData := (ds.filter fun d => !decide (fstD d = Str.ofString "lost")).map lasD
def errL (ds : List PyData) : List PyData := ds.filter fun d => !decide (fstD d = Str.ofString "same")
/-- a step: a text and one number, or two -/
def Stp (d : PyData) : Prop := (∃ z a, d = .tuple [.str z, .int a]) ∨ ∃ z a b, d = .tuple [.str z, .int a, .int b]
theorem isSt_shape {n : Int} {d : PyData} (h : isSt n d = true) : (∃ z a, d = .tuple [.str z, .int a] ∧ (z = Str.ofString "lost" ∨ z = Str.ofString "put" ∨ z = Str.ofString "same") ∧ 0 ≤ a ∧ a < n) ∨
    ∃ a b, d = .tuple [.str (Str.ofString "turned"), .int a, .int b] ∧ 0 ≤ a ∧ a < n ∧ 0 ≤ b ∧ b < n := by
  unfold isSt at h
  rw [Bool.or_eq_true] at h
  rcases h with h | h
  · unfold isKd at h
    split at h
    · rename_i z a
      simp only [Bool.and_eq_true, Bool.or_eq_true, decide_eq_true_eq] at h
      obtain ⟨i, rfl, h1, h2⟩ := isBe_int h.2
      exact .inl ⟨z, i, rfl, h.1.elim .inl (fun h => .inr (.inl h)), h1, h2⟩
    · rename_i z a b
      simp only [Bool.and_eq_true, decide_eq_true_eq] at h
      obtain ⟨i, rfl, h1, h2⟩ := isBe_int h.2.1
      obtain ⟨j, rfl, h3, h4⟩ := isBe_int h.2.2.1
      exact .inr ⟨i, j, by rw [h.1], h1, h2, h3, h4⟩
    · cases h
  · unfold isSm at h
    split at h
    · rename_i z a
      simp only [Bool.and_eq_true, decide_eq_true_eq] at h
      obtain ⟨i, rfl, h1, h2⟩ := isBe_int h.2
      exact .inl ⟨z, i, rfl, .inr (.inr h.1), h1, h2⟩
    · cases h
theorem isSt_Stp {n : Int} {d : PyData} (h : isSt n d = true) : Stp d := by
  rcases isSt_shape h with ⟨z, a, e, _⟩ | ⟨a, b, e, _⟩
  · exact .inl ⟨z, a, e⟩
  · exact .inr ⟨_, a, b, e⟩
theorem isKd_of {n : Int} {d : PyData} (h : isSt n d = true) : isKd n d = !decide (fstD d = Str.ofString "same") := by
  have d1 : (Str.ofString "lost") ≠ Str.ofString "same" := by decide
  have d2 : (Str.ofString "put") ≠ Str.ofString "same" := by decide
  have d3 : (Str.ofString "turned") ≠ Str.ofString "same" := by decide
  have d9 : (Str.ofString "same") ≠ Str.ofString "lost" := by decide
  have d10 : (Str.ofString "same") ≠ Str.ofString "put" := by decide
  rcases isSt_shape h with ⟨z, a, rfl, hz, h1, h2⟩ | ⟨a, b, rfl, h1, h2, h3, h4⟩
  · unfold isKd fstD isBe
    rcases hz with rfl | rfl | rfl <;> simp [*]
  · have hk : isSm n (.tuple [.str (Str.ofString "turned"), .int a, .int b]) = false := rfl
    unfold isSt at h
    rw [hk, Bool.or_false] at h
    rw [h]
    unfold fstD
    simp [d3]
def BdP : PyData → Prop | .tuple ds => ds.length ≤ 1000 ∧ ∀ e ∈ ds, Bd e | _ => True
theorem isSg_int {e : PyData} (h : isSg e = true) : ∃ n, e = .int n ∧ 1 ≤ n ∧ n ≤ 5 := by
  cases e with
  | int i =>
    have h' : (decide (1 ≤ i) && decide (i ≤ 5)) = true := h
    simp only [Bool.and_eq_true, decide_eq_true_eq] at h'
    exact ⟨i, rfl, h'.1, h'.2⟩
  | _ => cases h
section
variable {P : Program} {w : World} {K : PySem.W.Frag} {mg : Str → Option Value} {base : Heap}
theorem Stp.at0 {H : Hp} {m : Bool} {x : V} {d : PyData} (hd : Dg K H m x d) (h : Stp d) : ∃ b v vs, x = .ref b ∧ SqT K H b (.str (fstD d) :: v :: vs) ∧ Dg K H m v (secD d) ∧ ∃ u, atI (V.str (fstD d) :: v :: vs) (-1) = some u ∧ Dg K H m u (lasD d) := by
  obtain ⟨b, xs, rfl, hs, ha⟩ : ∃ b xs, x = .ref b ∧ SqT K H b xs ∧ ∃ ds, d = .tuple ds ∧ DgAll K H m xs ds := by
    rcases h with ⟨z, a, rfl⟩ | ⟨z, a, b, rfl⟩
    · obtain ⟨b, xs, e, hs, ha⟩ := hd.tup_of; exact ⟨b, xs, e, hs, _, rfl, ha⟩
    · obtain ⟨b, xs, e, hs, ha⟩ := hd.tup_of; exact ⟨b, xs, e, hs, _, rfl, ha⟩
  obtain ⟨ds, e, ha⟩ := ha
  rcases h with ⟨z, a, rfl⟩ | ⟨z, a, c, rfl⟩
  · cases e
    obtain ⟨x0, ys, rfl, h0, ha⟩ := ha.cons_of
    obtain ⟨x1, ys, rfl, h1, ha⟩ := ha.cons_of
    obtain rfl := ha.nil_of
    obtain rfl := h0.str_of
    exact ⟨b, x1, [], rfl, hs, h1, x1, atI_last [V.str z] x1, h1⟩
  · cases e
    obtain ⟨x0, ys, rfl, h0, ha⟩ := ha.cons_of
    obtain ⟨x1, ys, rfl, h1, ha⟩ := ha.cons_of
    obtain ⟨x2, ys, rfl, h2, ha⟩ := ha.cons_of
    obtain rfl := ha.nil_of
    obtain rfl := h0.str_of
    exact ⟨b, x1, [x2], rfl, hs, h1, x2, atI_last [V.str z, x1] x2, h2⟩
theorem ok_is_free (T : Txt K mg w) : FnOk P w K mg base CX0 1 T.f_is_free T.fd_is_free ["step"] (fun vs H Q _ => ∃ x d m, vs = [x] ∧ Dg K H m x d ∧ Stp d ∧ Q (.bl (decide (fstD d = Str.ofString "same"))) H) := by
  refine T.F_is_free.ok sc_is_free (fun vs H Q E h => ?_) (fun cdv A outer s H vs Q E hr h => ?_)
  · obtain ⟨x, d, m, rfl, _⟩ := h; rfl
  · obtain ⟨x, d, m, rfl, hd, st, q⟩ := h
    refine ⟨_, (pss_one (ps_ret (pe_cmpR op_eq (pe_ix ix_tup (pv 0) pe_int (fun _ _ => rfl)) pe_str (nomark _)))), ?_⟩
    obtain ⟨b, v, vs, rfl, hs, _⟩ := st.at0 hd
    refine ⟨_, rfl, b, _, _, _, rfl, rfl, hs, atI_nat (j := 0) rfl, rfl, ?_⟩
    have e : decide (V.str (fstD d) = V.str (Str.ofString "same")) = decide (fstD d = Str.ofString "same") := by rw [Bool.eq_iff_iff]; simp
    rw [e]; exact q
def spKi (K : PySem.W.Frag) (f : PyData → PyData → Bool) (B : PyData → Prop) : Sp := fun vs H Q _ => ∃ x y d e m m2, vs = [x, y] ∧ Dg K H m x d ∧ Dg K H m2 y e ∧ B d ∧ ∀ H', Same H H' → Q (.bl (f d e)) H'
theorem ok_is_kind (T : Txt K mg w) : FnOk P w K mg base CX0 5 T.f_is_kind T.fd_is_kind ["value", "signs"] (spKi K isKind Bd) := by
  refine T.F_is_kind.ok sc_is_kind (fun vs H Q E h => ?_) (fun cdv A outer s H vs Q E hr h => ?_)
  · obtain ⟨x, y, d, e, m, m2, rfl, _⟩ := h; rfl
  · obtain ⟨x, y, d, e, m, m2, rfl, hd, he, bd, q⟩ := h
    refine ⟨_, (pss_one (ps_ret (pe_and (pe_call (ok_is_number_of_signs T) (hr.mono (by decide)) rfl T.g_is_number_of_signs T.F_is_number_of_signs.kp T.b_is_number_of_signs .nil pass0 (pa_cons (pv 1) pa_nil)) (pe_and (pe_call (ok_is_step_passings T) (hr.mono (by decide)) rfl T.g_is_step_passings T.F_is_step_passings.kp T.b_is_step_passings .nil pass0 (pa_cons (pv 0) (pa_cons (pv 1) pa_nil))) (pe_one (pe_not (pe_call (ok_is_free T) (hr.mono (by decide)) rfl T.g_is_free T.F_is_free.kp T.b_is_free .nil pass0 (pa_cons (pv 0) pa_nil)))))))), ?_⟩
    unfold isKind at q
    refine ⟨_, rfl, y, e, m2, rfl, he, _, rfl, ?_⟩
    cases hs : isSg e with
    | false => rw [hs, Bool.false_and] at q; exact iteF (q _ (Same.refl _))
    | true =>
      rw [hs, Bool.true_and] at q
      obtain ⟨n, rfl, _⟩ := isSg_int hs
      obtain rfl := he.int_of
      have q : ∀ H', Same H H' → Q (.bl (isKd n d)) H' := q
      refine iteT ⟨_, rfl, _, rfl, x, d, m, n, rfl, hd, bd, fun H1 s1 => ⟨_, rfl, ?_⟩⟩
      cases ht : isSt n d with
      | false =>
        have : isKd n d = false := by unfold isSt at ht; rw [Bool.or_eq_false_iff] at ht; exact ht.1
        rw [this] at q
        exact iteF (q _ s1)
      | true =>
        rw [isKd_of ht] at q
        exact iteT ⟨_, rfl, x, d, m, rfl, hd.ext s1, isSt_Stp ht, _, rfl, q _ s1⟩
end
end My

set_option Elab.async false
set_option linter.all false
set_option maxRecDepth 100000
set_option maxHeartbeats 8000000
namespace My
open PySem PySem.Spec PyProof.Rows L2
def kindsB (e d : PyData) : Bool := isSqD d && (itsD d).all fun k => isKind k e
section
variable {P : Program} {w : World} {K : PySem.W.Frag} {mg : Str → Option Value} {base : Heap}
theorem ok_are_kinds (T : Txt K mg w) : FnOk P w K mg base CX0 6 T.f_are_kinds T.fd_are_kinds ["value", "signs"] (fun vs H Q _ => ∃ x d m n, vs = [x, .int n] ∧ Dg K H m x d ∧ (itsD d).length ≤ 100000 ∧ (∀ e ∈ itsD d, Bd e) ∧ ∀ H', Same H H' → Q (.bl (kindsB (.int n) d)) H') := by
  refine T.F_are_kinds.ok sc_are_kinds (fun vs H Q E h => ?_) (fun cdv A outer s H vs Q E hr h => ?_)
  · obtain ⟨x, d, m, n, rfl, _⟩ := h; rfl
  · obtain ⟨x, d, m, n, rfl, hd, hl, hb, q⟩ := h
    refine ⟨_, (pss_one (ps_ret (pe_and (pe_call (ok_is_list T) (hr.mono (by decide)) rfl T.g_is_list T.F_is_list.kp T.b_is_list .nil pass0 (pa_cons (pv 0) pa_nil)) (pe_one (pe_callB (cr_all rfl) (by rfl) T.z_all (by decide +kernel) (pa_cons (pe_lc (own := [("kind", 2)]) (g := gName 2) (by rfl) sc_are_kinds.nd (pi_sq (pv 0)) (blkOk_by (own := [("kind", 2)]) (N := N_are_kinds) (sc := defScope s_are_kinds) (by decide +kernel)) (fun _ _ _ _ _ => pg_name (i := 2) sc_are_kinds.nd rfl (Or.inl rfl)) (fun _ _ _ _ _ => pts_nil) (fun _ _ _ _ _ => (pe_call (ok_is_kind T) (hr.mono (by decide)) rfl T.g_is_kind T.F_is_kind.kp T.b_is_kind .nil pass0 (pa_cons (pv 2) (pa_cons (pv 1) pa_nil))))) pa_nil)))))), ?_⟩
    refine ⟨_, rfl, x, d, m, rfl, hd, fun H1 s1 => ⟨_, rfl, ?_⟩⟩
    have q' : ∀ H', Same H H' → Q (.bl (isSqD d && (itsD d).all fun k => isKind k (.int n))) H' := q
    cases hf : isSqD d with
    | false => rw [hf, Bool.false_and] at q'; exact iteF (q' _ s1)
    | true =>
      rw [hf, Bool.true_and] at q'
      obtain ⟨a, ys, rfl, hq, hes⟩ := (hd.ext s1).lst_q (sq_its hf)
      generalize itsD d = es at *
      have le := hes.len
      refine iteT ⟨_, rfl, a, rfl, lc_sq hq fun D hD => ⟨fun i H' => Same H1 H' ∧ H' D = some (.lst (((es.take i).map fun k => isKind k (.int n)).map V.bl)), ⟨Same.new (Same.refl _) hD, upd_same⟩, fun i H' h => h.1, ?_, ?_⟩⟩
      · rintro i x H' hx ⟨s', e'⟩
        obtain ⟨d', hd', dx⟩ := hes.at i x hx
        have hm : d' ∈ es := List.mem_of_getElem? hd'
        refine ⟨rfl, tYesT ⟨_, rfl, _, rfl, x, .int n, d', .int n, m, false, rfl, dx.ext s', .int _, hb d' hm, fun H2 s2 => ?_⟩⟩
        refine ⟨_, s2 _ _ e', ?_, fun b o e => ?_, ?_⟩
        · rw [List.length_map, List.length_map]
          exact Nat.lt_of_le_of_lt (List.length_take_le' _ _) (Nat.lt_of_le_of_lt hl (by decide))
        · rw [upd_ne (ne_of_none e hD)]; exact s2 _ _ (s' b o e)
        · rw [upd_same, List.take_add_one, hd', List.map_append, List.map_append]; rfl
      · rintro H2 ⟨s', e'⟩
        rw [le, List.take_length] at e'
        refine ⟨D, _, rfl, SqL.of e', ?_⟩
        rw [all_id]
        exact q' _ (s1.trans s')
theorem ok_check_decoder (T : Txt K mg w) : FnOk P w K mg base (L2.CX P w) 3 T.f_check_decoder T.fd_check_decoder ["value"] (fun vs H Q E => ∃ x, vs = [x] ∧ ((∃ o D, x = .ref o ∧ DecAt K T.C_Decoder H o D ∧ Q .non H) ∨ (∃ d m, Dg K H m x d ∧ Bad T.C_InvalidDecoder H x E))) := by
  refine T.F_check_decoder.okX sc_check_decoder (fun vs H Q E h => ?_) (fun cdv A outer s H vs Q E hr h => ?_)
  · obtain ⟨x, rfl, _⟩ := h; rfl
  · obtain ⟨x, rfl, h⟩ := h
    refine ⟨_, (pss_one (ps_if (pt_not (pt_val (pe_callB call_isi (by rfl) T.z_isinstance (by decide +kernel) (pa_cons (pv 0) (pa_cons (pe_glob (v := .ref T.C_Decoder) rfl T.g_Decoder rfl) pa_nil))))) (pss_one (ps_raiseE rfl T.e_InvalidDecoder hr (takes_of rfl rfl rfl rfl) (pa_cons (pv 0) pa_nil))) pss_nil)), ?_⟩
    rcases h with ⟨o, D, rfl, ⟨⟨dx, Sa, Ea, eo, _, _⟩, _⟩, q⟩ | ⟨d, m, hd, kb⟩
    · exact ⟨_, rfl, _, _, _, _, true, rfl, .own _, T.oe_Decoder.ty eo, kit_same, _, rfl, iteF q⟩
    · exact ⟨_, rfl, _, _, _, _, false, rfl, .own _, hd.ty, kit_ownD T.ii_Decoder T.it_Decoder d, _, rfl, iteT ⟨_, rfl, x, rfl, fun dd hdd => kb dd _ (Same.new (Same.refl _) hdd) hdd upd_same⟩⟩
end
end My

set_option Elab.async false
set_option linter.all false
set_option maxRecDepth 100000
set_option maxHeartbeats 8000000
namespace My
open PySem PySem.Spec PyProof.Rows L2
section
variable {P : Program} {w : World} {K : PySem.W.Frag} {mg : Str → Option Value} {base : Heap}
theorem ok_check_kinds (T : Txt K mg w) : FnOk P w K mg base (L2.CX P w) 7 T.f_check_kinds T.fd_check_kinds ["decoder", "kinds"] (fun vs H Q E => ∃ x y, vs = [x, y] ∧ ((∃ d m, Dg K H m x d ∧ Bad T.C_InvalidDecoder H x E) ∨
    (∃ o D e m, x = .ref o ∧ DecAt K T.C_Decoder H o D ∧ Dg K H m y e ∧ (itsD e).length ≤ 100000 ∧ (∀ k ∈ itsD e, Bd k) ∧ ((kindsB (.int (D.sg : Nat)) e = false ∧ Bad T.C_InvalidKinds H y E) ∨ (kindsB (.int (D.sg : Nat)) e = true ∧ ∀ H', Same H H' → Q .non H'))))) := by
  refine T.F_check_kinds.okX sc_check_kinds (fun vs H Q E h => ?_) (fun cdv A outer s H vs Q E hr h => ?_)
  · obtain ⟨x, y, rfl, _⟩ := h; rfl
  · obtain ⟨x, y, rfl, h⟩ := h
    refine ⟨_, (pss_cons (ps_expr (pe_call (ok_check_decoder T) (hr.mono (by decide)) rfl T.g_check_decoder T.F_check_decoder.kp T.b_check_decoder .nil (passes_call (takes_of rfl rfl rfl rfl) (fun _ _ _ _ z => z)) (pa_cons (pv 0) pa_nil)))
      (pss_one (ps_if (pt_not (pt_val (pe_call (ok_are_kinds T) (hr.mono (by decide)) rfl T.g_are_kinds T.F_are_kinds.kp T.b_are_kinds .nil pass0 (pa_cons (pv 1) (pa_cons (pe_fld (pv 0) rfl) pa_nil))))) (pss_one (ps_raiseE rfl T.e_InvalidKinds hr (takes_of rfl rfl rfl rfl) (pa_cons (pv 1) pa_nil))) pss_nil))), ?_⟩
    rcases h with ⟨d, m, hd, kb⟩ | ⟨o, D, e, m, rfl, dec, hy, hl, hb, h⟩
    · exact ⟨_, rfl, x, rfl, .inr ⟨d, m, hd, kb⟩⟩
    obtain ⟨⟨dx, Sa, Ea, eo, _, _⟩, _⟩ := id dec
    refine ⟨_, rfl, .ref o, rfl, .inl ⟨o, D, rfl, dec, ?_⟩⟩
    refine ⟨_, rfl, _, rfl, o, _, dx, _, _, rfl, eo, T.cl_Decoder, T.na_Decoder_signs, dfs_signs, y, e, m, _, rfl, hy, hl, hb, fun H1 s1 => ⟨_, rfl, ?_⟩⟩
    rcases h with ⟨hf, kb⟩ | ⟨ht, q⟩
    · rw [hf]
      exact iteT ⟨_, rfl, y, rfl, fun dd hdd => kb dd _ (Same.new s1 hdd) (s1.free hdd) upd_same⟩
    · rw [ht]
      exact iteF (q H1 s1)
end
end My

set_option Elab.async false
set_option linter.all false
set_option maxRecDepth 100000
set_option maxHeartbeats 4000000
/-! Steps of a passing: as keys, as data, in the heap. -/
namespace My
open PySem PySem.Spec PyProof.Rows L2
inductive Mv where
  | los (a : Int) | put (a : Int) | sam (a : Int) | tur (a b : Int)
  deriving DecidableEq
def Mv.key : Mv → List L2.Key
  | .los a => [.inr (Str.ofString "lost"), .inl a]
  | .put a => [.inr (Str.ofString "put"), .inl a]
  | .sam a => [.inr (Str.ofString "same"), .inl a]
  | .tur a b => [.inr (Str.ofString "turned"), .inl a, .inl b]
def Mv.dat : Mv → PyData
  | .los a => .tuple [.str (Str.ofString "lost"), .int a]
  | .put a => .tuple [.str (Str.ofString "put"), .int a]
  | .sam a => .tuple [.str (Str.ofString "same"), .int a]
  | .tur a b => .tuple [.str (Str.ofString "turned"), .int a, .int b]
theorem ne_ls : (Str.ofString "lost") ≠ Str.ofString "same" := by decide
theorem ne_ps : (Str.ofString "put") ≠ Str.ofString "same" := by decide
theorem ne_pl : (Str.ofString "put") ≠ Str.ofString "lost" := by decide
theorem ne_ts : (Str.ofString "turned") ≠ Str.ofString "same" := by decide
theorem ne_tl : (Str.ofString "turned") ≠ Str.ofString "lost" := by decide
theorem ne_tp : (Str.ofString "turned") ≠ Str.ofString "put" := by decide
theorem Mv.key_inj : ∀ {m n : Mv}, m.key = n.key → m = n := by
  intro m n h
  cases m <;> cases n <;> simp [Mv.key, ne_ls, ne_ps, ne_pl, ne_ts, ne_tl, ne_tp, Ne.symm ne_ls, Ne.symm ne_ps, Ne.symm ne_pl, Ne.symm ne_ts, Ne.symm ne_tl, Ne.symm ne_tp] at h ⊢ <;> first | exact h | skip
/-- the step that a datum is -/
def undM : PyData → Mv
  | .tuple [.str z, .int a] => if z = Str.ofString "lost" then .los a else if z = Str.ofString "put" then .put a else .sam a
  | .tuple [_, .int a, .int b] => .tur a b
  | _ => .sam 0
theorem undM_dat : ∀ m : Mv, undM m.dat = m
  | .los a => by show (if Str.ofString "lost" = Str.ofString "lost" then Mv.los a else if Str.ofString "lost" = Str.ofString "put" then Mv.put a else Mv.sam a) = _; exact if_pos rfl
  | .put a => by show (if Str.ofString "put" = Str.ofString "lost" then Mv.los a else if Str.ofString "put" = Str.ofString "put" then Mv.put a else Mv.sam a) = _; rw [if_neg ne_pl, if_pos rfl]
  | .sam a => by show (if Str.ofString "same" = Str.ofString "lost" then Mv.los a else if Str.ofString "same" = Str.ofString "put" then Mv.put a else Mv.sam a) = _; rw [if_neg (Ne.symm ne_ls), if_neg (Ne.symm ne_ps)]
  | .tur a b => rfl
def MvAt (H : Hp) (v : V) (m : Mv) : Prop := ∃ b, v = .ref b ∧ H b = some (.tup (m.key.map kV))
theorem MvAt.ext {H H' : Hp} (s : Same H H') {v : V} {m : Mv} (h : MvAt H v m) : MvAt H' v m := by
  obtain ⟨b, e, h⟩ := h; exact ⟨b, e, s _ _ h⟩
theorem mvs_ext {H H' : Hp} (s : Same H H') {vs : List V} {ms : List Mv} (h : Paired (MvAt H) vs ms) : Paired (MvAt H') vs ms := L2.Paired.mapP h fun _ _ h => h.ext s
theorem MvAt.dp {K : PySem.W.Frag} {H : Hp} {v : V} {m : Mv} (h : MvAt H v m) : Dp K H v m.dat := by
  obtain ⟨b, rfl, h⟩ := h
  cases m with
  | tur a b => exact .tup (.inl (.inl h)) (.cons (.str _) (.cons (.int _) (.cons (.int _) .nil)))
  | _ a => exact .tup (.inl (.inl h)) (.cons (.str _) (.cons (.int _) .nil))
theorem MvAt.dg {K : PySem.W.Frag} {H : Hp} {v : V} {m : Mv} {f : Bool} (h : MvAt H v m) : Dg K H f v m.dat := by
  obtain ⟨b, rfl, h⟩ := h
  cases m with
  | tur a b => exact .tup (.inl (.inl h)) (.cons (.str _) (.cons (.int _) (.cons (.int _) .nil)))
  | _ a => exact .tup (.inl (.inl h)) (.cons (.str _) (.cons (.int _) .nil))
theorem mvs_dp {K : PySem.W.Frag} {H : Hp} : ∀ {vs : List V} {ms : List Mv}, Paired (MvAt H) vs ms → DpAll K H vs (ms.map Mv.dat)
  | _, _, .nil => .nil
  | _, _, .cons h t => .cons h.dp (mvs_dp t)
theorem mvs_dg {K : PySem.W.Frag} {H : Hp} {f : Bool} : ∀ {vs : List V} {ms : List Mv}, Paired (MvAt H) vs ms → DgAll K H f vs (ms.map Mv.dat)
  | _, _, .nil => .nil
  | _, _, .cons h t => .cons h.dg (mvs_dg t)
theorem pr_len {α β : Type} {F : α → β → Prop} : ∀ {xs : List α} {ys : List β}, Paired F xs ys → xs.length = ys.length
  | _, _, .nil => rfl
  | _, _, .cons _ t => by rw [List.length_cons, List.length_cons, pr_len t]
theorem pr_get {α β : Type} {F : α → β → Prop} : ∀ {xs : List α} {ys : List β}, Paired F xs ys → ∀ {i : Nat} {x : α}, xs[i]? = some x → ∃ y, ys[i]? = some y ∧ F x y
  | _, _, .nil, i, x, h => by cases h
  | _, _, .cons h t, 0, x, e => by
    obtain rfl := Option.some.inj e
    exact ⟨_, rfl, h⟩
  | _, _, .cons h t, i + 1, x, e => pr_get t e
theorem pr_app {α β : Type} {F : α → β → Prop} : ∀ {xs : List α} {ys : List β} {xs' : List α} {ys' : List β}, Paired F xs ys → Paired F xs' ys' → Paired F (xs ++ xs') (ys ++ ys')
  | _, _, _, _, .nil, h => h
  | _, _, _, _, .cons h t, g => .cons h (pr_app t g)
theorem pr_zip {α β : Type} {F : α → β → Prop} : ∀ {xs : List α} {ys : List β}, Paired F xs ys → ∀ p ∈ xs.zip ys, F p.1 p.2
  | _, _, .nil => fun p h => by cases h
  | _, _, .cons h t => fun p hp => by
    rcases List.mem_cons.mp hp with e | e
    · rw [e]; exact h
    · exact pr_zip t p e
theorem mv_alike (ms : List Mv) : PySem.W.AllAlike (ms.map Mv.dat) := PySem.W.AllAlike.of fun m n => by
  cases m <;> cases n <;> rfl
theorem mv_sortable (ms : List Mv) : PySem.W.Sortable (ms.map Mv.dat) := .inl fun d hd => by
  obtain ⟨m, _, rfl⟩ := List.mem_map.mp hd
  cases m <;> exact ⟨_, _, rfl⟩
theorem mv_depth (m : Mv) : m.dat.depth ≤ 60 := by
  cases m <;> simp [Mv.dat, PyData.depth, PyData.depthAll]
/-- what is sorted, as steps -/
theorem mv_sorted {H : Hp} {xs : List V} {ms : List Mv} (h : Paired (MvAt H) xs ms) : ∃ ns : List Mv, Paired (MvAt H) ((srtD xs (ms.map Mv.dat)).map (·.1)) ns ∧ ns.Perm ms := by
  have hp := srtD_perm xs (ms.map Mv.dat)
  have hz : ∀ p ∈ srtD xs (ms.map Mv.dat), MvAt H p.1 (undM p.2) := fun p hm => by
    have hm := hp.mem_iff.mp hm
    have e : xs.zip (ms.map Mv.dat) = (xs.zip ms).map fun q => (q.1, q.2.dat) := by
      rw [List.zip_map_right]; rfl
    rw [e] at hm
    obtain ⟨q, hq, rfl⟩ := List.mem_map.mp hm
    show MvAt H q.1 (undM q.2.dat)
    rw [undM_dat]
    exact pr_zip h q hq
  refine ⟨(srtD xs (ms.map Mv.dat)).map fun p => undM p.2, ?_, ?_⟩
  · generalize srtD xs (ms.map Mv.dat) = l at hz
    induction l with
    | nil => exact .nil
    | cons p l ih => exact .cons (hz p List.mem_cons_self) (ih fun q hq => hz q (List.mem_cons_of_mem _ hq))
  · have h1 := hp.map fun p : V × PyData => undM p.2
    refine h1.trans (List.Perm.of_eq ?_)
    have l := pr_len h
    have e : (xs.zip (ms.map Mv.dat)).map (fun p : V × PyData => undM p.2) = ((xs.zip (ms.map Mv.dat)).map Prod.snd).map undM := by rw [List.map_map]; rfl
    rw [e, List.map_snd_zip (by rw [List.length_map]; omega), List.map_map]
    have e2 : (undM ∘ Mv.dat) = id := funext undM_dat
    rw [e2, List.map_id]
/-! ### the keys of a dict of steps -/
theorem put_keys {κ : Type} [DecidableEq κ] (kvs : List (κ × V)) (k : κ) (v : V) : ∀ j, j ∈ (putK kvs k v).map (·.1) ↔ j ∈ kvs.map (·.1) ∨ j = k := by
  intro j
  unfold putK
  split
  · rename_i h
    rw [List.map_map]
    have e : ((fun kv : κ × V => kv.1) ∘ fun kv => if kv.1 = k then (kv.1, v) else kv) = fun kv => kv.1 := funext fun kv => by
      show (if kv.1 = k then (kv.1, v) else kv).1 = kv.1
      split <;> rfl
    rw [e]
    refine ⟨.inl, fun z => z.elim id fun z => ?_⟩
    rw [z]
    obtain ⟨kv, hm, he⟩ := List.any_eq_true.mp h
    exact List.mem_map.mpr ⟨kv, hm, of_decide_eq_true he⟩
  · rw [List.map_append, List.mem_append]
    simp
/-- the keys of a dict, laid, when each is a step -/
theorem keys_mv {H : Hp} {P : Mv → Prop} : ∀ {kvs : List (List L2.Key × V)} {bs : List Addr}, IsKeys H kvs bs → (∀ k ∈ kvs.map (·.1), ∃ m, k = m.key ∧ P m) → ∃ ms : List Mv, Paired (MvAt H) (bs.map V.ref) ms ∧ kvs.map (·.1) = ms.map Mv.key ∧ ∀ m ∈ ms, P m
  | _, _, .nil, _ => ⟨[], .nil, rfl, fun _ h => by cases h⟩
  | _, _, .cons h t, hk => by
    obtain ⟨m, e, p⟩ := hk _ List.mem_cons_self
    obtain ⟨ms, h1, h2, h3⟩ := keys_mv t fun k hm => hk k (List.mem_cons_of_mem _ hm)
    refine ⟨m :: ms, .cons ⟨_, rfl, by rw [← e]; exact h⟩ h1, by rw [List.map_cons, List.map_cons, h2]; exact congrArg (· :: _) e, fun n hn => ?_⟩
    rcases List.mem_cons.mp hn with z | z
    · rw [z]; exact p
    · exact h3 n z
end My

set_option Elab.async false
set_option linter.all false
set_option maxRecDepth 100000
set_option maxHeartbeats 8000000
namespace My
open PySem PySem.Spec PyProof.Rows L2
section
variable {P : Program} {w : World} {K : PySem.W.Frag} {mg : Str → Option Value} {base : Heap}
def spSw (K : PySem.W.Frag) : Sp := fun vs H Q _ => ∃ a xs ks, ∃ n : Nat, vs = [.int n, .ref a] ∧ SqQ K H a xs ∧ Paired (MvAt H) xs ks ∧ ks.length ≤ 1000 ∧ n ≤ 1000 ∧
  ∀ p ys ms H', Same H H' → H p = none → H' p = some (.lst ys) → Paired (MvAt H') ys ms → (∀ m, m ∈ ms ↔ m ∈ ks ∨ ∃ a : Nat, a < n ∧ m = .sam a) → ms.length ≤ ks.length + n → Q (.ref p) H'
theorem ok_steps_with (T : Txt K mg w) : FnOk P w K mg base CX0 1 T.f_steps_with T.fd_steps_with ["signs", "kinds"] (spSw K) := by
  refine T.F_steps_with.ok sc_steps_with (fun vs H Q E h => ?_) (fun cdv A outer s H vs Q E hr h => ?_)
  · obtain ⟨a, xs, ks, n, rfl, _⟩ := h; rfl
  · obtain ⟨a, xs, ks, n, rfl, hq, hk, lk, ln, q⟩ := h

    refine ⟨_, (pss_cons (ps_setDcT (i := 2) (own := [("kind", 3)]) (g := gName 3) (hu_of hr) (by rfl) sc_steps_with.nd rfl rfl (sw_dc rfl rfl rfl (by decide +kernel)) (pi_sq (pv 1)) (blkOk_by (own := [("kind", 3)]) (N := N_steps_with) (sc := defScope s_steps_with) (by decide +kernel)) (fun _ _ _ _ _ => pg_name (i := 3) sc_steps_with.nd rfl (Or.inl rfl)) (fun _ _ _ _ _ => pts_nil) (fun _ _ _ _ _ => (pv 3)) (fun _ _ _ _ _ => pe_bl))
      (pss_one (ps_ret (pe_callB (cr_sortedD (un64 hr)) (by rfl) T.z_sorted (by decide +kernel) (pa_cons (pe_lst (pa_starT (by rfl) (pv 2) (StX.pa_star (pe_lc (own := [("sign", 4)]) (g := gName 4) (by rfl) sc_steps_with.nd (pi_range1 rfl T.z_range (pa_cons (pv 0) pa_nil)) (blkOk_by (own := [("sign", 4)]) (N := N_steps_with) (sc := defScope s_steps_with) (by decide +kernel)) (fun _ _ _ _ _ => pg_name (i := 4) sc_steps_with.nd rfl (Or.inl rfl)) (fun _ _ _ _ _ => pts_nil) (fun _ _ _ _ _ => (pe_tup (pa_cons pe_str (pa_cons (pv 4) pa_nil))))) pa_nil))) pa_nil))))), ?_⟩
    refine ⟨_, rfl, a, rfl, dcT_sq hq fun D hD => ⟨fun i G => Same H G ∧ ∃ kvs, G D = some (.dT kvs) ∧ kvs.length ≤ i ∧ ∀ k, k ∈ kvs.map (·.1) ↔ ∃ m ∈ ks.take i, k = m.key, ⟨Same.new (Same.refl _) hD, [], upd_same, Nat.le_refl _, fun k => ?_⟩, fun i G h => h.1, ?_, ?_⟩⟩
    · constructor
      · intro h; cases h
      · rintro ⟨m, hm, _⟩; simp at hm
    · rintro i x G hx ⟨s1, kvs, eD, lt, hm⟩
      obtain ⟨m, hm', b, rfl, hb⟩ := pr_get hk hx
      have hi := (List.getElem?_eq_some_iff.mp hx).1
      have ll := pr_len hk
      refine ⟨rfl, tYesT ⟨_, rfl, kvs, m.key, b, rfl, s1 _ _ hb, eD, Nat.lt_of_le_of_lt (by omega : kvs.length ≤ 1000) (by decide), ?_, _, upd_same, Nat.le_trans (length_putK _ _ _) (by omega), fun k => ?_⟩⟩
      · intro b o e
        rw [upd_ne (ne_of_none e hD)]; exact s1 b o e
      · rw [put_keys, hm, List.take_add_one, hm']
        constructor
        · rintro (⟨n, h1, h2⟩ | h)
          · exact ⟨n, List.mem_append_left _ h1, h2⟩
          · exact ⟨m, List.mem_append_right _ (by simp), h⟩
        · rintro ⟨n, h1, h2⟩
          rcases List.mem_append.mp h1 with z | z
          · exact .inl ⟨n, z, h2⟩
          · have : n = m := by simpa using z
            rw [this] at h2
            exact .inr h2
    rintro G ⟨s1, kvs, eD, lk', hm⟩
    have ll := pr_len hk
    rw [ll, List.take_length] at hm
    refine ⟨_, rfl, D, kvs, rfl, .inl eD, fun bs hbs => ?_⟩
    obtain ⟨ds, hds, ek, hin⟩ := keys_mv (P := fun m => m ∈ ks) hbs fun k hk' => by
      obtain ⟨m, h1, h2⟩ := (hm k).mp hk'
      exact ⟨m, h2, h1⟩
    have ld : ds.length ≤ ks.length := by
      have := congrArg List.length ek
      rw [List.length_map, List.length_map] at this
      omega
    have hin' : ∀ m, m ∈ ks → m ∈ ds := fun m h => by
      have := (hm m.key).mpr ⟨m, h, rfl⟩
      rw [ek] at this
      obtain ⟨m', h1, h2⟩ := List.mem_map.mp this
      rw [← Mv.key_inj h2]; exact h1
    refine ⟨_, rfl, (n : Int), rfl, by omega, by omega, fun L hL => lc_range (lo := 0) (n := n) (fun i G' => Same G G' ∧ ∃ acc, G' L = some (.lst acc) ∧ Paired (MvAt (wo G' L)) acc ((List.range i).map fun a : Nat => Mv.sam a)) ⟨Same.new (Same.refl _) hL, [], upd_same, .nil⟩ ?_ ?_⟩
    · rintro i G' hi ⟨s2, acc, e2, h2⟩
      refine ⟨rfl, tYesT ⟨_, rfl, (by show 2 ≤ sizeLine; decide), fun p hp => ⟨acc, ?_, ?_, ?_, _, upd_same, ?_⟩⟩⟩
      · rw [upd_ne (ne_of_none e2 hp)]; exact e2
      · have := pr_len h2
        rw [List.length_map, List.length_range] at this
        rw [this]; exact Nat.lt_of_le_of_lt (by omega : i ≤ 1000) (by decide)
      · intro b o e
        rw [upd_ne (ne_of_none e hL), upd_ne (ne_of_none (s2 _ _ e) hp)]; exact s2 b o e
      · have np : p ≠ L := fun e => by rw [e, e2] at hp; cases hp
        rw [wo_upd, List.range_succ, List.map_append]
        have sp : Same (wo G' L) (wo (upd G' p (.tup [.str (Str.ofString "same"), .int ((0 : Int) + (i : Nat))])) L) := by
          rw [wo_new np]
          exact Same.new (Same.refl _) (by rw [wo_ne np]; exact hp)
        refine pr_app (mvs_ext sp h2) (.cons ⟨p, rfl, ?_⟩ .nil)
        rw [wo_ne np, upd_same, Int.zero_add]; rfl
    · rintro G2 ⟨s2, acc, e2, h2⟩
      refine ⟨L, acc, rfl, .inr (SqL.of e2), ?_⟩
      have h2' : Paired (MvAt G2) acc ((List.range n).map fun a : Nat => Mv.sam a) := mvs_ext (wo_same _ _) h2
      have hall : Paired (MvAt G2) (bs.map V.ref ++ (acc ++ [])) (ds ++ (List.range n).map fun a : Nat => Mv.sam a) := by
        rw [List.append_nil]
        exact pr_app (mvs_ext s2 hds) h2'
      have lall := pr_len hall
      rw [List.length_append (as := ds), List.length_map, List.length_range] at lall
      refine ⟨by rw [lall]; exact Nat.le_trans (by omega : ds.length + n ≤ 2000) (by decide), fun R hR => ?_⟩
      have s3 : Same G2 (upd G2 R (.lst (bs.map V.ref ++ (acc ++ [])))) := Same.new (Same.refl _) hR
      have e3 : (upd G2 R (.lst (bs.map V.ref ++ (acc ++ [])))) R = some (.lst (bs.map V.ref ++ (acc ++ []))) := upd_same
      have hall3 := mvs_ext s3 hall
      generalize upd G2 R (.lst (bs.map V.ref ++ (acc ++ []))) = G3 at s3 e3 hall3
      refine ⟨R, _, _, rfl, SqL.of e3, mvs_dp hall3, mv_alike _, mv_sortable _, fun d hd => ?_, fun p hp => ?_⟩
      · obtain ⟨m, _, rfl⟩ := List.mem_map.mp hd
        exact mv_depth m
      · obtain ⟨ns, hns, hpm⟩ := mv_sorted hall3
        have s03 := (s1.trans s2).trans s3
        have hp0 := s03.free hp
        have s4 : Same G3 (upd G3 p (.lst ((srtD (bs.map V.ref ++ (acc ++ [])) ((ds ++ (List.range n).map fun a : Nat => Mv.sam a).map Mv.dat)).map (·.1)))) := Same.new (Same.refl _) hp
        refine q p _ ns _ (s03.trans s4) hp0 upd_same (mvs_ext s4 hns) (fun m => ?_) ?_
        · rw [hpm.mem_iff, List.mem_append, List.mem_map]
          constructor
          · rintro (h | ⟨i, h, rfl⟩)
            · exact .inl (hin m h)
            · exact .inr ⟨i, List.mem_range.mp h, rfl⟩
          · rintro (h | ⟨i, h, rfl⟩)
            · exact .inl (hin' m h)
            · exact .inr ⟨i, List.mem_range.mpr h, rfl⟩
        · rw [hpm.length_eq, List.length_append, List.length_map, List.length_range]
          omega
end
end My

set_option Elab.async false
set_option linter.all false
set_option maxRecDepth 100000
set_option maxHeartbeats 8000000
namespace My
open PySem PySem.Spec PyProof.Rows L2
section
variable {P : Program} {w : World} {K : PySem.W.Frag} {mg : Str → Option Value} {base : Heap}
def spInit (T : Txt K mg w) : Sp := fun vs H Q E => ∃ p dx x1 x2 x3 d1 d2 d3 m1 m2 m3, vs = [.ref p, x1, x2, x3] ∧ H p = some (.ins T.C_Decoder dx []) ∧ Dw K p H m1 x1 d1 ∧ Dw K p H m2 x2 d2 ∧ Dw K p H m3 x3 d3 ∧ d2.weight ≤ 100000 ∧ d3.weight ≤ 100000 ∧
  ((isSg d1 = false ∧ Bad T.C_InvalidSigns H x1 E) ∨ (isSg d1 = true ∧ stepsB (numD d1) d2 = false ∧ Bad T.C_InvalidSteps H x2 E) ∨ (isSg d1 = true ∧ stepsB (numD d1) d2 = true ∧ endsB ((itsD d2).length : Int) d3 = false ∧ Bad T.C_InvalidEnds H x3 E) ∨
   ∃ D, GoodD D d1 d2 d3 ∧ ∀ H', Kp p H H' → DecAt K T.C_Decoder H' p D → Q .non H')
theorem ok_Decoder_init (T : Txt K mg w) : FnOk P w K mg base (L2.CX P w) 7 T.f_Decoder_init T.fd_Decoder_init ["self", "signs", "steps", "ends"] (spInit T) := by
  refine T.F_Decoder_init.okX sc_Decoder_init (fun vs H Q E h => ?_) (fun cdv A outer s H vs Q E hr h => ?_)
  · obtain ⟨p, dx, x1, x2, x3, d1, d2, d3, m1, m2, m3, rfl, _⟩ := h; rfl
  · obtain ⟨p, dx, x1, x2, x3, d1, d2, d3, m1, m2, m3, rfl, hp, h1, h2, h3, w2, w3, hh⟩ := h
    refine ⟨_, (pss_cons (ps_if (pt_not (pt_val (pe_call (ok_is_number_of_signs T) (hr.mono (by decide)) rfl T.g_is_number_of_signs T.F_is_number_of_signs.kp T.b_is_number_of_signs .nil pass0 (pa_cons (pv 1) pa_nil)))) (pss_one (ps_raiseE rfl T.e_InvalidSigns hr (takes_of rfl rfl rfl rfl) (pa_cons (pv 1) pa_nil))) pss_nil)
      (pss_cons (ps_if (pt_not (pt_val (pe_call (ok_are_steps T) (hr.mono (by decide)) rfl T.g_are_steps T.F_are_steps.kp T.b_are_steps .nil pass0 (pa_cons (pv 2) (pa_cons (pv 1) pa_nil))))) (pss_one (ps_raiseE rfl T.e_InvalidSteps hr (takes_of rfl rfl rfl rfl) (pa_cons (pv 2) pa_nil))) pss_nil)
      (pss_cons (ps_if (pt_not (pt_val (pe_call (ok_are_ends T) (hr.mono (by decide)) rfl T.g_are_ends T.F_are_ends.kp T.b_are_ends .nil pass0 (pa_cons (pv 3) (pa_cons (pe_callB call_len_seq (by rfl) T.z_len (by decide +kernel) (pa_cons (pv 2) pa_nil)) pa_nil))))) (pss_one (ps_raiseE rfl T.e_InvalidEnds hr (takes_of rfl rfl rfl rfl) (pa_cons (pv 3) pa_nil))) pss_nil)
      (pss_cons (ps_fld (pv 0) (pv 1) rfl)
      (pss_cons (ps_fld (pv 0) (pe_callB call_len_seq (by rfl) T.z_len (by decide +kernel) (pa_cons (pv 2) pa_nil)) rfl)
      (pss_cons (ps_fld (pv 0) (pe_callTy call_tuple_of (by rfl) T.z_tuple (by decide +kernel) (pa_cons (pe_lc (own := [("row", 4)]) (g := gName 4) (by rfl) sc_Decoder_init.nd (pi_sq (pv 2)) (blkOk_by (own := [("row", 4)]) (N := N_Decoder_init) (sc := defScope s_Decoder_init) (by decide +kernel)) (fun _ _ _ _ _ => pg_name (i := 4) sc_Decoder_init.nd rfl (Or.inl rfl)) (fun _ _ _ _ _ => pts_nil) (fun _ _ _ _ _ => (pe_callTy (call_tuple_ofK (K := K) rfl) (by rfl) T.z_tuple (by decide +kernel) (pa_cons (pv 4) pa_nil)))) pa_nil)) rfl)
      (pss_one (ps_fld (pv 0) (pe_callTy call_tuple_of (by rfl) T.z_tuple (by decide +kernel) (pa_cons (pv 3) pa_nil)) rfl)))))))), ?_⟩
    have g1 : isSg d1 = false → Bad T.C_InvalidSigns H x1 E := fun z => by
      rcases hh with h | h | h | h
      · exact h.2
      · rw [z] at h; cases h.1
      · rw [z] at h; cases h.1
      · obtain ⟨D, g, _⟩ := h; rw [g.sg] at z; cases z
    have g2 : isSg d1 = true → stepsB (numD d1) d2 = false → Bad T.C_InvalidSteps H x2 E := fun z0 z => by
      rcases hh with h | h | h | h
      · rw [h.1] at z0; cases z0
      · exact h.2.2
      · rw [z] at h; cases h.2.1
      · obtain ⟨D, g, _⟩ := h
        have := g.steps
        rw [g.e1] at z
        rw [show numD (.int (D.sg : Nat)) = ((D.sg : Nat) : Int) from rfl, this] at z; cases z
    have g3 : isSg d1 = true → stepsB (numD d1) d2 = true → endsB ((itsD d2).length : Int) d3 = false → Bad T.C_InvalidEnds H x3 E := fun z0 z1 z => by
      rcases hh with h | h | h | h
      · rw [h.1] at z0; cases z0
      · rw [h.2.1] at z1; cases z1
      · exact h.2.2.2
      · obtain ⟨D, g, _⟩ := h
        rw [g.ends] at z; cases z
    have raise_ : ∀ {C : Addr} {x : V} {H' : Hp}, Bad C H x E → Same H H' → ∀ d, H' d = none → E (.ref C) (some d) (upd H' d (.xd (gvn x))) := fun kb s d hd =>
      kb d _ (Same.new s hd) (s.free hd) upd_same
    refine ⟨_, rfl, x1, d1, m1, rfl, h1.dg, _, rfl, ?_⟩
    cases c1 : isSg d1 with
    | false =>
      exact iteT ⟨_, rfl, x1, rfl, fun d hd => raise_ (g1 c1) (Same.refl _) d hd⟩
    | true =>
    obtain ⟨i, rfl⟩ : ∃ i, d1 = .int i := by cases d1 <;> first | exact ⟨_, rfl⟩ | cases c1
    obtain rfl := h1.int_of
    refine iteF ⟨_, rfl, _, rfl, x2, d2, m2, i, rfl, h2.dg, w2, fun H1 s1 => ⟨_, rfl, ?_⟩⟩
    cases c2 : stepsB i d2 with
    | false =>
      exact iteT ⟨_, rfl, x2, rfl, fun d hd => raise_ (g2 c1 c2) s1 d hd⟩
    | true =>
    have c2' := c2
    unfold stepsB at c2'
    rw [Bool.and_eq_true] at c2'
    have hsq := c2'.1
    have k1 : Kp p H H1 := Kp.of s1
    obtain ⟨a, ys, rfl, hq, hes⟩ := (h2.kp k1).lst_q (sq_its hsq)
    have le := hes.len
    have hq1 : SqQ K H1 a ys := hq.same (wo_same H1 p)
    refine iteF ⟨_, rfl, _, rfl, a, ys, rfl, hq1, x3, d3, m3, (ys.length : Int), rfl, (h3.kp k1).dg, w3, fun H2 s2 => ⟨_, rfl, ?_⟩⟩
    have s12 := s1.trans s2
    rw [le]
    cases c3 : endsB ((itsD d2).length : Int) d3 with
    | false =>
      exact iteT ⟨_, rfl, x3, rfl, fun d hd => raise_ (g3 c1 c2 c3) s12 d hd⟩
    | true =>
    obtain ⟨D, good, kQ⟩ : ∃ D, GoodD D (.int i) d2 d3 ∧ ∀ H', Kp p H H' → DecAt K T.C_Decoder H' p D → Q .non H' := by
      rcases hh with h | h | h | h
      · rw [h.1] at c1; cases c1
      · have := h.2.1; rw [show numD (.int i) = i from rfl, c2] at this; cases this
      · have := h.2.2.1; rw [c3] at this; cases this
      · exact h
    have ei : i = (D.sg : Nat) := by have := good.e1; injection this
    have l2 := good.len2
    have n40 := good.ok.n40
    have hp2 : H2 p = some (.ins T.C_Decoder dx []) := s12 _ _ hp
    have k2 : Kp p H H2 := Kp.of s12
    have lt0 : ∀ n : Nat, n ≤ 10 → n < 1000 := fun n h => by omega
    refine iteF ⟨_, rfl, _, rfl, p, T.C_Decoder, dx, _, rfl, hp2, T.cl_Decoder, T.na_Decoder_signs, (by show 0 < 1000; omega), ?_⟩
    have hq3 : SqQ K (upd H2 p (.ins T.C_Decoder dx (putF "signs" (.int i) []))) a ys := (hq.same ((Kp.of s2).wo.trans (by rw [← wo_upd (H := H2) (p := p) (o := .ins T.C_Decoder dx (putF "signs" (.int i) []))]; exact Same.refl _))).same (wo_same _ p)
    refine ⟨_, rfl, a, ys, rfl, hq3, _, rfl, p, T.C_Decoder, dx, _, rfl, upd_same, T.cl_Decoder, T.na_Decoder_states, (by show 1 < 1000; omega), ?_⟩
    rw [upd_upd]
    have k3 : Kp p H2 (upd H2 p (.ins T.C_Decoder dx (putF "states" (.int (ys.length : Int)) (putF "signs" (.int i) [])))) := (Kp.refl p H2).upd
    have e3 : (upd H2 p (.ins T.C_Decoder dx (putF "states" (.int (ys.length : Int)) (putF "signs" (.int i) [])))) p = some (.ins T.C_Decoder dx (putF "states" (.int (ys.length : Int)) (putF "signs" (.int i) []))) := upd_same
    generalize upd H2 p (.ins T.C_Decoder dx (putF "states" (.int (ys.length : Int)) (putF "signs" (.int i) []))) = H3 at k3 e3 ⊢
    have kH3 := k2.trans k3
    have hq4 : SqQ K H3 a ys := (hq.same ((Kp.of s2).wo.trans k3.wo)).same (wo_same H3 p)
    have he4 : DgAll K (wo H3 p) m2 ys (itsD d2) := hes.ext ((Kp.of s2).wo.trans k3.wo)
    dsimp only [L2.tSeq]
    unfold L2.sFld
    refine rows_tup (A := Unit) (p := p) (a := a) (i := 4) rfl rfl (fun R h => ⟨_, rfl, h⟩) hq4 he4 good.r2 (by omega) (by rw [e3]; exact fun z => by cases z) (fun _ => rfl) (fun _ => rfl) (fun r zs H4 s4 er nr hz => ?_)
    have e4 := s4 _ _ e3
    refine ⟨_, rfl, p, T.C_Decoder, dx, _, rfl, e4, T.cl_Decoder, T.na_Decoder_steps, (by show 2 < 1000; omega), ?_⟩
    have st4 : Dg K (wo H4 p) false (.ref r) D.stD := by
      refine dg_lf _ _ (lf_stD D) ?_ (m := m2)
      rw [← good.tup]
      exact .tup (SqT.of (by rw [wo_ne nr]; exact er)) hz
    have k4 : Kp p H3 H4 := Kp.of s4
    have hd4 : Dg K (wo H4 p) m3 x3 d3 := h3.kp (kH3.trans k4)
    obtain ⟨b, zs3, rfl, hq3', hes3⟩ := hd4.lst_q (sq_its good.s3)
    have k5 : Kp p H4 (upd H4 p (.ins T.C_Decoder dx (putF "steps" (.ref r) (putF "states" (.int (ys.length : Int)) (putF "signs" (.int i) []))))) := (Kp.refl p H4).upd
    have e5 : (upd H4 p (.ins T.C_Decoder dx (putF "steps" (.ref r) (putF "states" (.int (ys.length : Int)) (putF "signs" (.int i) []))))) p = some (.ins T.C_Decoder dx (putF "steps" (.ref r) (putF "states" (.int (ys.length : Int)) (putF "signs" (.int i) [])))) := upd_same
    generalize upd H4 p (.ins T.C_Decoder dx (putF "steps" (.ref r) (putF "states" (.int (ys.length : Int)) (putF "signs" (.int i) [])))) = H5 at k5 e5 ⊢
    have fin : ∀ t H6, Same H5 H6 → H6 p = some (.ins T.C_Decoder dx (putF "steps" (.ref r) (putF "states" (.int (ys.length : Int)) (putF "signs" (.int i) [])))) → Dg K (wo H6 p) m3 (.ref t) (.tuple (itsD d3)) →
        tVar 0 (L2.start N_Decoder_init [V.ref p, V.int i, V.ref a, V.ref b]) H6 fun x H2 => ∃ a C dx fs, x = V.ref a ∧ H2 a = some (HO.ins C dx fs) ∧ Cls K C ∧ NoAttr K C (Str.ofString "ends") ∧ fs.length < 1000 ∧ Q .non (upd H2 a (HO.ins C dx (putF (Str.ofString "ends") (.ref t) fs))) := fun t H6 s6 e6 ht => by
      refine ⟨_, rfl, p, T.C_Decoder, dx, _, rfl, e6, T.cl_Decoder, T.na_Decoder_ends, (by show 3 < 1000; omega), ?_⟩
      have k6 : Kp p H6 (upd H6 p (.ins T.C_Decoder dx (putF (Str.ofString "ends") (.ref t) (putF "steps" (.ref r) (putF "states" (.int (ys.length : Int)) (putF "signs" (.int i) [])))))) := (Kp.refl p H6).upd
      have ka : Kp p H4 (upd H6 p (.ins T.C_Decoder dx (putF (Str.ofString "ends") (.ref t) (putF "steps" (.ref r) (putF "states" (.int (ys.length : Int)) (putF "signs" (.int i) [])))))) := (k5.trans (Kp.of s6)).trans k6
      refine kQ _ ((kH3.trans k4).trans ka) ⟨⟨dx, r, t, ?_, (st4.ext ka.wo).ext (wo_same _ p), ?_⟩, good.ok⟩
      · rw [upd_same, ei, le, l2]; rfl
      · have : Dg K (wo H6 p) false (.ref t) D.enD := by
          refine dg_lf _ _ (lf_dEn D) ?_ (m := m3)
          rw [← good.tupE]; exact ht
        exact (this.ext k6.wo).ext (wo_same _ p)
    have hq5 : SqQ K H5 b zs3 := (hq3'.same k5.wo).same (wo_same H5 p)
    have hes5 : DgAll K (wo H5 p) m3 zs3 (itsD d3) := hes3.ext k5.wo
    rcases hq3' with hq6 | hq6
    · refine ⟨_, rfl, b, zs3, rfl, .inl ⟨(hq6.ext k5.wo).ext (wo_same H5 p), fun t ht => ?_⟩⟩
      have nt : t ≠ p := fun z => by rw [z, e5] at ht; cases ht
      have s6 : Same H5 (upd H5 t (.tup zs3)) := Same.new (Same.refl _) ht
      exact fin t _ s6 (s6 _ _ e5) (.tup (SqT.of (by rw [wo_ne nt]; exact upd_same)) (hes5.ext (Kp.of s6).wo))
    · exact ⟨_, rfl, b, zs3, rfl, .inr ⟨(hq6.ext k5.wo).ext (wo_same H5 p), fin b H5 (Same.refl _) e5 (.tup (hq6.ext k5.wo) hes5)⟩⟩
def spDeq (T : Txt K mg w) : Sp := fun vs H Q _ => ∃ p y D, vs = [.ref p, y] ∧ DecAt K T.C_Decoder H p D ∧ ((∃ q D', y = .ref q ∧ DecAt K T.C_Decoder H q D' ∧ Q (.bl (decide (D = D'))) H) ∨ (∃ d m, Dg K H m y d ∧ Q (.bl false) H) ∨ (∃ t, TyX K H y t ∧ PySem.W.kitOne K t (.ref T.C_Decoder) = some false ∧ Q (.bl false) H))
theorem ok_Decoder_eq (T : Txt K mg w) : FnOk P w K mg base CX0 1 T.f_Decoder_eq T.fd_Decoder_eq ["self", "other"] (spDeq T) := by
  refine T.F_Decoder_eq.ok sc_Decoder_eq (fun vs H Q E h => ?_) (fun cdv A outer s H vs Q E hr h => ?_)
  · obtain ⟨p, y, D, rfl, _⟩ := h; rfl
  · obtain ⟨p, y, D, rfl, ⟨⟨dx, Sa, Ea, ep, hs, he⟩, ok⟩, hh⟩ := h
    refine ⟨_, (pss_one (ps_ret (pe_and (pe_callB call_isi (by rfl) T.z_isinstance (by decide +kernel) (pa_cons (pv 1) (pa_cons (pe_glob (v := .ref T.C_Decoder) rfl T.g_Decoder rfl) pa_nil))) (pe_and (pe_cmpR op_eq (pe_fld (pv 0) rfl) (pe_fld (pv 1) rfl) (nomark _)) (pe_and (pe_cmpR (op_eqD (un64 hr)) (pe_fld (pv 0) rfl) (pe_fld (pv 1) rfl) (nomark _)) (pe_one (pe_cmpR (op_eqD (un64 hr)) (pe_fld (pv 0) rfl) (pe_fld (pv 1) rfl) (nomark _)))))))), ?_⟩
    rcases hh with ⟨q, D', rfl, ⟨⟨dy, Sb, Eb, eq, hs', he'⟩, ok'⟩, kQ⟩ | ⟨d, m, hd, kQ⟩ | ⟨t, ht, hk, kQ⟩
    · refine ⟨_, rfl, _, _, _, _, true, rfl, .own _, T.oe_Decoder.ty eq, kit_same, _, rfl, iteT ?_⟩
      have e : decide (D = D') = (decide (D.sg = D'.sg) && (decide (D.st = D'.st) && decide (D.en = D'.en))) := by
        rw [Bool.eq_iff_iff]; simp [dcd_eq]
      rw [e] at kQ
      refine ⟨_, rfl, p, _, dx, _, _, rfl, ep, T.cl_Decoder, T.na_Decoder_signs, dfs_signs, _, rfl, q, _, dy, _, _, rfl, eq, T.cl_Decoder, T.na_Decoder_signs, dfs_signs, rfl, _, rfl, ?_⟩
      have e1 : decide (V.int (D.sg : Nat) = V.int (D'.sg : Nat)) = decide (D.sg = D'.sg) := by
        rw [Bool.eq_iff_iff, decide_eq_true_eq, decide_eq_true_eq]
        exact ⟨fun z => by have := V.int.inj z; omega, fun z => by rw [z]⟩
      rw [e1]
      cases c1 : decide (D.sg = D'.sg) with
      | false => rw [c1, Bool.false_and] at kQ; exact iteF kQ
      | true =>
        rw [c1, Bool.true_and] at kQ
        refine iteT ⟨_, rfl, p, _, dx, _, _, rfl, ep, T.cl_Decoder, T.na_Decoder_steps, dfs_steps, _, rfl, q, _, dy, _, _, rfl, eq, T.cl_Decoder, T.na_Decoder_steps, dfs_steps, D.stD, D'.stD, dg_dp _ _ hs, dg_dp _ _ hs', shaped_stD ok, shaped_stD ok', _, rfl, ?_⟩
        rw [eqv_stD]
        cases c2 : decide (D.st = D'.st) with
        | false => rw [c2, Bool.false_and] at kQ; exact iteF kQ
        | true =>
          rw [c2, Bool.true_and] at kQ
          refine iteT ⟨_, rfl, p, _, dx, _, _, rfl, ep, T.cl_Decoder, T.na_Decoder_ends, dfs_ends, _, rfl, q, _, dy, _, _, rfl, eq, T.cl_Decoder, T.na_Decoder_ends, dfs_ends, D.enD, D'.enD, dg_dp _ _ he, dg_dp _ _ he', shaped_dEn ok, shaped_dEn ok', ?_⟩
          rw [eqv_dEn]
          exact kQ
    · exact ⟨_, rfl, _, _, _, _, false, rfl, .own _, hd.ty, kit_ownD T.ii_Decoder T.it_Decoder d, _, rfl, iteF kQ⟩
    · exact ⟨_, rfl, _, _, _, _, false, rfl, .own _, ht, hk, _, rfl, iteF kQ⟩
end
end My

set_option Elab.async false
set_option linter.all false
set_option maxRecDepth 100000
set_option maxHeartbeats 8000000
namespace My
open PySem PySem.Spec PyProof.Rows L2
theorem dg_row {K : PySem.W.Frag} {H : Hp} {Sa : Addr} {D : Dcd} (ok : D.ok) (h : Dg K H false (.ref Sa) D.stD) {s : Nat} (hs : s < D.st.length) : ∃ xs r zs, SqT K H Sa xs ∧ xs[s]? = some (.ref r) ∧ SqT K H r zs ∧
    ∀ a, a < D.sg → ∃ e, zs[a]? = some e ∧ Dg K H false e (enD (D.at s a)) := by
  obtain ⟨a, xs, e, hx, ha⟩ := h.tup_of
  injection e with e
  subst e
  obtain ⟨x, d, ex, ed, dx⟩ := ha.nth (i := s) (by rw [List.length_map]; exact hs)
  rw [List.getElem?_map, List.getElem?_eq_getElem hs] at ed
  have ed := Option.some.inj ed
  subst ed
  obtain ⟨r, zs, rfl, hz, hzs⟩ := dx.tup_of
  refine ⟨xs, r, zs, hx, ex, hz, fun a ha => ?_⟩
  have lr := (ok.rows _ (List.getElem_mem hs)).1
  obtain ⟨e, de, ee, ede, dge⟩ := hzs.nth (i := a) (by rw [List.length_map, lr]; exact ha)
  rw [List.getElem?_map, List.getElem?_eq_getElem (by rw [lr]; exact ha)] at ede
  have ede := Option.some.inj ede
  subst ede
  refine ⟨e, ee, ?_⟩
  unfold Dcd.at
  rw [List.getD_eq_getElem?_getD, List.getD_eq_getElem?_getD, List.getElem?_eq_getElem hs]
  show Dg K H false e (enD ((D.st[s])[a]?.getD none))
  rw [List.getElem?_eq_getElem (by rw [lr]; exact ha)]
  exact dge
theorem dg_end {K : PySem.W.Frag} {H : Hp} {Ea : Addr} {D : Dcd} (ok : D.ok) (h : Dg K H false (.ref Ea) D.enD) {s : Nat} (hs : s < D.st.length) : ∃ xs e, SqT K H Ea xs ∧ xs[s]? = some e ∧ Dg K H false e (wdD (D.en.getD s none)) := by
  obtain ⟨a, xs, e, hx, ha⟩ := h.tup_of
  injection e with e
  subst e
  have hs' : s < D.en.length := by rw [ok.ends]; exact hs
  obtain ⟨x, d, ex, ed, dx⟩ := ha.nth (i := s) (by rw [List.length_map]; exact hs')
  rw [List.getElem?_map, List.getElem?_eq_getElem hs'] at ed
  have ed := Option.some.inj ed
  subst ed
  exact ⟨xs, x, hx, ex, by rw [List.getD_eq_getElem?_getD, List.getElem?_eq_getElem hs']; exact dx⟩
/-! ### states, the rejected one among them -/
abbrev Sta := Option Nat
def stV : Sta → V | none => .int (-1) | some s => .int (s : Nat)
def stN : Sta → Int | none => -1 | some s => (s : Nat)
theorem stV_eq (s : Sta) : stV s = .int (stN s) := by cases s <;> rfl
theorem stN_inj {s t : Sta} (h : stN s = stN t) : s = t := by
  cases s with
  | none => cases t with
    | none => rfl
    | some b => have h' : (-1 : Int) = (b : Nat) := h; omega
  | some a => cases t with
    | none => have h' : ((a : Nat) : Int) = -1 := h; omega
    | some b => have h' : ((a : Nat) : Int) = (b : Nat) := h; rw [show a = b by omega]
def okS (D : Dcd) (s : Sta) : Prop := ∀ q, s = some q → q < D.st.length
def Dcd.acc (D : Dcd) : Sta → Bool | none => false | some s => (D.en.getD s none).isSome
def Dcd.beh (D : Dcd) : Sta → Nat → Sta | none, _ => none | some s, a => (D.at s a).map (·.1)
theorem Dcd.beh_ok {D : Dcd} (ok : D.ok) {s : Sta} {a : Nat} : okS D (D.beh s a) := by
  intro q e
  cases s with
  | none => cases e
  | some s =>
    have e : (D.at s a).map (·.1) = some q := e
    cases he : D.at s a with
    | none => rw [he] at e; cases e
    | some p =>
      rw [he] at e
      injection e with e
      obtain ⟨g, w⟩ := p
      have e : g = q := e
      subst e
      exact (ok.at g w he).1
section
variable {P : Program} {w : World} {K : PySem.W.Frag} {mg : Str → Option Value} {base : Heap}
theorem ok_accepts (T : Txt K mg w) : FnOk P w K mg base CX0 1 T.f_accepts T.fd_accepts ["decoder", "state"] (fun vs H Q _ => ∃ p D s, vs = [.ref p, stV s] ∧ DecAt K T.C_Decoder H p D ∧ okS D s ∧ Q (.bl (D.acc s)) H) := by
  refine T.F_accepts.ok sc_accepts (fun vs H Q E h => ?_) (fun cdv A outer s0 H vs Q E hr h => ?_)
  · obtain ⟨p, D, s, rfl, _⟩ := h; rfl
  · obtain ⟨p, D, s, rfl, ⟨⟨dx, Sa, Ea, ep, hs, he⟩, ok⟩, hk, q⟩ := h
    refine ⟨_, (pss_one (ps_ret (pe_and (pe_cmpR op_ne (pv 1) (pe_glob (v := .int (-1)) rfl T.c_REJECTED ⟨_, rfl⟩) (nomark _)) (pe_one (pe_cmp (pc_notN (pe_ix ix_tup (pe_fld (pv 0) rfl) (pv 1) (fun _ _ => rfl))) rfl))))), ?_⟩
    rw [stV_eq]
    cases s with
    | none =>
      refine ⟨_, rfl, rfl, _, rfl, ?_⟩
      exact iteF q
    | some s =>
      have hst := hk s rfl
      obtain ⟨exs, ev, hx1, hx2, hx3⟩ := dg_end ok he hst
      refine ⟨_, rfl, rfl, _, rfl, ?_⟩
      have nq : (!decide (V.int (stN (some s)) = V.int (-1))) = true := by
        have : stN (some s) = (s : Nat) := rfl
        rw [this, Bool.not_eq_true', decide_eq_false_iff_not]
        intro e; injection e with e; omega
      rw [nq]
      refine iteT ⟨_, rfl, p, _, dx, _, _, rfl, ep, T.cl_Decoder, T.na_Decoder_ends, dfs_ends, _, rfl, Ea, _, _, _, rfl, rfl, hx1, atI_nat hx2, ?_⟩
      have e : (!decide (ev = .non)) = D.acc (some s) := by
        show _ = (D.en.getD s none).isSome
        cases h : D.en.getD s none with
        | none => rw [h] at hx3; cases hx3; rfl
        | some w => rw [h] at hx3; cases hx3; rfl
      show Q (V.bl (!decide (ev = V.non))) H
      rw [e]
      exact q
theorem ok_state_behind (T : Txt K mg w) : FnOk P w K mg base CX0 1 T.f_state_behind T.fd_state_behind ["decoder", "state", "sign"] (fun vs H Q _ => ∃ p D s, ∃ a : Nat, vs = [.ref p, stV s, .int a] ∧ DecAt K T.C_Decoder H p D ∧ okS D s ∧ a < D.sg ∧ Q (stV (D.beh s a)) H) := by
  refine T.F_state_behind.ok sc_state_behind (fun vs H Q E h => ?_) (fun cdv A outer s0 H vs Q E hr h => ?_)
  · obtain ⟨p, D, s, a, rfl, _⟩ := h; rfl
  · obtain ⟨p, D, s, a, rfl, ⟨⟨dx, Sa, Ea, ep, hs, he⟩, ok⟩, hk, ha, q⟩ := h
    refine ⟨_, (pss_cons (ps_if (PW.pt (pw_or (pt_cmpR op_eq (pv 1) (pe_glob (v := .int (-1)) rfl T.c_REJECTED ⟨_, rfl⟩) (nomark _)) (pw_or1 (pt_cmp (pc_isN (pe_ix ix_tup (pe_ix ix_tup (pe_fld (pv 0) rfl) (pv 1) (fun _ _ => rfl)) (pv 2) (fun _ _ => rfl))))))) (pss_one (ps_ret (pe_glob (v := .int (-1)) rfl T.c_REJECTED ⟨_, rfl⟩))) pss_nil)
      (pss_one (ps_ret (pe_ix ix_tup (pe_ix ix_tup (pe_ix ix_tup (pe_fld (pv 0) rfl) (pv 1) (fun _ _ => rfl)) (pv 2) (fun _ _ => rfl)) pe_int (fun _ _ => rfl))))), ?_⟩
    rw [stV_eq] at *
    cases s with
    | none => exact ⟨_, rfl, rfl, _, rfl, iteT (iteT q)⟩
    | some s =>
      have hst := hk s rfl
      obtain ⟨rows, r, zs, hr1, hr2, hz, hent⟩ := dg_row ok hs hst
      obtain ⟨ev, he1, he2⟩ := hent a ha
      have nq : decide (V.int (stN (some s)) = V.int (-1)) = false := by
        have : stN (some s) = (s : Nat) := rfl
        rw [this, decide_eq_false_iff_not]
        intro e; injection e with e; omega
      refine ⟨_, rfl, rfl, _, rfl, ?_⟩
      rw [nq]
      refine iteF ?_
      have fld : ∀ R : VK, R ev H → tOp (rIxT K) (tOp (rIxT K) (tFld K (tVar 0) (Str.ofString "steps")) (tVar 1)) (tVar 2) (L2.start N_state_behind [V.ref p, stV (some s), V.int (a : Nat)]) H R := fun R h =>
        ⟨_, rfl, p, _, dx, _, _, rfl, ep, T.cl_Decoder, T.na_Decoder_steps, dfs_steps, _, rfl, Sa, _, _, _, rfl, rfl, hr1, atI_nat hr2, _, rfl, r, _, _, _, rfl, rfl, hz, atI_nat he1, h⟩
      refine fld _ ⟨_, rfl, ?_⟩
      have q : Q (stV (D.beh (some s) a)) H := by rw [stV_eq]; exact q
      have q : Q (stV ((D.at s a).map (·.1))) H := q
      cases hat : D.at s a with
      | none =>
        rw [hat] at he2 q
        have ev0 : ev = .non := by cases he2; rfl
        subst ev0
        exact iteT q
      | some gw =>
        obtain ⟨g, w⟩ := gw
        rw [hat] at he2 q
        obtain ⟨t, us, rfl, ht, hus⟩ := he2.tup_of
        obtain ⟨y0, vs1, rfl, hy0, hv1⟩ := hus.cons_of
        obtain rfl := hy0.int_of
        exact iteF (fld _ ⟨t, _, _, _, rfl, rfl, ht, atI_nat (j := 0) rfl, q⟩)
end
end My

set_option Elab.async false
set_option linter.all false
set_option maxRecDepth 100000
set_option maxHeartbeats 4000000
/-! A search with a stack: what it has met, what it is to look at. -/
namespace My
section
variable {α : Type} {μ : Type}
inductive Rch (f : μ → α → α) (ms : List μ) (s0 : α) : α → Prop
  | start : Rch f ms s0 s0
  | step {x : α} {m : μ} : Rch f ms s0 x → m ∈ ms → Rch f ms s0 (f m x)
structure Srch (f : μ → α → α) (ms : List μ) (s0 : α) (good : α → Bool) (known stack : List α) : Prop where
  nd : known.Nodup
  r : ∀ x ∈ known, Rch f ms s0 x
  s : s0 ∈ known
  st : ∀ x ∈ stack, x ∈ known
  dn : ∀ x ∈ known, x ∈ stack ∨ (good x = true ∧ ∀ m ∈ ms, f m x ∈ known)
structure SrchAt (f : μ → α → α) (ms : List μ) (s0 : α) (good : α → Bool) (x : α) (i : Nat) (known stack : List α) : Prop where
  nd : known.Nodup
  r : ∀ y ∈ known, Rch f ms s0 y
  s : s0 ∈ known
  st : ∀ y ∈ stack, y ∈ known
  dn : ∀ y ∈ known, y ∈ stack ∨ (good y = true ∧ ∀ m ∈ ms, f m y ∈ known) ∨ y = x
  xin : x ∈ known
  g : good x = true
  pre : ∀ m ∈ ms.take i, f m x ∈ known
variable {f : μ → α → α} {ms : List μ} {s0 : α} {good : α → Bool} {known stack : List α} {x : α} {i : Nat}
theorem Srch.start : Srch f ms s0 good [s0] [s0] where
  nd := by simp
  r := fun x h => by rw [List.mem_singleton.mp h]; exact .start
  s := by simp
  st := fun x h => h
  dn := fun x h => .inl h
theorem Srch.pop (h : Srch f ms s0 good known (stack ++ [x])) (g : good x = true) : SrchAt f ms s0 good x 0 known stack where
  nd := h.nd
  r := h.r
  s := h.s
  st := fun y hy => h.st y (List.mem_append_left _ hy)
  dn := fun y hy => by
    rcases h.dn y hy with z | z
    · rcases List.mem_append.mp z with z | z
      · exact .inl z
      · exact .inr (.inr (List.mem_singleton.mp z))
    · exact .inr (.inl z)
  xin := h.st x (List.mem_append_right _ (by simp))
  g := g
  pre := fun m hm => by simp at hm
theorem Srch.bad (h : Srch f ms s0 good known (stack ++ [x])) (g : good x = false) : ¬ ∀ y, Rch f ms s0 y → good y = true := fun z => by
  have := z x (h.r x (h.st x (List.mem_append_right _ (by simp))))
  rw [g] at this; cases this
theorem SrchAt.old {m : μ} (h : SrchAt f ms s0 good x i known stack) (e : ms[i]? = some m) (k : f m x ∈ known) : SrchAt f ms s0 good x (i + 1) known stack where
  nd := h.nd
  r := h.r
  s := h.s
  st := h.st
  dn := h.dn
  xin := h.xin
  g := h.g
  pre := fun n hn => by
    rw [List.take_add_one, e] at hn
    rcases List.mem_append.mp hn with z | z
    · exact h.pre n z
    · have : n = m := by simpa using z
      rw [this]; exact k
theorem SrchAt.new {m : μ} (h : SrchAt f ms s0 good x i known stack) (e : ms[i]? = some m) (k : ¬ f m x ∈ known) : SrchAt f ms s0 good x (i + 1) (known ++ [f m x]) (stack ++ [f m x]) where
  nd := by
    refine List.nodup_append.mpr ⟨h.nd, by simp, fun a ha b hb => ?_⟩
    rw [List.mem_singleton.mp hb]
    rintro rfl
    exact k ha
  r := fun y hy => by
    rcases List.mem_append.mp hy with z | z
    · exact h.r y z
    · rw [List.mem_singleton.mp z]
      exact .step (h.r x h.xin) (List.mem_of_getElem? e)
  s := List.mem_append_left _ h.s
  st := fun y hy => by
    rcases List.mem_append.mp hy with z | z
    · exact List.mem_append_left _ (h.st y z)
    · exact List.mem_append_right _ z
  dn := fun y hy => by
    rcases List.mem_append.mp hy with z | z
    · rcases h.dn y z with q | q | q
      · exact .inl (List.mem_append_left _ q)
      · exact .inr (.inl ⟨q.1, fun n hn => List.mem_append_left _ (q.2 n hn)⟩)
      · exact .inr (.inr q)
    · exact .inl (List.mem_append_right _ z)
  xin := List.mem_append_left _ h.xin
  g := h.g
  pre := fun n hn => by
    rw [List.take_add_one, e] at hn
    rcases List.mem_append.mp hn with z | z
    · exact List.mem_append_left _ (h.pre n z)
    · have : n = m := by simpa using z
      rw [this]; exact List.mem_append_right _ (by simp)
theorem SrchAt.done (h : SrchAt f ms s0 good x ms.length known stack) : Srch f ms s0 good known stack where
  nd := h.nd
  r := h.r
  s := h.s
  st := h.st
  dn := fun y hy => by
    rcases h.dn y hy with q | q | q
    · exact .inl q
    · exact .inr q
    · refine .inr ?_
      rw [q]
      exact ⟨h.g, fun m hm => h.pre m (by rw [List.take_length]; exact hm)⟩
theorem Srch.steady (h : Srch f ms s0 good known []) : ∀ y, Rch f ms s0 y → good y = true := by
  have key : ∀ y, Rch f ms s0 y → y ∈ known := fun y r => by
    induction r with
    | start => exact h.s
    | step r hm ih =>
      rcases h.dn _ ih with z | z
      · cases z
      · exact z.2 _ hm
  intro y r
  rcases h.dn y (key y r) with z | z
  · cases z
  · exact z.1
/-- reaching asks only which moves there are, not how often and in which order -/
theorem Rch.mono {ν : Type} {g : ν → α → α} {ns : List ν} (k : ∀ m ∈ ms, ∃ n ∈ ns, g n = f m) : ∀ {y : α}, Rch f ms s0 y → Rch g ns s0 y := by
  intro y r
  induction r with
  | start => exact .start
  | step r hm ih =>
    obtain ⟨n, hn, e⟩ := k _ hm
    rw [← e]
    exact .step ih hn
theorem nodup_bound : ∀ (n : Nat) (l : List Nat), l.Nodup → (∀ a ∈ l, a < n) → l.length ≤ n
  | 0, l, _, h => by
    cases l with
    | nil => exact Nat.le_refl _
    | cons a l => exact absurd (h a List.mem_cons_self) (Nat.not_lt_zero _)
  | n + 1, l, nd, h => by
    have h1 : (l.filter (· ≠ n)).length ≤ n := nodup_bound n _ (nd.filter _) fun a ha => by
      have := List.mem_filter.mp ha
      have h2 := h a this.1
      have h3 : a ≠ n := by simpa using this.2
      omega
    have h2 : l.length ≤ (l.filter (· ≠ n)).length + 1 := by
      clear h1 h
      induction l with
      | nil => simp
      | cons a l ih =>
        have nd' := List.nodup_cons.mp nd
        by_cases e : a = n
        · have : (l.filter (· ≠ n)) = l := List.filter_eq_self.mpr fun b hb => by
            have : b ≠ n := fun z => nd'.1 (by rw [e, ← z]; exact hb)
            simpa using this
          rw [List.filter_cons_of_neg (by simpa using e), this, List.length_cons]
          exact Nat.le_refl _
        · rw [List.filter_cons_of_pos (by simpa using e), List.length_cons, List.length_cons]
          have := ih nd'.2
          omega
    omega
theorem nodup_code {c : α → Nat} {n : Nat} {l : List α} (nd : l.Nodup) (inj : ∀ a ∈ l, ∀ b ∈ l, c a = c b → a = b) (h : ∀ a ∈ l, c a < n) : l.length ≤ n := by
  have nd' : (l.map c).Nodup := by
    clear h
    induction l with
    | nil => simp
    | cons a l ih =>
      have q := List.nodup_cons.mp nd
      rw [List.map_cons, List.nodup_cons]
      refine ⟨fun z => ?_, ih q.2 fun x hx y hy => inj x (List.mem_cons_of_mem _ hx) y (List.mem_cons_of_mem _ hy)⟩
      obtain ⟨b, hb, e⟩ := List.mem_map.mp z
      have := inj b (List.mem_cons_of_mem _ hb) a List.mem_cons_self e
      exact q.1 (by rw [← this]; exact hb)
  have := nodup_bound n (l.map c) nd' fun a ha => by
    obtain ⟨b, hb, rfl⟩ := List.mem_map.mp ha
    exact h b hb
  rwa [List.length_map] at this
end
end My

set_option Elab.async false
set_option linter.all false
set_option maxRecDepth 100000
set_option maxHeartbeats 8000000
namespace My
open PySem PySem.Spec PyProof.Rows L2
theorem asg_op {te : TE} {i : Nat} {rest : TS} {D : Ends} {σ σ2 : L2.St} {H H2 : Hp} (h : ∀ N : L2.St → Hp → Prop, N σ2 H2 → te σ H fun v H1 => gName i v σ H1 N) (q : rest D σ2 H2) : tSeq (tAsg te (gName i)) rest D σ H := h (rest D) q
/-! ### pairs of states, and where a step leads from one -/
abbrev Pr := Sta × Sta
def Dcd.mv (D : Dcd) : Mv → Pr → Pr
  | .los a, x => (D.beh x.1 a.toNat, x.2)
  | .put a, x => (x.1, D.beh x.2 a.toNat)
  | .sam a, x => (D.beh x.1 a.toNat, D.beh x.2 a.toNat)
  | .tur a b, x => (D.beh x.1 a.toNat, D.beh x.2 b.toNat)
/-- a kind for this number of signs -/
def okK (n : Nat) : Mv → Prop
  | .los a => 0 ≤ a ∧ a < n
  | .put a => 0 ≤ a ∧ a < n
  | .sam _ => False
  | .tur a b => (0 ≤ a ∧ a < n) ∧ (0 ≤ b ∧ b < n) ∧ a ≠ b
/-- a step for this number of signs -/
def okM (n : Nat) : Mv → Prop
  | .los a => 0 ≤ a ∧ a < n
  | .put a => 0 ≤ a ∧ a < n
  | .sam a => 0 ≤ a ∧ a < n
  | .tur a b => (0 ≤ a ∧ a < n) ∧ (0 ≤ b ∧ b < n)
def Dcd.frees (D : Dcd) : List Mv := (List.range D.sg).map fun a : Nat => Mv.sam a
def Dcd.evn (D : Dcd) (x : Pr) : Bool := D.acc x.1 == D.acc x.2
def Dcd.steady (D : Dcd) (ks : List Mv) : Prop := ∀ x, Rch D.mv (ks ++ D.frees) (some 0, some 0) x → D.evn x = true
theorem okK.kd {n : Nat} {m : Mv} (h : okK n m) : isKd n m.dat = true := by
  cases m with
  | los a =>
    have h : 0 ≤ a ∧ a < n := h
    show ((decide (Str.ofString "lost" = Str.ofString "lost") || decide (Str.ofString "lost" = Str.ofString "put")) && (decide (0 ≤ a) && decide (a < (n : Int)))) = true
    rw [decide_eq_true h.1, decide_eq_true h.2, decide_eq_true rfl]; rfl
  | put a =>
    have h : 0 ≤ a ∧ a < n := h
    show ((decide (Str.ofString "put" = Str.ofString "lost") || decide (Str.ofString "put" = Str.ofString "put")) && (decide (0 ≤ a) && decide (a < (n : Int)))) = true
    rw [decide_eq_true h.1, decide_eq_true h.2, decide_eq_true (rfl : Str.ofString "put" = Str.ofString "put"), Bool.or_true]; rfl
  | sam a => exact h.elim
  | tur a b =>
    have h : (0 ≤ a ∧ a < n) ∧ (0 ≤ b ∧ b < n) ∧ a ≠ b := h
    show (decide (Str.ofString "turned" = Str.ofString "turned") && ((decide (0 ≤ a) && decide (a < (n : Int))) && ((decide (0 ≤ b) && decide (b < (n : Int))) && !decide (a = b)))) = true
    rw [decide_eq_true h.1.1, decide_eq_true h.1.2, decide_eq_true h.2.1.1, decide_eq_true h.2.1.2, decide_eq_false h.2.2, decide_eq_true rfl]; rfl
theorem mvs_kinds {K : PySem.W.Frag} {H : Hp} {a : Addr} {xs : List V} {ks : List Mv} {D : Dcd} (ok : D.ok) (hq : SqQ K H a xs) (hk : Paired (MvAt H) xs ks) (lk : ks.length ≤ 1000) (gk : ∀ k ∈ ks, okK D.sg k) :
    ∃ e, Dg K H false (.ref a) e ∧ (itsD e).length ≤ 100000 ∧ (∀ k ∈ itsD e, Bd k) ∧ kindsB (.int (D.sg : Nat)) e = true := by
  have key : ∀ e, itsD e = ks.map Mv.dat → isSqD e = true → (itsD e).length ≤ 100000 ∧ (∀ k ∈ itsD e, Bd k) ∧ kindsB (.int (D.sg : Nat)) e = true := fun e he hs => by
    rw [he]
    refine ⟨by rw [List.length_map]; omega, fun k h => ?_, ?_⟩
    · obtain ⟨m, _, rfl⟩ := List.mem_map.mp h
      cases m <;> (show (_ : List PyData).length ≤ 1000; simp)
    · unfold kindsB
      rw [he, hs, Bool.true_and, List.all_eq_true]
      intro k h
      obtain ⟨m, hm, rfl⟩ := List.mem_map.mp h
      have sg : isSg (.int (D.sg : Nat)) = true := by
        show (decide ((1 : Int) ≤ (D.sg : Nat)) && decide (((D.sg : Nat) : Int) ≤ 5)) = true
        have := ok.s1; have := ok.s5
        rw [decide_eq_true (by omega), decide_eq_true (by omega)]; rfl
      unfold isKind
      rw [sg, Bool.true_and]
      exact (gk m hm).kd
  rcases hq with h | h
  · exact ⟨.list (ks.map Mv.dat), .lst h (fun e => by cases e) (mvs_dg hk), key _ rfl rfl⟩
  · exact ⟨.tuple (ks.map Mv.dat), .tup h (mvs_dg hk), key _ rfl rfl⟩
def PrAt (H : Hp) (v : V) (x : Pr) : Prop := ∃ b, v = .ref b ∧ H b = some (.tup [stV x.1, stV x.2])
def pk (x : Pr) : List L2.Key := [.inl (stN x.1), .inl (stN x.2)]
theorem pk_inj {x y : Pr} (h : pk x = pk y) : x = y := by
  injection h with h1 h2
  injection h2 with h2 _
  injection h1 with h1
  injection h2 with h2
  obtain ⟨a, b⟩ := x
  obtain ⟨c, d⟩ := y
  rw [show a = c from stN_inj h1, show b = d from stN_inj h2]
theorem pk_kV (x : Pr) : (pk x).map kV = [stV x.1, stV x.2] := by
  rw [stV_eq, stV_eq]; rfl
theorem prs_ext {H H' : Hp} (s : Same H H') {vs : List V} {xs : List Pr} (h : Paired (PrAt H) vs xs) : Paired (PrAt H') vs xs := L2.Paired.mapP h fun _ _ ⟨b, e, h⟩ => ⟨b, e, s _ _ h⟩
def Keys (kvs : List (List L2.Key × V)) (known : List Pr) : Prop := ∀ k, k ∈ kvs.map (·.1) ↔ ∃ x ∈ known, k = pk x
theorem Keys.put {kvs : List (List L2.Key × V)} {known : List Pr} (h : Keys kvs known) (x : Pr) (v : V) : Keys (putK kvs (pk x) v) (known ++ [x]) := fun k => by
  rw [put_keys, h k]
  constructor
  · rintro (⟨y, h1, h2⟩ | z)
    · exact ⟨y, List.mem_append_left _ h1, h2⟩
    · exact ⟨x, List.mem_append_right _ (by simp), z⟩
  · rintro ⟨y, h1, h2⟩
    rcases List.mem_append.mp h1 with z | z
    · exact .inl ⟨y, z, h2⟩
    · rw [List.mem_singleton.mp z] at h2; exact .inr h2
theorem Keys.mem {kvs : List (List L2.Key × V)} {known : List Pr} (h : Keys kvs known) (x : Pr) : (valV kvs (pk x)).isSome = true ↔ x ∈ known := by
  rw [← valV_any, List.any_eq_true]
  constructor
  · rintro ⟨kv, h1, h2⟩
    have := of_decide_eq_true h2
    obtain ⟨y, hy, e⟩ := (h kv.1).mp (List.mem_map.mpr ⟨kv, h1, rfl⟩)
    rw [this] at e
    rw [pk_inj e]; exact hy
  · intro hx
    obtain ⟨kv, h1, h2⟩ := List.mem_map.mp ((h (pk x)).mpr ⟨x, hx, rfl⟩)
    exact ⟨kv, h1, decide_eq_true h2⟩
/-! ### how many pairs there are -/
def okP (D : Dcd) (x : Pr) : Prop := okS D x.1 ∧ okS D x.2
theorem okP.mv {D : Dcd} (ok : D.ok) {x : Pr} (h : okP D x) (m : Mv) : okP D (D.mv m x) := by
  cases m with
  | los a => exact ⟨Dcd.beh_ok ok, h.2⟩
  | put a => exact ⟨h.1, Dcd.beh_ok ok⟩
  | sam a => exact ⟨Dcd.beh_ok ok, Dcd.beh_ok ok⟩
  | tur a b => exact ⟨Dcd.beh_ok ok, Dcd.beh_ok ok⟩
theorem okP.start {D : Dcd} (ok : D.ok) : okP D (some 0, some 0) := ⟨fun q e => by injection e with e; rw [← e]; exact ok.n1, fun q e => by injection e with e; rw [← e]; exact ok.n1⟩
theorem okP.rch {D : Dcd} (ok : D.ok) {ms : List Mv} {x : Pr} (r : Rch D.mv ms (some 0, some 0) x) : okP D x := by
  induction r with
  | start => exact okP.start ok
  | step _ _ ih => exact ih.mv ok _
def cS : Sta → Nat | none => 0 | some s => s + 1
theorem prs_bound {D : Dcd} (ok : D.ok) {ms : List Mv} {known : List Pr} (nd : known.Nodup) (r : ∀ x ∈ known, Rch D.mv ms (some 0, some 0) x) : known.length ≤ 1681 := by
  have n40 := ok.n40
  have c40 : ∀ {s : Sta}, okS D s → cS s ≤ 40 := fun {s} h => by
    cases s with
    | none => exact Nat.zero_le _
    | some s => have := h s rfl; show s + 1 ≤ 40; omega
  have ci : ∀ {s t : Sta}, cS s = cS t → s = t := fun {s t} h => by
    cases s with
    | none => cases t with
      | none => rfl
      | some b => have h' : 0 = b + 1 := h; omega
    | some a => cases t with
      | none => have h' : a + 1 = 0 := h; omega
      | some b => have h' : a + 1 = b + 1 := h; rw [show a = b by omega]
  refine nodup_code (c := fun x : Pr => cS x.1 * 41 + cS x.2) nd (fun x hx y hy e => ?_) fun x hx => ?_
  · have h1 := okP.rch ok (r x hx)
    have h2 := okP.rch ok (r y hy)
    have a1 := c40 h1.2
    have a2 := c40 h2.2
    have e : cS x.1 * 41 + cS x.2 = cS y.1 * 41 + cS y.2 := e
    have e1 : cS x.1 = cS y.1 := by omega
    have e2 : cS x.2 = cS y.2 := by omega
    obtain ⟨x1, x2⟩ := x
    obtain ⟨y1, y2⟩ := y
    rw [show x1 = y1 from ci e1, show x2 = y2 from ci e2]
  · have h1 := okP.rch ok (r x hx)
    have a1 := c40 h1.1
    have a2 := c40 h1.2
    show cS x.1 * 41 + cS x.2 < 1681
    omega
theorem okK.okM {n : Nat} {m : Mv} (h : okK n m) : okM n m := by
  cases m with
  | los a => exact h
  | put a => exact h
  | sam a => exact h.elim
  | tur a b => exact ⟨h.1, h.2.1⟩
/-! ### the search's dict and stack -/
structure Sx (H2 : Hp) (M Sk : Addr) (known stack : List Pr) (G : Hp) : Prop where
  s : Same H2 G
  m : ∃ kvs, G M = some (.dT kvs) ∧ Keys kvs known ∧ kvs.length ≤ known.length
  k : ∃ zs, G Sk = some (.lst zs) ∧ Paired (PrAt (wo (wo G M) Sk)) zs stack
section
variable {H2 G : Hp} {M Sk : Addr} {known stack : List Pr} {x : Pr}
theorem Sx.ne (h : Sx H2 M Sk known stack G) : Sk ≠ M := fun e => by
  obtain ⟨kvs, e1, _⟩ := h.m
  obtain ⟨zs, e2, _⟩ := h.k
  rw [e, e1] at e2; cases e2
theorem Sx.new (h : Sx H2 M Sk known stack G) {b : Addr} (hb : G b = none) (o : HO) : Sx H2 M Sk known stack (upd G b o) where
  s := Same.new h.s hb
  m := by
    obtain ⟨kvs, e1, h1⟩ := h.m
    exact ⟨kvs, by rw [upd_ne (ne_of_none e1 hb)]; exact e1, h1⟩
  k := by
    obtain ⟨kvs, e1, _⟩ := h.m
    obtain ⟨zs, e2, h2⟩ := h.k
    refine ⟨zs, by rw [upd_ne (ne_of_none e2 hb)]; exact e2, prs_ext ?_ h2⟩
    rw [wo_new (Ne.symm (ne_of_none e1 hb)), wo_new (Ne.symm (ne_of_none e2 hb))]
    refine Same.new (Same.refl _) ?_
    rw [wo_ne (Ne.symm (ne_of_none e2 hb)), wo_ne (Ne.symm (ne_of_none e1 hb))]
    exact hb
theorem Sx.put (h : Sx H2 M Sk known stack G) (hM : H2 M = none) {kvs : List (List L2.Key × V)} (e : G M = some (.dT kvs)) (v : V) : Sx H2 M Sk (known ++ [x]) stack (upd G M (.dT (putK kvs (pk x) v))) where
  s := fun b o e' => by rw [upd_ne (ne_of_none e' hM)]; exact h.s b o e'
  m := by
    obtain ⟨kvs', e1, h1, h2⟩ := h.m
    rw [e] at e1
    injection e1 with e1
    injection e1 with e1
    subst e1
    refine ⟨_, upd_same, h1.put x v, ?_⟩
    have := length_putK kvs (pk x) v
    rw [List.length_append, List.length_singleton]
    omega
  k := by
    obtain ⟨zs, e2, h2⟩ := h.k
    refine ⟨zs, by rw [upd_ne h.ne]; exact e2, ?_⟩
    rw [wo_upd]; exact h2
theorem Sx.push (h : Sx H2 M Sk known stack G) (hS : H2 Sk = none) {zs : List V} {b : Addr} (e : G Sk = some (.lst zs)) (eb : G b = some (.tup [stV x.1, stV x.2])) : Sx H2 M Sk known (stack ++ [x]) (upd G Sk (.lst (zs ++ [.ref b]))) where
  s := fun b o e' => by rw [upd_ne (ne_of_none e' hS)]; exact h.s b o e'
  m := by
    obtain ⟨kvs, e1, h1⟩ := h.m
    exact ⟨kvs, by rw [upd_ne (Ne.symm h.ne)]; exact e1, h1⟩
  k := by
    obtain ⟨kvs, e1, _⟩ := h.m
    obtain ⟨zs', e2, h2⟩ := h.k
    rw [e] at e2
    injection e2 with e2
    injection e2 with e2
    subst e2
    refine ⟨_, upd_same, ?_⟩
    rw [wo_new h.ne, wo_upd]
    refine pr_app h2 (.cons ⟨b, rfl, ?_⟩ .nil)
    rw [wo_ne (fun z => by rw [z, e] at eb; cases eb), wo_ne (fun z => by rw [z, e1] at eb; cases eb)]
    exact eb
theorem Sx.pop {zs : List V} (h : Sx H2 M Sk known stack G) (hS : H2 Sk = none) (e : G Sk = some (.lst zs)) (ne : stack ≠ []) : ∃ st x v b, stack = st ++ [x] ∧ v = V.ref b ∧ zs[zs.length - 1]? = some v ∧ G b = some (.tup [stV x.1, stV x.2]) ∧ b ≠ Sk ∧ Sx H2 M Sk known st (upd G Sk (.lst zs.dropLast)) := by
  obtain ⟨kvs, e1, h1⟩ := h.m
  obtain ⟨zs', e2, h2⟩ := h.k
  rw [e] at e2
  injection e2 with e2
  injection e2 with e2
  subst e2
  have ll := pr_len h2
  have lp : 0 < stack.length := List.length_pos_iff.mpr ne
  obtain ⟨st, x, rfl⟩ : ∃ st x, stack = st ++ [x] := ⟨stack.dropLast, stack.getLast ne, (List.dropLast_concat_getLast ne).symm⟩
  obtain ⟨zt, v, rfl⟩ : ∃ zt v, zs = zt ++ [v] := by
    have : zs ≠ [] := fun z => by rw [z] at ll; simp at ll
    exact ⟨zs.dropLast, zs.getLast this, (List.dropLast_concat_getLast this).symm⟩
  rw [List.length_append, List.length_append, List.length_singleton, List.length_singleton] at ll
  obtain ⟨y, hy, b, ev, hb⟩ := pr_get h2 (i := zt.length) (x := v) (by simp)
  subst ev
  have lz : zt.length = st.length := by omega
  rw [lz] at hy
  have hy' : y = x := by simpa using hy.symm
  subst hy'
  have nS : b ≠ Sk := fun z => by rw [z, wo_at] at hb; cases hb
  have nM : b ≠ M := fun z => by rw [z, wo_ne (Ne.symm h.ne), wo_at] at hb; cases hb
  rw [wo_ne nS, wo_ne nM] at hb
  refine ⟨st, y, .ref b, b, rfl, rfl, by simp, hb, nS, ?_, ?_, ?_⟩
  · exact fun b o e' => by rw [upd_ne (ne_of_none e' hS)]; exact h.s b o e'
  · exact ⟨kvs, by rw [upd_ne (Ne.symm h.ne)]; exact e1, h1⟩
  · refine ⟨_, upd_same, ?_⟩
    rw [wo_new h.ne, wo_upd, List.dropLast_concat]
    have : ∀ {zt : List V} {st : List Pr} {v : V} {x : Pr} {F : V → Pr → Prop}, zt.length = st.length → Paired F (zt ++ [v]) (st ++ [x]) → Paired F zt st := by
      intro zt
      induction zt with
      | nil => intro st v x F l _; cases st with | nil => exact .nil | cons a st => simp at l
      | cons a zt ih =>
        intro st v x F l h
        cases st with
        | nil => simp at l
        | cons c st =>
          cases h with
          | cons h1 h2 => exact .cons h1 (ih (by simpa using l) h2)
    exact this lz h2
end
section
variable {P : Program} {w : World} {K : PySem.W.Frag} {mg : Str → Option Value} {base : Heap}
theorem ok_is_steady (T : Txt K mg w) : FnOk P w K mg base (L2.CX P w) 8 T.f_is_steady T.fd_is_steady ["decoder", "kinds"] (fun vs H Q E => ∃ x y, vs = [x, y] ∧ ((∃ d m, Dg K H m x d ∧ Bad T.C_InvalidDecoder H x E) ∨
    (∃ o D e m, x = .ref o ∧ DecAt K T.C_Decoder H o D ∧ Dg K H m y e ∧ (itsD e).length ≤ 100000 ∧ (∀ k ∈ itsD e, Bd k) ∧ kindsB (.int (D.sg : Nat)) e = false ∧ Bad T.C_InvalidKinds H y E) ∨
    (∃ o D a xs ks, x = .ref o ∧ y = .ref a ∧ DecAt K T.C_Decoder H o D ∧ SqQ K H a xs ∧ Paired (MvAt H) xs ks ∧ ks.length ≤ 1000 ∧ (∀ k ∈ ks, okK D.sg k) ∧
      ∀ b, (b = true ↔ D.steady ks) → ∀ H', Same H H' → Q (.bl b) H'))) := by
  refine T.F_is_steady.okX sc_is_steady (fun vs H Q E h => ?_) (fun cdv A outer s0 H vs Q E hr h => ?_)
  · obtain ⟨x, y, rfl, _⟩ := h; rfl
  · obtain ⟨x, y, rfl, h⟩ := h
    refine ⟨_, (pss_cons (ps_expr (pe_call (ok_check_kinds T) (hr.mono (by decide)) rfl T.g_check_kinds T.F_check_kinds.kp T.b_check_kinds .nil (passes_call (takes_of rfl rfl rfl rfl) (fun _ _ _ _ z => z)) (pa_cons (pv 0) (pa_cons (pv 1) pa_nil))))
      (pss_cons (ps_set (i := 2) sc_is_steady.nd rfl (Or.inl rfl) (pe_call (ok_steps_with T) (hr.mono (by decide)) rfl T.g_steps_with T.F_steps_with.kp T.b_steps_with .nil pass0 (pa_cons (pe_fld (pv 0) rfl) (pa_cons (pv 1) pa_nil))))
      (pss_cons (ps_set (i := 3) sc_is_steady.nd rfl (Or.inl rfl) (pe_dispT1 (hu_of hr) (pe_tup (pa_cons pe_int (pa_cons pe_int pa_nil))) pe_bl))
      (pss_cons (ps_set (i := 4) sc_is_steady.nd rfl (Or.inl rfl) (pe_lst (pa_cons (pe_tup (pa_cons pe_int (pa_cons pe_int pa_nil))) pa_nil)))
      (pss_cons (ps_while (passes_of rfl) (pt_truth (pv 4) (fun _ => rfl)) (pss_cons (ps_asg (pe_bm0 PySem.F.plainAttrs_list PySem.F.slot_list_pop PySem.F.type_list_pop mt_pop (pv 4)) (pg_tup rfl (pgs_cons (pg_name (i := 5) sc_is_steady.nd rfl (Or.inl rfl)) (pgs_cons (pg_name (i := 6) sc_is_steady.nd rfl (Or.inl rfl)) pgs_nil))))
      (pss_cons (ps_if (pt_cmpR op_ne (pe_call (ok_accepts T) (hr.mono (by decide)) rfl T.g_accepts T.F_accepts.kp T.b_accepts .nil pass0 (pa_cons (pv 0) (pa_cons (pv 5) pa_nil))) (pe_call (ok_accepts T) (hr.mono (by decide)) rfl T.g_accepts T.F_accepts.kp T.b_accepts .nil pass0 (pa_cons (pv 0) (pa_cons (pv 6) pa_nil))) (nomark _)) (pss_one (ps_ret pe_bl)) pss_nil)
      (pss_one (ps_for (passes_of rfl) rfl (pi_list (pv 2)) (pg_name (i := 7) sc_is_steady.nd rfl (Or.inl rfl)) (pss_cons (ps_set (i := 8) sc_is_steady.nd rfl (Or.inl rfl) (pe_ifExp (pt_cmpR op_eq (pe_ix ix_tup (pv 7) pe_int (fun _ _ => rfl)) pe_str (nomark _)) (pv 5) (pe_call (ok_state_behind T) (hr.mono (by decide)) rfl T.g_state_behind T.F_state_behind.kp T.b_state_behind .nil pass0 (pa_cons (pv 0) (pa_cons (pv 5) (pa_cons (pe_ix ix_tup (pv 7) pe_int (fun _ _ => rfl)) pa_nil))))))
      (pss_cons (ps_set (i := 9) sc_is_steady.nd rfl (Or.inl rfl) (pe_ifExp (pt_cmpR op_eq (pe_ix ix_tup (pv 7) pe_int (fun _ _ => rfl)) pe_str (nomark _)) (pv 6) (pe_call (ok_state_behind T) (hr.mono (by decide)) rfl T.g_state_behind T.F_state_behind.kp T.b_state_behind .nil pass0 (pa_cons (pv 0) (pa_cons (pv 6) (pa_cons (pe_ix ix_tup (pv 7) (pe_un un_neg pe_int) (fun _ _ => rfl)) pa_nil))))))
      (pss_one (ps_if (pt_cmp (pc_dnotin (hu_of hr) (pe_tup (pa_cons (pv 8) (pa_cons (pv 9) pa_nil))) (pv 3))) (pss_cons (ps_dput (hu_of hr) (pv 3) (pe_tup (pa_cons (pv 8) (pa_cons (pv 9) pa_nil))) pe_bl rfl)
      (pss_one (ps_expr (pe_bm PySem.F.plainAttrs_list PySem.F.slot_list_append PySem.F.type_list_append mt_append (pv 4) (pa_cons (pe_tup (pa_cons (pv 8) (pa_cons (pv 9) pa_nil))) pa_nil))))) pss_nil)))))))))
      (pss_one (ps_ret pe_bl))))))), ?_⟩
    rcases h with ⟨d, m, hd, kb⟩ | ⟨o, D, e, m, rfl, dec, hy, hl, hb, hf, kb⟩ | ⟨o, D, a, xs, ks, rfl, rfl, dec, hq, hk, lk, gk, q⟩
    · exact ⟨_, rfl, _, rfl, _, _, rfl, .inl ⟨d, m, hd, kb⟩⟩
    · exact ⟨_, rfl, _, rfl, _, _, rfl, .inr ⟨o, D, e, m, rfl, dec, hy, hl, hb, .inl ⟨hf, kb⟩⟩⟩
    obtain ⟨⟨dx, Sa, Ea, eo, hs, he⟩, ok⟩ := id dec
    have hy : ∃ e, Dg K H false (.ref a) e ∧ (itsD e).length ≤ 100000 ∧ (∀ k ∈ itsD e, Bd k) ∧ kindsB (.int (D.sg : Nat)) e = true := mvs_kinds ok hq hk lk gk
    obtain ⟨e, hd, hl, hb, hkB⟩ := hy
    refine ⟨_, rfl, _, rfl, _, _, rfl, .inr ⟨o, D, e, false, rfl, dec, hd, hl, hb, .inr ⟨hkB, fun H1 s1 => ?_⟩⟩⟩
    refine ⟨_, rfl, o, _, dx, _, _, rfl, s1 _ _ eo, T.cl_Decoder, T.na_Decoder_signs, dfs_signs, _, rfl, a, xs, ks, D.sg, rfl, hq.same s1, mvs_ext s1 hk, lk, by have := ok.s5; omega, fun L ys ms H2 s2 hL eL hms mem lms => ?_⟩
    have s02 := s1.trans s2
    have okm : ∀ m ∈ ms, okM D.sg m := fun m hm => by
      rcases (mem m).mp hm with h | ⟨a, ha, rfl⟩
      · exact (gk m h).okM
      · exact ⟨by omega, by omega⟩
    have std : D.steady ks ↔ ∀ x, Rch D.mv ms (some 0, some 0) x → D.evn x = true := by
      have mem' : ∀ m, m ∈ ks ++ D.frees ↔ m ∈ ms := fun m => by
        rw [mem, List.mem_append]
        unfold Dcd.frees
        rw [List.mem_map]
        constructor
        · rintro (h | ⟨a, h, e⟩)
          · exact .inl h
          · exact .inr ⟨a, List.mem_range.mp h, e.symm⟩
        · rintro (h | ⟨a, h, e⟩)
          · exact .inl h
          · exact .inr ⟨a, List.mem_range.mpr h, e.symm⟩
      constructor
      · exact fun h x r => h x (r.mono fun m hm => ⟨m, (mem' m).mpr hm, rfl⟩)
      · exact fun h x r => h x (r.mono fun m hm => ⟨m, (mem' m).mp hm, rfl⟩)
    refine fun M hM => ⟨(by show 2 ≤ sizeLine; decide), fun b hb => ⟨?_, b, pk (some 0, some 0), rfl, upd_same, ?_⟩⟩
    · have hbM : b ≠ M := fun e => by rw [e, upd_same] at hb; cases hb
      rw [upd_ne (Ne.symm hbM)]; exact upd_same
    have hbM : b ≠ M := fun e => by rw [e, upd_same] at hb; cases hb
    rw [upd_ne hbM] at hb
    refine ⟨(by show 2 ≤ sizeLine; decide), fun c hc => ⟨(by show 1 ≤ sizeLine; decide), fun Sk hS => ?_⟩⟩
    have hcM : c ≠ M := fun e => by rw [e, upd_same] at hc; cases hc
    have hSM : Sk ≠ M := fun e => by
      rw [e, upd_ne (Ne.symm hcM), upd_same] at hS; cases hS
    have hSc : Sk ≠ c := fun e => by rw [e, upd_same] at hS; cases hS
    rw [upd_ne hSc, upd_ne hSM] at hS
    rw [upd_ne hcM] at hc
    have hSb : Sk ≠ b := fun e => by rw [e, upd_same] at hS; cases hS
    have hcb : c ≠ b := fun e => by rw [e, upd_same] at hc; cases hc
    rw [upd_ne hSb, upd_ne hSM] at hS
    rw [upd_ne hcb, upd_ne hcM] at hc
    have sx0 : Sx H2 M Sk [(some 0, some 0)] [(some 0, some 0)] (upd (upd (upd (upd (upd H2 M (.dT [])) b (.tup [.int 0, .int 0])) M (.dT [(pk (some 0, some 0), .bl true)])) c (.tup [.int 0, .int 0])) Sk (.lst [.ref c])) := by
      refine ⟨?_, ⟨[(pk (some 0, some 0), .bl true)], ?_, fun k => ?_, Nat.le_refl _⟩, _, upd_same, .cons ⟨c, rfl, ?_⟩ .nil⟩
      · intro b' o' e
        rw [upd_ne (ne_of_none e hS), upd_ne (ne_of_none e hc), upd_ne (ne_of_none e hM), upd_ne (ne_of_none e hb), upd_ne (ne_of_none e hM)]
        exact e
      · rw [upd_ne (Ne.symm hSM), upd_ne (Ne.symm hcM), upd_same]
      · simp
      · rw [wo_ne (Ne.symm hSc), wo_ne hcM, upd_ne (Ne.symm hSc), upd_same]; rfl
    refine ⟨fun m σ G => ∃ known stack x5 x6 x7 x8 x9, σ = [some (.ref o), some (.ref a), some (.ref L), some (.ref M), some (.ref Sk), x5, x6, x7, x8, x9] ∧ Sx H2 M Sk known stack G ∧ Srch D.mv ms (some 0, some 0) D.evn known stack ∧ m = 2 * (1681 - known.length) + stack.length ∧ m ≤ 3362,
      ⟨_, [(some 0, some 0)], [(some 0, some 0)], none, none, none, none, none, rfl, sx0, Srch.start, rfl, by decide⟩, ?_⟩
    clear sx0 hc hcM hSc hcb hb hbM hSb
    rintro m σ G ⟨known, stack, x5, x6, x7, x8, x9, rfl, sx, sr, rfl, mle⟩
    obtain ⟨zs, eS, hzs⟩ := sx.k
    have bnd := prs_bound ok sr.nd sr.r
    have lzs : zs.length = stack.length := pr_len hzs
    have dec' : ∀ {G' : Hp}, Same H G' → DecAt K T.C_Decoder G' o D := fun s => dec.ext s
    refine ⟨_, rfl, _, .inl ⟨zs, SqL.of eS, rfl⟩, ?_⟩
    by_cases ne : stack = []
    · subst ne
      have zn : zs = [] := List.eq_nil_of_length_eq_zero lzs
      subst zn
      refine iteF ?_
      exact q true ⟨fun _ => std.mpr sr.steady, fun _ => rfl⟩ _ (s02.trans sx.s)
    have zne : (!zs.isEmpty) = true := by
      cases zs with
      | nil => exact absurd (List.eq_nil_of_length_eq_zero lzs.symm) ne
      | cons z zs => rfl
    rw [zne]
    obtain ⟨st, x, v, b, rfl, rfl, ev, eb, nb, sx1⟩ := sx.pop hS eS ne
    refine iteT ⟨fun σ' G' => ∃ m', m' < 2 * (1681 - known.length) + (st ++ [x]).length ∧ ∃ known' stack' x5 x6 x7 x8 x9, σ' = [some (.ref o), some (.ref a), some (.ref L), some (.ref M), some (.ref Sk), x5, x6, x7, x8, x9] ∧ Sx H2 M Sk known' stack' G' ∧ Srch D.mv ms (some 0, some 0) D.evn known' stack' ∧ m' = 2 * (1681 - known'.length) + stack'.length ∧ m' ≤ 3362, fun σ' G' z => z, ?_⟩
    have eb1 : (upd G Sk (.lst zs.dropLast)) b = some (.tup [stV x.1, stV x.2]) := by rw [upd_ne nb]; exact eb
    generalize hG1 : upd G Sk (.lst zs.dropLast) = G1 at sx1 eb1
    refine ⟨_, rfl, .inl ⟨rfl, zs, SqL.of eS⟩, Sk, zs, _, rfl, rfl, eS, ev, ?_⟩
    rw [hG1]
    have hx : okP D x := okP.rch ok (sr.r x (sr.st x (List.mem_append_right _ (by simp))))
    refine ⟨b, _, rfl, .inl (.inl eb1), rfl, _, _, rfl, _, _, rfl, rfl, ?_⟩
    refine ⟨_, rfl, _, rfl, o, D, x.1, rfl, dec' (s02.trans sx1.s), hx.1, _, rfl, _, rfl, o, D, x.2, rfl, dec' (s02.trans sx1.s), hx.2, ?_⟩
    refine ⟨rfl, _, rfl, ?_⟩
    have hev : (!decide (V.bl (D.acc x.1) = V.bl (D.acc x.2))) = !D.evn x := by
      rw [dec_bl]; rfl
    rw [hev]
    cases hgood : D.evn x with
    | false =>
      exact iteT (q false ⟨nofun, fun z => absurd (std.mp z) (sr.bad hgood)⟩ _ (s02.trans sx1.s))
    | true =>
    refine iteF ?_
    refine ⟨_, rfl, L, rfl, ⟨ys, SqL.of (sx1.s _ _ eL)⟩, for_list (K := K) (a := L) (xs := ys) (fun i σ' G' => ∃ known' stack' x7 x8 x9, σ' = [some (.ref o), some (.ref a), some (.ref L), some (.ref M), some (.ref Sk), some (stV x.1), some (stV x.2), x7, x8, x9] ∧ Sx H2 M Sk known' stack' G' ∧ SrchAt D.mv ms (some 0, some 0) D.evn x i known' stack' ∧ 2 * (1681 - known'.length) + stack'.length ≤ 2 * (1681 - known.length) + st.length) ⟨known, st, x7, x8, x9, rfl, sx1, sr.pop hgood, Nat.le_refl _⟩ (fun i σ' G' _ h => ?_) ?_ ?_⟩
    · obtain ⟨_, _, _, _, _, _, sx', _⟩ := h
      exact SqL.of (sx'.s _ _ eL)
    · rintro i vm σ' G' hvm ⟨known', stack', x7, x8, x9, rfl, sx', sa, lt⟩
      obtain ⟨m, hm, bm, rfl, hbm⟩ := pr_get hms hvm
      have hbm := sx'.s _ _ hbm
      have om := okm m (List.mem_of_getElem? hm)
      have dcG := dec' (s02.trans sx'.s)
      refine asg_op (i := 8) (σ2 := [some (.ref o), some (.ref a), some (.ref L), some (.ref M), some (.ref Sk), some (stV x.1), some (stV x.2), some (.ref bm), some (stV (D.mv m x).1), x9]) (H2 := G') (fun N hN => ?_) ?_
      · cases m with
        | put a' =>
          refine ⟨_, rfl, bm, _, _, _, rfl, rfl, .inl (.inl hbm), atI_nat (j := 0) rfl, rfl, _, rfl, ?_⟩
          exact iteT ⟨_, rfl, hN⟩
        | los a' =>
          obtain ⟨k, rfl⟩ : ∃ k : Nat, a' = k := ⟨a'.toNat, by have : 0 ≤ a' ∧ a' < D.sg := om; omega⟩
          refine ⟨_, rfl, bm, _, _, _, rfl, rfl, .inl (.inl hbm), atI_nat (j := 0) rfl, rfl, _, rfl, ?_⟩
          exact iteF ⟨_, rfl, _, rfl, _, rfl, bm, _, _, _, rfl, rfl, .inl (.inl hbm), atI_nat (j := 1) rfl, o, D, x.1, k, rfl, dcG, hx.1, by have : 0 ≤ (k : Int) ∧ (k : Int) < D.sg := om; omega, hN⟩
        | sam a' =>
          obtain ⟨k, rfl⟩ : ∃ k : Nat, a' = k := ⟨a'.toNat, by have : 0 ≤ a' ∧ a' < D.sg := om; omega⟩
          refine ⟨_, rfl, bm, _, _, _, rfl, rfl, .inl (.inl hbm), atI_nat (j := 0) rfl, rfl, _, rfl, ?_⟩
          exact iteF ⟨_, rfl, _, rfl, _, rfl, bm, _, _, _, rfl, rfl, .inl (.inl hbm), atI_nat (j := 1) rfl, o, D, x.1, k, rfl, dcG, hx.1, by have : 0 ≤ (k : Int) ∧ (k : Int) < D.sg := om; omega, hN⟩
        | tur a' b' =>
          obtain ⟨k, rfl⟩ : ∃ k : Nat, a' = k := ⟨a'.toNat, by have : (0 ≤ a' ∧ a' < D.sg) ∧ (0 ≤ b' ∧ b' < D.sg) := om; omega⟩
          refine ⟨_, rfl, bm, _, _, _, rfl, rfl, .inl (.inl hbm), atI_nat (j := 0) rfl, rfl, _, rfl, ?_⟩
          exact iteF ⟨_, rfl, _, rfl, _, rfl, bm, _, _, _, rfl, rfl, .inl (.inl hbm), atI_nat (j := 1) rfl, o, D, x.1, k, rfl, dcG, hx.1, by have : (0 ≤ (k : Int) ∧ (k : Int) < D.sg) ∧ (0 ≤ b' ∧ b' < D.sg) := om; omega, hN⟩
      refine asg_op (i := 9) (σ2 := [some (.ref o), some (.ref a), some (.ref L), some (.ref M), some (.ref Sk), some (stV x.1), some (stV x.2), some (.ref bm), some (stV (D.mv m x).1), some (stV (D.mv m x).2)]) (H2 := G') (fun N hN => ?_) ?_
      · cases m with
        | los a' =>
          refine ⟨_, rfl, bm, _, _, _, rfl, rfl, .inl (.inl hbm), atI_nat (j := 0) rfl, rfl, _, rfl, ?_⟩
          exact iteT ⟨_, rfl, hN⟩
        | put a' =>
          obtain ⟨k, rfl⟩ : ∃ k : Nat, a' = k := ⟨a'.toNat, by have : 0 ≤ a' ∧ a' < D.sg := om; omega⟩
          refine ⟨_, rfl, bm, _, _, _, rfl, rfl, .inl (.inl hbm), atI_nat (j := 0) rfl, rfl, _, rfl, ?_⟩
          exact iteF ⟨_, rfl, _, rfl, _, rfl, _, rfl, bm, _, _, _, rfl, rfl, .inl (.inl hbm), atI_last [V.str (Str.ofString "put")] (V.int (k : Nat)), o, D, x.2, k, rfl, dcG, hx.2, by have : 0 ≤ (k : Int) ∧ (k : Int) < D.sg := om; omega, hN⟩
        | sam a' =>
          obtain ⟨k, rfl⟩ : ∃ k : Nat, a' = k := ⟨a'.toNat, by have : 0 ≤ a' ∧ a' < D.sg := om; omega⟩
          refine ⟨_, rfl, bm, _, _, _, rfl, rfl, .inl (.inl hbm), atI_nat (j := 0) rfl, rfl, _, rfl, ?_⟩
          exact iteF ⟨_, rfl, _, rfl, _, rfl, _, rfl, bm, _, _, _, rfl, rfl, .inl (.inl hbm), atI_last [V.str (Str.ofString "same")] (V.int (k : Nat)), o, D, x.2, k, rfl, dcG, hx.2, by have : 0 ≤ (k : Int) ∧ (k : Int) < D.sg := om; omega, hN⟩
        | tur a' b' =>
          obtain ⟨k, rfl⟩ : ∃ k : Nat, b' = k := ⟨b'.toNat, by have : (0 ≤ a' ∧ a' < D.sg) ∧ (0 ≤ b' ∧ b' < D.sg) := om; omega⟩
          refine ⟨_, rfl, bm, _, _, _, rfl, rfl, .inl (.inl hbm), atI_nat (j := 0) rfl, rfl, _, rfl, ?_⟩
          exact iteF ⟨_, rfl, _, rfl, _, rfl, _, rfl, bm, _, _, _, rfl, rfl, .inl (.inl hbm), atI_last [V.str (Str.ofString "turned"), V.int a'] (V.int (k : Nat)), o, D, x.2, k, rfl, dcG, hx.2, by have : (0 ≤ a' ∧ a' < D.sg) ∧ (0 ≤ (k : Int) ∧ (k : Int) < D.sg) := om; omega, hN⟩
      have z2 : 2 ≤ sizeLine := by decide
      refine ⟨_, rfl, _, rfl, z2, fun t ht => ?_⟩
      have sx2 := sx'.new ht (.tup [stV (D.mv m x).1, stV (D.mv m x).2])
      have et : (upd G' t (.tup [stV (D.mv m x).1, stV (D.mv m x).2])) t = some (.tup ((pk (D.mv m x)).map kV)) := by rw [upd_same, pk_kV]
      generalize upd G' t (.tup [stV (D.mv m x).1, stV (D.mv m x).2]) = G2 at sx2 et
      obtain ⟨kvs, eM, hkv, lkv⟩ := sx2.m
      refine ⟨_, rfl, M, _, rfl, DGet.t eM et, ?_⟩
      refine ⟨_, rfl, ?_⟩
      have hmem := hkv.mem (D.mv m x)
      cases hv : (valV kvs (pk (D.mv m x))).isSome with
      | true =>
        rw [hv] at hmem
        exact iteF ⟨known', stack', _, _, _, rfl, sx2, sa.old hm (hmem.mp rfl), lt⟩
      | false =>
        rw [hv] at hmem
        have hnot : ¬ D.mv m x ∈ known' := fun z => by have := hmem.mpr z; cases this
        have sa2 := sa.new hm hnot
        have bnd2 := prs_bound ok sa2.nd sa2.r
        rw [List.length_append, List.length_singleton] at bnd2
        refine iteT ⟨_, rfl, _, rfl, _, rfl, z2, fun u hu => ?_⟩
        have sx3 := sx2.new hu (.tup [stV (D.mv m x).1, stV (D.mv m x).2])
        have eu : (upd G2 u (.tup [stV (D.mv m x).1, stV (D.mv m x).2])) u = some (.tup ((pk (D.mv m x)).map kV)) := by rw [upd_same, pk_kV]
        have eM3 : (upd G2 u (.tup [stV (D.mv m x).1, stV (D.mv m x).2])) M = some (.dT kvs) := by rw [upd_ne (ne_of_none eM hu)]; exact eM
        generalize upd G2 u (.tup [stV (D.mv m x).1, stV (D.mv m x).2]) = G3 at sx3 eu eM3
        have sx4 := sx3.put (x := D.mv m x) hM eM3 (.bl true)
        refine ⟨_, _, rfl, DPut.t eM3 eu (Nat.lt_of_le_of_lt (by omega : kvs.length ≤ 1681) (by decide)), ?_⟩
        generalize upd G3 M (.dT (putK kvs (pk (D.mv m x)) (.bl true))) = G4 at sx4
        obtain ⟨zs4, eS4, hz4⟩ := sx4.k
        refine ⟨_, rfl, .inl ⟨rfl, _, SqL.of eS4⟩, _, rfl, _, rfl, z2, fun r hr' => ?_⟩
        have sx5 := sx4.new hr' (.tup [stV (D.mv m x).1, stV (D.mv m x).2])
        have er : (upd G4 r (.tup [stV (D.mv m x).1, stV (D.mv m x).2])) r = some (.tup [stV (D.mv m x).1, stV (D.mv m x).2]) := upd_same
        have eS5 : (upd G4 r (.tup [stV (D.mv m x).1, stV (D.mv m x).2])) Sk = some (.lst zs4) := by rw [upd_ne (ne_of_none eS4 hr')]; exact eS4
        generalize upd G4 r (.tup [stV (D.mv m x).1, stV (D.mv m x).2]) = G5 at sx5 er eS5
        have sx6 := sx5.push hS eS5 er
        have lz4 : zs4.length = stack'.length := pr_len hz4
        have ls : stack'.length ≤ 5000 := by
          rw [List.length_append, List.length_singleton] at mle
          omega
        refine ⟨Sk, zs4, _, rfl, rfl, eS5, Nat.lt_of_le_of_lt (by omega : zs4.length ≤ 5000) (by decide), _, _, _, _, _, rfl, sx6, sa2, ?_⟩
        rw [List.length_append, List.length_append, List.length_singleton]
        have e1 : [D.mv m x].length = 1 := rfl
        omega
    · rintro σ' G' ⟨known', stack', x7, x8, x9, rfl, sx', sa, lt⟩
      rw [pr_len hms] at sa
      rw [List.length_append, List.length_singleton] at mle
      exact ⟨_, by rw [List.length_append, List.length_singleton]; omega, known', stack', _, _, x7, x8, x9, rfl, sx', sa.done, rfl, by omega⟩
end
end My

set_option Elab.async false
set_option linter.all false
set_option maxRecDepth 100000
set_option maxHeartbeats 4000000
/-! Lists of data whose items are drawn with the box at p; decoders and lists that grow. -/
namespace My
open PySem PySem.Spec PyProof.Rows L2
theorem two_kp {H H2 : Hp} {p D : Addr} (k : Kp p H H2) : Same (wo (wo H p) D) (wo (wo H2 p) D) := fun b o e => by
  have n : b ≠ D := fun z => by rw [z, wo_at] at e; cases e
  rw [wo_ne n] at e ⊢
  exact k.wo b o e
/-- the list at D, new since H1: its items are data, the j-th as G j says; c draws so far, k more for each item -/
structure AcB (K : PySem.W.Frag) (m : Bool) (p : Addr) (H1 : Hp) (D : Addr) (c k : Nat) (G : Nat → PyData → Prop) (i : Nat) (H : Hp) : Prop where
  kp : Kp p H1 H
  box : BoxAt H p (c + k * i)
  its : ∃ acc es, H D = some (.lst acc) ∧ DgAll K (wo (wo H p) D) m acc es ∧ es.length = i ∧ ∀ j e, es[j]? = some e → G j e
section
variable {K : PySem.W.Frag} {m : Bool} {p D : Addr} {H1 H H2 : Hp} {c k i : Nat} {G : Nat → PyData → Prop}
theorem AcB.start (hD : H1 D = none) (hb : BoxAt H1 p c) : AcB K m p H1 D c k G 0 (L2.upd H1 D (.lst [])) :=
  ⟨(Kp.refl p H1).new hD, (hb.new hD).mono (by omega), [], [], upd_same, .nil, rfl, fun j e h => by cases h⟩
theorem AcB.ne (h : AcB K m p H1 D c k G i H) : H D ≠ none := by
  obtain ⟨acc, es, e, _⟩ := h.its
  rw [e]; exact fun z => by cases z
theorem AcB.is (h : AcB K m p H1 D c k G i H) : ∃ l, H D = some (HO.lst l) := by
  obtain ⟨acc, es, e, _⟩ := h.its
  exact ⟨acc, e⟩
theorem AcB.snoc {y : V} {d : PyData} (h : AcB K m p H1 D c k G i H) (hD : H1 D = none) (np : D ≠ p) (l : i ≤ 100000) (s : Kp p H H2) (hb : BoxAt H2 p (c + k * (i + 1))) (dy : Dg K (wo (wo H2 p) D) m y d) (g : G i d) :
    ∃ acc, H2 D = some (.lst acc) ∧ acc.length < sizeLine ∧ AcB K m p H1 D c k G (i + 1) (L2.upd H2 D (.lst (acc ++ [y]))) := by
  obtain ⟨acc, es, e, ha, le, hg⟩ := h.its
  refine ⟨acc, s _ _ np e, by rw [ha.len, le]; exact Nat.lt_of_le_of_lt l (by decide), (h.kp.trans s).free hD, hb.other np.symm, acc ++ [y], es ++ [d], upd_same, ?_, by rw [List.length_append, le]; rfl, fun j x hx => ?_⟩
  · rw [two_upd]
    exact (ha.ext (two_kp s)).append (.cons dy .nil)
  · by_cases q : j < es.length
    · rw [List.getElem?_append_left q] at hx
      exact hg j x hx
    · have ej : j = es.length := by
        have := (List.getElem?_eq_some_iff.mp hx).1
        rw [List.length_append] at this
        simp at this
        omega
      rw [ej, List.getElem?_concat_length] at hx
      injection hx with hx
      rw [← hx, ej, le]; exact g
end
/-- a comprehension over a range, its items drawn -/
theorem lc_range_box {K : PySem.W.Frag} {m : Bool} {p : Addr} {lo : Int} {n c k : Nat} {g : TG} {tt : TT} {te : TE} {vs : List Nat} {σ : L2.St} {H1 : Hp} {D : Addr} {Qd : Hp → Prop} (G : Nat → PyData → Prop) (hD : H1 D = none) (hb : BoxAt H1 p c) (hn : n ≤ 100000)
    (step : ∀ j H' (R : VK) (N : Hp → Prop), j < n → Kp p H1 H' → (∃ l, H' D = some (HO.lst l)) → BoxAt H' p (c + k * j) → (∀ y e H4, Kp p H' H4 → BoxAt H4 p (c + k * (j + 1)) → Dg K (wo (wo H4 p) D) m y e → G j e → R y H4) →
      g (.int (lo + j)) (wipe σ vs) H' fun σ2 H2 => wipe σ2 vs = wipe σ vs ∧ tt σ2 H2 fun b H3 => if b = true then te σ2 H3 R else N H3)
    (done : ∀ H' xs es, Kp p H1 H' → BoxAt H' p (c + k * n) → H' D = some (.lst xs) → DgAll K (wo (wo H' p) D) m xs es → es.length = n → (∀ j e, es[j]? = some e → G j e) → Qd H') :
    ∃ W : Nat → Nat → Hp → Prop, (∃ m, W 0 m (L2.upd H1 D (.lst []))) ∧ ∀ i m H, W i m H →
      ((Itr lo n).stop i H ∧ Qd H) ∨ ((Itr lo n).go i H ∧ ∃ Nx : Hp → Prop, (∀ H', Nx H' → ∃ m', m' < m ∧ W (i + 1) m' H') ∧ ∀ x H', (Itr lo n).yld i H x H' → g x (wipe σ vs) H' fun σ2 H2 => wipe σ2 vs = wipe σ vs ∧ tt σ2 H2 fun b H3 =>
        if b = true then te σ2 H3 fun y H4 => ∃ acc, H4 D = some (.lst acc) ∧ acc.length < sizeLine ∧ Nx (L2.upd H4 D (.lst (acc ++ [y]))) else Nx H3) := by
  have np : D ≠ p := (hb.ne hD).symm
  refine lc_range (lo := lo) (n := n) (fun i H' => AcB K m p H1 D c k G i H') (AcB.start hD hb) ?_ ?_
  · rintro i H' hi hA
    exact step i H' _ _ hi hA.kp hA.is hA.box fun y e H4 k4 b4 dy ge => hA.snoc hD np (by omega) k4 b4 dy ge
  · rintro H' ⟨k', b', acc, es, e, ha, le, hg⟩
    exact done H' acc es k' b' e ha le hg
/-- over a list of known items -/
theorem lc_list_box {K : PySem.W.Frag} {m : Bool} {p a : Addr} {c k : Nat} {xs : List V} {g : TG} {tt : TT} {te : TE} {vs : List Nat} {σ : L2.St} {H1 : Hp} {D : Addr} {Qd : Hp → Prop} (G : Nat → PyData → Prop) (hL : SqL K (wo H1 p) a xs) (hD : H1 D = none) (hb : BoxAt H1 p c) (hn : xs.length ≤ 100000)
    (step : ∀ j x H' (R : VK) (N : Hp → Prop), xs[j]? = some x → Kp p H1 H' → (∃ l, H' D = some (HO.lst l)) → BoxAt H' p (c + k * j) → (∀ y e H4, Kp p H' H4 → BoxAt H4 p (c + k * (j + 1)) → Dg K (wo (wo H4 p) D) m y e → G j e → R y H4) →
      g x (wipe σ vs) H' fun σ2 H2 => wipe σ2 vs = wipe σ vs ∧ tt σ2 H2 fun b H3 => if b = true then te σ2 H3 R else N H3)
    (done : ∀ H' ys es, Kp p H1 H' → BoxAt H' p (c + k * xs.length) → H' D = some (.lst ys) → DgAll K (wo (wo H' p) D) m ys es → es.length = xs.length → (∀ j e, es[j]? = some e → G j e) → Qd H') :
    ∃ W : Nat → Nat → Hp → Prop, (∃ m, W 0 m (L2.upd H1 D (.lst []))) ∧ ∀ i m H, W i m H →
      ((Itl K a).stop i H ∧ Qd H) ∨ ((Itl K a).go i H ∧ ∃ Nx : Hp → Prop, (∀ H', Nx H' → ∃ m', m' < m ∧ W (i + 1) m' H') ∧ ∀ x H', (Itl K a).yld i H x H' → g x (wipe σ vs) H' fun σ2 H2 => wipe σ2 vs = wipe σ vs ∧ tt σ2 H2 fun b H3 =>
        if b = true then te σ2 H3 fun y H4 => ∃ acc, H4 D = some (.lst acc) ∧ acc.length < sizeLine ∧ Nx (L2.upd H4 D (.lst (acc ++ [y]))) else Nx H3) := by
  have np : D ≠ p := (hb.ne hD).symm
  refine lc_list (K := K) (a := a) (xs := xs) (fun i H' => AcB K m p H1 D c k G i H') (AcB.start hD hb) (fun i H' _ h => (hL.ext h.kp.wo).ext (wo_same H' p)) ?_ ?_
  · rintro i x H' hx hA
    have hi := (List.getElem?_eq_some_iff.mp hx).1
    exact step i x H' _ _ hx hA.kp hA.is hA.box fun y e H4 k4 b4 dy ge => hA.snoc hD np (by omega) k4 b4 dy ge
  · rintro H' ⟨k', b', acc, es, e, ha, le, hg⟩
    exact done H' acc es k' b' e ha le hg
/-! data without lists stay where lists change -/
mutual
theorem dg_lfwo {K : PySem.W.Frag} {H : Hp} {m : Bool} {D : Addr} {l : List V} (eD : H D = some (.lst l)) : ∀ (d : PyData) (x : V), lfD d = true → Dg K H m x d → Dg K (wo H D) m x d
  | .none, _, _, h => by cases h; exact .non
  | .int _, _, _, h => by cases h; exact .int _
  | .str _, _, _, h => by cases h; exact .str _
  | .bool _, _, _, h => by cases h; exact .bl _
  | .list _, _, e, _ => by simp [lfD] at e
  | .dict _, _, e, _ => by simp [lfD] at e
  | .tuple ds, _, e, h => by
    have e' : lfAll ds = true := by simpa [lfD] using e
    cases h with
    | @tup a xs _ hs ha =>
      refine .tup ?_ (dg_lfwoAll eD ds _ e' ha)
      rcases hs with (hs | ⟨ob, hs⟩) | hs
      · have na : a ≠ D := fun z => by rw [z, eD] at hs; cases hs
        exact .inl (.inl (by rw [wo_ne na]; exact hs))
      · have na : a ≠ D := fun z => by rw [z, eD] at hs; cases hs
        exact .inl (.inr ⟨ob, by rw [wo_ne na]; exact hs⟩)
      · exact .inr hs
theorem dg_lfwoAll {K : PySem.W.Frag} {H : Hp} {m : Bool} {D : Addr} {l : List V} (eD : H D = some (.lst l)) : ∀ (ds : List PyData) (xs : List V), lfAll ds = true → DgAll K H m xs ds → DgAll K (wo H D) m xs ds
  | [], _, _, h => by cases h; exact .nil
  | d :: ds, _, e, h => by
    have e' : lfD d = true ∧ lfAll ds = true := by simpa [lfAll] using e
    cases h with
    | cons h1 h2 => exact .cons (dg_lfwo eD d _ e'.1 h1) (dg_lfwoAll eD ds _ e'.2 h2)
end
/-- a decoder holds no list -/
theorem DecAt.mut {K : PySem.W.Frag} {C : Addr} {H : Hp} {o M : Addr} {D : Dcd} {xs : List V} (h : DecAt K C H o D) (eM : H M = some (.lst xs)) : DecAt K C (wo H M) o D := by
  obtain ⟨⟨dx, Sa, Ea, e, h1, h2⟩, ok⟩ := h
  have no : o ≠ M := fun z => by rw [z, eM] at e; cases e
  exact ⟨⟨dx, Sa, Ea, by rw [wo_ne no]; exact e, dg_lfwo eM _ _ (lf_stD D) h1, dg_lfwo eM _ _ (lf_dEn D) h2⟩, ok⟩
theorem wo_updS {H : Hp} {M : Addr} {o : HO} : Same (wo H M) (L2.upd H M o) := fun b ob e => by
  have n : b ≠ M := fun z => by rw [z, wo_at] at e; cases e
  rw [wo_ne n] at e
  rw [upd_ne n]; exact e
theorem DecAt.kp {K : PySem.W.Frag} {C : Addr} {H H' : Hp} {o M : Addr} {D : Dcd} {xs : List V} (h : DecAt K C H o D) (eM : H M = some (.lst xs)) (k : Kp M H H') : DecAt K C H' o D := ((h.mut eM).ext k.wo).ext (wo_same H' M)
theorem box_lst {H : Hp} {p : Addr} {n : Nat} (h : BoxAt H p n) : ∃ xs, H p = some (HO.lst xs) := by
  obtain ⟨o, e, a, m, c, b, rfl, _⟩ := h
  exact ⟨_, e⟩
theorem DecAt.bx {K : PySem.W.Frag} {C : Addr} {H H' : Hp} {o p : Addr} {D : Dcd} {n : Nat} (h : DecAt K C H o D) (hb : BoxAt H p n) (k : Kp p H H') : DecAt K C H' o D := by
  obtain ⟨xs, e⟩ := box_lst hb
  exact h.kp e k
theorem dg_strs {K : PySem.W.Frag} {H : Hp} {m : Bool} : ∀ {xs : List V} {es : List PyData}, DgAll K H m xs es → (∀ e ∈ es, ∃ w, e = .str (S w) ∧ Low w ∧ w.length = 1) → ∃ t : List Nat, Low t ∧ t.length = es.length ∧ xs = t.map fun c => V.str (S [c])
  | _, _, .nil, _ => ⟨[], Low.nil, rfl, rfl⟩
  | _, _, .cons (d := d) h1 h2, g => by
    obtain ⟨t, lt, ln, e⟩ := dg_strs h2 fun e he => g e (List.mem_cons_of_mem _ he)
    obtain ⟨w, rfl, lw, l1⟩ := g d List.mem_cons_self
    match w, lw, l1 with
    | [c], lw, _ =>
      cases h1
      exact ⟨c :: t, fun x hx => by
        rcases List.mem_cons.mp hx with z | z
        · rw [z]; exact lw c List.mem_cons_self
        · exact lt x z, by rw [List.length_cons, List.length_cons, ln], by rw [e]; rfl⟩
theorem asg2 {te : TE} {g : TG} {D : Ends} {σ : L2.St} {H : Hp} (R : V → Hp → Prop) (h : ∀ Q' : VK, (∀ v H', R v H' → Q' v H') → te σ H Q') (rest : ∀ v H', R v H' → g v σ H' D.nx) : tAsg te g D σ H := h _ rest
theorem seq2 {te : TE} {g : TG} {s : TS} {D : Ends} {σ : L2.St} {H : Hp} (R : V → Hp → Prop) (h : ∀ Q' : VK, (∀ v H', R v H' → Q' v H') → te σ H Q') (rest : ∀ v H', R v H' → g v σ H' fun σ2 H2 => s D σ2 H2) : tSeq (tAsg te g) s D σ H := h _ rest
theorem sIx_m1 (n : Nat) : HT.sIx n n (some (-1)) = n - 1 := by
  unfold HT.sIx
  simp
  omega
theorem cut_last (l : List Nat) : cutS (S l) none (some (-1)) = S l.dropLast := by
  show S (((cs (S l)).drop (HT.sIx (S l).length 0 none)).take (HT.sIx (S l).length (S l).length (some (-1)) - HT.sIx (S l).length 0 none)) = _
  rw [S_tl, S_len, HT.sIx_none, sIx_m1, List.drop_zero, Nat.sub_zero, List.dropLast_eq_take]
end My

set_option Elab.async false
set_option linter.all false
set_option maxRecDepth 100000
set_option maxHeartbeats 4000000
/-! Values that are drawn with the box at p: what an expression gives, whatever lists are under construction. -/
namespace My
open PySem PySem.Spec PyProof.Rows L2
/-- a draw below many; the box goes on -/
def spTake : Sp := fun vs H Q _ => ∃ (p : Addr) (n : Nat) (many : Int), vs = [.ref p, .int many] ∧ BoxAt H p n ∧ n < 1000000000 ∧ 0 < many ∧ many < 1000000 ∧
  ∀ (d : Nat) o, (d : Int) < many → BoxO (n + 1) o → Q (.int d) (upd H p o)
/-! ### the heap without the things that change -/
def woL (l : List Addr) (H : Hp) : Hp := fun b => if b ∈ l then none else H b
theorem woL_in {l : List Addr} {H : Hp} {b : Addr} (h : b ∈ l) : woL l H b = none := by unfold woL; rw [if_pos h]
theorem woL_out {l : List Addr} {H : Hp} {b : Addr} (h : b ∉ l) : woL l H b = H b := by unfold woL; rw [if_neg h]
theorem woL_nin {l : List Addr} {H : Hp} {b : Addr} {o : HO} (h : woL l H b = some o) : b ∉ l := fun z => by rw [woL_in z] at h; cases h
theorem woL_le {l : List Addr} {H : Hp} {b : Addr} {o : HO} (h : woL l H b = some o) : H b = some o := (woL_out (woL_nin h)).symm.trans h
theorem woL_same (l : List Addr) (H : Hp) : Same (woL l H) H := fun _ _ e => woL_le e
theorem woL_upd {l : List Addr} {H : Hp} {a : Addr} {o : HO} (h : a ∈ l) : woL l (L2.upd H a o) = woL l H := by
  funext b
  by_cases e : b ∈ l
  · rw [woL_in e, woL_in e]
  · rw [woL_out e, woL_out e, upd_ne (fun z => e (by rw [z]; exact h))]
theorem woL_kp {l : List Addr} {p : Addr} {H H' : Hp} (h : p ∈ l) (k : Kp p H H') : Same (woL l H) (woL l H') := fun b o e => by
  have n := woL_nin e
  rw [woL_out n]
  exact k b o (fun z => n (by rw [z]; exact h)) (woL_le e)
theorem woL_more {l : List Addr} {a : Addr} {H : Hp} : Same (woL (a :: l) H) (woL l H) := fun b o e => by
  have n := woL_nin e
  rw [woL_out (fun z => n (List.mem_cons_of_mem _ z))]
  exact woL_le e
theorem woL_one {p : Addr} {H : Hp} : woL [p] H = wo H p := by
  funext b
  by_cases e : b = p
  · rw [e, wo_at, woL_in (by simp)]
  · rw [wo_ne e, woL_out (by simpa using e)]
structure Vw (p : Addr) (V0 : Hp) (l : List Addr) (H : Hp) : Prop where
  pin : p ∈ l
  al : ∀ a ∈ l, H a ≠ none
  sm : Same V0 (woL l H)
section
variable {p : Addr} {V0 V1 : Hp} {l : List Addr} {H H' : Hp}
theorem Vw.here (v : Vw p V0 l H) : Vw p (woL l H) l H := ⟨v.pin, v.al, Same.refl _⟩
theorem Vw.sub (v : Vw p V0 l H) (s : Same V1 V0) : Vw p V1 l H := ⟨v.pin, v.al, s.trans v.sm⟩
theorem Vw.nin (v : Vw p V0 l H) {r : Addr} (h : H r = none) : r ∉ l := fun z => v.al r z h
theorem Vw.kp (v : Vw p V0 l H) (k : Kp p H H') {n : Nat} (b : BoxAt H' p n) : Vw p V0 l H' := ⟨v.pin, (fun a ha => by
  by_cases e : a = p
  · rw [e]; exact b.some
  · intro z
    cases h : H a with
    | none => exact v.al a ha h
    | some o => rw [k a o e h] at z; cases z), v.sm.trans (woL_kp v.pin k)⟩
theorem Vw.new (v : Vw p V0 l H) {r : Addr} (h : H r = none) (o : HO) : Vw p V0 l (L2.upd H r o) := ⟨v.pin, (fun a ha z => by
  have : a ≠ r := fun e => v.nin h (by rw [← e]; exact ha)
  rw [upd_ne this] at z
  exact v.al a ha z), fun b ob e => by
  have e := v.sm b ob e
  have n := woL_nin e
  rw [woL_out n, upd_ne (ne_of_none (woL_le e) h)]
  exact woL_le e⟩
theorem Vw.upd (v : Vw p V0 l H) {r : Addr} (h : r ∈ l) (o : HO) : Vw p V0 l (L2.upd H r o) := ⟨v.pin, (fun a ha z => by
  by_cases e : a = r
  · rw [e, upd_same] at z; cases z
  · rw [upd_ne e] at z; exact v.al a ha z), by rw [woL_upd h]; exact v.sm⟩
theorem Vw.push (v : Vw p V0 l H) {D : Addr} (h : H D = none) (o : HO) : Vw p V0 (D :: l) (L2.upd H D o) := ⟨List.mem_cons_of_mem _ v.pin, (fun a ha z => by
  by_cases e : a = D
  · rw [e, upd_same] at z; cases z
  · rw [upd_ne e] at z
    rcases List.mem_cons.mp ha with q | q
    · exact e q
    · exact v.al a q z), fun b ob e => by
  have e := v.sm b ob e
  have n := woL_nin e
  have nD : b ≠ D := ne_of_none (woL_le e) h
  rw [woL_out (by simp [nD, n]), upd_ne nD]
  exact woL_le e⟩
theorem Vw.drop {a : Addr} (v : Vw p V0 (a :: l) H) (h : p ∈ l) : Vw p V0 l H := ⟨h, fun b hb => v.al b (List.mem_cons_of_mem _ hb), v.sm.trans woL_more⟩
end
/-- the list at a, its items data -/
def LA (K : PySem.W.Frag) (V : Hp) (a : Addr) (ds : List PyData) : Prop := ∃ xs, V a = some (.lst xs) ∧ DgAll K V false xs ds
theorem LA.ext {K : PySem.W.Frag} {V V' : Hp} {a : Addr} {ds : List PyData} (h : LA K V a ds) (s : Same V V') : LA K V' a ds := by
  obtain ⟨xs, e, d⟩ := h
  exact ⟨xs, s _ _ e, d.ext s⟩
theorem LA.dg {K : PySem.W.Frag} {V : Hp} {a : Addr} {ds : List PyData} (h : LA K V a ds) : Dg K V false (.ref a) (.list ds) := by
  obtain ⟨xs, e, d⟩ := h
  exact .lst (SqL.of e) (fun z => by cases z) d
/-- the list at D, that grows -/
def LB (K : PySem.W.Frag) (l : List Addr) (D : Addr) (H : Hp) (es : List PyData) : Prop := ∃ acc, H D = some (.lst acc) ∧ DgAll K (woL l H) false acc es
section
variable {K : PySem.W.Frag} {p D : Addr} {l : List Addr} {H H' : Hp} {es : List PyData}
theorem LB.kp (h : LB K l D H es) (hp : p ∈ l) (n : D ≠ p) (k : Kp p H H') : LB K l D H' es := by
  obtain ⟨acc, e, d⟩ := h
  exact ⟨acc, k _ _ n e, d.ext (woL_kp hp k)⟩
theorem LB.upd (h : LB K l D H es) {a : Addr} {o : HO} (ha : a ∈ l) (n : D ≠ a) : LB K l D (L2.upd H a o) es := by
  obtain ⟨acc, e, d⟩ := h
  exact ⟨acc, by rw [upd_ne n]; exact e, by rw [woL_upd ha]; exact d⟩
theorem LB.new (h : LB K l D H es) {r : Addr} {o : HO} (hr : H r = none) (hl : r ∉ l) : LB K l D (L2.upd H r o) es := by
  obtain ⟨acc, e, d⟩ := h
  refine ⟨acc, by rw [upd_ne (ne_of_none e hr)]; exact e, d.ext fun b ob e => ?_⟩
  rw [woL_out (woL_nin e), upd_ne (ne_of_none (woL_le e) hr)]; exact woL_le e
theorem LB.push (h : LB K l D H es) {r : Addr} {o : HO} (hr : H r = none) : LB K (r :: l) D (L2.upd H r o) es := by
  obtain ⟨acc, e, d⟩ := h
  refine ⟨acc, by rw [upd_ne (ne_of_none e hr)]; exact e, d.ext fun b ob e => ?_⟩
  have n : b ≠ r := ne_of_none (woL_le e) hr
  rw [woL_out (by simp [n, woL_nin e]), upd_ne n]; exact woL_le e
theorem LB.less {r : Addr} (h : LB K (r :: l) D H es) : LB K l D H es := by
  obtain ⟨acc, e, d⟩ := h
  exact ⟨acc, e, d.ext woL_more⟩
theorem LB.start (hD : H D = none) : LB K (D :: l) D (L2.upd H D (.lst [])) [] := ⟨[], upd_same, .nil⟩
theorem LB.snoc (h : LB K l D H es) (hD : D ∈ l) {y : V} {d : PyData} (dy : Dg K (woL l H) false y d) {acc : List V} (e : H D = some (.lst acc)) : LB K l D (L2.upd H D (.lst (acc ++ [y]))) (es ++ [d]) := by
  obtain ⟨acc', e', da⟩ := h
  rw [e] at e'
  injection e' with e'
  injection e' with e'
  subst e'
  exact ⟨_, upd_same, by rw [woL_upd hD]; exact da.append (.cons dy .nil)⟩
theorem LB.done (h : LB K (D :: l) D H es) (n : D ∉ l) : LA K (woL l H) D es := by
  obtain ⟨acc, e, d⟩ := h
  exact ⟨acc, by rw [woL_out n]; exact e, d.ext woL_more⟩
end
/-! ### expressions -/
def EvB (K : PySem.W.Frag) (p : Addr) (V0 : Hp) (te : TE) (σ : L2.St) (k : Nat) (G : PyData → Prop) : Prop :=
  ∀ l H c, Vw p V0 l H → BoxAt H p c → c + k ≤ 900000000 → ∀ Q : VK, (∀ x d H', Kp p H H' → BoxAt H' p (c + k) → G d → Dg K (woL l H') false x d → Q x H') → te σ H Q
def EvN (p : Addr) (V0 : Hp) (te : TE) (σ : L2.St) (k : Nat) (P : Int → Prop) : Prop :=
  ∀ l H c, Vw p V0 l H → BoxAt H p c → c + k ≤ 900000000 → ∀ Q : VK, (∀ i H', Kp p H H' → BoxAt H' p (c + k) → P i → Q (.int i) H') → te σ H Q
def EvBs (K : PySem.W.Frag) (p : Addr) (V0 : Hp) (ta : TA) (σ : L2.St) (k n : Nat) (G : List PyData → Prop) : Prop :=
  ∀ l H c, Vw p V0 l H → BoxAt H p c → c + k ≤ 900000000 → ∀ Q : List V → Hp → Prop, (∀ xs ds H', Kp p H H' → BoxAt H' p (c + k) → ds.length = n → G ds → DgAll K (woL l H') false xs ds → Q xs H') → ta σ H Q
def EvL (K : PySem.W.Frag) (p : Addr) (V0 : Hp) (te : TE) (σ : L2.St) (k : Nat) (G : List PyData → Prop) : Prop :=
  ∀ l H c, Vw p V0 l H → BoxAt H p c → c + k ≤ 900000000 → ∀ Q : VK, (∀ a ds H', Kp p H H' → BoxAt H' p (c + k) → G ds → LA K (woL l H') a ds → Q (.ref a) H') → te σ H Q
/-- a list that is new -/
def EvF (K : PySem.W.Frag) (p : Addr) (V0 : Hp) (te : TE) (σ : L2.St) (k : Nat) (G : List PyData → Prop) : Prop :=
  ∀ l H c, Vw p V0 l H → BoxAt H p c → c + k ≤ 900000000 → ∀ Q : VK, (∀ a ds H', Kp p H H' → BoxAt H' p (c + k) → G ds → a ∉ l → H a = none → LB K (a :: l) a H' ds → Q (.ref a) H') → te σ H Q
def EvT (p : Addr) (V0 : Hp) (tt : TT) (σ : L2.St) (k : Nat) : Prop :=
  ∀ l H c, Vw p V0 l H → BoxAt H p c → c + k ≤ 900000000 → ∀ Q : Bool → Hp → Prop, (∀ b H', Kp p H H' → BoxAt H' p (c + k) → Q b H') → tt σ H Q
section
variable {K : PySem.W.Frag} {p : Addr} {V0 : Hp} {σ : L2.St} {k k1 k2 k3 n : Nat}
theorem EvB.mono {te : TE} {G G' : PyData → Prop} (h : EvB K p V0 te σ k G) (g : ∀ d, G d → G' d) : EvB K p V0 te σ k G' :=
  fun l H c v b hb Q q => h l H c v b hb Q fun x d H' k' b' g' dd => q x d H' k' b' (g d g') dd
theorem EvN.mono {te : TE} {G G' : Int → Prop} (h : EvN p V0 te σ k G) (g : ∀ d, G d → G' d) : EvN p V0 te σ k G' :=
  fun l H c v b hb Q q => h l H c v b hb Q fun i H' k' b' g' => q i H' k' b' (g i g')
theorem EvL.mono {te : TE} {G G' : List PyData → Prop} (h : EvL K p V0 te σ k G) (g : ∀ d, G d → G' d) : EvL K p V0 te σ k G' :=
  fun l H c v b hb Q q => h l H c v b hb Q fun x d H' k' b' g' dd => q x d H' k' b' (g d g') dd
theorem evB_c {x : V} {d : PyData} (h : ∀ G, Dg K G false x d) : EvB K p V0 (tC x) σ 0 (fun e => e = d) := fun l H c v b hb Q q => q x d H (Kp.refl p H) b rfl (h _)
theorem evB_var {i : Nat} {x : V} {d : PyData} (e : σ[i]? = some (some x)) (h : Dg K V0 false x d) : EvB K p V0 (tVar i) σ 0 (fun e => e = d) :=
  fun l H c v b hb Q q => ⟨x, e, q x d H (Kp.refl p H) b rfl (h.ext v.sm)⟩
theorem evN_c (i : Int) : EvN p V0 (tC (.int i)) σ 0 (fun j => j = i) := fun l H c v b hb Q q => q i H (Kp.refl p H) b rfl
theorem evN_var {i : Nat} {j : Int} (e : σ[i]? = some (some (.int j))) : EvN p V0 (tVar i) σ 0 (fun x => x = j) := fun l H c v b hb Q q => ⟨_, e, q j H (Kp.refl p H) b rfl⟩
theorem evB_I {te : TE} {P : Int → Prop} (h : EvN p V0 te σ k P) : EvB K p V0 te σ k (fun d => ∃ i, d = .int i ∧ P i) :=
  fun l H c v b hb Q q => h l H c v b hb Q fun i H' k' b' g' => q (.int i) (.int i) H' k' b' ⟨i, rfl, g'⟩ (.int i)
theorem evN_B {te : TE} {G : PyData → Prop} {P : Int → Prop} (h : EvB K p V0 te σ k G) (g : ∀ d, G d → ∃ i, d = .int i ∧ P i) : EvN p V0 te σ k P :=
  fun l H c v b hb Q q => h l H c v b hb Q fun x d H' k' b' g' dd => by
    obtain ⟨i, rfl, pi⟩ := g d g'
    cases dd
    exact q i H' k' b' pi
theorem evN_op {ta tb : TE} {P R : Int → Prop} {g : Int → Int → Int} (ha : EvN p V0 ta σ k1 P) (hb : EvN p V0 tb σ k2 R) : EvN p V0 (tOp (rI0 fun i j => .int (g i j)) ta tb) σ (k1 + k2) (fun x => ∃ i j, P i ∧ R j ∧ x = g i j) :=
  fun l H c v b hB Q q => ha l H c v b (by omega) _ fun i H1 kp1 b1 pi => hb l H1 (c + k1) (v.kp kp1 b1) b1 (by omega) _ fun j H2 kp2 b2 rj =>
    ⟨i, j, rfl, rfl, q _ _ (kp1.trans kp2) (by rw [← Nat.add_assoc]; exact b2) ⟨i, j, pi, rj, rfl⟩⟩
theorem evN_opC {ta tb : TE} {P R : Int → Prop} {C : Int → Int → Prop} {g : Int → Int → Int} (ha : EvN p V0 ta σ k1 P) (hb : EvN p V0 tb σ k2 R) (cc : ∀ i j, P i → R j → C i j) : EvN p V0 (tOp (rI C fun i j => .int (g i j)) ta tb) σ (k1 + k2) (fun x => ∃ i j, P i ∧ R j ∧ x = g i j) :=
  fun l H c v b hB Q q => ha l H c v b (by omega) _ fun i H1 kp1 b1 pi => hb l H1 (c + k1) (v.kp kp1 b1) b1 (by omega) _ fun j H2 kp2 b2 rj =>
    ⟨i, j, rfl, rfl, cc i j pi rj, q _ _ (kp1.trans kp2) (by rw [← Nat.add_assoc]; exact b2) ⟨i, j, pi, rj, rfl⟩⟩
theorem evN_opV {ta tb : TE} {a b : Int} {g : Int → Int → Int} (ha : EvN p V0 ta σ k1 (fun x => x = a)) (hb : EvN p V0 tb σ k2 (fun x => x = b)) : EvN p V0 (tOp (rI0 fun i j => .int (g i j)) ta tb) σ (k1 + k2) (fun x => x = g a b) :=
  (evN_op ha hb).mono fun x ⟨i, j, h1, h2, h3⟩ => by rw [h3, h1, h2]
theorem evN_opCV {ta tb : TE} {a b : Int} {C : Int → Int → Prop} {g : Int → Int → Int} (ha : EvN p V0 ta σ k1 (fun x => x = a)) (hb : EvN p V0 tb σ k2 (fun x => x = b)) (cc : C a b) : EvN p V0 (tOp (rI C fun i j => .int (g i j)) ta tb) σ (k1 + k2) (fun x => x = g a b) :=
  (evN_opC ha hb fun i j h1 h2 => by rw [h1, h2]; exact cc).mono fun x ⟨i, j, h1, h2, h3⟩ => by rw [h3, h1, h2]
theorem evT_eq {ta tb : TE} {P R : Int → Prop} (ha : EvN p V0 ta σ k1 P) (hb : EvN p V0 tb σ k2 R) : EvT p V0 (tTest (tOp rEq ta tb)) σ (k1 + k2) :=
  fun l H c v b hB Q q => ha l H c v b (by omega) _ fun i H1 kp1 b1 pi => hb l H1 (c + k1) (v.kp kp1 b1) b1 (by omega) _ fun j H2 kp2 b2 rj => ⟨rfl, _, rfl, q _ _ (kp1.trans kp2) (by rw [← Nat.add_assoc]; exact b2)⟩
theorem evT_bl {i : Nat} {x : Bool} (e : σ[i]? = some (some (.bl x))) : EvT p V0 (tB (tVar i)) σ 0 := fun l H c v b hB Q q => ⟨_, e, _, rfl, q x H (Kp.refl p H) b⟩
theorem evT_not {t : TT} (h : EvT p V0 t σ k) : EvT p V0 (tNot t) σ k := fun l H c v b hB Q q => h l H c v b hB _ fun x H1 k1 b1 => q _ H1 k1 b1
theorem evT_and {t u : TT} (h : EvT p V0 t σ k1) (g : EvT p V0 u σ k2) : EvT p V0 (tAnd t u) σ (k1 + k2) := fun l H c v b hB Q q => h l H c v b (by omega) _ fun x H1 kp1 b1 => by
  cases x with
  | true => exact iteT (g l H1 (c + k1) (v.kp kp1 b1) b1 (by omega) _ fun y H2 kp2 b2 => q y H2 (kp1.trans kp2) (by rw [← Nat.add_assoc]; exact b2))
  | false => exact iteF (q false H1 kp1 (b1.mono (by omega)))
theorem evN_int {te : TE} {P : Int → Prop} (h : EvN p V0 te σ k P) : EvN p V0 (tCB (fun xs H Q => (∃ i, xs = [.int i] ∧ Q (.int i) H) ∨ ∃ k, xs = [.bl k] ∧ Q (.int (if k then 1 else 0)) H) (tCons te tNil)) σ k P :=
  fun l H c v b hB Q q => h l H c v b hB _ fun i H1 kp1 b1 pi => .inl ⟨i, rfl, q i H1 kp1 b1 pi⟩
theorem evN_take {b : Nat} {m : Int} {te : TE} (e : σ[b]? = some (some (.ref p))) (h : EvN p V0 te σ k (fun x => x = m)) (m0 : 0 < m) (m1 : m < 1000000) : EvN p V0 (tCall spTake [] E0 (tCons (tVar b) (tCons te tNil))) σ (k + 1) (fun i => 0 ≤ i ∧ i < m) :=
  fun l H c v hb hB Q q => ⟨_, e, h l H c v hb (by omega) _ fun i H1 kp1 b1 pi => by
    subst pi
    exact ⟨p, _, _, rfl, b1, by omega, m0, m1, fun d o hd ho => q _ _ kp1.upd ho.at ⟨by omega, hd⟩⟩⟩
theorem evN_takeC {b : Nat} (m : Int) (e : σ[b]? = some (some (.ref p))) (m0 : 0 < m) (m1 : m < 1000000) : EvN p V0 (tCall spTake [] E0 (tCons (tVar b) (tCons (tC (.int m)) tNil))) σ 1 (fun i => 0 ≤ i ∧ i < m) :=
  fun l H c v hb hB Q q => ⟨_, e, p, c, m, rfl, hb, by omega, m0, m1, fun d o hd ho => q _ _ ((Kp.refl p H).upd) ho.at ⟨by omega, hd⟩⟩
theorem evBs_nil : EvBs K p V0 tNil σ 0 0 (fun ds => ds = []) := fun l H c v b hb Q q => q [] [] H (Kp.refl p H) b rfl rfl .nil
theorem evBs_cons {te : TE} {ta : TA} {G : PyData → Prop} {Gs : List PyData → Prop} (h : EvB K p V0 te σ k1 G) (t : EvBs K p V0 ta σ k2 n Gs) : EvBs K p V0 (tCons te ta) σ (k1 + k2) (n + 1) (fun ds => ∃ d es, ds = d :: es ∧ G d ∧ Gs es) :=
  fun l H c v b hB Q q => h l H c v b (by omega) _ fun x d H1 kp1 b1 g dd => t l H1 (c + k1) (v.kp kp1 b1) b1 (by omega) _ fun xs ds H2 kp2 b2 le gs dds =>
    q _ (d :: ds) _ (kp1.trans kp2) (by rw [← Nat.add_assoc]; exact b2) (by rw [List.length_cons, le]) ⟨d, ds, rfl, g, gs⟩ (.cons (dd.ext (woL_kp v.pin kp2)) dds)
theorem new_sm {l : List Addr} {H : Hp} {r : Addr} {o : HO} (h : H r = none) : Same (woL l H) (woL l (L2.upd H r o)) := fun b ob e => by
  rw [woL_out (woL_nin e), upd_ne (ne_of_none (woL_le e) h)]; exact woL_le e
theorem evB_tup {ta : TA} {Gs : List PyData → Prop} (h : EvBs K p V0 ta σ k n Gs) (hn : n ≤ 1000 := by decide) : EvB K p V0 (tTup ta) σ k (fun d => ∃ ds, d = .tuple ds ∧ Gs ds) :=
  fun l H c v b hB Q q => h l H c v b hB _ fun xs ds H1 kp1 b1 le gs dds => ⟨by rw [dds.len, le]; exact Nat.le_trans hn (by decide), fun r hr =>
    q _ _ _ (kp1.new hr) (b1.new hr) ⟨ds, rfl, gs⟩ (.tup (SqT.of (by rw [woL_out ((v.kp kp1 b1).nin hr)]; exact upd_same)) (dds.ext (new_sm hr)))⟩
theorem kp_none {H H' : Hp} {r : Addr} (k : Kp p H H') (n : r ≠ p) (h : H' r = none) : H r = none := by
  cases e : H r with
  | none => rfl
  | some o => rw [k r o n e] at h; cases h
theorem evL_F {te : TE} {G : List PyData → Prop} (h : EvF K p V0 te σ k G) : EvL K p V0 te σ k G :=
  fun l H c v b hb Q q => h l H c v b hb Q fun x d H' k' b' g' n _ lb => q x d H' k' b' g' (lb.done n)
theorem EvF.mono {te : TE} {G G' : List PyData → Prop} (h : EvF K p V0 te σ k G) (g : ∀ d, G d → G' d) : EvF K p V0 te σ k G' :=
  fun l H c v b hb Q q => h l H c v b hb Q fun x d H' k' b' g' n n' dd => q x d H' k' b' (g d g') n n' dd
theorem lb_new {l : List Addr} {H : Hp} {r : Addr} {xs : List V} {ds : List PyData} (h : H r = none) (d : DgAll K (woL l H) false xs ds) : LB K (r :: l) r (L2.upd H r (.lst xs)) ds := by
  refine ⟨xs, upd_same, d.ext fun b ob e => ?_⟩
  have n : b ≠ r := ne_of_none (woL_le e) h
  rw [woL_out (by simp [n, woL_nin e]), upd_ne n]; exact woL_le e
theorem evF_lst {ta : TA} {Gs : List PyData → Prop} (h : EvBs K p V0 ta σ k n Gs) (hn : n ≤ 1000 := by decide) : EvF K p V0 (tLst ta) σ k (fun ds => ds.length = n ∧ Gs ds) :=
  fun l H c v b hB Q q => h l H c v b hB _ fun xs ds H1 kp1 b1 le gs dds => ⟨by rw [dds.len, le]; exact Nat.le_trans hn (by decide), fun r hr =>
    q _ _ _ (kp1.new hr) (b1.new hr) ⟨le, gs⟩ ((v.kp kp1 b1).nin hr) (kp_none kp1 (b1.ne hr).symm hr) (lb_new hr dds)⟩
theorem evL_var {i : Nat} {a : Addr} {ds : List PyData} (e : σ[i]? = some (some (.ref a))) (h : LA K V0 a ds) : EvL K p V0 (tVar i) σ 0 (fun es => es = ds) :=
  fun l H c v b hb Q q => ⟨_, e, q a ds H (Kp.refl p H) b rfl (h.ext v.sm)⟩
theorem evB_L {te : TE} {G : List PyData → Prop} (h : EvL K p V0 te σ k G) : EvB K p V0 te σ k (fun d => ∃ ds, d = .list ds ∧ G ds) :=
  fun l H c v b hB Q q => h l H c v b hB Q fun a ds H1 kp1 b1 g la => q _ _ _ kp1 b1 ⟨ds, rfl, g⟩ la.dg
theorem evF_cat {ta tb : TE} {P R : List PyData → Prop} (ha : EvL K p V0 ta σ k1 P) (hb : EvL K p V0 tb σ k2 R) (hl : ∀ a b, P a → R b → a.length + b.length ≤ 100000) : EvF K p V0 (tOp rCat ta tb) σ (k1 + k2) (fun ds => ∃ a b, P a ∧ R b ∧ ds = a ++ b) :=
  fun l H c v b hB Q q => ha l H c v b (by omega) _ fun x ds H1 kp1 b1 pd la => hb l H1 (c + k1) (v.kp kp1 b1) b1 (by omega) _ fun y es H2 kp2 b2 re lb => by
    obtain ⟨xs, ex, dx⟩ := la.ext (woL_kp v.pin kp2)
    obtain ⟨ys, ey, dy⟩ := lb
    have v2 := (v.kp kp1 b1).kp kp2 b2
    refine ⟨x, y, xs, ys, rfl, rfl, woL_le ex, woL_le ey, by rw [dx.len, dy.len]; exact Nat.le_trans (hl _ _ pd re) (by decide), fun r hr => ?_⟩
    exact q _ (ds ++ es) _ ((kp1.trans kp2).new hr) (by rw [← Nat.add_assoc]; exact b2.new hr) ⟨ds, es, pd, re, rfl⟩ (v2.nin hr) (kp_none (kp1.trans kp2) (b2.ne hr).symm hr) (lb_new hr (dx.append dy))
theorem dgAll_rep {K : PySem.W.Frag} {H : Hp} {xs : List V} {ds : List PyData} (h : DgAll K H false xs ds) : ∀ m : Nat, DgAll K H false (List.replicate m xs).flatten (List.replicate m ds).flatten
  | 0 => .nil
  | m + 1 => by rw [List.replicate_succ, List.replicate_succ, List.flatten_cons, List.flatten_cons]; exact h.append (dgAll_rep h m)
theorem evF_rep {ta tb : TE} {P : List PyData → Prop} {R : Int → Prop} (ha : EvL K p V0 ta σ k1 P) (hb : EvN p V0 tb σ k2 R) (hl : ∀ a i, P a → R i → a.length * i.toNat ≤ 100000 ∧ i ≤ 100000 ∧ -100000 ≤ i) : EvF K p V0 (tOp rRep ta tb) σ (k1 + k2) (fun ds => ∃ a i, P a ∧ R i ∧ ds = (List.replicate i.toNat a).flatten) :=
  fun l H c v b hB Q q => ha l H c v b (by omega) _ fun x ds H1 kp1 b1 pd la => hb l H1 (c + k1) (v.kp kp1 b1) b1 (by omega) _ fun i H2 kp2 b2 re => by
    obtain ⟨xs, ex, dx⟩ := la.ext (woL_kp v.pin kp2)
    have v2 := (v.kp kp1 b1).kp kp2 b2
    obtain ⟨h1, h2, h3⟩ := hl _ _ pd re
    refine ⟨x, i, xs, rfl, rfl, woL_le ex, by omega, by omega, by rw [dx.len]; exact Nat.le_trans h1 (by decide), fun r hr => ?_⟩
    exact q _ _ _ ((kp1.trans kp2).new hr) (by rw [← Nat.add_assoc]; exact b2.new hr) ⟨ds, i, pd, re, rfl⟩ (v2.nin hr) (kp_none (kp1.trans kp2) (b2.ne hr).symm hr) (lb_new hr (dgAll_rep dx i.toNat))
/-- an item of a list -/
theorem evB_ix {ta tb : TE} {P : List PyData → Prop} {R : Int → Prop} (ha : EvL K p V0 ta σ k1 P) (hb : EvN p V0 tb σ k2 R) (hl : ∀ a i, P a → R i → 0 ≤ i ∧ i.toNat < a.length) : EvB K p V0 (tOp (rIxL K) ta tb) σ (k1 + k2) (fun d => ∃ a i, P a ∧ R i ∧ a[i.toNat]? = some d) :=
  fun l H c v b hB Q q => ha l H c v b (by omega) _ fun x ds H1 kp1 b1 pd la => hb l H1 (c + k1) (v.kp kp1 b1) b1 (by omega) _ fun i H2 kp2 b2 re => by
    obtain ⟨xs, ex, dx⟩ := la.ext (woL_kp v.pin kp2)
    obtain ⟨h1, h2⟩ := hl _ _ pd re
    obtain ⟨y, d, ey, ed, dy⟩ := dx.nth h2
    exact ⟨x, xs, i, y, rfl, rfl, SqL.of (woL_le ex), by rw [show i = ((i.toNat : Nat) : Int) by omega]; exact atI_nat ey, q y d H2 (kp1.trans kp2) (by rw [← Nat.add_assoc]; exact b2) ⟨ds, i, pd, re, ed⟩ dy⟩
theorem evB_ixD {ta tb : TE} {P : PyData → Prop} {R : Int → Prop} (ha : EvB K p V0 ta σ k1 P) (hb : EvN p V0 tb σ k2 R) (hl : ∀ d i, P d → R i → ∃ ds, d = .list ds ∧ 0 ≤ i ∧ i.toNat < ds.length) : EvB K p V0 (tOp (rIxL K) ta tb) σ (k1 + k2) (fun d => ∃ a i, P (.list a) ∧ R i ∧ a[i.toNat]? = some d) :=
  fun l H c v b hB Q q => ha l H c v b (by omega) _ fun x dx H1 kp1 b1 pd la => hb l H1 (c + k1) (v.kp kp1 b1) b1 (by omega) _ fun i H2 kp2 b2 re => by
    obtain ⟨ds, rfl, h1, h2⟩ := hl _ _ pd re
    obtain ⟨a, xs, rfl, ex, _, dxs⟩ := (la.ext (woL_kp v.pin kp2)).lst_of
    obtain ⟨y, d, ey, ed, dy⟩ := dxs.nth h2
    exact ⟨a, xs, i, y, rfl, rfl, ex.ext (woL_same l H2), by rw [show i = ((i.toNat : Nat) : Int) by omega]; exact atI_nat ey, q y d H2 (kp1.trans kp2) (by rw [← Nat.add_assoc]; exact b2) ⟨ds, i, pd, re, ed⟩ dy⟩
/-- one of a menu -/
theorem evB_menu {b : Nat} {ta : TA} {Gs : List PyData → Prop} (e : σ[b]? = some (some (.ref p))) (h : EvBs K p V0 ta σ k n Gs) (h0 : 0 < n := by decide) (hn : n ≤ 1000 := by decide) :
    EvB K p V0 (tOp (rIxL K) (tLst ta) (tCall spTake [] E0 (tCons (tVar b) (tCons (tC (.int (n : Nat))) tNil)))) σ (k + 1) (fun d => ∃ ds, Gs ds ∧ d ∈ ds) :=
  (evB_ix (evL_F (evF_lst h hn)) (evN_takeC (n : Int) e (by omega) (by omega)) (fun a i ha hi => by
    have h1 : a.length = n := ha.1
    exact ⟨hi.1, by have := hi.2; omega⟩)).mono fun d ⟨a, i, h1, h2, h3⟩ => ⟨a, h1.2, List.mem_of_getElem? h3⟩
theorem evB_if {tt : TT} {ta tb : TE} {P R : PyData → Prop} (ht : EvT p V0 tt σ k1) (ha : EvB K p V0 ta σ k2 P) (hb : EvB K p V0 tb σ k3 R) : EvB K p V0 (tIf tt ta tb) σ (k1 + k2 + k3) (fun d => P d ∨ R d) :=
  fun l H c v b hB Q q => ht l H c v b (by omega) _ fun t H1 kp1 b1 => by
    cases t with
    | true => exact iteT (ha l H1 (c + k1) (v.kp kp1 b1) b1 (by omega) _ fun x d H2 kp2 b2 g dd => q x d H2 (kp1.trans kp2) (b2.mono (by omega)) (.inl g) dd)
    | false => exact iteF (hb l H1 (c + k1) (v.kp kp1 b1) b1 (by omega) _ fun x d H2 kp2 b2 g dd => q x d H2 (kp1.trans kp2) (b2.mono (by omega)) (.inr g) dd)
/-- over a range -/
theorem evF_lc {tn te : TE} {i m : Nat} {vs : List Nat} {G : Nat → PyData → Prop} (hn : EvN p V0 tn σ k1 (fun x => x = (m : Nat))) (hm : m ≤ 10000) (hw : ∀ x, wipe ((wipe σ vs).set i x) vs = wipe σ vs)
    (h : ∀ j, j < m → ∀ V1, Same V0 V1 → EvB K p V1 te ((wipe σ vs).set i (some (.int ((0 : Int) + (j : Nat))))) k2 (G j)) : EvF K p V0 (tLc (iRng1 (tCons tn tNil)) (gName i) tYes te vs) σ (k1 + k2 * m) (fun ds => ds.length = m ∧ ∀ j e, ds[j]? = some e → G j e) :=
  fun l H c v b hB Q q => hn l H c v b (by omega) _ fun x H1 kp1 b1 ex => by
    subst ex
    have v1 := v.kp kp1 b1
    refine ⟨(m : Int), rfl, by omega, by omega, fun D hD => ?_⟩
    rw [Int.toNat_natCast]
    have nD : D ≠ p := (b1.ne hD).symm
    have nl : D ∉ l := v1.nin hD
    refine lc_range (lo := 0) (n := m) (fun j H' => Vw p V0 (D :: l) H' ∧ Kp p H H' ∧ BoxAt H' p (c + k1 + k2 * j) ∧ ∃ es, LB K (D :: l) D H' es ∧ es.length = j ∧ ∀ i e, es[i]? = some e → G i e) ⟨v1.push hD _, kp1.new hD, (b1.new hD).mono (by omega), [], LB.start hD, rfl, fun i e z => by cases z⟩ ?_ ?_
    · rintro j H2 hj ⟨v2, kp2, b2, es, lb, le, hg⟩
      have mj : k2 * (j + 1) ≤ k2 * m := Nat.mul_le_mul_left _ (by omega)
      refine ⟨hw _, tYesT ?_⟩
      refine h j hj V0 (Same.refl _) (D :: l) H2 _ v2 b2 (by rw [Nat.mul_succ] at mj; omega) _ fun y d H3 kp3 b3 g dd => ?_
      have lb3 := lb.kp v2.pin nD kp3
      obtain ⟨acc, ea, da⟩ := id lb3
      have v3 := v2.kp kp3 b3
      refine ⟨acc, ea, by rw [da.len, le]; exact Nat.lt_of_le_of_lt (by omega : j ≤ 10000) (by decide), v3.upd (List.mem_cons_self) _, (kp2.trans kp3).free ?_, (b3.other nD.symm).mono (by rw [Nat.mul_succ]; omega), es ++ [d], lb3.snoc List.mem_cons_self dd ea, by rw [List.length_append, le]; rfl, fun i e z => ?_⟩
      · cases hh : H D with
        | none => rfl
        | some o => rw [kp1 D o nD hh] at hD; cases hD
      · by_cases qi : i < es.length
        · rw [List.getElem?_append_left qi] at z; exact hg i e z
        · have ei : i = es.length := by
            have := (List.getElem?_eq_some_iff.mp z).1
            rw [List.length_append] at this
            simp at this
            omega
          rw [ei, List.getElem?_concat_length] at z
          injection z with z
          rw [← z, ei, le]; exact g
    · rintro H2 ⟨v2, kp2, b2, es, lb, le, hg⟩
      exact q D es H2 kp2 (by rw [← Nat.add_assoc]; exact b2) ⟨le, hg⟩ nl (kp_none kp1 nD hD) lb
end
/-- over a list that stands -/
theorem evF_lcL {K : PySem.W.Frag} {p : Addr} {V0 : Hp} {σ : L2.St} {k2 : Nat} {te : TE} {i j : Nat} {a : Addr} {vs : List Nat} {ds : List PyData} {G : PyData → Prop} (e : σ[i]? = some (some (.ref a))) (la : LA K V0 a ds) (hm : ds.length ≤ 10000) (hw : ∀ x, wipe ((wipe σ vs).set j x) vs = wipe σ vs)
    (h : ∀ (q : Nat) (x : V) (d : PyData), ds[q]? = some d → ∀ V1, Same V0 V1 → Dg K V1 false x d → EvB K p V1 te ((wipe σ vs).set j (some x)) k2 G) : EvF K p V0 (tLc (iList K (tVar i)) (gName j) tYes te vs) σ (k2 * ds.length) (fun es => es.length = ds.length ∧ ∀ d ∈ es, G d) :=
  fun l H c v b hb Q q => by
    obtain ⟨xs, ea, da⟩ := la.ext v.sm
    refine ⟨_, e, a, rfl, ⟨xs, SqL.of (woL_le ea)⟩, fun D hD => ?_⟩
    have nD : D ≠ p := (b.ne hD).symm
    have nl : D ∉ l := v.nin hD
    have lx := da.len
    refine lc_list (K := K) (a := a) (xs := xs) (fun j H' => Vw p (woL l H) (D :: l) H' ∧ Kp p H H' ∧ BoxAt H' p (c + k2 * j) ∧ ∃ es, LB K (D :: l) D H' es ∧ es.length = j ∧ ∀ e ∈ es, G e) ⟨v.here.push hD _, (Kp.refl p H).new hD, (b.new hD).mono (by omega), [], LB.start hD, rfl, fun e z => by cases z⟩ (fun j H' _ h => SqL.of (woL_le (h.1.sm _ _ ea))) ?_ ?_
    · rintro q' x H2 hx ⟨v2, kp2, b2, es, lb, le, hg⟩
      have hq : q' < ds.length := by rw [← lx]; exact (List.getElem?_eq_some_iff.mp hx).1
      obtain ⟨d, ed, dx⟩ := da.at q' x hx
      have mj : k2 * (q' + 1) ≤ k2 * ds.length := Nat.mul_le_mul_left _ (by omega)
      refine ⟨hw _, tYesT ?_⟩
      refine h q' x d ed (woL l H) v.sm dx (D :: l) H2 _ v2 b2 (by rw [Nat.mul_succ] at mj; omega) _ fun y d' H3 kp3 b3 g dd => ?_
      have lb3 := lb.kp v2.pin nD kp3
      obtain ⟨acc, ea3, da3⟩ := id lb3
      have v3 := v2.kp kp3 b3
      refine ⟨acc, ea3, by rw [da3.len, le]; exact Nat.lt_of_le_of_lt (by omega : q' ≤ 10000) (by decide), v3.upd (List.mem_cons_self) _, (kp2.trans kp3).free hD, (b3.other nD.symm).mono (by rw [Nat.mul_succ]; omega), es ++ [d'], lb3.snoc List.mem_cons_self dd ea3, by rw [List.length_append, le]; rfl, fun e z => ?_⟩
      rcases List.mem_append.mp z with z | z
      · exact hg e z
      · rw [List.mem_singleton.mp z]; exact g
    · rintro H2 ⟨v2, kp2, b2, es, lb, le, hg⟩
      exact q D es H2 kp2 (by rw [← lx]; exact b2) ⟨by rw [le, lx], hg⟩ nl hD lb
theorem woL_fresh {l : List Addr} {p R : Addr} {H H' : Hp} (h : p ∈ l) (k : Kp p H H') (hR : H R = none) : Same (woL l H) (woL (R :: l) H') := fun b o e => by
  have n := woL_nin e
  have nR : b ≠ R := ne_of_none (woL_le e) hR
  rw [woL_out (by simp [n, nR])]
  exact k b o (fun z => n (by rw [z]; exact h)) (woL_le e)
theorem LB.fresh {K : PySem.W.Frag} {l : List Addr} {p D R : Addr} {H H' : Hp} {es : List PyData} (lb : LB K l D H es) (h : p ∈ l) (n : D ≠ p) (k : Kp p H H') (hR : H R = none) : LB K (R :: l) D H' es := by
  obtain ⟨acc, e, d⟩ := lb
  exact ⟨acc, k _ _ n e, d.ext (woL_fresh h k hR)⟩
theorem evN_len {K : PySem.W.Frag} {p : Addr} {V0 : Hp} {σ : L2.St} {i : Nat} {x : V} {ds : List PyData} (e : σ[i]? = some (some x)) (h : Dg K V0 false x (.list ds)) :
    EvN p V0 (tCB (fun xs H Q => ∃ p ys, xs = [.ref p] ∧ (SqL K H p ys ∨ SqT K H p ys) ∧ Q (.int ys.length) H) (tCons (tVar i) tNil)) σ 0 (fun x => x = (ds.length : Nat)) :=
  fun l H c v b hB Q q => by
    obtain ⟨a, ys, rfl, hs, _, hd⟩ := (h.ext v.sm).lst_of
    exact ⟨_, e, a, ys, rfl, .inl (hs.ext (woL_same l H)), by rw [hd.len]; exact q _ H (Kp.refl p H) b rfl⟩
/-! ### words, entries, rows -/
def LN (n : Nat) (G : PyData → Prop) (ds : List PyData) : Prop := ds.length = n ∧ ∀ d ∈ ds, G d
def WordD (d : PyData) : Prop := ∃ w, d = .str (S w) ∧ okW w
def EndD (d : PyData) : Prop := ∃ q : Option (List Nat), d = wdD q ∧ ∀ w, q = some w → okW w
def EntD (n : Nat) (d : PyData) : Prop := ∃ e : Ent, d = My.enD e ∧ okE n e
def RowD (sg n : Nat) (d : PyData) : Prop := ∃ r : List Ent, d = .list (r.map My.enD) ∧ r.length = sg ∧ ∀ e ∈ r, okE n e
def EvBA (K : PySem.W.Frag) (p : Addr) (V0 : Hp) (ta : TA) (σ : L2.St) (k n : Nat) (G : PyData → Prop) : Prop := EvBs K p V0 ta σ k n (fun ds => ∀ d ∈ ds, G d)
section
variable {K : PySem.W.Frag} {p : Addr} {V0 : Hp} {σ : L2.St} {k k1 k2 k3 n m : Nat} {G : PyData → Prop}
theorem evBA_nil : EvBA K p V0 tNil σ 0 0 G := fun l H c v b hb Q q => q [] [] H (Kp.refl p H) b rfl (fun d h => by cases h) .nil
theorem evBA_cons {te : TE} {ta : TA} (h : EvB K p V0 te σ k1 G) (t : EvBA K p V0 ta σ k2 n G) : EvBA K p V0 (tCons te ta) σ (k1 + k2) (n + 1) G :=
  fun l H c v b hB Q q => evBs_cons h t l H c v b hB Q fun xs ds H' kp' b' le ⟨d, es, e, g, gs⟩ dd => q xs ds H' kp' b' le (by
    rw [e]; intro x hx
    rcases List.mem_cons.mp hx with z | z
    · rw [z]; exact g
    · exact gs x z) dd
theorem evB_menuA {b : Nat} {ta : TA} (e : σ[b]? = some (some (.ref p))) (h : EvBA K p V0 ta σ k n G) (h0 : 0 < n := by decide) (hn : n ≤ 1000 := by decide) :
    EvB K p V0 (tOp (rIxL K) (tLst ta) (tCall spTake [] E0 (tCons (tVar b) (tCons (tC (.int (n : Nat))) tNil)))) σ (k + 1) G :=
  (evB_menu e h h0 hn).mono fun d ⟨ds, h1, h2⟩ => h1 d h2
theorem evF_lstA {ta : TA} (h : EvBA K p V0 ta σ k n G) (hn : n ≤ 1000 := by decide) : EvF K p V0 (tLst ta) σ k (LN n G) := evF_lst h hn
theorem evF_catA {ta tb : TE} {n1 n2 : Nat} (ha : EvL K p V0 ta σ k1 (LN n1 G)) (hb : EvL K p V0 tb σ k2 (LN n2 G)) (hl : n1 + n2 ≤ 100000) : EvF K p V0 (tOp rCat ta tb) σ (k1 + k2) (LN (n1 + n2) G) :=
  (evF_cat ha hb fun a b x y => by rw [x.1, y.1]; exact hl).mono fun d ⟨a, b, x, y, e⟩ => ⟨by rw [e, List.length_append, x.1, y.1], fun d' hd => by
    rw [e] at hd
    exact (List.mem_append.mp hd).elim (x.2 d') (y.2 d')⟩
theorem evF_catN {ta tb : TE} {n n1 n2 : Nat} (ha : EvL K p V0 ta σ k1 (LN n1 G)) (hb : EvL K p V0 tb σ k2 (LN n2 G)) (hl : n1 + n2 ≤ 100000) (hn : n = n1 + n2 := by omega) : EvF K p V0 (tOp rCat ta tb) σ (k1 + k2) (LN n G) := by
  subst hn
  exact evF_catA ha hb hl
theorem evF_repA {ta tb : TE} {n1 n2 : Nat} (ha : EvL K p V0 ta σ k1 (LN n1 G)) (hb : EvN p V0 tb σ k2 (fun x => x = (n2 : Nat))) (hl : n1 * n2 ≤ 100000) (h2 : n2 ≤ 100000) : EvF K p V0 (tOp rRep ta tb) σ (k1 + k2) (LN (n1 * n2) G) :=
  (evF_rep ha hb fun a i x y => by subst y; rw [x.1, Int.toNat_natCast]; exact ⟨hl, by omega, by omega⟩).mono fun d ⟨a, i, x, y, e⟩ => by
    subst y
    rw [Int.toNat_natCast] at e
    subst e
    refine ⟨?_, fun d' hd => ?_⟩
    · rw [List.length_flatten, List.map_replicate, List.sum_replicate_nat, x.1, Nat.mul_comm]
    · obtain ⟨l, hl, hd⟩ := List.mem_flatten.mp hd
      rw [List.eq_of_mem_replicate hl] at hd
      exact x.2 d' hd
theorem evF_lcA {tn te : TE} {i m : Nat} {vs : List Nat} (hn : EvN p V0 tn σ k1 (fun x => x = (m : Nat))) (hm : m ≤ 10000) (hw : ∀ x, wipe ((wipe σ vs).set i x) vs = wipe σ vs)
    (h : ∀ j, j < m → ∀ V1, Same V0 V1 → EvB K p V1 te ((wipe σ vs).set i (some (.int ((0 : Int) + (j : Nat))))) k2 G) : EvF K p V0 (tLc (iRng1 (tCons tn tNil)) (gName i) tYes te vs) σ (k1 + k2 * m) (LN m G) :=
  (evF_lc (G := fun _ => G) hn hm hw h).mono fun ds ⟨e, g⟩ => ⟨e, fun d hd => by
    obtain ⟨j, hj⟩ := List.getElem?_of_mem hd
    exact g j d hj⟩
theorem evB_wordC {z : Str} (h : isWd (.str z) = true) : EvB K p V0 (tC (.str z)) σ 0 WordD := (evB_c fun _ => .str z).mono fun d e => by
  obtain ⟨w, ew, ow⟩ := isWd_str h
  exact ⟨w, by rw [e, ew], ow⟩
theorem evB_endN : EvB K p V0 (tC .non) σ 0 EndD := (evB_c fun _ => .non).mono fun d e => ⟨none, e, fun w z => by cases z⟩
theorem evB_endW {te : TE} (h : EvB K p V0 te σ k WordD) : EvB K p V0 te σ k EndD := h.mono fun d ⟨w, e, o⟩ => ⟨some w, e, fun w' z => by injection z with z; rw [← z]; exact o⟩
theorem evB_entN : EvB K p V0 (tC .non) σ 0 (EntD n) := (evB_c fun _ => .non).mono fun d e => ⟨none, e, fun g w z => by cases z⟩
theorem evB_entT {ta tb : TE} (hi : EvN p V0 ta σ k1 (fun i => 0 ≤ i ∧ i < (n : Nat))) (hw : EvB K p V0 tb σ k2 WordD) : EvB K p V0 (tTup (tCons ta (tCons tb tNil))) σ (k1 + (k2 + 0)) (EntD n) :=
  (evB_tup (evBs_cons (evB_I hi) (evBs_cons hw evBs_nil))).mono fun d ⟨ds, e, d1, es, e1, ⟨i, e2, h1, h2⟩, d2, es2, e3, ⟨w, e4, ow⟩, e5⟩ => by
    subst e e1 e2 e3 e4 e5
    refine ⟨some (i.toNat, w), ?_, fun g w' z => ?_⟩
    · show PyData.tuple [.int i, .str (S w)] = .tuple [.int ((i.toNat : Nat) : Int), .str (S w)]
      rw [Int.toNat_of_nonneg h1]
    · injection z with z
      injection z with z1 z2
      rw [← z1, ← z2]
      exact ⟨by omega, ow⟩
theorem ents_of : ∀ {ds : List PyData}, (∀ d ∈ ds, EntD n d) → ∃ r : List Ent, ds = r.map My.enD ∧ r.length = ds.length ∧ ∀ e ∈ r, okE n e
  | [], _ => ⟨[], rfl, rfl, fun e h => by cases h⟩
  | d :: ds, h => by
    obtain ⟨r, e1, e2, e3⟩ := ents_of fun x hx => h x (List.mem_cons_of_mem _ hx)
    obtain ⟨e, rfl, oe⟩ := h d List.mem_cons_self
    refine ⟨e :: r, by rw [List.map_cons, e1], by rw [List.length_cons, List.length_cons, e2], fun x hx => ?_⟩
    rcases List.mem_cons.mp hx with z | z
    · rw [z]; exact oe
    · exact e3 x z
theorem rowD_of {ds : List PyData} (h : LN m (EntD n) ds) : RowD m n (.list ds) := by
  obtain ⟨r, e1, e2, e3⟩ := ents_of h.2
  exact ⟨r, by rw [e1], by rw [e2, h.1], e3⟩
theorem evB_rowL {te : TE} (h : EvL K p V0 te σ k (LN m (EntD n))) : EvB K p V0 te σ k (RowD m n) := (evB_L h).mono fun d ⟨ds, e, g⟩ => by rw [e]; exact rowD_of g
theorem evB_rowI {ta tb : TE} (ha : EvB K p V0 ta σ k1 (RowD m n)) (hb : EvN p V0 tb σ k2 (fun x => 0 ≤ x ∧ x < (m : Nat))) : EvB K p V0 (tOp (rIxL K) ta tb) σ (k1 + k2) (EntD n) :=
  (evB_ixD ha hb fun d i ⟨r, e, l, _⟩ h => ⟨_, e, h.1, by rw [List.length_map, l]; have := h.2; omega⟩).mono fun d ⟨a, i, ⟨r, e, l, o⟩, h, z⟩ => by
    injection e with e
    rw [e, List.getElem?_map] at z
    cases hh : r[i.toNat]? with
    | none => rw [hh] at z; cases z
    | some q =>
      rw [hh] at z
      have z := Option.some.inj z
      exact ⟨q, z.symm, o q (List.mem_of_getElem? hh)⟩
abbrev EndsD (n : Nat) (d : PyData) : Prop := ∃ ds, d = .list ds ∧ LN n EndD ds
theorem evB_endsL {te : TE} (h : EvL K p V0 te σ k (LN n EndD)) : EvB K p V0 te σ k (EndsD n) := evB_L h
abbrev NumD (n : Int) (d : PyData) : Prop := ∃ i, d = .int i ∧ 0 ≤ i ∧ i < n
abbrev BoolD (d : PyData) : Prop := ∃ b, d = .bool b
theorem evB_eq {ta tb : TE} {P R : Int → Prop} (ha : EvN p V0 ta σ k1 P) (hb : EvN p V0 tb σ k2 R) : EvB K p V0 (tOp rEq ta tb) σ (k1 + k2) BoolD :=
  fun l H c v b hB Q q => ha l H c v b (by omega) _ fun i H1 kp1 b1 pi => hb l H1 (c + k1) (v.kp kp1 b1) b1 (by omega) _ fun j H2 kp2 b2 rj => ⟨rfl, q _ _ _ (kp1.trans kp2) (by rw [← Nat.add_assoc]; exact b2) ⟨_, rfl⟩ (.bl _)⟩
theorem evB_ixLN {i j : Nat} {x : V} {y : Int} {ds : List PyData} (e : σ[i]? = some (some x)) (dx : Dg K V0 false x (.list ds)) (g : LN m G ds) (e2 : σ[j]? = some (some (.int y))) (h : 0 ≤ y ∧ y < (m : Nat)) : EvB K p V0 (tOp (rIxL K) (tVar i) (tVar j)) σ 0 G :=
  (evB_ixD (evB_var e dx) (evN_var e2) (fun d i hd hi => ⟨ds, hd, by rw [hi]; exact h.1, by rw [hi, g.1]; have := h.2; omega⟩)).mono fun d ⟨a, i, ea, hi, z⟩ => by
    injection ea with ea
    subst ea
    exact g.2 d (List.mem_of_getElem? z)
theorem evB_ixLC {i : Nat} {x : V} {y : Int} {ds : List PyData} (e : σ[i]? = some (some x)) (dx : Dg K V0 false x (.list ds)) (g : LN m G ds) (h : 0 ≤ y ∧ y < (m : Nat)) : EvB K p V0 (tOp (rIxL K) (tVar i) (tC (.int y))) σ 0 G :=
  (evB_ixD (evB_var e dx) (evN_c y) (fun d i hd hi => ⟨ds, hd, by rw [hi]; exact h.1, by rw [hi, g.1]; have := h.2; omega⟩)).mono fun d ⟨a, i, ea, hi, z⟩ => by
    injection ea with ea
    subst ea
    exact g.2 d (List.mem_of_getElem? z)
theorem evN_num {te : TE} {n : Int} (h : EvB K p V0 te σ k (NumD n)) : EvN p V0 te σ k (fun x => 0 ≤ x ∧ x < n) := evN_B h fun d z => z
theorem evT_B {te : TE} (h : EvB K p V0 te σ k BoolD) : EvT p V0 (tB te) σ k := fun l H c v b hB Q q => h l H c v b hB _ fun x d H1 k1 b1 ⟨t, e⟩ dd => by
  subst e
  cases dd
  exact ⟨t, rfl, q t H1 k1 b1⟩
/-- a menu of lists -/
def EvLs (K : PySem.W.Frag) (p : Addr) (V0 : Hp) (ta : TA) (σ : L2.St) (k n : Nat) (G : List PyData → Prop) : Prop :=
  ∀ l H c, Vw p V0 l H → BoxAt H p c → c + k ≤ 900000000 → ∀ Q : List V → Hp → Prop, (∀ xs H', Kp p H H' → BoxAt H' p (c + k) → xs.length = n → (∀ x ∈ xs, ∃ a ds, x = .ref a ∧ LA K (woL l H') a ds ∧ G ds) → Q xs H') → ta σ H Q
theorem evLs_nil {G : List PyData → Prop} : EvLs K p V0 tNil σ 0 0 G := fun l H c v b hb Q q => q [] H (Kp.refl p H) b rfl fun x h => by cases h
theorem evLs_cons {te : TE} {ta : TA} {G : List PyData → Prop} (h : EvL K p V0 te σ k1 G) (t : EvLs K p V0 ta σ k2 n G) : EvLs K p V0 (tCons te ta) σ (k1 + k2) (n + 1) G :=
  fun l H c v b hB Q q => h l H c v b (by omega) _ fun a ds H1 kp1 b1 g la => t l H1 (c + k1) (v.kp kp1 b1) b1 (by omega) _ fun xs H2 kp2 b2 le gs =>
    q _ _ (kp1.trans kp2) (by rw [← Nat.add_assoc]; exact b2) (by rw [List.length_cons, le]) fun x hx => by
      rcases List.mem_cons.mp hx with z | z
      · exact ⟨a, ds, z, la.ext (woL_kp v.pin kp2), g⟩
      · exact gs x z
theorem evL_menu {b : Nat} {ta : TA} {G : List PyData → Prop} (e : σ[b]? = some (some (.ref p))) (h : EvLs K p V0 ta σ k n G) (h0 : 0 < n := by decide) (hn : n ≤ 1000 := by decide) :
    EvL K p V0 (tOp (rIxL K) (tLst ta) (tCall spTake [] E0 (tCons (tVar b) (tCons (tC (.int (n : Nat))) tNil)))) σ (k + 1) G :=
  fun l H c v hb hB Q q => h l H c v hb (by omega) _ fun xs H1 kp1 b1 le gs => by
    have v1 := v.kp kp1 b1
    refine ⟨by rw [le]; exact Nat.le_trans hn (by decide), fun M hM => ⟨_, e, p, c + k, (n : Int), rfl, b1.new hM, by omega, by omega, by omega, fun d o hd ho => ?_⟩⟩
    have nM : M ≠ p := (b1.ne hM).symm
    have hd' : d < xs.length := by omega
    obtain ⟨a, ds, ex, la, g⟩ := gs xs[d] (List.getElem_mem hd')
    have k2 : Kp p H1 (upd (upd H1 M (.lst xs)) p o) := ((Kp.refl p H1).new hM).upd
    refine ⟨M, xs, (d : Int), xs[d], rfl, rfl, SqL.of (by rw [upd_ne nM]; exact upd_same), atI_nat (List.getElem?_eq_getElem hd'), ?_⟩
    rw [ex]
    exact q a ds _ (kp1.trans k2) ho.at g (la.ext (woL_kp v.pin k2))
theorem evN_lt (i : Int) (h : 0 ≤ i ∧ i < (n : Nat)) : EvN p V0 (tC (.int i)) σ 0 (fun x => 0 ≤ x ∧ x < (n : Nat)) := (evN_c i).mono fun x e => by rw [e]; exact h
theorem evN_vlt {i : Nat} {j : Int} (e : σ[i]? = some (some (.int j))) (h : 0 ≤ j ∧ j < (n : Nat)) : EvN p V0 (tVar i) σ 0 (fun x => 0 ≤ x ∧ x < (n : Nat)) := (evN_var e).mono fun x e => by rw [e]; exact h
end
/-- rows and ends are a decoder's -/
theorem dcd_of {sg n : Nat} {es fs : List PyData} (h1 : LN n (RowD sg n) es) (h2 : LN n EndD fs) (s1 : 1 ≤ sg) (s5 : sg ≤ 5) (n1 : 1 ≤ n) (n40 : n ≤ 40) : ∃ D : Dcd, D.ok ∧ D.sg = sg ∧ D.st.length = n ∧ D.stL = .list es ∧ D.enL = .list fs := by
  have a1 : ∀ {ds : List PyData}, (∀ d ∈ ds, RowD sg n d) → ∃ st : List (List Ent), ds = st.map (fun r => .list (r.map My.enD)) ∧ st.length = ds.length ∧ ∀ r ∈ st, r.length = sg ∧ ∀ e ∈ r, okE n e := by
    intro ds
    induction ds with
    | nil => exact fun _ => ⟨[], rfl, rfl, fun e h => by cases h⟩
    | cons d ds ih =>
      intro h
      obtain ⟨r, e1, e2, e3⟩ := ih fun x hx => h x (List.mem_cons_of_mem _ hx)
      obtain ⟨e, rfl, oe⟩ := h d List.mem_cons_self
      refine ⟨e :: r, by rw [List.map_cons, e1], by rw [List.length_cons, List.length_cons, e2], fun x hx => ?_⟩
      rcases List.mem_cons.mp hx with z | z
      · rw [z]; exact oe
      · exact e3 x z
  have a2 : ∀ {ds : List PyData}, (∀ d ∈ ds, EndD d) → ∃ en : List (Option (List Nat)), ds = en.map wdD ∧ en.length = ds.length ∧ ∀ r ∈ en, ∀ w, r = some w → okW w := by
    intro ds
    induction ds with
    | nil => exact fun _ => ⟨[], rfl, rfl, fun e h => by cases h⟩
    | cons d ds ih =>
      intro h
      obtain ⟨r, e1, e2, e3⟩ := ih fun x hx => h x (List.mem_cons_of_mem _ hx)
      obtain ⟨e, rfl, oe⟩ := h d List.mem_cons_self
      refine ⟨e :: r, by rw [List.map_cons, e1], by rw [List.length_cons, List.length_cons, e2], fun x hx => ?_⟩
      rcases List.mem_cons.mp hx with z | z
      · rw [z]; exact oe
      · exact e3 x z
  obtain ⟨st, e1, e2, e3⟩ := a1 h1.2
  obtain ⟨en, f1, f2, f3⟩ := a2 h2.2
  have ls : st.length = n := by rw [e2, h1.1]
  have le : en.length = n := by rw [f2, h2.1]
  refine ⟨⟨sg, st, en⟩, ⟨s1, s5, by show 1 ≤ st.length; omega, by show st.length ≤ 40; omega, fun r hr => ⟨(e3 r hr).1, by show ∀ e ∈ r, okE st.length e; rw [ls]; exact (e3 r hr).2⟩, by show en.length = st.length; omega, fun e he => f3 e he⟩, rfl, ls, ?_, ?_⟩
  · unfold Dcd.stL; rw [e1]
  · unfold Dcd.enL; rw [f1]
/-- at a statement -/
theorem EvB.at_ {K : PySem.W.Frag} {p : Addr} {l : List Addr} {H : Hp} {te : TE} {σ : L2.St} {k c : Nat} {G : PyData → Prop} (h : EvB K p (woL l H) te σ k G) (v : Vw p (woL l H) l H) (b : BoxAt H p c) (hb : c + k ≤ 900000000) {Q : VK}
    (q : ∀ x d H', Kp p H H' → BoxAt H' p (c + k) → Vw p (woL l H') l H' → G d → Dg K (woL l H') false x d → Q x H') : te σ H Q :=
  h l H c v b hb Q fun x d H' k' b' g dd => q x d H' k' b' (v.kp k' b').here g dd
theorem EvN.at_ {p : Addr} {l : List Addr} {H : Hp} {te : TE} {σ : L2.St} {k c : Nat} {G : Int → Prop} (h : EvN p (woL l H) te σ k G) (v : Vw p (woL l H) l H) (b : BoxAt H p c) (hb : c + k ≤ 900000000) {Q : VK}
    (q : ∀ i H', Kp p H H' → BoxAt H' p (c + k) → Vw p (woL l H') l H' → G i → Q (.int i) H') : te σ H Q :=
  h l H c v b hb Q fun x H' k' b' g => q x H' k' b' (v.kp k' b').here g
theorem EvF.at_ {K : PySem.W.Frag} {p : Addr} {l : List Addr} {H : Hp} {te : TE} {σ : L2.St} {k c : Nat} {G : List PyData → Prop} (h : EvF K p (woL l H) te σ k G) (v : Vw p (woL l H) l H) (b : BoxAt H p c) (hb : c + k ≤ 900000000) {Q : VK}
    (q : ∀ a ds H', Kp p H H' → BoxAt H' p (c + k) → Vw p (woL (a :: l) H') (a :: l) H' → G ds → a ∉ l → H a = none → LB K (a :: l) a H' ds → Q (.ref a) H') : te σ H Q :=
  h l H c v b hb Q fun x d H' k' b' g n n' dd => q x d H' k' b' ⟨List.mem_cons_of_mem _ v.pin, fun b hb => by
    rcases List.mem_cons.mp hb with z | z
    · rw [z]; obtain ⟨acc, e, _⟩ := dd; rw [e]; exact fun z => by cases z
    · exact (v.kp k' b').al b z, Same.refl _⟩ g n n' dd
theorem EvL.at_ {K : PySem.W.Frag} {p : Addr} {l : List Addr} {H : Hp} {te : TE} {σ : L2.St} {k c : Nat} {G : List PyData → Prop} (h : EvL K p (woL l H) te σ k G) (v : Vw p (woL l H) l H) (b : BoxAt H p c) (hb : c + k ≤ 900000000) {Q : VK}
    (q : ∀ a ds H', Kp p H H' → BoxAt H' p (c + k) → Vw p (woL l H') l H' → G ds → LA K (woL l H') a ds → Q (.ref a) H') : te σ H Q :=
  h l H c v b hb Q fun x d H' k' b' g dd => q x d H' k' b' (v.kp k' b').here g dd
/-- what is appended to the list at S -/
theorem app_at {K : PySem.W.Frag} {p S : Addr} {l : List Addr} {H : Hp} {te : TE} {σ : L2.St} {k c i : Nat} {G : PyData → Prop} {es : List PyData} {D : Ends} (h : EvB K p (woL l H) te σ k G) (v : Vw p (woL l H) l H) (b : BoxAt H p c) (hb : c + k ≤ 900000000)
    (e : σ[i]? = some (some (.ref S))) (lb : LB K l S H es) (hS : S ∈ l) (nS : S ≠ p) (le : es.length ≤ 100000)
    (q : ∀ d H', G d → LB K l S H' (es ++ [d]) → Vw p (woL l H') l H' → BoxAt H' p (c + k) → Same (woL l H) (woL l H') → (∀ D fs, D ≠ p → D ≠ S → LB K l D H fs → LB K l D H' fs) → (∀ H0, H0 S = none → Kp p H0 H → Kp p H0 H') → D.nx σ H') :
    tDrop (tBM K "list" rAppend (tVar i) (tCons te tNil)) D σ H := by
  obtain ⟨acc0, e0, _⟩ := id lb
  refine ⟨_, e, .inl ⟨rfl, _, SqL.of e0⟩, h l H c v b hb _ fun y d H2 k2 b2 g dd => ?_⟩
  have lb2 := lb.kp v.pin nS k2
  obtain ⟨acc, ea, da⟩ := id lb2
  have v2 := v.kp k2 b2
  refine ⟨S, acc, y, rfl, rfl, ea, by rw [da.len]; exact Nat.lt_of_le_of_lt le (by decide), q d _ g (lb2.snoc hS dd ea) (v2.upd hS _).here (b2.other nS.symm) ?_ (fun D fs n1 n2 lD => (lD.kp v.pin n1 k2).upd hS n2) fun H0 h0 k0 => (k0.trans k2).free h0⟩
  rw [woL_upd hS]; exact woL_kp v.pin k2
theorem Vw.box {p : Addr} {H : Hp} {c : Nat} (h : BoxAt H p c) : Vw p (woL [p] H) [p] H := ⟨List.mem_cons_self, fun a ha => by rw [List.mem_singleton.mp ha]; exact h.some, Same.refl _⟩
theorem LN.snoc {n m : Nat} {G : PyData → Prop} {es : List PyData} {d : PyData} (h : LN n G es) (g : G d) (e : m = n + 1) : LN m G (es ++ [d]) := ⟨by rw [List.length_append, h.1, e]; rfl, fun x hx => by
  rcases List.mem_append.mp hx with z | z
  · exact h.2 x z
  · rw [List.mem_singleton.mp z]; exact g⟩
end My

set_option Elab.async false
set_option linter.all false
set_option maxRecDepth 100000
set_option maxHeartbeats 8000000
namespace My
open PySem PySem.Spec PyProof.Rows L2
/-- the parts of a decoder at r, beside the box at p -/
def PartsAt (K : PySem.W.Frag) (p : Addr) (H : Hp) (r : Addr) (D : Dcd) : Prop := ∃ Sa Ea, SqL K (wo H p) r [.int (D.sg : Nat), .ref Sa, .ref Ea] ∧ Dg K (wo H p) false (.ref Sa) D.stL ∧ Dg K (wo H p) false (.ref Ea) D.enL ∧ D.ok
theorem PartsAt.kp {K : PySem.W.Frag} {p r : Addr} {H H' : Hp} {D : Dcd} (h : PartsAt K p H r D) (k : Kp p H H') : PartsAt K p H' r D := by
  obtain ⟨Sa, Ea, h1, h2, h3, ok⟩ := h
  exact ⟨Sa, Ea, h1.ext k.wo, h2.ext k.wo, h3.ext k.wo, ok⟩
/-- [signs, steps, ends], handed back -/
theorem parts_ret {K : PySem.W.Frag} {p : Addr} {H : Hp} {c sg n : Nat} {Sa Ea : Addr} {es fs : List PyData} (hb : BoxAt H p c) (h1 : Dg K (woL [p] H) false (.ref Sa) (.list es)) (h2 : Dg K (woL [p] H) false (.ref Ea) (.list fs)) (g1 : LN n (RowD sg n) es) (g2 : LN n EndD fs) (s1 : 1 ≤ sg) (s5 : sg ≤ 5) (n1 : 1 ≤ n) (n40 : n ≤ 40)
    {r : Addr} (hr : H r = none) : ∃ D : Dcd, PartsAt K p (L2.upd H r (.lst [.int (sg : Nat), .ref Sa, .ref Ea])) r D ∧ D.sg = sg ∧ D.st.length = n := by
  obtain ⟨D, ok, e1, e2, e3, e4⟩ := dcd_of g1 g2 s1 s5 n1 n40
  have nr : r ≠ p := (hb.ne hr).symm
  have s : Same (wo H p) (wo (L2.upd H r (.lst [.int (sg : Nat), .ref Sa, .ref Ea])) p) := (Kp.of (Same.new (Same.refl _) hr)).wo
  rw [woL_one] at h1 h2
  refine ⟨D, ⟨Sa, Ea, SqL.of (by rw [wo_ne nr, upd_same, e1]), ?_, ?_, ok⟩, e1, e2⟩
  · rw [e3]; exact h1.ext s
  · rw [e4]; exact h2.ext s
theorem cons_at {te : TE} {ta : TA} {σ : L2.St} {H : Hp} {Q : List V → Hp → Prop} (h : te σ H (fun x H1 => ta σ H1 fun xs H2 => Q (x :: xs) H2)) : tCons te ta σ H Q := h
section
variable {P : Program} {w : World} {K : PySem.W.Frag} {mg : Str → Option Value} {base : Heap}
def spCell (K : PySem.W.Frag) : Sp := fun vs H Q _ => ∃ (a : Addr) (ns : List Int) (k : Nat), vs = [.ref a, .int k] ∧ SqL K H a (ns.map V.int) ∧ ∀ c H', Same H H' → Q (.int c) H'
theorem ok_law_cell (T : Txt K mg w) : FnOk P w K mg base CX0 1 T.f_law_cell T.fd_law_cell ["script", "k"] (spCell K) := by
  refine T.F_law_cell.ok sc_law_cell (fun vs H Q E h => ?_) (fun cdv A outer s H vs Q E hr h => ?_)
  · obtain ⟨a, ns, k, rfl, _⟩ := h; rfl
  · obtain ⟨a, ns, k, rfl, hS, q⟩ := h
    refine ⟨_, (pss_one (ps_ret (pe_ifExp (pt_cmpR op_lt (pv 1) (pe_callB call_len_seq (by rfl) T.z_len (by decide +kernel) (pa_cons (pv 0) pa_nil)) (nomark _)) (pe_ix ix_list (pv 0) (pv 1) (fun _ _ => rfl)) (pe_op op_add (pe_op op_mul pe_int (pv 1)) (pe_op op_mod (pe_callB (cr_sum rfl) (by rfl) T.z_sum (by decide +kernel) (pa_cons (pe_slice sl_list (pv 0) po_none (po_some pe_int)) pa_nil)) pe_int))))), ?_⟩
    refine ⟨_, rfl, _, rfl, a, _, rfl, .inl hS, _, _, rfl, rfl, _, rfl, ite2 (fun c => ?_) (fun c => ?_)⟩
    · have c' := of_decide_eq_true c
      have hk : k < ns.length := by rw [List.length_map] at c'; omega
      exact ⟨_, rfl, _, rfl, a, _, _, _, rfl, rfl, hS, atI_nat (j := k) (v := V.int ns[k]) (by rw [List.getElem?_map, List.getElem?_eq_getElem hk]; rfl), q _ H (Same.refl H)⟩
    · refine ⟨_, rfl, _, _, rfl, rfl, .inl (by decide), _, rfl, 1, rfl, a, _, rfl, hS, fun p hp => ?_⟩
      rw [show cutV (ns.map V.int) none (some 1) = (ns.take 1).map V.int by rw [show (some (1 : Int)) = some ((1 : Nat) : Int) from rfl, cutV_to, List.map_take]]
      exact ⟨p, ns.take 1, rfl, SqL.of upd_same, _, _, rfl, rfl, (by show (0 : Int) < 1000081; decide), _, _, rfl, rfl, q _ _ (Same.new (Same.refl H) hp)⟩
def spBox : Sp := fun vs H Q _ => ∃ c : Int, vs = [.int c] ∧ ∀ p o, H p = none → BoxO 0 o → Q (.ref p) (upd H p o)
theorem ok_law_box (T : Txt K mg w) : FnOk P w K mg base CX0 1 T.f_law_box T.fd_law_box ["great"] spBox := by
  refine T.F_law_box.ok sc_law_box (fun vs H Q E h => ?_) (fun cdv A outer s H vs Q E hr h => ?_)
  · obtain ⟨c, rfl, _⟩ := h; rfl
  · obtain ⟨c, rfl, q⟩ := h
    refine ⟨_, (pss_one (ps_ret (pe_lst (pa_cons (pe_callB call_abs (by rfl) T.z_abs (by decide +kernel) (pa_cons (pv 0) pa_nil)) (pa_cons (pe_cmpR op_ge (pe_callB call_abs (by rfl) T.z_abs (by decide +kernel) (pa_cons (pv 0) pa_nil)) (pe_op op_pow pe_int pe_int) (nomark _)) (pa_cons (pe_op op_mod (pe_callTy call_int1 (by rfl) T.z_int (by decide +kernel) (pa_cons (pe_callB call_abs (by rfl) T.z_abs (by decide +kernel) (pa_cons (pv 0) pa_nil)) pa_nil)) pe_int) (pa_cons pe_int pa_nil))))))), ?_⟩
    refine ⟨_, rfl, _, rfl, _, rfl, _, rfl, _, _, rfl, rfl, ⟨by decide, by decide, by decide⟩, _, _, rfl, rfl, _, rfl, _, rfl, .inl ⟨_, rfl, _, _, rfl, rfl, (by show (0 : Int) < 2147483629; decide), (by show 4 ≤ sizeLine; decide), fun p hp => q p _ hp ⟨_, _, _, _, rfl, ?_, ?_, Int.le_refl 0, Int.le_refl 0⟩⟩⟩
    · exact Int.emod_nonneg _ (by decide)
    · have := Int.emod_lt_of_pos (if c < 0 then -c else c) (by decide : (0 : Int) < 2147483629)
      omega
theorem ok_law_take (T : Txt K mg w) : FnOk P w K mg base CX0 1 T.f_law_take T.fd_law_take ["box", "many"] spTake := by
  refine T.F_law_take.ok sc_law_take (fun vs H Q E h => ?_) (fun cdv A outer s H vs Q E hr h => ?_)
  · obtain ⟨p, n, m, rfl, _⟩ := h; rfl
  · obtain ⟨p, n, many, rfl, ⟨o, ho, a, m, c, b, rfl, m0, m1, c0, c1⟩, hn, p0, p1, q⟩ := h
    refine ⟨_, (pss_cons (ps_if (PW.pt (pw_and (pt_val (pe_ix ix_list (pv 0) pe_int (fun _ _ => rfl))) (pw_and1 (pt_cmpR op_gt (pe_ix ix_list (pv 0) pe_int (fun _ _ => rfl)) pe_int (nomark _))))) (pss_cons (ps_set (i := 2) sc_law_take.nd rfl (Or.inl rfl) (pe_op op_mod (pe_callTy call_int1 (by rfl) T.z_int (by decide +kernel) (pa_cons (pe_ix ix_list (pv 0) pe_int (fun _ _ => rfl)) pa_nil)) (pv 1)))
      (pss_cons (ps_asg (pe_op op_fdivW (pe_ix ix_list (pv 0) pe_int (fun _ _ => rfl)) (pv 1)) (pg_sub (pv 0) pe_int set_list))
      (pss_one (ps_ret (pv 2))))) pss_nil)
      (pss_cons (ps_asg (pe_op op_add (pe_ix ix_list (pv 0) pe_int (fun _ _ => rfl)) pe_int) (pg_sub (pv 0) pe_int set_list))
      (pss_cons (ps_set (i := 3) sc_law_take.nd rfl (Or.inl rfl) (pe_op op_mod (pe_callTy call_int1 (by rfl) T.z_int (by decide +kernel) (pa_cons (pe_op op_pow (pe_op op_add (pe_op op_add (pe_ix ix_list (pv 0) pe_int (fun _ _ => rfl)) (pe_op op_mul pe_int (pe_ix ix_list (pv 0) pe_int (fun _ _ => rfl)))) pe_int) pe_int) pa_nil)) pe_int))
      (pss_one (ps_ret (pe_op op_mod (pe_op op_fdivW (pe_op op_mod (pe_callTy call_int1 (by rfl) T.z_int (by decide +kernel) (pa_cons (pe_op op_pow (pe_op op_add (pe_op op_mul (pv 3) pe_int) (pe_op op_mul pe_int (pe_ix ix_list (pv 0) pe_int (fun _ _ => rfl)))) pe_int) pa_nil)) pe_int) pe_int) (pv 1))))))), ?_⟩
    have at0 : atI [V.int a, .bl b, .int m, .int c] 0 = some (.int a) := atI_nat (j := 0) rfl
    have at1 : atI [V.int a, .bl b, .int m, .int c] 1 = some (.bl b) := atI_nat (j := 1) rfl
    have at3 : atI [V.int a, .bl b, .int m, .int c] 3 = some (.int c) := atI_nat (j := 3) rfl
    have lm : CDivW a many := ⟨p0, by
      have : many.natAbs < 2 ^ 20 := by omega
      exact Nat.lt_of_lt_of_le (PySem.Flt.log2_lt_of (by decide) this) (by decide)⟩
    have second : tSeq (tAsg (tOp (rI0 fun i j => .int (i + j)) (tOp (rIxL K) (tVar 0) (tC (.int 3))) (tC (.int 1))) (gSub (tVar 0) (tC (.int 3)) rSetL))
        (tSeq (tAsg (tOp (rI (fun _ j => 0 < j) fun i j => .int (i % j)) (tCB (fun xs H Q => (∃ i, xs = [.int i] ∧ Q (.int i) H) ∨ ∃ k, xs = [.bl k] ∧ Q (.int (if k then 1 else 0)) H) (tCons (tOp (rI CPow fun i j => .int (i ^ j.toNat)) (tOp (rI0 fun i j => .int (i + j)) (tOp (rI0 fun i j => .int (i + j)) (tOp (rIxL K) (tVar 0) (tC (.int 2))) (tOp (rI CMul fun i j => .int (i * j)) (tC (.int 15485863)) (tOp (rIxL K) (tVar 0) (tC (.int 3))))) (tC (.int 179424697))) (tC (.int 5))) tNil)) (tC (.int 2147483647))) (gName 3))
        (tRet (tOp (rI (fun _ j => 0 < j) fun i j => .int (i % j)) (tOp (rI CDivW fun i j => .int (i / j)) (tOp (rI (fun _ j => 0 < j) fun i j => .int (i % j)) (tCB (fun xs H Q => (∃ i, xs = [.int i] ∧ Q (.int i) H) ∨ ∃ k, xs = [.bl k] ∧ Q (.int (if k then 1 else 0)) H) (tCons (tOp (rI CPow fun i j => .int (i ^ j.toNat)) (tOp (rI0 fun i j => .int (i + j)) (tOp (rI CMul fun i j => .int (i * j)) (tVar 3) (tC (.int 48271))) (tOp (rI CMul fun i j => .int (i * j)) (tC (.int 104723)) (tOp (rIxL K) (tVar 0) (tC (.int 3))))) (tC (.int 3))) tNil)) (tC (.int 2147483587))) (tC (.int 64))) (tVar 1))))
        { nx := fun _ H' => Q .non H', rt := Q } [some (.ref p), some (.int many), none, none] H := by
      refine ⟨_, rfl, p, _, _, _, rfl, rfl, SqL.of ho, at3, _, _, rfl, rfl, _, rfl, p, _, 3, 3, rfl, rfl, ho, rfl, ?_⟩
      have hu : upd H p (.lst [.int a, .bl b, .int m, .int (c + 1)]) p = some (.lst [.int a, .bl b, .int m, .int (c + 1)]) := upd_same
      refine ⟨_, rfl, p, _, _, _, rfl, rfl, SqL.of hu, atI_nat (j := 2) rfl, _, rfl, p, _, _, _, rfl, rfl, SqL.of hu, atI_nat (j := 3) rfl, _, _, rfl, rfl, .inl (by decide), _, _, rfl, rfl, _, _, rfl, rfl, _, _, rfl, rfl, ⟨by decide, by decide, by omega⟩, .inl ⟨_, rfl, _, _, rfl, rfl, (by show (0 : Int) < 2147483647; decide), ?_⟩⟩
      refine ⟨_, rfl, _, _, rfl, rfl, .inr (by decide), _, rfl, p, _, _, _, rfl, rfl, SqL.of hu, atI_nat (j := 3) rfl, _, _, rfl, rfl, .inl (by decide), _, _, rfl, rfl, _, _, rfl, rfl, ⟨by decide, by decide, by omega⟩, .inl ⟨_, rfl, _, _, rfl, rfl, (by show (0 : Int) < 2147483587; decide), _, _, rfl, rfl, ⟨by decide, by decide⟩, _, rfl, _, _, rfl, rfl, p0, ?_⟩⟩
      have y0 := Int.emod_nonneg ((((m + 15485863 * (c + 1) + 179424697) ^ (5 : Int).toNat % 2147483647) * 48271 + 104723 * (c + 1)) ^ (3 : Int).toNat % 2147483587 / 64) (by omega : many ≠ 0)
      have y1 := Int.emod_lt_of_pos ((((m + 15485863 * (c + 1) + 179424697) ^ (5 : Int).toNat % 2147483647) * 48271 + 104723 * (c + 1)) ^ (3 : Int).toNat % 2147483587 / 64) p0
      show Q (.int ((((m + 15485863 * (c + 1) + 179424697) ^ (5 : Int).toNat % 2147483647) * 48271 + 104723 * (c + 1)) ^ (3 : Int).toNat % 2147483587 / 64 % many)) _
      generalize (((m + 15485863 * (c + 1) + 179424697) ^ (5 : Int).toNat % 2147483647) * 48271 + 104723 * (c + 1)) ^ (3 : Int).toNat % 2147483587 / 64 % many = y at *
      obtain ⟨d, rfl⟩ : ∃ d : Nat, y = d := ⟨y.toNat, by omega⟩
      exact q d _ y1 ⟨a, m, c + 1, b, rfl, m0, m1, by omega, by omega⟩
    refine ⟨_, rfl, p, _, _, _, rfl, rfl, SqL.of ho, at1, b, rfl, ?_⟩
    cases b with
    | false => exact iteF (iteF second)
    | true =>
      refine iteT ⟨_, rfl, p, _, _, _, rfl, rfl, SqL.of ho, at0, _, _, rfl, rfl, _, rfl, ite2 (fun z => ?_) (fun z => second)⟩
      refine ⟨_, rfl, p, _, _, _, rfl, rfl, SqL.of ho, at0, .inl ⟨_, rfl, _, rfl, _, _, rfl, rfl, p0, ?_⟩⟩
      refine ⟨_, rfl, p, _, _, _, rfl, rfl, SqL.of ho, at0, _, rfl, _, _, rfl, rfl, lm, _, rfl, p, _, 0, 0, rfl, rfl, ho, rfl, _, rfl, ?_⟩
      have y0 := Int.emod_nonneg a (by omega : many ≠ 0)
      have y1 := Int.emod_lt_of_pos a p0
      show Q (.int (a % many)) _
      generalize a % many = y at *
      obtain ⟨d, rfl⟩ : ∃ d : Nat, y = d := ⟨y.toNat, by omega⟩
      exact q d _ y1 ⟨a / many, m, c, true, rfl, m0, m1, c0, by omega⟩
def spPl (K : PySem.W.Frag) (lo : Nat) : Sp := fun vs H Q _ => ∃ (p : Addr) (c : Nat), vs = [.ref p] ∧ BoxAt H p c ∧ c < 1000000 ∧ ∀ r D H', Kp p H H' → BoxAt H' p (c + 200) → PartsAt K p H' r D → D.sg ≤ 3 → lo ≤ D.sg → Q (.ref r) H'
theorem ok_law_parts (T : Txt K mg w) : FnOk P w K mg base CX0 2 T.f_law_parts T.fd_law_parts ["box"] (spPl K 3) := by
  refine T.F_law_parts.ok sc_law_parts (fun vs H Q E h => ?_) (fun cdv A outer s H vs Q E hr h => ?_)
  · obtain ⟨p, c, rfl, _⟩ := h; rfl
  · obtain ⟨p, c, rfl, hb, hc, kQ⟩ := h
    refine ⟨_, (pss_cons (ps_set (i := 1) sc_law_parts.nd rfl (Or.inl rfl) (pe_lst (pa_cons (pe_lst (pa_cons (pe_tup (pa_cons pe_int (pa_cons (pe_ix ix_list (pe_lst (pa_cons pe_str (pa_cons pe_str pa_nil))) (pe_call (ok_law_take T) (hr.mono (by decide)) rfl T.g_law_take T.F_law_take.kp T.b_law_take .nil pass0 (pa_cons (pv 0) (pa_cons pe_int pa_nil))) (fun _ _ => rfl)) pa_nil))) (pa_cons (pe_tup (pa_cons pe_int (pa_cons (pe_ix ix_list (pe_lst (pa_cons pe_str (pa_cons pe_str pa_nil))) (pe_call (ok_law_take T) (hr.mono (by decide)) rfl T.g_law_take T.F_law_take.kp T.b_law_take .nil pass0 (pa_cons (pv 0) (pa_cons pe_int pa_nil))) (fun _ _ => rfl)) pa_nil))) (pa_cons (pe_ix ix_list (pe_lst (pa_cons pe_non (pa_cons (pe_tup (pa_cons pe_int (pa_cons pe_str pa_nil))) pa_nil))) (pe_call (ok_law_take T) (hr.mono (by decide)) rfl T.g_law_take T.F_law_take.kp T.b_law_take .nil pass0 (pa_cons (pv 0) (pa_cons pe_int pa_nil))) (fun _ _ => rfl)) pa_nil)))) pa_nil)))
      (pss_cons (ps_for PassesOwn.never rfl (pi_list (pe_lst (pa_cons pe_int (pa_cons pe_int pa_nil)))) (pg_name (i := 2) sc_law_parts.nd rfl (Or.inr rfl)) (pss_cons (ps_setLc (i := 3) (own := [("sign", 4)]) (g := gName 4) (by rfl) sc_law_parts.nd rfl rfl (sw_true rfl rfl rfl (by decide +kernel)) (pi_range1 rfl T.z_range (pa_cons pe_int pa_nil)) (blkOk_by (own := [("sign", 4)]) (N := N_law_parts) (sc := defScope s_law_parts) (by decide +kernel)) (fun _ _ _ _ _ => pg_name (i := 4) sc_law_parts.nd rfl (Or.inl rfl)) (fun _ _ _ _ _ => pts_nil) (fun _ _ _ _ _ => (pe_tup (pa_cons (pv 2) (pa_cons (pe_ix (ix_listK (K := K) rfl) (pe_lst (pa_cons pe_str (pa_cons pe_str (pa_cons pe_str pa_nil)))) (pe_call (ok_law_take T) (hr.mono (by decide)) rfl T.g_law_take T.F_law_take.kp T.b_law_take .nil pass0 (pa_cons (pv 0) (pa_cons pe_int pa_nil))) (fun _ _ => rfl)) pa_nil)))))
      (pss_cons (ps_set (i := 5) sc_law_parts.nd rfl (Or.inl rfl) (pe_ix ix_list (pe_lst (pa_cons (pe_tup (pa_cons (pv 2) (pa_cons pe_str pa_nil))) (pa_cons (pe_tup (pa_cons (pe_op op_sub pe_int (pv 2)) (pa_cons pe_str pa_nil))) (pa_cons (pe_tup (pa_cons pe_int (pa_cons pe_str pa_nil))) (pa_cons pe_non pa_nil))))) (pe_call (ok_law_take T) (hr.mono (by decide)) rfl T.g_law_take T.F_law_take.kp T.b_law_take .nil pass0 (pa_cons (pv 0) (pa_cons pe_int pa_nil))) (fun _ _ => rfl)))
      (pss_one (ps_expr (pe_bm PySem.F.plainAttrs_list PySem.F.slot_list_append PySem.F.type_list_append mt_append (pv 1) (pa_cons (pe_op op_cat (pv 3) (pe_lst (pa_cons (pv 5) pa_nil))) pa_nil)))))))
      (pss_cons (ps_expr (pe_bm PySem.F.plainAttrs_list PySem.F.slot_list_append PySem.F.type_list_append mt_append (pv 1) (pa_cons (pe_op op_cat (pe_op op_rep (pe_lst (pa_cons (pe_ix ix_list (pe_lst (pa_cons (pe_tup (pa_cons pe_int (pa_cons pe_str pa_nil))) (pa_cons pe_non pa_nil))) (pe_call (ok_law_take T) (hr.mono (by decide)) rfl T.g_law_take T.F_law_take.kp T.b_law_take .nil pass0 (pa_cons (pv 0) (pa_cons pe_int pa_nil))) (fun _ _ => rfl)) pa_nil)) pe_int) (pe_lst (pa_cons pe_non pa_nil))) pa_nil)))
      (pss_cons (ps_set (i := 6) sc_law_parts.nd rfl (Or.inl rfl) (pe_lst (pa_cons (pe_ix ix_list (pe_lst (pa_cons pe_str (pa_cons pe_non pa_nil))) (pe_call (ok_law_take T) (hr.mono (by decide)) rfl T.g_law_take T.F_law_take.kp T.b_law_take .nil pass0 (pa_cons (pv 0) (pa_cons pe_int pa_nil))) (fun _ _ => rfl)) (pa_cons (pe_ix ix_list (pe_lst (pa_cons pe_str (pa_cons pe_non (pa_cons pe_str pa_nil)))) (pe_call (ok_law_take T) (hr.mono (by decide)) rfl T.g_law_take T.F_law_take.kp T.b_law_take .nil pass0 (pa_cons (pv 0) (pa_cons pe_int pa_nil))) (fun _ _ => rfl)) (pa_cons (pe_ix ix_list (pe_lst (pa_cons pe_str (pa_cons pe_non pa_nil))) (pe_call (ok_law_take T) (hr.mono (by decide)) rfl T.g_law_take T.F_law_take.kp T.b_law_take .nil pass0 (pa_cons (pv 0) (pa_cons pe_int pa_nil))) (fun _ _ => rfl)) (pa_cons pe_str pa_nil))))))
      (pss_one (ps_ret (pe_lst (pa_cons pe_int (pa_cons (pv 1) (pa_cons (pv 6) pa_nil)))))))))), ?_⟩
    have v0 := Vw.box hb
    try dsimp only [L2.gName, L2.tSeq, L2.tAsg, L2.tRet, L2.tNext, L2.tPar3, L2.tPar]
    refine EvF.at_ (K := K) (p := p) (G := LN 1 (RowD 3 4)) ((evF_lstA (evBA_cons (evB_rowL (evL_F (evF_lstA (evBA_cons (evB_entT (evN_lt _ (by constructor <;> omega)) (evB_menuA rfl (evBA_cons (evB_wordC (by decide +kernel)) (evBA_cons (evB_wordC (by decide +kernel)) evBA_nil)))) (evBA_cons (evB_entT (evN_lt _ (by constructor <;> omega)) (evB_menuA rfl (evBA_cons (evB_wordC (by decide +kernel)) (evBA_cons (evB_wordC (by decide +kernel)) evBA_nil)))) (evBA_cons (evB_menuA rfl (evBA_cons evB_entN (evBA_cons (evB_entT (evN_lt _ (by constructor <;> omega)) (evB_wordC (by decide +kernel))) evBA_nil))) evBA_nil)))))) evBA_nil))) v0 hb (by omega) fun S ds H1 k1 b1 v1 g1 nS fS lb1 => ?_
    have nSp : S ≠ p := fun z => nS (by rw [z]; simp)
    try dsimp only [L2.gName, L2.tSeq, L2.tAsg, L2.tRet, L2.tNext, L2.tPar3, L2.tPar]
    refine ⟨(by show 2 ≤ sizeLine; decide), fun M hM => ⟨M, rfl, ⟨_, SqL.of upd_same⟩, for_list (K := K) (a := M) (xs := [.int 1, .int 2]) (fun i σ H' => ∃ x2 x3 x4 x5, σ = [some (.ref p), some (.ref S), x2, x3, x4, x5, none] ∧ Vw p (woL [S, p] H') [S, p] H' ∧ Kp p H H' ∧ BoxAt H' p (c + 10 + 10 * i) ∧ woL [S, p] H' M = some (.lst [.int 1, .int 2]) ∧ ∃ es, LB K [S, p] S H' es ∧ LN (1 + i) (RowD 3 4) es)
      ⟨_, _, _, _, rfl, (v1.new hM _).here, k1.new hM, (b1.new hM).mono (by omega), by rw [woL_out (v1.nin hM)]; exact upd_same, ds, lb1.new hM (v1.nin hM), g1⟩ (fun i σ H' _ ⟨_, _, _, _, _, _, _, _, eM, _⟩ => SqL.of (woL_le eM)) ?_ ?_⟩⟩
    · rintro i x σ H2 hx ⟨x2, x3, x4, x5, rfl, v2, k2, b2, eM, es, lb2, g2⟩
      have hi : i < 2 := (List.getElem?_eq_some_iff.mp hx).1
      obtain ⟨j, rfl, j1, j2⟩ : ∃ j : Int, x = .int j ∧ 1 ≤ j ∧ j ≤ 2 := by
        have : i = 0 ∨ i = 1 := by omega
        rcases this with rfl | rfl
        · exact ⟨1, (Option.some.inj hx).symm, by omega, by omega⟩
        · exact ⟨2, (Option.some.inj hx).symm, by omega, by omega⟩
      try dsimp only [L2.gName, L2.tSeq, L2.tAsg, L2.tRet, L2.tNext, L2.tPar3, L2.tPar]
      refine EvL.at_ (K := K) (p := p) (G := LN 2 (EntD 4)) ((evL_F (evF_lcA (evN_c _) (by omega) (fun _ => rfl) (fun j hj V1 s1 => (evB_entT (evN_vlt rfl (by constructor <;> omega)) (evB_menuA rfl (evBA_cons (evB_wordC (by decide +kernel)) (evBA_cons (evB_wordC (by decide +kernel)) (evBA_cons (evB_wordC (by decide +kernel)) evBA_nil))))))))) v2 b2 (by omega) fun Ra rs H3 k3 b3 v3 g3 la3 => ?_
      try dsimp only [L2.gName, L2.tSeq, L2.tAsg, L2.tRet, L2.tNext, L2.tPar3, L2.tPar]
      refine EvB.at_ (K := K) (p := p) (G := EntD 4) ((evB_menuA rfl (evBA_cons (evB_entT (evN_vlt rfl (by constructor <;> omega)) (evB_wordC (by decide +kernel))) (evBA_cons (evB_entT (EvN.mono (evN_opV (evN_c _) (evN_var rfl)) (by intro x hx; (first | omega | (simp only [] at hx; omega) | (obtain ⟨i, j, h1, h2, h3⟩ := hx; subst h3; first | (constructor <;> omega) | omega) | (obtain ⟨i, j, h1, h2, h3⟩ := hx; subst h3; subst h2; exact ⟨Int.emod_nonneg _ (by omega), Int.emod_lt_of_pos _ (by omega)⟩)))) (evB_wordC (by decide +kernel))) (evBA_cons (evB_entT (evN_lt _ (by constructor <;> omega)) (evB_wordC (by decide +kernel))) (evBA_cons evB_entN evBA_nil)))))) v3 b3 (by omega) fun o od H4 k4 b4 v4 g4 do4 => ?_
      try dsimp only [L2.gName, L2.tSeq, L2.tAsg, L2.tRet, L2.tNext, L2.tPar3, L2.tPar]
      have la4 := la3.ext (woL_kp v3.pin k4)
      have lb4 := (lb2.kp v2.pin nSp k3).kp v3.pin nSp k4
      refine app_at (G := RowD 3 4) ((evB_rowL (evL_F (evF_catN ((evL_var rfl (by assumption)).mono (by intro d e; subst e; assumption)) (evL_F (evF_lstA (evBA_cons ((evB_var rfl (by assumption)).mono (by intro d e; subst e; assumption)) evBA_nil))) (by omega))))) v4 b4 (by omega) rfl lb4 (by simp) nSp (by rw [g2.1]; omega) fun d H5 g5 lb5 v5 b5 s5 tr fr => ?_
      exact ⟨_, _, _, _, rfl, v5, fr _ fS ((k2.trans k3).trans k4), b5.mono (by omega), s5 _ _ (woL_kp v3.pin k4 _ _ (woL_kp v2.pin k3 _ _ eM)), _, lb5, g2.snoc g5 (by omega)⟩
    · rintro σ H2 ⟨x2, x3, x4, x5, rfl, v2, k2, b2, eM, es, lb2, g2⟩
      have b2 : BoxAt H2 p (c + 30) := b2
      have g2 : LN 3 (RowD 3 4) es := g2
      try dsimp only [L2.gName, L2.tSeq, L2.tAsg, L2.tRet, L2.tNext, L2.tPar3, L2.tPar]
      refine app_at (G := RowD 3 4) ((evB_rowL (evL_F (evF_catN (evL_F (evF_repA (n2 := 2) (evL_F (evF_lstA (evBA_cons (evB_menuA rfl (evBA_cons (evB_entT (evN_lt _ (by constructor <;> omega)) (evB_wordC (by decide +kernel))) (evBA_cons evB_entN evBA_nil))) evBA_nil))) (((evN_c _)).mono (by intro x hx; exact hx)) (by decide) (by decide))) (evL_F (evF_lstA (evBA_cons evB_entN evBA_nil))) (by omega))))) v2 b2 (by omega) rfl lb2 (by simp) nSp (by rw [g2.1]; decide) fun d H3 g3 lb3 v3 b3 s3 tr fr => ?_
      have k3 := fr _ fS k2
      try dsimp only [L2.gName, L2.tSeq, L2.tAsg, L2.tRet, L2.tNext, L2.tPar3, L2.tPar]
      refine EvL.at_ (K := K) (p := p) (G := LN 4 EndD) ((evL_F (evF_lstA (evBA_cons (evB_menuA rfl (evBA_cons (evB_endW (evB_wordC (by decide +kernel))) (evBA_cons evB_endN evBA_nil))) (evBA_cons (evB_menuA rfl (evBA_cons (evB_endW (evB_wordC (by decide +kernel))) (evBA_cons evB_endN (evBA_cons (evB_endW (evB_wordC (by decide +kernel))) evBA_nil)))) (evBA_cons (evB_menuA rfl (evBA_cons (evB_endW (evB_wordC (by decide +kernel))) (evBA_cons evB_endN evBA_nil))) (evBA_cons (evB_endW (evB_wordC (by decide +kernel))) evBA_nil))))))) v3 b3 (by omega) fun Ea en H4 k4 b4 v4 g4 la4 => ?_
      have lb4 := lb3.kp v3.pin nSp k4
      try dsimp only [L2.gName, L2.tSeq, L2.tAsg, L2.tRet, L2.tNext, L2.tPar3, L2.tPar]
      refine ⟨_, rfl, _, rfl, (by show 3 ≤ sizeLine; decide), fun r hr0 => ?_⟩
      obtain ⟨D, hD, e1, e2⟩ := parts_ret (sg := 3) (n := 4) b4 (lb4.done nS).dg (la4.ext woL_more).dg (g2.snoc g3 rfl) g4 (by omega) (by omega) (by omega) (by omega) hr0
      exact kQ r D _ ((k3.trans k4).new hr0) ((b4.new hr0).mono (by omega)) hD (by omega) (by omega)
end
end My

set_option Elab.async false
set_option linter.all false
set_option maxRecDepth 100000
set_option maxHeartbeats 8000000
namespace My
open PySem PySem.Spec PyProof.Rows L2
section
variable {P : Program} {w : World} {K : PySem.W.Frag} {mg : Str → Option Value} {base : Heap}
theorem ok_law_double (T : Txt K mg w) : FnOk P w K mg base CX0 2 T.f_law_double T.fd_law_double ["box"] (spPl K 3) := by
  refine T.F_law_double.ok sc_law_double (fun vs H Q E h => ?_) (fun cdv A outer s H vs Q E hr h => ?_)
  · obtain ⟨p, c, rfl, _⟩ := h; rfl
  · obtain ⟨p, c, rfl, hb, hc, kQ⟩ := h
    refine ⟨_, (pss_cons (ps_set (i := 1) sc_law_double.nd rfl (Or.inl rfl) (pe_lst pa_nil))
      (pss_cons (ps_for PassesOwn.never rfl (pi_range1 rfl T.z_range (pa_cons pe_int pa_nil)) (pg_name (i := 2) sc_law_double.nd rfl (Or.inr rfl)) (pss_cons (ps_set (i := 3) sc_law_double.nd rfl (Or.inl rfl) (pe_lst (pa_cons (pe_call (ok_law_take T) (hr.mono (by decide)) rfl T.g_law_take T.F_law_take.kp T.b_law_take .nil pass0 (pa_cons (pv 0) (pa_cons pe_int pa_nil))) (pa_cons (pe_call (ok_law_take T) (hr.mono (by decide)) rfl T.g_law_take T.F_law_take.kp T.b_law_take .nil pass0 (pa_cons (pv 0) (pa_cons pe_int pa_nil))) pa_nil))))
      (pss_cons (ps_set (i := 4) sc_law_double.nd rfl (Or.inl rfl) (pe_ix ix_list (pe_lst (pa_cons (pe_lst (pa_cons (pe_tup (pa_cons pe_int (pa_cons pe_str pa_nil))) (pa_cons (pe_tup (pa_cons pe_int (pa_cons pe_str pa_nil))) pa_nil))) (pa_cons (pe_lst (pa_cons (pe_tup (pa_cons pe_int (pa_cons pe_str pa_nil))) (pa_cons (pe_tup (pa_cons pe_int (pa_cons pe_str pa_nil))) pa_nil))) (pa_cons (pe_lst (pa_cons (pe_tup (pa_cons pe_int (pa_cons pe_str pa_nil))) (pa_cons (pe_tup (pa_cons pe_int (pa_cons pe_str pa_nil))) pa_nil))) pa_nil)))) (pe_call (ok_law_take T) (hr.mono (by decide)) rfl T.g_law_take T.F_law_take.kp T.b_law_take .nil pass0 (pa_cons (pv 0) (pa_cons pe_int pa_nil))) (fun _ _ => rfl)))
      (pss_cons (ps_set (i := 4) sc_law_double.nd rfl (Or.inl rfl) (pe_ifExp (pt_cmpR op_eq (pv 2) pe_int (nomark _)) (pv 4) (pe_ix ix_list (pe_lst (pa_cons (pe_lst (pa_cons pe_non (pa_cons pe_non pa_nil))) (pa_cons (pe_lst (pa_cons (pe_tup (pa_cons pe_int (pa_cons pe_str pa_nil))) (pa_cons (pe_tup (pa_cons pe_int (pa_cons pe_str pa_nil))) pa_nil))) (pa_cons (pe_lst (pa_cons (pe_tup (pa_cons pe_int (pa_cons pe_str pa_nil))) (pa_cons (pe_tup (pa_cons pe_int (pa_cons pe_str pa_nil))) pa_nil))) pa_nil)))) (pe_call (ok_law_take T) (hr.mono (by decide)) rfl T.g_law_take T.F_law_take.kp T.b_law_take .nil pass0 (pa_cons (pv 0) (pa_cons pe_int pa_nil))) (fun _ _ => rfl))))
      (pss_one (ps_for PassesOwn.never rfl (pi_range1 rfl T.z_range (pa_cons pe_int pa_nil)) (pg_name (i := 5) sc_law_double.nd rfl (Or.inr rfl)) (pss_cons (ps_setLc (i := 6) (own := [("flip", 7)]) (g := gName 7) (by rfl) sc_law_double.nd rfl rfl (sw_true rfl rfl rfl (by decide +kernel)) (pi_list (pv 3)) (blkOk_by (own := [("flip", 7)]) (N := N_law_double) (sc := defScope s_law_double) (by decide +kernel)) (fun _ _ _ _ _ => pg_name (i := 7) sc_law_double.nd rfl (Or.inl rfl)) (fun _ _ _ _ _ => pts_nil) (fun _ _ _ _ _ => (pe_tup (pa_cons (pe_op op_add (pe_op op_mul pe_int (pv 2)) (pe_op op_mod (pe_callTy call_int1 (by rfl) T.z_int (by decide +kernel) (pa_cons (pe_op op_add (pv 5) (pv 7)) pa_nil)) pe_int)) (pa_cons (pe_ix (ix_listK (K := K) rfl) (pe_lst (pa_cons pe_str (pa_cons pe_str (pa_cons pe_str (pa_cons pe_str pa_nil))))) (pe_call (ok_law_take T) (hr.mono (by decide)) rfl T.g_law_take T.F_law_take.kp T.b_law_take .nil pass0 (pa_cons (pv 0) (pa_cons pe_int pa_nil))) (fun _ _ => rfl)) pa_nil)))))
      (pss_one (ps_expr (pe_bm PySem.F.plainAttrs_list PySem.F.slot_list_append PySem.F.type_list_append mt_append (pv 1) (pa_cons (pe_op op_cat (pv 6) (pe_lst (pa_cons (pe_ix ix_list (pv 4) (pv 5) (fun _ _ => rfl)) pa_nil))) pa_nil)))))))))))
      (pss_one (ps_ret (pe_lst (pa_cons pe_int (pa_cons (pv 1) (pa_cons (pe_ix ix_list (pe_lst (pa_cons (pe_lst (pa_cons pe_str (pa_cons pe_str (pa_cons pe_str (pa_cons pe_str pa_nil))))) (pa_cons (pe_lst (pa_cons pe_non (pa_cons pe_non (pa_cons pe_str (pa_cons pe_str pa_nil))))) (pa_cons (pe_lst (pa_cons pe_str (pa_cons pe_str (pa_cons pe_str (pa_cons pe_str pa_nil))))) (pa_cons (pe_lst (pa_cons pe_str (pa_cons pe_str (pa_cons pe_non (pa_cons pe_non pa_nil))))) pa_nil))))) (pe_call (ok_law_take T) (hr.mono (by decide)) rfl T.g_law_take T.F_law_take.kp T.b_law_take .nil pass0 (pa_cons (pv 0) (pa_cons pe_int pa_nil))) (fun _ _ => rfl)) pa_nil)))))))), ?_⟩
    have v0 := Vw.box hb
    try dsimp only [L2.gName, L2.tSeq, L2.tAsg, L2.tRet, L2.tNext, L2.tPar3, L2.tPar]
    refine EvF.at_ (K := K) (p := p) (G := LN 0 (RowD 3 4)) ((evF_lstA evBA_nil)) v0 hb (by omega) fun S ds H1 k1 b1 v1 g1 nS fS lb1 => ?_
    have nSp : S ≠ p := fun z => nS (by rw [z]; simp)
    try dsimp only [L2.gName, L2.tSeq, L2.tAsg, L2.tRet, L2.tNext, L2.tPar3, L2.tPar]
    refine ⟨2, rfl, by omega, by omega, for_range (lo := 0) (n := 2) (fun i σ H' => ∃ x2 x3 x4 x5 x6, σ = [some (.ref p), some (.ref S), x2, x3, x4, x5, x6, none] ∧ Vw p (woL [S, p] H') [S, p] H' ∧ Kp p H H' ∧ BoxAt H' p (c + 10 + 30 * i) ∧ ∃ es, LB K [S, p] S H' es ∧ LN (2 * i) (RowD 3 4) es)
      ⟨_, _, _, _, _, rfl, v1, k1, b1.mono (by omega), ds, lb1, g1⟩ ?_ ?_⟩
    · rintro i σ H2 hi ⟨x2, x3, x4, x5, x6, rfl, v2, k2, b2, es, lb2, g2⟩
      try dsimp only [L2.gName, L2.tSeq, L2.tAsg, L2.tRet, L2.tNext, L2.tPar3, L2.tPar]
      refine EvL.at_ (K := K) (p := p) (G := LN 2 (NumD 2)) ((evL_F (evF_lstA (evBA_cons (evB_I (evN_takeC _ rfl (by decide) (by decide))) (evBA_cons (evB_I (evN_takeC _ rfl (by decide) (by decide))) evBA_nil))))) v2 b2 (by omega) fun Fa fs H3 k3 b3 v3 g3 la3 => ?_
      have lb3 := lb2.kp v2.pin nSp k3
      try dsimp only [L2.gName, L2.tSeq, L2.tAsg, L2.tRet, L2.tNext, L2.tPar3, L2.tPar]
      refine EvB.at_ (K := K) (p := p) (G := RowD 2 4) ((evB_menuA rfl (evBA_cons (evB_rowL (evL_F (evF_lstA (evBA_cons (evB_entT (evN_lt _ (by constructor <;> omega)) (evB_wordC (by decide +kernel))) (evBA_cons (evB_entT (evN_lt _ (by constructor <;> omega)) (evB_wordC (by decide +kernel))) evBA_nil))))) (evBA_cons (evB_rowL (evL_F (evF_lstA (evBA_cons (evB_entT (evN_lt _ (by constructor <;> omega)) (evB_wordC (by decide +kernel))) (evBA_cons (evB_entT (evN_lt _ (by constructor <;> omega)) (evB_wordC (by decide +kernel))) evBA_nil))))) (evBA_cons (evB_rowL (evL_F (evF_lstA (evBA_cons (evB_entT (evN_lt _ (by constructor <;> omega)) (evB_wordC (by decide +kernel))) (evBA_cons (evB_entT (evN_lt _ (by constructor <;> omega)) (evB_wordC (by decide +kernel))) evBA_nil))))) evBA_nil))))) v3 b3 (by omega) fun o od H4 k4 b4 v4 g4 do4 => ?_
      have lb4 := lb3.kp v3.pin nSp k4
      have la4 := la3.ext (woL_kp v3.pin k4)
      try dsimp only [L2.gName, L2.tSeq, L2.tAsg, L2.tRet, L2.tNext, L2.tPar3, L2.tPar]
      refine EvB.at_ (K := K) (p := p) (G := RowD 2 4) (((evB_if (evT_eq (evN_var rfl) (evN_c _)) ((evB_var rfl (by assumption)).mono (by intro d e; subst e; assumption)) (evB_menuA rfl (evBA_cons (evB_rowL (evL_F (evF_lstA (evBA_cons evB_entN (evBA_cons evB_entN evBA_nil))))) (evBA_cons (evB_rowL (evL_F (evF_lstA (evBA_cons (evB_entT (evN_lt _ (by constructor <;> omega)) (evB_wordC (by decide +kernel))) (evBA_cons (evB_entT (evN_lt _ (by constructor <;> omega)) (evB_wordC (by decide +kernel))) evBA_nil))))) (evBA_cons (evB_rowL (evL_F (evF_lstA (evBA_cons (evB_entT (evN_lt _ (by constructor <;> omega)) (evB_wordC (by decide +kernel))) (evBA_cons (evB_entT (evN_lt _ (by constructor <;> omega)) (evB_wordC (by decide +kernel))) evBA_nil))))) evBA_nil)))))).mono fun d z => z.elim id id) v4 b4 (by omega) fun o2 od2 H5 k5 b5 v5 g5 do5 => ?_
      have lb5 := lb4.kp v4.pin nSp k5
      have la5 := la4.ext (woL_kp v4.pin k5)
      try dsimp only [L2.gName, L2.tSeq, L2.tAsg, L2.tRet, L2.tNext, L2.tPar3, L2.tPar]
      refine ⟨2, rfl, by omega, by omega, for_range (lo := 0) (n := 2) (fun j σ H' => ∃ x5 x6, σ = [some (.ref p), some (.ref S), some (.int (0 + (i : Nat))), some (.ref Fa), some o2, x5, x6, none] ∧ Vw p (woL [S, p] H') [S, p] H' ∧ Kp p H H' ∧ BoxAt H' p (c + 20 + 30 * i + 8 * j) ∧ LA K (woL [S, p] H') Fa fs ∧ Dg K (woL [S, p] H') false o2 od2 ∧ ∃ es, LB K [S, p] S H' es ∧ LN (2 * i + j) (RowD 3 4) es)
        ⟨_, _, rfl, v5, ((k2.trans k3).trans k4).trans k5, b5.mono (by omega), la5, do5, es, lb5, g2⟩ ?_ ?_⟩
      · rintro j σ H6 hj ⟨x5, x6, rfl, v6, k6, b6, la6, do6, es6, lb6, g6⟩
        try dsimp only [L2.gName, L2.tSeq, L2.tAsg, L2.tRet, L2.tNext, L2.tPar3, L2.tPar]
        refine EvL.at_ (K := K) (p := p) (G := LN 2 (EntD 4)) (evL_F ((evF_lcL (G := EntD 4) rfl la6 (by rw [g3.1]; decide) (fun _ => rfl) (k2 := 1) (fun q x d hd V1 s1 dx => by
          obtain ⟨fi, rfl, f0, f1⟩ := g3.2 d (List.mem_of_getElem? hd)
          obtain rfl := dx.int_of
          exact (evB_entT (EvN.mono (evN_opV (evN_opCV (evN_c _) (evN_var rfl) (by first | exact .inl (by decide) | (show (0 : Int) < _; omega))) (evN_opCV (evN_int (evN_opV (evN_var rfl) (evN_var rfl))) (evN_c _) (by first | exact .inl (by decide) | (show (0 : Int) < _; omega)))) (by intro x hx; (first | omega | (simp only [] at hx; omega) | (obtain ⟨i, j, h1, h2, h3⟩ := hx; subst h3; first | (constructor <;> omega) | omega) | (obtain ⟨i, j, h1, h2, h3⟩ := hx; subst h3; subst h2; exact ⟨Int.emod_nonneg _ (by omega), Int.emod_lt_of_pos _ (by omega)⟩)))) (evB_menuA rfl (evBA_cons (evB_wordC (by decide +kernel)) (evBA_cons (evB_wordC (by decide +kernel)) (evBA_cons (evB_wordC (by decide +kernel)) (evBA_cons (evB_wordC (by decide +kernel)) evBA_nil)))))))).mono fun es z => ⟨z.1.trans g3.1, z.2⟩)) v6 b6 (by rw [g3.1]; omega) fun Ra rs H7 k7 b7 v7 g7 la7 => ?_
        rw [g3.1] at b7
        have lb7 := lb6.kp v6.pin nSp k7
        have do7 := do6.ext (woL_kp v6.pin k7)
        try dsimp only [L2.gName, L2.tSeq, L2.tAsg, L2.tRet, L2.tNext, L2.tPar3, L2.tPar]
        refine app_at (G := RowD 3 4) ((evB_rowL (evL_F (evF_catN ((evL_var rfl (by assumption)).mono (by intro d e; subst e; assumption)) (evL_F (evF_lstA (evBA_cons (evB_rowI ((evB_var rfl (by assumption)).mono (by intro d e; subst e; assumption)) (evN_vlt rfl (by constructor <;> omega))) evBA_nil))) (by omega))))) v7 b7 (by omega) rfl lb7 (by simp) nSp (by rw [g6.1]; omega) fun d H8 g8 lb8 v8 b8 s8 tr fr => ?_
        exact ⟨_, _, rfl, v8, fr _ fS (k6.trans k7), b8.mono (by omega), (la6.ext (woL_kp v6.pin k7)).ext s8, do7.ext s8, _, lb8, g6.snoc g8 (by omega)⟩
      · rintro σ H6 ⟨x5, x6, rfl, v6, k6, b6, la6, do6, es6, lb6, g6⟩
        exact ⟨_, _, _, _, _, rfl, v6, k6, b6.mono (by omega), es6, lb6, g6⟩
    · rintro σ H2 ⟨x2, x3, x4, x5, x6, rfl, v2, k2, b2, es, lb2, g2⟩
      have g2 : LN 4 (RowD 3 4) es := g2
      try dsimp only [L2.gName, L2.tSeq, L2.tAsg, L2.tRet, L2.tNext, L2.tPar3, L2.tPar]
      refine ⟨_, rfl, EvB.at_ (K := K) (p := p) (G := EndsD 4) ((evB_menuA rfl (evBA_cons (evB_endsL (evL_F (evF_lstA (evBA_cons (evB_endW (evB_wordC (by decide +kernel))) (evBA_cons (evB_endW (evB_wordC (by decide +kernel))) (evBA_cons (evB_endW (evB_wordC (by decide +kernel))) (evBA_cons (evB_endW (evB_wordC (by decide +kernel))) evBA_nil))))))) (evBA_cons (evB_endsL (evL_F (evF_lstA (evBA_cons evB_endN (evBA_cons evB_endN (evBA_cons (evB_endW (evB_wordC (by decide +kernel))) (evBA_cons (evB_endW (evB_wordC (by decide +kernel))) evBA_nil))))))) (evBA_cons (evB_endsL (evL_F (evF_lstA (evBA_cons (evB_endW (evB_wordC (by decide +kernel))) (evBA_cons (evB_endW (evB_wordC (by decide +kernel))) (evBA_cons (evB_endW (evB_wordC (by decide +kernel))) (evBA_cons (evB_endW (evB_wordC (by decide +kernel))) evBA_nil))))))) (evBA_cons (evB_endsL (evL_F (evF_lstA (evBA_cons (evB_endW (evB_wordC (by decide +kernel))) (evBA_cons (evB_endW (evB_wordC (by decide +kernel))) (evBA_cons evB_endN (evBA_cons evB_endN evBA_nil))))))) evBA_nil)))))) v2 b2 (by omega) fun o od H3 k3 b3 v3 g3 do3 => ?_⟩
      obtain ⟨fs, rfl, g3⟩ := g3
      obtain ⟨Ea, ys, rfl, _⟩ := do3.lst_of
      have lb3 := lb2.kp v2.pin nSp k3
      refine ⟨(by show 3 ≤ sizeLine; decide), fun r hr0 => ?_⟩
      obtain ⟨D, hD, e1, e2⟩ := parts_ret (sg := 3) (n := 4) b3 (lb3.done nS).dg (do3.ext woL_more) g2 g3 (by omega) (by omega) (by omega) (by omega) hr0
      exact kQ r D _ ((k2.trans k3).new hr0) ((b3.new hr0).mono (by omega)) hD (by omega) (by omega)
end
end My

set_option Elab.async false
set_option linter.all false
set_option maxRecDepth 100000
set_option maxHeartbeats 8000000
namespace My
open PySem PySem.Spec PyProof.Rows L2
section
variable {P : Program} {w : World} {K : PySem.W.Frag} {mg : Str → Option Value} {base : Heap}
theorem ok_law_free (T : Txt K mg w) : FnOk P w K mg base CX0 2 T.f_law_free T.fd_law_free ["box", "sure"] (fun vs H Q _ => ∃ (p : Addr) (c : Nat) (sure : Bool), vs = [.ref p, .bl sure] ∧ BoxAt H p c ∧ c < 1000000 ∧ ∀ r D H', Kp p H H' → BoxAt H' p (c + 200) → PartsAt K p H' r D → D.sg ≤ 3 → 1 ≤ D.sg → Q (.ref r) H') := by
  refine T.F_law_free.ok sc_law_free (fun vs H Q E h => ?_) (fun cdv A outer s H vs Q E hr h => ?_)
  · obtain ⟨p, c, sure, rfl, _⟩ := h; rfl
  · obtain ⟨p, c, sure, rfl, hb, hc, kQ⟩ := h
    refine ⟨_, (pss_cons (ps_par3 (i := 2) (j := 3) (l := 4) (by rfl) sc_law_free.nd rfl rfl rfl (by decide) (by decide) (by decide) rfl rfl rfl (pa_cons (pe_op op_add pe_int (pe_call (ok_law_take T) (hr.mono (by decide)) rfl T.g_law_take T.F_law_take.kp T.b_law_take .nil pass0 (pa_cons (pv 0) (pa_cons pe_int pa_nil)))) (pa_cons (pe_op op_add pe_int (pe_call (ok_law_take T) (hr.mono (by decide)) rfl T.g_law_take T.F_law_take.kp T.b_law_take .nil pass0 (pa_cons (pv 0) (pa_cons pe_int pa_nil)))) (pa_cons (pe_lst pa_nil) pa_nil))) (by rfl))
      (pss_cons (ps_for PassesOwn.never rfl (pi_range1 rfl T.z_range (pa_cons (pv 3) pa_nil)) (pg_name (i := 5) sc_law_free.nd rfl (Or.inl rfl)) (pss_cons (ps_set (i := 6) sc_law_free.nd rfl (Or.inl rfl) (pe_lst pa_nil))
      (pss_cons (ps_for PassesOwn.never rfl (pi_range1 rfl T.z_range (pa_cons (pv 2) pa_nil)) (pg_name (i := 7) sc_law_free.nd rfl (Or.inl rfl)) (pss_cons (ps_set (i := 8) sc_law_free.nd rfl (Or.inl rfl) (pe_tup (pa_cons (pe_call (ok_law_take T) (hr.mono (by decide)) rfl T.g_law_take T.F_law_take.kp T.b_law_take .nil pass0 (pa_cons (pv 0) (pa_cons (pv 3) pa_nil))) (pa_cons (pe_ix ix_list (pe_lst (pa_cons pe_str (pa_cons pe_str (pa_cons pe_str (pa_cons pe_str (pa_cons pe_str (pa_cons pe_str (pa_cons pe_str (pa_cons pe_str pa_nil))))))))) (pe_call (ok_law_take T) (hr.mono (by decide)) rfl T.g_law_take T.F_law_take.kp T.b_law_take .nil pass0 (pa_cons (pv 0) (pa_cons pe_int pa_nil))) (fun _ _ => rfl)) pa_nil))))
      (pss_one (ps_expr (pe_bm PySem.F.plainAttrs_list PySem.F.slot_list_append PySem.F.type_list_append mt_append (pv 6) (pa_cons (pe_ifExp (PW.pt (pw_and (pt_cmpR op_eq (pe_call (ok_law_take T) (hr.mono (by decide)) rfl T.g_law_take T.F_law_take.kp T.b_law_take .nil pass0 (pa_cons (pv 0) (pa_cons pe_int pa_nil))) pe_int (nomark _)) (pw_and1 (pt_not (pt_val (pv 1)))))) pe_non (pv 8)) pa_nil))))))
      (pss_one (ps_expr (pe_bm PySem.F.plainAttrs_list PySem.F.slot_list_append PySem.F.type_list_append mt_append (pv 4) (pa_cons (pv 6) pa_nil)))))))
      (pss_cons (ps_set (i := 9) sc_law_free.nd rfl (Or.inr rfl) (pe_ifExp (pt_val (pv 1)) (pe_lst (pa_cons pe_str (pa_cons pe_str (pa_cons pe_str pa_nil)))) (pe_lst (pa_cons pe_str (pa_cons pe_non (pa_cons pe_str (pa_cons pe_str pa_nil)))))))
      (pss_one (ps_ret (pe_lst (pa_cons (pv 2) (pa_cons (pv 4) (pa_cons (pe_lc (own := [("state", 5)]) (g := gName 5) (by rfl) sc_law_free.nd (pi_range1 rfl T.z_range (pa_cons (pv 3) pa_nil)) (blkOk_by (own := [("state", 5)]) (N := N_law_free) (sc := defScope s_law_free) (by decide +kernel)) (fun _ _ _ _ _ => pg_name (i := 5) sc_law_free.nd rfl (Or.inl rfl)) (fun _ _ _ _ _ => pts_nil) (fun _ _ _ _ _ => (pe_ix (ix_listK (K := K) rfl) (pv 9) (pe_call (ok_law_take T) (hr.mono (by decide)) rfl T.g_law_take T.F_law_take.kp T.b_law_take .nil pass0 (pa_cons (pv 0) (pa_cons (pe_callB (call_len_seqK (K := K) rfl) (by rfl) T.z_len (by decide +kernel) (pa_cons (pv 9) pa_nil)) pa_nil))) (fun _ _ => rfl)))) pa_nil))))))))), ?_⟩
    have v0 := Vw.box hb
    try dsimp only [L2.gName, L2.tSeq, L2.tAsg, L2.tRet, L2.tNext, L2.tPar3, L2.tPar]
    refine cons_at (EvN.at_ ((evN_op (evN_c _) (evN_takeC _ rfl (by decide) (by decide)))) v0 hb (by omega) fun sg H1 k1 b1 v1 g1 => cons_at (EvN.at_ ((evN_op (evN_c _) (evN_takeC _ rfl (by decide) (by decide)))) v1 b1 (by omega) fun st H2 k2 b2 v2 g2 => cons_at (EvF.at_ (K := K) (p := p) (G := LN 0 (RowD sg.toNat st.toNat)) ((evF_lstA evBA_nil)) v2 b2 (by omega) fun S ds H3 k3 b3 v3 g3 nS fS lb3 => ⟨_, _, _, rfl, ?_⟩)))
    obtain ⟨sg, rfl, sg1, sg3⟩ : ∃ n : Nat, sg = n ∧ 1 ≤ n ∧ n ≤ 2 := by
      obtain ⟨i, j, rfl, h, rfl⟩ := g1
      exact ⟨(1 + j).toNat, by omega, by omega, by omega⟩
    obtain ⟨st, rfl, st1, st3⟩ : ∃ n : Nat, st = n ∧ 1 ≤ n ∧ n ≤ 3 := by
      obtain ⟨i, j, rfl, h, rfl⟩ := g2
      exact ⟨(1 + j).toNat, by omega, by omega, by omega⟩
    rw [Int.toNat_natCast, Int.toNat_natCast] at g3
    have nSp : S ≠ p := fun z => nS (by rw [z]; simp)
    have fS : H S = none := kp_none (k1.trans k2) nSp fS
    have k3' := (k1.trans k2).trans k3
    try dsimp only [L2.gName, L2.tSeq, L2.tAsg, L2.tRet, L2.tNext, L2.tPar3, L2.tPar]
    refine ⟨_, rfl, (st : Int), rfl, by omega, by omega, ?_⟩
    rw [Int.toNat_natCast]
    refine for_range (lo := 0) (n := st) (fun i σ H' => ∃ x5 x6 x7 x8, σ = [some (.ref p), some (.bl sure), some (.int (sg : Nat)), some (.int (st : Nat)), some (.ref S), x5, x6, x7, x8, none] ∧ Vw p (woL [S, p] H') [S, p] H' ∧ Kp p H H' ∧ BoxAt H' p (c + 10 + 10 * i) ∧ ∃ es, LB K [S, p] S H' es ∧ LN i (RowD sg st) es)
      ⟨_, _, _, _, rfl, v3, k3', b3.mono (by omega), ds, lb3, g3⟩ ?_ ?_
    · rintro i σ H4 hi ⟨x5, x6, x7, x8, rfl, v4, k4, b4, es, lb4, g4⟩
      try dsimp only [L2.gName, L2.tSeq, L2.tAsg, L2.tRet, L2.tNext, L2.tPar3, L2.tPar]
      refine EvF.at_ (K := K) (p := p) (G := LN 0 (EntD st)) ((evF_lstA evBA_nil)) v4 b4 (by omega) fun R ds5 H5 k5 b5 v5 g5 nR fR lb5 => ?_
      have nRp : R ≠ p := fun z => nR (by rw [z]; simp)
      have nRS : R ≠ S := fun z => nR (by rw [z]; simp)
      have fRH : H R = none := kp_none k4 nRp fR
      try dsimp only [L2.gName, L2.tSeq, L2.tAsg, L2.tRet, L2.tNext, L2.tPar3, L2.tPar]
      refine ⟨_, rfl, (sg : Int), rfl, by omega, by omega, ?_⟩
      rw [Int.toNat_natCast]
      refine for_range (lo := 0) (n := sg) (fun j σ H' => ∃ x5 x7 x8, σ = [some (.ref p), some (.bl sure), some (.int (sg : Nat)), some (.int (st : Nat)), some (.ref S), x5, some (.ref R), x7, x8, none] ∧ Vw p (woL [R, S, p] H') [R, S, p] H' ∧ Kp p H H' ∧ BoxAt H' p (c + 10 + 10 * i + 4 * j) ∧ LB K [R, S, p] S H' es ∧ ∃ fs, LB K [R, S, p] R H' fs ∧ LN j (EntD st) fs)
        ⟨_, _, _, rfl, v5, k4.trans k5, b5.mono (by omega), ?_, ds5, lb5, g5⟩ ?_ ?_
      · exact lb4.fresh v4.pin nSp k5 fR
      · rintro j σ H6 hj ⟨x5, x7, x8, rfl, v6, k6, b6, lbS, fs, lbR, g6⟩
        try dsimp only [L2.gName, L2.tSeq, L2.tAsg, L2.tRet, L2.tNext, L2.tPar3, L2.tPar]
        refine EvB.at_ (K := K) (p := p) (G := EntD st) ((evB_entT (EvN.mono (evN_take rfl (evN_var rfl) (by omega) (by omega)) (by intro x hx; (first | omega | (simp only [] at hx; omega) | (obtain ⟨i, j, h1, h2, h3⟩ := hx; subst h3; first | (constructor <;> omega) | omega) | (obtain ⟨i, j, h1, h2, h3⟩ := hx; subst h3; subst h2; exact ⟨Int.emod_nonneg _ (by omega), Int.emod_lt_of_pos _ (by omega)⟩)))) (evB_menuA rfl (evBA_cons (evB_wordC (by decide +kernel)) (evBA_cons (evB_wordC (by decide +kernel)) (evBA_cons (evB_wordC (by decide +kernel)) (evBA_cons (evB_wordC (by decide +kernel)) (evBA_cons (evB_wordC (by decide +kernel)) (evBA_cons (evB_wordC (by decide +kernel)) (evBA_cons (evB_wordC (by decide +kernel)) (evBA_cons (evB_wordC (by decide +kernel)) evBA_nil))))))))))) v6 b6 (by omega) fun o od H7 k7 b7 v7 g7 do7 => ?_
        have lbS7 := lbS.kp v6.pin nSp k7
        have lbR7 := lbR.kp v6.pin nRp k7
        try dsimp only [L2.gName, L2.tSeq, L2.tAsg, L2.tRet, L2.tNext, L2.tPar3, L2.tPar]
        refine app_at (G := EntD st) (((evB_if (evT_and (evT_eq (evN_takeC _ rfl (by decide) (by decide)) (evN_c _)) (evT_not (evT_bl rfl))) evB_entN ((evB_var rfl (by assumption)).mono (by intro d e; subst e; assumption)))).mono fun d z => z.elim id id) v7 b7 (by omega) rfl lbR7 (by simp) nRp (by rw [g6.1]; omega) fun d H8 g8 lb8 v8 b8 s8 tr fr => ?_
        exact ⟨_, _, _, rfl, v8, fr _ fRH (k6.trans k7), b8.mono (by omega), tr _ _ nSp nRS.symm lbS7, _, lb8, g6.snoc g8 rfl⟩
      · rintro σ H6 ⟨x5, x7, x8, rfl, v6, k6, b6, lbS, fs, lbR, g6⟩
        try dsimp only [L2.gName, L2.tSeq, L2.tAsg, L2.tRet, L2.tNext, L2.tPar3, L2.tPar]
        have laR := (lbR.done nR).dg
        have rR := rowD_of g6
        have v6' := (v6.drop (by simp)).here
        refine app_at (G := RowD sg st) (((evB_var rfl (by assumption)).mono (by intro d e; subst e; assumption))) v6' b6 (by omega) rfl lbS.less (by simp) nSp (by rw [g4.1]; omega) fun d H8 g8 lb8 v8 b8 s8 tr fr => ?_
        exact ⟨_, _, _, _, rfl, v8, fr _ fS k6, b8.mono (by omega), _, lb8, g4.snoc g8 rfl⟩
    · rintro σ H4 ⟨x5, x6, x7, x8, rfl, v4, k4, b4, es, lb4, g4⟩
      try dsimp only [L2.gName, L2.tSeq, L2.tAsg, L2.tRet, L2.tNext, L2.tPar3, L2.tPar]
      refine EvB.at_ (K := K) (p := p) (G := fun d => EndsD 3 d ∨ EndsD 4 d) ((evB_if (evT_bl rfl) (evB_endsL (evL_F (evF_lstA (evBA_cons (evB_endW (evB_wordC (by decide +kernel))) (evBA_cons (evB_endW (evB_wordC (by decide +kernel))) (evBA_cons (evB_endW (evB_wordC (by decide +kernel))) evBA_nil)))))) (evB_endsL (evL_F (evF_lstA (evBA_cons (evB_endW (evB_wordC (by decide +kernel))) (evBA_cons evB_endN (evBA_cons (evB_endW (evB_wordC (by decide +kernel))) (evBA_cons (evB_endW (evB_wordC (by decide +kernel))) evBA_nil))))))))) v4 b4 (by omega) fun o od H5 k5 b5 v5 g5 do5 => ?_
      have lb5 := lb4.kp v4.pin nSp k5
      obtain ⟨fs, m, rfl, g5, m1, m4⟩ : ∃ fs m, od = .list fs ∧ LN m EndD fs ∧ 1 ≤ m ∧ m ≤ 4 := by
        rcases g5 with ⟨fs, e, g⟩ | ⟨fs, e, g⟩
        · exact ⟨fs, 3, e, g, by omega, by omega⟩
        · exact ⟨fs, 4, e, g, by omega, by omega⟩
      try dsimp only [L2.gName, L2.tSeq, L2.tAsg, L2.tRet, L2.tNext, L2.tPar3, L2.tPar]
      refine cons_at ⟨_, rfl, cons_at ⟨_, rfl, cons_at (EvF.at_ (K := K) (p := p) (G := LN st EndD) (evF_lcA (k2 := 1) (evN_var rfl) (by omega) (fun _ => rfl) (fun j hj V1 s1 => (evB_ixD (evB_var rfl (do5.ext s1)) (evN_take rfl (evN_len rfl (do5.ext s1)) (by rw [g5.1]; omega) (by rw [g5.1]; omega)) (fun d i hd hi => ⟨fs, hd, hi.1, by have := hi.2; omega⟩)).mono (fun d ⟨a, i, e, hi, z⟩ => by injection e with e; subst e; exact g5.2 d (List.mem_of_getElem? z)))) v5 b5 (by omega) fun Ea en H6 k6 b6 v6 g6 nE fE lb6 => ?_)⟩⟩
      have laE := lb6.done nE
      have lbS := lb5.kp v5.pin nSp k6
      refine ⟨(by show 3 ≤ sizeLine; decide), fun r hr0 => ?_⟩
      obtain ⟨D, hD, e1, e2⟩ := parts_ret b6 (lbS.done nS).dg (laE.ext woL_more).dg g4 g6 (by omega) (by omega) (by omega) (by omega) hr0
      exact kQ r D _ (((k4.trans k5).trans k6).new hr0) ((b6.new hr0).mono (by omega)) hD (by omega) (by omega)
end
end My

set_option Elab.async false
set_option linter.all false
set_option maxRecDepth 100000
set_option maxHeartbeats 8000000
namespace My
open PySem PySem.Spec PyProof.Rows L2
section
variable {P : Program} {w : World} {K : PySem.W.Frag} {mg : Str → Option Value} {base : Heap}
theorem ok_law_blocks (T : Txt K mg w) : FnOk P w K mg base CX0 2 T.f_law_blocks T.fd_law_blocks ["box"] (spPl K 2) := by
  refine T.F_law_blocks.ok sc_law_blocks (fun vs H Q E h => ?_) (fun cdv A outer s H vs Q E hr h => ?_)
  · obtain ⟨p, c, rfl, _⟩ := h; rfl
  · obtain ⟨p, c, rfl, hb, hc, kQ⟩ := h
    refine ⟨_, (pss_cons (ps_par3 (i := 1) (j := 2) (l := 3) (by rfl) sc_law_blocks.nd rfl rfl rfl (by decide) (by decide) (by decide) rfl rfl rfl (pa_cons (pe_op op_add pe_int (pe_call (ok_law_take T) (hr.mono (by decide)) rfl T.g_law_take T.F_law_take.kp T.b_law_take .nil pass0 (pa_cons (pv 0) (pa_cons pe_int pa_nil)))) (pa_cons (pe_op op_add pe_int (pe_call (ok_law_take T) (hr.mono (by decide)) rfl T.g_law_take T.F_law_take.kp T.b_law_take .nil pass0 (pa_cons (pv 0) (pa_cons pe_int pa_nil)))) (pa_cons (pe_lst pa_nil) pa_nil))) (by rfl))
      (pss_cons (ps_setLc (i := 4) (own := [("sign", 5)]) (g := gName 5) (by rfl) sc_law_blocks.nd rfl rfl (sw_true rfl rfl rfl (by decide +kernel)) (pi_range1 rfl T.z_range (pa_cons (pv 2) pa_nil)) (blkOk_by (own := [("sign", 5)]) (N := N_law_blocks) (sc := defScope s_law_blocks) (by decide +kernel)) (fun _ _ _ _ _ => pg_name (i := 5) sc_law_blocks.nd rfl (Or.inl rfl)) (fun _ _ _ _ _ => pts_nil) (fun _ _ _ _ _ => (pe_ix (ix_listK (K := K) rfl) (pe_lst (pa_cons pe_int (pa_cons pe_int (pa_cons pe_int (pa_cons pe_int (pa_cons pe_int pa_nil)))))) (pe_call (ok_law_take T) (hr.mono (by decide)) rfl T.g_law_take T.F_law_take.kp T.b_law_take .nil pass0 (pa_cons (pv 0) (pa_cons pe_int pa_nil))) (fun _ _ => rfl))))
      (pss_cons (ps_setLc (i := 6) (own := [("sign", 5)]) (g := gName 5) (by rfl) sc_law_blocks.nd rfl rfl (sw_true rfl rfl rfl (by decide +kernel)) (pi_range1 rfl T.z_range (pa_cons (pv 2) pa_nil)) (blkOk_by (own := [("sign", 5)]) (N := N_law_blocks) (sc := defScope s_law_blocks) (by decide +kernel)) (fun _ _ _ _ _ => pg_name (i := 5) sc_law_blocks.nd rfl (Or.inl rfl)) (fun _ _ _ _ _ => pts_nil) (fun _ _ _ _ _ => (pe_cmpR op_eq (pe_call (ok_law_take T) (hr.mono (by decide)) rfl T.g_law_take T.F_law_take.kp T.b_law_take .nil pass0 (pa_cons (pv 0) (pa_cons pe_int pa_nil))) pe_int (nomark _))))
      (pss_cons (ps_for PassesOwn.never rfl (pi_range1 rfl T.z_range (pa_cons (pv 1) pa_nil)) (pg_name (i := 7) sc_law_blocks.nd rfl (Or.inl rfl)) (pss_cons (ps_set (i := 8) sc_law_blocks.nd rfl (Or.inl rfl) (pe_lst pa_nil))
      (pss_cons (ps_for PassesOwn.never rfl (pi_range1 rfl T.z_range (pa_cons (pv 2) pa_nil)) (pg_name (i := 5) sc_law_blocks.nd rfl (Or.inl rfl)) (pss_cons (ps_set (i := 9) sc_law_blocks.nd rfl (Or.inl rfl) (pe_ix ix_list (pe_lst (pa_cons pe_str (pa_cons pe_str (pa_cons pe_str (pa_cons pe_str (pa_cons pe_str pa_nil)))))) (pe_call (ok_law_take T) (hr.mono (by decide)) rfl T.g_law_take T.F_law_take.kp T.b_law_take .nil pass0 (pa_cons (pv 0) (pa_cons pe_int pa_nil))) (fun _ _ => rfl)))
      (pss_one (ps_expr (pe_bm PySem.F.plainAttrs_list PySem.F.slot_list_append PySem.F.type_list_append mt_append (pv 8) (pa_cons (pe_ifExp (PW.pt (pw_and (pt_val (pe_ix ix_list (pv 6) (pv 5) (fun _ _ => rfl))) (pw_and1 (pt_cmpR op_eq (pv 7) pe_int (nomark _))))) pe_non (pe_tup (pa_cons (pe_op op_mod (pe_callTy call_int1 (by rfl) T.z_int (by decide +kernel) (pa_cons (pe_op op_add (pv 7) (pe_ix ix_list (pv 4) (pv 5) (fun _ _ => rfl))) pa_nil)) (pv 1)) (pa_cons (pv 9) pa_nil)))) pa_nil))))))
      (pss_one (ps_expr (pe_bm PySem.F.plainAttrs_list PySem.F.slot_list_append PySem.F.type_list_append mt_append (pv 3) (pa_cons (pv 8) pa_nil)))))))
      (pss_cons (ps_set (i := 10) sc_law_blocks.nd rfl (Or.inl rfl) (pe_ix ix_list (pe_lst (pa_cons (pe_lst (pa_cons pe_str (pa_cons pe_str pa_nil))) (pa_cons (pe_lst (pa_cons pe_str (pa_cons pe_non pa_nil))) (pa_cons (pe_lst (pa_cons pe_non (pa_cons pe_str pa_nil))) (pa_cons (pe_lst (pa_cons pe_str (pa_cons pe_str pa_nil))) pa_nil))))) (pe_call (ok_law_take T) (hr.mono (by decide)) rfl T.g_law_take T.F_law_take.kp T.b_law_take .nil pass0 (pa_cons (pv 0) (pa_cons pe_int pa_nil))) (fun _ _ => rfl)))
      (pss_one (ps_ret (pe_lst (pa_cons (pv 2) (pa_cons (pv 3) (pa_cons (pe_op op_cat (pv 10) (pe_op op_rep (pe_lst (pa_cons (pe_ix ix_list (pe_lst (pa_cons (pe_ix ix_list (pv 10) pe_int (fun _ _ => rfl)) (pa_cons pe_non (pa_cons pe_str pa_nil)))) (pe_call (ok_law_take T) (hr.mono (by decide)) rfl T.g_law_take T.F_law_take.kp T.b_law_take .nil pass0 (pa_cons (pv 0) (pa_cons pe_int pa_nil))) (fun _ _ => rfl)) pa_nil)) (pe_op op_sub (pv 1) pe_int))) pa_nil))))))))))), ?_⟩
    have v0 := Vw.box hb
    try dsimp only [L2.gName, L2.tSeq, L2.tAsg, L2.tRet, L2.tNext, L2.tPar3, L2.tPar]
    refine cons_at (EvN.at_ ((evN_op (evN_c _) (evN_takeC _ rfl (by decide) (by decide)))) v0 hb (by omega) fun st H1 k1 b1 v1 g1 => cons_at (EvN.at_ ((evN_op (evN_c _) (evN_takeC _ rfl (by decide) (by decide)))) v1 b1 (by omega) fun sg H2 k2 b2 v2 g2 => cons_at (EvF.at_ (K := K) (p := p) (G := LN 0 (RowD sg.toNat st.toNat)) ((evF_lstA evBA_nil)) v2 b2 (by omega) fun S ds H3 k3 b3 v3 g3 nS fS lb3 => ⟨_, _, _, rfl, ?_⟩)))
    obtain ⟨sg, rfl, sg1, sg3⟩ : ∃ n : Nat, sg = n ∧ 2 ≤ n ∧ n ≤ 3 := by
      obtain ⟨i, j, rfl, h, rfl⟩ := g2
      exact ⟨(2 + j).toNat, by omega, by omega, by omega⟩
    obtain ⟨st, rfl, st1, st3⟩ : ∃ n : Nat, st = n ∧ 2 ≤ n ∧ n ≤ 3 := by
      obtain ⟨i, j, rfl, h, rfl⟩ := g1
      exact ⟨(2 + j).toNat, by omega, by omega, by omega⟩
    rw [Int.toNat_natCast, Int.toNat_natCast] at g3
    have nSp : S ≠ p := fun z => nS (by rw [z]; simp)
    have fS : H S = none := kp_none (k1.trans k2) nSp fS
    have k3' := (k1.trans k2).trans k3
    try dsimp only [L2.gName, L2.tSeq, L2.tAsg, L2.tRet, L2.tNext, L2.tPar3, L2.tPar]
    refine EvL.at_ (K := K) (p := p) (G := LN sg (NumD 3)) ((evL_F (evF_lcA (evN_var rfl) (by omega) (fun _ => rfl) (fun j hj V1 s1 => (evB_menuA rfl (evBA_cons (evB_I ((evN_c _).mono (by intro x hx; subst hx; constructor <;> omega))) (evBA_cons (evB_I ((evN_c _).mono (by intro x hx; subst hx; constructor <;> omega))) (evBA_cons (evB_I ((evN_c _).mono (by intro x hx; subst hx; constructor <;> omega))) (evBA_cons (evB_I ((evN_c _).mono (by intro x hx; subst hx; constructor <;> omega))) (evBA_cons (evB_I ((evN_c _).mono (by intro x hx; subst hx; constructor <;> omega))) evBA_nil)))))))))) v3 b3 (by omega) fun Ma ms H4 k4 b4 v4 g4 la4 => ?_
    have lb4 := lb3.kp v3.pin nSp k4
    try dsimp only [L2.gName, L2.tSeq, L2.tAsg, L2.tRet, L2.tNext, L2.tPar3, L2.tPar]
    refine EvL.at_ (K := K) (p := p) (G := LN sg BoolD) ((evL_F (evF_lcA (evN_var rfl) (by omega) (fun _ => rfl) (fun j hj V1 s1 => (evB_eq (evN_takeC _ rfl (by decide) (by decide)) (evN_c _)))))) v4 b4 (by omega) fun Ba bs H5 k5 b5 v5 g5 la5 => ?_
    have lb5 := lb4.kp v4.pin nSp k5
    have la45 := la4.ext (woL_kp v4.pin k5)
    have k5' := (k3'.trans k4).trans k5
    try dsimp only [L2.gName, L2.tSeq, L2.tAsg, L2.tRet, L2.tNext, L2.tPar3, L2.tPar]
    refine ⟨_, rfl, (st : Int), rfl, by omega, by omega, ?_⟩
    rw [Int.toNat_natCast]
    refine for_range (lo := 0) (n := st) (fun i σ H' => ∃ x5 x7 x8 x9, σ = [some (.ref p), some (.int (st : Nat)), some (.int (sg : Nat)), some (.ref S), some (.ref Ma), x5, some (.ref Ba), x7, x8, x9, none] ∧ Vw p (woL [S, p] H') [S, p] H' ∧ Kp p H H' ∧ BoxAt H' p (c + 20 + 10 * i) ∧ LA K (woL [S, p] H') Ma ms ∧ LA K (woL [S, p] H') Ba bs ∧ ∃ es, LB K [S, p] S H' es ∧ LN i (RowD sg st) es)
      ⟨_, _, _, _, rfl, v5, k5', b5.mono (by have := Nat.mul_le_mul_left (0 + (0 + 0) + (0 + (0 + 0) + (0 + (0 + 0) + (0 + (0 + 0) + (0 + (0 + 0) + 0)))) + 1) sg3; omega), la45, la5, ds, lb5, g3⟩ ?_ ?_
    · rintro i σ H6 hi ⟨x5, x7, x8, x9, rfl, v6, k6, b6, laM, laB, es, lb6, g6⟩
      try dsimp only [L2.gName, L2.tSeq, L2.tAsg, L2.tRet, L2.tNext, L2.tPar3, L2.tPar]
      refine EvF.at_ (K := K) (p := p) (G := LN 0 (EntD st)) ((evF_lstA evBA_nil)) v6 b6 (by omega) fun R ds7 H7 k7 b7 v7 g7 nR fR lb7 => ?_
      have nRp : R ≠ p := fun z => nR (by rw [z]; simp)
      have nRS : R ≠ S := fun z => nR (by rw [z]; simp)
      have fRH : H R = none := kp_none k6 nRp fR
      have sm7 := woL_fresh v6.pin k7 fR
      try dsimp only [L2.gName, L2.tSeq, L2.tAsg, L2.tRet, L2.tNext, L2.tPar3, L2.tPar]
      refine ⟨_, rfl, (sg : Int), rfl, by omega, by omega, ?_⟩
      rw [Int.toNat_natCast]
      refine for_range (lo := 0) (n := sg) (fun j σ H' => ∃ x5 x9, σ = [some (.ref p), some (.int (st : Nat)), some (.int (sg : Nat)), some (.ref S), some (.ref Ma), x5, some (.ref Ba), some (.int (0 + (i : Nat))), some (.ref R), x9, none] ∧ Vw p (woL [R, S, p] H') [R, S, p] H' ∧ Kp p H H' ∧ BoxAt H' p (c + 20 + 10 * i + 3 * j) ∧ LA K (woL [R, S, p] H') Ma ms ∧ LA K (woL [R, S, p] H') Ba bs ∧ LB K [R, S, p] S H' es ∧ ∃ fs, LB K [R, S, p] R H' fs ∧ LN j (EntD st) fs)
        ⟨_, _, rfl, v7, k6.trans k7, b7.mono (by omega), laM.ext sm7, laB.ext sm7, lb6.fresh v6.pin nSp k7 fR, ds7, lb7, g7⟩ ?_ ?_
      · rintro j σ H8 hj ⟨x5, x9, rfl, v8, k8, b8, laM8, laB8, lbS, fs, lbR, g8⟩
        try dsimp only [L2.gName, L2.tSeq, L2.tAsg, L2.tRet, L2.tNext, L2.tPar3, L2.tPar]
        refine EvB.at_ (K := K) (p := p) (G := WordD) ((evB_menuA rfl (evBA_cons (evB_wordC (by decide +kernel)) (evBA_cons (evB_wordC (by decide +kernel)) (evBA_cons (evB_wordC (by decide +kernel)) (evBA_cons (evB_wordC (by decide +kernel)) (evBA_cons (evB_wordC (by decide +kernel)) evBA_nil))))))) v8 b8 (by omega) fun o od H9 k9 b9 v9 g9 do9 => ?_
        have lbS9 := lbS.kp v8.pin nSp k9
        have lbR9 := lbR.kp v8.pin nRp k9
        have laM9 := laM8.ext (woL_kp v8.pin k9)
        have laB9 := laB8.ext (woL_kp v8.pin k9)
        have dM := laM9.dg
        have dB := laB9.dg
        try dsimp only [L2.gName, L2.tSeq, L2.tAsg, L2.tRet, L2.tNext, L2.tPar3, L2.tPar]
        refine app_at (G := EntD st) (((evB_if (evT_and (evT_B (evB_ixLN rfl (by assumption) (by assumption) rfl (by constructor <;> omega))) (evT_eq (evN_var rfl) (evN_c _))) evB_entN (evB_entT (EvN.mono (evN_opC (evN_int (evN_op (evN_var rfl) (evN_num (evB_ixLN rfl (by assumption) (by assumption) rfl (by constructor <;> omega))))) (evN_var rfl) (by intro i j hi hj; first | (subst hi; subst hj; exact .inl (by omega)) | (subst hj; exact .inl (by omega)) | (subst hj; show (0 : Int) < _; omega))) (by intro x hx; (first | omega | (simp only [] at hx; omega) | (obtain ⟨i, j, h1, h2, h3⟩ := hx; subst h3; first | (constructor <;> omega) | omega) | (obtain ⟨i, j, h1, h2, h3⟩ := hx; subst h3; subst h2; exact ⟨Int.emod_nonneg _ (by omega), Int.emod_lt_of_pos _ (by omega)⟩)))) ((evB_var rfl (by assumption)).mono (by intro d e; subst e; assumption))))).mono fun d z => z.elim id id) v9 b9 (by omega) rfl lbR9 (by simp) nRp (by rw [g8.1]; omega) fun d HA gA lbA vA bA sA tr fr => ?_
        exact ⟨_, _, rfl, vA, fr _ fRH (k8.trans k9), bA.mono (by omega), laM9.ext sA, laB9.ext sA, tr _ _ nSp nRS.symm lbS9, _, lbA, g8.snoc gA rfl⟩
      · rintro σ H8 ⟨x5, x9, rfl, v8, k8, b8, laM8, laB8, lbS, fs, lbR, g8⟩
        try dsimp only [L2.gName, L2.tSeq, L2.tAsg, L2.tRet, L2.tNext, L2.tPar3, L2.tPar]
        have laR := (lbR.done nR).dg
        have rR := rowD_of g8
        have v8' := (v8.drop (by simp)).here
        refine app_at (G := RowD sg st) (((evB_var rfl (by assumption)).mono (by intro d e; subst e; assumption))) v8' b8 (by omega) rfl lbS.less (by simp) nSp (by rw [g6.1]; omega) fun d HA gA lbA vA bA sA tr fr => ?_
        exact ⟨_, _, _, _, rfl, vA, fr _ fS k8, bA.mono (by omega), (laM8.ext woL_more).ext sA, (laB8.ext woL_more).ext sA, _, lbA, g6.snoc gA rfl⟩
    · rintro σ H6 ⟨x5, x7, x8, x9, rfl, v6, k6, b6, laM, laB, es, lb6, g6⟩
      try dsimp only [L2.gName, L2.tSeq, L2.tAsg, L2.tRet, L2.tNext, L2.tPar3, L2.tPar]
      refine EvL.at_ (K := K) (p := p) (G := LN 2 EndD) ((evL_menu rfl (evLs_cons (evL_F (evF_lstA (evBA_cons (evB_endW (evB_wordC (by decide +kernel))) (evBA_cons (evB_endW (evB_wordC (by decide +kernel))) evBA_nil)))) (evLs_cons (evL_F (evF_lstA (evBA_cons (evB_endW (evB_wordC (by decide +kernel))) (evBA_cons evB_endN evBA_nil)))) (evLs_cons (evL_F (evF_lstA (evBA_cons evB_endN (evBA_cons (evB_endW (evB_wordC (by decide +kernel))) evBA_nil)))) (evLs_cons (evL_F (evF_lstA (evBA_cons (evB_endW (evB_wordC (by decide +kernel))) (evBA_cons (evB_endW (evB_wordC (by decide +kernel))) evBA_nil)))) evLs_nil)))))) v6 b6 (by omega) fun Ea fs H7 k7 b7 v7 g7 la7 => ?_
      have lb7 := lb6.kp v6.pin nSp k7
      have dE := la7.dg
      try dsimp only [L2.gName, L2.tSeq, L2.tAsg, L2.tRet, L2.tNext, L2.tPar3, L2.tPar]
      refine cons_at ⟨_, rfl, cons_at ⟨_, rfl, cons_at (EvF.at_ (K := K) (p := p) (G := LN st EndD) (evF_catN (n1 := 2) ((evL_var rfl la7).mono (by intro d e; subst e; exact g7)) (evL_F (evF_repA (n1 := 1) (n2 := st - 2) ((evL_F (evF_lstA (evBA_cons (evB_menuA rfl (evBA_cons (evB_ixLC rfl (by assumption) (by assumption) (by constructor <;> omega)) (evBA_cons evB_endN (evBA_cons (evB_endW (evB_wordC (by decide +kernel))) evBA_nil)))) evBA_nil)))) ((evN_opV (evN_var rfl) (evN_c _)).mono (by intro x hx; omega)) (by omega) (by omega))) (by omega)) v7 b7 (by omega) fun En en H8 k8 b8 v8 g8 nE fE lb8 => ?_)⟩⟩
      have laE := lb8.done nE
      have lbS := lb7.kp v7.pin nSp k8
      refine ⟨(by show 3 ≤ sizeLine; decide), fun r hr0 => ?_⟩
      obtain ⟨D, hD, e1, e2⟩ := parts_ret b8 (lbS.done nS).dg (laE.ext woL_more).dg g6 g8 (by omega) (by omega) (by omega) (by omega) hr0
      exact kQ r D _ (((k6.trans k7).trans k8).new hr0) ((b8.new hr0).mono (by omega)) hD (by omega) (by omega)
end
end My

set_option Elab.async false
set_option linter.all false
set_option maxRecDepth 100000
set_option maxHeartbeats 8000000
namespace My
open PySem PySem.Spec PyProof.Rows L2
/-- a kind, in the heap -/
def KnG (n : Nat) (U : Hp) (x : V) : Prop := ∃ m, MvAt U x m ∧ okK n m
theorem KnG.ext {n : Nat} {U U' : Hp} {x : V} (s : Same U U') (h : KnG n U x) : KnG n U' x := by
  obtain ⟨m, h1, h2⟩ := h; exact ⟨m, h1.ext s, h2⟩
/-- kinds do not stand at lists -/
theorem KnG.wo {n : Nat} {U : Hp} {x : V} {D : Addr} {l : List V} (h : KnG n U x) (e : U D = some (.lst l)) : KnG n (wo U D) x := by
  obtain ⟨m, ⟨b, eb, hb⟩, h2⟩ := h
  have nb : b ≠ D := fun z => by rw [z, e] at hb; cases hb
  exact ⟨m, ⟨b, eb, by rw [wo_ne nb]; exact hb⟩, h2⟩
theorem kns_of {n : Nat} {U : Hp} : ∀ {xs : List V}, (∀ x ∈ xs, KnG n U x) → ∃ ks, Paired (MvAt U) xs ks ∧ ks.length = xs.length ∧ ∀ k ∈ ks, okK n k
  | [], _ => ⟨[], .nil, rfl, fun k h => by cases h⟩
  | x :: xs, h => by
    obtain ⟨ks, h1, h2, h3⟩ := kns_of fun y hy => h y (List.mem_cons_of_mem _ hy)
    obtain ⟨m, m1, m2⟩ := h x List.mem_cons_self
    refine ⟨m :: ks, .cons m1 h1, by rw [List.length_cons, List.length_cons, h2], fun k hk => ?_⟩
    rcases List.mem_cons.mp hk with z | z
    · rw [z]; exact m2
    · exact h3 k z
theorem lc_range_G {G : Hp → V → Prop} (mono : ∀ {U U' x}, Same U U' → G U x → G U' x) {lo : Int} {n : Nat} {g : TG} {tt : TT} {te : TE} {vs : List Nat} {σ : L2.St} {H1 : Hp} {D : Addr} {Qd : Hp → Prop} (full : Bool) (hD : H1 D = none) (hn : n ≤ 100000)
    (step : ∀ j H' (R : VK) (N : Hp → Prop), j < n → Same H1 H' → (∃ l, H' D = some (.lst l)) → (∀ y H4, Same H' H4 → G (wo H4 D) y → R y H4) → (full = false → N H') → g (.int (lo + j)) (wipe σ vs) H' fun σ2 H2 => wipe σ2 vs = wipe σ vs ∧ tt σ2 H2 fun b H3 => if b = true then te σ2 H3 R else N H3)
    (done : ∀ H' xs, Same H1 H' → H' D = some (.lst xs) → xs.length ≤ n → (full = true → xs.length = n) → (∀ x ∈ xs, G H' x) → Qd H') :
    ∃ W : Nat → Nat → Hp → Prop, (∃ m, W 0 m (L2.upd H1 D (.lst []))) ∧ ∀ i m H, W i m H →
      ((Itr lo n).stop i H ∧ Qd H) ∨ ((Itr lo n).go i H ∧ ∃ Nx : Hp → Prop, (∀ H', Nx H' → ∃ m', m' < m ∧ W (i + 1) m' H') ∧ ∀ x H', (Itr lo n).yld i H x H' → g x (wipe σ vs) H' fun σ2 H2 => wipe σ2 vs = wipe σ vs ∧ tt σ2 H2 fun b H3 =>
        if b = true then te σ2 H3 fun y H4 => ∃ acc, H4 D = some (.lst acc) ∧ acc.length < sizeLine ∧ Nx (L2.upd H4 D (.lst (acc ++ [y]))) else Nx H3) := by
  refine lc_range (lo := lo) (n := n) (fun i H' => Same H1 H' ∧ ∃ acc, H' D = some (.lst acc) ∧ acc.length ≤ i ∧ (full = true → acc.length = i) ∧ ∀ x ∈ acc, G (wo H' D) x) ⟨Same.new (Same.refl _) hD, [], upd_same, Nat.le_refl _, fun _ => rfl, fun x h => by cases h⟩ ?_ ?_
  · rintro i H' hi ⟨s', acc, e, l1, l2, hg⟩
    refine step i H' _ _ hi s' ⟨acc, e⟩ (fun y H4 s4 gy => ⟨acc, s4 _ _ e, Nat.lt_of_le_of_lt (by omega : acc.length ≤ 100000) (by decide), fun b o eb => ?_, acc ++ [y], upd_same, by rw [List.length_append, List.length_singleton]; omega, fun f => by rw [List.length_append, List.length_singleton, l2 f], fun x hx => ?_⟩) (fun f => ⟨s', acc, e, by omega, (fun z => by rw [f] at z; cases z), hg⟩)
    · rw [upd_ne (ne_of_none eb hD)]; exact s4 _ _ (s' b o eb)
    · rw [wo_upd]
      rcases List.mem_append.mp hx with z | z
      · exact mono (Kp.of s4).wo (hg x z)
      · rw [List.mem_singleton.mp z]; exact gy
  · rintro H' ⟨s', acc, e, l1, l2, hg⟩
    exact done H' acc s' e l1 l2 fun x hx => mono (wo_same H' D) (hg x hx)
theorem wo_newt {H : Hp} {b D : Addr} {o : HO} (hb : H b = none) {x : HO} (hD : H D = some x) : (wo (L2.upd H b o) D) b = some o := by
  have : b ≠ D := fun z => by rw [z, hD] at hb; cases hb
  rw [wo_ne this]; exact upd_same
section
variable {P : Program} {w : World} {K : PySem.W.Frag} {mg : Str → Option Value} {base : Heap}
def spKin : Sp := fun vs H Q _ => ∃ (p : Addr) (c n : Nat), vs = [.ref p, .int (n : Nat)] ∧ BoxAt H p c ∧ c < 10000000 ∧ 1 ≤ n ∧ n ≤ 3 ∧
  ∀ r xs ks H', Kp p H H' → BoxAt H' p (c + 20) → wo H' p r = some (.lst xs) → Paired (MvAt (wo H' p)) xs ks → ks.length ≤ 6 → (∀ k ∈ ks, okK n k) → Q (.ref r) H'
theorem ok_law_kinds (T : Txt K mg w) : FnOk P w K mg base CX0 2 T.f_law_kinds T.fd_law_kinds ["box", "signs"] spKin := by
  refine T.F_law_kinds.ok sc_law_kinds (fun vs H Q E h => ?_) (fun cdv A outer s H vs Q E hr h => ?_)
  · obtain ⟨p, c, n, rfl, _⟩ := h; rfl
  · obtain ⟨p, c, n, rfl, hb, hc, n1, n3, kQ⟩ := h
    refine ⟨_, (pss_cons (ps_set (i := 2) sc_law_kinds.nd rfl (Or.inr rfl) (pe_op op_cat (pe_lc (own := [("sign", 3)]) (g := gName 3) (by rfl) sc_law_kinds.nd (pi_range1 rfl T.z_range (pa_cons (pv 1) pa_nil)) (blkOk_by (own := [("sign", 3)]) (N := N_law_kinds) (sc := defScope s_law_kinds) (by decide +kernel)) (fun _ _ _ _ _ => pg_name (i := 3) sc_law_kinds.nd rfl (Or.inl rfl)) (fun _ _ _ _ _ => pts_nil) (fun _ _ _ _ _ => (pe_tup (pa_cons pe_str (pa_cons (pv 3) pa_nil))))) (pe_lc (own := [("sign", 3)]) (g := gName 3) (by rfl) sc_law_kinds.nd (pi_range1 rfl T.z_range (pa_cons (pv 1) pa_nil)) (blkOk_by (own := [("sign", 3)]) (N := N_law_kinds) (sc := defScope s_law_kinds) (by decide +kernel)) (fun _ _ _ _ _ => pg_name (i := 3) sc_law_kinds.nd rfl (Or.inl rfl)) (fun _ _ _ _ _ => pts_nil) (fun _ _ _ _ _ => (pe_tup (pa_cons pe_str (pa_cons (pv 3) pa_nil)))))))
      (pss_cons (ps_for PassesOwn.never rfl (pi_range1 rfl T.z_range (pa_cons (pv 1) pa_nil)) (pg_name (i := 3) sc_law_kinds.nd rfl (Or.inr rfl)) (pss_one (ps_set (i := 2) sc_law_kinds.nd rfl (Or.inr rfl) (pe_op op_cat (pv 2) (pe_op op_rep (pe_lc (own := [("other", 4)]) (g := gName 4) (by rfl) sc_law_kinds.nd (pi_range1 rfl T.z_range (pa_cons (pv 1) pa_nil)) (blkOk_by (own := [("other", 4)]) (N := N_law_kinds) (sc := defScope s_law_kinds) (by decide +kernel)) (fun _ _ _ _ _ => pg_name (i := 4) sc_law_kinds.nd rfl (Or.inl rfl)) (fun _ _ _ _ _ => (pts_one (pt_cmpR op_ne (pv 4) (pv 3) (nomark _)))) (fun _ _ _ _ _ => (pe_tup (pa_cons pe_str (pa_cons (pv 3) (pa_cons (pv 4) pa_nil)))))) pe_int)))))
      (pss_one (ps_ret (pe_lc (own := [("turn", 5)]) (g := gName 5) (by rfl) sc_law_kinds.nd (pi_range1 rfl T.z_range (pa_cons (pe_ix ix_list (pe_lst (pa_cons pe_int (pa_cons pe_int (pa_cons pe_int (pa_cons pe_int (pa_cons pe_int (pa_cons pe_int (pa_cons pe_int pa_nil)))))))) (pe_call (ok_law_take T) (hr.mono (by decide)) rfl T.g_law_take T.F_law_take.kp T.b_law_take .nil pass0 (pa_cons (pv 0) (pa_cons pe_int pa_nil))) (fun _ _ => rfl)) pa_nil)) (blkOk_by (own := [("turn", 5)]) (N := N_law_kinds) (sc := defScope s_law_kinds) (by decide +kernel)) (fun _ _ _ _ _ => pg_name (i := 5) sc_law_kinds.nd rfl (Or.inl rfl)) (fun _ _ _ _ _ => pts_nil) (fun _ _ _ _ _ => (pe_ix (ix_listK (K := K) rfl) (pv 2) (pe_call (ok_law_take T) (hr.mono (by decide)) rfl T.g_law_take T.F_law_take.kp T.b_law_take .nil pass0 (pa_cons (pv 0) (pa_cons (pe_callB (call_len_seqK (K := K) rfl) (by rfl) T.z_len (by decide +kernel) (pa_cons (pv 2) pa_nil)) pa_nil))) (fun _ _ => rfl)))))))), ?_⟩
    have z2 : 2 ≤ sizeLine := by decide
    have z3 : 3 ≤ sizeLine := by decide
    try dsimp only [L2.gName, L2.tSeq, L2.tAsg, L2.tRet, L2.tNext, L2.tPar3, L2.tPar]
    refine ⟨_, rfl, (n : Int), rfl, by omega, by omega, fun A1 hA1 => ?_⟩
    rw [Int.toNat_natCast]
    refine lc_range_G (G := KnG n) KnG.ext true hA1 (by omega) (fun j H' R N hj s' ⟨la, ea⟩ kR _ => ⟨rfl, tYesT ⟨_, rfl, z2, fun b hb' => kR _ _ (Same.new (Same.refl _) hb') ?_⟩⟩) fun H1 xs1 s1 e1 _ l1 g1 => ?_
    · exact ⟨.los ((0 : Int) + (j : Nat)), ⟨b, rfl, wo_newt hb' ea⟩, by show 0 ≤ (0 : Int) + (j : Nat) ∧ (0 : Int) + (j : Nat) < n; omega⟩
    refine ⟨_, rfl, (n : Int), rfl, by omega, by omega, fun A2 hA2 => ?_⟩
    rw [Int.toNat_natCast]
    refine lc_range_G (G := KnG n) KnG.ext true hA2 (by omega) (fun j H' R N hj s' ⟨la, ea⟩ kR _ => ⟨rfl, tYesT ⟨_, rfl, z2, fun b hb' => kR _ _ (Same.new (Same.refl _) hb') ?_⟩⟩) fun H2 xs2 s2 e2 _ l2 g2 => ?_
    · exact ⟨.put ((0 : Int) + (j : Nat)), ⟨b, rfl, wo_newt hb' ea⟩, by show 0 ≤ (0 : Int) + (j : Nat) ∧ (0 : Int) + (j : Nat) < n; omega⟩
    refine ⟨A1, A2, xs1, xs2, rfl, rfl, s2 _ _ e1, e2, by rw [l1 rfl, l2 rfl]; exact Nat.le_trans (by omega : n + n ≤ 6) (by decide), fun B hB => ?_⟩
    have s3 : Same H2 (upd H2 B (.lst (xs1 ++ xs2))) := Same.new (Same.refl _) hB
    have s03 := (s1.trans s2).trans s3
    have nB : B ≠ p := ((hb.same (s1.trans s2)).ne hB).symm
    have g3 : ∀ x ∈ xs1 ++ xs2, KnG n (upd H2 B (.lst (xs1 ++ xs2))) x := fun x hx => (List.mem_append.mp hx).elim (fun z => ((g1 x z).ext s2).ext s3) fun z => (g2 x z).ext s3
    have e3 : (upd H2 B (.lst (xs1 ++ xs2))) B = some (.lst (xs1 ++ xs2)) := upd_same
    have le3 : (xs1 ++ xs2).length = 2 * n := by rw [List.length_append, l1 rfl, l2 rfl]; omega
    generalize upd H2 B (.lst (xs1 ++ xs2)) = H3 at s3 s03 g3 e3 ⊢
    generalize xs1 ++ xs2 = xs3 at g3 e3 le3
    refine ⟨_, rfl, (n : Int), rfl, by omega, by omega, ?_⟩
    rw [Int.toNat_natCast]
    refine for_range (lo := 0) (n := n) (fun i σ H' => ∃ B xs x3 x4, σ = [some (.ref p), some (.int (n : Nat)), some (.ref B), x3, x4, none] ∧ Same H H' ∧ B ≠ p ∧ H' B = some (.lst xs) ∧ 1 ≤ xs.length ∧ xs.length ≤ 6 + 6 * i ∧ ∀ x ∈ xs, KnG n H' x) ⟨B, xs3, _, _, rfl, s03, nB, e3, by omega, by omega, g3⟩ ?_ ?_
    · rintro i σ H4 hi ⟨B, xs, x3, x4, rfl, s4, nB, e4, lo4, hi4, g4⟩
      refine ⟨_, rfl, _, rfl, (n : Int), rfl, by omega, by omega, fun D hD => ?_⟩
      rw [Int.toNat_natCast]
      refine lc_range_G (G := KnG n) KnG.ext false hD (by omega) (fun j H' R N hj s' ⟨la, ea⟩ kR kN => ⟨rfl, _, rfl, _, rfl, rfl, _, rfl, ?_⟩) fun H5 ys s5 e5 l5 _ g5 => ?_
      · by_cases c : ((0 : Int) + (j : Nat)) = (0 : Int) + (i : Nat)
        · rw [show (!decide (V.int ((0 : Int) + (j : Nat)) = V.int ((0 : Int) + (i : Nat)))) = false by rw [c]; simp]
          exact iteF (kN rfl)
        · rw [show (!decide (V.int ((0 : Int) + (j : Nat)) = V.int ((0 : Int) + (i : Nat)))) = true by rw [decide_eq_false (fun z => c (V.int.inj z))]; rfl]
          refine iteT ⟨_, rfl, _, rfl, z3, fun b hb' => kR _ _ (Same.new (Same.refl _) hb') ⟨.tur ((0 : Int) + (i : Nat)) ((0 : Int) + (j : Nat)), ⟨b, rfl, wo_newt hb' ea⟩, ?_⟩⟩
          show (0 ≤ (0 : Int) + (i : Nat) ∧ (0 : Int) + (i : Nat) < n) ∧ (0 ≤ (0 : Int) + (j : Nat) ∧ (0 : Int) + (j : Nat) < n) ∧ (0 : Int) + (i : Nat) ≠ (0 : Int) + (j : Nat)
          exact ⟨by omega, by omega, fun z => c z.symm⟩
      · have l2 : (List.replicate (2 : Int).toNat ys).flatten.length = 2 * ys.length := by
          rw [List.length_flatten, List.map_replicate, List.sum_replicate_nat]; rfl
        have m2 : ∀ x ∈ (List.replicate (2 : Int).toNat ys).flatten, x ∈ ys := fun x hx => by
          obtain ⟨l, hl, hx⟩ := List.mem_flatten.mp hx
          rw [List.eq_of_mem_replicate hl] at hx
          exact hx
        refine ⟨D, 2, ys, rfl, rfl, e5, by decide, by decide, Nat.le_trans (by show ys.length * 2 ≤ 6; omega) (by decide), fun D2 hD2 => ?_⟩
        have s6 : Same H5 (upd H5 D2 (.lst (List.replicate (2 : Int).toNat ys).flatten)) := Same.new (Same.refl _) hD2
        have e6 : (upd H5 D2 (.lst (List.replicate (2 : Int).toNat ys).flatten)) D2 = some (.lst (List.replicate (2 : Int).toNat ys).flatten) := upd_same
        generalize (List.replicate (2 : Int).toNat ys).flatten = zs at l2 m2 s6 e6 ⊢
        generalize upd H5 D2 (.lst zs) = H6 at s6 e6 ⊢
        have s46 := s5.trans s6
        refine ⟨B, D2, xs, zs, rfl, rfl, s46 _ _ e4, e6, Nat.le_trans (by omega : xs.length + zs.length ≤ 100) (by decide), fun B2 hB2 => ?_⟩
        have s7 : Same H6 (upd H6 B2 (.lst (xs ++ zs))) := Same.new (Same.refl _) hB2
        refine ⟨B2, xs ++ zs, _, _, rfl, (s4.trans s46).trans s7, ((hb.same (s4.trans s46)).ne hB2).symm, upd_same, by rw [List.length_append]; omega, by rw [List.length_append]; omega, fun x hx => ?_⟩
        rcases List.mem_append.mp hx with z | z
        · exact ((g4 x z).ext s46).ext s7
        · exact ((g5 x (m2 x z)).ext s6).ext s7
    · rintro σ H4 ⟨B, xs, x3, x4, rfl, s4, nB, e4, lo4, hi4, g4⟩
      have b4 := hb.same s4
      have v4 := Vw.box b4
      try dsimp only [L2.gName, L2.tSeq, L2.tAsg, L2.tRet, L2.tNext, L2.tPar3, L2.tPar]
      unfold L2.tLc L2.iRng1
      refine cons_at (EvN.at_ (evN_num (K := K) (n := 7) (evB_menuA rfl (evBA_cons (evB_I ((evN_c _).mono (by intro x hx; subst hx; constructor <;> omega))) (evBA_cons (evB_I ((evN_c _).mono (by intro x hx; subst hx; constructor <;> omega))) (evBA_cons (evB_I ((evN_c _).mono (by intro x hx; subst hx; constructor <;> omega))) (evBA_cons (evB_I ((evN_c _).mono (by intro x hx; subst hx; constructor <;> omega))) (evBA_cons (evB_I ((evN_c _).mono (by intro x hx; subst hx; constructor <;> omega))) (evBA_cons (evB_I ((evN_c _).mono (by intro x hx; subst hx; constructor <;> omega))) (evBA_cons (evB_I ((evN_c _).mono (by intro x hx; subst hx; constructor <;> omega))) evBA_nil))))))))) v4 b4 (by omega) fun x H5 k5 b5 v5 g5 => ?_)
      obtain ⟨m, rfl, hm⟩ : ∃ m : Nat, x = m ∧ m ≤ 6 := ⟨x.toNat, by omega, by omega⟩
      refine ⟨(m : Int), rfl, by omega, by omega, fun D hD => ?_⟩
      rw [Int.toNat_natCast]
      have nD : D ≠ p := (b5.ne hD).symm
      have hD4 : H4 D = none := kp_none k5 nD hD
      refine lc_range (lo := 0) (n := m) (fun i H' => Kp p H4 H' ∧ BoxAt H' p (c + 1 + i) ∧ ∃ acc, H' D = some (.lst acc) ∧ acc.length = i ∧ ∀ y ∈ acc, y ∈ xs) ⟨k5.new hD, (b5.new hD).mono (by omega), [], upd_same, rfl, fun y h => by cases h⟩ ?_ ?_
      · rintro i H6 hi ⟨k6, b6, acc, e6, l6, g6⟩
        have e6B := k6 _ _ nB e4
        refine ⟨rfl, tYesT ⟨_, rfl, _, rfl, _, rfl, B, xs, rfl, .inl (SqL.of e6B), p, _, (xs.length : Int), rfl, b6, by omega, by omega, by omega, fun d o hd ho => ?_⟩⟩
        have hd' : d < xs.length := by omega
        refine ⟨B, xs, (d : Int), xs[d], rfl, rfl, SqL.of (by rw [upd_ne nB]; exact e6B), atI_nat (List.getElem?_eq_getElem hd'), acc, by rw [upd_ne nD]; exact e6, by rw [l6]; exact Nat.lt_of_le_of_lt (by omega : i ≤ 6) (by decide), (k6.upd).free hD4, (ho.at.other nD.symm).mono (by omega), acc ++ [xs[d]], upd_same, by rw [List.length_append, l6]; rfl, fun y hy => ?_⟩
        rcases List.mem_append.mp hy with z | z
        · exact g6 y z
        · rw [List.mem_singleton.mp z]; exact List.getElem_mem hd'
      · rintro H6 ⟨k6, b6, acc, e6, l6, g6⟩
        obtain ⟨bl, ebl⟩ := box_lst b4
        have gk : ∀ y ∈ acc, KnG n (wo H6 p) y := fun y hy => ((g4 y (g6 y hy)).wo ebl).ext k6.wo
        obtain ⟨ks, hk, lk, ok⟩ := kns_of gk
        exact kQ D acc ks H6 ((Kp.of s4).trans k6) (b6.mono (by omega)) (by rw [wo_ne nD]; exact e6) hk (by omega) ok
end
end My

set_option Elab.async false
set_option linter.all false
set_option maxRecDepth 100000
set_option maxHeartbeats 8000000
namespace My
open PySem PySem.Spec PyProof.Rows L2
theorem okK.up {n m : Nat} (h : n ≤ m) : ∀ {k : Mv}, okK n k → okK m k
  | .los a, g => by have g : 0 ≤ a ∧ a < n := g; show 0 ≤ a ∧ a < (m : Int); omega
  | .put a, g => by have g : 0 ≤ a ∧ a < n := g; show 0 ≤ a ∧ a < (m : Int); omega
  | .sam a, g => g
  | .tur a b, g => by have g : (0 ≤ a ∧ a < n) ∧ (0 ≤ b ∧ b < n) ∧ a ≠ b := g; show (0 ≤ a ∧ a < (m : Int)) ∧ (0 ≤ b ∧ b < (m : Int)) ∧ a ≠ b; omega
theorem PartsAt.sg0 {K : PySem.W.Frag} {p r : Addr} {H : Hp} {D : Dcd} (h : PartsAt K p H r D) : ∃ xs, SqL K H r xs ∧ atI xs 0 = some (.int (D.sg : Nat)) := by
  obtain ⟨Sa, Ea, h1, _⟩ := h
  exact ⟨_, h1.ext (wo_same H p), atI_nat (j := 0) rfl⟩
/-- a decoder and kinds, as the law has them -/
structure SceneAt (K : PySem.W.Frag) (p : Addr) (H : Hp) (pl kr : Addr) (D : Dcd) (xs : List V) (ks : List Mv) : Prop where
  parts : PartsAt K p H pl D
  s3 : D.sg ≤ 3
  kl : wo H p kr = some (.lst xs)
  kp : Paired (MvAt (wo H p)) xs ks
  k6 : ks.length ≤ 6
  ok : ∀ k ∈ ks, okK D.sg k
section
variable {P : Program} {w : World} {K : PySem.W.Frag} {mg : Str → Option Value} {base : Heap}
theorem ok_law_scene (T : Txt K mg w) : FnOk P w K mg base CX0 3 T.f_law_scene T.fd_law_scene ["box"] (fun vs H Q _ => ∃ (p : Addr) (c : Nat), vs = [.ref p] ∧ BoxAt H p c ∧ c < 100000 ∧
    ∀ r pl kr D xs ks H', Kp p H H' → BoxAt H' p (c + 300) → wo H' p r = some (.lst [.ref pl, .ref kr]) → SceneAt K p H' pl kr D xs ks → Q (.ref r) H') := by
  refine T.F_law_scene.ok sc_law_scene (fun vs H Q E h => ?_) (fun cdv A outer s H vs Q E hr h => ?_)
  · obtain ⟨p, c, rfl, _⟩ := h; rfl
  · obtain ⟨p, c, rfl, hb, hc, kQ⟩ := h
    refine ⟨_, (pss_cons (ps_set (i := 1) sc_law_scene.nd rfl (Or.inl rfl) (pe_call (ok_law_take T) (hr.mono (by decide)) rfl T.g_law_take T.F_law_take.kp T.b_law_take .nil pass0 (pa_cons (pv 0) (pa_cons pe_int pa_nil))))
      (pss_cons (ps_if (pt_cmpR op_lt (pv 1) pe_int (nomark _)) (pss_one (ps_set (i := 2) sc_law_scene.nd rfl (Or.inl rfl) (pe_call (ok_law_blocks T) (hr.mono (by decide)) rfl T.g_law_blocks T.F_law_blocks.kp T.b_law_blocks .nil pass0 (pa_cons (pv 0) pa_nil)))) (pss_one (ps_if (pt_cmpR op_lt (pv 1) pe_int (nomark _)) (pss_one (ps_set (i := 2) sc_law_scene.nd rfl (Or.inl rfl) (pe_call (ok_law_parts T) (hr.mono (by decide)) rfl T.g_law_parts T.F_law_parts.kp T.b_law_parts .nil pass0 (pa_cons (pv 0) pa_nil)))) (pss_one (ps_if (pt_cmpR op_lt (pv 1) pe_int (nomark _)) (pss_cons (ps_set (i := 2) sc_law_scene.nd rfl (Or.inl rfl) (pe_call (ok_law_double T) (hr.mono (by decide)) rfl T.g_law_double T.F_law_double.kp T.b_law_double .nil pass0 (pa_cons (pv 0) pa_nil)))
      (pss_one (ps_ret (pe_lst (pa_cons (pv 2) (pa_cons (pe_call (ok_law_kinds T) (hr.mono (by decide)) rfl T.g_law_kinds T.F_law_kinds.kp T.b_law_kinds .nil pass0 (pa_cons (pv 0) (pa_cons (pe_ifExp (pt_cmpR op_lt (pv 1) pe_int (nomark _)) pe_int pe_int) pa_nil))) pa_nil)))))) (pss_one (ps_set (i := 2) sc_law_scene.nd rfl (Or.inl rfl) (pe_call (ok_law_free T) (hr.mono (by decide)) rfl T.g_law_free T.F_law_free.kp T.b_law_free .nil pass0 (pa_cons (pv 0) (pa_cons (pe_cmpR op_lt (pv 1) pe_int (nomark _)) pa_nil))))))))))
      (pss_one (ps_ret (pe_lst (pa_cons (pv 2) (pa_cons (pe_call (ok_law_kinds T) (hr.mono (by decide)) rfl T.g_law_kinds T.F_law_kinds.kp T.b_law_kinds .nil pass0 (pa_cons (pv 0) (pa_cons (pe_ix ix_list (pv 2) pe_int (fun _ _ => rfl)) pa_nil))) pa_nil))))))), ?_⟩
    have z2 : 2 ≤ sizeLine := by decide
    refine ⟨_, rfl, p, c, 10, rfl, hb, by omega, by omega, by omega, fun ch o hch ho => ?_⟩
    have k1 : Kp p H (upd H p o) := (Kp.refl p H).upd
    have b1 : BoxAt (upd H p o) p (c + 1) := ho.at
    generalize upd H p o = H1 at k1 b1 ⊢
    have fin : ∀ {H2 H3 : Hp} {pl kr n D xs ks}, Kp p H1 H2 → PartsAt K p H2 pl D → D.sg ≤ 3 → n ≤ D.sg → Kp p H2 H3 → BoxAt H3 p (c + 300) → wo H3 p kr = some (.lst xs) → Paired (MvAt (wo H3 p)) xs ks → ks.length ≤ 6 → (∀ k ∈ ks, okK n k) → ∀ r, H3 r = none → Q (.ref r) (upd H3 r (.lst [.ref pl, .ref kr])) := fun {H2 H3 pl kr n D xs ks} k2 hp s3 hn k3 b3 e3 g3 l3 o3 r hr => by
      have s4 : Same H3 (upd H3 r (.lst [.ref pl, .ref kr])) := Same.new (Same.refl _) hr
      have nr : r ≠ p := (b3.ne hr).symm
      exact kQ r pl kr D xs ks _ (((k1.trans k2).trans k3).trans (Kp.of s4)) (b3.new hr) (by rw [wo_ne nr]; exact upd_same) ⟨(hp.kp k3).kp (Kp.of s4), s3, (Kp.of s4).wo _ _ e3, mvs_ext (Kp.of s4).wo g3, l3, fun k hk => (o3 k hk).up hn⟩
    have rest : ∀ {H2 : Hp} {pl D} (x1 : Option V), Kp p H1 H2 → BoxAt H2 p (c + 201) → PartsAt K p H2 pl D → D.sg ≤ 3 → 1 ≤ D.sg → tRet (tLst (tCons (tVar 2) (tCons (tCall spKin [] E0 (tCons (tVar 0) (tCons (tOp (rIxL K) (tVar 2) (tC (.int 0))) tNil))) tNil))) { nx := fun _ H' => Q .non H', rt := Q } [some (.ref p), x1, some (.ref pl)] H2 := fun {H2 pl D} x1 k2 b2 hp s3 s1 => by
      obtain ⟨ys, hy, y0⟩ := hp.sg0
      refine ⟨_, rfl, _, rfl, _, rfl, pl, ys, 0, _, rfl, rfl, hy, y0, p, _, D.sg, rfl, b2, by omega, s1, s3, fun kr xs ks H3 k3 b3 e3 g3 l3 o3 => ⟨z2, fun r hr => ?_⟩⟩
      exact fin k2 hp s3 (Nat.le_refl _) k3 (b3.mono (by omega)) e3 g3 l3 o3 r hr
    refine ⟨_, rfl, _, _, rfl, rfl, _, rfl, ite2 (fun c0 => ?_) (fun c0 => ⟨_, rfl, _, _, rfl, rfl, _, rfl, ite2 (fun c1 => ?_) (fun c1 => ⟨_, rfl, _, _, rfl, rfl, _, rfl, ite2 (fun c2 => ?_) (fun c2 => ?_)⟩)⟩)⟩
    · exact ⟨_, rfl, p, c + 1, rfl, b1, by omega, fun pl D H2 k2 b2 hp s3 s1 => rest _ k2 (b2.mono (by omega)) hp s3 (by omega)⟩
    · exact ⟨_, rfl, p, c + 1, rfl, b1, by omega, fun pl D H2 k2 b2 hp s3 s1 => rest _ k2 (b2.mono (by omega)) hp s3 (by omega)⟩
    · refine ⟨_, rfl, p, c + 1, rfl, b1, by omega, fun pl D H2 k2 b2 hp s3 s1 => ?_⟩
      have go : ∀ n : Nat, 1 ≤ n → n ≤ 3 → (spKin [.ref p, .int (n : Nat)] H2 (fun y H3 => ([V.ref pl, y] : List V).length ≤ sizeLine ∧ ∀ r, H3 r = none → Q (.ref r) (upd H3 r (.lst [.ref pl, y]))) E0) := fun n n1 n3 =>
        ⟨p, _, n, rfl, b2, by omega, n1, n3, fun kr xs ks H3 k3 b3 e3 g3 l3 o3 => ⟨z2, fun r hr => fin k2 hp s3 (by omega) k3 (b3.mono (by omega)) e3 g3 l3 o3 r hr⟩⟩
      exact ⟨_, rfl, _, rfl, _, rfl, _, _, rfl, rfl, _, rfl, ite2 (fun c3 => go 2 (by omega) (by omega)) (fun c3 => go 3 (by omega) (by omega))⟩
    · exact ⟨_, rfl, _, rfl, _, _, rfl, rfl, p, c + 1, _, rfl, b1, by omega, fun pl D H2 k2 b2 hp s3 s1 => rest _ k2 (b2.mono (by omega)) hp s3 s1⟩
end
end My

set_option Elab.async false
set_option linter.all false
set_option maxRecDepth 100000
set_option maxHeartbeats 8000000
namespace My
open PySem PySem.Spec PyProof.Rows L2
theorem dgL_row {K : PySem.W.Frag} {H : Hp} {Sa : Addr} {D : Dcd} (ok : D.ok) (h : Dg K H false (.ref Sa) D.stL) {s : Nat} (hs : s < D.st.length) : ∃ xs r zs, SqL K H Sa xs ∧ xs[s]? = some (.ref r) ∧ SqL K H r zs ∧ zs.length = D.sg ∧
    ∀ a, a < D.sg → ∃ e, zs[a]? = some e ∧ Dg K H false e (enD (D.at s a)) := by
  obtain ⟨a, xs, e, hx, _, ha⟩ := h.lst_of
  injection e with e
  subst e
  obtain ⟨x, d, ex, ed, dx⟩ := ha.nth (i := s) (by rw [List.length_map]; exact hs)
  rw [List.getElem?_map, List.getElem?_eq_getElem hs] at ed
  have ed := Option.some.inj ed
  subst ed
  obtain ⟨r, zs, rfl, hz, _, hzs⟩ := dx.lst_of
  have lr := (ok.rows _ (List.getElem_mem hs)).1
  refine ⟨xs, r, zs, hx, ex, hz, by have := hzs.len; rw [List.length_map] at this; omega, fun a ha => ?_⟩
  obtain ⟨y, d, ey, ed, dy⟩ := hzs.nth (i := a) (by rw [List.length_map]; omega)
  rw [List.getElem?_map, List.getElem?_eq_getElem (show a < D.st[s].length by omega)] at ed
  have ed := Option.some.inj ed
  refine ⟨y, ey, ?_⟩
  have : D.at s a = D.st[s][a]'(by omega) := by
    unfold Dcd.at
    rw [List.getD_eq_getElem?_getD, List.getD_eq_getElem?_getD, List.getElem?_eq_getElem hs]
    show (D.st[s])[a]?.getD none = _
    rw [List.getElem?_eq_getElem (show a < D.st[s].length by omega)]; rfl
  rw [this, ed]; exact dy
theorem dgL_end {K : PySem.W.Frag} {H : Hp} {Ea : Addr} {D : Dcd} (ok : D.ok) (h : Dg K H false (.ref Ea) D.enL) {s : Nat} (hs : s < D.st.length) : ∃ xs e, SqL K H Ea xs ∧ xs[s]? = some e ∧ Dg K H false e (wdD (D.en.getD s none)) := by
  obtain ⟨a, xs, e, hx, _, ha⟩ := h.lst_of
  injection e with e
  subst e
  have hs' : s < D.en.length := by rw [ok.ends]; exact hs
  obtain ⟨x, d, ex, ed, dx⟩ := ha.nth (i := s) (by rw [List.length_map]; exact hs')
  rw [List.getElem?_map, List.getElem?_eq_getElem hs'] at ed
  have ed := Option.some.inj ed
  subst ed
  exact ⟨xs, x, hx, ex, by rw [List.getD_eq_getElem?_getD, List.getElem?_eq_getElem hs']; exact dx⟩
/-- a decoder as the law has it: signs, steps, ends -/
def LPl (K : PySem.W.Frag) (H : Hp) (r : Addr) (D : Dcd) : Prop := ∃ Sa Ea, SqL K H r [.int (D.sg : Nat), .ref Sa, .ref Ea] ∧ Dg K H false (.ref Sa) D.stL ∧ Dg K H false (.ref Ea) D.enL ∧ D.ok
theorem LPl.ext {K : PySem.W.Frag} {H H' : Hp} {r : Addr} {D : Dcd} (h : LPl K H r D) (s : Same H H') : LPl K H' r D := by
  obtain ⟨Sa, Ea, h1, h2, h3, ok⟩ := h
  exact ⟨Sa, Ea, h1.ext s, h2.ext s, h3.ext s, ok⟩
theorem PartsAt.lp {K : PySem.W.Frag} {p r : Addr} {H : Hp} {D : Dcd} (h : PartsAt K p H r D) : LPl K H r D := LPl.ext (H := wo H p) h (wo_same H p)
/-- a state or a sign, none among them -/
def onV : Option Nat → V | none => .non | some s => .int (s : Nat)
def Dcd.bh (D : Dcd) : Sta → Option Nat → Sta | s, none => s | s, some a => D.beh s a
def mvL : Mv → Option Nat × Option Nat
  | .los a => (some a.toNat, none) | .put a => (none, some a.toNat) | .sam a => (some a.toNat, some a.toNat) | .tur a b => (some a.toNat, some b.toNat)
def Dcd.ml (D : Dcd) (m : Option Nat × Option Nat) (x : Pr) : Pr := (D.bh x.1 m.1, D.bh x.2 m.2)
theorem Dcd.ml_mv (D : Dcd) (m : Mv) : D.ml (mvL m) = D.mv m := by
  cases m <;> rfl
section
variable {P : Program} {w : World} {K : PySem.W.Frag} {mg : Str → Option Value} {base : Heap}
theorem ok_law_behind (T : Txt K mg w) : FnOk P w K mg base CX0 1 T.f_law_behind T.fd_law_behind ["plain", "state", "sign"] (fun vs H Q _ => ∃ r D s a, vs = [.ref r, onV s, onV a] ∧ LPl K H r D ∧ okS D s ∧ (∀ b, a = some b → b < D.sg) ∧ Q (onV (D.bh s a)) H) := by
  refine T.F_law_behind.ok sc_law_behind (fun vs H Q E h => ?_) (fun cdv A outer s0 H vs Q E hr h => ?_)
  · obtain ⟨r, D, s, a, rfl, _⟩ := h; rfl
  · obtain ⟨r, D, s, a, rfl, ⟨Sa, Ea, h0, h1, h2, ok⟩, hs, ha, q⟩ := h
    refine ⟨_, (pss_cons (ps_if (PW.pt (pw_or (pt_cmp (pc_isN (pv 1))) (pw_or1 (pt_cmp (pc_isN (pv 2)))))) (pss_one (ps_ret (pv 1))) pss_nil)
      (pss_one (ps_ret (pe_ifExp (pt_cmp (pc_isN (pe_ix ix_list (pe_ix ix_list (pe_ix ix_list (pv 0) pe_int (fun _ _ => rfl)) (pv 1) (fun _ _ => rfl)) (pv 2) (fun _ _ => rfl)))) pe_non (pe_ix ix_tup (pe_ix ix_list (pe_ix ix_list (pe_ix ix_list (pv 0) pe_int (fun _ _ => rfl)) (pv 1) (fun _ _ => rfl)) (pv 2) (fun _ _ => rfl)) pe_int (fun _ _ => rfl)))))), ?_⟩
    cases s with
    | none =>
      refine ⟨_, rfl, _, rfl, iteT (iteT ?_)⟩
      refine ⟨_, rfl, ?_⟩
      cases a with
      | none => exact q
      | some a => exact q
    | some s =>
      cases a with
      | none => exact ⟨_, rfl, _, rfl, iteF ⟨_, rfl, _, rfl, iteT ⟨_, rfl, q⟩⟩⟩
      | some a =>
        obtain ⟨xs, r', zs, hx, ex, hz, lz, hent⟩ := dgL_row ok h1 (hs s rfl)
        obtain ⟨ev, e1, e2⟩ := hent a (ha a rfl)
        have fld : ∀ R : VK, R ev H → tOp (rIxL K) (tOp (rIxL K) (tOp (rIxL K) (tVar 0) (tC (.int 1))) (tVar 1)) (tVar 2) (L2.start N_law_behind [.ref r, onV (some s), onV (some a)]) H R := fun R h =>
          ⟨_, rfl, r, _, _, _, rfl, rfl, h0, atI_nat (j := 1) rfl, _, rfl, Sa, _, _, _, rfl, rfl, hx, atI_nat ex, _, rfl, r', _, _, _, rfl, rfl, hz, atI_nat e1, h⟩
        refine ⟨_, rfl, _, rfl, iteF ⟨_, rfl, _, rfl, iteF ?_⟩⟩
        have q : Q (onV ((D.at s a).map (·.1))) H := q
        refine fld _ ⟨_, rfl, ?_⟩
        cases hat : D.at s a with
        | none =>
          rw [hat] at e2 q
          have ev0 : ev = .non := by cases e2; rfl
          subst ev0
          exact iteT q
        | some gw =>
          obtain ⟨g, w⟩ := gw
          rw [hat] at e2 q
          obtain ⟨t, us, rfl, ht, hus⟩ := e2.tup_of
          obtain ⟨y0, vs1, rfl, hy0, hv1⟩ := hus.cons_of
          obtain rfl := hy0.int_of
          exact iteF (fld _ ⟨t, _, _, _, rfl, rfl, ht, atI_nat (j := 0) rfl, q⟩)
theorem ok_law_accepts (T : Txt K mg w) : FnOk P w K mg base CX0 1 T.f_law_accepts T.fd_law_accepts ["plain", "state"] (fun vs H Q _ => ∃ r D s, vs = [.ref r, onV s] ∧ LPl K H r D ∧ okS D s ∧ Q (.bl (D.acc s)) H) := by
  refine T.F_law_accepts.ok sc_law_accepts (fun vs H Q E h => ?_) (fun cdv A outer s0 H vs Q E hr h => ?_)
  · obtain ⟨r, D, s, rfl, _⟩ := h; rfl
  · obtain ⟨r, D, s, rfl, ⟨Sa, Ea, h0, h1, h2, ok⟩, hs, q⟩ := h
    refine ⟨_, (pss_one (ps_ret (pe_and (pe_cmp (pc_notN (pv 1)) rfl) (pe_one (pe_cmp (pc_notN (pe_ix ix_list (pe_ix ix_list (pv 0) pe_int (fun _ _ => rfl)) (pv 1) (fun _ _ => rfl))) rfl))))), ?_⟩
    cases s with
    | none => exact ⟨_, rfl, _, rfl, iteF q⟩
    | some s =>
      obtain ⟨xs, ev, hx, ex, hev⟩ := dgL_end ok h2 (hs s rfl)
      refine ⟨_, rfl, _, rfl, iteT ⟨_, rfl, r, _, _, _, rfl, rfl, h0, atI_nat (j := 2) rfl, _, rfl, Ea, _, _, _, rfl, rfl, hx, atI_nat ex, ?_⟩⟩
      have e : (!decide (ev = .non)) = D.acc (some s) := by
        show _ = (D.en.getD s none).isSome
        cases h : D.en.getD s none with
        | none => rw [h] at hev; cases hev; rfl
        | some w => rw [h] at hev; cases hev; rfl
      show Q (V.bl (!decide (ev = .non))) H
      rw [e]
      exact q
end
end My

set_option Elab.async false
set_option linter.all false
set_option maxRecDepth 100000
set_option maxHeartbeats 8000000
namespace My
open PySem PySem.Spec PyProof.Rows L2
theorem un65 {k : Nat} {A : Around} (hr : Room k A) : A.units + 65 < cLine := by have := hr.un; omega
def onD : Option Nat → PyData | none => .none | some s => .int (s : Nat)
def prD (x : Pr) : PyData := .tuple [onD x.1, onD x.2]
theorem onD_inj {a b : Option Nat} (e : onD a = onD b) : a = b := by
  cases a with
  | none => cases b with
    | none => rfl
    | some b => cases e
  | some a => cases b with
    | none => cases e
    | some b =>
      have e : PyData.int (a : Nat) = .int (b : Nat) := e
      injection e with e
      rw [show a = b by omega]
theorem prD_inj {x y : Pr} (e : prD x = prD y) : x = y := by
  obtain ⟨a, b⟩ := x
  obtain ⟨c, d⟩ := y
  unfold prD at e
  injection e with e
  injection e with e1 e2
  injection e2 with e2 _
  rw [show a = c from onD_inj e1, show b = d from onD_inj e2]
theorem plD_on (a : Option Nat) : plD (onD a) = true := by cases a <;> rfl
theorem plD_pr (x : Pr) : plD (prD x) = true := by
  unfold prD plD plAll plAll plAll
  rw [plD_on, plD_on]; rfl
theorem eqv_pr (x y : Pr) : PyData.eqv (prD x) (prD y) = decide (x = y) := by
  rw [Bool.eq_iff_iff, eqv_pl _ _ (plD_pr x) (plD_pr y), decide_eq_true_eq]
  exact ⟨prD_inj, fun e => by rw [e]⟩
theorem depth_on (a : Option Nat) : (onD a).depth = 0 := by cases a <;> (unfold onD PyData.depth; rfl)
theorem can_on (a : Option Nat) : PyData.canLay0 (onD a) = true := by cases a <;> (unfold onD PyData.canLay0; rfl)
theorem depth_pr (x : Pr) : (prD x).depth ≤ 1 := by
  unfold prD PyData.depth PyData.depthAll PyData.depthAll PyData.depthAll
  rw [depth_on, depth_on]; omega
theorem shaped_pr (x : Pr) : SeqAt.shaped (prD x) = true := by
  refine shaped_of ?_ (by have := depth_pr x; omega)
  unfold prD PyData.canLay0 PyData.canLayAll0 PyData.canLayAll0 PyData.canLayAll0
  rw [can_on, can_on]; rfl
theorem depth_prs : ∀ F : List Pr, PyData.depthAll (F.map prD) ≤ 1
  | [] => by unfold List.map PyData.depthAll; omega
  | g :: F => by
    rw [List.map_cons]
    unfold PyData.depthAll
    have := depth_prs F
    have h := depth_pr g
    omega
theorem shaped_prs (F : List Pr) : SeqAt.shaped (.list (F.map prD)) = true := by
  refine shaped_of ?_ ?_
  · unfold PyData.canLay0
    exact canAll _ fun g _ => by
      unfold prD PyData.canLay0 PyData.canLayAll0 PyData.canLayAll0 PyData.canLayAll0
      rw [can_on, can_on]; rfl
  · unfold PyData.depth
    have := depth_prs F
    omega
theorem any_pr (F : List Pr) (g : Pr) : (F.map prD).any (fun z => PyData.eqv z (prD g)) = decide (g ∈ F) := by
  rw [Bool.eq_iff_iff, List.any_eq_true, decide_eq_true_eq]
  constructor
  · rintro ⟨z, hz, e⟩
    obtain ⟨h, hh, rfl⟩ := List.mem_map.mp hz
    rw [eqv_pr, decide_eq_true_eq] at e
    rw [← e]; exact hh
  · exact fun hg => ⟨prD g, List.mem_map.mpr ⟨g, hg, rfl⟩, by rw [eqv_pr]; exact decide_eq_true rfl⟩
/-- a pair, in the heap -/
def PrL (H : Hp) (v : V) (x : Option Nat × Option Nat) : Prop := ∃ b, v = .ref b ∧ H b = some (.tup [onV x.1, onV x.2])
theorem dp_on {K : PySem.W.Frag} {H : Hp} (a : Option Nat) : Dp K H (onV a) (onD a) := by
  cases a with
  | none => exact .non
  | some a => exact .int _
theorem PrL.dp {K : PySem.W.Frag} {H : Hp} {v : V} {x : Pr} (h : PrL H v x) : Dp K H v (prD x) := by
  obtain ⟨b, rfl, h⟩ := h
  exact .tup (.inl (.inl h)) (.cons (dp_on x.1) (.cons (dp_on x.2) .nil))
theorem PrL.ext {H H' : Hp} (s : Same H H') {v : V} {x : Option Nat × Option Nat} (h : PrL H v x) : PrL H' v x := by
  obtain ⟨b, e, h⟩ := h; exact ⟨b, e, s _ _ h⟩
theorem prl_ext {H H' : Hp} (s : Same H H') {vs : List V} {xs : List (Option Nat × Option Nat)} (h : Paired (PrL H) vs xs) : Paired (PrL H') vs xs := L2.Paired.mapP h fun _ _ h => h.ext s
theorem prl_dp {K : PySem.W.Frag} {H : Hp} : ∀ {vs : List V} {xs : List Pr}, Paired (PrL H) vs xs → DpAll K H vs (xs.map prD)
  | _, _, .nil => .nil
  | _, _, .cons h t => .cons h.dp (prl_dp t)
/-- the law's two lists -/
structure Sy (H2 : Hp) (A B : Addr) (known stack : List Pr) (G : Hp) : Prop where
  s : Same H2 G
  ne : A ≠ B
  a : ∃ xs, G A = some (.lst xs) ∧ Paired (PrL (wo (wo G A) B)) xs known
  b : ∃ zs, G B = some (.lst zs) ∧ Paired (PrL (wo (wo G A) B)) zs stack
section
variable {H2 G : Hp} {A B : Addr} {known stack : List Pr} {x : Pr}
theorem Sy.new (h : Sy H2 A B known stack G) {b : Addr} (hb : G b = none) (o : HO) : Sy H2 A B known stack (upd G b o) := by
  obtain ⟨xs, ea, ga⟩ := h.a
  obtain ⟨zs, eb, gb⟩ := h.b
  have s : Same (wo (wo G A) B) (wo (wo (upd G b o) A) B) := by
    rw [wo_new (Ne.symm (ne_of_none ea hb)), wo_new (Ne.symm (ne_of_none eb hb))]
    refine Same.new (Same.refl _) ?_
    rw [wo_ne (Ne.symm (ne_of_none eb hb)), wo_ne (Ne.symm (ne_of_none ea hb))]
    exact hb
  exact ⟨Same.new h.s hb, h.ne, ⟨xs, by rw [upd_ne (ne_of_none ea hb)]; exact ea, prl_ext s ga⟩, ⟨zs, by rw [upd_ne (ne_of_none eb hb)]; exact eb, prl_ext s gb⟩⟩
theorem Sy.at_ (h : Sy H2 A B known stack G) {b : Addr} {l : List V} (eb : G b = some (.tup l)) : (wo (wo G A) B) b = some (.tup l) := by
  obtain ⟨xs, e1, _⟩ := h.a
  obtain ⟨zs, e2, _⟩ := h.b
  rw [wo_ne (fun z => by rw [z, e2] at eb; cases eb), wo_ne (fun z => by rw [z, e1] at eb; cases eb)]; exact eb
theorem wo_updA {G : Hp} {A B : Addr} {o : HO} (h : A ≠ B) : wo (wo (upd G A o) A) B = wo (wo G A) B := by rw [wo_upd]
theorem wo_updB {G : Hp} {A B : Addr} {o : HO} (h : A ≠ B) : wo (wo (upd G B o) A) B = wo (wo G A) B := by rw [wo_new (Ne.symm h), wo_upd]
theorem Sy.pushA (h : Sy H2 A B known stack G) (hA : H2 A = none) {xs : List V} {b : Addr} (e : G A = some (.lst xs)) (eb : G b = some (.tup [onV x.1, onV x.2])) : Sy H2 A B (known ++ [x]) stack (upd G A (.lst (xs ++ [.ref b]))) := by
  have at_ := h.at_ eb
  obtain ⟨xs', ea, ga⟩ := h.a
  obtain ⟨zs, eb', gb⟩ := h.b
  rw [e] at ea
  injection ea with ea
  injection ea with ea
  subst ea
  exact ⟨fun b o e' => by rw [upd_ne (ne_of_none e' hA)]; exact h.s b o e', h.ne, ⟨_, upd_same, by rw [wo_updA h.ne]; exact pr_app ga (.cons ⟨b, rfl, at_⟩ .nil)⟩, ⟨zs, by rw [upd_ne (Ne.symm h.ne)]; exact eb', by rw [wo_updA h.ne]; exact gb⟩⟩
theorem Sy.pushB (h : Sy H2 A B known stack G) (hB : H2 B = none) {zs : List V} {b : Addr} (e : G B = some (.lst zs)) (eb : G b = some (.tup [onV x.1, onV x.2])) : Sy H2 A B known (stack ++ [x]) (upd G B (.lst (zs ++ [.ref b]))) := by
  have at_ := h.at_ eb
  obtain ⟨xs, ea, ga⟩ := h.a
  obtain ⟨zs', eb', gb⟩ := h.b
  rw [e] at eb'
  injection eb' with eb'
  injection eb' with eb'
  subst eb'
  exact ⟨fun b o e' => by rw [upd_ne (ne_of_none e' hB)]; exact h.s b o e', h.ne, ⟨xs, by rw [upd_ne h.ne]; exact ea, by rw [wo_updB h.ne]; exact ga⟩, ⟨_, upd_same, by rw [wo_updB h.ne]; exact pr_app gb (.cons ⟨b, rfl, at_⟩ .nil)⟩⟩
theorem pr_unsnoc {α β : Type} {F : α → β → Prop} : ∀ {xs : List α} {ys : List β} {a : α} {b : β}, Paired F (xs ++ [a]) (ys ++ [b]) → Paired F xs ys ∧ F a b
  | [], [], _, _, .cons h .nil => ⟨.nil, h⟩
  | [], y :: ys, a, b, h => by
    have := pr_len h
    simp at this
  | x :: xs, [], a, b, h => by
    have := pr_len h
    simp at this
  | x :: xs, y :: ys, a, b, .cons h t => by
    have r := pr_unsnoc t
    exact ⟨.cons h r.1, r.2⟩
theorem Sy.pop {zs : List V} (h : Sy H2 A B known stack G) (hB : H2 B = none) (e : G B = some (.lst zs)) (ne : stack ≠ []) : ∃ st x b, stack = st ++ [x] ∧ zs[zs.length - 1]? = some (V.ref b) ∧ G b = some (.tup [onV x.1, onV x.2]) ∧ b ≠ B ∧ Sy H2 A B known st (upd G B (.lst zs.dropLast)) := by
  obtain ⟨xs, ea, ga⟩ := h.a
  obtain ⟨zs', eb', gb⟩ := h.b
  rw [e] at eb'
  injection eb' with eb'
  injection eb' with eb'
  subst eb'
  have ll := pr_len gb
  obtain ⟨st, x, rfl⟩ : ∃ st x, stack = st ++ [x] := ⟨stack.dropLast, stack.getLast ne, (List.dropLast_concat_getLast ne).symm⟩
  obtain ⟨zt, v, rfl⟩ : ∃ zt v, zs = zt ++ [v] := by
    have : zs ≠ [] := fun z => by rw [z] at ll; simp at ll
    exact ⟨zs.dropLast, zs.getLast this, (List.dropLast_concat_getLast this).symm⟩
  obtain ⟨h1, b, rfl, hb⟩ := pr_unsnoc gb
  have nB : b ≠ B := fun z => by rw [z, wo_at] at hb; cases hb
  have nA : b ≠ A := fun z => by rw [z, wo_ne h.ne, wo_at] at hb; cases hb
  rw [wo_ne nB, wo_ne nA] at hb
  refine ⟨st, x, b, rfl, by simp, hb, nB, fun b o e' => by rw [upd_ne (ne_of_none e' hB)]; exact h.s b o e', h.ne, ⟨xs, by rw [upd_ne h.ne]; exact ea, by rw [wo_updB h.ne]; exact ga⟩, ⟨_, upd_same, ?_⟩⟩
  rw [wo_updB h.ne, List.dropLast_concat]
  exact h1
theorem Sy.dp {K : PySem.W.Frag} (h : Sy H2 A B known stack G) : Dp K G (.ref A) (.list (known.map prD)) := by
  obtain ⟨xs, ea, ga⟩ := h.a
  exact .lst (SqL.of ea) (prl_dp (prl_ext (fun b o e => wo_le (wo_le e)) ga))
theorem Sy.start {b1 b2 : Addr} (h1 : H2 b1 = none) (hA : (upd H2 b1 (.tup [onV x.1, onV x.2])) A = none) (h2 : (upd (upd H2 b1 (.tup [onV x.1, onV x.2])) A (.lst [.ref b1])) b2 = none) (hB : (upd (upd (upd H2 b1 (.tup [onV x.1, onV x.2])) A (.lst [.ref b1])) b2 (.tup [onV x.1, onV x.2])) B = none) :
    H2 A = none ∧ H2 B = none ∧ Sy H2 A B [x] [x] (upd (upd (upd (upd H2 b1 (.tup [onV x.1, onV x.2])) A (.lst [.ref b1])) b2 (.tup [onV x.1, onV x.2])) B (.lst [.ref b2])) := by
  have n1 : A ≠ b1 := fun e => by rw [e, upd_same] at hA; cases hA
  have n2 : b2 ≠ A := fun e => by rw [e, upd_same] at h2; cases h2
  rw [upd_ne n2] at h2
  have n3 : b2 ≠ b1 := fun e => by rw [e, upd_same] at h2; cases h2
  have n4 : B ≠ b2 := fun e => by rw [e, upd_same] at hB; cases hB
  rw [upd_ne n4] at hB
  have n5 : B ≠ A := fun e => by rw [e, upd_same] at hB; cases hB
  rw [upd_ne n5] at hB
  have n6 : B ≠ b1 := fun e => by rw [e, upd_same] at hB; cases hB
  rw [upd_ne n6] at hB
  rw [upd_ne n3] at h2
  rw [upd_ne n1] at hA
  refine ⟨hA, hB, fun b o e => ?_, Ne.symm n5, ⟨_, by rw [upd_ne (Ne.symm n5), upd_ne (Ne.symm n2), upd_same], .cons ⟨b1, rfl, ?_⟩ .nil⟩, ⟨_, upd_same, .cons ⟨b2, rfl, ?_⟩ .nil⟩⟩
  · rw [upd_ne (ne_of_none e hB), upd_ne (ne_of_none e h2), upd_ne (ne_of_none e hA), upd_ne (ne_of_none e h1)]; exact e
  · rw [wo_ne (Ne.symm n6), wo_ne (Ne.symm n1), upd_ne (Ne.symm n6), upd_ne (Ne.symm n3), upd_ne (Ne.symm n1), upd_same]
  · rw [wo_ne (Ne.symm n4), wo_ne n2, upd_ne (Ne.symm n4), upd_same]
end
section
variable {P : Program} {w : World} {K : PySem.W.Frag} {mg : Str → Option Value} {base : Heap}
theorem ok_law_is_steady (T : Txt K mg w) : FnOk P w K mg base CX0 2 T.f_law_is_steady T.fd_law_is_steady ["plain", "kinds"] (fun vs H Q _ => ∃ r kr D xs ks, vs = [.ref r, .ref kr] ∧ LPl K H r D ∧ H kr = some (.lst xs) ∧ Paired (MvAt H) xs ks ∧ ks.length ≤ 100 ∧ (∀ k ∈ ks, okK D.sg k) ∧
    ∀ b, (b = true ↔ D.steady ks) → ∀ H', Same H H' → Q (.bl b) H') := by
  refine T.F_law_is_steady.ok sc_law_is_steady (fun vs H Q E h => ?_) (fun cdv A outer s0 H vs Q E hr h => ?_)
  · obtain ⟨r, kr, D, xs, ks, rfl, _⟩ := h; rfl
  · obtain ⟨r, kr, D, xs, ks, rfl, hp, hk, hks, lk, gk, q⟩ := h
    refine ⟨_, (pss_cons (ps_setLc (i := 2) (own := [("sign", 3)]) (g := gName 3) (by rfl) sc_law_is_steady.nd rfl rfl (sw_true rfl rfl rfl (by decide +kernel)) (pi_range1 rfl T.z_range (pa_cons (pe_ix ix_list (pv 0) pe_int (fun _ _ => rfl)) pa_nil)) (blkOk_by (own := [("sign", 3)]) (N := N_law_is_steady) (sc := defScope s_law_is_steady) (by decide +kernel)) (fun _ _ _ _ _ => pg_name (i := 3) sc_law_is_steady.nd rfl (Or.inl rfl)) (fun _ _ _ _ _ => pts_nil) (fun _ _ _ _ _ => (pe_tup (pa_cons (pv 3) (pa_cons (pv 3) pa_nil)))))
      (pss_cons (ps_for PassesOwn.never rfl (pi_list (pv 1)) (pg_name (i := 4) sc_law_is_steady.nd rfl (Or.inl rfl)) (pss_one (ps_expr (pe_bm PySem.F.plainAttrs_list PySem.F.slot_list_append PySem.F.type_list_append mt_append (pv 2) (pa_cons (pe_tup (pa_cons (pe_ifExp (pt_cmpR op_eq (pe_ix ix_tup (pv 4) pe_int (fun _ _ => rfl)) pe_str (nomark _)) pe_non (pe_ix ix_tup (pv 4) pe_int (fun _ _ => rfl))) (pa_cons (pe_ifExp (pt_cmpR op_eq (pe_ix ix_tup (pv 4) pe_int (fun _ _ => rfl)) pe_str (nomark _)) pe_non (pe_ix ix_tup (pv 4) (pe_un un_neg pe_int) (fun _ _ => rfl))) pa_nil))) pa_nil)))))
      (pss_cons (ps_par (i := 5) (j := 6) (by rfl) sc_law_is_steady.nd rfl rfl (by decide) rfl rfl (pa_cons (pe_lst (pa_cons (pe_tup (pa_cons pe_int (pa_cons pe_int pa_nil))) pa_nil)) (pa_cons (pe_lst (pa_cons (pe_tup (pa_cons pe_int (pa_cons pe_int pa_nil))) pa_nil)) pa_nil)) (by rfl))
      (pss_cons (ps_while PassesOwn.never (pt_cmpR (op_ne_nil (un0 hr)) (pv 6) (pe_lst pa_nil) (nomark _)) (pss_cons (ps_asg (pe_bm0 PySem.F.plainAttrs_list PySem.F.slot_list_pop PySem.F.type_list_pop mt_pop (pv 6)) (pg_tup rfl (pgs_cons (pg_name (i := 7) sc_law_is_steady.nd rfl (Or.inl rfl)) (pgs_cons (pg_name (i := 8) sc_law_is_steady.nd rfl (Or.inl rfl)) pgs_nil))))
      (pss_cons (ps_if (pt_cmpR op_ne (pe_call (ok_law_accepts T) (hr.mono (by decide)) rfl T.g_law_accepts T.F_law_accepts.kp T.b_law_accepts .nil pass0 (pa_cons (pv 0) (pa_cons (pv 7) pa_nil))) (pe_call (ok_law_accepts T) (hr.mono (by decide)) rfl T.g_law_accepts T.F_law_accepts.kp T.b_law_accepts .nil pass0 (pa_cons (pv 0) (pa_cons (pv 8) pa_nil))) (nomark _)) (pss_one (ps_ret pe_bl)) pss_nil)
      (pss_one (ps_for PassesOwn.never rfl (pi_list (pv 2)) (pg_tup rfl (pgs_cons (pg_name (i := 9) sc_law_is_steady.nd rfl (Or.inl rfl)) (pgs_cons (pg_name (i := 10) sc_law_is_steady.nd rfl (Or.inl rfl)) pgs_nil))) (pss_cons (ps_set (i := 11) sc_law_is_steady.nd rfl (Or.inl rfl) (pe_tup (pa_cons (pe_call (ok_law_behind T) (hr.mono (by decide)) rfl T.g_law_behind T.F_law_behind.kp T.b_law_behind .nil pass0 (pa_cons (pv 0) (pa_cons (pv 7) (pa_cons (pv 9) pa_nil)))) (pa_cons (pe_call (ok_law_behind T) (hr.mono (by decide)) rfl T.g_law_behind T.F_law_behind.kp T.b_law_behind .nil pass0 (pa_cons (pv 0) (pa_cons (pv 8) (pa_cons (pv 10) pa_nil)))) pa_nil))))
      (pss_one (ps_if (pt_cmpR (op_notInD (un65 hr)) (pv 11) (pv 5) (by rfl)) (pss_cons (ps_expr (pe_bm PySem.F.plainAttrs_list PySem.F.slot_list_append PySem.F.type_list_append mt_append (pv 5) (pa_cons (pv 11) pa_nil)))
      (pss_one (ps_expr (pe_bm PySem.F.plainAttrs_list PySem.F.slot_list_append PySem.F.type_list_append mt_append (pv 6) (pa_cons (pv 11) pa_nil))))) pss_nil))))))))
      (pss_one (ps_ret pe_bl)))))), ?_⟩
    have z2 : 2 ≤ sizeLine := by decide
    have ok : D.ok := by obtain ⟨_, _, _, _, _, ok⟩ := hp; exact ok
    obtain ⟨Sa, Ea, hp0, _⟩ := id hp
    have s5 := ok.s5
    try dsimp only [L2.gName, L2.tSeq, L2.tAsg, L2.tRet, L2.tNext, L2.tPar3, L2.tPar]
    refine ⟨_, rfl, r, _, _, _, rfl, rfl, hp0, atI_nat (j := 0) rfl, (D.sg : Nat), rfl, by omega, by omega, fun L hL => ?_⟩
    rw [Int.toNat_natCast]
    refine lc_range (lo := 0) (n := D.sg) (fun i H' => Same H H' ∧ ∃ acc, H' L = some (.lst acc) ∧ Paired (PrL (wo H' L)) acc ((List.range i).map fun a : Nat => (some a, some a))) ⟨Same.new (Same.refl _) hL, [], upd_same, .nil⟩ ?_ ?_
    · rintro i H1 hi ⟨s1, acc, e1, g1⟩
      refine ⟨rfl, tYesT ⟨_, rfl, _, rfl, z2, fun b hb => ⟨acc, ?_, ?_, ?_, _, upd_same, ?_⟩⟩⟩
      · rw [upd_ne (ne_of_none e1 hb)]; exact e1
      · have := pr_len g1
        rw [List.length_map, List.length_range] at this
        rw [this]; exact Nat.lt_of_le_of_lt (by omega : i ≤ 5) (by decide)
      · intro b' o e
        rw [upd_ne (ne_of_none e hL), upd_ne (ne_of_none (s1 _ _ e) hb)]; exact s1 b' o e
      · rw [wo_upd, List.range_succ, List.map_append]
        refine pr_app (prl_ext (Kp.of (Same.new (Same.refl _) hb)).wo g1) (.cons ⟨b, rfl, ?_⟩ .nil)
        rw [wo_newt hb e1]
        show some (HO.tup [V.int (0 + (i : Nat)), V.int (0 + (i : Nat))]) = some (HO.tup [.int (i : Nat), .int (i : Nat)])
        rw [Int.zero_add]
    rintro H1 ⟨s1, acc, e1, g1⟩
    try dsimp only [L2.gName, L2.tSeq, L2.tAsg, L2.tRet, L2.tNext, L2.tPar3, L2.tPar]
    refine ⟨_, rfl, kr, rfl, ⟨xs, SqL.of (s1 _ _ hk)⟩, for_list (K := K) (a := kr) (xs := xs) (fun i σ H' => ∃ x4, σ = [some (.ref r), some (.ref kr), some (.ref L), none, x4, none, none, none, none, none, none, none] ∧ Same H H' ∧ ∃ acc, H' L = some (.lst acc) ∧ Paired (PrL (wo H' L)) acc (((List.range D.sg).map fun a : Nat => (some a, some a)) ++ (ks.take i).map mvL))
      ⟨_, rfl, s1, acc, e1, by simpa using g1⟩ (fun i σ H' _ ⟨_, _, s, _⟩ => SqL.of (s _ _ hk)) ?_ ?_⟩
    · rintro i x σ H2 hx ⟨x4, rfl, s2, acc2, e2, g2⟩
      obtain ⟨m, hm, bm, rfl, hbm⟩ := pr_get hks hx
      have hbm := s2 _ _ hbm
      have gm := gk m (List.mem_of_getElem? hm)
      try dsimp only [L2.gName, L2.tSeq, L2.tAsg, L2.tRet, L2.tNext, L2.tPar3, L2.tPar]
      refine ⟨_, rfl, .inl ⟨rfl, _, SqL.of e2⟩, ?_⟩
      have fin : ∀ b, H2 b = none → ∃ l xs y, V.ref L = .ref l ∧ [V.ref b] = [y] ∧ (upd H2 b (.tup [onV (mvL m).1, onV (mvL m).2])) l = some (.lst xs) ∧ xs.length < sizeLine ∧ ∃ x4, [some (V.ref r), some (V.ref kr), some (V.ref L), none, some (V.ref bm), none, none, none, none, none, none, none] = [some (.ref r), some (.ref kr), some (.ref L), none, x4, none, none, none, none, none, none, none] ∧ Same H (upd (upd H2 b (.tup [onV (mvL m).1, onV (mvL m).2])) l (.lst (xs ++ [y]))) ∧ ∃ acc, (upd (upd H2 b (.tup [onV (mvL m).1, onV (mvL m).2])) l (.lst (xs ++ [y]))) L = some (.lst acc) ∧ Paired (PrL (wo (upd (upd H2 b (.tup [onV (mvL m).1, onV (mvL m).2])) l (.lst (xs ++ [y]))) L)) acc (((List.range D.sg).map fun a : Nat => (some a, some a)) ++ (ks.take (i + 1)).map mvL) := fun b hb => by
        refine ⟨L, acc2, _, rfl, rfl, by rw [upd_ne (ne_of_none e2 hb)]; exact e2, ?_, _, rfl, fun b' o e => ?_, _, upd_same, ?_⟩
        · have := pr_len g2
          rw [List.length_append, List.length_map, List.length_map, List.length_range, List.length_take] at this
          rw [this]; exact Nat.lt_of_le_of_lt (by omega : D.sg + min i ks.length ≤ 200) (by decide)
        · rw [upd_ne (ne_of_none e hL), upd_ne (ne_of_none (s2 _ _ e) hb)]; exact s2 b' o e
        · rw [wo_upd, List.take_add_one, hm, List.map_append, ← List.append_assoc]
          refine pr_app (prl_ext (Kp.of (Same.new (Same.refl _) hb)).wo g2) (.cons ⟨b, rfl, ?_⟩ .nil)
          exact wo_newt hb e2
      cases m with
      | put a' =>
        obtain ⟨k, rfl⟩ : ∃ k : Nat, a' = k := ⟨a'.toNat, by have : 0 ≤ a' ∧ a' < D.sg := gm; omega⟩
        refine ⟨_, rfl, bm, _, _, _, rfl, rfl, .inl (.inl hbm), atI_nat (j := 0) rfl, rfl, _, rfl, iteT ?_⟩
        refine ⟨_, rfl, bm, _, _, _, rfl, rfl, .inl (.inl hbm), atI_nat (j := 0) rfl, rfl, _, rfl, iteF ?_⟩
        exact ⟨_, rfl, _, rfl, bm, _, _, _, rfl, rfl, .inl (.inl hbm), atI_last [V.str (Str.ofString "put")] (V.int (k : Nat)), z2, fin⟩
      | los a' =>
        obtain ⟨k, rfl⟩ : ∃ k : Nat, a' = k := ⟨a'.toNat, by have : 0 ≤ a' ∧ a' < D.sg := gm; omega⟩
        refine ⟨_, rfl, bm, _, _, _, rfl, rfl, .inl (.inl hbm), atI_nat (j := 0) rfl, rfl, _, rfl, iteF ⟨_, rfl, bm, _, _, _, rfl, rfl, .inl (.inl hbm), atI_nat (j := 1) rfl, ?_⟩⟩
        refine ⟨_, rfl, bm, _, _, _, rfl, rfl, .inl (.inl hbm), atI_nat (j := 0) rfl, rfl, _, rfl, iteT ?_⟩
        exact ⟨z2, fin⟩
      | sam a' => exact gm.elim
      | tur a' b' =>
        obtain ⟨k, rfl⟩ : ∃ k : Nat, a' = k := ⟨a'.toNat, by have : (0 ≤ a' ∧ a' < D.sg) ∧ (0 ≤ b' ∧ b' < D.sg) ∧ a' ≠ b' := gm; omega⟩
        obtain ⟨k', rfl⟩ : ∃ k : Nat, b' = k := ⟨b'.toNat, by have : (0 ≤ (k : Int) ∧ (k : Int) < D.sg) ∧ (0 ≤ b' ∧ b' < D.sg) ∧ (k : Int) ≠ b' := gm; omega⟩
        refine ⟨_, rfl, bm, _, _, _, rfl, rfl, .inl (.inl hbm), atI_nat (j := 0) rfl, rfl, _, rfl, iteF ⟨_, rfl, bm, _, _, _, rfl, rfl, .inl (.inl hbm), atI_nat (j := 1) rfl, ?_⟩⟩
        refine ⟨_, rfl, bm, _, _, _, rfl, rfl, .inl (.inl hbm), atI_nat (j := 0) rfl, rfl, _, rfl, iteF ?_⟩
        exact ⟨_, rfl, _, rfl, bm, _, _, _, rfl, rfl, .inl (.inl hbm), atI_last [V.str (Str.ofString "turned"), V.int (k : Nat)] (V.int (k' : Nat)), z2, fin⟩
    · rintro σ H2 ⟨x4, rfl, s2, acc2, e2, g2⟩
      rw [pr_len hks, List.take_length] at g2
      have hmls : Paired (PrL H2) acc2 (((List.range D.sg).map fun a : Nat => (some a, some a)) ++ ks.map mvL) := prl_ext (wo_same _ _) g2
      obtain ⟨mls, emls⟩ : ∃ mls, mls = (((List.range D.sg).map fun a : Nat => ((some a, some a) : Option Nat × Option Nat)) ++ ks.map mvL) := ⟨_, rfl⟩
      rw [← emls] at hmls
      have sub : ∀ m ∈ mls, ∃ k ∈ ks ++ D.frees, m = mvL k := fun m hm => by
        rw [emls] at hm
        rcases List.mem_append.mp hm with z | z
        · obtain ⟨a, ha, rfl⟩ := List.mem_map.mp z
          exact ⟨.sam a, List.mem_append_right _ (List.mem_map.mpr ⟨a, ha, rfl⟩), rfl⟩
        · obtain ⟨k, hk, rfl⟩ := List.mem_map.mp z
          exact ⟨k, List.mem_append_left _ hk, rfl⟩
      have sup : ∀ k ∈ ks ++ D.frees, mvL k ∈ mls := fun k hk => by
        rw [emls]
        rcases List.mem_append.mp hk with z | z
        · exact List.mem_append_right _ (List.mem_map.mpr ⟨k, z, rfl⟩)
        · unfold Dcd.frees at z
          obtain ⟨a, ha, rfl⟩ := List.mem_map.mp z
          exact List.mem_append_left _ (List.mem_map.mpr ⟨a, ha, rfl⟩)
      have r1 : ∀ {x}, Rch D.ml mls (some 0, some 0) x → Rch D.mv (ks ++ D.frees) (some 0, some 0) x := fun r => r.mono fun m hm => by
        obtain ⟨k, hk, rfl⟩ := sub m hm
        exact ⟨k, hk, (D.ml_mv k).symm⟩
      have r2 : ∀ {x}, Rch D.mv (ks ++ D.frees) (some 0, some 0) x → Rch D.ml mls (some 0, some 0) x := fun r => r.mono fun k hk => ⟨mvL k, sup k hk, D.ml_mv k⟩
      have std : D.steady ks ↔ ∀ x, Rch D.ml mls (some 0, some 0) x → D.evn x = true := ⟨fun h x r => h x (r1 r), fun h x r => h x (r2 r)⟩
      have okm : ∀ m ∈ mls, (∀ b, m.1 = some b → b < D.sg) ∧ ∀ b, m.2 = some b → b < D.sg := fun m hm => by
        obtain ⟨k, hk, rfl⟩ := sub m hm
        have : okM D.sg k := by
          rcases List.mem_append.mp hk with z | z
          · exact (gk k z).okM
          · unfold Dcd.frees at z
            obtain ⟨a, ha, rfl⟩ := List.mem_map.mp z
            have := List.mem_range.mp ha
            exact ⟨by omega, by omega⟩
        cases k with
        | los a => have h : 0 ≤ a ∧ a < D.sg := this; exact ⟨fun b e => by injection e with e; omega, fun b e => by cases e⟩
        | put a => have h : 0 ≤ a ∧ a < D.sg := this; exact ⟨fun b e => by (cases e), fun b e => by injection e with e; omega⟩
        | sam a => have h : 0 ≤ a ∧ a < D.sg := this; exact ⟨fun b e => by injection e with e; omega, fun b e => by injection e with e; omega⟩
        | tur a c => have h : (0 ≤ a ∧ a < D.sg) ∧ (0 ≤ c ∧ c < D.sg) := this; exact ⟨fun b e => by injection e with e; omega, fun b e => by injection e with e; omega⟩
      have z1 : 1 ≤ sizeLine := by decide
      try dsimp only [L2.gName, L2.tSeq, L2.tAsg, L2.tRet, L2.tNext, L2.tPar3, L2.tPar]
      refine ⟨z2, fun b1 hb1 => ⟨z1, fun A hA => ⟨z2, fun b2 hb2 => ⟨z1, fun B hB => ⟨_, _, rfl, ?_⟩⟩⟩⟩⟩
      obtain ⟨hA2, hB2, sy0⟩ := Sy.start (x := (some 0, some 0)) hb1 hA hb2 hB
      refine ⟨fun m σ G => ∃ known stack x7 x8 x9 x10 x11, σ = [some (.ref r), some (.ref kr), some (.ref L), none, x4, some (.ref A), some (.ref B), x7, x8, x9, x10, x11] ∧ Sy H2 A B known stack G ∧ Srch D.ml mls (some 0, some 0) D.evn known stack ∧ m = 2 * (1681 - known.length) + stack.length ∧ m ≤ 3362,
        ⟨_, [(some 0, some 0)], [(some 0, some 0)], none, none, none, none, none, rfl, sy0, Srch.start, rfl, by decide⟩, ?_⟩
      clear sy0 hb1 hA hb2 hB
      rintro m σ G ⟨known, stack, x7, x8, x9, x10, x11, rfl, sy, sr, rfl, mle⟩
      have bnd := prs_bound ok sr.nd fun x hx => r1 (sr.r x hx)
      obtain ⟨zs, eB, hzs⟩ := sy.b
      have lzs : zs.length = stack.length := pr_len hzs
      refine ⟨_, rfl, (by show 0 ≤ sizeLine; decide), fun e he => ?_⟩
      have sy' := sy.new he (.lst [])
      have eB' : (upd G e (.lst [])) B = some (.lst zs) := by rw [upd_ne (ne_of_none eB he)]; exact eB
      refine ⟨B, e, zs, rfl, rfl, eB', upd_same, _, rfl, ?_⟩
      clear sy eB hzs
      generalize upd G e (.lst []) = G0 at sy' eB' ⊢
      by_cases ne : stack = []
      · subst ne
        have zn : zs = [] := List.eq_nil_of_length_eq_zero lzs
        subst zn
        exact iteF (q true ⟨fun _ => std.mpr sr.steady, fun _ => rfl⟩ _ (s2.trans sy'.s))
      have zne : (!decide (zs = [])) = true := by
        rw [decide_eq_false (fun z => ne (List.eq_nil_of_length_eq_zero (by rw [← lzs, z]; rfl)))]; rfl
      rw [zne]
      obtain ⟨st, x, b, rfl, ev, eb, nb, sy1⟩ := sy'.pop hB2 eB' ne
      refine iteT ⟨fun σ' G' => ∃ m', m' < 2 * (1681 - known.length) + (st ++ [x]).length ∧ ∃ known' stack' x7 x8 x9 x10 x11, σ' = [some (.ref r), some (.ref kr), some (.ref L), none, x4, some (.ref A), some (.ref B), x7, x8, x9, x10, x11] ∧ Sy H2 A B known' stack' G' ∧ Srch D.ml mls (some 0, some 0) D.evn known' stack' ∧ m' = 2 * (1681 - known'.length) + stack'.length ∧ m' ≤ 3362, fun σ' G' z => z, ?_⟩
      have eb1 : (upd G0 B (.lst zs.dropLast)) b = some (.tup [onV x.1, onV x.2]) := by rw [upd_ne nb]; exact eb
      generalize hG1 : upd G0 B (.lst zs.dropLast) = G1 at sy1 eb1
      refine ⟨_, rfl, .inl ⟨rfl, zs, SqL.of eB'⟩, B, zs, _, rfl, rfl, eB', ev, ?_⟩
      rw [hG1]
      have hx : okP D x := okP.rch ok (r1 (sr.r x (sr.st x (List.mem_append_right _ (by simp)))))
      refine ⟨b, _, rfl, .inl (.inl eb1), rfl, _, _, rfl, _, _, rfl, rfl, ?_⟩
      have hp1 := hp.ext (s2.trans sy1.s)
      refine ⟨_, rfl, _, rfl, r, D, x.1, rfl, hp1, hx.1, _, rfl, _, rfl, r, D, x.2, rfl, hp1, hx.2, rfl, _, rfl, ?_⟩
      have hev : (!decide (V.bl (D.acc x.1) = V.bl (D.acc x.2))) = !D.evn x := by
        rw [dec_bl]; rfl
      rw [hev]
      cases hgood : D.evn x with
      | false =>
        exact iteT (q false ⟨nofun, fun z => absurd (std.mp z) (sr.bad hgood)⟩ _ (s2.trans sy1.s))
      | true =>
      refine iteF ?_
      rw [List.length_append, List.length_singleton] at mle
      refine ⟨_, rfl, L, rfl, ⟨acc2, SqL.of (sy1.s _ _ e2)⟩, for_list (K := K) (a := L) (xs := acc2) (fun i σ' G' => ∃ known' stack' x9 x10 x11, σ' = [some (.ref r), some (.ref kr), some (.ref L), none, x4, some (.ref A), some (.ref B), some (onV x.1), some (onV x.2), x9, x10, x11] ∧ Sy H2 A B known' stack' G' ∧ SrchAt D.ml mls (some 0, some 0) D.evn x i known' stack' ∧ 2 * (1681 - known'.length) + stack'.length ≤ 2 * (1681 - known.length) + st.length) ⟨known, st, x9, x10, x11, rfl, sy1, sr.pop hgood, Nat.le_refl _⟩ (fun i σ' G' _ h => ?_) ?_ ?_⟩
      · obtain ⟨_, _, _, _, _, _, sy2, _⟩ := h
        exact SqL.of (sy2.s _ _ e2)
      · rintro i vm σ' G' hvm ⟨known', stack', x9, x10, x11, rfl, sy2, sa, lt⟩
        obtain ⟨m, hm, bm, rfl, hbm⟩ := pr_get hmls hvm
        have hbm := sy2.s _ _ hbm
        have om := okm m (List.mem_of_getElem? hm)
        have hpG := hp.ext (s2.trans sy2.s)
        refine ⟨bm, _, rfl, .inl (.inl hbm), rfl, _, _, rfl, _, _, rfl, rfl, ?_⟩
        try dsimp only [L2.gName, L2.tSeq, L2.tAsg, L2.tRet, L2.tNext, L2.tPar3, L2.tPar]
        refine ⟨_, rfl, _, rfl, _, rfl, r, D, x.1, m.1, rfl, hpG, hx.1, om.1, _, rfl, _, rfl, _, rfl, r, D, x.2, m.2, rfl, hpG, hx.2, om.2, z2, fun t ht => ?_⟩
        have sy3 := sy2.new ht (.tup [onV (D.bh x.1 m.1), onV (D.bh x.2 m.2)])
        have et : (upd G' t (.tup [onV (D.bh x.1 m.1), onV (D.bh x.2 m.2)])) t = some (.tup [onV (D.ml m x).1, onV (D.ml m x).2]) := upd_same
        generalize upd G' t (.tup [onV (D.bh x.1 m.1), onV (D.bh x.2 m.2)]) = G2 at sy3 et
        refine ⟨_, rfl, _, rfl, prD (D.ml m x), known'.map prD, PrL.dp ⟨t, rfl, et⟩, sy3.dp, shaped_pr _, shaped_prs _, _, rfl, ?_⟩
        rw [any_pr]
        by_cases hv : D.ml m x ∈ known'
        · rw [decide_eq_true hv]
          exact iteF ⟨known', stack', _, _, _, rfl, sy3, sa.old hm hv, lt⟩
        · rw [decide_eq_false hv]
          have sa2 := sa.new hm hv
          have bnd2 := prs_bound ok sa2.nd fun x hx => r1 (sa2.r x hx)
          rw [List.length_append, List.length_singleton] at bnd2
          obtain ⟨xs3, eA3, g3⟩ := sy3.a
          have lx3 := pr_len g3
          refine iteT ⟨_, rfl, .inl ⟨rfl, _, SqL.of eA3⟩, _, rfl, A, xs3, _, rfl, rfl, eA3, Nat.lt_of_le_of_lt (by omega : xs3.length ≤ 1681) (by decide), ?_⟩
          have sy4 := sy3.pushA (x := D.ml m x) hA2 eA3 et
          have et4 : (upd G2 A (.lst (xs3 ++ [.ref t]))) t = some (.tup [onV (D.ml m x).1, onV (D.ml m x).2]) := by
            rw [upd_ne (fun z => by rw [z, eA3] at et; cases et)]; exact et
          generalize upd G2 A (.lst (xs3 ++ [.ref t])) = G4 at sy4 et4
          obtain ⟨zs4, eB4, g4⟩ := sy4.b
          have lz4 := pr_len g4
          refine ⟨_, rfl, .inl ⟨rfl, _, SqL.of eB4⟩, _, rfl, B, zs4, _, rfl, rfl, eB4, Nat.lt_of_le_of_lt (by omega : zs4.length ≤ 5000) (by decide), _, _, _, _, _, rfl, sy4.pushB (x := D.ml m x) hB2 eB4 et4, sa2, ?_⟩
          rw [List.length_append, List.length_append, List.length_singleton]
          have e1 : [D.ml m x].length = 1 := rfl
          omega
      · rintro σ' G' ⟨known', stack', x9, x10, x11, rfl, sy2, sa, lt⟩
        rw [pr_len hmls] at sa
        exact ⟨_, by rw [List.length_append, List.length_singleton]; omega, known', stack', _, _, x9, x10, x11, rfl, sy2, sa.done, rfl, by omega⟩
end
end My

set_option Elab.async false
set_option linter.all false
set_option maxRecDepth 100000
set_option maxHeartbeats 4000000
/-! What a suite of a try asks, said with its own K. -/
namespace My
open PySem PySem.Spec PyProof.Rows L2
theorem call_reprGK {X : Cx} {K : PySem.W.Frag} (e : X.K = K) (hc : X.A.guards = some []) (hu : X.A.units + 64 < cLine) : CallR X (.builtin "repr") (rReprG K) := by subst e; exact call_reprG hc hu
theorem pe_bm_K {X : Cx} {K : PySem.W.Frag} (ek : X.K = K) {o e : Expr} {es : List Expr} {to : TE} {t : TA} {name : Str} {apos cpos : Pos} {T id : String} {r : V → List V → Hp → VK → Prop} (pa : PlainAttrs T) (slot : Slot T name id) (hty : typeOf (.builtin id) = pure (.type "method_descriptor")) (hm : MtR X id r) (ho : PE X o to) (ha : PA X (e :: es) t)
    (hbase : attributeBase o name X.env (eval o X.env) = eval o X.env := by rfl)
    (hfew : ((backTo cpos (starEach (e :: es) X.env)).all (fun x => !x.1) && (backToKw cpos (keywordEach [] X.env)).all (fun x => x.1.isSome)
      && decide ((e :: es).length + ([] : List Keyword).length + (if ([] : List Keyword).isEmpty then 0 else 1) < 30)) = true := by rfl)
    (hline : (apos.endLine == cpos.line) = true := by rfl) (hs : starEach (e :: es) X.env = (false, eval e X.env) :: starEach es X.env := by rfl) (hplain : (backTo cpos (starEach es X.env)).any (·.1) = false := by rfl) :
    PE X (.Call (.Attribute o name apos) (e :: es) [] cpos) (tBM K T r to t) := by
  subst ek; exact pe_bm pa slot hty hm ho ha hbase hfew hline hs hplain
end My

set_option Elab.async false
set_option linter.all false
set_option maxRecDepth 100000
set_option maxHeartbeats 8000000
namespace My
open PySem PySem.Spec PyProof.Rows L2
section
variable {P : Program} {w : World} {K : PySem.W.Frag} {mg : Str → Option Value} {base : Heap}
/-- what _law_refused hands back, and the list that has grown -/
def RefR (z : String) (H : Hp) (x : V) (d : PyData) (Q : VK) : Prop :=
  (isLstD d = false → ∀ r H', Same H H' → H r = none → H' r = some (.tup [.str (Str.ofString z), .str d.shown]) → Q (.ref r) H') ∧
  (isLstD d = true → ∃ a xs, x = .ref a ∧ H a = some (.lst xs) ∧ xs.length ≤ 1000 ∧ ∀ r H', Kp a H H' → H r = none → H' a = some (.lst (xs ++ [.int 7])) → H' r = some (.tup [.str (Str.ofString z), .str d.shown]) → Q (.ref r) H')
def spRef (T : Txt K mg w) : Sp := fun vs H Q _ => ∃ x y, vs = [x, y] ∧
  ((∃ d m, Dg K H m x d ∧ Sh d ∧ RefR "decoder" H x d Q) ∨
   (∃ o D e m, x = .ref o ∧ DecAt K T.C_Decoder H o D ∧ Dg K H m y e ∧ Sh e ∧ (itsD e).length ≤ 100000 ∧ (∀ k ∈ itsD e, Bd k) ∧ kindsB (.int (D.sg : Nat)) e = false ∧ RefR "kinds" H y e Q))
theorem ok_law_refused (T : Txt K mg w) : FnG P w K mg base CX0 9 T.f_law_refused T.fd_law_refused ["decoder", "kinds"] (spRef T) := by
  refine T.F_law_refused.okG sc_law_refused (fun vs H Q E h => ?_) (fun cdv A outer s0 H vs Q E hgd hr h => ?_)
  · obtain ⟨x, y, rfl, _⟩ := h; rfl
  · obtain ⟨x, y, rfl, h⟩ := h
    have hun := un64 hr
    refine ⟨_, (pss_cons (ps_tryAll (i := 2) rfl rfl sc_law_refused.nd rfl rfl takes0 (fun W pn xe tk _ => (pss_one (ps_expr (pe_callS (ok_is_steady T) (hr.mono (by decide)) rfl T.g_is_steady T.F_is_steady.kp T.b_is_steady (fun σ => passAt tk σ) (pa_cons (pv 0) (pa_cons (pv 1) pa_nil)))))) (.more ⟨rfl, by decide, Or.inl T.e_InvalidDecoder.gC⟩ (fun a oe cls d pn hz hf => (pss_cons (ps_set (i := 3) sc_law_refused.nd rfl (Or.inl rfl) (pe_tup (pa_cons pe_str (pa_cons (pe_callB (call_reprGK (K := K) rfl hgd hun) (by rfl) T.z_repr (by decide +kernel) (pa_cons (pe_gvn T.e_InvalidDecoder hz hf (pv 2)) pa_nil)) pa_nil))))
      (pss_cons (ps_if (pt_val (pe_callB (call_isi_K (K := K) rfl) (by rfl) T.z_isinstance (by decide +kernel) (pa_cons (pe_gvn T.e_InvalidDecoder hz hf (pv 2)) (pa_cons (pe_bltn (v := .ty "list") (u := .type "list") (by rfl) T.z_list (by decide +kernel) rfl) pa_nil)))) (pss_one (ps_expr (pe_bm_K (K := K) rfl PySem.F.plainAttrs_list PySem.F.slot_list_append PySem.F.type_list_append mt_append (pe_gvn T.e_InvalidDecoder hz hf (pv 2)) (pa_cons pe_int pa_nil)))) pss_nil)
      (pss_one (ps_ret (pv 3)))))) (.more ⟨rfl, by decide, Or.inl T.e_InvalidKinds.gC⟩ (fun a oe cls d pn hz hf => (pss_cons (ps_set (i := 3) sc_law_refused.nd rfl (Or.inl rfl) (pe_tup (pa_cons pe_str (pa_cons (pe_callB (call_reprGK (K := K) rfl hgd hun) (by rfl) T.z_repr (by decide +kernel) (pa_cons (pe_gvn T.e_InvalidKinds hz hf (pv 2)) pa_nil)) pa_nil))))
      (pss_cons (ps_if (pt_val (pe_callB (call_isi_K (K := K) rfl) (by rfl) T.z_isinstance (by decide +kernel) (pa_cons (pe_gvn T.e_InvalidKinds hz hf (pv 2)) (pa_cons (pe_bltn (v := .ty "list") (u := .type "list") (by rfl) T.z_list (by decide +kernel) rfl) pa_nil)))) (pss_one (ps_expr (pe_bm_K (K := K) rfl PySem.F.plainAttrs_list PySem.F.slot_list_append PySem.F.type_list_append mt_append (pe_gvn T.e_InvalidKinds hz hf (pv 2)) (pa_cons pe_int pa_nil)))) pss_nil)
      (pss_one (ps_ret (pv 3)))))) .last)))
      (pss_one (ps_ret pe_non))), ?_⟩
    have z2 : 2 ≤ sizeLine := by decide
    refine ⟨_, rfl, _, rfl, x, y, rfl, ?_⟩
    rcases h with ⟨d, m, hd, sh, hR⟩ | ⟨o, D, e, m, rfl, dec, hy, sh, hl, hb, hf, hR⟩
    · refine .inl ⟨d, m, hd, fun dd H1 s1 hdn ed => ?_⟩
      refine ⟨true, T.x_InvalidDecoder, fun _ a ha => ?_, fun z => by cases z⟩
      refine ⟨_, rfl, rfl, rfl, dd, _, rfl, ed, x, d, m, rfl, hd.ext s1, sh.1, sh.2.1, sh.2.2, z2, fun r hr => ?_⟩
      have s2 : Same H1 (upd H1 r (.tup [.str (Str.ofString "decoder"), .str (d).shown])) := Same.new (Same.refl _) hr
      have er : (upd H1 r (.tup [.str (Str.ofString "decoder"), .str (d).shown])) r = some (.tup [.str (Str.ofString "decoder"), .str (d).shown]) := upd_same
      generalize upd H1 r (.tup [.str (Str.ofString "decoder"), .str (d).shown]) = H2 at s2 er ⊢
      have ed2 := s2 _ _ ed
      have s02 := s1.trans s2
      refine ⟨_, rfl, rfl, rfl, dd, _, rfl, ed2, _, _, _, _, isLstD d, rfl, .ty _, (hd.ext s02).ty, kit_lstD d, _, rfl, ?_⟩
      have hrH := s1.free hr
      cases hl' : isLstD d with
      | false => exact iteF ⟨_, rfl, hR.1 hl' r _ s02 hrH er⟩
      | true =>
        obtain ⟨a', xs, rfl, ea, lx, q⟩ := hR.2 hl'
        have ea2 := s02 _ _ ea
        have nr : r ≠ a' := fun z => by rw [z, ea] at hrH; cases hrH
        exact iteT ⟨_, rfl, rfl, rfl, dd, _, rfl, ed2, .inl ⟨rfl, _, SqL.of ea2⟩, a', xs, _, rfl, rfl, ea2, Nat.lt_of_le_of_lt lx (by decide), _, rfl, q r _ ((Kp.of s02).upd) hrH upd_same (by rw [upd_ne nr]; exact er)⟩
    · refine .inr (.inl ⟨o, D, e, m, rfl, dec, hy, hl, hb, hf, fun dd H1 s1 hdn ed => ?_⟩)
      refine ⟨false, T.no_InvalidKinds_InvalidDecoder, (fun z => by cases z), fun _ => ⟨true, T.x_InvalidKinds, fun _ a ha => ?_, fun z => by cases z⟩⟩
      refine ⟨_, rfl, rfl, rfl, dd, _, rfl, ed, y, e, m, rfl, hy.ext s1, sh.1, sh.2.1, sh.2.2, z2, fun r hr => ?_⟩
      have s2 : Same H1 (upd H1 r (.tup [.str (Str.ofString "kinds"), .str (e).shown])) := Same.new (Same.refl _) hr
      have er : (upd H1 r (.tup [.str (Str.ofString "kinds"), .str (e).shown])) r = some (.tup [.str (Str.ofString "kinds"), .str (e).shown]) := upd_same
      generalize upd H1 r (.tup [.str (Str.ofString "kinds"), .str (e).shown]) = H2 at s2 er ⊢
      have ed2 := s2 _ _ ed
      have s02 := s1.trans s2
      refine ⟨_, rfl, rfl, rfl, dd, _, rfl, ed2, _, _, _, _, isLstD e, rfl, .ty _, (hy.ext s02).ty, kit_lstD e, _, rfl, ?_⟩
      have hrH := s1.free hr
      cases hl' : isLstD e with
      | false => exact iteF ⟨_, rfl, hR.1 hl' r _ s02 hrH er⟩
      | true =>
        obtain ⟨a', xs, rfl, ea, lx, q⟩ := hR.2 hl'
        have ea2 := s02 _ _ ea
        have nr : r ≠ a' := fun z => by rw [z, ea] at hrH; cases hrH
        exact iteT ⟨_, rfl, rfl, rfl, dd, _, rfl, ed2, .inl ⟨rfl, _, SqL.of ea2⟩, a', xs, _, rfl, rfl, ea2, Nat.lt_of_le_of_lt lx (by decide), _, rfl, q r _ ((Kp.of s02).upd) hrH upd_same (by rw [upd_ne nr]; exact er)⟩
end
end My

set_option Elab.async false
set_option linter.all false
set_option maxRecDepth 100000
set_option maxHeartbeats 8000000
namespace My
open PySem PySem.Spec PyProof.Rows L2
mutual
def ndD : PyData → Bool
  | .none => true
  | .int _ => true
  | .str _ => true
  | .bool _ => true
  | .list ds => ndAll ds
  | .tuple ds => ndAll ds
  | .dict _ => false
def ndAll : List PyData → Bool
  | [] => true
  | d :: ds => ndD d && ndAll ds
end
mutual
theorem dg_nd {K : PySem.W.Frag} {H : Hp} {m : Bool} : ∀ (d : PyData) (x : V), ndD d = true → Dg K H m x d → Dg K H false x d
  | .none, _, _, h => by cases h; exact .non
  | .int _, _, _, h => by cases h; exact .int _
  | .str _, _, _, h => by cases h; exact .str _
  | .bool _, _, _, h => by cases h; exact .bl _
  | .list ds, _, e, h => by
    have e' : ndAll ds = true := by simpa [ndD] using e
    cases h with
    | lst hs _ ha => exact .lst hs (fun z => by cases z) (dg_ndAll ds _ e' ha)
  | .tuple ds, _, e, h => by
    have e' : ndAll ds = true := by simpa [ndD] using e
    cases h with
    | tup hs ha => exact .tup hs (dg_ndAll ds _ e' ha)
  | .dict _, _, e, _ => by simp [ndD] at e
theorem dg_ndAll {K : PySem.W.Frag} {H : Hp} {m : Bool} : ∀ (ds : List PyData) (xs : List V), ndAll ds = true → DgAll K H m xs ds → DgAll K H false xs ds
  | [], _, _, h => by cases h; exact .nil
  | d :: ds, _, e, h => by
    have e' : ndD d = true ∧ ndAll ds = true := by simpa [ndAll] using e
    cases h with
    | cons h1 h2 => exact .cons (dg_nd d _ e'.1 h1) (dg_ndAll ds _ e'.2 h2)
end
/-- a closed value that is shown -/
def fitQ (d : PyData) : Bool := d.showable && (decide (d.depth ≤ 9) && (d.leavesShort 40 && (decide (d.weight ≤ 1000) && ndD d)))
theorem fitQ_of {d : PyData} (h : fitQ d = true) : Fit d 9 1000 ∧ ndD d = true := by
  unfold fitQ at h
  simp only [Bool.and_eq_true, decide_eq_true_eq] at h
  exact ⟨⟨h.1, h.2.1, h.2.2.1, h.2.2.2.1⟩, h.2.2.2.2⟩
theorem evI_neg {p : Addr} {σ : L2.St} {H : Hp} {te : TE} {i : Int} (h : EvI p te σ H i) : EvI p (tUn (rU fun i => .int (-i)) te) σ H (-i) := fun H1 k n Q q => h H1 k n _ fun H2 s2 => ⟨i, rfl, q H2 s2⟩
theorem next_at {D : Ends} {σ : L2.St} {H : Hp} (h : D.nx σ H) : tNext D σ H := h
theorem forL_at {K : PySem.W.Frag} {te : TE} {g : TG} {tb : TS} {D : Ends} {σ : L2.St} {H : Hp} (h : te σ H fun x H1 => ∃ a, x = .ref a ∧ (∃ xs, SqL K H1 a xs) ∧ ∃ W : Nat → Nat → L2.St → Hp → Prop, (∃ m, W 0 m σ H1) ∧ ∀ i m σ H, W i m σ H →
  ((Itl K a).stop i H ∧ D.nx σ H) ∨ ((Itl K a).go i H ∧ ∃ N : L2.St → Hp → Prop, (∀ σ' H', N σ' H' → ∃ m', m' < m ∧ W (i + 1) m' σ' H') ∧ ∀ x H', (Itl K a).yld i H x H' → g x σ H' fun σ2 H2 => tb { D with nx := N, ct := N, bk := D.nx } σ2 H2)) : tFor (iList K te) g tb D σ H := h
/-! ### data whose list stands in the heap itself -/
def HD (K : PySem.W.Frag) (U : Hp) (x : V) (d : PyData) : Prop := Dg K U false x d ∧ ∀ ds, d = .list ds → ∃ a xs, x = .ref a ∧ U a = some (.lst xs) ∧ DgAll K U false xs ds
theorem HD.ext {K : PySem.W.Frag} {U U' : Hp} {x : V} {d : PyData} (s : Same U U') (h : HD K U x d) : HD K U' x d := ⟨h.1.ext s, fun ds e => by
  obtain ⟨a, xs, e1, e2, e3⟩ := h.2 ds e
  exact ⟨a, xs, e1, s _ _ e2, e3.ext s⟩⟩
section
variable {K : PySem.W.Frag} {p : Addr} {σ : L2.St} {H : Hp} {w : Hp → Hp}
def EvH (K : PySem.W.Frag) (p : Addr) (w : Hp → Hp) (te : TE) (σ : L2.St) (H : Hp) (d : PyData) : Prop :=
  ∀ H1, Kp p H H1 → H1 p ≠ none → ∀ Q : VK, (∀ x H', Same H1 H' → HD K (w H') x d → Q x H') → te σ H1 Q
def EvHs (K : PySem.W.Frag) (p : Addr) (w : Hp → Hp) (ta : TA) (σ : L2.St) (H : Hp) (ds : List PyData) : Prop :=
  ∀ H1, Kp p H H1 → H1 p ≠ none → ∀ Q : List V → Hp → Prop, (∀ xs H', Same H1 H' → Paired (HD K (w H')) xs ds → Q xs H') → ta σ H1 Q
theorem evH_lst (R : Res p H w) {ta : TA} {ds : List PyData} (h : EvDs K false p w ta σ H ds) (l : ds.length ≤ 1000 := by simp) : EvH K p w (tLst ta) σ H (.list ds) :=
  fun H1 k n Q q => h H1 k n _ fun xs H2 s2 dxs => ⟨by rw [dxs.len]; exact Nat.le_trans l (by decide), fun r hr => by
    have s3 : Same H2 (upd H2 r (.lst xs)) := Same.new (Same.refl _) hr
    have er := R.new (o := .lst xs) (k.trans (Kp.of s2)) (same_at s2 n) hr
    have dd := dxs.rk R (Kp.of s3)
    exact q _ _ (s2.trans s3) ⟨.lst (SqL.of er) (fun z => by cases z) dd, fun ds' e => by injection e with e; subst e; exact ⟨r, xs, rfl, er, dd⟩⟩⟩
theorem evH_D {te : TE} {d : PyData} (h : EvD K false p w te σ H d) (nl : isLstD d = false) : EvH K p w te σ H d :=
  fun H1 k n Q q => h H1 k n _ fun x H2 s2 dx => q x H2 s2 ⟨dx, fun ds e => by rw [e] at nl; cases nl⟩
theorem evHs_nil : EvHs K p w tNil σ H [] := fun H1 _ _ Q q => q [] H1 (Same.refl _) .nil
theorem evHs_cons (R : Res p H w) {te : TE} {ta : TA} {d : PyData} {ds : List PyData} (h : EvH K p w te σ H d) (t : EvHs K p w ta σ H ds) : EvHs K p w (tCons te ta) σ H (d :: ds) :=
  fun H1 k n Q q => h H1 k n _ fun x H2 s2 dx => t H2 (k.trans (Kp.of s2)) (same_at s2 n) _ fun xs H3 s3 dxs => q _ _ (s2.trans s3) (.cons (dx.ext (R.kp (Kp.of s3))) dxs)
/-- a list display of such data -/
theorem evHs_here {ta : TA} {ds : List PyData} (R : Res p H w) (h : Res p H w → EvHs K p w ta σ H ds) (n : H p ≠ none) (l : ds.length ≤ 1000) {Q : VK} (q : ∀ r xs H', Same H H' → H r = none → H' r = some (.lst xs) → Paired (HD K (w H')) xs ds → Q (.ref r) H') : tLst ta σ H Q :=
  h R H (Kp.refl p H) n _ fun xs H2 s2 g => ⟨by rw [pr_len g]; exact Nat.le_trans l (by decide), fun r hr => by
    have s3 : Same H2 (upd H2 r (.lst xs)) := Same.new (Same.refl _) hr
    exact q r xs _ (s2.trans s3) (s2.free hr) upd_same (L2.Paired.mapP g fun _ _ h => h.ext (R.kp (Kp.of s3)))⟩
end
/-! ### a copy that is handed in, and grows -/
def CopyR (K : PySem.W.Frag) (U G : Hp) (y : V) (d : PyData) (h : V) (G' : Hp) : Prop :=
  Same G G' ∧ ((isLstD d = false ∧ h = y) ∨ ∃ ds a xs a', d = .list ds ∧ y = .ref a ∧ U a = some (.lst xs) ∧ DgAll K U false xs ds ∧ h = .ref a' ∧ G a' = none ∧ G' a' = some (.lst xs))
theorem CopyR.later {K : PySem.W.Frag} {U G G' G2 : Hp} {y h : V} {d : PyData} (c : CopyR K U G y d h G') (s : Same G' G2) : CopyR K U G y d h G2 := by
  obtain ⟨s1, c⟩ := c
  refine ⟨s1.trans s, ?_⟩
  rcases c with c | ⟨ds, a, xs, a', e1, e2, e3, e4, e5, e6, e7⟩
  · exact .inl c
  · exact .inr ⟨ds, a, xs, a', e1, e2, e3, e4, e5, e6, s _ _ e7⟩
theorem CopyR.dg {K : PySem.W.Frag} {U G G' : Hp} {y h : V} {d : PyData} (c : CopyR K U G y d h G') (hd : HD K U y d) (s : Same U G) : Dg K G' false h d := by
  obtain ⟨s1, c⟩ := c
  rcases c with ⟨_, rfl⟩ | ⟨ds, a, xs, a', rfl, rfl, e3, e4, rfl, e6, e7⟩
  · exact (hd.1.ext s).ext s1
  · exact .lst (SqL.of e7) (fun z => by cases z) ((e4.ext s).ext s1)
def Grown (K : PySem.W.Frag) (U : Hp) (y : V) (d : PyData) (h : V) (H' : Hp) : Prop :=
  isLstD d = false ∨ ∃ ds a xs a', d = .list ds ∧ y = .ref a ∧ U a = some (.lst xs) ∧ DgAll K U false xs ds ∧ h = .ref a' ∧ H' a' = some (.lst (xs ++ [.int 7]))
theorem copy_te {K : PySem.W.Frag} {U G : Hp} {y : V} {d : PyData} {σ : L2.St} {i : Nat} {Q : VK} (hd : HD K U y d) (s : Same U G) (e : σ[i]? = some (some y)) (q : ∀ h G', CopyR K U G y d h G' → Q h G') :
    tIf (tB (tCB (rIsi K) (tCons (tVar i) (tCons (tC (V.ty "list")) tNil)))) (tCB (fun xs H Q => ∃ p ys, xs = [.ref p] ∧ (SqL K H p ys ∨ SqT K H p ys) ∧ ∀ l, H l = none → Q (.ref l) (upd H l (.lst ys))) (tCons (tVar i) tNil)) (tVar i) σ G Q := by
  refine ⟨_, e, _, _, _, _, isLstD d, rfl, .ty _, (hd.1.ext s).ty, kit_lstD d, _, rfl, ?_⟩
  cases hl : isLstD d with
  | false => exact iteF ⟨_, e, q y G ⟨Same.refl _, .inl ⟨hl, rfl⟩⟩⟩
  | true =>
    obtain ⟨ds, rfl⟩ : ∃ ds, d = .list ds := by
      cases d with
      | list ds => exact ⟨ds, rfl⟩
      | _ => cases hl
    obtain ⟨a, xs, rfl, ea, da⟩ := hd.2 ds rfl
    exact iteT ⟨_, e, a, xs, rfl, .inl (SqL.of (s _ _ ea)), fun l hl' => q (.ref l) _ ⟨Same.new (Same.refl _) hl', .inr ⟨ds, a, xs, l, rfl, rfl, ea, da, rfl, hl', upd_same⟩⟩⟩
theorem sh_two {z z2 : Str} : plD (.tuple [.str z, .str z2]) = true := by unfold plD plAll plAll plAll plD; rfl
theorem shaped_two {z z2 : Str} (h1 : PyData.strOk z = true) (h2 : PyData.strOk z2 = true) : SeqAt.shaped (.tuple [.str z, .str z2]) = true := by
  refine shaped_of ?_ ?_
  · unfold PyData.canLay0 PyData.canLayAll0 PyData.canLayAll0 PyData.canLayAll0 PyData.canLay0
    rw [h1, h2]; rfl
  · unfold PyData.depth PyData.depthAll PyData.depthAll PyData.depthAll PyData.depth; omega
theorem copy_ne {K : PySem.W.Frag} {U G G' : Hp} {y h : V} {d : PyData} {σ : L2.St} {i : Nat} {z : String} {Q : Bool → Hp → Prop} (hd : HD K U y d) (s : Same U G) (sh : Sh d) (e : σ[i]? = some (some y)) (cr : CopyR K U G y d h G') (lq : (itsD d).length ≤ 1000) (hz : PyData.strOk (Str.ofString z) = true) (hs : PyData.strOk d.shown = true) (q : ∀ H', Same G H' → Grown K U y d h H' → Q false H') :
    RefR z G' h d (fun r H1 => tTup (tCons (tC (.str (Str.ofString z))) (tCons (tCB (rReprG K) (tCons (tVar i) tNil)) tNil)) σ H1 fun y' H2 => rNeD K r y' H2 fun x' H' => ∃ k, x' = .bl k ∧ Q k H') := by
  have fin : ∀ (H1 : Hp) (r : Addr), Dg K H1 false y d → H1 r = some (.tup [.str (Str.ofString z), .str d.shown]) → (∀ H', Same H1 H' → Q false H') →
      tTup (tCons (tC (.str (Str.ofString z))) (tCons (tCB (rReprG K) (tCons (tVar i) tNil)) tNil)) σ H1 fun y' H2 => rNeD K (.ref r) y' H2 fun x' H' => ∃ k, x' = .bl k ∧ Q k H' := fun H1 r dd er qq => by
    refine ⟨_, e, y, d, false, rfl, dd, sh.1, sh.2.1, sh.2.2, (by show 2 ≤ sizeLine; decide), fun t ht => ?_⟩
    have s2 : Same H1 (upd H1 t (.tup [.str (Str.ofString z), .str d.shown])) := Same.new (Same.refl _) ht
    refine ⟨.tuple [.str (Str.ofString z), .str d.shown], .tuple [.str (Str.ofString z), .str d.shown], .tup (.inl (.inl (s2 _ _ er))) (.cons (.str _) (.cons (.str _) .nil)), .tup (.inl (.inl upd_same)) (.cons (.str _) (.cons (.str _) .nil)), shaped_two hz hs, shaped_two hz hs, _, rfl, ?_⟩
    rw [(eqv_pl _ _ sh_two sh_two).mpr rfl]
    exact qq _ s2
  obtain ⟨sc, cr⟩ := cr
  rcases cr with ⟨hl, rfl⟩ | ⟨ds, a, xs, a', rfl, rfl, ea, da, rfl, ha', eg⟩
  · exact ⟨fun _ r H' s' hr er => fin H' r (((hd.1.ext s).ext sc).ext s') er fun H2 s2 => q H2 ((sc.trans s').trans s2) (.inl hl), (fun z => by rw [hl] at z; cases z)⟩
  · refine ⟨(fun z => by cases z), fun _ => ⟨a', xs, rfl, eg, by rw [da.len]; exact lq, fun r H' k' hr ea' er => ?_⟩⟩
    have sG : Same G H' := fun b o eb => k' b o (ne_of_none eb ha') (sc _ _ eb)
    exact fin H' r ((hd.1.ext s).ext sG) er fun H2 s2 => q H2 (sG.trans s2) (.inr ⟨ds, a, xs, a', rfl, rfl, ea, da, rfl, s2 _ _ ea'⟩)
def plusD : PyData → PyData | .list ds => .list (ds ++ [.int 7]) | d => d
def plusQ (d : PyData) : Bool := PyData.eqv (plusD d) (plusD d) && SeqAt.shaped (plusD d)
theorem grown_te {K : PySem.W.Frag} {U G : Hp} {y h : V} {d : PyData} {σ : L2.St} {i j : Nat} {Q : Bool → Hp → Prop} (hd : HD K U y d) (s : Same U G) (e : σ[i]? = some (some y)) (ej : σ[j]? = some (some h)) (gr : Grown K U y d h G) (lq : (itsD d).length ≤ 1000) (pq : plusQ d = true) (q : ∀ H', Same G H' → Q false H') :
    tAnd (tB (tCB (rIsi K) (tCons (tVar i) (tCons (tC (V.ty "list")) tNil)))) (tTest (tOp (rNeD K) (tVar j) (tOp rCat (tVar i) (tLst (tCons (tC (.int 7)) tNil))))) σ G Q := by
  refine ⟨_, e, _, _, _, _, isLstD d, rfl, .ty _, (hd.1.ext s).ty, kit_lstD d, _, rfl, ?_⟩
  rcases gr with hl | ⟨ds, a, xs, a', rfl, rfl, ea, da, rfl, ea'⟩
  · rw [hl]; exact iteF (q _ (Same.refl _))
  · refine iteT ⟨_, ej, _, e, (by show 1 ≤ sizeLine; decide), fun t ht => ?_⟩
    have s2 : Same G (upd G t (.lst [.int 7])) := Same.new (Same.refl _) ht
    refine ⟨a, t, xs, [.int 7], rfl, rfl, s2 _ _ (s _ _ ea), upd_same, by rw [da.len]; exact Nat.le_trans (Nat.add_le_add_right (show ds.length ≤ 1000 from lq) 1) (by decide), fun u hu => ?_⟩
    have s3 : Same (upd G t (.lst [.int 7])) (upd (upd G t (.lst [.int 7])) u (.lst (xs ++ [.int 7]))) := Same.new (Same.refl _) hu
    have s23 := s2.trans s3
    have dd : DgAll K (upd (upd G t (.lst [.int 7])) u (.lst (xs ++ [.int 7]))) false (xs ++ [.int 7]) (ds ++ [.int 7]) := ((da.ext s).ext s23).append (.cons (.int _) .nil)
    unfold plusQ at pq
    rw [Bool.and_eq_true] at pq
    have p2 : SeqAt.shaped (.list (ds ++ [.int 7])) = true := pq.2
    refine ⟨.list (ds ++ [.int 7]), .list (ds ++ [.int 7]), dg_dp _ _ (.lst (SqL.of (s23 _ _ ea')) (fun z => by cases z) dd), dg_dp _ _ (.lst (SqL.of upd_same) (fun z => by cases z) dd), p2, p2, _, rfl, ?_⟩
    rw [show PyData.eqv (.list (ds ++ [.int 7])) (.list (ds ++ [.int 7])) = true from pq.1]
    exact q _ s23
def oddL (n : Nat) : List PyData := [.none, .str (Str.ofString "abc"), .list [.tuple [.str (Str.ofString "lost"), .int (n : Nat)]], .list [.tuple [.str (Str.ofString "put"), .int (-1)]], .list [.tuple [.str (Str.ofString "turned"), .int 0, .int 0]], .list [.list [.str (Str.ofString "lost"), .int 0]], .list [.tuple [.str (Str.ofString "lost"), .bool true]], .tuple [.str (Str.ofString "lost"), .int 0],
  .list [.tuple [.str (Str.ofString "lost"), .int 0], .tuple [.str (Str.ofString "same"), .int 0]], .list [.tuple [.str (Str.ofString "lost"), .int 0, .int 0]], .list [.tuple [.str (Str.ofString "turned"), .int 0]], .list [.tuple [.str (Str.ofString "put"), .int 0], .tuple [.str (Str.ofString "turned"), .int 0, .int (n : Nat)]], .list [.none]]
def bdB : PyData → Bool | .tuple ds => decide (ds.length ≤ 1000) | _ => true
def oddQ (n : Nat) (d : PyData) : Bool := PyData.strOk d.shown && (fitQ d && (plusQ d && (decide ((itsD d).length ≤ 1000) && ((itsD d).all bdB && !kindsB (.int (n : Nat)) d))))
theorem oddQ_all (n : Nat) (h : n = 1 ∨ n = 2 ∨ n = 3) : ∀ d ∈ oddL n, oddQ n d = true := by
  rcases h with rfl | rfl | rfl <;> decide +kernel
structure OddF (n : Nat) (d : PyData) : Prop where
  so : PyData.strOk d.shown = true
  sh : Sh d
  plus : plusQ d = true
  len : (itsD d).length ≤ 1000
  bd : ∀ k ∈ itsD d, Bd k
  bad : kindsB (.int (n : Nat)) d = false
theorem oddF {n : Nat} {d : PyData} (h : oddQ n d = true) : OddF n d := by
  unfold oddQ at h
  simp only [Bool.and_eq_true, decide_eq_true_eq, Bool.not_eq_true'] at h
  refine ⟨h.1, (fitQ_of h.2.1).1.sh (by omega) (by omega), h.2.2.1, h.2.2.2.1, fun k hk => ?_, h.2.2.2.2.2⟩
  have := List.all_eq_true.mp h.2.2.2.2.1 k hk
  cases k with
  | tuple ds =>
    show ds.length ≤ 1000
    exact of_decide_eq_true (show decide (ds.length ≤ 1000) = true from this)
  | _ => exact True.intro
def othL : List PyData := [.none, .str (Str.ofString "signs 1 states 1"), .tuple [.int 1, .list [.list [.none]], .list [.none]], .list [.int 1]]
def othQ (d : PyData) : Bool := PyData.strOk d.shown && (fitQ d && (plusQ d && decide ((itsD d).length ≤ 1000)))
theorem othQ_all : ∀ d ∈ othL, othQ d = true := by decide +kernel
section
variable {P : Program} {w : World} {K : PySem.W.Frag} {mg : Str → Option Value} {base : Heap}
theorem ok_law_refusals_right (T : Txt K mg w) : FnG P w K mg base CX0 10 T.f_law_refusals_right T.fd_law_refusals_right ["box", "decoder", "signs"] (fun vs H Q _ => ∃ (p o : Addr) (c : Nat) (D : Dcd), vs = [.ref p, .ref o, .int (D.sg : Nat)] ∧ BoxAt H p c ∧ c < 100000 ∧ DecAt K T.C_Decoder H o D ∧ D.sg ≤ 3 ∧
    ∀ H', Kp p H H' → Q (.bl true) H') := by
  refine T.F_law_refusals_right.okG sc_law_refusals_right (fun vs H Q E h => ?_) (fun cdv A outer s0 H vs Q E hgd hr h => ?_)
  · obtain ⟨p, o, c, D, rfl, _⟩ := h; rfl
  · obtain ⟨p, o, c, D, rfl, hb, hc, dec, sg3, kQ⟩ := h
    have hun := un64 hr
    refine ⟨_, (pss_cons (ps_set (i := 3) sc_law_refusals_right.nd rfl (Or.inl rfl) (pe_lst (pa_cons pe_non (pa_cons pe_str (pa_cons (pe_lst (pa_cons (pe_tup (pa_cons pe_str (pa_cons (pv 2) pa_nil))) pa_nil)) (pa_cons (pe_lst (pa_cons (pe_tup (pa_cons pe_str (pa_cons (pe_un un_neg pe_int) pa_nil))) pa_nil)) (pa_cons (pe_lst (pa_cons (pe_tup (pa_cons pe_str (pa_cons pe_int (pa_cons pe_int pa_nil)))) pa_nil)) (pa_cons (pe_lst (pa_cons (pe_lst (pa_cons pe_str (pa_cons pe_int pa_nil))) pa_nil)) (pa_cons (pe_lst (pa_cons (pe_tup (pa_cons pe_str (pa_cons pe_bl pa_nil))) pa_nil)) (pa_cons (pe_tup (pa_cons pe_str (pa_cons pe_int pa_nil))) (pa_cons (pe_lst (pa_cons (pe_tup (pa_cons pe_str (pa_cons pe_int pa_nil))) (pa_cons (pe_tup (pa_cons pe_str (pa_cons pe_int pa_nil))) pa_nil))) (pa_cons (pe_lst (pa_cons (pe_tup (pa_cons pe_str (pa_cons pe_int (pa_cons pe_int pa_nil)))) pa_nil)) (pa_cons (pe_lst (pa_cons (pe_tup (pa_cons pe_str (pa_cons pe_int pa_nil))) pa_nil)) (pa_cons (pe_lst (pa_cons (pe_tup (pa_cons pe_str (pa_cons pe_int pa_nil))) (pa_cons (pe_tup (pa_cons pe_str (pa_cons pe_int (pa_cons (pv 2) pa_nil)))) pa_nil))) (pa_cons (pe_lst (pa_cons pe_non pa_nil)) pa_nil)))))))))))))))
      (pss_cons (ps_for PassesOwn.never rfl (pi_list (pe_lst (pa_cons (pe_ix ix_list (pv 3) (pe_call (ok_law_take T) (hr.mono (by decide)) rfl T.g_law_take T.F_law_take.kp T.b_law_take .nil pass0 (pa_cons (pv 0) (pa_cons (pe_callB call_len_seq (by rfl) T.z_len (by decide +kernel) (pa_cons (pv 3) pa_nil)) pa_nil))) (fun _ _ => rfl)) (pa_cons (pe_ix ix_list (pv 3) (pe_call (ok_law_take T) (hr.mono (by decide)) rfl T.g_law_take T.F_law_take.kp T.b_law_take .nil pass0 (pa_cons (pv 0) (pa_cons (pe_callB call_len_seq (by rfl) T.z_len (by decide +kernel) (pa_cons (pv 3) pa_nil)) pa_nil))) (fun _ _ => rfl)) pa_nil)))) (pg_name (i := 4) sc_law_refusals_right.nd rfl (Or.inl rfl)) (pss_cons (ps_set (i := 5) sc_law_refusals_right.nd rfl (Or.inl rfl) (pe_ifExp (pt_val (pe_callB call_isi (by rfl) T.z_isinstance (by decide +kernel) (pa_cons (pv 4) (pa_cons (pe_bltn (v := .ty "list") (u := .type "list") (by rfl) T.z_list (by decide +kernel) rfl) pa_nil)))) (pe_callTy call_list_of (by rfl) T.z_list (by decide +kernel) (pa_cons (pv 4) pa_nil)) (pv 4)))
      (pss_cons (ps_if (pt_cmpR (op_neD (un64 hr)) (pe_callG (ok_law_refused T) hgd (hr.mono (by decide)) rfl T.g_law_refused T.F_law_refused.kp T.b_law_refused .nil pass0 (pa_cons (pv 1) (pa_cons (pv 5) pa_nil))) (pe_tup (pa_cons pe_str (pa_cons (pe_callB (call_reprG hgd hun) (by rfl) T.z_repr (by decide +kernel) (pa_cons (pv 4) pa_nil)) pa_nil))) (nomark _)) (pss_one (ps_ret pe_bl)) pss_nil)
      (pss_cons (ps_if (PW.pt (pw_and (pt_val (pe_callB call_isi (by rfl) T.z_isinstance (by decide +kernel) (pa_cons (pv 4) (pa_cons (pe_bltn (v := .ty "list") (u := .type "list") (by rfl) T.z_list (by decide +kernel) rfl) pa_nil)))) (pw_and1 (pt_cmpR (op_neD (un64 hr)) (pv 5) (pe_op op_cat (pv 4) (pe_lst (pa_cons pe_int pa_nil))) (nomark _))))) (pss_one (ps_ret pe_bl)) pss_nil)
      (pss_one (ps_for PassesOwn.never rfl (pi_list (pe_lst (pa_cons pe_non (pa_cons pe_str (pa_cons (pe_tup (pa_cons pe_int (pa_cons (pe_lst (pa_cons (pe_lst (pa_cons pe_non pa_nil)) pa_nil)) (pa_cons (pe_lst (pa_cons pe_non pa_nil)) pa_nil)))) (pa_cons (pe_lst (pa_cons pe_int pa_nil)) pa_nil)))))) (pg_name (i := 6) sc_law_refusals_right.nd rfl (Or.inl rfl)) (pss_cons (ps_set (i := 7) sc_law_refusals_right.nd rfl (Or.inl rfl) (pe_ifExp (pt_val (pe_callB call_isi (by rfl) T.z_isinstance (by decide +kernel) (pa_cons (pv 6) (pa_cons (pe_bltn (v := .ty "list") (u := .type "list") (by rfl) T.z_list (by decide +kernel) rfl) pa_nil)))) (pe_callTy call_list_of (by rfl) T.z_list (by decide +kernel) (pa_cons (pv 6) pa_nil)) (pv 6)))
      (pss_cons (ps_if (pt_cmpR (op_neD (un64 hr)) (pe_callG (ok_law_refused T) hgd (hr.mono (by decide)) rfl T.g_law_refused T.F_law_refused.kp T.b_law_refused .nil pass0 (pa_cons (pv 7) (pa_cons (pv 4) pa_nil))) (pe_tup (pa_cons pe_str (pa_cons (pe_callB (call_reprG hgd hun) (by rfl) T.z_repr (by decide +kernel) (pa_cons (pv 6) pa_nil)) pa_nil))) (nomark _)) (pss_one (ps_ret pe_bl)) pss_nil)
      (pss_cons (ps_if (PW.pt (pw_and (pt_val (pe_callB call_isi (by rfl) T.z_isinstance (by decide +kernel) (pa_cons (pv 6) (pa_cons (pe_bltn (v := .ty "list") (u := .type "list") (by rfl) T.z_list (by decide +kernel) rfl) pa_nil)))) (pw_and1 (pt_cmpR (op_neD (un64 hr)) (pv 7) (pe_op op_cat (pv 6) (pe_lst (pa_cons pe_int pa_nil))) (nomark _))))) (pss_one (ps_ret pe_bl)) pss_nil)
      (pss_cons (ps_set (i := 7) sc_law_refusals_right.nd rfl (Or.inl rfl) (pe_ifExp (pt_val (pe_callB call_isi (by rfl) T.z_isinstance (by decide +kernel) (pa_cons (pv 6) (pa_cons (pe_bltn (v := .ty "list") (u := .type "list") (by rfl) T.z_list (by decide +kernel) rfl) pa_nil)))) (pe_callTy call_list_of (by rfl) T.z_list (by decide +kernel) (pa_cons (pv 6) pa_nil)) (pv 6)))
      (pss_one (ps_if (pt_cmpR (op_neD (un64 hr)) (pe_callG (ok_law_refused T) hgd (hr.mono (by decide)) rfl T.g_law_refused T.F_law_refused.kp T.b_law_refused .nil pass0 (pa_cons (pv 7) (pa_cons (pe_lst (pa_cons (pe_tup (pa_cons pe_str (pa_cons pe_int pa_nil))) pa_nil)) pa_nil))) (pe_tup (pa_cons pe_str (pa_cons (pe_callB (call_reprG hgd hun) (by rfl) T.z_repr (by decide +kernel) (pa_cons (pv 6) pa_nil)) pa_nil))) (nomark _)) (pss_one (ps_ret pe_bl)) pss_nil))))))))))))
      (pss_one (ps_ret pe_bl)))), ?_⟩
    have z2 : 2 ≤ sizeLine := by decide
    have z1 : 1 ≤ sizeLine := by decide
    dsimp only [L2.tSeq]
    show tAsg _ _ _ _ _
    unfold L2.tAsg
    refine evHs_here (K := K) (w := fun G => wo G p) res_p (fun R => (evHs_cons R (evH_D evD_non rfl) (evHs_cons R (evH_D (evD_str _) rfl) (evHs_cons R (evH_lst R (evDs_cons R (evD_tup R (evDs_cons R (evD_str _) (evDs_cons R (evD_var R rfl (.int _)) evDs_nil)) (by simp)) evDs_nil)) (evHs_cons R (evH_lst R (evDs_cons R (evD_tup R (evDs_cons R (evD_str _) (evDs_cons R (evD_I (evI_neg (evI_c _))) evDs_nil)) (by simp)) evDs_nil)) (evHs_cons R (evH_lst R (evDs_cons R (evD_tup R (evDs_cons R (evD_str _) (evDs_cons R (evD_int _) (evDs_cons R (evD_int _) evDs_nil))) (by simp)) evDs_nil)) (evHs_cons R (evH_lst R (evDs_cons R (evD_lst R (evDs_cons R (evD_str _) (evDs_cons R (evD_int _) evDs_nil)) (by simp)) evDs_nil)) (evHs_cons R (evH_lst R (evDs_cons R (evD_tup R (evDs_cons R (evD_str _) (evDs_cons R (evD_bl _) evDs_nil)) (by simp)) evDs_nil)) (evHs_cons R (evH_D (evD_tup R (evDs_cons R (evD_str _) (evDs_cons R (evD_int _) evDs_nil)) (by simp)) rfl) (evHs_cons R (evH_lst R (evDs_cons R (evD_tup R (evDs_cons R (evD_str _) (evDs_cons R (evD_int _) evDs_nil)) (by simp)) (evDs_cons R (evD_tup R (evDs_cons R (evD_str _) (evDs_cons R (evD_int _) evDs_nil)) (by simp)) evDs_nil))) (evHs_cons R (evH_lst R (evDs_cons R (evD_tup R (evDs_cons R (evD_str _) (evDs_cons R (evD_int _) (evDs_cons R (evD_int _) evDs_nil))) (by simp)) evDs_nil)) (evHs_cons R (evH_lst R (evDs_cons R (evD_tup R (evDs_cons R (evD_str _) (evDs_cons R (evD_int _) evDs_nil)) (by simp)) evDs_nil)) (evHs_cons R (evH_lst R (evDs_cons R (evD_tup R (evDs_cons R (evD_str _) (evDs_cons R (evD_int _) evDs_nil)) (by simp)) (evDs_cons R (evD_tup R (evDs_cons R (evD_str _) (evDs_cons R (evD_int _) (evDs_cons R (evD_var R rfl (.int _)) evDs_nil))) (by simp)) evDs_nil))) (evHs_cons R (evH_lst R (evDs_cons R evD_non evDs_nil)) evHs_nil)))))))))))))) hb.some (by simp) fun O xs H1 s1 hO eO g1 => ?_
    have oall := oddQ_all D.sg (by have := dec.2.s1; omega)
    have l13 : xs.length = 13 := pr_len g1
    change Paired (HD K (wo H1 p)) xs (oddL D.sg) at g1
    generalize oddL D.sg = ods at g1 oall
    have b1 := hb.same s1
    have nOp : O ≠ p := (hb.ne hO).symm
    dsimp only [L2.gName]
    refine ⟨_, rfl, _, rfl, _, rfl, O, xs, rfl, .inl (SqL.of eO), p, c, (xs.length : Int), rfl, b1, by omega, by omega, by omega, fun d1 o1 hd1 ho1 => ?_⟩
    have hd1' : d1 < xs.length := by omega
    have k2 : Kp p H1 (upd H1 p o1) := (Kp.refl p H1).upd
    have b2 : BoxAt (upd H1 p o1) p (c + 1) := ho1.at
    generalize upd H1 p o1 = H2 at k2 b2 ⊢
    have eO2 := k2 _ _ nOp eO
    refine ⟨O, xs, (d1 : Int), xs[d1], rfl, rfl, SqL.of eO2, atI_nat (List.getElem?_eq_getElem hd1'), ?_⟩
    refine ⟨_, rfl, _, rfl, _, rfl, O, xs, rfl, .inl (SqL.of eO2), p, c + 1, (xs.length : Int), rfl, b2, by omega, by omega, by omega, fun d2 o2 hd2 ho2 => ?_⟩
    have hd2' : d2 < xs.length := by omega
    have k3 : Kp p H2 (upd H2 p o2) := (Kp.refl p H2).upd
    have b3 : BoxAt (upd H2 p o2) p (c + 2) := ho2.at
    generalize upd H2 p o2 = H3 at k3 b3 ⊢
    have eO3 := k3 _ _ nOp eO2
    refine ⟨O, xs, (d2 : Int), xs[d2], rfl, rfl, SqL.of eO3, atI_nat (List.getElem?_eq_getElem hd2'), z2, fun M hM => ?_⟩
    have k13 := k2.trans k3
    obtain ⟨e1, he1, hv1⟩ := pr_get g1 (List.getElem?_eq_getElem hd1')
    obtain ⟨e2, he2, hv2⟩ := pr_get g1 (List.getElem?_eq_getElem hd2')
    have s4 : Same H3 (upd H3 M (.lst [xs[d1], xs[d2]])) := Same.new (Same.refl _) hM
    have eM : (upd H3 M (.lst [xs[d1], xs[d2]])) M = some (.lst [xs[d1], xs[d2]]) := upd_same
    have k14 := k13.trans (Kp.of s4)
    have b4 := b3.same s4
    generalize xs[d1] = y1 at hv1 s4 eM k14 b4 ⊢
    generalize xs[d2] = y2 at hv2 s4 eM k14 b4 ⊢
    generalize upd H3 M (.lst [y1, y2]) = H4 at s4 eM k14 b4 ⊢
    have k04 := (Kp.of s1).trans k14
    have dec4 := dec.bx hb k04
    have hy : ∀ y ∈ [y1, y2], ∃ e ∈ ods, HD K H4 y e := fun y hy => by
      rcases List.mem_cons.mp hy with z | z
      · rw [z]; exact ⟨e1, List.mem_of_getElem? he1, hv1.ext (fun b o e => wo_le (k14.wo b o e) : Same (wo H1 p) H4)⟩
      · rw [List.mem_singleton.mp z]; exact ⟨e2, List.mem_of_getElem? he2, hv2.ext (fun b o e => wo_le (k14.wo b o e) : Same (wo H1 p) H4)⟩
    generalize [y1, y2] = ys at eM hy
    refine ⟨M, rfl, ⟨_, SqL.of eM⟩, for_list (K := K) (a := M) (xs := ys) (fun i σ H' => ∃ x4 x5 x6 x7, σ = [some (.ref p), some (.ref o), some (.int (D.sg : Nat)), some (.ref O), x4, x5, x6, x7] ∧ Same H4 H') ⟨_, _, _, _, rfl, Same.refl _⟩ (fun i σ H' _ ⟨_, _, _, _, _, s⟩ => SqL.of (s _ _ eM)) ?_ ?_⟩
    · rintro i y σ H5 hyi ⟨x4, x5, x6, x7, rfl, s5⟩
      obtain ⟨d, hd, hyd⟩ := hy y (List.mem_of_getElem? hyi)
      have of := oddF (oall d hd)
      clear hy g1 oall he1 he2 hv1 hv2
      dsimp only [L2.gName]
      refine copy_te (K := K) (i := 4) hyd s5 rfl fun h H6 cr => ?_
      dsimp only [L2.gName]
      have s56 := cr.1
      refine ⟨_, rfl, _, rfl, .ref o, h, rfl, .inr ⟨o, D, d, false, rfl, dec4.ext (s5.trans s56), cr.dg hyd s5, of.sh, Nat.le_trans of.len (by decide), of.bd, of.bad, copy_ne hyd s5 of.sh rfl cr of.len (by decide +kernel) of.so fun H7 s7 gr => iteF ?_⟩⟩
      refine grown_te (K := K) (i := 4) (j := 5) hyd (s5.trans s7) rfl rfl gr of.len of.plus fun H8 s8 => iteF ?_
      have s48 := (s5.trans s7).trans s8
      clear gr cr s56 s7 s8
      have b8 := b4.same s48
      refine next_at ?_
      dsimp only []
      refine forL_at (K := K) ?_
      refine evHs_here (K := K) (w := fun G => wo G p) res_p (fun R => (evHs_cons R (evH_D evD_non rfl) (evHs_cons R (evH_D (evD_str _) rfl) (evHs_cons R (evH_D (evD_tup R (evDs_cons R (evD_int _) (evDs_cons R (evD_lst R (evDs_cons R (evD_lst R (evDs_cons R evD_non evDs_nil) (by simp)) evDs_nil) (by simp)) (evDs_cons R (evD_lst R (evDs_cons R evD_non evDs_nil) (by simp)) evDs_nil))) (by simp)) rfl) (evHs_cons R (evH_lst R (evDs_cons R (evD_int _) evDs_nil)) evHs_nil))))) b8.some (by simp) fun M2 zs H9 s9 hM2 eM2 g9 => ?_
      have s49 := s48.trans s9
      change Paired (HD K (wo H9 p)) zs othL at g9
      have oth := othQ_all
      generalize othL = oths at g9 oth
      refine ⟨M2, rfl, ⟨_, SqL.of eM2⟩, for_list (K := K) (a := M2) (xs := zs) (fun i σ H' => ∃ x6 x7, σ = [some (.ref p), some (.ref o), some (.int (D.sg : Nat)), some (.ref O), some y, some h, x6, x7] ∧ Same H9 H') ⟨_, _, rfl, Same.refl _⟩ (fun i σ H' _ ⟨_, _, _, s⟩ => SqL.of (s _ _ eM2)) ?_ ?_⟩
      · rintro i y2 σ HA hyi2 ⟨x6, x7, rfl, sA⟩
        obtain ⟨d2, hd2, hyd2⟩ := pr_get g9 hyi2
        have hyd2 := hyd2.ext (wo_same H9 p)
        have oq := oth d2 (List.mem_of_getElem? hd2)
        unfold othQ at oq
        simp only [Bool.and_eq_true, decide_eq_true_eq] at oq
        have sh2 : Sh d2 := (fitQ_of oq.2.1).1.sh (by omega) (by omega)
        clear g9 oth
        dsimp only [L2.gName]
        refine copy_te (K := K) (i := 6) hyd2 sA rfl fun h2 HB cr2 => ?_
        dsimp only [L2.gName]
        refine ⟨_, rfl, _, rfl, h2, y, rfl, .inl ⟨d2, false, cr2.dg hyd2 sA, sh2, copy_ne hyd2 sA sh2 rfl cr2 oq.2.2.2 (by decide +kernel) oq.1 fun HC sC gr2 => iteF ?_⟩⟩
        refine grown_te (K := K) (i := 6) (j := 7) hyd2 (sA.trans sC) rfl rfl gr2 oq.2.2.2 oq.2.2.1 fun HD' sD => iteF ?_
        have sAD := (sA.trans sC).trans sD
        clear gr2 cr2
        dsimp only [L2.gName]
        refine copy_te (K := K) (i := 6) hyd2 sAD rfl fun h3 HE cr3 => ?_
        dsimp only [L2.gName]
        refine ⟨_, rfl, z2, fun t ht => ⟨z1, fun l hl => ⟨h3, .ref l, rfl, .inl ⟨d2, false, ?_, sh2, copy_ne hyd2 sAD sh2 rfl (cr3.later ?_) oq.2.2.2 (by decide +kernel) oq.1 fun HF sF _ => iteF ?_⟩⟩⟩⟩
        · exact (cr3.later ((Same.new (Same.refl _) ht).trans (Same.new (Same.refl _) hl))).dg hyd2 sAD
        · exact (Same.new (Same.refl _) ht).trans (Same.new (Same.refl _) hl)
        · exact ⟨_, _, rfl, sAD.trans sF⟩
      · rintro σ HA ⟨x6, x7, rfl, sA⟩
        exact ⟨_, _, _, _, rfl, s49.trans sA⟩
    · rintro σ H5 ⟨x4, x5, x6, x7, rfl, s5⟩
      exact kQ _ (k04.trans (Kp.of s5))
end
end My

set_option Elab.async false
set_option linter.all false
set_option maxRecDepth 100000
set_option maxHeartbeats 8000000
namespace My
open PySem PySem.Spec PyProof.Rows L2
theorem steady_congr {D : Dcd} {ks ks' : List Mv} (h : ∀ k, k ∈ ks ↔ k ∈ ks') : D.steady ks ↔ D.steady ks' := by
  have key : ∀ {a b : List Mv}, (∀ k, k ∈ a → k ∈ b) → ∀ {x}, Rch D.mv (a ++ D.frees) (some 0, some 0) x → Rch D.mv (b ++ D.frees) (some 0, some 0) x := fun {a b} hab {x} r => r.mono fun m hm => ⟨m, by
    rcases List.mem_append.mp hm with z | z
    · exact List.mem_append_left _ (hab m z)
    · exact List.mem_append_right _ z, rfl⟩
  exact ⟨fun st x r => st x (key (fun k hk => (h k).mpr hk) r), fun st x r => st x (key (fun k hk => (h k).mp hk) r)⟩
theorem steady_nil (D : Dcd) : D.steady [] := by
  have key : ∀ x, Rch D.mv ([] ++ D.frees) (some 0, some 0) x → x.1 = x.2 := fun x r => by
    induction r with
    | start => rfl
    | step r hm ih =>
      rw [List.nil_append] at hm
      unfold Dcd.frees at hm
      obtain ⟨a, _, rfl⟩ := List.mem_map.mp hm
      show D.beh _ _ = D.beh _ _
      rw [ih]
  intro x r
  unfold Dcd.evn
  rw [key x r]
  simp
theorem lv_mv {n : Nat} (h : n ≤ 3) {k : Mv} (o : okK n k) : Lv 1 k.dat := by
  have num : ∀ a : Int, 0 ≤ a ∧ a < n → Lv 0 (.int a) := fun a z => lv_int (Nat.lt_of_le_of_lt (show a.natAbs ≤ 3 by omega) (by decide))
  have st : ∀ z : Str, (cs z).length ≤ 100 → (cs z).all (fun c => decide (c < 200)) = true → Lv 0 (.str z) := fun z a b => lv_any a b
  cases k with
  | los a => exact lv_tup (all_cons (st _ (by decide +kernel) (by decide +kernel)) (all_cons (num a o) all_nil)) (by simp)
  | put a => exact lv_tup (all_cons (st _ (by decide +kernel) (by decide +kernel)) (all_cons (num a o) all_nil)) (by simp)
  | sam a => exact o.elim
  | tur a b => exact lv_tup (all_cons (st _ (by decide +kernel) (by decide +kernel)) (all_cons (num a o.1) (all_cons (num b o.2.1) all_nil))) (by simp)
theorem sh_kinds {n : Nat} (h : n ≤ 3) {ks : List Mv} (o : ∀ k ∈ ks, okK n k) (l : ks.length ≤ 12) : Sh (.list (ks.map Mv.dat)) ∧ Sh (.tuple (ks.map Mv.dat)) := by
  have f := FitAll.all (k := 1) (w := wid 1) (ds := ks.map Mv.dat) fun d hd => by
    obtain ⟨k, hk, rfl⟩ := List.mem_map.mp hd
    exact lv_mv h (o k hk)
  have b : (wid 1 + 1) * (ks.map Mv.dat).length ≤ 100000 := by
    rw [List.length_map]
    have : wid 1 = 600 := by decide
    rw [this]
    have := Nat.mul_le_mul_left 601 l
    omega
  exact ⟨(Fit.list f).sh (by omega) b, (Fit.tuple f).sh (by omega) b⟩
section
variable {P : Program} {w : World} {K : PySem.W.Frag} {mg : Str → Option Value} {base : Heap}
theorem mk_plain (T : Txt K mg w) {D : Dcd} {H H3 : Hp} {v2 v3 : V} {Q : VK} {E : XK} (s : Same H H3) (ok : D.ok) (h2 : Dg K H3 false v2 D.stL) (h3 : Dg K H3 false v3 D.enL) (kQ : ∀ r H', Same H H' → DecAt K T.C_Decoder H' r D → Q (.ref r) H') :
    ∀ x dx, H3 x = none → H3 dx = none → dx ≠ x → spInit T [.ref x, .int (D.sg : Nat), v2, v3] (upd (upd H3 dx (.own x)) x (.ins T.C_Decoder dx [])) (fun v H2 => v = .non ∧ Q (.ref x) H2) E := fun x dx hx hdx _ =>
  ⟨x, dx, _, _, _, .int (D.sg : Nat), D.stL, D.enL, false, false, false, rfl, upd_same, .int _, made_dw hx hdx h2, made_dw hx hdx h3, weight_stL ok, weight_enL ok, .inr (.inr (.inr ⟨D, Dcd.goodL ok, fun H' k dec => ⟨rfl, kQ x H' (s.trans (made_same hx hdx k)) dec⟩⟩))⟩
theorem kb_is_steady_kinds_decoder (T : Txt K mg w) : KBinds K T.fd_is_steady ["decoder", "kinds"] ["kinds", "decoder"] (fun us ws => match us, ws with | [], [x1, x0] => [x0, x1] | _, _ => []) (fun us ws => match us, ws with | [], [x1, x0] => [x0, x1] | _, _ => []) := by
  obtain ⟨oc, od, kV, doc, pm, an, cdv, ct, osl, e, _, _⟩ := T.F_is_steady.ex
  refine ⟨fun s us ws _ hl => ?_, fun r rz => ?_⟩
  · match us, ws, hl with
    | [], [x1, x0], _ =>
      rw [e]
      exact .of_eq rfl
  · match r, rz with
    | .nil, .cons r1 (.cons r0 (.nil)) => exact .cons r0 (.cons r1 (.nil))
    | .nil, .nil => exact .nil
    | .nil, .cons _ (.nil) => exact .nil
    | .nil, .cons _ (.cons _ (.cons _ _)) => exact .nil
    | .cons _ _, _ => exact .nil

/-- kinds as they are handed in -/
structure Hnd (K : PySem.W.Frag) (H : Hp) (a : Addr) (xs : List V) (ks' : List Mv) (n : Nat) (ks : List Mv) : Prop where
  q : SqQ K H a xs
  kp : Paired (MvAt H) xs ks'
  l12 : ks'.length ≤ 12
  mem : ∀ k, k ∈ ks' ↔ k ∈ ks
  ok : ∀ k ∈ ks', okK n k
theorem Hnd.ext {K : PySem.W.Frag} {H H' : Hp} {a : Addr} {xs : List V} {ks' ks : List Mv} {n : Nat} (h : Hnd K H a xs ks' n ks) (s : Same H H') : Hnd K H' a xs ks' n ks := ⟨h.q.same s, mvs_ext s h.kp, h.l12, h.mem, h.ok⟩
theorem Hnd.sh {K : PySem.W.Frag} {H : Hp} {a : Addr} {xs : List V} {ks' ks : List Mv} {n : Nat} (h : Hnd K H a xs ks' n ks) (n3 : n ≤ 3) : ∃ d, Sh d ∧ ∀ H', Same H H' → Dg K H' false (.ref a) d := by
  have s := sh_kinds n3 h.ok h.l12
  rcases h.q with q | q
  · exact ⟨_, s.1, fun H' s' => .lst (q.ext s') (fun z => by cases z) (mvs_dg (mvs_ext s' h.kp))⟩
  · exact ⟨_, s.2, fun H' s' => .tup (q.ext s') (mvs_dg (mvs_ext s' h.kp))⟩
theorem ok_law_right (T : Txt K mg w) : FnG P w K mg base CX0 11 T.f_law_right T.fd_law_right ["box"] (fun vs H Q _ => ∃ (p : Addr) (c : Nat), vs = [.ref p] ∧ BoxAt H p c ∧ c < 1000 ∧ ∀ H', Kp p H H' → Q (.bl true) H') := by
  refine T.F_law_right.okG sc_law_right (fun vs H Q E h => ?_) (fun cdv A outer s0 H vs Q E hgd hr h => ?_)
  · obtain ⟨p, c, rfl, _⟩ := h; rfl
  · obtain ⟨p, c, rfl, hb, hc, kQ⟩ := h
    have hun := un64 hr
    refine ⟨_, (pss_cons (ps_asg (pe_call (ok_law_scene T) (hr.mono (by decide)) rfl T.g_law_scene T.F_law_scene.kp T.b_law_scene .nil pass0 (pa_cons (pv 0) pa_nil)) (pg_lst rfl (pgs_cons (pg_name (i := 1) sc_law_right.nd rfl (Or.inl rfl)) (pgs_cons (pg_name (i := 2) sc_law_right.nd rfl (Or.inl rfl)) pgs_nil))))
      (pss_cons (ps_set (i := 3) sc_law_right.nd rfl (Or.inl rfl) (pe_ix ix_list (pe_lst (pa_cons (pv 2) (pa_cons (pe_callTy call_tuple_of (by rfl) T.z_tuple (by decide +kernel) (pa_cons (pv 2) pa_nil)) (pa_cons (pe_op op_cat (pv 2) (pe_slice sl_list (pv 2) po_none (po_some pe_int))) (pa_cons (pe_revL (pv 2)) pa_nil))))) (pe_call (ok_law_take T) (hr.mono (by decide)) rfl T.g_law_take T.F_law_take.kp T.b_law_take .nil pass0 (pa_cons (pv 0) (pa_cons pe_int pa_nil))) (fun _ _ => rfl)))
      (pss_cons (ps_par3 (i := 4) (j := 5) (l := 6) (by rfl) sc_law_right.nd rfl rfl rfl (by decide) (by decide) (by decide) rfl rfl rfl (pa_cons (pe_call (ok_law_is_steady T) (hr.mono (by decide)) rfl T.g_law_is_steady T.F_law_is_steady.kp T.b_law_is_steady .nil pass0 (pa_cons (pv 1) (pa_cons (pv 2) pa_nil))) (pa_cons (pe_make T.mk_Decoder (ok_Decoder_init T) (hr.mono (by decide)) rfl T.g_Decoder T.b_Decoder_init .nil passL (pa_cons (pe_ix ix_list (pv 1) pe_int (fun _ _ => rfl)) (pa_cons (pe_ix ix_list (pv 1) pe_int (fun _ _ => rfl)) (pa_cons (pe_ix ix_list (pv 1) pe_int (fun _ _ => rfl)) pa_nil)))) (pa_cons (pe_callB (call_reprG hgd hun) (by rfl) T.z_repr (by decide +kernel) (pa_cons (pv 3) pa_nil)) pa_nil))) (by rfl))
      (pss_cons (ps_for PassesOwn.never rfl (pi_range1 rfl T.z_range (pa_cons pe_int pa_nil)) (pg_name (i := 7) sc_law_right.nd rfl (Or.inl rfl)) (pss_one (ps_for PassesOwn.never rfl (pi_list (pe_lst (pa_cons (pe_call (ok_is_steady T) (hr.mono (by decide)) rfl T.g_is_steady T.F_is_steady.kp T.b_is_steady .nil passL (pa_cons (pv 5) (pa_cons (pv 3) pa_nil))) (pa_cons (pe_callKS (E := fun _ => E0) (ok_is_steady T) (hr.mono (by decide)) rfl T.g_is_steady T.F_is_steady.kp (kb_is_steady_kinds_decoder T) (fun σ pins H s e s2 I c => passL pins σ H s e s2 I c) (pk_cons (pe_callTy call_list_of (by rfl) T.z_list (by decide +kernel) (pa_cons (pv 2) pa_nil)) (pk_cons (pv 5) pk_nil))) pa_nil)))) (pg_name (i := 8) sc_law_right.nd rfl (Or.inl rfl)) (pss_one (ps_if (PW.pt (pw_or (pt_not (pt_val (pe_callB call_isi (by rfl) T.z_isinstance (by decide +kernel) (pa_cons (pv 8) (pa_cons (pe_bltn (v := .ty "bool") (u := .type "bool") (by rfl) T.z_bool (by decide +kernel) rfl) pa_nil))))) (pw_or1 (pt_cmpR op_ne (pv 8) (pv 4) (nomark _))))) (pss_one (ps_ret pe_bl)) pss_nil)))))
      (pss_cons (ps_if (PW.pt (pw_or (pt_cmpR op_notBl (pe_call (ok_is_steady T) (hr.mono (by decide)) rfl T.g_is_steady T.F_is_steady.kp T.b_is_steady .nil passL (pa_cons (pv 5) (pa_cons (pe_lst pa_nil) pa_nil))) pe_bl (nomark _)) (pw_or1 (pt_cmpR op_ne (pe_callB (call_reprG hgd hun) (by rfl) T.z_repr (by decide +kernel) (pa_cons (pv 3) pa_nil)) (pv 6) (nomark _))))) (pss_one (ps_ret pe_bl)) pss_nil)
      (pss_one (ps_ret (pe_callG (ok_law_refusals_right T) hgd (hr.mono (by decide)) rfl T.g_law_refusals_right T.F_law_refusals_right.kp T.b_law_refusals_right .nil pass0 (pa_cons (pv 0) (pa_cons (pv 5) (pa_cons (pe_ix ix_list (pv 1) pe_int (fun _ _ => rfl)) pa_nil))))))))))), ?_⟩
    have z2 : 2 ≤ sizeLine := by decide
    have z4 : 4 ≤ sizeLine := by decide
    refine ⟨_, rfl, p, c, rfl, hb, by omega, fun r pl kr D xs ks H1 k1 b1 er sc => ?_⟩
    have ok : D.ok := by obtain ⟨_, _, _, _, _, ok⟩ := sc.parts; exact ok
    have er1 := wo_le er
    have ek1 := wo_le sc.kl
    have kp1 := mvs_ext (wo_same H1 p) sc.kp
    refine ⟨r, _, rfl, SqL.of er1, rfl, _, _, rfl, _, _, rfl, rfl, ?_⟩
    have lx : xs.length ≤ 6 := by rw [pr_len kp1]; exact sc.k6
    have lk := sc.k6
    have n1 : ∀ {H' : Hp} {b : Addr}, Same H1 H' → H' b = none → b ≠ p := fun {H' b} s hb' => ((b1.same s).ne hb').symm
    have w1 : ∀ {H' : Hp}, Same H1 H' → Same (wo H1 p) (wo H' p) := fun s => (Kp.of s).wo
    have hn0 : Hnd K (wo H1 p) kr xs ks D.sg ks := ⟨.inl (SqL.of sc.kl), sc.kp, by omega, fun k => Iff.rfl, sc.ok⟩
    refine ⟨_, rfl, _, rfl, kr, xs, rfl, .inl ⟨SqL.of ek1, fun t ht => ?_⟩⟩
    have s2 : Same H1 (upd H1 t (.tup xs)) := Same.new (Same.refl _) ht
    have hn1 : Hnd K (wo (upd H1 t (.tup xs)) p) t xs ks D.sg ks := ⟨.inr (SqT.of (by rw [wo_ne (n1 (Same.refl _) ht)]; exact upd_same)), mvs_ext (w1 s2) sc.kp, by omega, fun k => Iff.rfl, sc.ok⟩
    generalize upd H1 t (.tup xs) = H2 at s2 hn1 ⊢
    refine ⟨_, rfl, _, rfl, 1, rfl, kr, xs, rfl, SqL.of (s2 _ _ ek1), fun c1 hc1 => ?_⟩
    rw [show cutV xs none (some 1) = xs.take 1 by rw [show (some (1 : Int)) = some ((1 : Nat) : Int) from rfl, cutV_to]]
    have s3 : Same H2 (upd H2 c1 (.lst (xs.take 1))) := Same.new (Same.refl _) hc1
    have ec1 : (upd H2 c1 (.lst (xs.take 1))) c1 = some (.lst (xs.take 1)) := upd_same
    generalize upd H2 c1 (.lst (xs.take 1)) = H3 at s3 ec1 ⊢
    have s13 := s2.trans s3
    refine ⟨kr, c1, xs, xs.take 1, rfl, rfl, s13 _ _ ek1, ec1, Nat.le_trans (by rw [List.length_take]; omega : xs.length + (xs.take 1).length ≤ 100) (by decide), fun u hu => ?_⟩
    have s4 : Same H3 (upd H3 u (.lst (xs ++ xs.take 1))) := Same.new (Same.refl _) hu
    have pt : ∀ {xs : List V} {ks : List Mv} (n : Nat), Paired (MvAt (wo H1 p)) xs ks → Paired (MvAt (wo H1 p)) (xs.take n) (ks.take n) := by
      intro xs ks n h
      induction h generalizing n with
      | nil => simp; exact .nil
      | cons h t ih => cases n with
        | zero => exact .nil
        | succ n => exact .cons h (ih n)
    have pr : ∀ {xs : List V} {ks : List Mv}, Paired (MvAt (wo H1 p)) xs ks → Paired (MvAt (wo H1 p)) xs.reverse ks.reverse := by
      intro xs ks h
      induction h with
      | nil => exact .nil
      | cons h t ih => rw [List.reverse_cons, List.reverse_cons]; exact pr_app ih (.cons h .nil)
    have hn2 : Hnd K (wo (upd H3 u (.lst (xs ++ xs.take 1))) p) u (xs ++ xs.take 1) (ks ++ ks.take 1) D.sg ks := ⟨.inl (SqL.of (by rw [wo_ne (n1 s13 hu)]; exact upd_same)), mvs_ext (w1 (s13.trans s4)) (pr_app sc.kp (pt 1 sc.kp)), by rw [List.length_append, List.length_take]; omega, fun k => by
      rw [List.mem_append]
      exact ⟨fun z => z.elim id fun z => List.mem_of_mem_take z, .inl⟩, fun k hk => by
      rcases List.mem_append.mp hk with z | z
      · exact sc.ok k z
      · exact sc.ok k (List.mem_of_mem_take z)⟩
    generalize upd H3 u (.lst (xs ++ xs.take 1)) = H4 at s4 hn2 ⊢
    have s14 := s13.trans s4
    refine ⟨_, rfl, kr, xs, rfl, SqL.of (s14 _ _ ek1), fun v hv => ?_⟩
    have s5 : Same H4 (upd H4 v (.lst xs.reverse)) := Same.new (Same.refl _) hv
    have hn3 : Hnd K (wo (upd H4 v (.lst xs.reverse)) p) v xs.reverse ks.reverse D.sg ks := ⟨.inl (SqL.of (by rw [wo_ne (n1 s14 hv)]; exact upd_same)), mvs_ext (w1 (s14.trans s5)) (pr sc.kp), by rw [List.length_reverse]; omega, fun k => List.mem_reverse, fun k hk => sc.ok k (List.mem_reverse.mp hk)⟩
    generalize upd H4 v (.lst xs.reverse) = H5 at s5 hn3 ⊢
    have s15 := s14.trans s5
    refine ⟨z4, fun M hM => ⟨_, rfl, p, c + 300, 4, rfl, (b1.same s15).new hM, by omega, by omega, by omega, fun d1 o1 hd1 ho1 => ?_⟩⟩
    have nM : M ≠ p := n1 s15 hM
    have k56 : Kp p H5 (upd (upd H5 M (.lst [.ref kr, .ref t, .ref u, .ref v])) p o1) := ((Kp.refl p H5).new hM).upd
    have b6 : BoxAt (upd (upd H5 M (.lst [.ref kr, .ref t, .ref u, .ref v])) p o1) p (c + 301) := ho1.at
    have eM6 : (upd (upd H5 M (.lst [.ref kr, .ref t, .ref u, .ref v])) p o1) M = some (.lst [.ref kr, .ref t, .ref u, .ref v]) := by rw [upd_ne nM]; exact upd_same
    generalize upd (upd H5 M (.lst [.ref kr, .ref t, .ref u, .ref v])) p o1 = H6 at k56 b6 eM6 ⊢
    have k16 : Kp p H1 H6 := (Kp.of s15).trans k56
    obtain ⟨a, ys, ks', ea, hn⟩ : ∃ a ys ks', [V.ref kr, .ref t, .ref u, .ref v][d1]? = some (.ref a) ∧ Hnd K (wo H6 p) a ys ks' D.sg ks := by
      have : d1 = 0 ∨ d1 = 1 ∨ d1 = 2 ∨ d1 = 3 := by omega
      rcases this with rfl | rfl | rfl | rfl
      · exact ⟨kr, _, _, rfl, hn0.ext k16.wo⟩
      · exact ⟨t, _, _, rfl, hn1.ext ((Kp.of ((s3.trans s4).trans s5)).trans k56).wo⟩
      · exact ⟨u, _, _, rfl, hn2.ext ((Kp.of s5).trans k56).wo⟩
      · exact ⟨v, _, _, rfl, hn3.ext k56.wo⟩
    refine ⟨M, _, (d1 : Int), _, rfl, rfl, SqL.of eM6, atI_nat ea, ?_⟩
    clear hn0 hn1 hn2 hn3 ea eM6
    have hn6 := hn.ext (wo_same H6 p)
    obtain ⟨dd, shd, dgd⟩ := hn6.sh sc.s3
    have pa6 := sc.parts.kp k16
    have ek6 := wo_le (k16.wo _ _ sc.kl)
    have kp6 := mvs_ext (wo_same H6 p) (mvs_ext k16.wo sc.kp)
    obtain ⟨Sa, Ea, hS, hdS, hdE, _⟩ := pa6.lp
    dsimp only [L2.gName]
    refine ⟨_, rfl, _, rfl, pl, kr, D, xs, ks, rfl, pa6.lp, ek6, kp6, by omega, sc.ok, fun due hdue H7 s7 => ?_⟩
    refine ⟨_, rfl, pl, _, _, _, rfl, rfl, hS.ext s7, atI_nat (j := 0) rfl, _, rfl, pl, _, _, _, rfl, rfl, hS.ext s7, atI_nat (j := 1) rfl, _, rfl, pl, _, _, _, rfl, rfl, hS.ext s7, atI_nat (j := 2) rfl, fun o dx hx hdx ne => ⟨o, dx, _, _, _, .int (D.sg : Nat), D.stL, D.enL, false, false, false, rfl, upd_same, .int _, made_dw hx hdx (hdS.ext s7), made_dw hx hdx (hdE.ext s7), weight_stL ok, weight_enL ok, .inr (.inr (.inr ⟨D, Dcd.goodL ok, fun H8 k8 dec => ⟨rfl, ?_⟩⟩))⟩⟩
    have s8 : Same H6 H8 := s7.trans (made_same hx hdx k8)
    clear k8 hx hdx ne
    refine ⟨_, rfl, .ref a, dd, false, rfl, dgd H8 s8, shd.1, shd.2.1, shd.2.2, _, _, _, rfl, ?_⟩
    refine ⟨2, rfl, by omega, by omega, for_range (lo := 0) (n := 2) (fun i σ H' => ∃ x7 x8, σ = [some (.ref p), some (.ref pl), some (.ref kr), some (.ref a), some (.bl due), some (.ref o), some (.str dd.shown), x7, x8] ∧ Same H8 H') ⟨_, _, rfl, Same.refl _⟩ ?_ ?_⟩
    · rintro i σ H9 hi ⟨x7, x8, rfl, s9⟩
      have s69 := s8.trans s9
      have hnA := hn6.ext s69
      refine ⟨_, rfl, _, rfl, .ref o, .ref a, rfl, .inr (.inr ⟨o, D, a, ys, ks', rfl, rfl, dec.ext s9, hnA.q, hnA.kp, by have := hnA.l12; omega, hnA.ok, fun r1 hr1 HA sA => ?_⟩)⟩
      have e1 : r1 = due := by
        have := hr1.trans ((steady_congr hn.mem).trans hdue.symm)
        cases r1 <;> cases due <;> simp at this <;> rfl
      subst e1
      have s6A := s69.trans sA
      refine ⟨_, rfl, kr, xs, rfl, .inl (SqL.of (s6A _ _ ek6)), fun l hl => ⟨_, rfl, .ref o, .ref l, rfl, .inr (.inr ⟨o, D, l, xs, ks, rfl, rfl, dec.ext ((s9.trans sA).trans (Same.new (Same.refl _) hl)), .inl (SqL.of upd_same), mvs_ext (s6A.trans (Same.new (Same.refl _) hl)) kp6, by omega, sc.ok, fun r2 hr2 HB sB => ⟨z2, fun M2 hM2 => ⟨M2, rfl, ⟨_, SqL.of upd_same⟩, ?_⟩⟩⟩)⟩⟩
      have e2 : r2 = r1 := by
        have := hr2.trans hdue.symm
        cases r1 <;> cases r2 <;> simp at this <;> rfl
      subst e2
      have sAB : Same HA HB := (Same.new (Same.refl _) hl).trans sB
      have sBC : Same HB (upd HB M2 (.lst [.bl r2, .bl r2])) := Same.new (Same.refl _) hM2
      have eM2 : (upd HB M2 (.lst [.bl r2, .bl r2])) M2 = some (.lst [.bl r2, .bl r2]) := upd_same
      generalize upd HB M2 (.lst [.bl r2, .bl r2]) = HC at sBC eM2 ⊢
      have s8C : Same H8 HC := ((s9.trans sA).trans sAB).trans sBC
      refine for_list (K := K) (a := M2) (xs := [.bl r2, .bl r2]) (fun j σ H' => ∃ x7 x8, σ = [some (.ref p), some (.ref pl), some (.ref kr), some (.ref a), some (.bl r2), some (.ref o), some (.str dd.shown), x7, x8] ∧ Same HC H') ⟨_, _, rfl, Same.refl _⟩ (fun j σ H' _ ⟨_, _, _, s⟩ => SqL.of (s _ _ eM2)) ?_ ?_
      · rintro j x σ HD hx ⟨x7, x8, rfl, sD⟩
        have ex : x = .bl r2 := by
          have hm := List.mem_of_getElem? hx
          simpa using hm
        subst ex
        refine ⟨_, rfl, _, _, _, _, isBlD (.bool r2), rfl, .ty _, (Dg.bl (K := K) (m := false) r2).ty, kit_blD (.bool r2), _, rfl, ?_⟩
        refine iteF ⟨_, rfl, _, rfl, rfl, _, rfl, ?_⟩
        rw [show (!decide (V.bl r2 = V.bl r2)) = false by simp]
        exact iteF ⟨_, _, rfl, sD⟩
      · rintro σ HD ⟨x7, x8, rfl, sD⟩
        exact ⟨_, _, rfl, s8C.trans sD⟩
    · rintro σ H9 ⟨x7, x8, rfl, s9⟩
      refine ⟨_, rfl, (by show 0 ≤ sizeLine; decide), fun e he => ?_⟩
      have se : Same H9 (upd H9 e (.lst [])) := Same.new (Same.refl _) he
      refine ⟨.ref o, .ref e, rfl, .inr (.inr ⟨o, D, e, [], [], rfl, rfl, dec.ext (s9.trans se), .inl (SqL.of upd_same), .nil, Nat.zero_le _, (fun k z => by cases z), fun rr hrr HA sA => ?_⟩)⟩
      have er : rr = true := hrr.mpr (steady_nil D)
      subst er
      have s6A := ((s8.trans s9).trans se).trans sA
      refine ⟨true, true, rfl, rfl, _, rfl, ?_⟩
      refine iteF ⟨_, rfl, .ref a, dd, false, rfl, dgd HA s6A, shd.1, shd.2.1, shd.2.2, _, rfl, rfl, _, rfl, ?_⟩
      refine neSame ?_
      have k1A := k16.trans (Kp.of s6A)
      refine ⟨_, rfl, _, rfl, _, rfl, pl, _, _, _, rfl, rfl, hS.ext s6A, atI_nat (j := 0) rfl, p, o, c + 301, D, rfl, b6.same s6A, by omega, dec.ext ((s9.trans se).trans sA), sc.s3, fun H' k' => kQ H' ((k1.trans k1A).trans k')⟩
end
end My

set_option Elab.async false
set_option linter.all false
set_option maxRecDepth 100000
set_option maxHeartbeats 8000000
namespace My
open PySem PySem.Spec PyProof.Rows L2
section
variable {P : Program} {w : World} {K : PySem.W.Frag} {mg : Str → Option Value} {base : Heap}
def spLaw (K : PySem.W.Frag) : Sp := fun vs H Q _ => ∃ (a : Addr) (ns : List Int), vs = [.ref a] ∧ SqL K H a (ns.map V.int) ∧ ns.length ≤ 63 ∧ ∀ H', Q (.bl true) H'
theorem ok_law (T : Txt K mg w) : FnG P w K mg base CX0 12 T.f_law T.fd_law ["script"] (spLaw K) := by
  refine T.F_law.okG sc_law (fun vs H Q E h => ?_) (fun cdv A outer s H vs Q E hgd hr h => ?_)
  · obtain ⟨a, ns, rfl, _⟩ := h; rfl
  · obtain ⟨a, ns, rfl, hS, hlen, q⟩ := h
    refine ⟨_, (pss_cons (ps_for PassesOwn.never rfl (pi_range1 rfl T.z_range (pa_cons (pe_callB (call_max2 rfl) (by rfl) T.z_max (by decide +kernel) (pa_cons pe_int (pa_cons (pe_callB (call_min2 rfl) (by rfl) T.z_min (by decide +kernel) (pa_cons pe_int (pa_cons (pe_callB call_len_seq (by rfl) T.z_len (by decide +kernel) (pa_cons (pv 0) pa_nil)) pa_nil))) pa_nil))) pa_nil)) (pg_name (i := 1) sc_law.nd rfl (Or.inl rfl)) (pss_one (ps_if (pt_not (pt_val (pe_callG (ok_law_right T) hgd (hr.mono (by decide)) rfl T.g_law_right T.F_law_right.kp T.b_law_right .nil pass0 (pa_cons (pe_call (ok_law_box T) (hr.mono (by decide)) rfl T.g_law_box T.F_law_box.kp T.b_law_box .nil pass0 (pa_cons (pe_call (ok_law_cell T) (hr.mono (by decide)) rfl T.g_law_cell T.F_law_cell.kp T.b_law_cell .nil pass0 (pa_cons (pv 0) (pa_cons (pv 1) pa_nil))) pa_nil)) pa_nil)))) (pss_one (ps_ret pe_bl)) pss_nil)))
      (pss_one (ps_ret pe_bl))), ?_⟩
    refine ⟨_, rfl, a, _, rfl, .inl hS, _, _, rfl, _, _, rfl, _, rfl, ?_, ?_, ?_⟩
    · split <;> split <;> omega
    · split <;> split <;> omega
    refine for_range (lo := 0) (fun i σ H' => ∃ x1, σ = [some (.ref a), x1] ∧ Same H H') ⟨_, rfl, Same.refl _⟩ ?_ ?_
    · rintro i σ H' hi ⟨x1, rfl, sH⟩
      rw [Int.zero_add]
      refine ⟨_, rfl, _, rfl, a, ns, i, rfl, hS.ext sH, fun c H1 s1 => ?_⟩
      refine ⟨c, rfl, fun p o hp ho => ?_⟩
      have sH1 := sH.trans s1
      have hpH : H p = none := sH1.free hp
      have s2 : Same H (upd H1 p o) := Same.new sH1 hp
      refine ⟨p, 0, rfl, ho.at, by omega, fun H2 k2 => ⟨true, rfl, iteF ?_⟩⟩
      exact ⟨_, rfl, k2.toSame s2 hpH⟩
    · rintro σ H' ⟨x1, rfl, sH⟩
      exact q H'
end
end My

set_option Elab.async false
set_option linter.all false
set_option maxRecDepth 100000
set_option maxHeartbeats 8000000
namespace My
open PySem PySem.Spec PyProof.Rows L2
def keyS (e : DictEntry) : Option Str := match e.key with
  | .str x _ => some x
  | _ => none
theorem tab_keys2 {z : Str} : ∀ {l : List DictEntry} {ks : List Str}, l.map keyS = ks.map some → z ∉ ks → l.find? (·.key.isStr z) = none ∧ l.any (·.refKey) = false
  | [], _, _, _ => ⟨rfl, rfl⟩
  | e :: r, [], h, _ => by cases h
  | e :: r, k :: ks, h, n => by
    have h1 : keyS e :: r.map keyS = some k :: ks.map some := h
    injection h1 with h2 h3
    obtain ⟨i1, i2⟩ := tab_keys2 h3 (fun z => n (List.mem_cons_of_mem _ z))
    unfold keyS at h2
    split at h2
    · rename_i x t q
      have h5 := Option.some.inj h2
      have e1 : e.key.isStr z = false := by
        rw [q, h5]
        show (k == z) = false
        exact beq_eq_false_iff_ne.mpr fun e => n (by rw [← e]; exact List.mem_cons_self)
      have e2 : e.refKey = false := by unfold DictEntry.refKey; rw [q]
      exact ⟨by rw [List.find?_cons_of_neg (by rw [e1]; exact Bool.false_ne_true)]; exact i1, by rw [List.any_cons, e2, i2]; rfl⟩
    · cases h2
theorem tab_none2 {K : PySem.W.Frag} {D : Addr} {es : Array DictEntry} {m : Nat} {ks : List Str} {z : Str} (hl : K.lookup D = some ⟨.type "dict", none, .dict es m, #[]⟩) (hq : es.toList.map keyS = ks.map some) (hz : z ∉ ks) : PySem.W.nsIn K D z = some none := by
  unfold PySem.W.nsIn
  rw [hl]
  obtain ⟨a, b⟩ := tab_keys2 hq hz
  show (match es.toList.find? (·.key.isStr z) with
    | some e => some (some e.val)
    | none => if es.toList.any (·.refKey) then none else some none) = some none
  rw [a, b]; rfl
theorem exm_of {K : PySem.W.Frag} {S T : Addr} {b : Bool} (h1 : PySem.W.subIn K (.ref T) (.type "BaseException") = some true) (h2 : PySem.W.isClsIn K T = true) (h3 : PySem.W.typeIn K (.ref T) = some (.type "type")) (h4 : PySem.W.subIn K (.ref S) (.ref T) = some b) :
    PySem.W.exmOne K (.ref S) (.ref T) = some b := by
  have e1 : (PySem.W.subIn K (.ref T) (.type "BaseException") == some true) = true := by rw [h1] <;> rfl
  have e2 : ((PySem.W.clsIn K T).isSome && PySem.W.typeIn K (.ref T) == some (.type "type")) = true := by
    have h2' : (PySem.W.clsIn K T).isSome = true := h2
    rw [h2', h3] <;> rfl
  show (if (PySem.W.subIn K (.ref T) (.type "BaseException") == some true) = true then (if ((PySem.W.clsIn K T).isSome && PySem.W.typeIn K (.ref T) == some (.type "type")) = true then PySem.W.subIn K (.ref S) (.ref T) else none) else none) = some b
  rw [if_pos e1, if_pos e2]
  exact h4
theorem all_mk {P : Program} {w : World} {K : PySem.W.Frag} {h : Heap} {mg : Str → Option Value} {fa : Addr} (X : K.In h) (G : h.Ns mainGlobals mg) (hfa : mg "law" = some (.ref fa))
    {C0 I0 B0 : Addr} {nm0 q0 : Str} {N0 : Addr} {bs0 : List Value} {sn0 : List Str} {sub0 : List Value} {ab0 : Bool} {col0 : Option Bool} {dd0 : Option Addr} {m00 m10 m20 m30 m50 : Option Value}
    {ei0 en0 : Option Addr} {es0 : Array (Option Value)} {eo0 ed0 ep0 ec0 et0 : Value} {p10 p20 q10 q20 q30 q40 : Pos}
    {C1 I1 B1 : Addr} {nm1 q1 : Str} {N1 : Addr} {bs1 : List Value} {sn1 : List Str} {sub1 : List Value} {ab1 : Bool} {col1 : Option Bool} {dd1 : Option Addr} {m01 m11 m21 m31 m51 : Option Value}
    {ei1 en1 : Option Addr} {es1 : Array (Option Value)} {eo1 ed1 ep1 ec1 et1 : Value} {p11 p21 q11 q21 q31 q41 : Pos}
    {C2 I2 B2 : Addr} {nm2 q2 : Str} {N2 : Addr} {bs2 : List Value} {sn2 : List Str} {sub2 : List Value} {ab2 : Bool} {col2 : Option Bool} {dd2 : Option Addr} {m02 m12 m22 m32 m52 : Option Value}
    {ei2 en2 : Option Addr} {es2 : Array (Option Value)} {eo2 ed2 ep2 ec2 et2 : Value} {p12 p22 q12 q22 q32 q42 : Pos}
    {C3 I3 B3 : Addr} {nm3 q3 : Str} {N3 : Addr} {bs3 : List Value} {sn3 : List Str} {sub3 : List Value} {ab3 : Bool} {col3 : Option Bool} {dd3 : Option Addr} {m03 m13 m23 m33 m53 : Option Value}
    {ei3 en3 : Option Addr} {es3 : Array (Option Value)} {eo3 ed3 ep3 ec3 et3 : Value} {p13 p23 q13 q23 q33 q43 : Pos}
    {C4 I4 B4 : Addr} {nm4 q4 : Str} {N4 : Addr} {bs4 : List Value} {sn4 : List Str} {sub4 : List Value} {ab4 : Bool} {col4 : Option Bool} {dd4 : Option Addr} {m04 m14 m24 m34 m54 : Option Value}
    {ei4 en4 : Option Addr} {es4 : Array (Option Value)} {eo4 ed4 ep4 ec4 et4 : Value} {p14 p24 q14 q24 q34 q44 : Pos}
    {OC_Decoder : Addr}
    {f0 : Addr} {od0 an0 : Option Addr} {sl0 : Array (Option Value)} {oc0 kV0 dc0 pm0 cd0 ct0 : Value}
    {f1 : Addr} {od1 an1 : Option Addr} {sl1 : Array (Option Value)} {oc1 kV1 dc1 pm1 cd1 ct1 : Value}
    {f2 : Addr} {od2 an2 : Option Addr} {sl2 : Array (Option Value)} {oc2 kV2 dc2 pm2 cd2 ct2 : Value}
    {f3 : Addr} {od3 an3 : Option Addr} {sl3 : Array (Option Value)} {oc3 kV3 dc3 pm3 cd3 ct3 : Value}
    {f4 : Addr} {od4 an4 : Option Addr} {sl4 : Array (Option Value)} {oc4 kV4 dc4 pm4 cd4 ct4 : Value}
    {f5 : Addr} {od5 an5 : Option Addr} {sl5 : Array (Option Value)} {oc5 kV5 dc5 pm5 cd5 ct5 : Value}
    {f6 : Addr} {od6 an6 : Option Addr} {sl6 : Array (Option Value)} {oc6 kV6 dc6 pm6 cd6 ct6 : Value}
    {f7 : Addr} {od7 an7 : Option Addr} {sl7 : Array (Option Value)} {oc7 kV7 dc7 pm7 cd7 ct7 : Value}
    {f8 : Addr} {od8 an8 : Option Addr} {sl8 : Array (Option Value)} {oc8 kV8 dc8 pm8 cd8 ct8 : Value}
    {f9 : Addr} {od9 an9 : Option Addr} {sl9 : Array (Option Value)} {oc9 kV9 dc9 pm9 cd9 ct9 : Value}
    {f10 : Addr} {od10 an10 : Option Addr} {sl10 : Array (Option Value)} {oc10 kV10 dc10 pm10 cd10 ct10 : Value}
    {f11 : Addr} {od11 an11 : Option Addr} {sl11 : Array (Option Value)} {oc11 kV11 dc11 pm11 cd11 ct11 : Value}
    {f12 : Addr} {od12 an12 : Option Addr} {sl12 : Array (Option Value)} {oc12 kV12 dc12 pm12 cd12 ct12 : Value}
    {f13 : Addr} {od13 an13 : Option Addr} {sl13 : Array (Option Value)} {oc13 kV13 dc13 pm13 cd13 ct13 : Value}
    {f14 : Addr} {od14 an14 : Option Addr} {sl14 : Array (Option Value)} {oc14 kV14 dc14 pm14 cd14 ct14 : Value}
    {f15 : Addr} {od15 an15 : Option Addr} {sl15 : Array (Option Value)} {oc15 kV15 dc15 pm15 cd15 ct15 : Value}
    {f16 : Addr} {od16 an16 : Option Addr} {sl16 : Array (Option Value)} {oc16 kV16 dc16 pm16 cd16 ct16 : Value}
    {f17 : Addr} {od17 an17 : Option Addr} {sl17 : Array (Option Value)} {oc17 kV17 dc17 pm17 cd17 ct17 : Value}
    {f18 : Addr} {od18 an18 : Option Addr} {sl18 : Array (Option Value)} {oc18 kV18 dc18 pm18 cd18 ct18 : Value}
    {f19 : Addr} {od19 an19 : Option Addr} {sl19 : Array (Option Value)} {oc19 kV19 dc19 pm19 cd19 ct19 : Value}
    {f20 : Addr} {od20 an20 : Option Addr} {sl20 : Array (Option Value)} {oc20 kV20 dc20 pm20 cd20 ct20 : Value}
    {f21 : Addr} {od21 an21 : Option Addr} {sl21 : Array (Option Value)} {oc21 kV21 dc21 pm21 cd21 ct21 : Value}
    {f22 : Addr} {od22 an22 : Option Addr} {sl22 : Array (Option Value)} {oc22 kV22 dc22 pm22 cd22 ct22 : Value}
    {f23 : Addr} {od23 an23 : Option Addr} {sl23 : Array (Option Value)} {oc23 kV23 dc23 pm23 cd23 ct23 : Value}
    {f24 : Addr} {od24 an24 : Option Addr} {sl24 : Array (Option Value)} {oc24 kV24 dc24 pm24 cd24 ct24 : Value}
    {f25 : Addr} {od25 an25 : Option Addr} {sl25 : Array (Option Value)} {oc25 kV25 dc25 pm25 cd25 ct25 : Value}
    {f26 : Addr} {od26 an26 : Option Addr} {sl26 : Array (Option Value)} {oc26 kV26 dc26 pm26 cd26 ct26 : Value}
    {f27 : Addr} {od27 an27 : Option Addr} {sl27 : Array (Option Value)} {oc27 kV27 dc27 pm27 cd27 ct27 : Value}
    {f28 : Addr} {od28 an28 : Option Addr} {sl28 : Array (Option Value)} {oc28 kV28 dc28 pm28 cd28 ct28 : Value}
    {f29 : Addr} {od29 an29 : Option Addr} {sl29 : Array (Option Value)} {oc29 kV29 dc29 pm29 cd29 ct29 : Value}
    {f30 : Addr} {od30 an30 : Option Addr} {sl30 : Array (Option Value)} {oc30 kV30 dc30 pm30 cd30 ct30 : Value}
    {f31 : Addr} {od31 an31 : Option Addr} {sl31 : Array (Option Value)} {oc31 kV31 dc31 pm31 cd31 ct31 : Value}
    {f32 : Addr} {od32 an32 : Option Addr} {sl32 : Array (Option Value)} {oc32 kV32 dc32 pm32 cd32 ct32 : Value}
    {f33 : Addr} {od33 an33 : Option Addr} {sl33 : Array (Option Value)} {oc33 kV33 dc33 pm33 cd33 ct33 : Value}
    {f34 : Addr} {od34 an34 : Option Addr} {sl34 : Array (Option Value)} {oc34 kV34 dc34 pm34 cd34 ct34 : Value}
    {f35 : Addr} {od35 an35 : Option Addr} {sl35 : Array (Option Value)} {oc35 kV35 dc35 pm35 cd35 ct35 : Value}
    {f36 : Addr} {od36 an36 : Option Addr} {sl36 : Array (Option Value)} {oc36 kV36 dc36 pm36 cd36 ct36 : Value}
    {f37 : Addr} {od37 an37 : Option Addr} {sl37 : Array (Option Value)} {oc37 kV37 dc37 pm37 cd37 ct37 : Value}
    {f38 : Addr} {od38 an38 : Option Addr} {sl38 : Array (Option Value)} {oc38 kV38 dc38 pm38 cd38 ct38 : Value}
    {t_MOST_SIGNS : Tok}
    {t_MOST_LETTERS : Tok}
    {t_MOST_STATES : Tok}
    {t_REJECTED : Tok}
    {TD_SIGNS_TOLD : Addr} {tt_SIGNS_TOLD_lost : Tok} {tt_SIGNS_TOLD_put : Tok} {tt_SIGNS_TOLD_same : Tok} {tt_SIGNS_TOLD_turned : Tok}
    {es_SIGNS_TOLD : Array DictEntry} {nn_SIGNS_TOLD : Nat}
    (eC0 : PySem.W.nsIn K mainGlobals "InvalidDecoder" = some (some (.ref C0)))
    (eL0 : K.lookup C0 = some (excClassObj nm0 q0 C0 N0 bs0 [.ref B0, .type "Exception", .type "BaseException", .type "object"] true sn0 sub0 ab0 col0 dd0 m00 m10 m20 m30 m50 "Exception.__new__"))
    (etk0 : PySem.W.takerIn K C0 "given" = some none)
    (esa0 : PySem.W.findIn K (.ref C0) "__setattr__" = some (some (.builtin "object.__setattr__")))
    (ega0 : PySem.W.findIn K (.ref C0) "__getattribute__" = some (some (.builtin "BaseException.__getattribute__")))
    (egg0 : PySem.W.findIn K (.ref C0) "__getattr__" = some none)
    (eno0 : PySem.W.findIn K (.ref C0) "given" = some none)
    (ein0 : PySem.W.findIn K (.ref C0) "__init__" = some (some (.ref I0)))
    (eti0 : PySem.W.typeIn K (.ref I0) = some (.type "function"))
    (ekC0 : PySem.W.keepIn K (.ref C0) = true)
    (eeC0 : PySem.W.subIn K (.ref C0) (.type "BaseException") = some true)
    (etC0 : PySem.W.typeIn K (.ref C0) = some (.type "type"))
    (ehC0 : PySem.W.hasDictIn K C0 = true)
    (eiC0 : PySem.W.isClsIn K C0 = true)
    (esC0 : PySem.W.subIn K (.ref C0) (.ref C0) = some true)
    (efn0 : K.lookup I0 = some ⟨eo0, ei0, .func (PySem.W.fnOf "__init__" "InvalidDecoder.__init__" (ErrX.iA p10 p20) (ErrX.iB q10 q20 q30 q40) ErrX.iS .none .none ed0 ep0 en0 ec0 et0), es0⟩)
    (eco0 : PySem.W.codeIn K ec0 "InvalidDecoder.__init__" = true)
    (eC1 : PySem.W.nsIn K mainGlobals "InvalidEnds" = some (some (.ref C1)))
    (eL1 : K.lookup C1 = some (excClassObj nm1 q1 C1 N1 bs1 [.ref B1, .type "Exception", .type "BaseException", .type "object"] true sn1 sub1 ab1 col1 dd1 m01 m11 m21 m31 m51 "Exception.__new__"))
    (etk1 : PySem.W.takerIn K C1 "given" = some none)
    (esa1 : PySem.W.findIn K (.ref C1) "__setattr__" = some (some (.builtin "object.__setattr__")))
    (ega1 : PySem.W.findIn K (.ref C1) "__getattribute__" = some (some (.builtin "BaseException.__getattribute__")))
    (egg1 : PySem.W.findIn K (.ref C1) "__getattr__" = some none)
    (eno1 : PySem.W.findIn K (.ref C1) "given" = some none)
    (ein1 : PySem.W.findIn K (.ref C1) "__init__" = some (some (.ref I1)))
    (eti1 : PySem.W.typeIn K (.ref I1) = some (.type "function"))
    (ekC1 : PySem.W.keepIn K (.ref C1) = true)
    (eeC1 : PySem.W.subIn K (.ref C1) (.type "BaseException") = some true)
    (etC1 : PySem.W.typeIn K (.ref C1) = some (.type "type"))
    (ehC1 : PySem.W.hasDictIn K C1 = true)
    (eiC1 : PySem.W.isClsIn K C1 = true)
    (esC1 : PySem.W.subIn K (.ref C1) (.ref C1) = some true)
    (efn1 : K.lookup I1 = some ⟨eo1, ei1, .func (PySem.W.fnOf "__init__" "InvalidEnds.__init__" (ErrX.iA p11 p21) (ErrX.iB q11 q21 q31 q41) ErrX.iS .none .none ed1 ep1 en1 ec1 et1), es1⟩)
    (eco1 : PySem.W.codeIn K ec1 "InvalidEnds.__init__" = true)
    (eC2 : PySem.W.nsIn K mainGlobals "InvalidKinds" = some (some (.ref C2)))
    (eL2 : K.lookup C2 = some (excClassObj nm2 q2 C2 N2 bs2 [.ref B2, .type "Exception", .type "BaseException", .type "object"] true sn2 sub2 ab2 col2 dd2 m02 m12 m22 m32 m52 "Exception.__new__"))
    (etk2 : PySem.W.takerIn K C2 "given" = some none)
    (esa2 : PySem.W.findIn K (.ref C2) "__setattr__" = some (some (.builtin "object.__setattr__")))
    (ega2 : PySem.W.findIn K (.ref C2) "__getattribute__" = some (some (.builtin "BaseException.__getattribute__")))
    (egg2 : PySem.W.findIn K (.ref C2) "__getattr__" = some none)
    (eno2 : PySem.W.findIn K (.ref C2) "given" = some none)
    (ein2 : PySem.W.findIn K (.ref C2) "__init__" = some (some (.ref I2)))
    (eti2 : PySem.W.typeIn K (.ref I2) = some (.type "function"))
    (ekC2 : PySem.W.keepIn K (.ref C2) = true)
    (eeC2 : PySem.W.subIn K (.ref C2) (.type "BaseException") = some true)
    (etC2 : PySem.W.typeIn K (.ref C2) = some (.type "type"))
    (ehC2 : PySem.W.hasDictIn K C2 = true)
    (eiC2 : PySem.W.isClsIn K C2 = true)
    (esC2 : PySem.W.subIn K (.ref C2) (.ref C2) = some true)
    (efn2 : K.lookup I2 = some ⟨eo2, ei2, .func (PySem.W.fnOf "__init__" "InvalidKinds.__init__" (ErrX.iA p12 p22) (ErrX.iB q12 q22 q32 q42) ErrX.iS .none .none ed2 ep2 en2 ec2 et2), es2⟩)
    (eco2 : PySem.W.codeIn K ec2 "InvalidKinds.__init__" = true)
    (eC3 : PySem.W.nsIn K mainGlobals "InvalidSigns" = some (some (.ref C3)))
    (eL3 : K.lookup C3 = some (excClassObj nm3 q3 C3 N3 bs3 [.ref B3, .type "Exception", .type "BaseException", .type "object"] true sn3 sub3 ab3 col3 dd3 m03 m13 m23 m33 m53 "Exception.__new__"))
    (etk3 : PySem.W.takerIn K C3 "given" = some none)
    (esa3 : PySem.W.findIn K (.ref C3) "__setattr__" = some (some (.builtin "object.__setattr__")))
    (ega3 : PySem.W.findIn K (.ref C3) "__getattribute__" = some (some (.builtin "BaseException.__getattribute__")))
    (egg3 : PySem.W.findIn K (.ref C3) "__getattr__" = some none)
    (eno3 : PySem.W.findIn K (.ref C3) "given" = some none)
    (ein3 : PySem.W.findIn K (.ref C3) "__init__" = some (some (.ref I3)))
    (eti3 : PySem.W.typeIn K (.ref I3) = some (.type "function"))
    (ekC3 : PySem.W.keepIn K (.ref C3) = true)
    (eeC3 : PySem.W.subIn K (.ref C3) (.type "BaseException") = some true)
    (etC3 : PySem.W.typeIn K (.ref C3) = some (.type "type"))
    (ehC3 : PySem.W.hasDictIn K C3 = true)
    (eiC3 : PySem.W.isClsIn K C3 = true)
    (esC3 : PySem.W.subIn K (.ref C3) (.ref C3) = some true)
    (efn3 : K.lookup I3 = some ⟨eo3, ei3, .func (PySem.W.fnOf "__init__" "InvalidSigns.__init__" (ErrX.iA p13 p23) (ErrX.iB q13 q23 q33 q43) ErrX.iS .none .none ed3 ep3 en3 ec3 et3), es3⟩)
    (eco3 : PySem.W.codeIn K ec3 "InvalidSigns.__init__" = true)
    (eC4 : PySem.W.nsIn K mainGlobals "InvalidSteps" = some (some (.ref C4)))
    (eL4 : K.lookup C4 = some (excClassObj nm4 q4 C4 N4 bs4 [.ref B4, .type "Exception", .type "BaseException", .type "object"] true sn4 sub4 ab4 col4 dd4 m04 m14 m24 m34 m54 "Exception.__new__"))
    (etk4 : PySem.W.takerIn K C4 "given" = some none)
    (esa4 : PySem.W.findIn K (.ref C4) "__setattr__" = some (some (.builtin "object.__setattr__")))
    (ega4 : PySem.W.findIn K (.ref C4) "__getattribute__" = some (some (.builtin "BaseException.__getattribute__")))
    (egg4 : PySem.W.findIn K (.ref C4) "__getattr__" = some none)
    (eno4 : PySem.W.findIn K (.ref C4) "given" = some none)
    (ein4 : PySem.W.findIn K (.ref C4) "__init__" = some (some (.ref I4)))
    (eti4 : PySem.W.typeIn K (.ref I4) = some (.type "function"))
    (ekC4 : PySem.W.keepIn K (.ref C4) = true)
    (eeC4 : PySem.W.subIn K (.ref C4) (.type "BaseException") = some true)
    (etC4 : PySem.W.typeIn K (.ref C4) = some (.type "type"))
    (ehC4 : PySem.W.hasDictIn K C4 = true)
    (eiC4 : PySem.W.isClsIn K C4 = true)
    (esC4 : PySem.W.subIn K (.ref C4) (.ref C4) = some true)
    (efn4 : K.lookup I4 = some ⟨eo4, ei4, .func (PySem.W.fnOf "__init__" "InvalidSteps.__init__" (ErrX.iA p14 p24) (ErrX.iB q14 q24 q34 q44) ErrX.iS .none .none ed4 ep4 en4 ec4 et4), es4⟩)
    (eco4 : PySem.W.codeIn K ec4 "InvalidSteps.__init__" = true)
    (en_0_1 : PySem.W.subIn K (.ref C0) (.ref C1) = some false)
    (en_0_2 : PySem.W.subIn K (.ref C0) (.ref C2) = some false)
    (en_0_3 : PySem.W.subIn K (.ref C0) (.ref C3) = some false)
    (en_0_4 : PySem.W.subIn K (.ref C0) (.ref C4) = some false)
    (en_1_0 : PySem.W.subIn K (.ref C1) (.ref C0) = some false)
    (en_1_2 : PySem.W.subIn K (.ref C1) (.ref C2) = some false)
    (en_1_3 : PySem.W.subIn K (.ref C1) (.ref C3) = some false)
    (en_1_4 : PySem.W.subIn K (.ref C1) (.ref C4) = some false)
    (en_2_0 : PySem.W.subIn K (.ref C2) (.ref C0) = some false)
    (en_2_1 : PySem.W.subIn K (.ref C2) (.ref C1) = some false)
    (en_2_3 : PySem.W.subIn K (.ref C2) (.ref C3) = some false)
    (en_2_4 : PySem.W.subIn K (.ref C2) (.ref C4) = some false)
    (en_3_0 : PySem.W.subIn K (.ref C3) (.ref C0) = some false)
    (en_3_1 : PySem.W.subIn K (.ref C3) (.ref C1) = some false)
    (en_3_2 : PySem.W.subIn K (.ref C3) (.ref C2) = some false)
    (en_3_4 : PySem.W.subIn K (.ref C3) (.ref C4) = some false)
    (en_4_0 : PySem.W.subIn K (.ref C4) (.ref C0) = some false)
    (en_4_1 : PySem.W.subIn K (.ref C4) (.ref C1) = some false)
    (en_4_2 : PySem.W.subIn K (.ref C4) (.ref C2) = some false)
    (en_4_3 : PySem.W.subIn K (.ref C4) (.ref C3) = some false)
    (on_Decoder : PySem.W.nsIn K mainGlobals "Decoder" = some (some (.ref OC_Decoder)))
    (opg_Decoder : PySem.W.plainGet K OC_Decoder Str.empty = true)
    (ohd_Decoder : PySem.W.hasDictIn K OC_Decoder = true)
    (opo_Decoder : PySem.W.plainOver K OC_Decoder = true)
    (osa_Decoder : PySem.W.findIn K (.ref OC_Decoder) "__setattr__" = some (some (.builtin "object.__setattr__")))
    (omk_Decoder : PySem.W.makesIn K OC_Decoder = true)
    (okp_Decoder : PySem.W.keepIn K (.ref OC_Decoder) = true)
    (one_Decoder : PySem.W.findIn K (.ref OC_Decoder) "__ne__" = some (some (.builtin "object.__ne__")))
    (omo_Decoder : PySem.W.mroIn K OC_Decoder (.type "object") = some true)
    (oha_Decoder : PySem.W.findIn K (.ref OC_Decoder) "__class__" = some (some (.builtin "object.__class__")))
    (ohn_Decoder : PySem.W.specialIn K (.builtin "object.__class__") "__get__" = some (some (.builtin "getset_descriptor.__get__")))
    (otk_Decoder : PySem.W.takesIn K (.builtin "object.__class__") = some true)
    (oii_Decoder : PySem.W.isClsIn K OC_Decoder = true)
    (oit_Decoder : PySem.W.typeIn K (.ref OC_Decoder) = some (.type "type"))
    (ois_Decoder : PySem.W.subIn K (.ref OC_Decoder) (.ref OC_Decoder) = some true)
    (ona_Decoder_signs : PySem.W.findIn K (.ref OC_Decoder) "signs" = some none)
    (ona_Decoder_states : PySem.W.findIn K (.ref OC_Decoder) "states" = some none)
    (ona_Decoder_steps : PySem.W.findIn K (.ref OC_Decoder) "steps" = some none)
    (ona_Decoder_ends : PySem.W.findIn K (.ref OC_Decoder) "ends" = some none)
    (a0 : PySem.W.nsIn K mainGlobals "is_integer" = some (some (.ref f0)))
    (l0 : K.lookup f0 = some ⟨oc0, od0, .func (PySem.W.fnOf "is_integer" "is_integer" (defArgs s_is_integer) (defBody s_is_integer) (defScope s_is_integer) .none kV0 dc0 pm0 an0 cd0 ct0), sl0⟩)
    (c0 : PySem.W.codeIn K cd0 "is_integer" = true)
    (k0 : PySem.W.keepIn K (.ref f0) = true)
    (a1 : PySem.W.nsIn K mainGlobals "is_count" = some (some (.ref f1)))
    (l1 : K.lookup f1 = some ⟨oc1, od1, .func (PySem.W.fnOf "is_count" "is_count" (defArgs s_is_count) (defBody s_is_count) (defScope s_is_count) .none kV1 dc1 pm1 an1 cd1 ct1), sl1⟩)
    (c1 : PySem.W.codeIn K cd1 "is_count" = true)
    (k1 : PySem.W.keepIn K (.ref f1) = true)
    (a2 : PySem.W.nsIn K mainGlobals "is_list" = some (some (.ref f2)))
    (l2 : K.lookup f2 = some ⟨oc2, od2, .func (PySem.W.fnOf "is_list" "is_list" (defArgs s_is_list) (defBody s_is_list) (defScope s_is_list) .none kV2 dc2 pm2 an2 cd2 ct2), sl2⟩)
    (c2 : PySem.W.codeIn K cd2 "is_list" = true)
    (k2 : PySem.W.keepIn K (.ref f2) = true)
    (a3 : PySem.W.nsIn K mainGlobals "is_text" = some (some (.ref f3)))
    (l3 : K.lookup f3 = some ⟨oc3, od3, .func (PySem.W.fnOf "is_text" "is_text" (defArgs s_is_text) (defBody s_is_text) (defScope s_is_text) .none kV3 dc3 pm3 an3 cd3 ct3), sl3⟩)
    (c3 : PySem.W.codeIn K cd3 "is_text" = true)
    (k3 : PySem.W.keepIn K (.ref f3) = true)
    (a4 : PySem.W.nsIn K mainGlobals "is_word" = some (some (.ref f4)))
    (l4 : K.lookup f4 = some ⟨oc4, od4, .func (PySem.W.fnOf "is_word" "is_word" (defArgs s_is_word) (defBody s_is_word) (defScope s_is_word) .none kV4 dc4 pm4 an4 cd4 ct4), sl4⟩)
    (c4 : PySem.W.codeIn K cd4 "is_word" = true)
    (k4 : PySem.W.keepIn K (.ref f4) = true)
    (a5 : PySem.W.nsIn K mainGlobals "is_number_of_signs" = some (some (.ref f5)))
    (l5 : K.lookup f5 = some ⟨oc5, od5, .func (PySem.W.fnOf "is_number_of_signs" "is_number_of_signs" (defArgs s_is_number_of_signs) (defBody s_is_number_of_signs) (defScope s_is_number_of_signs) .none kV5 dc5 pm5 an5 cd5 ct5), sl5⟩)
    (c5 : PySem.W.codeIn K cd5 "is_number_of_signs" = true)
    (k5 : PySem.W.keepIn K (.ref f5) = true)
    (a6 : PySem.W.nsIn K mainGlobals "is_below" = some (some (.ref f6)))
    (l6 : K.lookup f6 = some ⟨oc6, od6, .func (PySem.W.fnOf "is_below" "is_below" (defArgs s_is_below) (defBody s_is_below) (defScope s_is_below) .none kV6 dc6 pm6 an6 cd6 ct6), sl6⟩)
    (c6 : PySem.W.codeIn K cd6 "is_below" = true)
    (k6 : PySem.W.keepIn K (.ref f6) = true)
    (a7 : PySem.W.nsIn K mainGlobals "are_steps" = some (some (.ref f7)))
    (l7 : K.lookup f7 = some ⟨oc7, od7, .func (PySem.W.fnOf "are_steps" "are_steps" (defArgs s_are_steps) (defBody s_are_steps) (defScope s_are_steps) .none kV7 dc7 pm7 an7 cd7 ct7), sl7⟩)
    (c7 : PySem.W.codeIn K cd7 "are_steps" = true)
    (k7 : PySem.W.keepIn K (.ref f7) = true)
    (a8 : PySem.W.nsIn K mainGlobals "are_entries" = some (some (.ref f8)))
    (l8 : K.lookup f8 = some ⟨oc8, od8, .func (PySem.W.fnOf "are_entries" "are_entries" (defArgs s_are_entries) (defBody s_are_entries) (defScope s_are_entries) .none kV8 dc8 pm8 an8 cd8 ct8), sl8⟩)
    (c8 : PySem.W.codeIn K cd8 "are_entries" = true)
    (k8 : PySem.W.keepIn K (.ref f8) = true)
    (a9 : PySem.W.nsIn K mainGlobals "is_step_decoders" = some (some (.ref f9)))
    (l9 : K.lookup f9 = some ⟨oc9, od9, .func (PySem.W.fnOf "is_step" "is_step" (defArgs s_is_step_decoders) (defBody s_is_step_decoders) (defScope s_is_step_decoders) .none kV9 dc9 pm9 an9 cd9 ct9), sl9⟩)
    (c9 : PySem.W.codeIn K cd9 "is_step" = true)
    (k9 : PySem.W.keepIn K (.ref f9) = true)
    (a10 : PySem.W.nsIn K mainGlobals "are_ends" = some (some (.ref f10)))
    (l10 : K.lookup f10 = some ⟨oc10, od10, .func (PySem.W.fnOf "are_ends" "are_ends" (defArgs s_are_ends) (defBody s_are_ends) (defScope s_are_ends) .none kV10 dc10 pm10 an10 cd10 ct10), sl10⟩)
    (c10 : PySem.W.codeIn K cd10 "are_ends" = true)
    (k10 : PySem.W.keepIn K (.ref f10) = true)
    (a11 : PySem.W.nsIn K mainGlobals "is_kind" = some (some (.ref f11)))
    (l11 : K.lookup f11 = some ⟨oc11, od11, .func (PySem.W.fnOf "is_kind" "is_kind" (defArgs s_is_kind) (defBody s_is_kind) (defScope s_is_kind) .none kV11 dc11 pm11 an11 cd11 ct11), sl11⟩)
    (c11 : PySem.W.codeIn K cd11 "is_kind" = true)
    (k11 : PySem.W.keepIn K (.ref f11) = true)
    (a12 : PySem.W.nsIn K mainGlobals "is_step_passings" = some (some (.ref f12)))
    (l12 : K.lookup f12 = some ⟨oc12, od12, .func (PySem.W.fnOf "is_step" "is_step" (defArgs s_is_step_passings) (defBody s_is_step_passings) (defScope s_is_step_passings) .none kV12 dc12 pm12 an12 cd12 ct12), sl12⟩)
    (c12 : PySem.W.codeIn K cd12 "is_step" = true)
    (k12 : PySem.W.keepIn K (.ref f12) = true)
    (a13 : PySem.W.nsIn K mainGlobals "is_free" = some (some (.ref f13)))
    (l13 : K.lookup f13 = some ⟨oc13, od13, .func (PySem.W.fnOf "is_free" "is_free" (defArgs s_is_free) (defBody s_is_free) (defScope s_is_free) .none kV13 dc13 pm13 an13 cd13 ct13), sl13⟩)
    (c13 : PySem.W.codeIn K cd13 "is_free" = true)
    (k13 : PySem.W.keepIn K (.ref f13) = true)
    (a14 : PySem.W.nsIn K mainGlobals "are_kinds" = some (some (.ref f14)))
    (l14 : K.lookup f14 = some ⟨oc14, od14, .func (PySem.W.fnOf "are_kinds" "are_kinds" (defArgs s_are_kinds) (defBody s_are_kinds) (defScope s_are_kinds) .none kV14 dc14 pm14 an14 cd14 ct14), sl14⟩)
    (c14 : PySem.W.codeIn K cd14 "are_kinds" = true)
    (k14 : PySem.W.keepIn K (.ref f14) = true)
    (a15 : PySem.W.nsIn K mainGlobals "check_decoder" = some (some (.ref f15)))
    (l15 : K.lookup f15 = some ⟨oc15, od15, .func (PySem.W.fnOf "check_decoder" "check_decoder" (defArgs s_check_decoder) (defBody s_check_decoder) (defScope s_check_decoder) .none kV15 dc15 pm15 an15 cd15 ct15), sl15⟩)
    (c15 : PySem.W.codeIn K cd15 "check_decoder" = true)
    (k15 : PySem.W.keepIn K (.ref f15) = true)
    (a16 : PySem.W.nsIn K mainGlobals "check_kinds" = some (some (.ref f16)))
    (l16 : K.lookup f16 = some ⟨oc16, od16, .func (PySem.W.fnOf "check_kinds" "check_kinds" (defArgs s_check_kinds) (defBody s_check_kinds) (defScope s_check_kinds) .none kV16 dc16 pm16 an16 cd16 ct16), sl16⟩)
    (c16 : PySem.W.codeIn K cd16 "check_kinds" = true)
    (k16 : PySem.W.keepIn K (.ref f16) = true)
    (a17 : PySem.W.nsIn K mainGlobals "steps_with" = some (some (.ref f17)))
    (l17 : K.lookup f17 = some ⟨oc17, od17, .func (PySem.W.fnOf "steps_with" "steps_with" (defArgs s_steps_with) (defBody s_steps_with) (defScope s_steps_with) .none kV17 dc17 pm17 an17 cd17 ct17), sl17⟩)
    (c17 : PySem.W.codeIn K cd17 "steps_with" = true)
    (k17 : PySem.W.keepIn K (.ref f17) = true)
    (a18 : PySem.W.nsIn K mainGlobals "is_steady" = some (some (.ref f18)))
    (l18 : K.lookup f18 = some ⟨oc18, od18, .func (PySem.W.fnOf "is_steady" "is_steady" (defArgs s_is_steady) (defBody s_is_steady) (defScope s_is_steady) .none kV18 dc18 pm18 an18 cd18 ct18), sl18⟩)
    (c18 : PySem.W.codeIn K cd18 "is_steady" = true)
    (k18 : PySem.W.keepIn K (.ref f18) = true)
    (a19 : PySem.W.nsIn K mainGlobals "accepts" = some (some (.ref f19)))
    (l19 : K.lookup f19 = some ⟨oc19, od19, .func (PySem.W.fnOf "accepts" "accepts" (defArgs s_accepts) (defBody s_accepts) (defScope s_accepts) .none kV19 dc19 pm19 an19 cd19 ct19), sl19⟩)
    (c19 : PySem.W.codeIn K cd19 "accepts" = true)
    (k19 : PySem.W.keepIn K (.ref f19) = true)
    (a20 : PySem.W.nsIn K mainGlobals "state_behind" = some (some (.ref f20)))
    (l20 : K.lookup f20 = some ⟨oc20, od20, .func (PySem.W.fnOf "state_behind" "state_behind" (defArgs s_state_behind) (defBody s_state_behind) (defScope s_state_behind) .none kV20 dc20 pm20 an20 cd20 ct20), sl20⟩)
    (c20 : PySem.W.codeIn K cd20 "state_behind" = true)
    (k20 : PySem.W.keepIn K (.ref f20) = true)
    (a21 : PySem.W.nsIn K mainGlobals "_law_cell" = some (some (.ref f21)))
    (l21 : K.lookup f21 = some ⟨oc21, od21, .func (PySem.W.fnOf "_law_cell" "_law_cell" (defArgs s_law_cell) (defBody s_law_cell) (defScope s_law_cell) .none kV21 dc21 pm21 an21 cd21 ct21), sl21⟩)
    (c21 : PySem.W.codeIn K cd21 "_law_cell" = true)
    (k21 : PySem.W.keepIn K (.ref f21) = true)
    (a22 : PySem.W.nsIn K mainGlobals "_law_box" = some (some (.ref f22)))
    (l22 : K.lookup f22 = some ⟨oc22, od22, .func (PySem.W.fnOf "_law_box" "_law_box" (defArgs s_law_box) (defBody s_law_box) (defScope s_law_box) .none kV22 dc22 pm22 an22 cd22 ct22), sl22⟩)
    (c22 : PySem.W.codeIn K cd22 "_law_box" = true)
    (k22 : PySem.W.keepIn K (.ref f22) = true)
    (a23 : PySem.W.nsIn K mainGlobals "_law_take" = some (some (.ref f23)))
    (l23 : K.lookup f23 = some ⟨oc23, od23, .func (PySem.W.fnOf "_law_take" "_law_take" (defArgs s_law_take) (defBody s_law_take) (defScope s_law_take) .none kV23 dc23 pm23 an23 cd23 ct23), sl23⟩)
    (c23 : PySem.W.codeIn K cd23 "_law_take" = true)
    (k23 : PySem.W.keepIn K (.ref f23) = true)
    (a24 : PySem.W.nsIn K mainGlobals "_law_blocks" = some (some (.ref f24)))
    (l24 : K.lookup f24 = some ⟨oc24, od24, .func (PySem.W.fnOf "_law_blocks" "_law_blocks" (defArgs s_law_blocks) (defBody s_law_blocks) (defScope s_law_blocks) .none kV24 dc24 pm24 an24 cd24 ct24), sl24⟩)
    (c24 : PySem.W.codeIn K cd24 "_law_blocks" = true)
    (k24 : PySem.W.keepIn K (.ref f24) = true)
    (a25 : PySem.W.nsIn K mainGlobals "_law_parts" = some (some (.ref f25)))
    (l25 : K.lookup f25 = some ⟨oc25, od25, .func (PySem.W.fnOf "_law_parts" "_law_parts" (defArgs s_law_parts) (defBody s_law_parts) (defScope s_law_parts) .none kV25 dc25 pm25 an25 cd25 ct25), sl25⟩)
    (c25 : PySem.W.codeIn K cd25 "_law_parts" = true)
    (k25 : PySem.W.keepIn K (.ref f25) = true)
    (a26 : PySem.W.nsIn K mainGlobals "_law_double" = some (some (.ref f26)))
    (l26 : K.lookup f26 = some ⟨oc26, od26, .func (PySem.W.fnOf "_law_double" "_law_double" (defArgs s_law_double) (defBody s_law_double) (defScope s_law_double) .none kV26 dc26 pm26 an26 cd26 ct26), sl26⟩)
    (c26 : PySem.W.codeIn K cd26 "_law_double" = true)
    (k26 : PySem.W.keepIn K (.ref f26) = true)
    (a27 : PySem.W.nsIn K mainGlobals "_law_free" = some (some (.ref f27)))
    (l27 : K.lookup f27 = some ⟨oc27, od27, .func (PySem.W.fnOf "_law_free" "_law_free" (defArgs s_law_free) (defBody s_law_free) (defScope s_law_free) .none kV27 dc27 pm27 an27 cd27 ct27), sl27⟩)
    (c27 : PySem.W.codeIn K cd27 "_law_free" = true)
    (k27 : PySem.W.keepIn K (.ref f27) = true)
    (a28 : PySem.W.nsIn K mainGlobals "_law_kinds" = some (some (.ref f28)))
    (l28 : K.lookup f28 = some ⟨oc28, od28, .func (PySem.W.fnOf "_law_kinds" "_law_kinds" (defArgs s_law_kinds) (defBody s_law_kinds) (defScope s_law_kinds) .none kV28 dc28 pm28 an28 cd28 ct28), sl28⟩)
    (c28 : PySem.W.codeIn K cd28 "_law_kinds" = true)
    (k28 : PySem.W.keepIn K (.ref f28) = true)
    (a29 : PySem.W.nsIn K mainGlobals "_law_scene" = some (some (.ref f29)))
    (l29 : K.lookup f29 = some ⟨oc29, od29, .func (PySem.W.fnOf "_law_scene" "_law_scene" (defArgs s_law_scene) (defBody s_law_scene) (defScope s_law_scene) .none kV29 dc29 pm29 an29 cd29 ct29), sl29⟩)
    (c29 : PySem.W.codeIn K cd29 "_law_scene" = true)
    (k29 : PySem.W.keepIn K (.ref f29) = true)
    (a30 : PySem.W.nsIn K mainGlobals "_law_behind" = some (some (.ref f30)))
    (l30 : K.lookup f30 = some ⟨oc30, od30, .func (PySem.W.fnOf "_law_behind" "_law_behind" (defArgs s_law_behind) (defBody s_law_behind) (defScope s_law_behind) .none kV30 dc30 pm30 an30 cd30 ct30), sl30⟩)
    (c30 : PySem.W.codeIn K cd30 "_law_behind" = true)
    (k30 : PySem.W.keepIn K (.ref f30) = true)
    (a31 : PySem.W.nsIn K mainGlobals "_law_accepts" = some (some (.ref f31)))
    (l31 : K.lookup f31 = some ⟨oc31, od31, .func (PySem.W.fnOf "_law_accepts" "_law_accepts" (defArgs s_law_accepts) (defBody s_law_accepts) (defScope s_law_accepts) .none kV31 dc31 pm31 an31 cd31 ct31), sl31⟩)
    (c31 : PySem.W.codeIn K cd31 "_law_accepts" = true)
    (k31 : PySem.W.keepIn K (.ref f31) = true)
    (a32 : PySem.W.nsIn K mainGlobals "_law_is_steady" = some (some (.ref f32)))
    (l32 : K.lookup f32 = some ⟨oc32, od32, .func (PySem.W.fnOf "_law_is_steady" "_law_is_steady" (defArgs s_law_is_steady) (defBody s_law_is_steady) (defScope s_law_is_steady) .none kV32 dc32 pm32 an32 cd32 ct32), sl32⟩)
    (c32 : PySem.W.codeIn K cd32 "_law_is_steady" = true)
    (k32 : PySem.W.keepIn K (.ref f32) = true)
    (a33 : PySem.W.nsIn K mainGlobals "_law_refused" = some (some (.ref f33)))
    (l33 : K.lookup f33 = some ⟨oc33, od33, .func (PySem.W.fnOf "_law_refused" "_law_refused" (defArgs s_law_refused) (defBody s_law_refused) (defScope s_law_refused) .none kV33 dc33 pm33 an33 cd33 ct33), sl33⟩)
    (c33 : PySem.W.codeIn K cd33 "_law_refused" = true)
    (k33 : PySem.W.keepIn K (.ref f33) = true)
    (a34 : PySem.W.nsIn K mainGlobals "_law_refusals_right" = some (some (.ref f34)))
    (l34 : K.lookup f34 = some ⟨oc34, od34, .func (PySem.W.fnOf "_law_refusals_right" "_law_refusals_right" (defArgs s_law_refusals_right) (defBody s_law_refusals_right) (defScope s_law_refusals_right) .none kV34 dc34 pm34 an34 cd34 ct34), sl34⟩)
    (c34 : PySem.W.codeIn K cd34 "_law_refusals_right" = true)
    (k34 : PySem.W.keepIn K (.ref f34) = true)
    (a35 : PySem.W.nsIn K mainGlobals "_law_right" = some (some (.ref f35)))
    (l35 : K.lookup f35 = some ⟨oc35, od35, .func (PySem.W.fnOf "_law_right" "_law_right" (defArgs s_law_right) (defBody s_law_right) (defScope s_law_right) .none kV35 dc35 pm35 an35 cd35 ct35), sl35⟩)
    (c35 : PySem.W.codeIn K cd35 "_law_right" = true)
    (k35 : PySem.W.keepIn K (.ref f35) = true)
    (a36 : PySem.W.nsIn K mainGlobals "law" = some (some (.ref f36)))
    (l36 : K.lookup f36 = some ⟨oc36, od36, .func (PySem.W.fnOf "law" "law" (defArgs s_law) (defBody s_law) (defScope s_law) .none kV36 dc36 pm36 an36 cd36 ct36), sl36⟩)
    (c36 : PySem.W.codeIn K cd36 "law" = true)
    (k36 : PySem.W.keepIn K (.ref f36) = true)
    (a37 : PySem.W.findIn K (.ref OC_Decoder) "__init__" = some (some (.ref f37)))
    (i37 : PySem.W.isFn K (.ref f37) = true)
    (l37 : K.lookup f37 = some ⟨oc37, od37, .func (PySem.W.fnOf "__init__" "Decoder.__init__" (defArgs s_Decoder_init) (defBody s_Decoder_init) (defScope s_Decoder_init) .none kV37 dc37 pm37 an37 cd37 ct37), sl37⟩)
    (c37 : PySem.W.codeIn K cd37 "Decoder.__init__" = true)
    (k37 : PySem.W.keepIn K (.ref f37) = true)
    (a38 : PySem.W.findIn K (.ref OC_Decoder) "__eq__" = some (some (.ref f38)))
    (i38 : PySem.W.isFn K (.ref f38) = true)
    (l38 : K.lookup f38 = some ⟨oc38, od38, .func (PySem.W.fnOf "__eq__" "Decoder.__eq__" (defArgs s_Decoder_eq) (defBody s_Decoder_eq) (defScope s_Decoder_eq) .none kV38 dc38 pm38 an38 cd38 ct38), sl38⟩)
    (c38 : PySem.W.codeIn K cd38 "Decoder.__eq__" = true)
    (k38 : PySem.W.keepIn K (.ref f38) = true)
    (z_abs : PySem.W.nsIn K mainGlobals "abs" = some none)
    (z_all : PySem.W.nsIn K mainGlobals "all" = some none)
    (z_bool : PySem.W.nsIn K mainGlobals "bool" = some none)
    (z_int : PySem.W.nsIn K mainGlobals "int" = some none)
    (z_isinstance : PySem.W.nsIn K mainGlobals "isinstance" = some none)
    (z_len : PySem.W.nsIn K mainGlobals "len" = some none)
    (z_list : PySem.W.nsIn K mainGlobals "list" = some none)
    (z_max : PySem.W.nsIn K mainGlobals "max" = some none)
    (z_min : PySem.W.nsIn K mainGlobals "min" = some none)
    (z_range : PySem.W.nsIn K mainGlobals "range" = some none)
    (z_repr : PySem.W.nsIn K mainGlobals "repr" = some none)
    (z_sorted : PySem.W.nsIn K mainGlobals "sorted" = some none)
    (z_str : PySem.W.nsIn K mainGlobals "str" = some none)
    (z_sum : PySem.W.nsIn K mainGlobals "sum" = some none)
    (z_tuple : PySem.W.nsIn K mainGlobals "tuple" = some none)
    (n_MOST_SIGNS : PySem.W.nsIn K mainGlobals "MOST_SIGNS" = some (some (.int (5) t_MOST_SIGNS)))
    (n_MOST_LETTERS : PySem.W.nsIn K mainGlobals "MOST_LETTERS" = some (some (.int (3) t_MOST_LETTERS)))
    (n_MOST_STATES : PySem.W.nsIn K mainGlobals "MOST_STATES" = some (some (.int (40) t_MOST_STATES)))
    (n_REJECTED : PySem.W.nsIn K mainGlobals "REJECTED" = some (some (.int (-1) t_REJECTED)))
    (tg_SIGNS_TOLD : PySem.W.nsIn K mainGlobals "SIGNS_TOLD" = some (some (.ref TD_SIGNS_TOLD)))
    (tl_SIGNS_TOLD : K.lookup TD_SIGNS_TOLD = some ⟨.type "dict", none, .dict es_SIGNS_TOLD nn_SIGNS_TOLD, #[]⟩)
    (tk_SIGNS_TOLD : PySem.W.KeysLit w.params es_SIGNS_TOLD.toList)
    (tq_SIGNS_TOLD : es_SIGNS_TOLD.toList.map keyS = [("lost" : Str), ("put" : Str), ("same" : Str), ("turned" : Str)].map some)
    (to_SIGNS_TOLD : (TD_SIGNS_TOLD == sysModules) = false)
    (tv_SIGNS_TOLD_lost : PySem.W.nsIn K TD_SIGNS_TOLD "lost" = some (some (.int 1 tt_SIGNS_TOLD_lost)))
    (tv_SIGNS_TOLD_put : PySem.W.nsIn K TD_SIGNS_TOLD "put" = some (some (.int 1 tt_SIGNS_TOLD_put)))
    (tv_SIGNS_TOLD_same : PySem.W.nsIn K TD_SIGNS_TOLD "same" = some (some (.int 1 tt_SIGNS_TOLD_same)))
    (tv_SIGNS_TOLD_turned : PySem.W.nsIn K TD_SIGNS_TOLD "turned" = some (some (.int 2 tt_SIGNS_TOLD_turned))) :
    ∃ fd : FuncData, (∀ (s : Shared) (v : Value), BindsTo s fd ⟨[v], []⟩ [("script", v)]) ∧ ∀ base : Heap, K.In base → base.Ns mainGlobals mg → FnG P w K mg base CX0 12 fa fd ["script"] (spLaw K) := by
  have e := hfa.symm.trans (PySem.W.mg_of X G a36)
  cases e
  have F0 := fun_mk (st := s_is_integer) l0 c0 k0
  have b0 := F0.binds (ps := ["value"]) fun _ _ _ _ _ _ us hl => match us, hl with | [_], _ => rfl
  have F1 := fun_mk (st := s_is_count) l1 c1 k1
  have b1 := F1.binds (ps := ["value"]) fun _ _ _ _ _ _ us hl => match us, hl with | [_], _ => rfl
  have F2 := fun_mk (st := s_is_list) l2 c2 k2
  have b2 := F2.binds (ps := ["value"]) fun _ _ _ _ _ _ us hl => match us, hl with | [_], _ => rfl
  have F3 := fun_mk (st := s_is_text) l3 c3 k3
  have b3 := F3.binds (ps := ["value"]) fun _ _ _ _ _ _ us hl => match us, hl with | [_], _ => rfl
  have F4 := fun_mk (st := s_is_word) l4 c4 k4
  have b4 := F4.binds (ps := ["value"]) fun _ _ _ _ _ _ us hl => match us, hl with | [_], _ => rfl
  have F5 := fun_mk (st := s_is_number_of_signs) l5 c5 k5
  have b5 := F5.binds (ps := ["value"]) fun _ _ _ _ _ _ us hl => match us, hl with | [_], _ => rfl
  have F6 := fun_mk (st := s_is_below) l6 c6 k6
  have b6 := F6.binds (ps := ["value", "limit"]) fun _ _ _ _ _ _ us hl => match us, hl with | [_, _], _ => rfl
  have F7 := fun_mk (st := s_are_steps) l7 c7 k7
  have b7 := F7.binds (ps := ["value", "signs"]) fun _ _ _ _ _ _ us hl => match us, hl with | [_, _], _ => rfl
  have F8 := fun_mk (st := s_are_entries) l8 c8 k8
  have b8 := F8.binds (ps := ["value", "signs", "states"]) fun _ _ _ _ _ _ us hl => match us, hl with | [_, _, _], _ => rfl
  have F9 := fun_mk (st := s_is_step_decoders) l9 c9 k9
  have b9 := F9.binds (ps := ["value", "states"]) fun _ _ _ _ _ _ us hl => match us, hl with | [_, _], _ => rfl
  have F10 := fun_mk (st := s_are_ends) l10 c10 k10
  have b10 := F10.binds (ps := ["value", "states"]) fun _ _ _ _ _ _ us hl => match us, hl with | [_, _], _ => rfl
  have F11 := fun_mk (st := s_is_kind) l11 c11 k11
  have b11 := F11.binds (ps := ["value", "signs"]) fun _ _ _ _ _ _ us hl => match us, hl with | [_, _], _ => rfl
  have F12 := fun_mk (st := s_is_step_passings) l12 c12 k12
  have b12 := F12.binds (ps := ["value", "signs"]) fun _ _ _ _ _ _ us hl => match us, hl with | [_, _], _ => rfl
  have F13 := fun_mk (st := s_is_free) l13 c13 k13
  have b13 := F13.binds (ps := ["step"]) fun _ _ _ _ _ _ us hl => match us, hl with | [_], _ => rfl
  have F14 := fun_mk (st := s_are_kinds) l14 c14 k14
  have b14 := F14.binds (ps := ["value", "signs"]) fun _ _ _ _ _ _ us hl => match us, hl with | [_, _], _ => rfl
  have F15 := fun_mk (st := s_check_decoder) l15 c15 k15
  have b15 := F15.binds (ps := ["value"]) fun _ _ _ _ _ _ us hl => match us, hl with | [_], _ => rfl
  have F16 := fun_mk (st := s_check_kinds) l16 c16 k16
  have b16 := F16.binds (ps := ["decoder", "kinds"]) fun _ _ _ _ _ _ us hl => match us, hl with | [_, _], _ => rfl
  have F17 := fun_mk (st := s_steps_with) l17 c17 k17
  have b17 := F17.binds (ps := ["signs", "kinds"]) fun _ _ _ _ _ _ us hl => match us, hl with | [_, _], _ => rfl
  have F18 := fun_mk (st := s_is_steady) l18 c18 k18
  have b18 := F18.binds (ps := ["decoder", "kinds"]) fun _ _ _ _ _ _ us hl => match us, hl with | [_, _], _ => rfl
  have F19 := fun_mk (st := s_accepts) l19 c19 k19
  have b19 := F19.binds (ps := ["decoder", "state"]) fun _ _ _ _ _ _ us hl => match us, hl with | [_, _], _ => rfl
  have F20 := fun_mk (st := s_state_behind) l20 c20 k20
  have b20 := F20.binds (ps := ["decoder", "state", "sign"]) fun _ _ _ _ _ _ us hl => match us, hl with | [_, _, _], _ => rfl
  have F21 := fun_mk (st := s_law_cell) l21 c21 k21
  have b21 := F21.binds (ps := ["script", "k"]) fun _ _ _ _ _ _ us hl => match us, hl with | [_, _], _ => rfl
  have F22 := fun_mk (st := s_law_box) l22 c22 k22
  have b22 := F22.binds (ps := ["great"]) fun _ _ _ _ _ _ us hl => match us, hl with | [_], _ => rfl
  have F23 := fun_mk (st := s_law_take) l23 c23 k23
  have b23 := F23.binds (ps := ["box", "many"]) fun _ _ _ _ _ _ us hl => match us, hl with | [_, _], _ => rfl
  have F24 := fun_mk (st := s_law_blocks) l24 c24 k24
  have b24 := F24.binds (ps := ["box"]) fun _ _ _ _ _ _ us hl => match us, hl with | [_], _ => rfl
  have F25 := fun_mk (st := s_law_parts) l25 c25 k25
  have b25 := F25.binds (ps := ["box"]) fun _ _ _ _ _ _ us hl => match us, hl with | [_], _ => rfl
  have F26 := fun_mk (st := s_law_double) l26 c26 k26
  have b26 := F26.binds (ps := ["box"]) fun _ _ _ _ _ _ us hl => match us, hl with | [_], _ => rfl
  have F27 := fun_mk (st := s_law_free) l27 c27 k27
  have b27 := F27.binds (ps := ["box", "sure"]) fun _ _ _ _ _ _ us hl => match us, hl with | [_, _], _ => rfl
  have F28 := fun_mk (st := s_law_kinds) l28 c28 k28
  have b28 := F28.binds (ps := ["box", "signs"]) fun _ _ _ _ _ _ us hl => match us, hl with | [_, _], _ => rfl
  have F29 := fun_mk (st := s_law_scene) l29 c29 k29
  have b29 := F29.binds (ps := ["box"]) fun _ _ _ _ _ _ us hl => match us, hl with | [_], _ => rfl
  have F30 := fun_mk (st := s_law_behind) l30 c30 k30
  have b30 := F30.binds (ps := ["plain", "state", "sign"]) fun _ _ _ _ _ _ us hl => match us, hl with | [_, _, _], _ => rfl
  have F31 := fun_mk (st := s_law_accepts) l31 c31 k31
  have b31 := F31.binds (ps := ["plain", "state"]) fun _ _ _ _ _ _ us hl => match us, hl with | [_, _], _ => rfl
  have F32 := fun_mk (st := s_law_is_steady) l32 c32 k32
  have b32 := F32.binds (ps := ["plain", "kinds"]) fun _ _ _ _ _ _ us hl => match us, hl with | [_, _], _ => rfl
  have F33 := fun_mk (st := s_law_refused) l33 c33 k33
  have b33 := F33.binds (ps := ["decoder", "kinds"]) fun _ _ _ _ _ _ us hl => match us, hl with | [_, _], _ => rfl
  have F34 := fun_mk (st := s_law_refusals_right) l34 c34 k34
  have b34 := F34.binds (ps := ["box", "decoder", "signs"]) fun _ _ _ _ _ _ us hl => match us, hl with | [_, _, _], _ => rfl
  have F35 := fun_mk (st := s_law_right) l35 c35 k35
  have b35 := F35.binds (ps := ["box"]) fun _ _ _ _ _ _ us hl => match us, hl with | [_], _ => rfl
  have F36 := fun_mk (st := s_law) l36 c36 k36
  have b36 := F36.binds (ps := ["script"]) fun _ _ _ _ _ _ us hl => match us, hl with | [_], _ => rfl
  have F37 := fun_mk (st := s_Decoder_init) l37 c37 k37
  have b37 := F37.binds (ps := ["self", "signs", "steps", "ends"]) fun _ _ _ _ _ _ us hl => match us, hl with | [_, _, _, _], _ => rfl
  have F38 := fun_mk (st := s_Decoder_eq) l38 c38 k38
  have b38 := F38.binds (ps := ["self", "other"]) fun _ _ _ _ _ _ us hl => match us, hl with | [_, _], _ => rfl
  have kd_SIGNS_TOLD : KTab K w TD_SIGNS_TOLD tab_SIGNS_TOLD := by
    refine ⟨⟨es_SIGNS_TOLD, nn_SIGNS_TOLD, tl_SIGNS_TOLD, tk_SIGNS_TOLD, to_SIGNS_TOLD⟩, fun z => ?_⟩
    unfold tab_SIGNS_TOLD
    by_cases h0 : z = "lost"
    · rw [if_pos h0, h0]; exact ⟨_, tv_SIGNS_TOLD_lost⟩
    rw [if_neg h0]
    by_cases h1 : z = "put"
    · rw [if_pos h1, h1]; exact ⟨_, tv_SIGNS_TOLD_put⟩
    rw [if_neg h1]
    by_cases h2 : z = "same"
    · rw [if_pos h2, h2]; exact ⟨_, tv_SIGNS_TOLD_same⟩
    rw [if_neg h2]
    by_cases h3 : z = "turned"
    · rw [if_pos h3, h3]; exact ⟨_, tv_SIGNS_TOLD_turned⟩
    rw [if_neg h3]
    exact tab_none2 tl_SIGNS_TOLD tq_SIGNS_TOLD (by simp [h0, h1, h2, h3])
  have ov0 : PySem.W.excOver K C0 ErrX.tailE = true := by
    unfold PySem.W.excOver PySem.W.clsIn
    rw [eL0]
    show (C0 == C0 && true) = true
    rw [beq_self_eq_true]; rfl
  have E0 : ErrX.ETxt K mg "InvalidDecoder" "InvalidDecoder.__init__" C0 I0 := { gC := PySem.W.mg_of X G eC0, cls := ⟨nm0, q0, N0, bs0, _, sn0, sub0, ab0, col0, dd0, m00, m10, m20, m30, m50, eL0, rfl⟩, ov := ov0, tk := etk0, sa := esa0, ga := ega0, gg := egg0, noN := eno0, iC := ein0, tC := eti0, kC := ekC0, exC := eeC0, tyC := etC0, hdC := ehC0, fn := ⟨_, _, _, _, _, _, _, _, _, _, _, _, _, _, efn0, eco0⟩ }
  have ov1 : PySem.W.excOver K C1 ErrX.tailE = true := by
    unfold PySem.W.excOver PySem.W.clsIn
    rw [eL1]
    show (C1 == C1 && true) = true
    rw [beq_self_eq_true]; rfl
  have E1 : ErrX.ETxt K mg "InvalidEnds" "InvalidEnds.__init__" C1 I1 := { gC := PySem.W.mg_of X G eC1, cls := ⟨nm1, q1, N1, bs1, _, sn1, sub1, ab1, col1, dd1, m01, m11, m21, m31, m51, eL1, rfl⟩, ov := ov1, tk := etk1, sa := esa1, ga := ega1, gg := egg1, noN := eno1, iC := ein1, tC := eti1, kC := ekC1, exC := eeC1, tyC := etC1, hdC := ehC1, fn := ⟨_, _, _, _, _, _, _, _, _, _, _, _, _, _, efn1, eco1⟩ }
  have ov2 : PySem.W.excOver K C2 ErrX.tailE = true := by
    unfold PySem.W.excOver PySem.W.clsIn
    rw [eL2]
    show (C2 == C2 && true) = true
    rw [beq_self_eq_true]; rfl
  have E2 : ErrX.ETxt K mg "InvalidKinds" "InvalidKinds.__init__" C2 I2 := { gC := PySem.W.mg_of X G eC2, cls := ⟨nm2, q2, N2, bs2, _, sn2, sub2, ab2, col2, dd2, m02, m12, m22, m32, m52, eL2, rfl⟩, ov := ov2, tk := etk2, sa := esa2, ga := ega2, gg := egg2, noN := eno2, iC := ein2, tC := eti2, kC := ekC2, exC := eeC2, tyC := etC2, hdC := ehC2, fn := ⟨_, _, _, _, _, _, _, _, _, _, _, _, _, _, efn2, eco2⟩ }
  have ov3 : PySem.W.excOver K C3 ErrX.tailE = true := by
    unfold PySem.W.excOver PySem.W.clsIn
    rw [eL3]
    show (C3 == C3 && true) = true
    rw [beq_self_eq_true]; rfl
  have E3 : ErrX.ETxt K mg "InvalidSigns" "InvalidSigns.__init__" C3 I3 := { gC := PySem.W.mg_of X G eC3, cls := ⟨nm3, q3, N3, bs3, _, sn3, sub3, ab3, col3, dd3, m03, m13, m23, m33, m53, eL3, rfl⟩, ov := ov3, tk := etk3, sa := esa3, ga := ega3, gg := egg3, noN := eno3, iC := ein3, tC := eti3, kC := ekC3, exC := eeC3, tyC := etC3, hdC := ehC3, fn := ⟨_, _, _, _, _, _, _, _, _, _, _, _, _, _, efn3, eco3⟩ }
  have ov4 : PySem.W.excOver K C4 ErrX.tailE = true := by
    unfold PySem.W.excOver PySem.W.clsIn
    rw [eL4]
    show (C4 == C4 && true) = true
    rw [beq_self_eq_true]; rfl
  have E4 : ErrX.ETxt K mg "InvalidSteps" "InvalidSteps.__init__" C4 I4 := { gC := PySem.W.mg_of X G eC4, cls := ⟨nm4, q4, N4, bs4, _, sn4, sub4, ab4, col4, dd4, m04, m14, m24, m34, m54, eL4, rfl⟩, ov := ov4, tk := etk4, sa := esa4, ga := ega4, gg := egg4, noN := eno4, iC := ein4, tC := eti4, kC := ekC4, exC := eeC4, tyC := etC4, hdC := ehC4, fn := ⟨_, _, _, _, _, _, _, _, _, _, _, _, _, _, efn4, eco4⟩ }
  exact ⟨PySem.W.fnOf "law" "law" (defArgs s_law) (defBody s_law) (defScope s_law) .none kV36 dc36 pm36 an36 cd36 ct36, fun s v => .of_eq rfl, fun base _ _ => ok_law ({ f_is_integer := f0, fd_is_integer := _, F_is_integer := F0, b_is_integer := b0, g_is_integer := PySem.W.mg_of X G a0, f_is_count := f1, fd_is_count := _, F_is_count := F1, b_is_count := b1, g_is_count := PySem.W.mg_of X G a1, f_is_list := f2, fd_is_list := _, F_is_list := F2, b_is_list := b2, g_is_list := PySem.W.mg_of X G a2, f_is_text := f3, fd_is_text := _, F_is_text := F3, b_is_text := b3, g_is_text := PySem.W.mg_of X G a3, f_is_word := f4, fd_is_word := _, F_is_word := F4, b_is_word := b4, g_is_word := PySem.W.mg_of X G a4, f_is_number_of_signs := f5, fd_is_number_of_signs := _, F_is_number_of_signs := F5, b_is_number_of_signs := b5, g_is_number_of_signs := PySem.W.mg_of X G a5, f_is_below := f6, fd_is_below := _, F_is_below := F6, b_is_below := b6, g_is_below := PySem.W.mg_of X G a6, f_are_steps := f7, fd_are_steps := _, F_are_steps := F7, b_are_steps := b7, g_are_steps := PySem.W.mg_of X G a7, f_are_entries := f8, fd_are_entries := _, F_are_entries := F8, b_are_entries := b8, g_are_entries := PySem.W.mg_of X G a8, f_is_step_decoders := f9, fd_is_step_decoders := _, F_is_step_decoders := F9, b_is_step_decoders := b9, g_is_step_decoders := PySem.W.mg_of X G a9, f_are_ends := f10, fd_are_ends := _, F_are_ends := F10, b_are_ends := b10, g_are_ends := PySem.W.mg_of X G a10, f_is_kind := f11, fd_is_kind := _, F_is_kind := F11, b_is_kind := b11, g_is_kind := PySem.W.mg_of X G a11, f_is_step_passings := f12, fd_is_step_passings := _, F_is_step_passings := F12, b_is_step_passings := b12, g_is_step_passings := PySem.W.mg_of X G a12, f_is_free := f13, fd_is_free := _, F_is_free := F13, b_is_free := b13, g_is_free := PySem.W.mg_of X G a13, f_are_kinds := f14, fd_are_kinds := _, F_are_kinds := F14, b_are_kinds := b14, g_are_kinds := PySem.W.mg_of X G a14, f_check_decoder := f15, fd_check_decoder := _, F_check_decoder := F15, b_check_decoder := b15, g_check_decoder := PySem.W.mg_of X G a15, f_check_kinds := f16, fd_check_kinds := _, F_check_kinds := F16, b_check_kinds := b16, g_check_kinds := PySem.W.mg_of X G a16, f_steps_with := f17, fd_steps_with := _, F_steps_with := F17, b_steps_with := b17, g_steps_with := PySem.W.mg_of X G a17, f_is_steady := f18, fd_is_steady := _, F_is_steady := F18, b_is_steady := b18, g_is_steady := PySem.W.mg_of X G a18, f_accepts := f19, fd_accepts := _, F_accepts := F19, b_accepts := b19, g_accepts := PySem.W.mg_of X G a19, f_state_behind := f20, fd_state_behind := _, F_state_behind := F20, b_state_behind := b20, g_state_behind := PySem.W.mg_of X G a20, f_law_cell := f21, fd_law_cell := _, F_law_cell := F21, b_law_cell := b21, g_law_cell := PySem.W.mg_of X G a21, f_law_box := f22, fd_law_box := _, F_law_box := F22, b_law_box := b22, g_law_box := PySem.W.mg_of X G a22, f_law_take := f23, fd_law_take := _, F_law_take := F23, b_law_take := b23, g_law_take := PySem.W.mg_of X G a23, f_law_blocks := f24, fd_law_blocks := _, F_law_blocks := F24, b_law_blocks := b24, g_law_blocks := PySem.W.mg_of X G a24, f_law_parts := f25, fd_law_parts := _, F_law_parts := F25, b_law_parts := b25, g_law_parts := PySem.W.mg_of X G a25, f_law_double := f26, fd_law_double := _, F_law_double := F26, b_law_double := b26, g_law_double := PySem.W.mg_of X G a26, f_law_free := f27, fd_law_free := _, F_law_free := F27, b_law_free := b27, g_law_free := PySem.W.mg_of X G a27, f_law_kinds := f28, fd_law_kinds := _, F_law_kinds := F28, b_law_kinds := b28, g_law_kinds := PySem.W.mg_of X G a28, f_law_scene := f29, fd_law_scene := _, F_law_scene := F29, b_law_scene := b29, g_law_scene := PySem.W.mg_of X G a29, f_law_behind := f30, fd_law_behind := _, F_law_behind := F30, b_law_behind := b30, g_law_behind := PySem.W.mg_of X G a30, f_law_accepts := f31, fd_law_accepts := _, F_law_accepts := F31, b_law_accepts := b31, g_law_accepts := PySem.W.mg_of X G a31, f_law_is_steady := f32, fd_law_is_steady := _, F_law_is_steady := F32, b_law_is_steady := b32, g_law_is_steady := PySem.W.mg_of X G a32, f_law_refused := f33, fd_law_refused := _, F_law_refused := F33, b_law_refused := b33, g_law_refused := PySem.W.mg_of X G a33, f_law_refusals_right := f34, fd_law_refusals_right := _, F_law_refusals_right := F34, b_law_refusals_right := b34, g_law_refusals_right := PySem.W.mg_of X G a34, f_law_right := f35, fd_law_right := _, F_law_right := F35, b_law_right := b35, g_law_right := PySem.W.mg_of X G a35, f_law := fa, fd_law := _, F_law := F36, b_law := b36, g_law := PySem.W.mg_of X G a36, f_Decoder_init := f37, fd_Decoder_init := _, F_Decoder_init := F37, b_Decoder_init := b37, f_Decoder_eq := f38, fd_Decoder_eq := _, F_Decoder_eq := F38, b_Decoder_eq := b38, C_Decoder := OC_Decoder, g_Decoder := PySem.W.mg_of X G on_Decoder, cl_Decoder := ⟨opg_Decoder, ohd_Decoder, opo_Decoder, osa_Decoder⟩, mk_Decoder := ⟨omk_Decoder, a37, i37, okp_Decoder⟩, oe_Decoder := ⟨⟨opg_Decoder, ohd_Decoder, opo_Decoder, osa_Decoder⟩, a38, i38, one_Decoder, omo_Decoder, oha_Decoder, ohn_Decoder, otk_Decoder⟩, ii_Decoder := oii_Decoder, it_Decoder := oit_Decoder, is_Decoder := ois_Decoder, na_Decoder_signs := ona_Decoder_signs, na_Decoder_states := ona_Decoder_states, na_Decoder_steps := ona_Decoder_steps, na_Decoder_ends := ona_Decoder_ends, z_abs := PySem.W.mg_none_of X G z_abs, z_all := PySem.W.mg_none_of X G z_all, z_bool := PySem.W.mg_none_of X G z_bool, z_int := PySem.W.mg_none_of X G z_int, z_isinstance := PySem.W.mg_none_of X G z_isinstance, z_len := PySem.W.mg_none_of X G z_len, z_list := PySem.W.mg_none_of X G z_list, z_max := PySem.W.mg_none_of X G z_max, z_min := PySem.W.mg_none_of X G z_min, z_range := PySem.W.mg_none_of X G z_range, z_repr := PySem.W.mg_none_of X G z_repr, z_sorted := PySem.W.mg_none_of X G z_sorted, z_str := PySem.W.mg_none_of X G z_str, z_sum := PySem.W.mg_none_of X G z_sum, z_tuple := PySem.W.mg_none_of X G z_tuple, t_MOST_SIGNS := t_MOST_SIGNS, c_MOST_SIGNS := PySem.W.mg_of X G n_MOST_SIGNS, t_MOST_LETTERS := t_MOST_LETTERS, c_MOST_LETTERS := PySem.W.mg_of X G n_MOST_LETTERS, t_MOST_STATES := t_MOST_STATES, c_MOST_STATES := PySem.W.mg_of X G n_MOST_STATES, t_REJECTED := t_REJECTED, c_REJECTED := PySem.W.mg_of X G n_REJECTED, D_SIGNS_TOLD := TD_SIGNS_TOLD, g_SIGNS_TOLD := PySem.W.mg_of X G tg_SIGNS_TOLD, kd_SIGNS_TOLD := kd_SIGNS_TOLD, C_InvalidDecoder := C0, i_InvalidDecoder := I0, e_InvalidDecoder := E0, x_InvalidDecoder := exm_of eeC0 eiC0 etC0 esC0, C_InvalidEnds := C1, i_InvalidEnds := I1, e_InvalidEnds := E1, x_InvalidEnds := exm_of eeC1 eiC1 etC1 esC1, C_InvalidKinds := C2, i_InvalidKinds := I2, e_InvalidKinds := E2, x_InvalidKinds := exm_of eeC2 eiC2 etC2 esC2, C_InvalidSigns := C3, i_InvalidSigns := I3, e_InvalidSigns := E3, x_InvalidSigns := exm_of eeC3 eiC3 etC3 esC3, C_InvalidSteps := C4, i_InvalidSteps := I4, e_InvalidSteps := E4, x_InvalidSteps := exm_of eeC4 eiC4 etC4 esC4, no_InvalidDecoder_InvalidEnds := exm_of eeC1 eiC1 etC1 en_0_1, no_InvalidDecoder_InvalidKinds := exm_of eeC2 eiC2 etC2 en_0_2, no_InvalidDecoder_InvalidSigns := exm_of eeC3 eiC3 etC3 en_0_3, no_InvalidDecoder_InvalidSteps := exm_of eeC4 eiC4 etC4 en_0_4, no_InvalidEnds_InvalidDecoder := exm_of eeC0 eiC0 etC0 en_1_0, no_InvalidEnds_InvalidKinds := exm_of eeC2 eiC2 etC2 en_1_2, no_InvalidEnds_InvalidSigns := exm_of eeC3 eiC3 etC3 en_1_3, no_InvalidEnds_InvalidSteps := exm_of eeC4 eiC4 etC4 en_1_4, no_InvalidKinds_InvalidDecoder := exm_of eeC0 eiC0 etC0 en_2_0, no_InvalidKinds_InvalidEnds := exm_of eeC1 eiC1 etC1 en_2_1, no_InvalidKinds_InvalidSigns := exm_of eeC3 eiC3 etC3 en_2_3, no_InvalidKinds_InvalidSteps := exm_of eeC4 eiC4 etC4 en_2_4, no_InvalidSigns_InvalidDecoder := exm_of eeC0 eiC0 etC0 en_3_0, no_InvalidSigns_InvalidEnds := exm_of eeC1 eiC1 etC1 en_3_1, no_InvalidSigns_InvalidKinds := exm_of eeC2 eiC2 etC2 en_3_2, no_InvalidSigns_InvalidSteps := exm_of eeC4 eiC4 etC4 en_3_4, no_InvalidSteps_InvalidDecoder := exm_of eeC0 eiC0 etC0 en_4_0, no_InvalidSteps_InvalidEnds := exm_of eeC1 eiC1 etC1 en_4_1, no_InvalidSteps_InvalidKinds := exm_of eeC2 eiC2 etC2 en_4_2, no_InvalidSteps_InvalidSigns := exm_of eeC3 eiC3 etC3 en_4_3 } : Txt K mg w)⟩
end My
open PySem PySem.W PyProof.Rows
set_option maxRecDepth 100000 in
set_option maxHeartbeats 0 in
theorem PySem.Challenge.cw_spoiltline_k42_steady_decoders_holds : PySem.Challenge.rw_spoiltline_k42_steady_decoders.Holds := by
  w_on; o_law; k_head; (case hw => w_witness2)
  k_fill
  refine L2.walk_G (l := PySem.Challenge.rw_spoiltline_k42_steady_decoders) (n := 63) (k := 12) (x := "script") (sp := My.spLaw) rfl (by decide) rfl ⟨rfl, by decide, by decide⟩ (fun w h Y => PySem.W.kIn_of Y) ?F (fun _ _ a ns hl _ hS => ⟨a, ns, rfl, hS, hl, fun _ => rfl⟩)
  case F =>
    intro w mg fa h KX G hmg
    refine' My.all_mk KX G hmg ?eC0 ?eL0 ?etk0 ?esa0 ?ega0 ?egg0 ?eno0 ?ein0 ?eti0 ?ekC0 ?eeC0 ?etC0 ?ehC0 ?eiC0 ?esC0 ?efn0 ?eco0 ?eC1 ?eL1 ?etk1 ?esa1 ?ega1 ?egg1 ?eno1 ?ein1 ?eti1 ?ekC1 ?eeC1 ?etC1 ?ehC1 ?eiC1 ?esC1 ?efn1 ?eco1 ?eC2 ?eL2 ?etk2 ?esa2 ?ega2 ?egg2 ?eno2 ?ein2 ?eti2 ?ekC2 ?eeC2 ?etC2 ?ehC2 ?eiC2 ?esC2 ?efn2 ?eco2 ?eC3 ?eL3 ?etk3 ?esa3 ?ega3 ?egg3 ?eno3 ?ein3 ?eti3 ?ekC3 ?eeC3 ?etC3 ?ehC3 ?eiC3 ?esC3 ?efn3 ?eco3 ?eC4 ?eL4 ?etk4 ?esa4 ?ega4 ?egg4 ?eno4 ?ein4 ?eti4 ?ekC4 ?eeC4 ?etC4 ?ehC4 ?eiC4 ?esC4 ?efn4 ?eco4 ?en_0_1 ?en_0_2 ?en_0_3 ?en_0_4 ?en_1_0 ?en_1_2 ?en_1_3 ?en_1_4 ?en_2_0 ?en_2_1 ?en_2_3 ?en_2_4 ?en_3_0 ?en_3_1 ?en_3_2 ?en_3_4 ?en_4_0 ?en_4_1 ?en_4_2 ?en_4_3 ?on_Decoder ?opg_Decoder ?ohd_Decoder ?opo_Decoder ?osa_Decoder ?omk_Decoder ?okp_Decoder ?one_Decoder ?omo_Decoder ?oha_Decoder ?ohn_Decoder ?otk_Decoder ?oii_Decoder ?oit_Decoder ?ois_Decoder ?ona_Decoder_signs ?ona_Decoder_states ?ona_Decoder_steps ?ona_Decoder_ends ?a0 ?l0 ?c0 ?k0 ?a1 ?l1 ?c1 ?k1 ?a2 ?l2 ?c2 ?k2 ?a3 ?l3 ?c3 ?k3 ?a4 ?l4 ?c4 ?k4 ?a5 ?l5 ?c5 ?k5 ?a6 ?l6 ?c6 ?k6 ?a7 ?l7 ?c7 ?k7 ?a8 ?l8 ?c8 ?k8 ?a9 ?l9 ?c9 ?k9 ?a10 ?l10 ?c10 ?k10 ?a11 ?l11 ?c11 ?k11 ?a12 ?l12 ?c12 ?k12 ?a13 ?l13 ?c13 ?k13 ?a14 ?l14 ?c14 ?k14 ?a15 ?l15 ?c15 ?k15 ?a16 ?l16 ?c16 ?k16 ?a17 ?l17 ?c17 ?k17 ?a18 ?l18 ?c18 ?k18 ?a19 ?l19 ?c19 ?k19 ?a20 ?l20 ?c20 ?k20 ?a21 ?l21 ?c21 ?k21 ?a22 ?l22 ?c22 ?k22 ?a23 ?l23 ?c23 ?k23 ?a24 ?l24 ?c24 ?k24 ?a25 ?l25 ?c25 ?k25 ?a26 ?l26 ?c26 ?k26 ?a27 ?l27 ?c27 ?k27 ?a28 ?l28 ?c28 ?k28 ?a29 ?l29 ?c29 ?k29 ?a30 ?l30 ?c30 ?k30 ?a31 ?l31 ?c31 ?k31 ?a32 ?l32 ?c32 ?k32 ?a33 ?l33 ?c33 ?k33 ?a34 ?l34 ?c34 ?k34 ?a35 ?l35 ?c35 ?k35 ?a36 ?l36 ?c36 ?k36 ?a37 ?i37 ?l37 ?c37 ?k37 ?a38 ?i38 ?l38 ?c38 ?k38 ?z_abs ?z_all ?z_bool ?z_int ?z_isinstance ?z_len ?z_list ?z_max ?z_min ?z_range ?z_repr ?z_sorted ?z_str ?z_sum ?z_tuple ?n_MOST_SIGNS ?n_MOST_LETTERS ?n_MOST_STATES ?n_REJECTED ?tg_SIGNS_TOLD ?tl_SIGNS_TOLD ?tk_SIGNS_TOLD ?tq_SIGNS_TOLD ?to_SIGNS_TOLD ?tv_SIGNS_TOLD_lost ?tv_SIGNS_TOLD_put ?tv_SIGNS_TOLD_same ?tv_SIGNS_TOLD_turned
    (case eC0 => k_is)
    (case eL0 => k_is)
    (case etk0 => k_is)
    (case esa0 => k_is)
    (case ega0 => k_is)
    (case egg0 => k_is)
    (case eno0 => k_is)
    (case ein0 => k_is)
    (case eti0 => k_is)
    (case ekC0 => k_is)
    (case eeC0 => k_is)
    (case etC0 => k_is)
    (case ehC0 => k_is)
    (case eiC0 => k_is)
    (case esC0 => k_is)
    (case efn0 => k_is)
    (case eco0 => k_is)
    (case eC1 => k_is)
    (case eL1 => k_is)
    (case etk1 => k_is)
    (case esa1 => k_is)
    (case ega1 => k_is)
    (case egg1 => k_is)
    (case eno1 => k_is)
    (case ein1 => k_is)
    (case eti1 => k_is)
    (case ekC1 => k_is)
    (case eeC1 => k_is)
    (case etC1 => k_is)
    (case ehC1 => k_is)
    (case eiC1 => k_is)
    (case esC1 => k_is)
    (case efn1 => k_is)
    (case eco1 => k_is)
    (case eC2 => k_is)
    (case eL2 => k_is)
    (case etk2 => k_is)
    (case esa2 => k_is)
    (case ega2 => k_is)
    (case egg2 => k_is)
    (case eno2 => k_is)
    (case ein2 => k_is)
    (case eti2 => k_is)
    (case ekC2 => k_is)
    (case eeC2 => k_is)
    (case etC2 => k_is)
    (case ehC2 => k_is)
    (case eiC2 => k_is)
    (case esC2 => k_is)
    (case efn2 => k_is)
    (case eco2 => k_is)
    (case eC3 => k_is)
    (case eL3 => k_is)
    (case etk3 => k_is)
    (case esa3 => k_is)
    (case ega3 => k_is)
    (case egg3 => k_is)
    (case eno3 => k_is)
    (case ein3 => k_is)
    (case eti3 => k_is)
    (case ekC3 => k_is)
    (case eeC3 => k_is)
    (case etC3 => k_is)
    (case ehC3 => k_is)
    (case eiC3 => k_is)
    (case esC3 => k_is)
    (case efn3 => k_is)
    (case eco3 => k_is)
    (case eC4 => k_is)
    (case eL4 => k_is)
    (case etk4 => k_is)
    (case esa4 => k_is)
    (case ega4 => k_is)
    (case egg4 => k_is)
    (case eno4 => k_is)
    (case ein4 => k_is)
    (case eti4 => k_is)
    (case ekC4 => k_is)
    (case eeC4 => k_is)
    (case etC4 => k_is)
    (case ehC4 => k_is)
    (case eiC4 => k_is)
    (case esC4 => k_is)
    (case efn4 => k_is)
    (case eco4 => k_is)
    (case en_0_1 => k_is)
    (case en_0_2 => k_is)
    (case en_0_3 => k_is)
    (case en_0_4 => k_is)
    (case en_1_0 => k_is)
    (case en_1_2 => k_is)
    (case en_1_3 => k_is)
    (case en_1_4 => k_is)
    (case en_2_0 => k_is)
    (case en_2_1 => k_is)
    (case en_2_3 => k_is)
    (case en_2_4 => k_is)
    (case en_3_0 => k_is)
    (case en_3_1 => k_is)
    (case en_3_2 => k_is)
    (case en_3_4 => k_is)
    (case en_4_0 => k_is)
    (case en_4_1 => k_is)
    (case en_4_2 => k_is)
    (case en_4_3 => k_is)
    (case on_Decoder => k_is)
    (case opg_Decoder => k_is)
    (case ohd_Decoder => k_is)
    (case opo_Decoder => k_is)
    (case osa_Decoder => k_is)
    (case omk_Decoder => k_is)
    (case okp_Decoder => k_is)
    (case one_Decoder => k_is)
    (case omo_Decoder => k_is)
    (case oha_Decoder => k_is)
    (case ohn_Decoder => k_is)
    (case otk_Decoder => k_is)
    (case oii_Decoder => k_is)
    (case oit_Decoder => k_is)
    (case ois_Decoder => k_is)
    (case ona_Decoder_signs => k_is)
    (case ona_Decoder_states => k_is)
    (case ona_Decoder_steps => k_is)
    (case ona_Decoder_ends => k_is)
    (case a0 => k_is)
    (case l0 => k_is)
    (case c0 => k_is)
    (case k0 => k_is)
    (case a1 => k_is)
    (case l1 => k_is)
    (case c1 => k_is)
    (case k1 => k_is)
    (case a2 => k_is)
    (case l2 => k_is)
    (case c2 => k_is)
    (case k2 => k_is)
    (case a3 => k_is)
    (case l3 => k_is)
    (case c3 => k_is)
    (case k3 => k_is)
    (case a4 => k_is)
    (case l4 => k_is)
    (case c4 => k_is)
    (case k4 => k_is)
    (case a5 => k_is)
    (case l5 => k_is)
    (case c5 => k_is)
    (case k5 => k_is)
    (case a6 => k_is)
    (case l6 => k_is)
    (case c6 => k_is)
    (case k6 => k_is)
    (case a7 => k_is)
    (case l7 => k_is)
    (case c7 => k_is)
    (case k7 => k_is)
    (case a8 => k_is)
    (case l8 => k_is)
    (case c8 => k_is)
    (case k8 => k_is)
    (case a9 => k_is)
    (case l9 => k_is)
    (case c9 => k_is)
    (case k9 => k_is)
    (case a10 => k_is)
    (case l10 => k_is)
    (case c10 => k_is)
    (case k10 => k_is)
    (case a11 => k_is)
    (case l11 => k_is)
    (case c11 => k_is)
    (case k11 => k_is)
    (case a12 => k_is)
    (case l12 => k_is)
    (case c12 => k_is)
    (case k12 => k_is)
    (case a13 => k_is)
    (case l13 => k_is)
    (case c13 => k_is)
    (case k13 => k_is)
    (case a14 => k_is)
    (case l14 => k_is)
    (case c14 => k_is)
    (case k14 => k_is)
    (case a15 => k_is)
    (case l15 => k_is)
    (case c15 => k_is)
    (case k15 => k_is)
    (case a16 => k_is)
    (case l16 => k_is)
    (case c16 => k_is)
    (case k16 => k_is)
    (case a17 => k_is)
    (case l17 => k_is)
    (case c17 => k_is)
    (case k17 => k_is)
    (case a18 => k_is)
    (case l18 => k_is)
    (case c18 => k_is)
    (case k18 => k_is)
    (case a19 => k_is)
    (case l19 => k_is)
    (case c19 => k_is)
    (case k19 => k_is)
    (case a20 => k_is)
    (case l20 => k_is)
    (case c20 => k_is)
    (case k20 => k_is)
    (case a21 => k_is)
    (case l21 => k_is)
    (case c21 => k_is)
    (case k21 => k_is)
    (case a22 => k_is)
    (case l22 => k_is)
    (case c22 => k_is)
    (case k22 => k_is)
    (case a23 => k_is)
    (case l23 => k_is)
    (case c23 => k_is)
    (case k23 => k_is)
    (case a24 => k_is)
    (case l24 => k_is)
    (case c24 => k_is)
    (case k24 => k_is)
    (case a25 => k_is)
    (case l25 => k_is)
    (case c25 => k_is)
    (case k25 => k_is)
    (case a26 => k_is)
    (case l26 => k_is)
    (case c26 => k_is)
    (case k26 => k_is)
    (case a27 => k_is)
    (case l27 => k_is)
    (case c27 => k_is)
    (case k27 => k_is)
    (case a28 => k_is)
    (case l28 => k_is)
    (case c28 => k_is)
    (case k28 => k_is)
    (case a29 => k_is)
    (case l29 => k_is)
    (case c29 => k_is)
    (case k29 => k_is)
    (case a30 => k_is)
    (case l30 => k_is)
    (case c30 => k_is)
    (case k30 => k_is)
    (case a31 => k_is)
    (case l31 => k_is)
    (case c31 => k_is)
    (case k31 => k_is)
    (case a32 => k_is)
    (case l32 => k_is)
    (case c32 => k_is)
    (case k32 => k_is)
    (case a33 => k_is)
    (case l33 => k_is)
    (case c33 => k_is)
    (case k33 => k_is)
    (case a34 => k_is)
    (case l34 => k_is)
    (case c34 => k_is)
    (case k34 => k_is)
    (case a35 => k_is)
    (case l35 => k_is)
    (case c35 => k_is)
    (case k35 => k_is)
    (case a36 => k_is)
    (case l36 => k_is)
    (case c36 => k_is)
    (case k36 => k_is)
    (case a37 => k_is)
    (case i37 => k_is)
    (case l37 => k_is)
    (case c37 => k_is)
    (case k37 => k_is)
    (case a38 => k_is)
    (case i38 => k_is)
    (case l38 => k_is)
    (case c38 => k_is)
    (case k38 => k_is)
    (case z_abs => k_is)
    (case z_all => k_is)
    (case z_bool => k_is)
    (case z_int => k_is)
    (case z_isinstance => k_is)
    (case z_len => k_is)
    (case z_list => k_is)
    (case z_max => k_is)
    (case z_min => k_is)
    (case z_range => k_is)
    (case z_repr => k_is)
    (case z_sorted => k_is)
    (case z_str => k_is)
    (case z_sum => k_is)
    (case z_tuple => k_is)
    (case n_MOST_SIGNS => k_is)
    (case n_MOST_LETTERS => k_is)
    (case n_MOST_STATES => k_is)
    (case n_REJECTED => k_is)
    (case tg_SIGNS_TOLD => k_is)
    (case tl_SIGNS_TOLD => k_is)
    (case tk_SIGNS_TOLD => k_keys)
    (case tq_SIGNS_TOLD => first | rfl | kernel_rfl)
    (case to_SIGNS_TOLD => decide)
    (case tv_SIGNS_TOLD_lost => k_is)
    (case tv_SIGNS_TOLD_put => k_is)
    (case tv_SIGNS_TOLD_same => k_is)
    (case tv_SIGNS_TOLD_turned => k_is)

