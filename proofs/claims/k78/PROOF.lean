import PyProof.Rows.All
import Wide.All
import OpenK.AllK
import Wide.FinOn
import HandS.ForMost
import HandS.Wide
import HandS.IsInst
import HandS.Style
import HandS.Defaults
import HandS.Walk
import HandS.Zip
import HandS.ExcOwn
import HandS.ExcField
import HandS.ExcIs
import HandS.ExcInit
import HandS.WordsExc
import HandS.Exc
import HandS.CallSlots
import KE.KExcSuper
import KE.KExcLine
import KE.RegKSuper
import KE.GoesEnum
import HandS.More
import HandS.Deep
import PySem.Challenge.RW_causehall_k78_plain_deeds
set_option Elab.async false
set_option linter.all false
set_option maxRecDepth 100000
set_option maxHeartbeats 4000000
namespace CH
open PySem PySem.Spec PyProof.Rows PySem.W PySem.Calls
/-! ### own exceptions whose __init__ says super().__init__('..') and keeps one field -/
abbrev veT : List Value := [.type "ValueError", .type "Exception", .type "BaseException", .type "object"]
abbrev leT : List Value := [.type "LookupError", .type "Exception", .type "BaseException", .type "object"]
/-- the program's file and top -/
class PF (P : Program) : Prop where
  file : (P.main.file : Str) = Str.ofString "/claim/cut.py"
  top : (P.main.scope.names.lookup ("super" : Str)).isSome = false
abbrev initBody (txt f : Str) (p0 p1 p2 p3 p4 p5 p6 p7 p8 p9 : Pos) (j : Nat) : List Stmt :=
  [.Expr (.Call (.Attribute (.Call (.Name "super" p0) [] [] p1) "__init__" p2) [.Constant (.str txt) j p3] [] p4) p5, .Assign [.Attribute (.Name "self" p6) f p7] (.Name f p8) p9]
abbrev initScope (f : Str) : Scope := { kind := .function, names := [(Str.ofString "self", .local), (f, .local), (Str.ofString "__class__", .free), (Str.ofString "super", .globalImplicit)], isGenerator := false, isCoroutine := false, more := [] }
/-- what super().__init__('..') is, line by line -/
def SupEv (txt : Str) (p0 p1 p2 p3 p4 : Pos) (j : Nat) : Prop := ∃ pl : Env → Sem Bool, ∀ env : Env, eval (.Call (.Attribute (.Call (.Name "super" p0) [] [] p1) "__init__" p2) [.Constant (.str txt) j p3] [] p4) env = (do
  let ov ← attributeBase (.Call (.Name "super" p0) [] [] p1) "__init__" env (eval (.Call (.Name "super" p0) [] [] p1) env)
  standAt p2.atName
  let (f, first) ← holding [ov] (getMethod ov "__init__" (pl env))
  callWith p4 f first (backTo p4 (starEach [.Constant (.str txt) j p3] env)) [])
/-- the function at fI is such an __init__ of the class at C -/
structure OexF (K : Frag) (C fI : Addr) (f : Str) : Prop where
  ex : ∃ (oc : Value) (od an : Option Addr) (osl : Array (Option Value)) (q : Str) (params : Arguments) (scope : Scope) (dV kV doc pm ct : Value) (cc cda : Addr) (txt : Str) (p0 p1 p2 p3 p4 p5 p6 p7 p8 p9 : Pos) (j : Nat) (ccl cl : Value) (cdd cld : Option Addr) (ccs csl : Array (Option Value)) (vs : Array Value) (tf : Tok) (ar : Arg),
    K.lookup fI = some ⟨oc, od, .func (ksFn "__init__" q params (initBody txt f p0 p1 p2 p3 p4 p5 p6 p7 p8 p9 j) scope dV kV doc pm an (.ref cda) ct cc), osl⟩ ∧
    codeIn K (.ref cda) q = true ∧ K.lookup cda = some ⟨ccl, cdd, .fields vs, ccs⟩ ∧ vs[2]? = some (.str (Str.ofString "/claim/cut.py") tf) ∧ K.lookup cc = some ⟨cl, cld, .cell (some (.ref C)), csl⟩ ∧
    (∀ s : Shared, ∀ a b : Value, BindsTo s (ksFn "__init__" q params (initBody txt f p0 p1 p2 p3 p4 p5 p6 p7 p8 p9 j) scope dV kV doc pm an (.ref cda) ct cc) ⟨[a, b], []⟩ [("self", a), (f, b)]) ∧
    (∀ s : Shared, ∀ a b : Value, BindsTo s (ksFn "__init__" q params (initBody txt f p0 p1 p2 p3 p4 p5 p6 p7 p8 p9 j) scope dV kV doc pm an (.ref cda) ct cc) ⟨[a], [(f, b)]⟩ [("self", a), (f, b)]) ∧
    SupEv txt p0 p1 p2 p3 p4 j ∧ (params.posonlyargs ++ params.args).head? = some ar ∧ ar.arg = Str.ofString "self" ∧ scope = initScope f ∧
    (f == Str.ofString "self") = false ∧ (f == Str.ofString "__debug__") = false ∧ (Str.ofString "self" == f) = false ∧ (Str.ofString "__class__" == f) = false ∧ (Str.ofString "super" == f) = false
/-- an own exception class at C, its __init__ at fI, its field f -/
structure OexS (K : Frag) (C fI : Addr) (B newId initId : String) (bmB : List Value) (f : Str) : Prop where
  base : ExcBaseFacts B newId initId bmB
  wrap : KxsFacts B initId
  stor : StoreFacts B bmB "object.__setattr__" "object"
  ini : excInitIn K C bmB newId = true
  over : excOver K C bmB = true
  hd : hasDictIn K C = true
  sa : findIn K (.ref C) "__setattr__" = some (some (.builtin "object.__setattr__"))
  nf : findIn K (.ref C) f = some none
  exC : subIn K (.ref C) (.type "BaseException") = some true
  sB : subIn K (.ref C) (.type B) = some true
  sC : mroIn K C (.ref C) = some true
  tyC : typeIn K (.ref C) = some (.type "type")
  kC : keepIn K (.ref C) = true
  ii : findIn K (.ref C) "__init__" = some (some (.ref fI))
  ti : typeIn K (.ref fI) = some (.type "function")
  sup : ks_superIn K C C "__init__" = some (some (.builtin initId))
  opq : nsIn K cStatics "thirdparty.any" = some none
  fn : OexF K C fI f
theorem cls_obj {K : Frag} {C : Addr} {q : Bool} (h : hasDictIn K C = true) : ∃ cd od dd sl, K.lookup C = some ⟨od, dd, .cls cd, sl⟩ ∧ clsIn K C = some cd := by
  obtain ⟨cd, hc, _⟩ := any_some h
  have hc' := hc
  unfold clsIn at hc'
  split at hc'
  · rename_i c d cd' sl ho
    cases hc'
    exact ⟨cd, c, d, sl, ho, hc⟩
  · cases hc'
section
variable {P : Program} {w : World} {A : Around} {R : Result → Shared → Prop} {h : Heap} {g : Array GenState} {d : Drawn} {t : Nat} {os : OsState} {K : Frag} {C fI e t0 : Addr} {B newId initId : String} {bmB : List Value} {f : Str} {u : Value} {mg mb : Str → Option Value} {args : Args}
theorem ns1_one {h : Heap} {dx : Addr} {f : Str} {u : Value} {hs : Int} {tk : Tok} {n : Nat} (e : h.get? dx = some (dictOf [⟨hs, .str f tk, u⟩] n)) : h.Ns1 dx (fun y => if y = f then some u else none) := by
  refine ⟨_, _, _, e, rfl, ?_, ?_, fun y => ?_⟩
  · intro z hz
    simp at hz
    subst hz
    exact ⟨f, tk, rfl⟩
  · exact List.pairwise_singleton ..
  · by_cases hy : y = f
    · subst hy
      simp [nsFind, findBy, Value.isStr]
    · have hy' : (f == y) = false := by simpa using fun z => hy z.symm
      simp [nsFind, findBy, Value.isStr, hy, hy']
theorem einit_run (hP : PF P) (T : OexS K C fI B newId initId bmB f) (X : K.In h) (hKe : K.lookup e = none) (hg : h.Ns mainGlobals mg) (hs : mg "super" = none) (hb : h.Ns builtinsNs mb) (hbs : mb "super" = some (.type "super")) (hlim : h.NoLimit) (hroom : A.depth < recursionLimit)
    (hge : mainGlobals ≠ e) (hbe : builtinsNs ≠ e) (he : h.get? e = some (excObj C t0 none .none)) (ha : args = ⟨[.ref e, u], []⟩ ∨ args = ⟨[.ref e], [(f, u)]⟩)
    (hq : ∀ h' t1 dx tk', (∀ b o, b ≠ e → h.get? b = some o → h'.get? b = some o) → h.objs.size ≤ dx → h'.get? e = some (excObj C t1 (some dx) .none) →
      h'.Ns1 dx (fun y => if y = f then some u else none) → R (.ok (.ret .none)) ⟨h', g, d, tk', os⟩) :
    codeAny (model P w) A (.call (.ref fI) args) R ⟨h, g, d, t, os⟩ := by
  obtain ⟨oc, od, an, osl, q, params, scope, dV, kV, doc, pm, ct, cc, cda, txt, p0, p1, p2, p3, p4, p5, p6, p7, p8, p9, j, ccl, cl, cdd, cld, ccs, csl, vs, tf, ar, lf, hcd, lcode, hvs, lcell, hb1, hb2, ⟨pl, hev⟩, hpar, har, rfl, n1, n2, n3, n4, n5⟩ := T.fn.ex
  obtain ⟨cdC, ocC, odC, slC, lC, hcC⟩ := cls_obj (q := true) T.hd
  have hbind : BindsTo ⟨h, g, d, t, os⟩ (ksFn "__init__" q params (initBody txt f p0 p1 p2 p3 p4 p5 p6 p7 p8 p9 j) (initScope f) dV kV doc pm an (.ref cda) ct cc) args [("self", .ref e), (f, u)] := by
    rcases ha with rfl | rfl
    · exact hb1 _ _ _
    · exact hb2 _ _ _
  have kf : List.lookup f [(Str.ofString "self", NameKind.local), (f, .local), (Str.ofString "__class__", .free), (Str.ofString "super", .globalImplicit)] = some .local := by
    simp [List.lookup, n1]
  have XX : K.In (hideAll h [e]) := fun a o z => hideAll_get _ (X a o z) (by
    intro y
    rw [List.mem_singleton.mp y, hKe] at z
    cases z)
  refine ks_codeAny_call_defAt hroom (X _ _ lf) rfl hlim (codeRec_of X hcd) rfl hbind ?_ ?_ (fun h₀ hns k0 => ?_)
  · intro x hx
    simp at hx
    rcases hx with rfl | rfl | rfl | rfl <;> simp
  · intro x hx
    simp at hx
    rcases hx with rfl | rfl
    · rfl
    · exact kf
  have F0 : Fr (hideAll h [e]) h.objs.size h₀ (fun x => [((f : Str), u), (Str.ofString "self", .ref e)].lookup x) := ⟨hns, fun b o z => k0 b o (of_hideAll _ z), Nat.le_of_eq (hideAll_size _ _)⟩
  have N0 : News (hideAll h [e]) h.objs.size h₀ [(e, excObj C t0 none .none)] := fun p hp => by
    rw [List.mem_singleton.mp hp]
    exact ⟨k0 _ _ he, Nat.ne_of_lt (Heap.lt_size he), hideAll_none _ (by simp)⟩
  have hself : (fun x => [((f : Str), u), (Str.ofString "self", Value.ref e)].lookup x) "self" = some (.ref e) := by
    show List.lookup (Str.ofString "self") _ = _
    simp [List.lookup, n3]
  have hfound : (fun x => [((f : Str), u), (Str.ofString "self", Value.ref e)].lookup x) f = some u := by simp [List.lookup]
  have X0 : K.In h₀ := X.keeps k0
  have ksu : (initScope f).names.lookup (Str.ofString "super") = some .globalImplicit := by
    show List.lookup (Str.ofString "super") [_, _, _, _] = _
    simp [List.lookup, n5, show (Str.ofString "super" == Str.ofString "self") = false by decide +kernel, show (Str.ofString "super" == Str.ofString "__class__") = false by decide +kernel]
  have kcl : (initScope f).names.lookup (Str.ofString "__class__") = some .free := by
    show List.lookup (Str.ofString "__class__") [_, _, _, _] = _
    simp [List.lookup, n4, show (Str.ofString "__class__" == Str.ofString "self") = false by decide +kernel]
  have kse : (initScope f).names.lookup (Str.ofString "self") = some .local := by rfl
  show _root_.PySem.wpAt (model P w) (A.deeper (ksEnv q (initScope f) h.objs.size fI (.ref cda) cc)) (.func (initBody txt f p0 p1 p2 p3 p4 p5 p6 p7 p8 p9 j) (ksEnv q (initScope f) h.objs.size fI (.ref cda) cc)) (execs (initBody txt f p0 p1 p2 p3 p4 p5 p6 p7 p8 p9 j) (ksEnv q (initScope f) h.objs.size fI (.ref cda) cc)) _ _ _
  -- super()
  refine ks_wpAt_execs_cons (ks_wpAt_Expr_any ?_)
  refine ks_wpAt_MethodCall (pl := pl (ksEnv q (initScope f) h.objs.size fI (.ref cda) cc)) ?_ (hev _)
  refine ks_wpAt_super_base (f := fI) ksu kcl (by decide) rfl (X0 _ _ lf) rfl hpar rfl (X0 _ _ lcode) rfl hvs (by rw [hP.file]; exact beq_self_eq_true _) hP.top ?_
  refine ks_loadName_global rfl ksu (loadGlobal_builtin (env := ksEnv q (initScope f) h.objs.size fI (.ref cda) cc) (hg.keeps k0) hs (hb.keeps k0) hbs ⟨rfl, ?_⟩)
  refine wpAny_loadName_free rfl kcl rfl ⟨_, X0 _ _ lcell, rfl⟩ ?_
  refine wpAny_loadName_local rfl (by rw [har]; exact kse) hns (by rw [har]; exact hself) ?_
  refine ks_wpAny_isType_cls (X0 _ _ lC) rfl ⟨rfl, ?_⟩
  refine ks_wpAny_call_super (X0 _ _ lC) rfl (k0 _ _ he) rfl (fun c z => by cases z) (looks_mroIn X0 T.sC) (fun h1 e1 k1 => ?_)
  obtain ⟨F1, N1, l1⟩ := ks_newsPush (s := ⟨h₀, g, d, 0, os⟩) (o := ks_superObj C e C) F0 N0 rfl e1 k1
  replace F1 : Fr (hideAll h [e]) h.objs.size h1 _ := F1
  refine kxs_method (odx := none) T.wrap F1 XX N1 (List.mem_cons_self ..) ⟨k1 _ _ (k0 _ _ he), rfl, rfl, trivial⟩ T.opq T.sup T.sB (by decide) (fun q2 h2 F2 N2 l2 => ?_)
  refine kxs_callWith1 N2 (List.mem_cons_self ..) ?_
  refine spliced_cons (Constant_str (k := j) (pos := p3) ?_)
  refine spliced_nil ⟨kxs_at N2 (List.mem_cons_self ..), ?_⟩
  refine kxs_call F2 XX N2 T.base T.ini (List.mem_cons_self ..) (.tail ?u1 (.tail ?u2 (.head ?u3))) (by rw [sizeLine_eq]; exact (by decide : 1 ≤ 16777216)) (fun t3 h3 F3 N3 l3 => ?_)
  case u1 => exact Nat.ne_of_gt (l2 _ (List.mem_cons_of_mem _ (List.mem_cons_self ..)))
  case u2 => exact Nat.ne_of_gt (l1 _ (List.mem_cons_self ..))
  case u3 => intro p hp; cases hp
  -- self.f = f
  refine ks_wpAt_execs_cons (ks_wpAt_Assign_Attr ?_)
  refine wpAt_of_wpAny (wpAny_Name (wpAny_loadName_local rfl kf F3.ns hfound ?_) n2)
  refine wpAny_Name (wpAny_loadName_local rfl kse F3.ns hself ?_)
  refine set_exc0 (es' := [⟨_, .str f _, u⟩]) (n' := 1) T.stor F3 XX N3 (.tail _ (.tail _ (.tail _ (.head _)))) T.sa T.over (by unfold takerIn; rw [T.nf]; rfl) T.hd rfl (.tail ?u1 (.tail ?u2 (.tail ?u3 (.head ?u4)))) (by exact (by decide : 1 ≤ 1000)) (fun dx h4 F4 N4 l4 => ?_)
  case u1 => exact Nat.ne_of_gt (l3 _ (.tail _ (.tail _ (.head _))))
  case u2 => exact Nat.ne_of_gt (l2 _ (List.mem_cons_of_mem _ (List.mem_cons_self ..)))
  case u3 => exact Nat.ne_of_gt (l1 _ (List.mem_cons_self ..))
  case u4 => intro p hp; cases hp
  refine wpAt_of_wpAny (wpAny_execs_nil ?_)
  refine hq h4 t3 dx _ (fun b o hb z => F4.keep b o (hideAll_get _ z (by simpa using hb))) ?_ (N4 _ (List.mem_of_getElem? (i := 4) rfl)).1 (ns1_one (N4 _ (List.mem_cons_self ..)).1)
  exact Nat.le_of_lt (Nat.lt_of_lt_of_le hns.lt (Nat.le_of_lt (l4 _ (List.mem_of_getElem? (i := 2) rfl))))
end

/-! ### such an exception, made for a raise -/
section
open L2
variable {X : Cx} {x f : Str} {e : Expr} {te : TE} {p pos : Pos} {C fI : Addr} {B newId initId : String} {bmB : List Value}
theorem K_new {X : Cx} {pins : List (Addr × Obj)} {σ : L2.St} {H : Hp} {s : Shared} {a : Addr} (I : Inv X pins σ H s) (h : s.heap.objs.size ≤ a) : X.K.lookup a = none := by
  cases z : X.K.lookup a with
  | none => rfl
  | some o => exact absurd (Nat.lt_of_lt_of_le (Heap.lt_size (I.kIn _ _ z)) h) (Nat.lt_irrefl _)
theorem exs_made (hP : PF X.prog) (T : OexS X.K C fI B newId initId bmB f) (hs : X.mg "super" = none) (hr : Room 2 X.A) {pins : List (Addr × Obj)} {σ : L2.St} {H1 : Hp} {s1 : Shared} {u : Value} {v : V} {Q : XK} (I1 : Inv X pins σ H1 s1) (r1 : RelV v u)
    (q : ∀ d, H1 d = none → Q (.ref C) (some d) (upd H1 d (.xd [(f, v)]))) : wpAny (model X.prog X.w) X.A (call (.ref C) [u]) (MkP X pins σ Q) X.xe s1 := by
  obtain ⟨nm, N, qn, bs, bm, hdct, sn, sub, ab, col, dd, k0, k1, k2, k3, k5, hC, hT⟩ := excInit_of I1.kIn T.ini
  obtain ⟨hp, g, dr, tk, os⟩ := s1
  have kk : ∀ b o, hp.get? b = some o → ((hp.push (kdv_tup [u])).push (HandSPX.excO C hp.objs.size)).get? b = some o := fun b o e => Heap.get?_push_of_some _ (Heap.get?_push_of_some _ e)
  have hget : ((hp.push (kdv_tup [u])).push (HandSPX.excO C hp.objs.size)).get? (hp.objs.size + 1) = some (excObj C hp.objs.size none .none) := by heap_get
  have hsz : ((hp.push (kdv_tup [u])).push (HandSPX.excO C hp.objs.size)).objs.size = hp.objs.size + 2 := by rw [Heap.size_push, Heap.size_push]
  obtain ⟨mb, b1, b2⟩ := I1.mod.blt
  have l1 : ([u] : List Value).length ≤ sizeLine := by
    rw [sizeLine_eq]
    exact (by decide : 1 ≤ 16777216)
  refine wpAny_call (HandSPX.call_own T.base hT hC (looks_findIn I1.kIn T.ii) (fun self => bind_fn I1.kIn self T.ti) l1 ?_)
  refine einit_run hP T (I1.kIn.keeps kk) (K_new I1 (Nat.le_succ _)) ((I1.mod.glob.keeps I1.bk).keeps kk) hs ((b1.keeps I1.bk).keeps kk) (b2 "super" (by decide)) (I1.nolimit.keeps kk) (hr.make C [u] []).depth ?_ ?_ hget (.inl rfl) ?_
  · exact fun z => absurd (Heap.Ns.lt (I1.mod.glob.keeps I1.bk)) (by rw [z]; exact Nat.not_lt_of_le (Nat.le_succ _))
  · exact fun z => absurd (Heap.Ns.lt (b1.keeps I1.bk)) (by rw [z]; exact Nat.not_lt_of_le (Nat.le_succ _))
  intro h' t1 dx tk' k hdx hx hns
  rw [hsz] at hdx
  obtain ⟨G, g1, g2⟩ := restrict h' fun b => decide (b ≠ hp.objs.size + 1)
  have ge : G.get? (hp.objs.size + 1) = none := g2 _ (by simp)
  have gk : ∀ b, b ≠ hp.objs.size + 1 → G.get? b = h'.get? b := fun b hb => g1 b (decide_eq_true hb)
  have nold : ∀ {b : Addr} {o : Obj}, hp.get? b = some o → b ≠ hp.objs.size + 1 := fun {b o} z => Nat.ne_of_lt (Nat.lt_succ_of_lt (Heap.lt_size z))
  have hd : dx ≠ hp.objs.size + 1 := Nat.ne_of_gt (Nat.lt_of_lt_of_le (Nat.lt_succ_self _) hdx)
  have na : H1 (hp.objs.size + 1) = none := I1.hok.fresh (Nat.le_succ _)
  have nd : H1 dx = none := I1.hok.fresh (Nat.le_trans (Nat.le_add_right _ 2) hdx)
  refine ⟨rfl, hp.objs.size + 1, _, _, ⟨G, g, dr, tk', os⟩, upd H1 dx (.xd [(f, v)]), .ref C, some dx, rfl, ?_, ?_, ge, hx, ⟨rfl, rfl⟩, rfl, rfl, ?_, rfl, I1.bare, raises_own T.exC T.tyC, q dx nd⟩
  · refine I1.laid (t' := tk') (h' := G) (fun b o z => ?_) (Nat.le_trans (Nat.le_add_right _ 2) hdx) ⟨_, hns.at fun o z => (gk dx hd).trans z, relO_put (fs := []) r1 fun _ => True.intro⟩
    exact (gk b (nold z)).trans (k b o (nold z) (kk b o z))
  · intro b o z
    by_cases hb : b = hp.objs.size + 1
    · rw [hb, ge] at z
      cases z
    · exact (gk b hb).symm.trans z
  · rw [upd_ne hd.symm]
    exact na
/-- raise C(e): the exception has a new dict with its field -/
theorem pmk_exs (hP : PF X.prog) (T : OexS X.K C fI B newId initId bmB f) (hs : X.mg "super" = none) (hr : Room 2 X.A) (hg : Gl X x) (gC : X.mg x = some (.ref C)) (he : PE X e te) (hdb : (x == ("__debug__" : Str)) = false := by decide)
    (hse : starEach [e] X.env = (false, eval e X.env) :: starEach [] X.env := by rfl) : PMk X (.Call (.Name x p) [e] [] pos) (fun σ H Q => te σ H fun v H1 => ∀ d, H1 d = none → Q (.ref C) (some d) (upd H1 d (.xd [(f, v)]))) := by
  intro pins s σ H Q I h
  refine wpAny_Call_Name_kw (ld_glob I hg gC ?_ hdb)
  refine callWith_K (h₀ := X.base) I.ok.mod.kin T.kC ?_ hse (by rfl)
  rw [hse]
  show wpAny _ _ (spliced ((false, eval e X.env) :: backTo pos (starEach [] X.env))) _ _ s
  refine spliced_cons (thn (he.run pins s σ H _ I h) fun u s1 ⟨v, H1, I1, r1, q1⟩ => ?_)
  exact spliced_nil ⟨I1.kIn, exs_made hP T hs hr I1 r1 q1⟩
end

end CH
/-! ### isinstance of a caught exception that has a dict; its fields; several clauses, tuples of classes -/
namespace CH
open PySem PySem.Spec PyProof.Rows PySem.W PySem.Calls
section
variable {prog : Program} {w : World} {A : Around} {E : Value → Shared → Prop} {s : Shared} {K : Frag} {x D : Addr} {ox : Obj} {od : Option Obj}
/-- a data descriptor of the class goes ahead of what the dict has -/
theorem found_data {C : Addr} {nm : Str} {a1 g1 : Value} (c1 : (clsIn K C).isSome = true) (c2 : findIn K (.ref C) nm = some (some a1)) (c3 : specialIn K a1 "__get__" = some (some g1)) (c4 : takesIn K a1 = some true) : findObj K C od nm = some (.bind g1 a1) := by
  rcases Option.isSome_iff_exists.mp c1 with ⟨cd, c1⟩
  show ((clsIn K C).bind _) = _
  rw [c1]
  simp only [Option.bind_some, c2, c3, c4]
theorem exc_class (T : L2.ExcC K D) {Q : Option Value → Shared → Prop} (X : K.In s.heap) (I : PySem.W.InstAt s.heap x ox D od) (q : Q (some (.ref D)) { s with toks := s.toks + 1 }) : wpAny (model prog w) A (getAttr? (.ref x) "__class__") Q E s := by
  have fnd : findObj K D od "__class__" = some (.bind (.builtin "getset_descriptor.__get__") (.builtin "object.__class__")) := found_data (by obtain ⟨c, e, _⟩ := any_some T.hd; rw [e]; rfl) T.ha T.hn T.ht
  obtain ⟨h0, g0, d0, t0, o0⟩ := s
  have ty := I.type (M := model prog w)
  have nx : (Value.builtin "BaseException.__getattribute__" == Value.builtin "object.__getattribute__") = false := by decide +kernel
  have k1 : (onTheHeap (Value.ref D) && Value.builtin "BaseException.__getattribute__" == Value.builtin "object.__getattribute__") = false := by simp only [nx, Bool.and_false]
  unfold getAttr? getAttrBy? getAttrBy
  refine wpAny_bind (wpAny_mkText (wpAny_bind (wpAny_attempt (wpAny_holding (wpAny_bind (ty.at (wpAny_bind ((looks_findIn (M := model prog w) X T.hg).at ?_))))))))
  show wpAny _ _ (if (onTheHeap (Value.ref D) && Value.builtin "BaseException.__getattribute__" == Value.builtin "object.__getattribute__") = true then _ else _) _ _ _
  rw [k1]
  rw [if_neg Bool.false_ne_true]
  unfold getAttrByItsOwn hookBefore
  refine wpAny_bind ?_
  rw [if_pos (show onTheHeap (Value.ref D) = true from rfl)]
  refine (looks_findIn (M := model prog w) X T.hk).at (wpAny_bind (wpAny_attempt (wpAny_holding ?_)))
  unfold callGetattribute
  have k0 : (false && onTheHeap (Value.builtin "BaseException.__getattribute__")) = false := Bool.false_and ..
  rw [k0]
  rw [if_neg Bool.false_ne_true]
  unfold boundAndCalled
  rw [PySem.F.excAttr_ValueError.ga.bind (.ref x)]
  refine wpAny_bind (wpAny_pure ?_)
  show wpAny _ _ (call (.builtin "BaseException.__getattribute__") [.ref x, .str "__class__" t0]) _ _ _
  refine wpAny_call (codeAny_call_builtin PySem.F.excAttr_ValueError.ga.plain PySem.F.entry_bexc_ga ?_)
  refine @check_slot (model prog w) _ _ ⟨h0, g0, d0, t0 + 1, o0⟩ "BaseException.__getattribute__" "BaseException" "__getattribute__" (.ref x) [.str "__class__" t0] [] _ (by decide +kernel) (by decide +kernel) (ty.andThen (looks_subIn X T.hs)) (PySem.F.args_bexc_ga (.ref x) (.str "__class__" t0)) ?_
  unfold Builtin.«object.__getattribute__»
  refine wpAny_bind (wpAny_of_eq (a := ((Value.ref x : Value), [Value.str "__class__" t0])) (by first | rfl | (simp only [slotArgs]; rfl)) ?_)
  refine wpAny_bind (wpAny_pure (wpAny_bind (ty.at (wpAny_bind ((looks_find (M := model prog w) X I fnd).at ?_)))))
  show wpAny _ _ (holding [Value.builtin "object.__class__"] (call (.builtin "getset_descriptor.__get__") [.builtin "object.__class__", .ref x, .ref D]) >>= ret) _ _ _
  refine wpAny_bind (wpAny_holding (wpAny_call (class_get (s := ⟨h0, g0, d0, t0 + 1, o0⟩) (ox := ox) (od := od) X I T.hm (wpAny_pure ?_))))
  show wpAny _ _ (handedOut (.ref D)) _ _ _
  rw [handedOut_of (v := .ref D) rfl]
  first
    | exact wpAny_pure (wpAny_pure q)
    | exact wpAny_pure q
    | exact wpAny_pure (wpAny_bind (wpAny_pure (wpAny_pure q)))
theorem exc_kitx (T : L2.ExcC K D) : KitX K (.ref x) (.ref D) (fun h => PySem.W.InstAt h x ox D od) := by
  obtain ⟨cd, hc, _⟩ := any_some T.hd
  unfold clsIn at hc
  split at hc
  · rename_i c1 d1 cd1 sl1 ho
    refine ⟨fun _ _ _ I => I.type, fun _ _ X _ => ?_, fun h tp dd its n sl X htp => ?_, fun X I k => exc_class T X I k⟩
    · intro A1 Q1 E1 s1 k1 q1
      unfold isType loadHead
      exact wpAny_bind (wpAny_loadPart (k1 _ _ (X _ _ ho)) (wpAny_pure q1))
    · refine Bool.eq_false_iff.mpr fun q => ?_
      obtain rfl : D = tp := Value.ref.inj (beq_iff_eq.mp q)
      have z := (X _ _ ho).symm.trans htp
      cases z
  · cases hc
end
end CH
namespace CH
open PySem PySem.Spec PyProof.Rows PySem.W PySem.Calls L2
/-- isinstance(e, C) in an except suite: a the exception, cls its class, d its dict -/
def rIsX (K : Frag) (a : Addr) (cls : Value) (d : Option Addr) : List V → Hp → VK → Prop := fun xs H Q =>
  ∃ (D dd : Addr) (fs : List (Str × V)) (c : V) (cv : Value) (b : Bool), xs = [.ref a, c] ∧ cls = .ref D ∧ d = some dd ∧ H dd = some (.xd fs) ∧ ExcC K D ∧ ClsV c cv ∧ kitOne K (.ref D) cv = some b ∧ Q (.bl b) H
theorem inst_caught {X : Cx} {a D dd : Addr} {oe : Obj} {pn pins : List (Addr × Obj)} {σ : L2.St} {H : Hp} {s : Shared} {fs : List (Str × V)} (I : Inv (X.suite a ((a, oe) :: pn)) pins σ H s) (hz : Zc (.ref D) (some dd) oe) (hf : ∃ vs, oe.data = .fields vs) (e : H dd = some (.xd fs)) : ∃ od, PySem.W.InstAt s.heap a oe D (some od) := by
  obtain ⟨ha, _⟩ := I.pin (a, oe) (List.mem_append_left _ List.mem_cons_self)
  obtain ⟨vs, hd⟩ := hf
  have hx : ObjOk X.prog X.w H s.heap dd (.xd fs) := I.hok dd _ e
  obtain ⟨mA, hns, hr⟩ := hx
  obtain ⟨od, ho, hl⟩ := lookIn_ns hns
  refine ⟨od, ha, hz.1, ?_, ?_⟩
  · unfold PySem.W.notCls
    rw [hd]
  · rw [hz.2]
    exact ho
theorem call_isX {X : Cx} {a : Addr} {oe : Obj} {cls : Value} {d : Option Addr} {pn : List (Addr × Obj)} (hz : Zc cls d oe) (hf : ∃ vs, oe.data = .fields vs) {K : Frag} (hK : X.K = K) : CallR (X.suite a ((a, oe) :: pn)) (.builtin "isinstance") (rIsX K a cls d) := by
  subst hK
  intro pins s σ H xs us Q I r h
  obtain ⟨D, dd, fs, c, cv, b, rfl, rfl, rfl, hd, T, hc, hk, q⟩ := h
  obtain ⟨od, J⟩ := inst_caught I hz hf hd
  rcases r with _ | ⟨rx, _ | ⟨rt, _ | _⟩⟩
  obtain rfl := hc.eq rt
  cases rx
  exact PySem.W.kia_one (exc_kitx T) I.kIn J hk (fun z => nomatch z) fun tk => ⟨.bl b, H, I.kept (t' := tk) fun _ _ z => z, rfl, q⟩
/-- e.f in an except suite -/
def tXg (K : Frag) (a : Addr) (cls : Value) (d : Option Addr) (f : Str) (te : TE) : TE := fun σ H Q => te σ H fun x H1 =>
  ∃ (D dd : Addr) (fs : List (Str × V)) (v : V), x = .ref a ∧ cls = .ref D ∧ d = some dd ∧ XfC K D ∧ findIn K (.ref D) f = some none ∧ H1 dd = some (.xd fs) ∧ fs.lookup f = some v ∧ Q v H1
theorem pe_xg {X : Cx} {a : Addr} {oe : Obj} {cls : Value} {d : Option Addr} {pn : List (Addr × Obj)} {e : Expr} {te : TE} {pos : Pos} {n : Str} {K : Frag} (hK : X.K = K) (hz : Zc cls d oe) (hf : ∃ vs, oe.data = .fields vs) (he : PE (X.suite a ((a, oe) :: pn)) e te) (hb : attributeBase e n X.env (eval e X.env) = eval e X.env := by rfl) :
    PE (X.suite a ((a, oe) :: pn)) (.Attribute e n pos) (tXg K a cls d n te) := by
  subst hK
  refine ⟨fun pins s σ H Q I h => attr_of hb (thn (he.run pins s σ H _ I h) fun u s1 hh => ?_)⟩
  obtain ⟨x, H1, I1, rx, D, dd, fs, v, rfl, rfl, rfl, T, hno, ea, l, q⟩ := hh
  obtain rfl : u = Value.ref a := rx
  obtain ⟨ha, _⟩ := I1.pin (a, oe) (List.mem_append_left _ List.mem_cons_self)
  obtain ⟨vs, hd⟩ := hf
  have hx : ObjOk X.prog X.w H1 s1.heap dd (.xd fs) := I1.hok dd _ ea
  obtain ⟨mA, hns, hr⟩ := hx
  obtain ⟨od, ho, hl⟩ := lookIn_ns hns
  obtain ⟨u, hu, ru⟩ := RelO.some_of (v := v) (o := mA n) (l ▸ hr n)
  have J : PySem.W.InstAt s1.heap a oe D (some od) := ⟨ha, hz.1, by unfold PySem.W.notCls; rw [hd], by rw [hz.2]; exact ho⟩
  exact HandSPX.exc_get I1.kIn J T.ga T.gg T.exC (PySem.W.findObj_own T.hdC hno rfl (by rw [hl, hu])) (handed_of ru) ⟨v, H1, I1.tok _, ru, q⟩
/-! ### the classes that a clause names -/
inductive TK (X : Cx) : Expr → (Value → Option Bool) → Prop
  | one {x1 : Str} {c1 : Value} {p1 : Pos} : Names X x1 c1 → TK X (.Name x1 p1) (fun cls => exmOne X.K cls c1)
  | two {x1 x2 : Str} {c1 c2 : Value} {p1 p2 tp : Pos} {kk : Nat} : Names X x1 c1 → Names X x2 c2 → TK X (.Tuple [.Name x1 p1, .Name x2 p2] kk tp) (fun cls => exmAny X.K cls [c1, c2])
  | three {x1 x2 x3 : Str} {c1 c2 c3 : Value} {p1 p2 p3 tp : Pos} {kk : Nat} : Names X x1 c1 → Names X x2 c2 → Names X x3 c3 → TK X (.Tuple [.Name x1 p1, .Name x2 p2, .Name x3 p3] kk tp) (fun cls => exmAny X.K cls [c1, c2, c3])
  | four {x1 x2 x3 x4 : Str} {c1 c2 c3 c4 : Value} {p1 p2 p3 p4 tp : Pos} {kk : Nat} : Names X x1 c1 → Names X x2 c2 → Names X x3 c3 → Names X x4 c4 → TK X (.Tuple [.Name x1 p1, .Name x2 p2, .Name x3 p3, .Name x4 p4] kk tp) (fun cls => exmAny X.K cls [c1, c2, c3, c4])
section
variable {X : Cx} {a : Addr} {oe : Obj} {pn : List (Addr × Obj)} {σ : L2.St} {H : Hp} {s : Shared} {E : Value → Shared → Prop}
theorem nm_eval {x : Str} {c : Value} {np : Pos} {Q : Value → Shared → Prop} (hc : Names X x c) (S : Inv (X.suite a ((a, oe) :: pn)) [] σ H s) (q : Q c s) : wpAny (model X.prog X.w) (X.A.mark (some (.ref a))) (eval (.Name x np) X.env) Q E s := by
  rcases hc with ⟨g1, g2, g3 | ⟨g3, g4, g5⟩⟩
  · exact ld_glob (X := X.suite a ((a, oe) :: pn)) S g1 g3 q g2
  · exact ld_blt (X := X.suite a ((a, oe) :: pn)) S g1 g3 g4 q g5 g2
theorem tk_run {te : Expr} {f : Value → Option Bool} {cls : Value} {b : Bool} {Q : Bool → Shared → Prop} (T : TK X te f) (S : Inv (X.suite a ((a, oe) :: pn)) [] σ H s) (ha : s.heap.get? a = some oe) (hc : oe.cls = cls) (hb : f cls = some b)
    (q : ∀ h', (∀ r o, s.heap.get? r = some o → h'.get? r = some o) → Q b { s with heap := h' }) :
    wpAny (model X.prog X.w) (X.A.mark (some (.ref a))) (eval te X.env) (fun c s₁ => wpAny (model X.prog X.w) (X.A.mark (some (.ref a))) (excMatches (.ref a) c) Q E s₁) E s := by
  have LT : Looks (model X.prog X.w) s.heap (typeOf (.ref a)) cls := fun A Q E s k q => wpAny_typeOf_ref (k _ _ ha) (hc ▸ q)
  have kp : ∀ {l : List Value} q o, s.heap.get? q = some o → (s.heap.push { cls := .type "tuple", data := .seq l.toArray }).get? q = some o := fun _ _ z => Heap.get?_push_of_some _ z
  cases T with
  | one n1 => exact nm_eval n1 S ((exm_one (M := model X.prog X.w) S.kIn LT hb).here (q s.heap fun _ _ z => z))
  | two n1 n2 => exact wpAny_Tuple (wpAny_items_cons (nm_eval n1 S (wpAny_items_cons (nm_eval n2 S (wpAny_items_nil ⟨by size_fits, (exm_tup2 (S.kIn.keeps kp) (LT.keeps kp) (Heap.get?_push_size s.heap rfl) hb).here (q _ kp)⟩)))))
  | three n1 n2 n3 => exact wpAny_Tuple (wpAny_items_cons (nm_eval n1 S (wpAny_items_cons (nm_eval n2 S (wpAny_items_cons (nm_eval n3 S (wpAny_items_nil ⟨by size_fits, (exm_tup3 (S.kIn.keeps kp) (LT.keeps kp) (Heap.get?_push_size s.heap rfl) hb).here (q _ kp)⟩)))))))
  | four n1 n2 n3 n4 => exact wpAny_Tuple (wpAny_items_cons (nm_eval n1 S (wpAny_items_cons (nm_eval n2 S (wpAny_items_cons (nm_eval n3 S (wpAny_items_cons (nm_eval n4 S (wpAny_items_nil ⟨by size_fits, (exm_tup4 (S.kIn.keeps kp) (LT.keeps kp) (Heap.get?_push_size s.heap rfl) hb).here (q _ kp)⟩)))))))))
end
theorem fly_on {B h h' : Heap} {l : List Env} {e : Addr} {Z : Obj → Prop} (R : HandSPX.FlyingZ B l e Z h) (k : ∀ b o, h.get? b = some o → h'.get? b = some o) : HandSPX.FlyingZ B l e Z h' := by
  rcases R with ⟨g1, g2, g3, o1, vs, T, oT, ts, q1, q2, q3, q4, q5, q6, q7, q8, q9⟩
  exact ⟨fun b o q => k b o (g1 b o q), g2, g3.of_keeps fun b o q _ => ⟨o, k b o q, rfl⟩, o1, vs, T, oT, ts, k _ _ q1, q2, q3, q4, q5, q6, k _ _ q7, q8, q9⟩
/-! ### try: body, except ..: suite, .. -/
abbrev Clause := (Value → Option Bool) × Option Nat × (Addr → Value → Option Addr → TS)
/-- behind a suite with a name the name is gone -/
def goneE (i : Nat) (D : Ends) : Ends := { nx := fun σ' H' => D.nx (σ'.set i none) H', rt := D.rt, bk := fun σ' H' => D.bk (σ'.set i none) H', ct := fun σ' H' => D.ct (σ'.set i none) H' }
def wTry (Wout : WX) (D : Ends) : List Clause → WX
  | [] => Wout
  | (f, none, ts) :: r => fun cls d σ H => ∃ b, f cls = some b ∧ if b = true then ∀ a, H a = none → ts a cls d D σ H else wTry Wout D r cls d σ H
  | (f, some i, ts) :: r => fun cls d σ H => ∃ b, f cls = some b ∧ if b = true then ∀ a, H a = none → ts a cls d (goneE i D) (σ.set i (some (.ref a))) H else wTry Wout D r cls d σ H
inductive ClsOk (X : Cx) : List ExceptHandler → List Clause → Prop
  | nil : ClsOk X [] []
  | plain {te : Expr} {f : Value → Option Bool} {ts : Addr → Value → Option Addr → TS} {b₀ : Stmt} {su : List Stmt} {pos : Pos} {hds : List ExceptHandler} {l : List Clause} (ht : TK X te f)
      (hsu : ∀ (a : Addr) (oe : Obj) (cls : Value) (d : Option Addr) (pn : List (Addr × Obj)), Zc cls d oe → (∃ vs, oe.data = .fields vs) → PSs (X.suite a ((a, oe) :: pn)) (b₀ :: su) (ts a cls d)) (r : ClsOk X hds l) :
      ClsOk X (.ExceptHandler (some te) none (b₀ :: su) pos :: hds) ((f, none, ts) :: l)
  | named {te : Expr} {f : Value → Option Bool} {n : Str} {i : Nat} {ts : Addr → Value → Option Addr → TS} {b₀ : Stmt} {su : List Stmt} {pos : Pos} {hds : List ExceptHandler} {l : List Clause} (ht : TK X te f) (hi : X.N[i]? = some n) (hln : X.env.kindOf n = some .local)
      (hsu : ∀ (a : Addr) (oe : Obj) (cls : Value) (d : Option Addr) (pn : List (Addr × Obj)), Zc cls d oe → (∃ vs, oe.data = .fields vs) → PSs (X.suite a ((a, oe) :: pn)) (b₀ :: su) (ts a cls d)) (r : ClsOk X hds l) :
      ClsOk X (.ExceptHandler (some te) (some n) (b₀ :: su) pos :: hds) ((f, some i, ts) :: l)
section
variable {X : Cx} {pins : List (Addr × Obj)} {σ : L2.St} {H : Hp} {D : Ends} {sI s' : Shared} {a : Addr} {B : Heap} {cls : Value} {d : Option Addr} {Wout : WX}
/-- the exception stands noted at the frame: the clauses, one behind the other -/
theorem clauses_run {hds : List ExceptHandler} {l : List Clause} (hk : ClsOk X hds l) : ∀ {h3 : Heap}, (ok : X.Ok) → X.A.frames = some (X.env :: X.outer) → X.stack = X.env :: X.outer → X.env.frame = some X.env.locals → X.N.Nodup → Takes X Wout → Inv X pins σ H sI → (∀ b o, sI.heap.get? b = some o → b ∉ frs X.stack → B.get? b = some o) → sI.heap.UpToSlots h3 → HandSPX.FlyingZ B (X.env :: X.outer) a (Zc cls d) h3 →
    H a = none → s'.os = sI.os → AllBare s'.gens → wTry Wout D l cls d σ H → wpAny (model X.prog X.w) X.A (handleBy (.ref a) X.env hds) (SP X pins D) X.xe { s' with heap := h3 } := by
  induction hk with
  | nil =>
    intro h3 ok hfr hs hf hN tk J nb up fl na os ag w
    refine wpAny_handleBy_nil ?_
    obtain ⟨_, _, _, oe, vs, T, oT, ts', he, hz, hd, h1, _⟩ := id fl
    unfold PySem.passOn
    refine wpAny_bind (wpAny_field he hd h1 ?_)
    rw [if_neg (show ¬ ((Value.ref T == Value.none) = true) from by simp)]
    have out : wpAny (model X.prog X.w) X.A (setFlight (.ref a) X.env.frame) (fun _ s4 => wpAny (model X.prog X.w) X.A (throw (.ref a) : Sem Flow) (SP X pins D) X.xe s4) X.xe { s' with heap := h3 } := by
      rw [hf]
      exact HandSPX.setFlight_upZ fl fun h4 hh4 up4 => wpAny_throw (tk _ _ ⟨a, B, sI, pins, σ, H, cls, d, rfl, J, nb, up.trans up4, .inr (.inr (hs ▸ hh4)), na, os, ag, w⟩)
    first
      | exact wpAny_bind (wpAny_pure (wpAny_bind out))
      | exact wpAny_bind out
  | @plain te f ts b₀ su pos hds l ht hsu r ih =>
    intro h3 ok hfr hs hf hN tk J nb up fl na os ag w
    obtain ⟨b, hb, w⟩ := w
    have J3 : Inv X pins σ H { s' with heap := h3 } := J.landed nb fl.1 up os ag
    obtain ⟨oe3, vs3, he3, hz3, hd3⟩ := fl.there
    have nfr : ∀ {h : Heap} {o : Obj} {vs : Array Value}, h.FunFrames B (X.env :: X.outer) → h.get? a = some o → o.data = .fields vs → a ∉ frs (X.env :: X.outer) := fun {h o vs} ff e dd hm => by
      obtain ⟨_, o2, e2, z⟩ := ff.mem hm
      cases e.symm.trans e2
      exact z _ dd
    have n1 := nfr fl.2.2.1 he3 hd3
    have nL : a ≠ X.env.locals := fun z => n1 (List.mem_filterMap.mpr ⟨X.env, List.mem_cons_self, by rw [hf, z]⟩)
    have nF : a ∉ X.fs := fun hm => by
      obtain ⟨e, he, q⟩ := List.mem_filterMap.mp hm
      exact n1 (List.mem_filterMap.mpr ⟨e, List.mem_cons_of_mem _ he, q⟩)
    refine wpAny_handleBy_cons (codeAny_handlers_test ?_) (by intro q; cases q)
    refine tk_run ht (J3.suite he3 hd3 na nL nF) he3 hz3.1 hb fun h5 k5 => ?_
    have fl5 := fly_on fl k5
    have up5 : sI.heap.UpToSlots h5 := up.trans (Heap.UpToSlots.of_keeps k5)
    cases b with
    | false => exact ih ok hfr hs hf hN tk J nb up5 fl5 na os ag w
    | true =>
      refine codeAny_handlers_suite (HandSPX.lands_againZ fl5 fun h4 fl4 up4 => ?_)
      obtain ⟨oe4, vs4, he4, hz4, hd4⟩ := fl4.there
      have S4 := (show Inv X pins σ H { s' with heap := h4 } from J.landed nb fl4.1 (up5.trans up4) os ag).suite he4 hd4 na nL nF
      refine wpAny_mono ((hsu a oe4 cls d (X.pn ++ pins) hz4 ⟨_, hd4⟩).run [] _ _ H _ S4 (w a na)) (fun fw s6 hsp => ?_) (fun _ _ z => False.elim z)
      cases fw with
      | next => exact let ⟨_, _, S6, q6⟩ := hsp; ⟨_, _, S6.unsuite ok, q6⟩
      | brk => exact let ⟨_, _, S6, q6⟩ := hsp; ⟨_, _, S6.unsuite ok, q6⟩
      | cont => exact let ⟨_, _, S6, q6⟩ := hsp; ⟨_, _, S6.unsuite ok, q6⟩
      | ret u => exact let ⟨_, _, _, S6, r6, q6⟩ := hsp; ⟨_, _, _, S6.unsuite ok, r6, q6⟩
  | @named te f n i ts b₀ su pos hds l ht hi hln hsu r ih =>
    intro h3 ok hfr hs hf hN tk J nb up fl na os ag w
    obtain ⟨b, hb, w⟩ := w
    have J3 : Inv X pins σ H { s' with heap := h3 } := J.landed nb fl.1 up os ag
    obtain ⟨oe3, vs3, he3, hz3, hd3⟩ := fl.there
    have nfr : ∀ {h : Heap} {o : Obj} {vs : Array Value}, h.FunFrames B (X.env :: X.outer) → h.get? a = some o → o.data = .fields vs → a ∉ frs (X.env :: X.outer) := fun {h o vs} ff e dd hm => by
      obtain ⟨_, o2, e2, z⟩ := ff.mem hm
      cases e.symm.trans e2
      exact z _ dd
    have n1 := nfr fl.2.2.1 he3 hd3
    have nL : a ≠ X.env.locals := fun z => n1 (List.mem_filterMap.mpr ⟨X.env, List.mem_cons_self, by rw [hf, z]⟩)
    have nF : a ∉ X.fs := fun hm => by
      obtain ⟨e, he, q⟩ := List.mem_filterMap.mp hm
      exact n1 (List.mem_filterMap.mpr ⟨e, List.mem_cons_of_mem _ he, q⟩)
    refine wpAny_handleBy_cons (codeAny_handlers_test ?_) (by intro q; cases q)
    refine tk_run ht (J3.suite he3 hd3 na nL nF) he3 hz3.1 hb fun h5 k5 => ?_
    have fl5 := fly_on fl k5
    have up5 : sI.heap.UpToSlots h5 := up.trans (Heap.UpToSlots.of_keeps k5)
    cases b with
    | false => exact ih ok hfr hs hf hN tk J nb up5 fl5 na os ag w
    | true =>
      refine codeAny_handlers_suite_as (HandSPX.lands_againZ fl5 fun h4 fl4 up4 => ?_)
      obtain ⟨oe4, vs4, he4, hz4, hd4⟩ := fl4.there
      have S4 := (show Inv X pins σ H { s' with heap := h4 } from J.landed nb fl4.1 (up5.trans up4) os ag).suite he4 hd4 na nL nF
      refine store_ok (X := X.suite a ((a, oe4) :: (X.pn ++ pins))) (v := .ref a) S4 hN hi (.inl hln) rfl (fun s5 S5 => ?_) (.inr hln)
      refine wpAny_mono ((hsu a oe4 cls d (X.pn ++ pins) hz4 ⟨_, hd4⟩).run [] s5 _ H _ S5 (w a na)) (fun fw s6 hsp => ?_) (fun _ _ z => False.elim z)
      have end_ : ∀ {σ6 : L2.St} {H6 : Hp} {Q : Shared → Prop}, Inv (X.suite a ((a, oe4) :: (X.pn ++ pins))) [] σ6 H6 s6 → (∀ s7, Inv X pins (σ6.set i none) H6 s7 → Q s7) →
          wpAny (model X.prog X.w) X.A (do bindName X.env n .none; unbindBehindTheSuite X.env n pos) (fun _ s7 => Q s7) X.xe s6 := fun {σ6 H6 Q} S6 hq => gone_ok (S6.unsuite ok) hN hi hln hq
      cases fw with
      | next => exact let ⟨_, _, S6, q6⟩ := hsp; end_ S6 fun s7 J7 => ⟨_, _, J7, q6⟩
      | brk => exact let ⟨_, _, S6, q6⟩ := hsp; end_ S6 fun s7 J7 => ⟨_, _, J7, q6⟩
      | cont => exact let ⟨_, _, S6, q6⟩ := hsp; end_ S6 fun s7 J7 => ⟨_, _, J7, q6⟩
      | ret u => exact let ⟨_, _, _, S6, r6, q6⟩ := hsp; end_ S6 fun s7 J7 => ⟨_, _, _, J7, r6, q6⟩
theorem ps_try_g {body : List Stmt} {h₀ : ExceptHandler} {hds : List ExceptHandler} {l : List Clause} {pos : Pos} {tb : WX → TS} (hs : X.stack = X.env :: X.outer) (hf : X.env.frame = some X.env.locals) (hN : X.N.Nodup) (tk : Takes X Wout)
    (hb : ∀ (W : WX) (pn : List (Addr × Obj)) (xe : Value → Shared → Prop), Takes (X.tr pn xe) W → PassesOwn (model X.prog X.w) X.A X.env xe → PSs (X.tr pn xe) body (tb W))
    (hh : ClsOk X (h₀ :: hds) l) : PS X (.Try body (h₀ :: hds) [] [] pos) (fun D σ H => tb (wTry Wout D l) D σ H) := by
  refine ⟨fun pins s σ H D I h => ?_⟩
  have ok := I.ok
  have hfr : X.A.frames = some (X.env :: X.outer) := hs ▸ ok.frames
  refine wpAny_Try_except (wpAny_mono ((hb (wTry Wout D l) (X.pn ++ pins) (fun e s₁ => wpAny (model X.prog X.w) X.A (noteFrame e X.env) (fun _ s₂ => wpAny (model X.prog X.w) X.A (setFlight e none) (fun _ s₃ =>
    wpAny (model X.prog X.w) X.A (handleBy e X.env (h₀ :: hds)) (SP X pins D) X.xe s₃) X.xe s₂) X.xe s₁) (fun u s1 xx => ?_) PassesOwn.looking).run [] s σ H D (I.toTry _) h) (fun fw s1 hsp => ?_) (fun e s1 he => he))
  · obtain ⟨a, B, sI, pins', σ', H', cls, d, rfl, J', nb, up, sky, na, os, ag, w⟩ := xx
    show wpAny (model X.prog X.w) X.A (noteFrame (.ref a) X.env) _ _ _
    refine Sky.land Zc.steady hfr hf (show Sky B (X.env :: X.outer) a (Zc cls d) X.env.locals s1.heap from hs ▸ sky) fun h3 fl3 up3 => ?_
    exact clauses_run hh ok hfr hs hf hN tk (J'.ofTry ok) nb (up.trans up3) fl3 na os ag w
  · cases fw with
    | next => exact let ⟨_, _, J', q⟩ := hsp; wpAny_execs_nil ⟨_, _, J'.ofTry ok, q⟩
    | brk => exact let ⟨_, _, J', q⟩ := hsp; ⟨_, _, J'.ofTry ok, q⟩
    | cont => exact let ⟨_, _, J', q⟩ := hsp; ⟨_, _, J'.ofTry ok, q⟩
    | ret u => exact let ⟨_, _, _, J', r, q⟩ := hsp; ⟨_, _, _, J'.ofTry ok, r, q⟩
end
end CH

/-! ### calls that may raise, at the caller's slots; len, == of own objects; == and != by items that are one -/
namespace CH
open PySem PySem.Spec PyProof.Rows PySem.W PySem.Calls L2
def tMethE (C : Addr) (m : Str) (sp : Sp) (dvs : List V) (E : L2.St → XK) (ta : TE) (t : TA) : TE := fun σ H Q => ta σ H fun x H1 => ∃ a dx fs, x = .ref a ∧ H1 a = some (.ins C dx fs) ∧ fs.lookup m = none ∧ t σ H1 fun vs H2 => sp (x :: (vs ++ dvs)) H2 Q (E σ)
def tMakeE (C : Addr) (sp : Sp) (dvs : List V) (E : L2.St → XK) (t : TA) : TE := fun σ H Q => t σ H fun vs H1 => ∀ x dx, H1 x = none → H1 dx = none → dx ≠ x → sp (.ref x :: (vs ++ dvs)) (upd (upd H1 dx (.own x)) x (.ins C dx [])) (fun v H2 => v = .non ∧ Q (.ref x) H2) (E σ)
section
variable {X : Cx} {CX : CXT} {k : Nat} {f C : Addr} {fd : FuncData} {ps : List Str} {sp : Sp} {dvs : List V} {ds : List Value} {E : L2.St → XK} {x m : Str} {p pos apos : Pos} {e o : Expr} {es : List Expr} {ta : TE} {t : TA}
theorem pe_methE {pl : Sem Bool} (he : PE X o ta) (c : Cls X.K C) (hm : Meth X.K C m f) (F : FnOk X.prog X.w X.K X.mg X.base CX k f fd ps sp) (hr : Room k X.A) (hb : Binds X.K fd ps ds) (hd : Vals dvs ds) (hx : ∀ σ, PassesAt CX X σ (E σ)) (ha : PA X (e :: es) t)
    (hst : starEach (e :: es) X.env = (false, eval e X.env) :: starEach es X.env := by rfl) (hpl : (backTo pos (starEach es X.env)).any (·.1) = false := by rfl)
    (ht : eval (.Call (.Attribute o m apos) (e :: es) [] pos) X.env = (eval o X.env >>= fun ov => standAt apos.atName >>= fun _ => holding [ov] (getMethod ov m pl) >>= fun r => callWith pos r.1 r.2 (backTo pos (starEach (e :: es) X.env)) (backToKw pos (keywordEach [] X.env))) := by rfl) :
    PE X (.Call (.Attribute o m apos) (e :: es) [] pos) (tMethE C m sp dvs E ta t) := by
  refine ⟨fun pins s σ H Q I h => PySem.W.methodCall_KW (pl := pl) (thn (he.run pins s σ H _ I h) fun u s1 hh => ?_) ht⟩
  obtain ⟨_, H1, I1, rx, a, dx, fs, rfl, ea, l, q⟩ := hh
  obtain rfl : u = Value.ref a := rx
  refine getmeth_ok I1 ea c hm l (PySem.W.callWith_K (first := [.ref a]) (h₀ := X.base) I.ok.mod.kin hm.kp (thn (ha.run pos pins s1 σ H1 _ I1 q) fun us s2 hh => ?_) hst hpl)
  obtain ⟨vs, H2, I2, r, q2⟩ := hh
  exact ⟨I2.kIn, run_fnSD (us := .ref a :: us) (vs := .ref a :: vs) F hr hb hd (hx σ) I2 (.cons rfl r) q2⟩
theorem pe_methE0 {pl : Sem Bool} (he : PE X o ta) (c : Cls X.K C) (hm : Meth X.K C m f) (F : FnOk X.prog X.w X.K X.mg X.base CX k f fd ps sp) (hr : Room k X.A) (hb : Binds X.K fd ps ds) (hd : Vals dvs ds) (hx : ∀ σ, PassesAt CX X σ (E σ))
    (ht : eval (.Call (.Attribute o m apos) [] [] pos) X.env = (eval o X.env >>= fun ov => standAt apos.atName >>= fun _ => holding [ov] (getMethod ov m pl) >>= fun r => callWith pos r.1 r.2 (backTo pos (starEach [] X.env)) (backToKw pos (keywordEach [] X.env))) := by rfl) :
    PE X (.Call (.Attribute o m apos) [] [] pos) (tMethE C m sp dvs E ta tNil) := by
  refine ⟨fun pins s σ H Q I h => PySem.W.methodCall_KW (pl := pl) (thn (he.run pins s σ H _ I h) fun u s1 hh => ?_) ht⟩
  obtain ⟨_, H1, I1, rx, a, dx, fs, rfl, ea, l, q⟩ := hh
  obtain rfl : u = Value.ref a := rx
  exact getmeth_ok I1 ea c hm l (PySem.W.callWith_K0 (first := [.ref a]) I1.kIn hm.kp (run_fnSD (us := [.ref a]) (vs := [.ref a]) F hr hb hd (hx σ) I1 (.cons rfl .nil) q))
theorem pe_call0E (F : FnOk X.prog X.w X.K X.mg X.base CX k f fd ps sp) (hr : Room k X.A) (hg : Gl X x) (hm : X.mg x = some (.ref f)) (hk : PySem.W.keepIn X.K (.ref f) = true) (hb : Binds X.K fd ps ds) (hd : Vals dvs ds) (hx : ∀ σ, PassesAt CX X σ (E σ))
    (hdb : (x == ("__debug__" : Str)) = false := by decide) : PE X (.Call (.Name x p) [] [] pos) (tCallSD sp dvs E tNil) :=
  ⟨fun _ _ σ _ _ I h => wpAny_Call_Name_kw (ld_glob I hg hm (PySem.W.callWith_K0 I.kIn hk (run_fnSD (us := []) F hr hb hd (hx σ) I .nil h)) hdb)⟩
theorem run_makeE {pins : List (Addr × Obj)} {σ : L2.St} {H : Hp} {s : Shared} {Q : VK} {us : List Value} {vs : List V} {E : XK} (M : Mk X.K C f) (F : FnOk X.prog X.w X.K X.mg X.base CX k f fd ps sp) (hr : Room (k + 1) X.A) (hb : Binds X.K fd ps ds) (hd : Vals dvs ds)
    (hx : ∀ (H1 : Hp) (s1 : Shared) (e : Value) (s' : Shared), Inv X pins σ H1 s1 → CX X.stack H1 s1 E e s' → X.xe e s') (I : Inv X pins σ H s) (r : Vals vs us)
    (h : ∀ x dx, H x = none → H dx = none → dx ≠ x → sp (.ref x :: (vs ++ dvs)) (upd (upd H dx (.own x)) x (.ins C dx [])) (fun v H2 => v = .non ∧ Q (.ref x) H2) E) :
    wpAny (model X.prog X.w) X.A (call (.ref C) us) (EP X pins σ Q) X.xe s := by
  have q := h (s.heap.objs.size + 1) s.heap.objs.size (I.hok.fresh (Nat.le_succ _)) (I.hok.fresh (Nat.le_refl _)) (Nat.ne_of_lt (Nat.lt_succ_self _))
  have I2 := Inv.made (C := C) I
  have r2 : Vals (V.ref (s.heap.objs.size + 1) :: (vs ++ dvs)) (Value.ref (s.heap.objs.size + 1) :: (us ++ ds)) := .cons rfl (r.append hd)
  have hl : (Value.ref (s.heap.objs.size + 1) :: us ++ ds).length = ps.length := by
    have z := r2.length
    rw [show Value.ref (s.heap.objs.size + 1) :: us ++ ds = Value.ref (s.heap.objs.size + 1) :: (us ++ ds) from rfl, ← z]
    exact F.len _ _ _ _ q
  refine wpAny_call (make_map (f := f) I.kIn M.makes M.init (beq_iff_eq.mp M.fn) (codeAny_mono (F.run _ X.stack _ _ ⟨Value.ref (s.heap.objs.size + 1) :: us, []⟩ (Value.ref (s.heap.objs.size + 1) :: (us ++ ds)) _ _ E (hr.make C us []) (I2.env0.make C us []) (hb _ (Value.ref (s.heap.objs.size + 1) :: us) I2.kIn hl) r2 q) fun rr s' hq => ?_))
  cases rr with
  | error e => exact hx _ _ e s' I2 hq
  | ok fl =>
    cases fl with
    | ret u =>
      obtain ⟨v, H', J, rv, e, q'⟩ := I2.after hq
      subst e
      obtain rfl : u = Value.none := rv
      exact ⟨rfl, .ref _, H', J, rfl, q'⟩
    | next => exact False.elim hq
    | brk => exact False.elim hq
    | cont => exact False.elim hq
theorem pe_makeE (M : Mk X.K C f) (F : FnOk X.prog X.w X.K X.mg X.base CX k f fd ps sp) (hr : Room (k + 1) X.A) (hg : Gl X x) (hm : X.mg x = some (.ref C)) (hb : Binds X.K fd ps ds) (hd : Vals dvs ds) (hx : ∀ σ, PassesAt CX X σ (E σ))
    (ha : PA X (e :: es) t) (hdb : (x == ("__debug__" : Str)) = false := by decide) (he : starEach (e :: es) X.env = (false, eval e X.env) :: starEach es X.env := by rfl) (hpl : (backTo pos (starEach es X.env)).any (·.1) = false := by rfl) :
    PE X (.Call (.Name x p) (e :: es) [] pos) (tMakeE C sp dvs E t) :=
  ⟨fun pins s σ H Q I h => wpAny_Call_Name_kw (ld_glob I hg hm (PySem.W.callWith_K (h₀ := X.base) I.ok.mod.kin M.kp (thn (ha.run pos pins s σ H _ I h) fun us s1 hh => let ⟨vs, H1, I1, r, q⟩ := hh; ⟨I1.kIn, run_makeE M F hr hb hd (fun H1 s1 e s' J c => hx σ pins H1 s1 e s' J c) I1 r q⟩) he hpl) hdb)⟩
end
/-! ### one's own objects: len, == -/
theorem inst_of {X : Cx} {pins : List (Addr × Obj)} {σ : L2.St} {H : Hp} {s : Shared} {a C dx : Addr} {fs : List (Str × V)} (I : Inv X pins σ H s) (e : H a = some (.ins C dx fs)) : ∃ ox od, PySem.W.InstAt s.heap a ox C (some od) := by
  obtain ⟨mA, ⟨ob, hns, _⟩, _⟩ := ins_get I.hok e
  obtain ⟨od, ho, _⟩ := lookIn_ns hns
  exact ⟨_, od, ob, rfl, rfl, ho⟩
section
variable {X : Cx} {CX : CXT} {k : Nat} {f C : Addr} {fd : FuncData} {ps : List Str} {sp : Sp} {E : XK}
theorem call_lenO {K : Frag} (hK : X.K = K) (hs : findIn K (.ref C) "__len__" = some (some (.ref f))) (hf : isFn K (.ref f) = true) (F : FnOk X.prog X.w X.K X.mg X.base CX k f fd ps sp) (hr : Room (k + 1) X.A) (hb : Binds X.K fd ps []) (hx : Passes CX X E) :
    CallR X (.builtin "len") (fun xs H Q => ∃ a dx fs, xs = [.ref a] ∧ H a = some (.ins C dx fs) ∧ sp [.ref a] H (fun v H' => ∃ n : Int, v = .int n ∧ 0 ≤ n ∧ n < 2 ^ 63 ∧ Q (.int n) H') E) := by
  subst hK
  intro pins s σ H xs us Q I r h
  obtain ⟨a, dx, fs, rfl, ea, q⟩ := h
  rw [Vals.ref1 r]
  obtain ⟨ox, od, J⟩ := inst_of I ea
  obtain ⟨m, hn, _⟩ := I.loc
  have Fr0 : Fr X.base X.env.locals s.heap m := ⟨hn, I.bk, Nat.le_trans I.ok.bsz I.ok.above⟩
  have hl : [Value.ref a].length = ps.length := by
    have z := F.len _ _ _ _ q
    exact z
  have b := hb s [.ref a] I.kIn (by rw [List.append_nil]; exact hl)
  rw [List.append_nil] at b
  refine PySem.W.len_K Fr0 I.ok.mod.kin J hs hf (wpAny_call (codeAny_mono (F.run X.A.in1 X.stack s H ⟨[.ref a], []⟩ [.ref a] [.ref a] _ E hr.in1 I.env0.in1 b (.cons rfl .nil) q) fun rr s' hq => ?_))
  cases rr with
  | error e => exact hx pins σ H s e s' I hq
  | ok fl =>
    cases fl with
    | ret u =>
      obtain ⟨v, H', J', rv, n, rfl, h0, h1, qq⟩ := I.after hq
      obtain ⟨t, rfl⟩ := rv
      exact ⟨⟨h0, h1⟩, .int n, H', J'.tok _, ⟨_, rfl⟩, qq⟩
    | next => exact False.elim hq
    | brk => exact False.elim hq
    | cont => exact False.elim hq
theorem rc_own {prog : Program} {w : World} {A : Around} {E : Value → Shared → Prop} {s : Shared} {K : Frag} {x y : Addr} {ox oy : Obj} {od od2 : Option Obj} {Q : Value → Shared → Prop} (hu : A.units < cLine) (XI : K.In s.heap) (I : PySem.W.InstAt s.heap x ox C od) (J : PySem.W.InstAt s.heap y oy C od2)
    (hs : findIn K (.ref C) "__eq__" = some (some (.ref f))) (hf : isFn K (.ref f) = true) (h : wpAny (model prog w) A (call (.ref f) [.ref x, .ref y]) (fun v s' => ∃ b, v = .bool b ∧ Q (.bool b) s') E s) : wpAny (model prog w) A (richCompare .Eq (.ref x) (.ref y)) Q E s := by
  unfold richCompare
  simp only [oneThing_ref]
  refine wpAny_holding (wpAny_bind (wpAny_cRoomFor hu ?_))
  rw [cmpInfo_Eq]
  dsimp only
  refine wpAny_bind (wpAny_typeOf_ref I.at_ (I.cls ▸ wpAny_bind (wpAny_typeOf_ref J.at_ ?_)))
  rw [J.cls]
  have e0 : (Value.ref C != Value.ref C) = false := by simp
  rw [e0]
  simp only [Bool.false_eq_true, if_false]
  refine wpAny_bind (wpAny_pure ?_)
  simp only [Bool.false_eq_true, if_false]
  unfold tryCompare
  refine wpAny_bind (wpAny_bind (ifBound_K XI I hs hf (wpAny_mono h (fun v s' hv => ?_) fun _ _ z => z)))
  obtain ⟨b, rfl, hq⟩ := hv
  exact wpAny_pure (wpAny_pure hq)
theorem op_eqO {K : Frag} (hK : X.K = K) (hs : findIn K (.ref C) "__eq__" = some (some (.ref f))) (hf : isFn K (.ref f) = true) (F : FnOk X.prog X.w X.K X.mg X.base CX k f fd ps sp) (hr : Room k X.A) (hb : Binds X.K fd ps []) (hx : Passes CX X E) :
    OpR X (compareOp .Eq) (fun x y H Q => ∃ a dx fs b dy gs, x = .ref a ∧ y = .ref b ∧ H a = some (.ins C dx fs) ∧ H b = some (.ins C dy gs) ∧ sp [.ref a, .ref b] H (fun v H' => ∃ z, v = .bl z ∧ Q (.bl z) H') E) := by
  subst hK
  intro pins s σ H x y v u Q I rx ry h
  obtain ⟨a, dx, fs, b, dy, gs, rfl, rfl, ea, eb, q⟩ := h
  obtain rfl : v = Value.ref a := rx
  obtain rfl : u = Value.ref b := ry
  obtain ⟨ox, od, J⟩ := inst_of I ea
  obtain ⟨oy, od2, J2⟩ := inst_of I eb
  refine PySem.W.cmp_ofEq (rc_own hr.units0 I.kIn J J2 hs hf ?_)
  have hd : Vals ([] : List V) ([] : List Value) := .nil
  refine wpAny_mono (run_fn (us := [.ref a, .ref b]) (vs := [.ref a, .ref b]) F hr hb hd hx I (.cons rfl (.cons rfl .nil)) (by rw [List.append_nil]; exact q)) (fun r s' hq => ?_) fun _ _ z => z
  obtain ⟨v, H', J', rv, z, rfl, qq⟩ := hq
  obtain rfl : r = Value.bool z := rv
  exact ⟨z, rfl, .bl z, H', J', rfl, qq⟩
end
/-! ### == and != of lists and tuples whose items are one and the same, or plain data -/
inductive E1 (K : Frag) (H : Hp) : V → V → Bool → Prop
  | same (a : Addr) : E1 K H (.ref a) (.ref a) true
  | str (a b : Str) : E1 K H (.str a) (.str b) (a == b)
  | dat {x y : V} {d e : PyData} : Dp K H x d → Dp K H y e → SeqAt.shaped d = true → SeqAt.shaped e = true → E1 K H x y (PyData.eqv d e)
inductive E1s (K : Frag) (H : Hp) : List V → List V → Bool → Prop
  | nil : E1s K H [] [] true
  | cons {x y : V} {xs ys : List V} {b c : Bool} : E1 K H x y b → E1s K H xs ys c → E1s K H (x :: xs) (y :: ys) (b && c)
def rEqX (K : Frag) : R2 := fun x y H Q => ∃ a b xs ys c, x = .ref a ∧ y = .ref b ∧ ((SqT K H a xs ∧ SqT K H b ys) ∨ (SqL K H a xs ∧ SqL K H b ys)) ∧ E1s K H xs ys c ∧ Q (.bl c) H
def rNeX (K : Frag) : R2 := fun x y H Q => ∃ a b xs ys c, x = .ref a ∧ y = .ref b ∧ ((SqT K H a xs ∧ SqT K H b ys) ∨ (SqL K H a xs ∧ SqL K H b ys)) ∧ E1s K H xs ys c ∧ Q (.bl (!c)) H
section
variable {X : Cx} {pins : List (Addr × Obj)} {σ : L2.St} {H : Hp} {s : Shared}
theorem E1.at (I : Inv X pins σ H s) {A : Around} (hu : A.units + 64 < cLine) {x y : V} {c : Bool} (h : E1 X.K H x y c) {u v : Value} (ru : RelV x u) (rv : RelV y v) : SeqAt.EqAt A s u v c := by
  cases h with
  | same a =>
    obtain rfl : u = Value.ref a := ru
    obtain rfl : v = Value.ref a := rv
    exact SeqAt.EqAt.same _
  | str a b =>
    obtain ⟨t, rfl⟩ := ru
    obtain ⟨t', rfl⟩ := rv
    exact SeqAt.EqAt.str_str _ _ _ _
  | @dat _ _ d e hd he sd se =>
    obtain ⟨as, r1⟩ := Dp.reads I d x u hd ru
    obtain ⟨bs, r2⟩ := Dp.reads I e y v he rv
    exact SeqAt.eqAt_reads d e A s u v as bs r1 r2 (SeqAt.canLay_of_shaped sd) (SeqAt.canLay_of_shaped se) (SeqAt.room_of_shaped sd hu)
theorem E1s.at (I : Inv X pins σ H s) {A : Around} (hu : A.units + 64 < cLine) {xs ys : List V} {c : Bool} (h : E1s X.K H xs ys c) : ∀ {us vs : List Value}, Vals xs us → Vals ys vs → us.length = vs.length ∧ ∃ e : Nat → Bool, (∀ j (h1 : j < us.length) (h2 : j < vs.length), SeqAt.EqAt A s us[j] vs[j] (e j)) ∧ ((List.range us.length).all e) = c := by
  induction h with
  | nil =>
    intro us vs r1 r2
    cases r1
    cases r2
    exact ⟨rfl, fun _ => true, fun j h1 => absurd h1 (Nat.not_lt_zero j), rfl⟩
  | @cons x y xs ys b c h1 _ ih =>
    intro us vs r1 r2
    cases r1 with
    | @cons _ u _ us ru rus =>
      cases r2 with
      | @cons _ v _ vs rv rvs =>
        obtain ⟨l, e, q, z⟩ := ih rus rvs
        refine ⟨congrArg (· + 1) l, fun j => match j with | 0 => b | j + 1 => e j, fun j h1' h2' => ?_, ?_⟩
        · cases j with
          | zero => exact h1.at I hu ru rv
          | succ j => exact q j (Nat.lt_of_succ_lt_succ h1') (Nat.lt_of_succ_lt_succ h2')
        · rw [List.length_cons, List.range_succ_eq_map, List.all_cons, List.all_map]
          exact congrArg (b && ·) z
theorem op_eqX {K : Frag} (hK : X.K = K) (hu : X.A.units + 128 < cLine) : OpR X (compareOp .Eq) (rEqX K) := by
  subst hK
  intro pins s σ H x y v u Q I rx ry h
  obtain ⟨a, b, xs, ys, c, rfl, rfl, hs, e1, q⟩ := h
  obtain rfl : v = Value.ref a := rx
  obtain rfl : u = Value.ref b := ry
  have hu1 : X.A.in1.units + 64 < cLine := by
    show X.A.units + 1 + 64 < cLine
    omega
  rcases hs with ⟨sa, sb⟩ | ⟨sa, sb⟩
  · obtain ⟨us, r1, ⟨o1, ho1, hc1, n1, hd1⟩, _⟩ := I.tuple sa
    obtain ⟨vs, r2, ⟨o2, ho2, hc2, n2, hd2⟩, _⟩ := I.tuple sb
    obtain ⟨l, e, he, z⟩ := e1.at I hu1 r1 r2
    refine SeqAt.eq_tupleAt (items := us.toArray) (items2 := vs.toArray) (e := e) ⟨o1, ho1, hc1, n1, hd1⟩ ⟨o2, ho2, hc2, n2, hd2⟩ (by omega) (fun j h1 h2 => he j h1 h2) ?_
    have w : ((List.range (min us.toArray.size vs.toArray.size)).all e && us.toArray.size == vs.toArray.size) = c := by
      rw [List.size_toArray, List.size_toArray, ← l, Nat.min_self, z, beq_self_eq_true, Bool.and_true]
    rw [w]
    exact ⟨.bl c, H, I, rfl, q⟩
  · obtain ⟨us, r1, ⟨o1, n1, ho1, hc1, _, hd1⟩, _⟩ := I.list sa
    obtain ⟨vs, r2, ⟨o2, n2, ho2, hc2, _, hd2⟩, _⟩ := I.list sb
    obtain ⟨l, e, he, z⟩ := e1.at I hu1 r1 r2
    refine SeqAt.eq_listAt (items := us.toArray) (items2 := vs.toArray) (e := e) ⟨o1, ho1, hc1, n1, hd1⟩ ⟨o2, ho2, hc2, n2, hd2⟩ (by rw [List.size_toArray, List.size_toArray]; exact l) (by omega) (fun j h1 h2 => he j h1 h2) ?_
    rw [List.size_toArray, z]
    exact ⟨.bl c, H, I, rfl, q⟩
theorem op_neX {K : Frag} (hK : X.K = K) (hu : X.A.units + 128 < cLine) : OpR X (compareOp .NotEq) (rNeX K) := by
  subst hK
  intro pins s σ H x y v u Q I rx ry h
  obtain ⟨a, b, xs, ys, c, rfl, rfl, hs, e1, q⟩ := h
  obtain rfl : v = Value.ref a := rx
  obtain rfl : u = Value.ref b := ry
  have hu1 : X.A.in1.units + 64 < cLine := by
    show X.A.units + 1 + 64 < cLine
    omega
  rcases hs with ⟨sa, sb⟩ | ⟨sa, sb⟩
  · obtain ⟨us, r1, ⟨o1, ho1, hc1, n1, hd1⟩, _⟩ := I.tuple sa
    obtain ⟨vs, r2, ⟨o2, ho2, hc2, n2, hd2⟩, _⟩ := I.tuple sb
    obtain ⟨l, e, he, z⟩ := e1.at I hu1 r1 r2
    refine PySem.W.cmp_ofNotEq (SeqAt.RcNeAt.tuples (items := us.toArray) (items2 := vs.toArray) (e := e) ⟨o1, ho1, hc1, n1, hd1⟩ ⟨o2, ho2, hc2, n2, hd2⟩ (by omega) (fun j h1 h2 => he j h1 h2) _ _ _ _ ?_)
    have w : ((List.range (min us.toArray.size vs.toArray.size)).all e && us.toArray.size == vs.toArray.size) = c := by
      rw [List.size_toArray, List.size_toArray, ← l, Nat.min_self, z, beq_self_eq_true, Bool.and_true]
    rw [w]
    exact ⟨.bl _, H, I, rfl, q⟩
  · obtain ⟨us, r1, ⟨o1, n1, ho1, hc1, _, hd1⟩, _⟩ := I.list sa
    obtain ⟨vs, r2, ⟨o2, n2, ho2, hc2, _, hd2⟩, _⟩ := I.list sb
    obtain ⟨l, e, he, z⟩ := e1.at I hu1 r1 r2
    refine PySem.W.cmp_ofNotEq (SeqAt.RcNeAt.lists (items := us.toArray) (items2 := vs.toArray) (e := e) ⟨o1, ho1, hc1, n1, hd1⟩ ⟨o2, ho2, hc2, n2, hd2⟩ (by rw [List.size_toArray, List.size_toArray]; exact l) (by omega) (fun j h1 h2 => he j h1 h2) _ _ _ _ ?_)
    rw [List.size_toArray, z]
    exact ⟨.bl _, H, I, rfl, q⟩
end
end CH

/-! ### != of own objects by their own ==; enumerate over a tuple; methods with keywords -/
namespace CH
open PySem PySem.Spec PyProof.Rows PySem.W PySem.Calls L2
section
variable {X : Cx} {CX : CXT} {k : Nat} {f C : Addr} {fd : FuncData} {ps : List Str} {sp : Sp} {E : XK}
theorem ne_entry {pg : Program} {w : World} {A : Around} {E : Value → Shared → Prop} {s : Shared} {K : Frag} {x y : Addr} {ox : Obj} {od : Option Obj} {Q : Fin → Shared → Prop} (hu : A.units < cLine) (XI : K.In s.heap) (I : PySem.W.InstAt s.heap x ox C od)
    (hs : findIn K (.ref C) "__eq__" = some (some (.ref f))) (hf : isFn K (.ref f) = true) (h : wpAny (model pg w) A (call (.ref f) [.ref x, .ref y]) (fun v s' => ∃ b, v = .bool b ∧ Q (.done (.ret (.bool (!b)))) s') E s) :
    wpAny (model pg w) A (Builtin.«object.__ne__» ⟨[.ref x, .ref y], []⟩) Q E s := by
  unfold Builtin.«object.__ne__»
  refine wpAny_bind (wpAny_of_eq (a := ((Value.ref x : Value), [Value.ref y])) (by first | rfl | (simp only [slotArgs]; rfl)) ?_)
  refine wpAny_bind (wpAny_cRoomFor hu ?_)
  refine wpAny_bind (ifBound_K XI I hs hf (wpAny_mono h (fun v s' hv => ?_) fun _ _ z => z))
  obtain ⟨b, rfl, hq⟩ := hv
  refine wpAny_bind (wpAny_truthy_bool ?_)
  exact wpAny_pure hq
theorem rn_own {pg : Program} {w : World} {A : Around} {E : Value → Shared → Prop} {s : Shared} {K : Frag} {x y : Addr} {ox oy : Obj} {od od2 : Option Obj} {Q : Value → Shared → Prop} (hu : A.units + 1 < cLine) (XI : K.In s.heap) (I : PySem.W.InstAt s.heap x ox C od) (J : PySem.W.InstAt s.heap y oy C od2)
    (hn : findIn K (.ref C) "__ne__" = some (some (.builtin "object.__ne__"))) (hm : mroIn K C (.type "object") = some true)
    (hs : findIn K (.ref C) "__eq__" = some (some (.ref f))) (hf : isFn K (.ref f) = true) (h : wpAny (model pg w) A.in1 (call (.ref f) [.ref x, .ref y]) (fun v s' => ∃ b, v = .bool b ∧ Q (.bool (!b)) s') E s) : wpAny (model pg w) A (richCompare .NotEq (.ref x) (.ref y)) Q E s := by
  unfold richCompare
  simp only [oneThing_ref]
  refine wpAny_holding (wpAny_bind (wpAny_cRoomFor (by omega) ?_))
  rw [cmpInfo_NotEq]
  dsimp only
  refine wpAny_bind (wpAny_typeOf_ref I.at_ (I.cls ▸ wpAny_bind (wpAny_typeOf_ref J.at_ ?_)))
  rw [J.cls]
  have e0 : (Value.ref C != Value.ref C) = false := by simp
  rw [e0]
  simp only [Bool.false_eq_true, if_false]
  refine wpAny_bind (wpAny_pure ?_)
  simp only [Bool.false_eq_true, if_false]
  unfold tryCompare
  refine wpAny_bind (wpAny_bind ?_)
  simp only [callSpecialIfBound?, bindSpecialIfBound?]
  refine wpAny_holding (wpAny_bind (wpAny_bind (wpAny_bind (I.type.here ((looks_findIn XI hn).here ?_)))))
  simp only [F.cmp_object.ne.bind]
  refine wpAny_bind (wpAny_askSetting (wpAny_ite ?_))
  have fin : wpAny (model pg w) A (call (.builtin "object.__ne__") ([.ref x] ++ [.ref y]) >>= fun v => pure (some v)) (fun r s' => ∃ b, r = some (.bool b) ∧ Q (.bool b) s') E s := by
    refine wpAny_bind (wpAny_call (codeAny_call_builtin F.cmp_object.ne.plain F.cmpEntry_ne (check_slot (rest := [.ref y]) F.cmpKind_ne F.cmpSplit_ne (I.type.andThen (looks_mroIn XI hm)) (F.cmpArgs_ne _ _) ?_)))
    refine ne_entry (A := A.in1) (by show A.units + 1 < cLine; exact hu) XI I hs hf (wpAny_mono h (fun v s' hv => ?_) fun _ _ z => z)
    obtain ⟨b, rfl, hq⟩ := hv
    exact ⟨b, rfl, wpAny_pure ⟨_, rfl, hq⟩⟩
  split
  · refine wpAny_bind (wpAny_pure (wpAny_pure (wpAny_mono fin (fun r s' hr => ?_) fun _ _ z => z)))
    obtain ⟨b, rfl, hq⟩ := hr
    exact wpAny_pure (wpAny_pure hq)
  · refine wpAny_tryCatch (wpAny_bind (wpAny_pure (wpAny_pure (wpAny_mono fin (fun r s' hr => ?_) fun _ _ z => z))))
    obtain ⟨b, rfl, hq⟩ := hr
    exact wpAny_pure (wpAny_pure hq)
theorem op_neO {K : Frag} (hK : X.K = K) (hn : findIn K (.ref C) "__ne__" = some (some (.builtin "object.__ne__"))) (hm : mroIn K C (.type "object") = some true) (hs : findIn K (.ref C) "__eq__" = some (some (.ref f))) (hf : isFn K (.ref f) = true) (F : FnOk X.prog X.w X.K X.mg X.base CX k f fd ps sp) (hr : Room (k + 1) X.A) (hb : Binds X.K fd ps []) (hx : Passes CX X E) :
    OpR X (compareOp .NotEq) (fun x y H Q => ∃ a dx fs b dy gs, x = .ref a ∧ y = .ref b ∧ H a = some (.ins C dx fs) ∧ H b = some (.ins C dy gs) ∧ sp [.ref a, .ref b] H (fun v H' => ∃ z, v = .bl z ∧ Q (.bl (!z)) H') E) := by
  subst hK
  intro pins s σ H x y v u Q I rx ry h
  obtain ⟨a, dx, fs, b, dy, gs, rfl, rfl, ea, eb, q⟩ := h
  obtain rfl : v = Value.ref a := rx
  obtain rfl : u = Value.ref b := ry
  obtain ⟨ox, od, J⟩ := inst_of I ea
  obtain ⟨oy, od2, J2⟩ := inst_of I eb
  refine PySem.W.cmp_ofNotEq (rn_own (by have := hr.un; omega) I.kIn J J2 hn hm hs hf ?_)
  have hl : [Value.ref a, Value.ref b].length = ps.length := F.len _ _ _ _ q
  have bd := hb s [.ref a, .ref b] I.kIn (by rw [List.append_nil]; exact hl)
  rw [List.append_nil] at bd
  refine wpAny_call (codeAny_mono (F.run X.A.in1 X.stack s H ⟨[.ref a, .ref b], []⟩ [.ref a, .ref b] [.ref a, .ref b] _ E hr.in1 I.env0.in1 bd (.cons rfl (.cons rfl .nil)) q) fun rr s' hq => ?_)
  cases rr with
  | error e => exact hx pins σ H s e s' I hq
  | ok fl =>
    cases fl with
    | ret u =>
      obtain ⟨v, H', J', rv, z, rfl, qq⟩ := I.after hq
      obtain rfl : u = Value.bool z := rv
      exact ⟨z, rfl, .bl (!z), H', J', rfl, qq⟩
    | next => exact False.elim hq
    | brk => exact False.elim hq
    | cont => exact False.elim hq
end
end CH
namespace CH
open PySem PySem.Spec PyProof.Rows PySem.W PySem.Calls L2
theorem meets_enum1 {v : Value} {o : Obj} {HH : Heap → Prop} (B : Begins v o HH) :
    Meets (Builtin.«enumerate.__new__» ⟨[.type "enumerate", v], []⟩) (fun _ R s => HH s.heap ∧
      R (.ok (.ret (.ref (s.heap.push o).objs.size))) { s with heap := (s.heap.push o).push { cls := .type "enumerate", data := .fields #[.none, .bool false, .ref s.heap.objs.size, rawInt 0, .none, .none] } }) :=
  .of_wp fun pg w A R s hh => by
    obtain ⟨hp, g, d, tk, os⟩ := s
    obtain ⟨h1, h2⟩ := hh
    have sb := sub_enumerate
    have q1 : ∀ {A1 : Around} {E1 : Value → Shared → Prop} {Q1 : Value → Shared → Prop}, Q1 (.ref hp.objs.size) ⟨hp.push o, g, d, tk, os⟩ → wpAny (model pg w) A1 (pyIter v) Q1 E1 ⟨hp, g, d, tk, os⟩ := fun q => B.iter pg w _ _ ⟨hp, g, d, tk, os⟩ _ h1 q
    wp_walk using q1
    refine wpAny_stack_any fun st => wpAny_pure ?_
    split
    · rename_i c _ _ _ _ _
      cases (c == Value.type "enumerate")
      all_goals wp_walk using q1
      all_goals exact ⟨_, rfl, h2⟩
    · wp_walk using q1
      exact ⟨_, rfl, h2⟩
theorem call_enum1 {pg : Program} {w : World} {A : Around} {E : Value → Shared → Prop} {s : Shared} {v : Value} {o : Obj} {HH : Heap → Prop} {Q : Value → Shared → Prop} (B : Begins v o HH) (h1 : HH s.heap)
    (h : ∀ h', IsEnum h' (s.heap.objs.size + 1) s.heap.objs.size 0 .none → h'.get? s.heap.objs.size = some o → h'.objs.size = s.heap.objs.size + 2 → (∀ b o, s.heap.get? b = some o → h'.get? b = some o) → Q (.ref (s.heap.objs.size + 1)) { s with heap := h' }) :
    wpAny (model pg w) A (call (.type "enumerate") [v]) Q E s := by
  refine callType_new F.called_enumerate (by decide) (F.typeCall_enumerate_1 _) (F.newCall_enumerate_1 _) (fun obj => F.args_object_init_2 obj _) F.entry_enumerate_new (meets_enum1 B) ⟨h1, ?_⟩
  have hz : (s.heap.push o).objs.size = s.heap.objs.size + 1 := Heap.size_push ..
  show _ ∧ _
  rw [hz]
  have he : IsEnum ((s.heap.push o).push { cls := .type "enumerate", data := .fields #[.none, .bool false, .ref s.heap.objs.size, rawInt 0, .none, .none] }) (s.heap.objs.size + 1) s.heap.objs.size 0 .none := by
    have z := Heap.get?_push_size (s.heap.push o) (o := { cls := .type "enumerate", data := .fields #[.none, .bool false, .ref s.heap.objs.size, rawInt 0, .none, .none] }) rfl
    rw [hz] at z
    exact z
  exact ⟨⟨_, he, rfl⟩, h _ he (Heap.get?_push_of_some _ (Heap.get?_push_size _ B.free)) (by rw [Heap.size_push, hz]) fun b o x => Heap.get?_push_of_some _ (Heap.get?_push_of_some _ x)⟩
def ItEt (K : Frag) (a : Addr) : It :=
  ⟨fun i H => ∃ (xs : List V) (x : V), SqT K H a xs ∧ xs[i]? = some x, fun i H v H' => ∃ T x, v = .ref T ∧ H T = none ∧ H' = upd H T (.tup [.int (i : Nat), x]) ∧ ∀ xs, SqT K H a xs → xs[i]? = some x, fun i H => ∃ xs : List V, SqT K H a xs ∧ xs.length = i⟩
theorem turn_enumT {P : Program} {w : World} {K : Frag} {elts : List Expr} {kk : Nat} {tp : Pos} (a e it : Addr) :
    Turn P w K (.Tuple elts kk tp) (ItEt K a) [e, it] e (fun i h => (∃ old, IsEnum h e it ((i : Nat) : Int) old) ∧ h.IsTupleIter it a i ∧ e ≠ it) where
  mem := by simp
  obj := fun i h st b hb => by
    obtain ⟨⟨old, he⟩, ⟨o, ho, hc, hd⟩, _⟩ := st
    have eb : b = e ∨ b = it := by simpa using hb
    rcases eb with z | z
    · rw [z]; exact ⟨_, he, fun v q => nomatch q⟩
    · rw [z]; exact ⟨o, ho, fun v q => by rw [hd] at q; cases q⟩
  keep := fun i h h' st k => ⟨⟨st.1.choose, k e (by simp) _ st.1.choose_spec⟩, st.2.1.at fun o q => k it (by simp) o q, st.2.2⟩
  item := by
    intro X hP hw hK hc i pins s σ H E I hf st hg
    subst hP hw hK
    obtain ⟨⟨old, he⟩, hit, hne⟩ := st
    obtain ⟨xs, x, hq, hx⟩ := hg
    obtain ⟨its, rv, p, hz⟩ := I.tuple hq
    obtain ⟨u, hu, ru⟩ := rv.get hx
    have hel : e < s.heap.objs.size := Heap.lt_size he
    have hil : it < s.heap.objs.size := by obtain ⟨_, q, _⟩ := hit; exact Heap.lt_size q
    have p' : s.heap.IsTuple a its.toArray := p
    have hai : a ≠ it := fun z => by
      obtain ⟨o1, q1, c1, _⟩ := p'
      obtain ⟨o2, q2, c2, _⟩ := hit
      rw [z, q2] at q1
      cases q1
      rw [c2] at c1
      exact absurd (Value.type.inj c1) (by decide)
    have hae : a ≠ e := fun z => by
      obtain ⟨o1, q1, c1, _⟩ := p'
      have q2 : s.heap.get? e = some _ := he
      rw [z, q2] at q1
      cases q1
      exact absurd (Value.type.inj c1) (by decide)
    have hi : i < its.toArray.size := by
      rw [List.size_toArray]
      exact (List.getElem?_eq_some_iff.mp hu).1
    refine wpAny_pyNext_enum_itemD (Draws.tuple (A := X.A.in1) (I.ok.hd hc) it a hai its.toArray) he ⟨hit, p'⟩ hi hne (by simp; exact ⟨hne, fun z => hae z.symm⟩) fun y h' tk hy ho hit' hT hsz hk => ?_
    have ey : y = u := by
      have z : its[i]? = some y := by simpa using hy
      rw [hu] at z
      exact (Option.some.inj z).symm
    subst ey
    refine ⟨_, rfl, wpAny_letOwnedTupleGo_enum (s := { s with heap := h', toks := tk + 1 }) ho fun h2 he2 sb => ?_⟩
    have hT2 : h2.get? s.heap.objs.size = some { cls := .type "tuple", data := .seq #[.int i tk, y] } := (sb.2 _ (Nat.ne_of_gt hel)).trans hT
    have new : ObjOk X.prog X.w (upd H s.heap.objs.size (.tup [.int (i : Nat), x])) h2 s.heap.objs.size (.tup [.int (i : Nat), x]) := ⟨by show 2 ≤ sizeLine; decide, [.int i tk, y], .cons ⟨_, rfl⟩ (.cons ru .nil), ⟨_, hT2, rfl, _, rfl⟩⟩
    have I1 : Inv X pins σ (upd H s.heap.objs.size (.tup [.int (i : Nat), x])) { s with heap := h2, toks := tk + 1 } :=
      I.turnedNew (ch := [e, it]) (fun b ob hb q => (sb.2 b (fun z => hb (by simp [z]))).trans (hk b ob (fun z => hb (by simp [z])) (fun z => hb (by simp [z])) q)) hf (Nat.le_refl _) new
    refine ⟨.ref s.heap.objs.size, _, I1, rfl, ⟨_, x, rfl, I.hok.fresh (Nat.le_refl _), rfl, fun ys hy => by rw [I.tuple_inj hy hq]; exact hx⟩, ⟨⟨y, ?_⟩, hit'.1.at fun o q => (sb.2 it (Ne.symm hne)).trans q, hne⟩, fun b hb => ?_⟩
    · have e1 : ((i + 1 : Nat) : Int) = (i : Int) + 1 := by omega
      rw [e1]
      exact he2
    · have hb' : b < s.heap.objs.size := by
        have eb : b = e ∨ b = it := by simpa using hb
        rcases eb with z | z
        · rw [z]; exact hel
        · rw [z]; exact hil
      rw [upd_ne (Nat.ne_of_lt hb')]
      exact (hf b hb).1
  done := by
    intro X hP hw hK hc i pins s σ H E I hf st hg
    subst hP hw hK
    obtain ⟨⟨old, he⟩, hit, hne⟩ := st
    obtain ⟨xs, hq, hx⟩ := hg
    obtain ⟨its, rv, p, hz⟩ := I.tuple hq
    obtain ⟨f0, f1, f2, f3, f4, f5⟩ := hf it (by simp)
    have hl := rv.length
    have p' : s.heap.IsTuple a its.toArray := p
    have hai : a ≠ it := fun z => by
      obtain ⟨o1, q1, c1, _⟩ := p'
      obtain ⟨o2, q2, c2, _⟩ := hit
      rw [z, q2] at q1
      cases q1
      rw [c2] at c1
      exact absurd (Value.type.inj c1) (by decide)
    have hi : i = its.toArray.size := by
      rw [List.size_toArray]
      omega
    subst hi
    exact wpAny_pyNext_enum_endD (Draws.tuple (A := X.A.in1) (I.ok.hd hc) it a hai its.toArray) he ⟨hit, p'⟩ fun h' eb => ⟨rfl, I.turned (t' := s.toks) (fun b o hb e => eb b o hb e) f0 f1 f3 f4 f5⟩
  self := fun A i s Q E st h => wpAny_pyIter_enum st.1.choose_spec h
def iEnumT (K : Frag) (ta : TA) : TI := fun σ H R => ta σ H fun vs H1 => ∃ a xs, vs = [.ref a] ∧ SqT K H1 a xs ∧ R (ItEt K a) H1
theorem pi_enumT {X : Cx} {K : Frag} {e : Expr} {ta : TA} {p pos tp : Pos} {elts : List Expr} {kk : Nat} (hK : X.K = K) (hg : Gl X "enumerate") (hm : X.mg "enumerate" = none) (ha : PA X [e] ta) (hs : starEach [e] X.env = [(false, eval e X.env)] := by rfl) :
    PI X (.Tuple elts kk tp) (.Call (.Name "enumerate" p) [e] [] pos) (iEnumT K ta) := by
  subst hK
  refine ⟨fun pins s σ H R I h => ?_⟩
  refine Call_ (ld_blt I hg hm boot_enumerate (PyProof.Rows.callWith_type1 (thn (ha.run pos pins s σ H _ I h) fun us s1 hh => ?_) hs rfl))
  obtain ⟨vs, H1, I1, r1, a, xs, ex, hq, q⟩ := hh
  subst ex
  cases r1 with
  | cons r rr =>
    cases rr
    cases r
    obtain ⟨its, rv, p', hz⟩ := I1.tuple hq
    refine call_enum1 (begins_tuple a its.toArray) p' fun h' he hit hsz hk => wpAny_pyIter_enum he ?_
    have I2 : Inv X pins σ H1 { s1 with heap := h' } := I1.kept (t' := s1.toks) hk
    refine ⟨s1.heap.objs.size + 1, [s1.heap.objs.size + 1, s1.heap.objs.size], _, _, H1, rfl, I2, turn_enumT a (s1.heap.objs.size + 1) s1.heap.objs.size, ⟨⟨.none, he⟩, ⟨_, hit, rfl, rfl⟩, Nat.succ_ne_self _⟩, fun b hb => ?_, q⟩
    have hle : s1.heap.objs.size ≤ b := by
      have eb : b = s1.heap.objs.size + 1 ∨ b = s1.heap.objs.size := by simpa using hb
      rcases eb with z | z
      · rw [z]; exact Nat.le_add_right _ _
      · rw [z]; exact Nat.le_refl _
    exact I1.fpOk hle (I1.hok.fresh hle)
theorem walk_enumT {K : Frag} {a : Addr} {xs : List V} : Walk (ItEt K a) xs.length (fun H => SqT K H a xs) (YPair (fun i => some (.int (i : Nat))) (fun i => xs[i]?)) := by
  refine ⟨fun i _ hi q => ⟨xs, xs[i], q, by simp [hi]⟩, fun _ q => ⟨xs, q, rfl⟩, fun i H v H' _ q y => ?_⟩
  obtain ⟨T, x, h1, h2, h3, h4⟩ := y
  exact ⟨T, .int (i : Nat), x, h1, h2, h3, rfl, h4 xs q⟩
end CH
namespace CH
open PySem PySem.Spec PyProof.Rows PySem.W PySem.Calls L2
/-- o.m(e, .., k = v, ..) -/
def tMethN (C : Addr) (m : Str) (n j : Nat) (sp : Sp) (gV : List V → List V → List V) (E : XK) (ta : TE) (t tk : TA) : TE := fun σ H Q => ta σ H fun x H1 => ∃ a dx fs, x = .ref a ∧ H1 a = some (.ins C dx fs) ∧ fs.lookup m = none ∧ t σ H1 fun vs H2 => tk σ H2 fun zs H3 => vs.length = n ∧ zs.length = j ∧ sp (gV (x :: vs) zs) H3 Q E
section
variable {X : Cx} {CX : CXT} {k n : Nat} {f C : Addr} {fd : FuncData} {ps ks : List Str} {sp : Sp} {E : XK} {m : Str} {pos apos : Pos} {e o : Expr} {es : List Expr} {kws : List Keyword} {ta : TE} {t tk : TA} {g : List Value → List Value → List Value} {gV : List V → List V → List V}
theorem pe_methN {pl : Sem Bool} (he : PE X o ta) (c : Cls X.K C) (hm : Meth X.K C m f) (F : FnOk X.prog X.w X.K X.mg X.base CX k f fd ps sp) (hr : Room k X.A) (hb : KBn X.K fd ps (n + 1) ks g gV) (hx : Passes CX X E)
    (ha : PA X (e :: es) t) (hkw : PK X kws tk) (hall : (backToKw pos (keywordEach kws X.env)).all (·.1.isSome) = true := by rfl) (hks : (backToKw pos (keywordEach kws X.env)).filterMap (·.1) = ks := by rfl)
    (hst : starEach (e :: es) X.env = (false, eval e X.env) :: starEach es X.env := by rfl)
    (hpl : ((backTo pos (starEach (e :: es) X.env)).any (·.1) || (backToKw pos (keywordEach kws X.env)).any (·.1.isNone)) = false := by rfl)
    (ht : eval (.Call (.Attribute o m apos) (e :: es) kws pos) X.env = (eval o X.env >>= fun ov => standAt apos.atName >>= fun _ => holding [ov] (getMethod ov m pl) >>= fun r => callWith pos r.1 r.2 (backTo pos (starEach (e :: es) X.env)) (backToKw pos (keywordEach kws X.env))) := by rfl) :
    PE X (.Call (.Attribute o m apos) (e :: es) kws pos) (tMethN C m n ks.length sp gV E ta t tk) := by
  refine ⟨fun pins s σ H Q I h => PySem.W.methodCall_KW (pl := pl) (thn (he.run pins s σ H _ I h) fun u s1 hh => ?_) ht⟩
  obtain ⟨_, H1, I1, rx, a, dx, fs, rfl, ea, l, q⟩ := hh
  obtain rfl : u = Value.ref a := rx
  refine getmeth_ok I1 ea c hm l (PySem.W.callWith_KW (first := [.ref a]) (h₀ := X.base) I1.ok.mod.kin hm.kp hall (thn (ha.run pos pins s1 σ H1 _ I1 q) fun us s2 hh => ?_) hpl hst)
  obtain ⟨vs, H2, I2, r, q2⟩ := hh
  refine thn (hkw.run pos pins s2 σ H2 _ I2 q2) fun ws s3 hh => ?_
  obtain ⟨zs, H3, I3, rz, l1, l2, q3⟩ := hh
  refine ⟨I3.kIn, ?_⟩
  rw [hks]
  exact run_fnN (us := .ref a :: us) (vs := .ref a :: vs) F hr hb hx I3 (.cons rfl r) rz (congrArg (· + 1) l1) l2 q3
end
end CH

/-! ### more == : own objects with others, dicts, several readings; in over data; += at a list's place -/
namespace CH
open PySem PySem.Spec PyProof.Rows PySem.W PySem.Calls L2
section
variable {X : Cx} {CX : CXT} {k : Nat} {f C : Addr} {fd : FuncData} {ps : List Str} {sp : Sp} {E : XK}
theorem op_or {c : CmpOp} {r r' : R2} (h : OpR X (compareOp c) r) (h' : OpR X (compareOp c) r') : OpR X (compareOp c) (fun x y H Q => r x y H Q ∨ r' x y H Q) := by
  intro pins s σ H x y v u Q I rx ry q
  rcases q with q | q
  · exact h pins s σ H x y v u Q I rx ry q
  · exact h' pins s σ H x y v u Q I rx ry q
theorem op_eqOther {K : Frag} (hK : X.K = K) (hs : findIn K (.ref C) "__eq__" = some (some (.ref f))) (hf : isFn K (.ref f) = true) (F : FnOk X.prog X.w X.K X.mg X.base CX k f fd ps sp) (hr : Room k X.A) (hb : Binds X.K fd ps []) (hx : Passes CX X E) :
    OpR X (compareOp .Eq) (fun x y H Q => ∃ a dx fs t, x = .ref a ∧ H a = some (.ins C dx fs) ∧ TyX K H y t ∧ subIn K t (.ref C) = some false ∧ sp [.ref a, y] H (fun v H' => ∃ z, v = .bl z ∧ Q (.bl z) H') E) := by
  subst hK
  intro pins s σ H x y v u Q I rx ry h
  obtain ⟨a, dx, fs, t, rfl, ea, ty, hn, q⟩ := h
  obtain rfl : v = Value.ref a := rx
  obtain ⟨ox, od, J⟩ := inst_of I ea
  obtain ⟨Pt, Kx, hP, _⟩ := kit_of I ry ty
  obtain ⟨m, hnn, _⟩ := I.loc
  have Fr0 : Fr X.base X.env.locals s.heap m := ⟨hnn, I.bk, Nat.le_trans I.ok.bsz I.ok.above⟩
  refine PySem.W.cmp_ofEq (PySem.W.cmp_K (op := .Eq) hr.units0 Fr0 I.ok.mod.kin J (Kx.ty _ _ I.kIn hP) (by unfold notFirst; rw [hn]; simp) hs hf ?_)
  have hd : Vals ([] : List V) ([] : List Value) := .nil
  refine wpAny_mono (run_fn (us := [.ref a, u]) (vs := [.ref a, y]) F hr hb hd hx I (.cons rfl (.cons ry .nil)) (by rw [List.append_nil]; exact q)) (fun r s' hq => ?_) fun _ _ z => z
  obtain ⟨v, H', J', rv, z, rfl, qq⟩ := hq
  obtain rfl : r = Value.bool z := rv
  exact ⟨.bl z, H', J', rfl, qq⟩
/-- == of two dicts of the same two keys -/
def rEqK2 (K : Frag) : R2 := fun x y H Q => ∃ a b k1 k2 x1 x2 y1 y2 b1 b2, x = .ref a ∧ y = .ref b ∧ H a = some (.dK [(k1, x1), (k2, x2)]) ∧ H b = some (.dK [(k1, y1), (k2, y2)]) ∧ k1 ≠ k2 ∧ E1 K H x1 y1 b1 ∧ E1 K H x2 y2 b2 ∧ Q (.bl (b1 && b2)) H
theorem op_eqK2 {K : Frag} (hK : X.K = K) (hu : X.A.units + 128 < cLine) : OpR X (compareOp .Eq) (rEqK2 K) := by
  subst hK
  intro pins s σ H x y v u Q I rx ry h
  obtain ⟨a, b, k1, k2, x1, x2, y1, y2, b1, b2, rfl, rfl, ea, eb, hne, e1, e2, q⟩ := h
  obtain rfl : v = Value.ref a := rx
  obtain rfl : u = Value.ref b := ry
  obtain ⟨_, ya, va, ra, da⟩ := (show ObjOk X.prog X.w H s.heap a (.dK [(k1, x1), (k2, x2)]) from I.hok a _ ea)
  obtain ⟨_, yb, vb, rb, db⟩ := (show ObjOk X.prog X.w H s.heap b (.dK [(k1, y1), (k2, y2)]) from I.hok b _ eb)
  have hu1 : X.A.in1.units + 64 < cLine := by
    show X.A.units + 1 + 64 < cLine
    omega
  have v1 : RelO (some y1) (valueAt vb k1) := by
    have z := rb.val k1
    rwa [valV_pos rfl] at z
  have v2 : RelO (some y2) (valueAt vb k2) := by
    have z := rb.val k2
    rwa [valV_neg hne, valV_pos rfl] at z
  obtain ⟨w1, hw1, rw1⟩ := v1.some_of
  obtain ⟨w2, hw2, rw2⟩ := v2.some_of
  have hits : PySem.W.KeqHits X.A.in1 s vb va (b1 && (b2 && true)) ∧ va.length = vb.length := by
    have hl : va.length = vb.length := ra.length.symm.trans rb.length
    refine ⟨?_, hl⟩
    unfold KV at ra
    cases ra with
    | @cons _ q1 _ _ h1 t1 =>
      cases t1 with
      | @cons _ q2 _ _ h2 t2 =>
        cases t2
        obtain ⟨c1, u1⟩ := q1
        obtain ⟨c2, u2⟩ := q2
        obtain ⟨g1, g2⟩ := h1
        obtain ⟨g3, g4⟩ := h2
        obtain rfl : k1 = c1 := g1
        obtain rfl : k2 = c2 := g3
        exact .hit hw1 (e1.at I hu1 g2 rw1) (.hit hw2 (e2.at I hu1 g4 rw2) .nil)
  refine PySem.W.keq_eq (knd := mixKind X.prog X.w) (r := b1 && (b2 && true)) ya yb da db (by omega) (fun _ => hits.1) ?_
  have e : (va.length == vb.length && (b1 && (b2 && true))) = (b1 && b2) := by
    rw [hits.2, beq_self_eq_true, Bool.true_and, Bool.and_true]
  rw [e]
  exact ⟨.bl (b1 && b2), H, I, rfl, q⟩
theorem ko_inD {K : Frag} (hK : X.K = K) (hu : X.A.units + 65 < cLine) : OpR X (compareOp .In) (rInD K) := by subst hK; exact op_inD hu
theorem ko_notInD {K : Frag} (hK : X.K = K) (hu : X.A.units + 65 < cLine) : OpR X (compareOp .NotIn) (rNotInD K) := by subst hK; exact op_notInD hu
/-- a list's item by a place from 0 on -/
def rGetL (K : Frag) : V → V → Hp → VK → Prop := fun x y H Q => ∃ p xs j v, x = .ref p ∧ y = .int (j : Nat) ∧ SqL K H p xs ∧ xs[j]? = some v ∧ Q v H
theorem get_list {K : Frag} (hK : X.K = K) : PGet X (rGetL K) := by
  subst hK
  intro pins s σ H o i ov iv Q I ro ri h
  obtain ⟨p, xs, j, v, rfl, rfl, hq, he, q⟩ := h
  cases ro
  obtain ⟨t, rfl⟩ := ri
  obtain ⟨its, r, pl, hz⟩ := I.list hq
  obtain ⟨w, ew, rw'⟩ := r.get he
  have hl := r.length
  have hn := line63
  have hj := (List.getElem?_eq_some_iff.mp ew).1
  exact wpAny_getItem_list pl.isList (by omega) (by omega) (by rw [Int.toNat_natCast]; simpa using ew) ⟨v, H, I, rw', q⟩
end
end CH

namespace CH
open PySem PySem.Spec PyProof.Rows L2
/-! ### readings, one a primitive -/
section
variable {K : PySem.W.Frag} {σ : L2.St} {H H1 H2 : Hp} {Q : VK} {D : Ends} {x y z v : V} {ta tb tc te to ti : TE} {t u : TT} {r r' : R2} {g : TG} {A B : Prop} {a p C dx : Addr} {fs : List (Str × V)} {f : Str}
theorem q_seq {t u : TS} (h : t { D with nx := u D } σ H) : tSeq t u D σ H := h
theorem q_next (h : D.nx σ H) : tNext D σ H := h
theorem q_asg (h : te σ H fun x H1 => g x σ H1 D.nx) : tAsg te g D σ H := h
theorem q_drop (h : te σ H fun _ H1 => D.nx σ H1) : tDrop te D σ H := h
theorem q_ret (h : te σ H D.rt) : tRet te D σ H := h
theorem q_retN (h : D.rt .non H) : tRetN D σ H := h
theorem q_if {c : TT} {t u : TS} (h : c σ H fun b H1 => if b = true then t D σ H1 else u D σ H1) : tIfS c t u D σ H := h
theorem q_brk (h : D.bk σ H) : tBreak D σ H := h
theorem q_cont (h : D.ct σ H) : tCont D σ H := h
theorem q_gname {i : Nat} {Q : L2.St → Hp → Prop} (h : Q (σ.set i (some v)) H) : gName i v σ H Q := h
theorem q_gsub {s : V → V → V → Hp → (Hp → Prop) → Prop} {Q : L2.St → Hp → Prop} (h : to σ H fun o H1 => ti σ H1 fun i H2 => s o i v H2 fun H3 => Q σ H3) : gSub to ti s v σ H Q := h
theorem q_gnil {Q : L2.St → Hp → Prop} (h : Q σ H) : gNil [] σ H Q := ⟨rfl, h⟩
theorem q_gcons {t : TG} {u : TGs} {r : List V} {Q : L2.St → Hp → Prop} (h : t v σ H fun σ' H' => u r σ' H' Q) : gCons t u (v :: r) σ H Q := ⟨v, r, rfl, h⟩
theorem q_gtup {n : Nat} {t : TGs} {xs : List V} {Q : L2.St → Hp → Prop} (h1 : SqT K H a xs) (h2 : xs.length = n) (h : t xs σ H Q) : gTup K n t (.ref a) σ H Q := ⟨a, xs, rfl, h1, h2, h⟩
theorem q_var {i : Nat} (e : σ[i]? = some (some v)) (h : Q v H) : tVar i σ H Q := ⟨v, e, h⟩
theorem q_c (h : Q v H) : tC v σ H Q := h
theorem q_op (h : ta σ H fun x H1 => tb σ H1 fun y H2 => r x y H2 Q) : tOp r ta tb σ H Q := h
theorem q_un {r : V → Hp → VK → Prop} (h : ta σ H fun x H1 => r x H1 Q) : tUn r ta σ H Q := h
theorem q_I {c : Int → Int → Prop} {gg : Int → Int → V} {i j : Int} (hc : c i j) (h : Q (gg i j) H) : rI c gg (.int i) (.int j) H Q := ⟨i, j, rfl, rfl, hc, h⟩
theorem q_I0 {gg : Int → Int → V} {i j : Int} (h : Q (gg i j) H) : rI0 gg (.int i) (.int j) H Q := ⟨i, j, rfl, rfl, h⟩
theorem q_U {gg : Int → V} {i : Int} (h : Q (gg i) H) : rU gg (.int i) H Q := ⟨i, rfl, h⟩
theorem q_eqI {i j : Int} (h : Q (.bl (decide (i = j))) H) : rEq (.int i) (.int j) H Q := ⟨rfl, by
  have e : decide (V.int i = V.int j) = decide (i = j) := by simp
  rw [e]; exact h⟩
theorem q_eqS {i j : Str} (h : Q (.bl (decide (i = j))) H) : rEq (.str i) (.str j) H Q := ⟨rfl, by
  have e : decide (V.str i = V.str j) = decide (i = j) := by simp
  rw [e]; exact h⟩
theorem q_eqB {i j : Bool} (h : Q (.bl (decide (i = j))) H) : rEq (.bl i) (.bl j) H Q := ⟨rfl, by
  have e : decide (V.bl i = V.bl j) = decide (i = j) := by simp
  rw [e]; exact h⟩
theorem q_eq0 (h1 : scal x y = true) (h2 : ¬ x = y) (h : Q (.bl false) H) : rEq x y H Q := ⟨h1, by rw [decide_eq_false h2]; exact h⟩
theorem q_neI {i j : Int} (h : Q (.bl (!decide (i = j))) H) : rNe (.int i) (.int j) H Q := ⟨rfl, by
  have e : decide (V.int i = V.int j) = decide (i = j) := by simp
  rw [e]; exact h⟩
theorem q_neS {i j : Str} (h : Q (.bl (!decide (i = j))) H) : rNe (.str i) (.str j) H Q := ⟨rfl, by
  have e : decide (V.str i = V.str j) = decide (i = j) := by simp
  rw [e]; exact h⟩
theorem q_neB {i j : Bool} (h : Q (.bl (!decide (i = j))) H) : rNe (.bl i) (.bl j) H Q := ⟨rfl, by
  have e : decide (V.bl i = V.bl j) = decide (i = j) := by simp
  rw [e]; exact h⟩
theorem q_ne0 (h1 : scal x y = true) (h2 : ¬ x = y) (h : Q (.bl true) H) : rNe x y H Q := ⟨h1, by rw [decide_eq_false h2]; exact h⟩
theorem q_ixL {xs : List V} {i : Int} (h : SqL K H p xs) (ha : atI xs i = some v) (q : Q v H) : rIxL K (.ref p) (.int i) H Q := ⟨p, xs, i, v, rfl, rfl, h, ha, q⟩
theorem q_ixT {xs : List V} {i : Int} (h : SqT K H p xs) (ha : atI xs i = some v) (q : Q v H) : rIxT K (.ref p) (.int i) H Q := ⟨p, xs, i, v, rfl, rfl, h, ha, q⟩
theorem q_ixS {s : Str} {i : Int} {c : Nat} (h : s.length ≤ sizeLine) (ha : atI s.cps.toList i = some c) (q : Q (.str ⟨#[c]⟩) H) : rIxS (.str s) (.int i) H Q := ⟨s, i, c, rfl, rfl, h, ha, q⟩
theorem q_setL {xs : List V} {k : Int} {j : Nat} {Q : Hp → Prop} (h : H p = some (.lst xs)) (hk : ixN xs.length k = some j) (q : Q (upd H p (.lst (xs.set j v)))) : rSetL (.ref p) (.int k) v H Q := ⟨p, xs, k, j, rfl, rfl, h, hk, q⟩
theorem q_test {Q : Bool → Hp → Prop} (h : te σ H fun x H' => ∃ k, x = .bl k ∧ Q k H') : tTest te σ H Q := h
theorem q_B {Q : Bool → Hp → Prop} (h : te σ H fun x H' => ∃ k, x = .bl k ∧ Q k H') : tB te σ H Q := h
theorem q_k {P : Bool → Prop} {b : Bool} (h : P b) : ∃ k, V.bl b = .bl k ∧ P k := ⟨b, rfl, h⟩
theorem q_and {Q : Bool → Hp → Prop} (h : t σ H fun c H1 => if c = true then u σ H1 Q else Q false H1) : tAnd t u σ H Q := h
theorem q_or {Q : Bool → Hp → Prop} (h : t σ H fun c H1 => if c = true then Q true H1 else u σ H1 Q) : tOr t u σ H Q := h
theorem q_not {Q : Bool → Hp → Prop} (h : t σ H fun c H1 => Q (!c) H1) : tNot t σ H Q := h
theorem q_andV (h : ta σ H fun x H1 => ∃ c, x = .bl c ∧ if c = true then tb σ H1 Q else Q (.bl false) H1) : tAndV ta tb σ H Q := h
theorem q_orV (h : ta σ H fun x H1 => ∃ c, x = .bl c ∧ if c = true then Q (.bl true) H1 else tb σ H1 Q) : tOrV ta tb σ H Q := h
theorem q_notV (h : ta σ H fun x H1 => ∃ c, x = .bl c ∧ Q (.bl (!c)) H1) : tNotV ta σ H Q := h
theorem q_ifE (h : t σ H fun c H1 => if c = true then ta σ H1 Q else tb σ H1 Q) : tIf t ta tb σ H Q := h
theorem q_chain (h : ta σ H fun x H1 => tb σ H1 fun y H2 => r x y H2 fun z H3 => ∃ k, z = .bl k ∧ (if k = true then tc σ H3 fun w' H4 => r' y w' H4 Q else Q (.bl false) H3)) : tChain r r' ta tb tc σ H Q := h
theorem q_nil {Q : List V → Hp → Prop} (h : Q [] H) : tNil σ H Q := h
theorem q_cons {tr : TA} {Q : List V → Hp → Prop} (h : ta σ H fun x H1 => tr σ H1 fun xs H2 => Q (x :: xs) H2) : tCons ta tr σ H Q := h
theorem q_cb {r : List V → Hp → VK → Prop} {t : TA} (h : t σ H fun vs H1 => r vs H1 Q) : tCB r t σ H Q := h
theorem q_call {sp : Sp} {dvs : List V} {E : XK} {t : TA} (h : t σ H fun vs H1 => sp (vs ++ dvs) H1 Q E) : tCall sp dvs E t σ H Q := h
theorem q_lst {t : TA} (h : t σ H fun xs H1 => xs.length ≤ sizeLine ∧ ∀ p, H1 p = none → Q (.ref p) (upd H1 p (.lst xs))) : tLst t σ H Q := h
theorem q_tup {t : TA} (h : t σ H fun xs H1 => xs.length ≤ sizeLine ∧ ∀ p, H1 p = none → Q (.ref p) (upd H1 p (.tup xs))) : tTup t σ H Q := h
theorem q_new {P : Prop} {n : Nat} (hn : n ≤ 1000) (h : P) : n ≤ sizeLine ∧ P := ⟨Nat.le_trans hn (by decide), h⟩
theorem q_ift (h : A) : if true = true then A else B := iteT h
theorem q_iff (h : B) : if false = true then A else B := iteF h
theorem q_ifd {P : Prop} [Decidable P] (hp : P) (h : A) : if decide P = true then A else B := by rw [decide_eq_true hp]; exact iteT h
theorem q_ifn {P : Prop} [Decidable P] (hp : ¬ P) (h : B) : if decide P = true then A else B := by rw [decide_eq_false hp]; exact iteF h
theorem q_ifs {b : Bool} (h1 : b = true → A) (h2 : b = false → B) : if b = true then A else B := by
  cases b with
  | true => exact iteT (h1 rfl)
  | false => exact iteF (h2 rfl)
theorem q_ifx {P : Prop} [Decidable P] (h1 : P → A) (h2 : ¬ P → B) : if decide P = true then A else B := by
  by_cases h : P
  · rw [decide_eq_true h]; exact iteT (h1 h)
  · rw [decide_eq_false h]; exact iteF (h2 h)
theorem q_fld (h : ta σ H fun x H1 => ∃ a C dx fs v, x = .ref a ∧ H1 a = some (.ins C dx fs) ∧ Cls K C ∧ NoAttr K C f ∧ fs.lookup f = some v ∧ Q v H1) : tFld K ta f σ H Q := h
theorem q_sl {rr : V → Option Int → Option Int → Hp → VK → Prop} {tl th : TO} (h : te σ H fun x H1 => tl σ H1 fun l H2 => th σ H2 fun u H3 => rr x l u H3 Q) : tSl rr te tl th σ H Q := h
theorem q_nopart {Q : Option Int → Hp → Prop} (h : Q none H) : tNoPart σ H Q := h
theorem q_part {Q : Option Int → Hp → Prop} (h : te σ H fun x H1 => ∃ i, x = .int i ∧ Q (some i) H1) : tPart te σ H Q := h
theorem q_i {P : Int → Prop} {i : Int} (h : P i) : ∃ k, V.int i = .int k ∧ P k := ⟨i, rfl, h⟩
theorem q_slL {xs : List V} {lo hi : Option Int} (h : SqL K H p xs) (q : ∀ d, H d = none → Q (.ref d) (upd H d (.lst (cutV xs lo hi)))) : rSlL K (.ref p) lo hi H Q := ⟨p, xs, rfl, h, q⟩
theorem q_slT {xs : List V} {lo hi : Option Int} (h : SqT K H p xs) (hn : ¬ (HT.sIx xs.length 0 lo = 0 ∧ HT.sIx xs.length xs.length hi = xs.length)) (q : ∀ d, H d = none → Q (.ref d) (upd H d (.tup (cutV xs lo hi)))) : rSlT K (.ref p) lo hi H Q := ⟨p, xs, rfl, h, hn, q⟩
theorem q_cat {xs ys : List V} {b : Addr} (h : H p = some (.lst xs)) (h' : H b = some (.lst ys)) (hl : xs.length + ys.length ≤ sizeLine) (q : ∀ d, H d = none → Q (.ref d) (upd H d (.lst (xs ++ ys)))) : rCat (.ref p) (.ref b) H Q := ⟨p, b, xs, ys, rfl, rfl, h, h', hl, q⟩
theorem q_rep {xs : List V} {k : Int} (h : H p = some (.lst xs)) (h1 : -(2 ^ 63) ≤ k) (h2 : k < 2 ^ 63) (hl : xs.length * k.toNat ≤ sizeLine) (q : ∀ d, H d = none → Q (.ref d) (upd H d (.lst (List.replicate k.toNat xs).flatten))) : rRep (.ref p) (.int k) H Q := ⟨p, k, xs, rfl, rfl, h, h1, h2, hl, q⟩
theorem q_append {xs : List V} (h : H p = some (.lst xs)) (hl : xs.length < sizeLine) (q : Q .non (upd H p (.lst (xs ++ [y])))) : rAppend (.ref p) [y] H Q := ⟨p, xs, y, rfl, rfl, h, hl, q⟩
theorem q_bm {T : String} {rr : V → List V → Hp → VK → Prop} {t : TA} (h : to σ H fun x H1 => tyV K T x H1 ∧ t σ H1 fun xs H2 => rr x xs H2 Q) : tBM K T rr to t σ H Q := h
theorem q_tyL {xs : List V} {P : Prop} (h : H p = some (.lst xs)) (q : P) : tyV K "list" (.ref p) H ∧ P := ⟨.inl ⟨rfl, _, SqL.of h⟩, q⟩
theorem q_isB {a b : Bool} (q : Q (.bl (decide (a = b))) H) : rIsB (.bl a) (.bl b) H Q := ⟨a, b, rfl, rfl, q⟩
theorem q_notB {a b : Bool} (q : Q (.bl (!decide (a = b))) H) : rNotB (.bl a) (.bl b) H Q := ⟨a, b, rfl, rfl, q⟩
end
/-! ### the same readings under names -/
def rAddStr : R2 := fun x y H Q => ∃ i j, x = .str i ∧ y = .str j ∧ i.length + j.length ≤ sizeLine ∧ Q (.str (i ++ j)) H
def rLtStr : R2 := fun x y H Q => ∃ i j, x = .str i ∧ y = .str j ∧ Q (.bl (decide (i.cps.toList < j.cps.toList))) H
def rLeStr : R2 := fun x y H Q => ∃ i j, x = .str i ∧ y = .str j ∧ Q (.bl (!decide (j.cps.toList < i.cps.toList))) H
def rInSign : R2 := fun x y H Q => ∃ (c : Nat) (z : Str), x = .str ⟨#[c]⟩ ∧ y = .str z ∧ Q (.bl (decide (c ∈ z.cps.toList))) H
def rIsNon : R2 := fun x y H Q => y = .non ∧ Q (.bl (decide (x = .non))) H
def rNotNon : R2 := fun x y H Q => y = .non ∧ Q (.bl (!decide (x = .non))) H
def rLenA (K : PySem.W.Frag) : List V → Hp → VK → Prop := fun xs H Q => ∃ x n, xs = [x] ∧ LenV K x H n ∧ Q (.int n) H
def rMax2 : List V → Hp → VK → Prop := fun xs H Q => ∃ i j, xs = [.int i, .int j] ∧ Q (.int (if j > i then j else i)) H
def rMin2 : List V → Hp → VK → Prop := fun xs H Q => ∃ i j, xs = [.int i, .int j] ∧ Q (.int (if j < i then j else i)) H
def rIntStr : List V → Hp → VK → Prop := fun xs H Q => ∃ a n, xs = [.str a] ∧ PySem.intText? a = some n ∧ a.length ≤ 640 ∧ Q (.int n) H
section
variable {X : Cx}
theorem op_addStr : OpR X (binaryOp .Add) rAddStr := op_add_str
theorem op_ltStr : OpR X (compareOp .Lt) rLtStr := op_lt_str
theorem op_leStr : OpR X (compareOp .LtE) rLeStr := op_le_str
theorem op_inSign : OpR X (compareOp .In) rInSign := op_in_sign
theorem op_isNon : OpR X (compareOp .Is) rIsNon := op_isN
theorem op_notNon : OpR X (compareOp .IsNot) rNotNon := op_notN
theorem call_lenA : CallR X (.builtin "len") (rLenA X.K) := call_len
theorem call_maxA (hc : X.calm = true) : CallR X (.builtin "max") rMax2 := call_max2 hc
theorem call_minA (hc : X.calm = true) : CallR X (.builtin "min") rMin2 := call_min2 hc
theorem call_intStr : CallR X (.type "int") rIntStr := call_int_str
end
section
variable {K : PySem.W.Frag} {H : Hp} {Q : VK} {x v : V} {p : Addr}
theorem q_addStr {i j : Str} (h : i.length + j.length ≤ sizeLine) (q : Q (.str (i ++ j)) H) : rAddStr (.str i) (.str j) H Q := ⟨i, j, rfl, rfl, h, q⟩
theorem q_ltStr {i j : Str} (q : Q (.bl (decide (i.cps.toList < j.cps.toList))) H) : rLtStr (.str i) (.str j) H Q := ⟨i, j, rfl, rfl, q⟩
theorem q_leStr {i j : Str} (q : Q (.bl (!decide (j.cps.toList < i.cps.toList))) H) : rLeStr (.str i) (.str j) H Q := ⟨i, j, rfl, rfl, q⟩
theorem q_inSign {c : Nat} {z : Str} (q : Q (.bl (decide (c ∈ z.cps.toList))) H) : rInSign (.str ⟨#[c]⟩) (.str z) H Q := ⟨c, z, rfl, rfl, q⟩
theorem q_isNonT (q : Q (.bl true) H) : rIsNon .non .non H Q := ⟨rfl, by rw [decide_eq_true rfl]; exact q⟩
theorem q_isNonF (h : ¬ x = .non) (q : Q (.bl false) H) : rIsNon x .non H Q := ⟨rfl, by rw [decide_eq_false h]; exact q⟩
theorem q_notNonF (q : Q (.bl false) H) : rNotNon .non .non H Q := ⟨rfl, by rw [decide_eq_true rfl]; exact q⟩
theorem q_notNonT (h : ¬ x = .non) (q : Q (.bl true) H) : rNotNon x .non H Q := ⟨rfl, by rw [decide_eq_false h]; exact q⟩
theorem q_lenS {s : Str} (h : s.length ≤ sizeLine) (q : Q (.int (s.length : Nat)) H) : rLenA K [.str s] H Q := ⟨_, _, rfl, ⟨h, rfl⟩, q⟩
theorem q_lenL {xs : List V} (h : SqL K H p xs) (q : Q (.int (xs.length : Nat)) H) : rLenA K [.ref p] H Q := ⟨_, _, rfl, .inl ⟨xs, h, rfl⟩, q⟩
theorem q_lenT {xs : List V} (h : SqT K H p xs) (q : Q (.int (xs.length : Nat)) H) : rLenA K [.ref p] H Q := ⟨_, _, rfl, .inr ⟨xs, h, rfl⟩, q⟩
theorem q_max2 {i j : Int} (q : Q (.int (max i j)) H) : rMax2 [.int i, .int j] H Q := ⟨i, j, rfl, by
  have e : (if j > i then j else i) = max i j := by omega
  rw [e]; exact q⟩
theorem q_min2 {i j : Int} (q : Q (.int (min i j)) H) : rMin2 [.int i, .int j] H Q := ⟨i, j, rfl, by
  have e : (if j < i then j else i) = min i j := by omega
  rw [e]; exact q⟩
theorem q_intStr {a : Str} {n : Int} (h : PySem.intText? a = some n) (hl : a.length ≤ 640) (q : Q (.int n) H) : rIntStr [.str a] H Q := ⟨a, n, rfl, h, hl, q⟩
theorem q_isi {c : V} {t u : Value} {b : Bool} (hc : ClsV c u) (ht : TyX K H x t) (hk : PySem.W.kitOne K t u = some b) (q : Q (.bl b) H) : rIsi K [x, c] H Q := ⟨x, c, t, u, b, rfl, hc, ht, hk, q⟩
end
theorem line_of {n : Nat} (h : n ≤ 16777216) : n ≤ sizeLine := by rw [sizeLine_eq]; exact h
theorem line_lt {n : Nat} (h : n < 16777216) : n < sizeLine := by rw [sizeLine_eq]; exact h
section
variable {K : PySem.W.Frag} {x qual : Str} {params : Arguments} {body : List Stmt} {scope : Scope} {dvs : List V} {f : Addr} {fd : FuncData} {ps : List Str}
/-- f(e, .., k = v, ..): all that have no value by their places are told by their names, in the parameters' order -/
theorem _root_.L2.FunD.kbinds1 (F : FunD K x qual params body scope dvs [] f fd) (n : Nat) (ks : List Str) (hd : dvs ≠ [])
    (h : ∀ (T : Addr) (kV doc pm : Value) (an : Option Addr) (cdv ct : Value) (us its ws : List Value), us.length = n → its.length = dvs.length → ws.length = ks.length →
      ∃ k, bindArgs (PySem.W.fnOf x qual params body scope (.ref T) kV doc pm an cdv ct) ⟨us, ks.zip ws⟩ = seqItems? (.ref T) >>= k ∧ k (some its.toArray) = pure (ps.zip (us ++ ws))) :
    KBn K fd ps n ks (fun us ws => us ++ ws) (fun vs zs => vs ++ zs) := by
  obtain ⟨oc, od, dV, kV, doc, pm, an, cdv, ct, osl, rfl, lk, hcd, hD, hK⟩ := F.ex
  rcases hD with ⟨e, _⟩ | ⟨_, T, o, its, m, rfl, lT, oT, rT⟩
  · exact absurd e hd
  · refine ⟨fun s us ws X l1 l2 => ?_, fun r1 r2 => r1.append r2⟩
    obtain ⟨k, e1, e2⟩ := h T kV doc pm an cdv ct us its ws l1 rT.length.symm l2
    refine BindsTo.of_looks fun M => ?_
    rw [e1]
    exact looks_items X lT oT (.of_pure e2)
end
section
variable {K : PySem.W.Frag} {σ : L2.St} {H : Hp} {Q : VK} {a C : Addr}
theorem q_callN {n m : Nat} {sp : Sp} {gV : List V → List V → List V} {E : XK} {t tk : TA} (h : t σ H fun vs H1 => tk σ H1 fun zs H2 => vs.length = n ∧ zs.length = m ∧ sp (gV vs zs) H2 Q E) : tCallN n m sp gV E t tk σ H Q := h
theorem q_2 {a b c d : Nat} {P : Prop} (h1 : a = b) (h2 : c = d) (h : P) : a = b ∧ c = d ∧ P := ⟨h1, h2, h⟩
theorem q_make {sp : Sp} {dvs : List V} {E : XK} {t : TA} (h : t σ H fun vs H1 => ∀ x dx, H1 x = none → H1 dx = none → dx ≠ x → sp (.ref x :: (vs ++ dvs)) (upd (upd H1 dx (.own x)) x (.ins C dx [])) (fun v H2 => v = .non ∧ Q (.ref x) H2) E) : tMake C sp dvs E t σ H Q := h
theorem q_slS {z : Str} {lo hi : Option Int} (h : z.length ≤ sizeLine) (q : Q (.str (cutS z lo hi)) H) : rSlS (.str z) lo hi H Q := ⟨z, rfl, h, q⟩
end
section
variable {K : PySem.W.Frag} {σ : L2.St} {H : Hp} {D : Ends}
theorem q_for {wi : TI} {g : TG} {tb : TS} (h : wi σ H fun J H1 => ∃ W : Nat → Nat → L2.St → Hp → Prop, (∃ m, W 0 m σ H1) ∧ ∀ i m σ H, W i m σ H →
  (J.stop i H ∧ D.nx σ H) ∨ (J.go i H ∧ ∃ N : L2.St → Hp → Prop, (∀ σ' H', N σ' H' → ∃ m', m' < m ∧ W (i + 1) m' σ' H') ∧ ∀ x H', J.yld i H x H' → g x σ H' fun σ2 H2 => tb { D with nx := N, ct := N, bk := D.nx } σ2 H2)) : tFor wi g tb D σ H := h
theorem q_rng1 {ta : TA} {R : It → Hp → Prop} (h : ta σ H fun vs H1 => ∃ j : Int, vs = [.int j] ∧ -(2 ^ 62) ≤ j ∧ j < 2 ^ 62 ∧ R (Itr 0 j.toNat) H1) : iRng1 ta σ H R := h
theorem q_rng1b {j : Int} {R : Int → Prop} (h1 : -(2 ^ 62) ≤ j) (h2 : j < 2 ^ 62) (h : R j) : ∃ k : Int, [V.int j] = [.int k] ∧ -(2 ^ 62) ≤ k ∧ k < 2 ^ 62 ∧ R k := ⟨j, rfl, h1, h2, h⟩
theorem q_iList {tl : TE} {R : It → Hp → Prop} (h : tl σ H fun x H1 => ∃ a, x = .ref a ∧ (∃ xs, SqL K H1 a xs) ∧ R (Itl K a) H1) : iList K tl σ H R := h
theorem q_iListb {a : Addr} {H : Hp} {xs : List V} {R : Addr → Prop} (h1 : SqL K H a xs) (h : R a) : ∃ b, V.ref a = .ref b ∧ (∃ xs, SqL K H b xs) ∧ R b := ⟨a, rfl, ⟨xs, h1⟩, h⟩
theorem q_iStr {te : TE} {R : It → Hp → Prop} (h : te σ H fun v H1 => ∃ x, v = .str x ∧ R (Its x) H1) : iStr te σ H R := h
theorem q_iStrb {s : Str} {R : Str → Prop} (h : R s) : ∃ x, V.str s = .str x ∧ R x := ⟨s, rfl, h⟩
theorem q_lc {wi : TI} {g : TG} {tt : TT} {te : TE} {vs : List Nat} {Q : VK} (h : wi σ H fun J H1 => ∀ D, H1 D = none → ∃ W : Nat → Nat → Hp → Prop, (∃ m, W 0 m (upd H1 D (.lst []))) ∧ ∀ i m H, W i m H →
  (J.stop i H ∧ Q (.ref D) H) ∨ (J.go i H ∧ ∃ Nx : Hp → Prop, (∀ H', Nx H' → ∃ m', m' < m ∧ W (i + 1) m' H') ∧ ∀ x H', J.yld i H x H' → g x (wipe σ vs) H' fun σ2 H2 => wipe σ2 vs = wipe σ vs ∧ tt σ2 H2 fun b H3 =>
    if b = true then te σ2 H3 fun y H4 => ∃ acc, H4 D = some (.lst acc) ∧ acc.length < sizeLine ∧ Nx (upd H4 D (.lst (acc ++ [y]))) else Nx H3)) : tLc wi g tt te vs σ H Q := h
end

section
variable {σ : L2.St} {H : Hp} {Q : VK} {C : Addr} {m : Str}
theorem q_call0 {sp : Sp} {E : XK} {t : TA} (h : t σ H fun vs H1 => sp vs H1 Q E) : tCall sp [] E t σ H Q := by
  have e : (fun vs H1 => sp (vs ++ []) H1 Q E) = fun vs H1 => sp vs H1 Q E := by
    funext vs H1
    rw [List.append_nil]
  show t σ H fun vs H1 => sp (vs ++ []) H1 Q E
  rw [e]
  exact h
theorem q_make0 {sp : Sp} {E : XK} {t : TA} (h : t σ H fun vs H1 => ∀ x dx, H1 x = none → H1 dx = none → dx ≠ x → sp (.ref x :: vs) (upd (upd H1 dx (.own x)) x (.ins C dx [])) (fun v H2 => v = .non ∧ Q (.ref x) H2) E) : tMake C sp [] E t σ H Q := by
  have e : (fun vs H1 => ∀ x dx, H1 x = none → H1 dx = none → dx ≠ x → sp (.ref x :: (vs ++ [])) (upd (upd H1 dx (.own x)) x (.ins C dx [])) (fun v H2 => v = .non ∧ Q (.ref x) H2) E) = fun vs H1 => ∀ x dx, H1 x = none → H1 dx = none → dx ≠ x → sp (.ref x :: vs) (upd (upd H1 dx (.own x)) x (.ins C dx [])) (fun v H2 => v = .non ∧ Q (.ref x) H2) E := by
    funext vs H1
    rw [List.append_nil]
  show t σ H fun vs H1 => ∀ x dx, H1 x = none → H1 dx = none → dx ≠ x → sp (.ref x :: (vs ++ [])) (upd (upd H1 dx (.own x)) x (.ins C dx [])) (fun v H2 => v = .non ∧ Q (.ref x) H2) E
  rw [e]
  exact h
theorem q_meth0 {sp : Sp} {E : XK} {ta : TE} {t : TA} (h : ta σ H fun x H1 => ∃ a dx fs, x = .ref a ∧ H1 a = some (.ins C dx fs) ∧ fs.lookup m = none ∧ t σ H1 fun vs H2 => sp (x :: vs) H2 Q E) : tMeth C m sp [] E ta t σ H Q := by
  have e : ∀ x, (fun vs H2 => sp (x :: (vs ++ [])) H2 Q E) = fun vs H2 => sp (x :: vs) H2 Q E := fun x => by
    funext vs H1
    rw [List.append_nil]
  show ta σ H fun x H1 => ∃ a dx fs, x = .ref a ∧ H1 a = some (.ins C dx fs) ∧ fs.lookup m = none ∧ t σ H1 fun vs H2 => sp (x :: (vs ++ [])) H2 Q E
  simp only [e]
  exact h
end
/-! ### heaps that grow; comprehensions whose elements change nothing -/
theorem _root_.L2.Same.new {H : Hp} {p : Addr} {o : HO} (h : H p = none) : Same H (upd H p o) := fun b u e => by
  rw [upd_ne (ne_of_none e h)]
  exact e
theorem _root_.L2.Same.snew {H H' : Hp} {p : Addr} {o : HO} (s : Same H H') (h : H p = none) : Same H (upd H' p o) := fun b u e => by
  rw [upd_ne (ne_of_none e h)]
  exact s b u e
theorem _root_.L2.Same.seqT {K : PySem.W.Frag} {H H' : Hp} {a : Addr} {xs : List V} (e : Same H H') (h : SqT K H a xs) : SqT K H' a xs := by
  rcases h with (h | ⟨o, h⟩) | h
  · exact .inl (.inl (e _ _ h))
  · exact .inl (.inr ⟨o, e _ _ h⟩)
  · exact .inr h
theorem wipe_set {σ : L2.St} {i : Nat} {x : Option V} : wipe ((wipe σ [i]).set i x) [i] = wipe σ [i] := by
  show ((σ.set i none).set i x).set i none = σ.set i none
  rw [List.set_set, List.set_set]
theorem lc_grow {J : It} {n : Nat} {G : Hp → Prop} {Y : Nat → Hp → V → Hp → Prop} (w : Walk J n G Y) {g : TG} {te : TE} {vs : List Nat} {σ : L2.St} {H1 : Hp} {D : Addr} {Qd : Hp → Prop} (ys : List V) (hy : ys.length = n) (hn : n ≤ 100000)
    (hG : ∀ H', Same H1 H' → G H') (hD : H1 D = none)
    (he : ∀ k x H2 H' (R : VK), k < n → Same H1 H2 → Y k H2 x H' → (∀ y H4, ys[k]? = some y → Same H2 H4 → R y H4) → g x (wipe σ vs) H' fun σ2 H3 => wipe σ2 vs = wipe σ vs ∧ te σ2 H3 R)
    (hd : ∀ H', Same H1 H' → H' D = some (.lst ys) → Qd H') (gm : ∀ x H' Q Q', (∀ σ H, Q σ H → Q' σ H) → g x (wipe σ vs) H' Q → g x (wipe σ vs) H' Q') :
    ∃ W : Nat → Nat → Hp → Prop, (∃ m, W 0 m (upd H1 D (.lst []))) ∧ ∀ i m H, W i m H →
      (J.stop i H ∧ Qd H) ∨ (J.go i H ∧ ∃ Nx : Hp → Prop, (∀ H', Nx H' → ∃ m', m' < m ∧ W (i + 1) m' H') ∧ ∀ x H', J.yld i H x H' → g x (wipe σ vs) H' fun σ2 H2 => wipe σ2 vs = wipe σ vs ∧ tYes σ2 H2 fun b H3 =>
        if b = true then te σ2 H3 fun y H4 => ∃ acc, H4 D = some (.lst acc) ∧ acc.length < sizeLine ∧ Nx (upd H4 D (.lst (acc ++ [y]))) else Nx H3) := by
  refine lc_it w (fun k H' => Same H1 H' ∧ H' D = some (.lst (ys.take k))) ⟨Same.new hD, by rw [upd_same]; rfl⟩ (fun i H' _ h => hG H' h.1) ?_ ?_
  · rintro k x H2 H' hk ⟨s2, d2⟩ y
    refine gm _ _ _ _ (fun σ2 H3 q => ⟨q.1, by unfold tYes; exact iteT q.2⟩) (he k x H2 H' _ hk s2 y fun v H4 e s4 => ?_)
    have hk' : k < ys.length := by omega
    refine ⟨ys.take k, s4 _ _ d2, ?_, (s2.trans s4).snew hD, ?_⟩
    · rw [List.length_take]
      exact line_lt (by omega)
    · rw [upd_same, List.take_add_one, e]
      rfl
  · rintro H' ⟨s2, d2⟩
    refine hd H' s2 ?_
    rw [d2, List.take_of_length_le (by omega)]
/-- over the signs of a text, each element a function of the sign -/
theorem lc_signs {z : Str} {i : Nat} {te : TE} {σ : L2.St} {H1 : Hp} {D : Addr} {Qd : Hp → Prop} (f : Nat → V) (hn : z.length ≤ 100000) (hD : H1 D = none)
    (he : ∀ c H2 (R : VK), Same H1 H2 → (∀ H4, Same H2 H4 → R (f c) H4) → te ((wipe σ [i]).set i (some (.str ⟨#[c]⟩))) H2 R)
    (hd : ∀ H', Same H1 H' → H' D = some (.lst (z.cps.toList.map f)) → Qd H') :
    ∃ W : Nat → Nat → Hp → Prop, (∃ m, W 0 m (upd H1 D (.lst []))) ∧ ∀ k m H, W k m H →
      ((Its z).stop k H ∧ Qd H) ∨ ((Its z).go k H ∧ ∃ Nx : Hp → Prop, (∀ H', Nx H' → ∃ m', m' < m ∧ W (k + 1) m' H') ∧ ∀ x H', (Its z).yld k H x H' → gName i x (wipe σ [i]) H' fun σ2 H2 => wipe σ2 [i] = wipe σ [i] ∧ tYes σ2 H2 fun b H3 =>
        if b = true then te σ2 H3 fun y H4 => ∃ acc, H4 D = some (.lst acc) ∧ acc.length < sizeLine ∧ Nx (upd H4 D (.lst (acc ++ [y]))) else Nx H3) := by
  refine lc_grow walk_str (z.cps.toList.map f) (by simp) hn (fun _ _ => trivial) hD ?_ hd (fun _ _ _ _ q h => q _ _ h)
  rintro k x H2 H' R hk s2 ⟨rfl, c, hc, rfl⟩ hR
  refine ⟨wipe_set, he c H' R s2 fun H4 s4 => hR _ _ ?_ s4⟩
  rw [List.getElem?_map]
  have e : z.cps.toList[k]? = some c := by simpa using hc
  rw [e]
  rfl
theorem q_ifN {A B : Prop} {b : Bool} (h : if b = true then B else A) : if (!b) = true then A else B := by
  cases b <;> exact h
section
variable {K : PySem.W.Frag}
theorem kt_NoneType_int : PySem.W.kitOne K (.type "NoneType") (.type "int") = some false := kit_ty (by decide +kernel)
theorem kt_NoneType_str : PySem.W.kitOne K (.type "NoneType") (.type "str") = some false := kit_ty (by decide +kernel)
theorem kt_NoneType_bool : PySem.W.kitOne K (.type "NoneType") (.type "bool") = some false := kit_ty (by decide +kernel)
theorem kt_NoneType_list : PySem.W.kitOne K (.type "NoneType") (.type "list") = some false := kit_ty (by decide +kernel)
theorem kt_NoneType_tuple : PySem.W.kitOne K (.type "NoneType") (.type "tuple") = some false := kit_ty (by decide +kernel)
theorem kt_NoneType_dict : PySem.W.kitOne K (.type "NoneType") (.type "dict") = some false := kit_ty (by decide +kernel)
theorem kt_bool_int : PySem.W.kitOne K (.type "bool") (.type "int") = some true := kit_ty (by decide +kernel)
theorem kt_bool_str : PySem.W.kitOne K (.type "bool") (.type "str") = some false := kit_ty (by decide +kernel)
theorem kt_bool_bool : PySem.W.kitOne K (.type "bool") (.type "bool") = some true := kit_ty (by decide +kernel)
theorem kt_bool_list : PySem.W.kitOne K (.type "bool") (.type "list") = some false := kit_ty (by decide +kernel)
theorem kt_bool_tuple : PySem.W.kitOne K (.type "bool") (.type "tuple") = some false := kit_ty (by decide +kernel)
theorem kt_bool_dict : PySem.W.kitOne K (.type "bool") (.type "dict") = some false := kit_ty (by decide +kernel)
theorem kt_int_int : PySem.W.kitOne K (.type "int") (.type "int") = some true := kit_ty (by decide +kernel)
theorem kt_int_str : PySem.W.kitOne K (.type "int") (.type "str") = some false := kit_ty (by decide +kernel)
theorem kt_int_bool : PySem.W.kitOne K (.type "int") (.type "bool") = some false := kit_ty (by decide +kernel)
theorem kt_int_list : PySem.W.kitOne K (.type "int") (.type "list") = some false := kit_ty (by decide +kernel)
theorem kt_int_tuple : PySem.W.kitOne K (.type "int") (.type "tuple") = some false := kit_ty (by decide +kernel)
theorem kt_int_dict : PySem.W.kitOne K (.type "int") (.type "dict") = some false := kit_ty (by decide +kernel)
theorem kt_str_int : PySem.W.kitOne K (.type "str") (.type "int") = some false := kit_ty (by decide +kernel)
theorem kt_str_str : PySem.W.kitOne K (.type "str") (.type "str") = some true := kit_ty (by decide +kernel)
theorem kt_str_bool : PySem.W.kitOne K (.type "str") (.type "bool") = some false := kit_ty (by decide +kernel)
theorem kt_str_list : PySem.W.kitOne K (.type "str") (.type "list") = some false := kit_ty (by decide +kernel)
theorem kt_str_tuple : PySem.W.kitOne K (.type "str") (.type "tuple") = some false := kit_ty (by decide +kernel)
theorem kt_str_dict : PySem.W.kitOne K (.type "str") (.type "dict") = some false := kit_ty (by decide +kernel)
theorem kt_list_int : PySem.W.kitOne K (.type "list") (.type "int") = some false := kit_ty (by decide +kernel)
theorem kt_list_str : PySem.W.kitOne K (.type "list") (.type "str") = some false := kit_ty (by decide +kernel)
theorem kt_list_bool : PySem.W.kitOne K (.type "list") (.type "bool") = some false := kit_ty (by decide +kernel)
theorem kt_list_list : PySem.W.kitOne K (.type "list") (.type "list") = some true := kit_ty (by decide +kernel)
theorem kt_list_tuple : PySem.W.kitOne K (.type "list") (.type "tuple") = some false := kit_ty (by decide +kernel)
theorem kt_list_dict : PySem.W.kitOne K (.type "list") (.type "dict") = some false := kit_ty (by decide +kernel)
theorem kt_tuple_int : PySem.W.kitOne K (.type "tuple") (.type "int") = some false := kit_ty (by decide +kernel)
theorem kt_tuple_str : PySem.W.kitOne K (.type "tuple") (.type "str") = some false := kit_ty (by decide +kernel)
theorem kt_tuple_bool : PySem.W.kitOne K (.type "tuple") (.type "bool") = some false := kit_ty (by decide +kernel)
theorem kt_tuple_list : PySem.W.kitOne K (.type "tuple") (.type "list") = some false := kit_ty (by decide +kernel)
theorem kt_tuple_tuple : PySem.W.kitOne K (.type "tuple") (.type "tuple") = some true := kit_ty (by decide +kernel)
theorem kt_tuple_dict : PySem.W.kitOne K (.type "tuple") (.type "dict") = some false := kit_ty (by decide +kernel)
theorem kt_dict_int : PySem.W.kitOne K (.type "dict") (.type "int") = some false := kit_ty (by decide +kernel)
theorem kt_dict_str : PySem.W.kitOne K (.type "dict") (.type "str") = some false := kit_ty (by decide +kernel)
theorem kt_dict_bool : PySem.W.kitOne K (.type "dict") (.type "bool") = some false := kit_ty (by decide +kernel)
theorem kt_dict_list : PySem.W.kitOne K (.type "dict") (.type "list") = some false := kit_ty (by decide +kernel)
theorem kt_dict_tuple : PySem.W.kitOne K (.type "dict") (.type "tuple") = some false := kit_ty (by decide +kernel)
theorem kt_dict_dict : PySem.W.kitOne K (.type "dict") (.type "dict") = some true := kit_ty (by decide +kernel)
end
theorem R_of {α : Type} {R : α → Hp → Prop} {v v' : α} {H : Hp} (h : R v H) (e : v = v') : R v' H := e ▸ h
section
variable {K : PySem.W.Frag} {H : Hp} {Q : VK}
theorem q_leStr1 {i j : Str} {a b : Nat} (ha : i.cps.toList = [a]) (hb : j.cps.toList = [b]) (q : Q (.bl (decide (a ≤ b))) H) : rLeStr (.str i) (.str j) H Q := ⟨i, j, rfl, rfl, by
  rw [ha, hb]
  have e : (!decide ([b] < [a])) = decide (a ≤ b) := by
    by_cases h : a ≤ b
    · rw [decide_eq_true h, decide_eq_false]
      · rfl
      · intro z
        have := List.cons_lt_cons_iff.mp z
        simp at this
        omega
    · rw [decide_eq_false h, decide_eq_true]
      · rfl
      · exact List.cons_lt_cons_iff.mpr (.inl (by omega))
  rw [e]
  exact q⟩
theorem q_all {a : Addr} {bs : List Bool} (h : SqL K H a (bs.map V.bl)) (q : Q (.bl (bs.all id)) H) : rAll K [.ref a] H Q := ⟨a, bs, rfl, h, q⟩
theorem q_any {a : Addr} {bs : List Bool} (h : SqL K H a (bs.map V.bl)) (q : Q (.bl (bs.any id)) H) : rAny K [.ref a] H Q := ⟨a, bs, rfl, h, q⟩
end
theorem lc_signsB {z : Str} {i : Nat} {te : TE} {σ : L2.St} {H1 : Hp} {D : Addr} {Qd : Hp → Prop} (f : Nat → Bool) (hn : z.length ≤ 100000) (hD : H1 D = none)
    (he : ∀ c H2 (R : VK), Same H1 H2 → (∀ H4, Same H2 H4 → R (.bl (f c)) H4) → te ((wipe σ [i]).set i (some (.str ⟨#[c]⟩))) H2 R)
    (hd : ∀ H', Same H1 H' → H' D = some (.lst ((z.cps.toList.map f).map V.bl)) → Qd H') :
    ∃ W : Nat → Nat → Hp → Prop, (∃ m, W 0 m (upd H1 D (.lst []))) ∧ ∀ k m H, W k m H →
      ((Its z).stop k H ∧ Qd H) ∨ ((Its z).go k H ∧ ∃ Nx : Hp → Prop, (∀ H', Nx H' → ∃ m', m' < m ∧ W (k + 1) m' H') ∧ ∀ x H', (Its z).yld k H x H' → gName i x (wipe σ [i]) H' fun σ2 H2 => wipe σ2 [i] = wipe σ [i] ∧ tYes σ2 H2 fun b H3 =>
        if b = true then te σ2 H3 fun y H4 => ∃ acc, H4 D = some (.lst acc) ∧ acc.length < sizeLine ∧ Nx (upd H4 D (.lst (acc ++ [y]))) else Nx H3) :=
  lc_signs (fun c => .bl (f c)) hn hD he fun H' s e => hd H' s (by rw [e, List.map_map]; rfl)
theorem at_ints (xs : List Int) (P : Int → Prop) {i : Int} (hP : ∀ x ∈ xs, P x) (h0 : 0 ≤ i) (h1 : i < xs.length) : ∃ m, atI (xs.map V.int) i = some (V.int m) ∧ P m := by
  obtain ⟨j, rfl⟩ := Int.eq_ofNat_of_zero_le h0
  have hj : j < xs.length := by omega
  refine ⟨xs[j], atI_nat (by simp [hj]), hP _ (List.getElem_mem hj)⟩
theorem at_ex {α : Type} {xs : List α} {i : Int} (h0 : 0 ≤ i) (h1 : i < xs.length) : ∃ c, atI xs i = some c := by
  obtain ⟨j, rfl⟩ := Int.eq_ofNat_of_zero_le h0
  have hj : j < xs.length := by omega
  exact ⟨xs[j], atI_nat (by simp [hj])⟩
section
variable {K : PySem.W.Frag} {H : Hp} {Q : VK} {x y : V}
theorem q_eqD {d e : PyData} (hd : Dp K H x d) (he : Dp K H y e) (sd : SeqAt.shaped d = true) (se : SeqAt.shaped e = true) (q : Q (.bl (PyData.eqv d e)) H) : rEqD K x y H Q := ⟨d, e, hd, he, sd, se, q⟩
theorem q_neD {d e : PyData} (hd : Dp K H x d) (he : Dp K H y e) (sd : SeqAt.shaped d = true) (se : SeqAt.shaped e = true) (q : Q (.bl (!PyData.eqv d e)) H) : rNeD K x y H Q := ⟨d, e, hd, he, sd, se, q⟩
end
theorem cs_0 : (Str.ofString "0").cps.toList = [48] := by decide +kernel
theorem cs_9 : (Str.ofString "9").cps.toList = [57] := by decide +kernel
theorem cs_a : (Str.ofString "a").cps.toList = [97] := by decide +kernel
theorem cs_z : (Str.ofString "z").cps.toList = [122] := by decide +kernel
theorem str_one {c d : Nat} {s : Str} (h : s.cps.toList = [d]) : ((⟨#[c]⟩ : Str) = s) ↔ c = d := by
  constructor
  · intro e
    rw [← e] at h
    simpa using h
  · intro e
    subst e
    obtain ⟨l⟩ := s
    congr 1
    exact Array.ext' h.symm
theorem str_len (s : Str) : s.cps.toList.length = s.length := Array.length_toList
theorem in_az (c : Nat) : decide (c ∈ (Str.ofString "abcdefghijklmnopqrstuvwxyz").cps.toList) = (decide (97 ≤ c) && decide (c ≤ 122)) := by
  have e : (Str.ofString "abcdefghijklmnopqrstuvwxyz").cps.toList = List.range' 97 26 := by decide +kernel
  rw [e]
  by_cases h : c ∈ List.range' 97 26
  · rw [decide_eq_true h]
    have := List.mem_range'_1.mp h
    simp
    omega
  · rw [decide_eq_false h]
    have h' : ¬ (97 ≤ c ∧ c < 97 + 26) := fun z => h (List.mem_range'_1.mpr z)
    symm
    simp
    omega
theorem in_09 (c : Nat) : decide (c ∈ (Str.ofString "0123456789").cps.toList) = (decide (48 ≤ c) && decide (c ≤ 57)) := by
  have e : (Str.ofString "0123456789").cps.toList = List.range' 48 10 := by decide +kernel
  rw [e]
  by_cases h : c ∈ List.range' 48 10
  · rw [decide_eq_true h]
    have := List.mem_range'_1.mp h
    simp
    omega
  · rw [decide_eq_false h]
    have h' : ¬ (48 ≤ c ∧ c < 48 + 10) := fun z => h (List.mem_range'_1.mpr z)
    symm
    simp
    omega
theorem len_pos {s : Str} (h : ¬ s = Str.ofString "") : 0 < s.length := by
  rcases Nat.eq_zero_or_pos s.length with e | e
  · exact absurd (by
      obtain ⟨l⟩ := s
      have : l = #[] := Array.eq_empty_of_size_eq_zero e
      rw [this]; rfl) h
  · exact e
/-! ### the rules that read the written part, with it named (a comprehension's block has the same) -/
def rListOf (K : PySem.W.Frag) : List V → Hp → VK → Prop := fun xs H Q => ∃ p ys, xs = [.ref p] ∧ (SqL K H p ys ∨ SqT K H p ys) ∧ ∀ l, H l = none → Q (.ref l) (upd H l (.lst ys))
def rTupleOf (K : PySem.W.Frag) : List V → Hp → VK → Prop := fun xs H Q => ∃ p ys, xs = [.ref p] ∧ ((SqL K H p ys ∧ ∀ l, H l = none → Q (.ref l) (upd H l (.tup ys))) ∨ (SqT K H p ys ∧ Q (.ref p) H))
section
variable {X : Cx} {K : PySem.W.Frag}
theorem kx_isi (hK : X.K = K) : CallR X (.builtin "isinstance") (rIsi K) := by subst hK; exact call_isi
theorem kx_isiT (hK : X.K = K) : CallR X (.builtin "isinstance") (rIsiT K) := by subst hK; exact call_isiT
theorem kx_len (hK : X.K = K) : CallR X (.builtin "len") (rLenA K) := by subst hK; exact call_lenA
theorem kx_all (hK : X.K = K) (hc : X.calm = true) : CallR X (.builtin "all") (rAll K) := by subst hK; exact cr_all hc
theorem kx_any (hK : X.K = K) (hc : X.calm = true) : CallR X (.builtin "any") (rAny K) := by subst hK; exact cr_any hc
theorem kx_sum (hK : X.K = K) (hc : X.calm = true) : CallR X (.builtin "sum") (rSum K) := by subst hK; exact cr_sum hc
theorem kx_max (hK : X.K = K) (hc : X.calm = true) : CallR X (.builtin "max") (rMax K) := by subst hK; exact cr_max hc
theorem kx_min (hK : X.K = K) (hc : X.calm = true) : CallR X (.builtin "min") (rMin K) := by subst hK; exact cr_min hc
theorem kx_list (hK : X.K = K) : CallR X (.type "list") (rListOf K) := by subst hK; exact call_list_of
theorem kx_tuple (hK : X.K = K) : CallR X (.type "tuple") (rTupleOf K) := by subst hK; exact call_tuple_of
theorem ko_eqD (hK : X.K = K) (hu : X.A.units + 64 < cLine) : OpR X (compareOp .Eq) (rEqD K) := by subst hK; exact op_eqD hu
theorem ko_neD (hK : X.K = K) (hu : X.A.units + 64 < cLine) : OpR X (compareOp .NotEq) (rNeD K) := by subst hK; exact op_neD hu
theorem ko_in (hK : X.K = K) : OpR X (compareOp .In) (rIn K false) := by subst hK; exact op_in_seq
theorem ko_notIn (hK : X.K = K) : OpR X (compareOp .NotIn) (rIn K true) := by subst hK; exact op_notIn_seq
theorem ki_list (hK : X.K = K) : IxR X (rIxL K) := by subst hK; exact ix_list
theorem ki_tup (hK : X.K = K) : IxR X (rIxT K) := by subst hK; exact ix_tup
theorem ks_list (hK : X.K = K) : SlR X (rSlL K) := by subst hK; exact sl_list
theorem ks_tup (hK : X.K = K) : SlR X (rSlT K) := by subst hK; exact sl_tup
theorem kp_fld {e : Expr} {ta : TE} {f : Str} {pos : Pos} (hK : X.K = K) (he : PE X e ta) (hb : attributeBase e f X.env (eval e X.env) = eval e X.env) : PE X (.Attribute e f pos) (tFld K ta f) := by subst hK; exact pe_fld he hb
theorem kpi_list {tg e : Expr} {tl : TE} (hK : X.K = K) (he : PE X e tl) : PI X tg e (iList K tl) := by subst hK; exact pi_list he
theorem kpi_tup {tg e : Expr} {tl : TE} (hK : X.K = K) (he : PE X e tl) : PI X tg e (iTup K tl) := by subst hK; exact pi_tup he
end
section
variable {K : PySem.W.Frag} {H : Hp} {Q : VK} {p : Addr}
theorem q_listL {xs : List V} (h : SqL K H p xs) (q : ∀ l, H l = none → Q (.ref l) (upd H l (.lst xs))) : rListOf K [.ref p] H Q := ⟨p, xs, rfl, .inl h, q⟩
theorem q_listT {xs : List V} (h : SqT K H p xs) (q : ∀ l, H l = none → Q (.ref l) (upd H l (.lst xs))) : rListOf K [.ref p] H Q := ⟨p, xs, rfl, .inr h, q⟩
theorem q_tupleL {xs : List V} (h : SqL K H p xs) (q : ∀ l, H l = none → Q (.ref l) (upd H l (.tup xs))) : rTupleOf K [.ref p] H Q := ⟨p, xs, rfl, .inl ⟨h, q⟩⟩
theorem q_tupleT {xs : List V} (h : SqT K H p xs) (q : Q (.ref p) H) : rTupleOf K [.ref p] H Q := ⟨p, xs, rfl, .inr ⟨h, q⟩⟩
theorem q_sum {ns : List Int} (h : SqL K H p (ns.map V.int)) (q : Q (.int ns.sum) H) : rSum K [.ref p] H Q := ⟨p, ns, rfl, h, q⟩
end
section
variable {α : Type} {a b c d e : α} {xs : List α}
theorem at0 : atI (a :: xs) 0 = some a := atI_nat (j := 0) rfl
theorem at1 : atI (a :: b :: xs) 1 = some b := atI_nat (j := 1) rfl
theorem at2 : atI (a :: b :: c :: xs) 2 = some c := atI_nat (j := 2) rfl
theorem at3 : atI (a :: b :: c :: d :: xs) 3 = some d := atI_nat (j := 3) rfl
theorem at4 : atI (a :: b :: c :: d :: e :: xs) 4 = some e := atI_nat (j := 4) rfl
end
/-- forget how the heap came to be: what is known of it goes on -/
theorem abs_q {α : Type} {R : Hp → α → Prop} {H : Hp} {Q : α} (F : Hp → Prop) (h : F H) (k : ∀ H', F H' → R H' Q) : R H Q := k H h
theorem abs_s {R : Hp → Prop} {H : Hp} (F : Hp → Prop) (h : F H) (k : ∀ H', F H' → R H') : R H := k H h
section
variable {K : PySem.W.Frag} {H : Hp} {Q : VK} {x y : V}
theorem q_eqDt {d e : PyData} (hd : Dp K H x d) (he : Dp K H y e) (sd : SeqAt.shaped d = true) (se : SeqAt.shaped e = true) (h : PyData.eqv d e = true) (q : Q (.bl true) H) : rEqD K x y H Q := ⟨d, e, hd, he, sd, se, by rw [h]; exact q⟩
theorem q_neDt {d e : PyData} (hd : Dp K H x d) (he : Dp K H y e) (sd : SeqAt.shaped d = true) (se : SeqAt.shaped e = true) (h : PyData.eqv d e = true) (q : Q (.bl false) H) : rNeD K x y H Q := ⟨d, e, hd, he, sd, se, by rw [h]; exact q⟩
end
/-- over a list that stays, each element a function of the item -/
theorem lc_items {K : PySem.W.Frag} {a : Addr} {xs : List V} {i : Nat} {te : TE} {σ : L2.St} {H1 : Hp} {D : Addr} {Qd : Hp → Prop} (f : V → V) (hl : SqL K H1 a xs) (hn : xs.length ≤ 100000) (hD : H1 D = none)
    (he : ∀ x ∈ xs, ∀ H2 (R : VK), Same H1 H2 → (∀ H4, Same H2 H4 → R (f x) H4) → te ((wipe σ [i]).set i (some x)) H2 R)
    (hd : ∀ H', Same H1 H' → H' D = some (.lst (xs.map f)) → Qd H') :
    ∃ W : Nat → Nat → Hp → Prop, (∃ m, W 0 m (upd H1 D (.lst []))) ∧ ∀ k m H, W k m H →
      ((Itl K a).stop k H ∧ Qd H) ∨ ((Itl K a).go k H ∧ ∃ Nx : Hp → Prop, (∀ H', Nx H' → ∃ m', m' < m ∧ W (k + 1) m' H') ∧ ∀ x H', (Itl K a).yld k H x H' → gName i x (wipe σ [i]) H' fun σ2 H2 => wipe σ2 [i] = wipe σ [i] ∧ tYes σ2 H2 fun b H3 =>
        if b = true then te σ2 H3 fun y H4 => ∃ acc, H4 D = some (.lst acc) ∧ acc.length < sizeLine ∧ Nx (upd H4 D (.lst (acc ++ [y]))) else Nx H3) := by
  refine lc_grow walk_list (xs.map f) (by simp) hn (fun _ s => s.seq hl) hD ?_ hd (fun _ _ _ _ q h => q _ _ h)
  rintro k x H2 H' R hk s2 ⟨rfl, hx⟩ hR
  refine ⟨wipe_set, he x (List.mem_of_getElem? hx) H' R s2 fun H4 s4 => hR _ _ ?_ s4⟩
  rw [List.getElem?_map, hx]
  rfl
theorem lc_itemsB {K : PySem.W.Frag} {a : Addr} {xs : List V} {i : Nat} {te : TE} {σ : L2.St} {H1 : Hp} {D : Addr} {Qd : Hp → Prop} (f : V → Bool) (hl : SqL K H1 a xs) (hn : xs.length ≤ 100000) (hD : H1 D = none)
    (he : ∀ x ∈ xs, ∀ H2 (R : VK), Same H1 H2 → (∀ H4, Same H2 H4 → R (.bl (f x)) H4) → te ((wipe σ [i]).set i (some x)) H2 R)
    (hd : ∀ H', Same H1 H' → H' D = some (.lst ((xs.map f).map V.bl)) → Qd H') :
    ∃ W : Nat → Nat → Hp → Prop, (∃ m, W 0 m (upd H1 D (.lst []))) ∧ ∀ k m H, W k m H →
      ((Itl K a).stop k H ∧ Qd H) ∨ ((Itl K a).go k H ∧ ∃ Nx : Hp → Prop, (∀ H', Nx H' → ∃ m', m' < m ∧ W (k + 1) m' H') ∧ ∀ x H', (Itl K a).yld k H x H' → gName i x (wipe σ [i]) H' fun σ2 H2 => wipe σ2 [i] = wipe σ [i] ∧ tYes σ2 H2 fun b H3 =>
        if b = true then te σ2 H3 fun y H4 => ∃ acc, H4 D = some (.lst acc) ∧ acc.length < sizeLine ∧ Nx (upd H4 D (.lst (acc ++ [y]))) else Nx H3) :=
  lc_items (fun x => .bl (f x)) hl hn hD he fun H' s e => hd H' s (by rw [e, List.map_map]; rfl)
section
variable {H : Hp} {Q : VK} {a b : Bool} {A B : Prop}
theorem q_isT (q : Q (.bl a) H) : rIsB (.bl a) (.bl true) H Q := ⟨a, true, rfl, rfl, by have e : decide (a = true) = a := by cases a <;> rfl
                                                                                        rw [e]; exact q⟩
theorem q_isF (q : Q (.bl (!a)) H) : rIsB (.bl a) (.bl false) H Q := ⟨a, false, rfl, rfl, by have e : decide (a = false) = !a := by cases a <;> rfl
                                                                                             rw [e]; exact q⟩
theorem q_notT (q : Q (.bl (!a)) H) : rNotB (.bl a) (.bl true) H Q := ⟨a, true, rfl, rfl, by have e : (!decide (a = true)) = !a := by cases a <;> rfl
                                                                                             rw [e]; exact q⟩
theorem q_notF (q : Q (.bl a) H) : rNotB (.bl a) (.bl false) H Q := ⟨a, false, rfl, rfl, by have e : (!decide (a = false)) = a := by cases a <;> rfl
                                                                                            rw [e]; exact q⟩
theorem q_ifA (h : if a = true then (if b = true then A else B) else B) : if (a && b) = true then A else B := by
  cases a <;> cases b <;> exact h
theorem q_ifO (h : if a = true then A else (if b = true then A else B)) : if (a || b) = true then A else B := by
  cases a <;> cases b <;> exact h
end
/-- all but the object at p stands as it stood -/
def Fr1 (p : Addr) (H H' : Hp) : Prop := ∀ b o, b ≠ p → H b = some o → H' b = some o
theorem fr1_at {p b : Addr} {H H' : Hp} {o : HO} (f : Fr1 p H H') (n : b ≠ p) (h : H b = some o) : H' b = some o := f b o n h
theorem same_at {b : Addr} {H H' : Hp} {o : HO} (s : Same H H') (h : H b = some o) : H' b = some o := s b o h
section
variable {K : PySem.W.Frag} {σ : L2.St} {H H' : Hp} {Q : VK} {x : V} {t : Value} {p : Addr}
theorem q_dnewK (h : ∀ p, H p = none → Q (.ref p) (upd H p (.dK []))) : tDNewK σ H Q := h
theorem q_disp {trs : List (TE × TE)} (h : ∀ p, H p = none → tPairs trs σ (upd H p (.dK [])) fun ps H2 => H2 p = some (.dK []) ∧ ∃ kvs : List (Key × V), ps = kvs.map (fun kv => (kV kv.1, kv.2)) ∧ kvs.length ≤ 15 ∧ Q (.ref p) (upd H2 p (.dK (mergeK [] kvs)))) : tDisp trs σ H Q := h
theorem q_pairs0 {Q : List (V × V) → Hp → Prop} (h : Q [] H) : tPairs [] σ H Q := h
theorem q_pairs {tk tv : TE} {r : List (TE × TE)} {Q : List (V × V) → Hp → Prop} (h : tk σ H fun x H1 => tv σ H1 fun y H2 => tPairs r σ H2 fun ps H3 => Q ((x, y) :: ps) H3) : tPairs ((tk, tv) :: r) σ H Q := h
theorem q_kvs {ps : List (V × V)} {P : List (Key × V) → Prop} (kvs : List (Key × V)) (h : H p = some (.dK [])) (e : ps = kvs.map fun kv => (kV kv.1, kv.2)) (hl : kvs.length ≤ 15) (q : P kvs) : H p = some (.dK []) ∧ ∃ kvs : List (Key × V), ps = kvs.map (fun kv => (kV kv.1, kv.2)) ∧ kvs.length ≤ 15 ∧ P kvs := ⟨h, kvs, e, hl, q⟩
theorem q_isiT {tp : Addr} {cs : List V} {us : List Value} {b : Bool} (h : H tp = some (.tup cs)) (hp : Paired ClsV cs us) (ht : TyX K H x t) (hk : PySem.W.kitAny K t us = some b) (q : Q (.bl b) H) : rIsiT K [x, .ref tp] H Q := ⟨x, tp, cs, t, us, b, rfl, h, hp, ht, hk, q⟩
theorem _root_.L2.TyX.mono (h : TyX K H x t) (s : Same H H') : TyX K H' x t := by
  cases h with
  | base h =>
    refine .base ?_
    cases h with
    | non => exact .non
    | bl y => exact .bl y
    | int i => exact .int i
    | str y => exact .str y
    | flt y => exact .flt y
    | lst e => exact .lst (s _ _ e)
    | frz e => exact .frz (s _ _ e)
    | tup e => exact .tup (s _ _ e)
    | dK e => exact .dK (s _ _ e)
    | dT e => exact .dT (s _ _ e)
    | ins e cl ha hn htk hm => exact .ins (s _ _ e) cl ha hn htk hm
  | byt y => exact .byt y
  | set e => exact .set (s _ _ e)
  | kList e c => exact .kList e c
  | kTuple e c => exact .kTuple e c
  | kDict e c => exact .kDict e c
  | fTuple e => exact .fTuple (s _ _ e)
  | fDict e => exact .fDict (s _ _ e)
end
section
variable {K : PySem.W.Frag} {t c : Value} {r : List Value} {b : Bool}
theorem ka_nil : PySem.W.kitAny K t [] = some false := rfl
theorem ka_t (h : PySem.W.kitOne K t c = some true) : PySem.W.kitAny K t (c :: r) = some true := by
  unfold PySem.W.kitAny
  rw [h]
theorem ka_f (h : PySem.W.kitOne K t c = some false) (h2 : PySem.W.kitAny K t r = some b) : PySem.W.kitAny K t (c :: r) = some b := by
  unfold PySem.W.kitAny
  rw [h]
  exact h2
end
theorem upd_free {H : Hp} {a b : Addr} {o : HO} (e : upd H a o b = none) : H b = none := by
  unfold upd at e
  split at e
  · cases e
  · exact e
section
variable {K : PySem.W.Frag} {σ : L2.St} {H : Hp} {Q : VK} {D : Ends} {ta tv : TE} {f g : Str} {a C dx : Addr} {fs : List (Str × V)} {v y : V}
theorem q_sfld (h : tv σ H fun y H1 => ta σ H1 fun x H2 => ∃ a C dx fs, x = .ref a ∧ H2 a = some (.ins C dx fs) ∧ Cls K C ∧ NoAttr K C f ∧ fs.length < 1000 ∧ D.nx σ (upd H2 a (.ins C dx (putF f y fs)))) : sFld K ta tv f D σ H := h
theorem q_sfldb {P : Addr → Addr → Addr → List (Str × V) → Prop} (h1 : H a = some (.ins C dx fs)) (hc : Cls K C) (hn : NoAttr K C f) (hl : fs.length < 1000) (h : P a C dx fs) : ∃ b C dx fs, V.ref a = .ref b ∧ H b = some (.ins C dx fs) ∧ Cls K C ∧ NoAttr K C f ∧ fs.length < 1000 ∧ P b C dx fs := ⟨a, C, dx, fs, rfl, h1, hc, hn, hl, h⟩
theorem q_fldb (h1 : H a = some (.ins C dx fs)) (hc : Cls K C) (hn : NoAttr K C f) (hl : fs.lookup f = some v) (h : Q v H) : ∃ b C dx fs v, V.ref a = .ref b ∧ H b = some (.ins C dx fs) ∧ Cls K C ∧ NoAttr K C f ∧ fs.lookup f = some v ∧ Q v H := ⟨a, C, dx, fs, v, rfl, h1, hc, hn, hl, h⟩
theorem lu_hd : List.lookup f ((f, v) :: fs) = some v := by simp [List.lookup]
theorem lu_tl (h : ¬ f = g) : List.lookup f ((g, y) :: fs) = List.lookup f fs := by
  have e : (f == g) = false := by simpa using h
  simp [List.lookup, e]
end
/-- items that are ints from 0 on -/
def NN (xs : List V) : Prop := ∀ x ∈ xs, ∃ n : Int, x = .int n ∧ 0 ≤ n
theorem NN.nil : NN [] := fun _ h => by cases h
theorem NN.cons {n : Int} {xs : List V} (h : 0 ≤ n) (t : NN xs) : NN (.int n :: xs) := fun x hx => by
  rcases List.mem_cons.mp hx with rfl | hx
  · exact ⟨n, rfl, h⟩
  · exact t x hx
theorem NN.of {ns : List Int} (h : ∀ n ∈ ns, 0 ≤ n) : NN (ns.map V.int) := fun x hx => by
  obtain ⟨n, hm, rfl⟩ := List.mem_map.mp hx
  exact ⟨n, rfl, h n hm⟩
theorem set_self {σ : L2.St} {i : Nat} {v : Option V} (h : σ[i]? = some v) : σ.set i v = σ := by
  obtain ⟨hi, e⟩ := List.getElem?_eq_some_iff.mp h
  rw [← e]
  exact List.set_getElem_self hi
/-- a loop over a list whose turns store nothing but its name, and let the heap grow -/
theorem for_grow {K : PySem.W.Frag} {a : Addr} {xs : List V} {i : Nat} {tb : TS} {D : Ends} {σ : L2.St} {H : Hp} {v0 : Option V} (hl : SqL K H a xs) (hi : σ[i]? = some v0)
    (hb : ∀ x ∈ xs, ∀ H2, Same H H2 → ∀ N : L2.St → Hp → Prop, (∀ H3, Same H2 H3 → N (σ.set i (some x)) H3) → tb { D with nx := N, ct := N, bk := D.nx } (σ.set i (some x)) H2)
    (hd : ∀ v H', Same H H' → D.nx (σ.set i v) H') :
    ∃ W : Nat → Nat → L2.St → Hp → Prop, (∃ m, W 0 m σ H) ∧ ∀ k m σ H, W k m σ H →
      ((Itl K a).stop k H ∧ D.nx σ H) ∨ ((Itl K a).go k H ∧ ∃ N : L2.St → Hp → Prop, (∀ σ' H', N σ' H' → ∃ m', m' < m ∧ W (k + 1) m' σ' H') ∧ ∀ x H', (Itl K a).yld k H x H' → gName i x σ H' fun σ2 H2 => tb { D with nx := N, ct := N, bk := D.nx } σ2 H2) := by
  refine for_list (K := K) (a := a) (xs := xs) (fun k σ' H' => (∃ v, σ' = σ.set i v) ∧ Same H H') ⟨⟨v0, (set_self hi).symm⟩, Same.refl H⟩ (fun k σ' H' _ h => h.2.seq hl) ?_ ?_
  · rintro k x σ' H' hx ⟨⟨v, rfl⟩, s⟩
    show tb _ ((σ.set i v).set i (some x)) H'
    rw [List.set_set]
    exact hb x (List.mem_of_getElem? hx) H' s _ fun H3 s3 => ⟨⟨some x, rfl⟩, s.trans s3⟩
  · rintro σ' H' ⟨⟨v, rfl⟩, s⟩
    exact hd v H' s
theorem q_nn {P : Prop} (h : P) : V.non = V.non ∧ P := ⟨rfl, h⟩
theorem _root_.L2.Same.fr1 {H H1 H2 : Hp} {p : Addr} (s : Same H H1) (f : Fr1 p H1 H2) (h : H p = none) : Same H H2 := fun b o e => f b o (ne_of_none e h) (s b o e)
theorem cutV_mem {xs : List V} {lo hi : Option Int} {x : V} (h : x ∈ cutV xs lo hi) : x ∈ xs := List.mem_of_mem_drop (List.mem_of_mem_take h)
theorem Fr1.refl {p : Addr} {H : Hp} : Fr1 p H H := fun _ _ _ e => e
theorem Fr1.upd {p : Addr} {H H' : Hp} {o : HO} (f : Fr1 p H H') : Fr1 p H (upd H' p o) := fun b u n e => by
  rw [upd_ne n]
  exact f b u n e
theorem kit_sub {K : PySem.W.Frag} {C : Addr} {T : String} {b : Bool} (h0 : PySem.W.kitMeta T = true) (h : PySem.W.subIn K (.ref C) (.type T) = some b) : PySem.W.kitOne K (.ref C) (.type T) = some b := by
  have e : (Value.ref C == Value.type T) = false := rfl
  unfold PySem.W.kitOne
  rw [e, if_neg (by decide)]
  show (if PySem.W.kitMeta T = true then _ else _) = _
  rw [if_pos h0]
  exact h
/-- the same, with a word about the heap that the turns keep, in place of the heap itself -/
theorem for_growF {K : PySem.W.Frag} {a : Addr} {xs : List V} {i : Nat} {tb : TS} {D : Ends} {σ : L2.St} {H : Hp} {v0 : Option V} (F : Hp → Prop) (hF : F H) (hl : ∀ H1, F H1 → SqL K H1 a xs) (hi : σ[i]? = some v0)
    (hb : ∀ x ∈ xs, ∀ H2, F H2 → ∀ N : L2.St → Hp → Prop, (∀ H3, F H3 → N (σ.set i (some x)) H3) → tb { D with nx := N, ct := N, bk := D.nx } (σ.set i (some x)) H2)
    (hd : ∀ v H', F H' → D.nx (σ.set i v) H') :
    ∃ W : Nat → Nat → L2.St → Hp → Prop, (∃ m, W 0 m σ H) ∧ ∀ k m σ H, W k m σ H →
      ((Itl K a).stop k H ∧ D.nx σ H) ∨ ((Itl K a).go k H ∧ ∃ N : L2.St → Hp → Prop, (∀ σ' H', N σ' H' → ∃ m', m' < m ∧ W (k + 1) m' σ' H') ∧ ∀ x H', (Itl K a).yld k H x H' → gName i x σ H' fun σ2 H2 => tb { D with nx := N, ct := N, bk := D.nx } σ2 H2) := by
  refine for_list (K := K) (a := a) (xs := xs) (fun k σ' H' => (∃ v, σ' = σ.set i v) ∧ F H') ⟨⟨v0, (set_self hi).symm⟩, hF⟩ (fun k σ' H' _ h => hl H' h.2) ?_ ?_
  · rintro k x σ' H' hx ⟨⟨v, rfl⟩, s⟩
    show tb _ ((σ.set i v).set i (some x)) H'
    rw [List.set_set]
    exact hb x (List.mem_of_getElem? hx) H' s _ fun H3 s3 => ⟨⟨some x, rfl⟩, s3⟩
  · rintro σ' H' ⟨⟨v, rfl⟩, s⟩
    exact hd v H' s
theorem at_strs (xs : List Str) (P : Str → Prop) {i : Int} (hP : ∀ x ∈ xs, P x) (h0 : 0 ≤ i) (h1 : i < xs.length) : ∃ m, atI (xs.map V.str) i = some (V.str m) ∧ P m := by
  obtain ⟨j, rfl⟩ := Int.eq_ofNat_of_zero_le h0
  have hj : j < xs.length := by omega
  refine ⟨xs[j], atI_nat (by simp [hj]), hP _ (List.getElem_mem hj)⟩

/-! ### readings of the words for exceptions, own objects, comprehensions of any walk -/
section
variable {σ : L2.St} {H : Hp} {Q : VK} {D : Ends} {C a dx : Addr} {m f : Str} {fs : List (Str × V)} {E : L2.St → XK} {sp : Sp} {te ta : TE} {t : TA}
theorem q_callSD (h : t σ H fun vs H1 => sp vs H1 Q (E σ)) : tCallSD sp [] E t σ H Q := by
  have e : (fun vs H1 => sp (vs ++ []) H1 Q (E σ)) = fun vs H1 => sp vs H1 Q (E σ) := by
    funext vs H1
    rw [List.append_nil]
  show t σ H fun vs H1 => sp (vs ++ []) H1 Q (E σ)
  rw [e]
  exact h
theorem q_callSDd {dvs : List V} (h : t σ H fun vs H1 => sp (vs ++ dvs) H1 Q (E σ)) : tCallSD sp dvs E t σ H Q := h
theorem q_methE (h : ta σ H fun x H1 => ∃ a dx fs, x = .ref a ∧ H1 a = some (.ins C dx fs) ∧ fs.lookup m = none ∧ t σ H1 fun vs H2 => sp (x :: vs) H2 Q (E σ)) : tMethE C m sp [] E ta t σ H Q := by
  unfold tMethE
  simp only [List.append_nil]
  exact h
theorem q_methEd {dvs : List V} (h : ta σ H fun x H1 => ∃ a dx fs, x = .ref a ∧ H1 a = some (.ins C dx fs) ∧ fs.lookup m = none ∧ t σ H1 fun vs H2 => sp (x :: (vs ++ dvs)) H2 Q (E σ)) : tMethE C m sp dvs E ta t σ H Q := h
theorem q_methd {dvs : List V} {E : XK} (h : ta σ H fun x H1 => ∃ a dx fs, x = .ref a ∧ H1 a = some (.ins C dx fs) ∧ fs.lookup m = none ∧ t σ H1 fun vs H2 => sp (x :: (vs ++ dvs)) H2 Q E) : tMeth C m sp dvs E ta t σ H Q := h
theorem q_makeE (h : t σ H fun vs H1 => ∀ x dx, H1 x = none → H1 dx = none → dx ≠ x → sp (.ref x :: vs) (upd (upd H1 dx (.own x)) x (.ins C dx [])) (fun v H2 => v = .non ∧ Q (.ref x) H2) (E σ)) : tMakeE C sp [] E t σ H Q := by
  unfold tMakeE
  simp only [List.append_nil]
  exact h
theorem q_methb {P : Prop} (h1 : H a = some (.ins C dx fs)) (h2 : fs.lookup m = none) (h : P) : ∃ b dx fs, V.ref a = .ref b ∧ H b = some (.ins C dx fs) ∧ fs.lookup m = none ∧ P := ⟨a, dx, fs, rfl, h1, h2, h⟩
theorem q_lenO (h1 : H a = some (.ins C dx fs)) {P : Addr → Prop} (h : P a) : ∃ b dx fs, [V.ref a] = [.ref b] ∧ H b = some (.ins C dx fs) ∧ P b := ⟨a, dx, fs, rfl, h1, h⟩
theorem q_lenI {n : Int} {P : Int → Prop} (h0 : 0 ≤ n) (h1 : n < 2 ^ 63) (h : P n) : ∃ k : Int, V.int n = .int k ∧ 0 ≤ k ∧ k < 2 ^ 63 ∧ P k := ⟨n, rfl, h0, h1, h⟩
theorem q_eqO {b dy : Addr} {gs : List (Str × V)} {P : Addr → Addr → Prop} (h1 : H a = some (.ins C dx fs)) (h2 : H b = some (.ins C dy gs)) (h : P a b) : ∃ a' dx fs b' dy gs, V.ref a = .ref a' ∧ V.ref b = .ref b' ∧ H a' = some (.ins C dx fs) ∧ H b' = some (.ins C dy gs) ∧ P a' b' := ⟨a, dx, fs, b, dy, gs, rfl, rfl, h1, h2, h⟩
theorem q_bz {z : Bool} {P : Bool → Prop} (h : P z) : ∃ y, V.bl z = .bl y ∧ P y := ⟨z, rfl, h⟩
end
theorem room128 {k : Nat} {A : Around} (r : Room k A) : A.units + 128 < cLine := by
  have := r.un
  omega
theorem q_fldP {K : PySem.W.Frag} {H : Hp} {a C dx : Addr} {fs : List (Str × V)} {f : Str} {v : V} {P : V → Prop} (h1 : H a = some (.ins C dx fs)) (hc : Cls K C) (hn : NoAttr K C f) (hl : fs.lookup f = some v) (h : P v) : ∃ b C dx fs v, V.ref a = .ref b ∧ H b = some (.ins C dx fs) ∧ Cls K C ∧ NoAttr K C f ∧ fs.lookup f = some v ∧ P v := ⟨a, C, dx, fs, v, rfl, h1, hc, hn, hl, h⟩
theorem kg_tup {X : Cx} {K : PySem.W.Frag} {es : List Expr} {k : Nat} {pos : Pos} {t : TGs} {n : Nat} (hK : X.K = K) (hc : X.calm = true) (h : PGs X es t) (hn : (assignEach es X.env).length = n := by rfl) (hst : (assignEach es X.env).findIdx? (·.1) = none := by rfl) : PG X (.Tuple es k pos) (gTup K n t) := by
  subst hK
  exact pg_tup hc h hn hst
theorem lu_nil {f : Str} {α : Type} : List.lookup f ([] : List (Str × α)) = none := rfl
theorem lu_tlN {f g : Str} {y : V} {fs : List (Str × V)} (h : ¬ f = g) (h2 : List.lookup f fs = none) : List.lookup f ((g, y) :: fs) = none := by rw [lu_tl h, h2]
/-! raise, try -/
def WEx (W : WX) : L2.St → XK := fun σ cls d H => W cls d σ H
theorem passX {X : Cx} {W : WX} (tk : Takes X W) (σ : L2.St) : PassesAt (L2.CX X.prog X.w) X σ (WEx W σ) := passAt tk σ
def tRaise (te : TE) (C : Addr) (f : Str) (W : WX) : TS := fun _ σ H => te σ H fun v H1 => ∀ d, H1 d = none → W (.ref C) (some d) σ (upd H1 d (.xd [(f, v)]))
def tTry (tb : WX → TS) (Wout : WX) (l : List Clause) : TS := fun D σ H => tb (wTry Wout D l) D σ H
theorem ps_raiseX {X : Cx} {W : WX} {x f : Str} {e : Expr} {te : TE} {p pos pos' : Pos} {C fI : Addr} {B newId initId : String} {bmB : List Value} (hc : X.calm = true) (tk : Takes X W) (hP : PF X.prog) (T : OexS X.K C fI B newId initId bmB f) (hs : X.mg "super" = none) (hr : Room 2 X.A) (hg : Gl X x) (gC : X.mg x = some (.ref C)) (he : PE X e te) (hdb : (x == ("__debug__" : Str)) = false := by decide)
    (hse : starEach [e] X.env = (false, eval e X.env) :: starEach [] X.env := by rfl) : PS X (.Raise (some (.Call (.Name x p) [e] [] pos)) none pos') (tRaise te C f W) := ps_raise hc tk (pmk_exs hP T hs hr hg gC he hdb hse)
theorem ps_tryX {X : Cx} {Wout : WX} {body : List Stmt} {h₀ : ExceptHandler} {hds : List ExceptHandler} {l : List Clause} {pos : Pos} {tb : WX → TS} (hs : X.stack = X.env :: X.outer) (hf : X.env.frame = some X.env.locals) (hN : X.N.Nodup) (tk : Takes X Wout)
    (hb : ∀ (W : WX) (pn : List (Addr × Obj)) (xe : Value → Shared → Prop), Takes (X.tr pn xe) W → PassesOwn (model X.prog X.w) X.A X.env xe → PSs (X.tr pn xe) body (tb W))
    (hh : ClsOk X (h₀ :: hds) l) : PS X (.Try body (h₀ :: hds) [] [] pos) (tTry tb Wout l) := ps_try_g hs hf hN tk hb hh
section
variable {σ : L2.St} {H : Hp} {Q : VK} {D : Ends} {C d0 : Addr} {f : Str} {te : TE} {W Wout : WX} {tb : WX → TS} {l r : List Clause} {cls : Value} {d : Option Addr} {cf : Value → Option Bool} {i : Nat} {ts : Addr → Value → Option Addr → TS}
theorem q_raise (h : te σ H fun v H1 => ∀ d, H1 d = none → W (.ref C) (some d) σ (upd H1 d (.xd [(f, v)]))) : tRaise te C f W D σ H := h
theorem q_try (h : tb (wTry Wout D l) D σ H) : tTry tb Wout l D σ H := h
theorem q_wE (h : W cls d σ H) : WEx W σ cls d H := h
theorem q_clN (hb : cf cls = some true) (h : ∀ a, H a = none → ts a cls d (goneE i D) (σ.set i (some (.ref a))) H) : wTry Wout D ((cf, some i, ts) :: l) cls d σ H := ⟨true, hb, by rw [if_pos rfl]; exact h⟩
theorem q_clN0 (hb : cf cls = some false) (h : wTry Wout D l cls d σ H) : wTry Wout D ((cf, some i, ts) :: l) cls d σ H := ⟨false, hb, by rw [if_neg Bool.false_ne_true]; exact h⟩
theorem q_clP (hb : cf cls = some true) (h : ∀ a, H a = none → ts a cls d D σ H) : wTry Wout D ((cf, none, ts) :: l) cls d σ H := ⟨true, hb, by rw [if_pos rfl]; exact h⟩
theorem q_clP0 (hb : cf cls = some false) (h : wTry Wout D l cls d σ H) : wTry Wout D ((cf, none, ts) :: l) cls d σ H := ⟨false, hb, by rw [if_neg Bool.false_ne_true]; exact h⟩
theorem q_xg {K : PySem.W.Frag} {a : Addr} (h : te σ H fun x H1 => ∃ (D dd : Addr) (fs : List (Str × V)) (v : V), x = .ref a ∧ cls = .ref D ∧ d = some dd ∧ XfC K D ∧ PySem.W.findIn K (.ref D) f = some none ∧ H1 dd = some (.xd fs) ∧ fs.lookup f = some v ∧ Q v H1) : tXg K a cls d f te σ H Q := h
theorem q_xgb {K : PySem.W.Frag} {a Dc dd : Addr} {fs : List (Str × V)} {v : V} (h1 : H dd = some (.xd fs)) (h2 : XfC K Dc) (h3 : PySem.W.findIn K (.ref Dc) f = some none) {P : V → Prop} (h4 : fs.lookup f = some v) (h : P v) : ∃ (D dd' : Addr) (fs : List (Str × V)) (v : V), V.ref a = .ref a ∧ Value.ref Dc = .ref D ∧ some dd = some dd' ∧ XfC K D ∧ PySem.W.findIn K (.ref D) f = some none ∧ H dd' = some (.xd fs) ∧ fs.lookup f = some v ∧ P v := ⟨Dc, dd, fs, v, rfl, rfl, rfl, h2, h3, h1, h4, h⟩
theorem q_isX {K : PySem.W.Frag} {a Dc dd : Addr} {fs : List (Str × V)} {c : V} {cv : Value} {b : Bool} (h1 : H dd = some (.xd fs)) (h2 : ExcC K Dc) (h3 : ClsV c cv) (h4 : PySem.W.kitOne K (.ref Dc) cv = some b) (h : Q (.bl b) H) : rIsX K a (.ref Dc) (some dd) [.ref a, c] H Q := ⟨Dc, dd, fs, c, cv, b, rfl, rfl, rfl, h1, h2, h3, h4, h⟩
end
section
variable {K : PySem.W.Frag} {cls c : Value} {r : List Value} {b b2 : Bool}
theorem xa_nil : PySem.W.exmAny K cls [] = some false := rfl
theorem xa_cons (h1 : PySem.W.exmOne K cls c = some b) (h2 : PySem.W.exmAny K cls r = some b2) : PySem.W.exmAny K cls (c :: r) = some (b || b2) := by
  unfold PySem.W.exmAny
  rw [h1, h2]
theorem kit_ref {D C : Addr} (hd : PySem.W.hasDictIn K C = true) (ht : PySem.W.typeIn K (.ref C) = some (.type "type")) (hs : PySem.W.subIn K (.ref C) (.ref C) = some true) (h : PySem.W.subIn K (.ref D) (.ref C) = some b) : PySem.W.kitOne K (.ref D) (.ref C) = some b := by
  unfold PySem.W.kitOne
  by_cases e : D = C
  · subst e
    rw [if_pos (beq_self_eq_true _)]
    exact hs.symm.trans h
  · have e' : (Value.ref D == Value.ref C) = false := by simpa using e
    rw [e', if_neg Bool.false_ne_true]
    obtain ⟨cd, hc, _⟩ := PySem.W.any_some hd
    have e2 : ((PySem.W.clsIn K C).isSome && PySem.W.typeIn K (.ref C) == some (.type "type")) = true := by rw [hc, ht]; rfl
    show (if ((PySem.W.clsIn K C).isSome && PySem.W.typeIn K (.ref C) == some (.type "type")) = true then PySem.W.subIn K (.ref D) (.ref C) else none) = some b
    rw [if_pos e2]
    exact h
theorem kit_self {C : Addr} : PySem.W.kitOne K (.ref C) (.ref C) = some true := by
  unfold PySem.W.kitOne
  rw [if_pos (beq_self_eq_true _)]
theorem kit_tyref {T : String} {C : Addr} (hd : PySem.W.hasDictIn K C = true) (ht : PySem.W.typeIn K (.ref C) = some (.type "type")) (h : PySem.W.subIn K (.type T) (.ref C) = some b) : PySem.W.kitOne K (.type T) (.ref C) = some b := by
  unfold PySem.W.kitOne
  have e' : (Value.type T == Value.ref C) = false := rfl
  rw [e', if_neg Bool.false_ne_true]
  obtain ⟨cd, hc, _⟩ := PySem.W.any_some hd
  have e2 : ((PySem.W.clsIn K C).isSome && PySem.W.typeIn K (.ref C) == some (.type "type")) = true := by rw [hc, ht]; rfl
  show (if ((PySem.W.clsIn K C).isSome && PySem.W.typeIn K (.ref C) == some (.type "type")) = true then PySem.W.subIn K (.type T) (.ref C) else none) = some b
  rw [if_pos e2]
  exact h
end
/-! == by items -/
section
variable {K : PySem.W.Frag} {H : Hp} {Q : VK} {a b : Addr} {xs ys : List V} {c : Bool} {x y : V}
theorem q_eqXT (h1 : SqT K H a xs) (h2 : SqT K H b ys) (h3 : E1s K H xs ys c) (q : Q (.bl c) H) : rEqX K (.ref a) (.ref b) H Q := ⟨a, b, xs, ys, c, rfl, rfl, .inl ⟨h1, h2⟩, h3, q⟩
theorem q_eqXL (h1 : SqL K H a xs) (h2 : SqL K H b ys) (h3 : E1s K H xs ys c) (q : Q (.bl c) H) : rEqX K (.ref a) (.ref b) H Q := ⟨a, b, xs, ys, c, rfl, rfl, .inr ⟨h1, h2⟩, h3, q⟩
theorem q_neXT (h1 : SqT K H a xs) (h2 : SqT K H b ys) (h3 : E1s K H xs ys c) (q : Q (.bl (!c)) H) : rNeX K (.ref a) (.ref b) H Q := ⟨a, b, xs, ys, c, rfl, rfl, .inl ⟨h1, h2⟩, h3, q⟩
theorem q_neXL (h1 : SqL K H a xs) (h2 : SqL K H b ys) (h3 : E1s K H xs ys c) (q : Q (.bl (!c)) H) : rNeX K (.ref a) (.ref b) H Q := ⟨a, b, xs, ys, c, rfl, rfl, .inr ⟨h1, h2⟩, h3, q⟩
theorem e1_str {s : Str} : E1 K H (.str s) (.str s) true := by
  have z := E1.str (K := K) (H := H) s s
  rwa [beq_self_eq_true] at z
theorem e1_int {i : Int} : E1 K H (.int i) (.int i) true := by
  have z : PyData.eqv (.int i) (.int i) = true := by simp [PyData.eqv]
  have w : E1 K H (.int i) (.int i) (PyData.eqv (.int i) (.int i)) := .dat (.int i) (.int i) rfl rfl
  rw [z] at w
  exact w
theorem e1_bl {i : Bool} : E1 K H (.bl i) (.bl i) true := by
  have z : PyData.eqv (.bool i) (.bool i) = true := by simp [PyData.eqv]
  have w : E1 K H (.bl i) (.bl i) (PyData.eqv (.bool i) (.bool i)) := .dat (.bl i) (.bl i) rfl rfl
  rw [z] at w
  exact w
theorem e1_non : E1 K H .non .non true := by
  have z : PyData.eqv .none .none = true := by simp [PyData.eqv]
  have w : E1 K H .non .non (PyData.eqv .none .none) := .dat .non .non rfl rfl
  rw [z] at w
  exact w
theorem DpInts {ns : List Int} : DpAll K H (ns.map V.int) (ns.map PyData.int) := by
  induction ns with
  | nil => exact .nil
  | cons n ns ih => exact .cons (.int n) ih
theorem e1_self (hx : (∃ a, x = .ref a) ∨ (∃ s, x = .str s) ∨ (∃ i, x = .int i) ∨ (∃ b, x = .bl b) ∨ x = .non) : E1 K H x x true := by
  rcases hx with ⟨_, rfl⟩ | ⟨_, rfl⟩ | ⟨_, rfl⟩ | ⟨_, rfl⟩ | rfl
  · exact .same _
  · exact e1_str
  · exact e1_int
  · exact e1_bl
  · exact e1_non
theorem e1s_2 {x2 y2 : V} {b1 b2 : Bool} (h1 : E1 K H x y b1) (h2 : E1 K H x2 y2 b2) : E1s K H [x, x2] [y, y2] (b1 && b2) := by
  have z := E1s.cons h1 (E1s.cons h2 .nil)
  simpa using z
end
theorem eqv_ints {ms ns : List Int} : PyData.eqvAll (ms.map PyData.int) (ns.map PyData.int) = decide (ms = ns) := by
  induction ms generalizing ns with
  | nil => cases ns <;> simp [PyData.eqvAll]
  | cons m ms ih =>
    cases ns with
    | nil => simp [PyData.eqvAll]
    | cons n ns =>
      simp only [List.map_cons, PyData.eqvAll, ih, PyData.eqv, List.cons.injEq, Bool.decide_and]
      congr 1
theorem lay_ints {ns : List Int} : PyData.canLayAll0 (ns.map PyData.int) = true := by
  induction ns with
  | nil => rfl
  | cons n ns ih =>
    show (PyData.canLay0 (.int n) && PyData.canLayAll0 (ns.map PyData.int)) = true
    rw [ih]
    rfl
theorem depth_ints {ns : List Int} : PyData.depthAll (ns.map PyData.int) = 0 ∨ PyData.depthAll (ns.map PyData.int) ≤ 1 := by
  induction ns with
  | nil => exact .inl rfl
  | cons n ns ih =>
    refine .inr ?_
    show max (PyData.depth (.int n)) (PyData.depthAll (ns.map PyData.int)) ≤ 1
    have : PyData.depth (.int n) ≤ 1 := Nat.zero_le 1
    omega
theorem sh_ints {ns : List Int} : (PyData.canLayAll0 (ns.map PyData.int) && decide (PyData.depthAll (ns.map PyData.int) + 1 ≤ 64)) = true := by
  rw [lay_ints, Bool.true_and, decide_eq_true_eq]
  have := depth_ints (ns := ns)
  omega
theorem shT {ns : List Int} : SeqAt.shaped (.tuple (ns.map PyData.int)) = true := sh_ints
theorem shL {ns : List Int} : SeqAt.shaped (.list (ns.map PyData.int)) = true := sh_ints
section
variable {K : PySem.W.Frag} {H : Hp} {Q : VK} {a b : Addr} {ms ns : List Int}
theorem q_eqTI (h1 : SqT K H a (ms.map V.int)) (h2 : SqT K H b (ns.map V.int)) (q : Q (.bl (decide (ms = ns))) H) : rEqD K (.ref a) (.ref b) H Q := q_eqD (.tup h1 DpInts) (.tup h2 DpInts) shT shT (by rw [show PyData.eqv (.tuple (ms.map PyData.int)) (.tuple (ns.map PyData.int)) = decide (ms = ns) from eqv_ints]; exact q)
theorem q_neTI (h1 : SqT K H a (ms.map V.int)) (h2 : SqT K H b (ns.map V.int)) (q : Q (.bl (!decide (ms = ns))) H) : rNeD K (.ref a) (.ref b) H Q := q_neD (.tup h1 DpInts) (.tup h2 DpInts) shT shT (by rw [show PyData.eqv (.tuple (ms.map PyData.int)) (.tuple (ns.map PyData.int)) = decide (ms = ns) from eqv_ints]; exact q)
theorem q_eqLI (h1 : SqL K H a (ms.map V.int)) (h2 : SqL K H b (ns.map V.int)) (q : Q (.bl (decide (ms = ns))) H) : rEqD K (.ref a) (.ref b) H Q := q_eqD (.lst h1 DpInts) (.lst h2 DpInts) shL shL (by rw [show PyData.eqv (.list (ms.map PyData.int)) (.list (ns.map PyData.int)) = decide (ms = ns) from eqv_ints]; exact q)
theorem q_neLI (h1 : SqL K H a (ms.map V.int)) (h2 : SqL K H b (ns.map V.int)) (q : Q (.bl (!decide (ms = ns))) H) : rNeD K (.ref a) (.ref b) H Q := q_neD (.lst h1 DpInts) (.lst h2 DpInts) shL shL (by rw [show PyData.eqv (.list (ms.map PyData.int)) (.list (ns.map PyData.int)) = decide (ms = ns) from eqv_ints]; exact q)
end
/-! ### comprehensions over any walk, whose elements change nothing that stood: what holds of each element -/
theorem lc_any {J : It} {n : Nat} {G : Hp → Prop} {Y : Nat → Hp → V → Hp → Prop} (w : Walk J n G Y) {g : TG} {tt : TT} {te : TE} {vs : List Nat} {σ : L2.St} {H1 : Hp} {D : Addr} {Qd : Hp → Prop} (P : Nat → List V → Hp → Prop) (hn : n ≤ 100000) (hP : ∀ k ys H H', P k ys H → Same H H' → P k ys H') (hS : ∀ k ys H acc, P k ys H → P k ys (upd H D (.lst acc))) (h0 : P 0 [] H1)
    (hG : ∀ H', Same H1 H' → G H') (hD : H1 D = none)
    (he : ∀ k x ys H2 H' (R : Bool → Hp → Prop) (S : V → Hp → Prop), k < n → Same H1 H2 → P k ys H2 → H2 D = some (.lst ys) → Y k H2 x H' → (∀ b H3, Same H2 H3 → (b = false → P (k + 1) ys H3) → R b H3) → (∀ y H4, Same H2 H4 → P (k + 1) (ys ++ [y]) H4 → S y H4) → g x (wipe σ vs) H' fun σ2 H3 => wipe σ2 vs = wipe σ vs ∧ tt σ2 H3 fun b H4 => R b H4 ∧ (b = true → te σ2 H4 S))
    (hd : ∀ ys H', Same H1 H' → P n ys H' → H' D = some (.lst ys) → Qd H') (gm : ∀ x H' Q Q', (∀ σ H, Q σ H → Q' σ H) → g x (wipe σ vs) H' Q → g x (wipe σ vs) H' Q')
    (tm : ∀ σ H Q Q', (∀ b H, Q b H → Q' b H) → tt σ H Q → tt σ H Q') :
    ∃ W : Nat → Nat → Hp → Prop, (∃ m, W 0 m (upd H1 D (.lst []))) ∧ ∀ i m H, W i m H →
      (J.stop i H ∧ Qd H) ∨ (J.go i H ∧ ∃ Nx : Hp → Prop, (∀ H', Nx H' → ∃ m', m' < m ∧ W (i + 1) m' H') ∧ ∀ x H', J.yld i H x H' → g x (wipe σ vs) H' fun σ2 H2 => wipe σ2 vs = wipe σ vs ∧ tt σ2 H2 fun b H3 =>
        if b = true then te σ2 H3 fun y H4 => ∃ acc, H4 D = some (.lst acc) ∧ acc.length < sizeLine ∧ Nx (upd H4 D (.lst (acc ++ [y]))) else Nx H3) := by
  refine lc_it w (fun k H' => Same H1 H' ∧ ∃ ys, P k ys H' ∧ ys.length ≤ k ∧ H' D = some (.lst ys)) ⟨Same.new hD, [], hS _ _ _ _ h0, Nat.le_refl _, upd_same⟩ (fun i H' _ h => hG H' h.1) ?_ ?_
  · rintro k x H2 H' hk ⟨s2, ys, p2, l2, d2⟩ y
    refine gm _ _ _ _ (fun σ2 H3 q => ⟨q.1, tm _ _ _ _ (fun b H4 q4 => ?_) q.2⟩) (he k x ys H2 H' (fun b H3 => b = false → Same H1 H3 ∧ ∃ ys, P (k + 1) ys H3 ∧ ys.length ≤ k + 1 ∧ H3 D = some (.lst ys)) (fun y H4 => ∃ acc, H4 D = some (.lst acc) ∧ acc.length < sizeLine ∧ Same H1 (upd H4 D (.lst (acc ++ [y]))) ∧ ∃ ys, P (k + 1) ys (upd H4 D (.lst (acc ++ [y]))) ∧ ys.length ≤ k + 1 ∧ upd H4 D (.lst (acc ++ [y])) D = some (.lst ys)) hk s2 p2 d2 y (fun b H3 s3 p3 hb => ⟨s2.trans s3, ys, p3 hb, Nat.le_succ_of_le l2, s3 _ _ d2⟩) fun v H4 s4 p4 => ⟨ys, s4 _ _ d2, line_lt (by omega), (s2.trans s4).snew hD, ys ++ [v], hS _ _ _ _ p4, by simp; omega, upd_same⟩)
    cases b with
    | true => exact iteT (q4.2 rfl)
    | false => exact iteF (q4.1 rfl)
  · rintro H' ⟨s2, ys, p2, _, d2⟩
    exact hd ys H' s2 p2 d2
theorem tYes_m : ∀ (σ : L2.St) (H : Hp) (Q Q' : Bool → Hp → Prop), (∀ b H, Q b H → Q' b H) → tYes σ H Q → tYes σ H Q' := fun _ _ _ _ h q => h _ _ q
theorem gName_m {i : Nat} {σ : L2.St} : ∀ (x : V) (H' : Hp) (Q Q' : L2.St → Hp → Prop), (∀ σ H, Q σ H → Q' σ H) → gName i x σ H' Q → gName i x σ H' Q' := fun _ _ _ _ h q => h _ _ q
theorem gTup2_m {K : PySem.W.Frag} {i j : Nat} {σ : L2.St} : ∀ (x : V) (H' : Hp) (Q Q' : L2.St → Hp → Prop), (∀ σ H, Q σ H → Q' σ H) → gTup K 2 (gCons (gName i) (gCons (gName j) gNil)) x σ H' Q → gTup K 2 (gCons (gName i) (gCons (gName j) gNil)) x σ H' Q' := by
  rintro x H' Q Q' h ⟨a, xs, e, s, l, v, r, e1, v2, r2, e2, e3, q⟩
  exact ⟨a, xs, e, s, l, v, r, e1, v2, r2, e2, e3, h _ _ q⟩
/-- no test, one name: elements that are the items' values of f, told by P -/
theorem lc_each {J : It} {n : Nat} {G : Hp → Prop} {Y : Nat → Hp → V → Hp → Prop} (w : Walk J n G Y) {i : Nat} {te : TE} {σ : L2.St} {H1 : Hp} {D : Addr} {Qd : Hp → Prop} (P : Nat → V → Hp → Prop) (hn : n ≤ 100000) (hP : ∀ k y H H', P k y H → Same H H' → P k y H') (hS : ∀ k y H acc, P k y H → P k y (upd H D (.lst acc)))
    (hG : ∀ H', Same H1 H' → G H') (hD : H1 D = none)
    (he : ∀ k x H2 H' (S : V → Hp → Prop), k < n → Same H1 H2 → (∃ ys, H2 D = some (.lst ys)) → Y k H2 x H' → (∀ y H4, Same H2 H4 → P k y H4 → S y H4) → te ((wipe σ [i]).set i (some x)) H' S)
    (hd : ∀ ys H', Same H1 H' → ys.length = n → (∀ (k : Nat) y, ys[k]? = some y → P k y H') → H' D = some (.lst ys) → Qd H') :
    ∃ W : Nat → Nat → Hp → Prop, (∃ m, W 0 m (upd H1 D (.lst []))) ∧ ∀ k m H, W k m H →
      (J.stop k H ∧ Qd H) ∨ (J.go k H ∧ ∃ Nx : Hp → Prop, (∀ H', Nx H' → ∃ m', m' < m ∧ W (k + 1) m' H') ∧ ∀ x H', J.yld k H x H' → gName i x (wipe σ [i]) H' fun σ2 H2 => wipe σ2 [i] = wipe σ [i] ∧ tYes σ2 H2 fun b H3 =>
        if b = true then te σ2 H3 fun y H4 => ∃ acc, H4 D = some (.lst acc) ∧ acc.length < sizeLine ∧ Nx (upd H4 D (.lst (acc ++ [y]))) else Nx H3) := by
  refine lc_it w (fun k H' => Same H1 H' ∧ ∃ ys, (∀ (j : Nat) y, ys[j]? = some y → P j y H') ∧ ys.length = k ∧ H' D = some (.lst ys)) ⟨Same.new hD, [], fun j y z => (by simp at z), rfl, upd_same⟩ (fun i H' _ h => hG H' h.1) ?_ ?_
  · rintro k x H2 H' hk ⟨s2, ys, p2, rfl, d2⟩ y
    refine ⟨wipe_set, ?_⟩
    unfold tYes
    refine iteT (he ys.length x H2 H' _ hk s2 ⟨ys, d2⟩ y fun v H4 s4 p4 => ⟨ys, s4 _ _ d2, line_lt (by omega), (s2.trans s4).snew hD, ys ++ [v], ?_, by simp, upd_same⟩)
    intro j z ez
    rcases Nat.lt_or_ge j ys.length with hj | hj
    · rw [List.getElem?_append_left hj] at ez
      exact hS _ _ _ _ (hP _ _ _ _ (p2 j z ez) s4)
    · rw [List.getElem?_append_right hj] at ez
      rcases Nat.eq_zero_or_pos (j - ys.length) with hz | hz
      · rw [hz] at ez
        have ej : j = ys.length := by omega
        subst ej
        simp at ez
        subst ez
        exact hS _ _ _ _ p4
      · rw [List.getElem?_eq_none (by simp; omega)] at ez
        cases ez
  · rintro H' ⟨s2, ys, p2, l2, d2⟩
    exact hd ys H' s2 l2 p2 d2
/-- over a range, each element a function of the number -/
theorem lc_rangeF {lo : Int} {n i : Nat} {te : TE} {σ : L2.St} {H1 : Hp} {D : Addr} {Qd : Hp → Prop} (f : Nat → V) (hn : n ≤ 100000) (hD : H1 D = none)
    (he : ∀ k, k < n → ∀ H2 (R : VK), Same H1 H2 → (∀ H4, Same H2 H4 → R (f k) H4) → te ((wipe σ [i]).set i (some (.int (lo + k)))) H2 R)
    (hd : ∀ H', Same H1 H' → H' D = some (.lst ((List.range n).map f)) → Qd H') :
    ∃ W : Nat → Nat → Hp → Prop, (∃ m, W 0 m (upd H1 D (.lst []))) ∧ ∀ k m H, W k m H →
      ((Itr lo n).stop k H ∧ Qd H) ∨ ((Itr lo n).go k H ∧ ∃ Nx : Hp → Prop, (∀ H', Nx H' → ∃ m', m' < m ∧ W (k + 1) m' H') ∧ ∀ x H', (Itr lo n).yld k H x H' → gName i x (wipe σ [i]) H' fun σ2 H2 => wipe σ2 [i] = wipe σ [i] ∧ tYes σ2 H2 fun b H3 =>
        if b = true then te σ2 H3 fun y H4 => ∃ acc, H4 D = some (.lst acc) ∧ acc.length < sizeLine ∧ Nx (upd H4 D (.lst (acc ++ [y]))) else Nx H3) := by
  refine lc_grow walk_range ((List.range n).map f) (by simp) hn (fun _ _ => trivial) hD ?_ hd (fun _ _ _ _ q h => q _ _ h)
  rintro k x H2 H' R hk s2 ⟨rfl, rfl⟩ hR
  refine ⟨wipe_set, he k hk H' R s2 fun H4 s4 => hR _ _ ?_ s4⟩
  rw [List.getElem?_map, List.getElem?_range hk]
  rfl
theorem q_zipA {K : PySem.W.Frag} {ta : TA} {σ : L2.St} {H : Hp} {R : It → Hp → Prop} (h : ta σ H fun vs H1 => ∃ a b xs ys, vs = [.ref a, .ref b] ∧ ((SqL K H1 a xs ∧ SqL K H1 b ys ∧ R (Itz K a b) H1) ∨ (SqT K H1 a xs ∧ SqT K H1 b ys ∧ R (RZ.ItzT K a b) H1))) : RZ.iZipA K ta σ H R := h
theorem q_zipT {K : PySem.W.Frag} {H : Hp} {a b : Addr} {xs ys : List V} {R R2 : Addr → Addr → Prop} (h1 : SqT K H a xs) (h2 : SqT K H b ys) (h : R2 a b) : ∃ a' b' xs ys, [V.ref a, V.ref b] = [.ref a', .ref b'] ∧ ((SqL K H a' xs ∧ SqL K H b' ys ∧ R a' b') ∨ (SqT K H a' xs ∧ SqT K H b' ys ∧ R2 a' b')) := ⟨a, b, xs, ys, rfl, .inr ⟨h1, h2, h⟩⟩
theorem lc_rangeB {lo : Int} {n i : Nat} {te : TE} {σ : L2.St} {H1 : Hp} {D : Addr} {Qd : Hp → Prop} (f : Nat → Bool) (hn : n ≤ 100000) (hD : H1 D = none)
    (he : ∀ k, k < n → ∀ H2 (R : VK), Same H1 H2 → (∀ H4, Same H2 H4 → R (.bl (f k)) H4) → te ((wipe σ [i]).set i (some (.int (lo + k)))) H2 R)
    (hd : ∀ H', Same H1 H' → H' D = some (.lst (((List.range n).map f).map V.bl)) → Qd H') :
    ∃ W : Nat → Nat → Hp → Prop, (∃ m, W 0 m (upd H1 D (.lst []))) ∧ ∀ k m H, W k m H →
      ((Itr lo n).stop k H ∧ Qd H) ∨ ((Itr lo n).go k H ∧ ∃ Nx : Hp → Prop, (∀ H', Nx H' → ∃ m', m' < m ∧ W (k + 1) m' H') ∧ ∀ x H', (Itr lo n).yld k H x H' → gName i x (wipe σ [i]) H' fun σ2 H2 => wipe σ2 [i] = wipe σ [i] ∧ tYes σ2 H2 fun b H3 =>
        if b = true then te σ2 H3 fun y H4 => ∃ acc, H4 D = some (.lst acc) ∧ acc.length < sizeLine ∧ Nx (upd H4 D (.lst (acc ++ [y]))) else Nx H3) := lc_rangeF (fun k => .bl (f k)) hn hD he fun H' s e => hd H' s (by rw [e, List.map_map]; rfl)
theorem lc_rangeI {lo : Int} {n i : Nat} {te : TE} {σ : L2.St} {H1 : Hp} {D : Addr} {Qd : Hp → Prop} (f : Nat → Int) (hn : n ≤ 100000) (hD : H1 D = none)
    (he : ∀ k, k < n → ∀ H2 (R : VK), Same H1 H2 → (∀ H4, Same H2 H4 → R (.int (f k)) H4) → te ((wipe σ [i]).set i (some (.int (lo + k)))) H2 R)
    (hd : ∀ H', Same H1 H' → H' D = some (.lst (((List.range n).map f).map V.int)) → Qd H') :
    ∃ W : Nat → Nat → Hp → Prop, (∃ m, W 0 m (upd H1 D (.lst []))) ∧ ∀ k m H, W k m H →
      ((Itr lo n).stop k H ∧ Qd H) ∨ ((Itr lo n).go k H ∧ ∃ Nx : Hp → Prop, (∀ H', Nx H' → ∃ m', m' < m ∧ W (k + 1) m' H') ∧ ∀ x H', (Itr lo n).yld k H x H' → gName i x (wipe σ [i]) H' fun σ2 H2 => wipe σ2 [i] = wipe σ [i] ∧ tYes σ2 H2 fun b H3 =>
        if b = true then te σ2 H3 fun y H4 => ∃ acc, H4 D = some (.lst acc) ∧ acc.length < sizeLine ∧ Nx (upd H4 D (.lst (acc ++ [y]))) else Nx H3) := lc_rangeF (fun k => .int (f k)) hn hD he fun H' s e => hd H' s (by rw [e, List.map_map]; rfl)
theorem atI_map {ns : List Int} {i : Nat} (h : i < ns.length) : atI (ns.map V.int) (0 + (i : Int)) = some (V.int (ns.getD i 0)) := by
  rw [Int.zero_add]
  refine atI_nat ?_
  rw [List.getElem?_map, List.getElem?_eq_getElem h]
  simp [List.getD, h]
theorem q_intB {k : Bool} {P : Int → Prop} {P' : Bool → Prop} (h : P' k) : (∃ i, [V.bl k] = [.int i] ∧ P i) ∨ ∃ k', [V.bl k] = [.bl k'] ∧ P' k' := .inr ⟨k, rfl, h⟩
theorem q_intI {i : Int} {P : Int → Prop} {P' : Bool → Prop} (h : P i) : (∃ j, [V.int i] = [.int j] ∧ P j) ∨ ∃ k', [V.int i] = [.bl k'] ∧ P' k' := .inl ⟨i, rfl, h⟩
theorem range_zip {g : Int → Int → Int} {ms ns : List Int} (hl : ns.length = ms.length) : ((List.range ms.length).map fun i => g (ms.getD i 0) (ns.getD i 0)) = List.zipWith g ms ns := by
  induction ms generalizing ns with
  | nil => rfl
  | cons m ms ih =>
    cases ns with
    | nil => simp at hl
    | cons n ns =>
      rw [List.length_cons, List.range_succ_eq_map, List.map_cons, List.map_map, List.zipWith_cons_cons, ← ih (ns := ns) (by simpa using hl)]
      rfl
theorem at0z {α : Type} {a : α} {xs : List α} : atI (a :: xs) (0 + ((0 : Nat) : Int)) = some a := atI_nat (j := 0) rfl
theorem at1z {α : Type} {a b : α} {xs : List α} : atI (a :: b :: xs) (0 + ((1 : Nat) : Int)) = some b := atI_nat (j := 1) rfl
theorem at2z {α : Type} {a b c : α} {xs : List α} : atI (a :: b :: c :: xs) (0 + ((2 : Nat) : Int)) = some c := atI_nat (j := 2) rfl
/-- over a list or a tuple -/
def iSeq (K : PySem.W.Frag) (tl : TE) : TI := fun σ H R => iList K tl σ H R ∨ iTup K tl σ H R
theorem kpi_seq {X : Cx} {K : PySem.W.Frag} {tg e : Expr} {tl : TE} (hK : X.K = K) (he : PE X e tl) : PI X tg e (iSeq K tl) := by
  subst hK
  refine ⟨fun pins s σ H R I h => ?_⟩
  rcases h with h | h
  · exact (pi_list he).run pins s σ H R I h
  · exact (pi_tup he).run pins s σ H R I h
theorem q_seqL {K : PySem.W.Frag} {tl : TE} {σ : L2.St} {H : Hp} {R : It → Hp → Prop} (h : tl σ H fun x H1 => ∃ a, x = .ref a ∧ (∃ xs, SqL K H1 a xs) ∧ R (Itl K a) H1) : iSeq K tl σ H R := .inl h
theorem q_seqT {K : PySem.W.Frag} {tl : TE} {σ : L2.St} {H : Hp} {R : It → Hp → Prop} (h : tl σ H fun x H1 => ∃ a, x = .ref a ∧ (∃ xs, SqT K H1 a xs) ∧ R (Itt K a) H1) : iSeq K tl σ H R := .inr h
theorem q_iTup {K : PySem.W.Frag} {tl : TE} {σ : L2.St} {H : Hp} {R : It → Hp → Prop} (h : tl σ H fun x H1 => ∃ a, x = .ref a ∧ (∃ xs, SqT K H1 a xs) ∧ R (Itt K a) H1) : iTup K tl σ H R := h
theorem q_iTupb {K : PySem.W.Frag} {a : Addr} {H : Hp} {xs : List V} {R : Addr → Prop} (h1 : SqT K H a xs) (h : R a) : ∃ b, V.ref a = .ref b ∧ (∃ xs, SqT K H b xs) ∧ R b := ⟨a, rfl, ⟨xs, h1⟩, h⟩
theorem kp_revL {X : Cx} {K : PySem.W.Frag} {e : Expr} {te : TE} {k : Nat} {p1 p2 p3 pos : Pos} (hK : X.K = K) (he : PE X e te) : PE X (.Subscript e (.Slice none none (some (.UnaryOp .USub (.Constant (.int 1) k p1) p2)) p3) pos) (tRevL K te) := by
  subst hK
  exact pe_revL he
theorem q_revL {K : PySem.W.Frag} {te : TE} {σ : L2.St} {H : Hp} {Q : VK} (h : te σ H fun x H1 => ∃ a xs, x = .ref a ∧ SqL K H1 a xs ∧ ∀ p, H1 p = none → Q (.ref p) (upd H1 p (.lst xs.reverse))) : tRevL K te σ H Q := h
theorem q_revLb {K : PySem.W.Frag} {H : Hp} {a : Addr} {xs : List V} {P : Addr → List V → Prop} (h1 : SqL K H a xs) (h : P a xs) : ∃ b xs, V.ref a = .ref b ∧ SqL K H b xs ∧ P b xs := ⟨a, xs, rfl, h1, h⟩
theorem q_yes {σ : L2.St} {H : Hp} {Q : Bool → Hp → Prop} (h : Q true H) : tYes σ H Q := h
theorem walk_zipT {K : PySem.W.Frag} {a b : Addr} {xs ys : List V} : Walk (RZ.ItzT K a b) (min xs.length ys.length) (fun H => SqT K H a xs ∧ SqT K H b ys) (YPair (fun i => xs[i]?) (fun i => ys[i]?)) := by
  constructor
  · rintro i H hi ⟨q1, q2⟩
    have h1 : i < xs.length := by omega
    have h2 : i < ys.length := by omega
    exact ⟨xs, ys, xs[i], ys[i], q1, q2, by simp [h1], by simp [h2]⟩
  · rintro H ⟨q1, q2⟩
    exact ⟨xs, ys, q1, q2, by omega⟩
  · rintro i H x H' hi ⟨q1, q2⟩ ⟨T, u, v, h1, h2, h3, h4, h5⟩
    exact ⟨T, u, v, h1, h2, h3, h4 xs q1, h5 ys q2⟩
/-- over two tuples side by side, each element a function of both items -/
theorem lc_zipF {K : PySem.W.Frag} {a b : Addr} {xs ys : List V} {i j : Nat} {g : TG} {te : TE} {σ : L2.St} {H1 : Hp} {D : Addr} {Qd : Hp → Prop} (f : V → V → V) (ha : SqT K H1 a xs) (hb : SqT K H1 b ys) (hl : xs.length ≤ 100000) (hD : H1 D = none)
    (he : ∀ x ∈ xs, ∀ y ∈ ys, ∀ p H2 (R : VK), Same H1 H2 → H2 p = some (.tup [x, y]) → (∀ H4, Same H2 H4 → R (f x y) H4) → g (.ref p) (wipe σ [i, j]) H2 fun σ2 H3 => wipe σ2 [i, j] = wipe σ [i, j] ∧ te σ2 H3 R)
    (hd : ∀ H', Same H1 H' → H' D = some (.lst ((xs.zip ys).map fun z => f z.1 z.2)) → Qd H') (gm : ∀ x H' Q Q', (∀ σ H, Q σ H → Q' σ H) → g x (wipe σ [i, j]) H' Q → g x (wipe σ [i, j]) H' Q') :
    ∃ W : Nat → Nat → Hp → Prop, (∃ m, W 0 m (upd H1 D (.lst []))) ∧ ∀ k m H, W k m H →
      ((RZ.ItzT K a b).stop k H ∧ Qd H) ∨ ((RZ.ItzT K a b).go k H ∧ ∃ Nx : Hp → Prop, (∀ H', Nx H' → ∃ m', m' < m ∧ W (k + 1) m' H') ∧ ∀ x H', (RZ.ItzT K a b).yld k H x H' → g x (wipe σ [i, j]) H' fun σ2 H2 => wipe σ2 [i, j] = wipe σ [i, j] ∧ tYes σ2 H2 fun b H3 =>
        if b = true then te σ2 H3 fun y H4 => ∃ acc, H4 D = some (.lst acc) ∧ acc.length < sizeLine ∧ Nx (upd H4 D (.lst (acc ++ [y]))) else Nx H3) := by
  refine lc_grow walk_zipT ((xs.zip ys).map fun z => f z.1 z.2) (by simp) (by omega) (fun _ s => ⟨s.seqT ha, s.seqT hb⟩) hD ?_ hd gm
  rintro k x H2 H' R hk s2 hy hR
  obtain ⟨p, u, v, rfl, hp, rfl, e1, e2⟩ := hy
  refine he u (List.mem_of_getElem? e1) v (List.mem_of_getElem? e2) p _ R (s2.trans (Same.new hp)) upd_same fun H4 s4 => hR _ _ ?_ ((Same.new hp).trans s4)
  rw [List.getElem?_map, show (xs.zip ys)[k]? = some (u, v) from List.getElem?_zip_eq_some.mpr ⟨e1, e2⟩]
  rfl
/-- the frame by its name, where the place is within a handler -/
theorem kbm {X : Cx} {K : PySem.W.Frag} {e : Expr} {T : String} {r : V → List V → Hp → VK → Prop} {to : TE} {t : TA} (hK : X.K = K) (h : PE X e (tBM X.K T r to t)) : PE X e (tBM K T r to t) := hK ▸ h

section
variable {K : PySem.W.Frag} {σ : L2.St} {H : Hp} {Q : VK} {C a dx : Addr} {m : Str} {fs : List (Str × V)} {E : XK} {sp : Sp} {ta : TE} {t tk : TA}
theorem q_methN {n j : Nat} {gV : List V → List V → List V} (h : ta σ H fun x H1 => ∃ a dx fs, x = .ref a ∧ H1 a = some (.ins C dx fs) ∧ fs.lookup m = none ∧ t σ H1 fun vs H2 => tk σ H2 fun zs H3 => vs.length = n ∧ zs.length = j ∧ sp (gV (x :: vs) zs) H3 Q E) : tMethN C m n j sp gV E ta t tk σ H Q := h
theorem q_enumT {R : It → Hp → Prop} (h : t σ H fun vs H1 => ∃ a xs, vs = [.ref a] ∧ SqT K H1 a xs ∧ R (ItEt K a) H1) : iEnumT K t σ H R := h
theorem q_enumTb {xs : List V} {R : Addr → Prop} (h1 : SqT K H a xs) (h : R a) : ∃ b xs, [V.ref a] = [.ref b] ∧ SqT K H b xs ∧ R b := ⟨a, xs, rfl, h1, h⟩
theorem q_insert {p : Addr} {xs : List V} {i : Int} {y : V} (h : H p = some (.lst xs)) (hl : xs.length < sizeLine) (h0 : 0 ≤ i) (h1 : i < 2 ^ 63) (q : Q .non (upd H p (.lst (xs.take i.toNat ++ [y] ++ xs.drop i.toNat)))) :
    ∃ (l : Addr) (xs : List V) (j : Int) (z : V), V.ref p = .ref l ∧ [V.int i, y] = [.int j, z] ∧ H l = some (.lst xs) ∧ xs.length < sizeLine ∧ 0 ≤ j ∧ j < 2 ^ 63 ∧ Q .non (upd H l (.lst (xs.take j.toNat ++ [z] ++ xs.drop j.toNat))) := ⟨p, xs, i, y, rfl, rfl, h, hl, h0, h1, q⟩
end
/-- side by side -/
inductive All2 {β : Type} (P : V → β → Prop) : List V → List β → Prop
  | nil : All2 P [] []
  | cons {x : V} {c : β} {xs : List V} {cs : List β} : P x c → All2 P xs cs → All2 P (x :: xs) (c :: cs)
section
variable {β : Type} {P P' : V → β → Prop} {xs ys : List V} {cs ds : List β} {x : V} {c : β}
theorem All2.len (h : All2 P xs cs) : xs.length = cs.length := by
  induction h with
  | nil => rfl
  | cons _ _ ih => simp [ih]
theorem All2.mono (h : All2 P xs cs) (m : ∀ x c, P x c → P' x c) : All2 P' xs cs := by
  induction h with
  | nil => exact .nil
  | cons a _ ih => exact .cons (m _ _ a) ih
theorem All2.app (h : All2 P xs cs) (h2 : All2 P ys ds) : All2 P (xs ++ ys) (cs ++ ds) := by
  induction h with
  | nil => exact h2
  | cons a _ ih => exact .cons a ih
theorem All2.snoc (h : All2 P xs cs) (hx : P x c) : All2 P (xs ++ [x]) (cs ++ [c]) := h.app (.cons hx .nil)
theorem All2.take (h : All2 P xs cs) (n : Nat) : All2 P (xs.take n) (cs.take n) := by
  induction h generalizing n with
  | nil => simp; exact .nil
  | cons a _ ih =>
    cases n with
    | zero => exact .nil
    | succ n => exact .cons a (ih n)
theorem All2.drop (h : All2 P xs cs) (n : Nat) : All2 P (xs.drop n) (cs.drop n) := by
  induction h generalizing n with
  | nil => simp; exact .nil
  | cons a t ih =>
    cases n with
    | zero => exact .cons a t
    | succ n => exact ih n
theorem All2.get (h : All2 P xs cs) {k : Nat} (e : xs[k]? = some x) : ∃ c, cs[k]? = some c ∧ P x c := by
  induction h generalizing k with
  | nil => simp at e
  | cons a _ ih =>
    cases k with
    | zero =>
      simp at e
      subst e
      exact ⟨_, rfl, a⟩
    | succ k => exact ih (by simpa using e)
theorem All2.mem (h : All2 P xs cs) (e : x ∈ xs) : ∃ c, c ∈ cs ∧ P x c := by
  obtain ⟨k, hk⟩ := List.mem_iff_getElem?.mp e
  obtain ⟨c, h1, h2⟩ := h.get hk
  exact ⟨c, List.mem_of_getElem? h1, h2⟩
theorem All2.maps {γ : Type} {R : V → γ → Prop} {f : β → γ} (h : All2 P xs cs) (m : ∀ x c, P x c → R x (f c)) : All2 R xs (cs.map f) := by
  induction h with
  | nil => exact .nil
  | cons a _ ih => exact .cons (m _ _ a) ih
theorem All2.ofMap {γ : Type} {f : β → γ} {R : V → γ → Prop} (h : All2 R xs (cs.map f)) : All2 (fun x c => R x (f c)) xs cs := by
  induction cs generalizing xs with
  | nil => cases h; exact .nil
  | cons c cs ih =>
    cases h with
    | cons a t => exact .cons a (ih t)
end
/-- slices by whole bounds that lie within -/
theorem cut_pre {xs : List V} {k : Nat} (h : k ≤ xs.length) : cutV xs none (some (k : Int)) = xs.take k := by
  unfold cutV
  rw [HT.sIx_none, HT.sIx_nat, Nat.min_eq_left h]
  simp
theorem cut_suf {xs : List V} {k : Nat} (h : k ≤ xs.length) : cutV xs (some (k : Int)) none = xs.drop k := by
  unfold cutV
  rw [HT.sIx_none, HT.sIx_nat, Nat.min_eq_left h]
  exact List.take_of_length_le (by rw [List.length_drop]; omega)
theorem inV_ints {k : Int} {ns : List Int} : inV (.int k) (ns.map V.int) = decide (k ∈ ns) := by
  unfold inV
  induction ns with
  | nil => rfl
  | cons n ns ih =>
    rw [List.map_cons, List.any_cons, ih]
    have e : eqV (.int n) (.int k) = decide (n = k) := by
      show (n == k) = decide (n = k)
      rfl
    rw [e]
    by_cases h : n = k
    · subst h
      simp
    · rw [decide_eq_false h, Bool.false_or]
      by_cases h2 : k ∈ ns
      · rw [decide_eq_true h2, decide_eq_true (List.mem_cons_of_mem _ h2)]
      · rw [decide_eq_false h2, decide_eq_false]
        intro z
        rcases List.mem_cons.mp z with z | z
        · exact h z.symm
        · exact h2 z
theorem flat_ints {ns : List Int} : (ns.map V.int).all flatV = true := by
  induction ns with
  | nil => rfl
  | cons n ns ih =>
    rw [List.map_cons, List.all_cons, ih]
    rfl
theorem q_inI {K : PySem.W.Frag} {H : Hp} {Q : VK} {p : Addr} {k : Int} {ns : List Int} (h : SqL K H p (ns.map V.int)) (q : Q (.bl (decide (k ∈ ns))) H) : rIn K false (.int k) (.ref p) H Q :=
  ⟨p, _, rfl, .inl h, rfl, flat_ints, by
    show Q (.bl (inV (.int k) (ns.map V.int))) H
    rw [inV_ints]
    exact q⟩
/-- a list or a tuple of these -/
def LT (H : Hp) (a : Addr) (xs : List V) : Prop := H a = some (.lst xs) ∨ H a = some (.tup xs)
theorem LT.same {H H' : Hp} {a : Addr} {xs : List V} (h : LT H a xs) (s : Same H H') : LT H' a xs := h.imp (fun e => s _ _ e) (fun e => s _ _ e)
theorem LT.ty {K : PySem.W.Frag} {H : Hp} {a : Addr} {xs : List V} (h : LT H a xs) : ∃ t, TyX K H (.ref a) t ∧ PySem.W.kitAny K t [.type "list", .type "tuple"] = some true := by
  rcases h with h | h
  · exact ⟨_, .base (.lst h), ka_t kt_list_list⟩
  · exact ⟨_, .base (.tup h), ka_f kt_tuple_list (ka_t kt_tuple_tuple)⟩
theorem LT.ob {H : Hp} {a : Addr} {xs : List V} (h : LT H a xs) : ∃ o, (o = .lst xs ∨ o = .tup xs) ∧ H a = some o := by
  rcases h with h | h
  · exact ⟨_, .inl rfl, h⟩
  · exact ⟨_, .inr rfl, h⟩
/-- a for over a list or a tuple that stays -/
theorem q_forSeq {K : PySem.W.Frag} {a : Addr} {xs : List V} {o : HO} {j : Nat} {g : TG} {tb : TS} {D : Ends} {σ : L2.St} {H : Hp} (hj : σ[j]? = some (some (.ref a))) (ho : o = .lst xs ∨ o = .tup xs) (h1 : H a = some o) (Pv : Nat → L2.St → Hp → Prop) (h0 : Pv 0 σ H) (hl : ∀ i σ H, i ≤ xs.length → Pv i σ H → H a = some o)
    (hs : ∀ i x σ H, xs[i]? = some x → Pv i σ H → g x σ H fun σ2 H2 => tb { D with nx := Pv (i + 1), ct := Pv (i + 1), bk := D.nx } σ2 H2) (hd : ∀ σ H, Pv xs.length σ H → D.nx σ H) :
    iSeq K (tVar j) σ H fun J H1 => ∃ W : Nat → Nat → L2.St → Hp → Prop, (∃ m, W 0 m σ H1) ∧ ∀ i m σ H, W i m σ H →
      (J.stop i H ∧ D.nx σ H) ∨ (J.go i H ∧ ∃ N : L2.St → Hp → Prop, (∀ σ' H', N σ' H' → ∃ m', m' < m ∧ W (i + 1) m' σ' H') ∧ ∀ x H', J.yld i H x H' → g x σ H' fun σ2 H2 => tb { D with nx := N, ct := N, bk := D.nx } σ2 H2) := by
  rcases ho with rfl | rfl
  · exact .inl ⟨_, hj, a, rfl, ⟨xs, SqL.of h1⟩, for_list Pv h0 (fun i σ H hi p => SqL.of (hl i σ H hi p)) hs hd⟩
  · exact .inr ⟨_, hj, a, rfl, ⟨xs, SqT.of h1⟩, for_tup Pv h0 (fun i σ H hi p => SqT.of (hl i σ H hi p)) hs hd⟩
theorem ixN_at {n j : Nat} (hj : j < n) : ixN n (j : Int) = some j := by
  show (if 0 ≤ (j : Int) then (if (j : Int) < n then some (j : Int).toNat else none) else _) = some j
  rw [if_pos (by omega), if_pos (by omega), Int.toNat_natCast]
/-- no list of the heap -/
def NoL (H : Hp) (x : V) : Prop := (∀ a, x ≠ .ref a) ∨ ∃ a o, x = .ref a ∧ H a = some o ∧ ∀ xs, o ≠ .lst xs
theorem NoL.same {H H' : Hp} {x : V} (h : NoL H x) (s : Same H H') : NoL H' x := by
  rcases h with h | ⟨a, o, e, h1, h2⟩
  · exact .inl h
  · exact .inr ⟨a, o, e, s _ _ h1, h2⟩
theorem NoL.no {H : Hp} {x : V} {a : Addr} {xs : List V} (h : NoL H x) (ex : x = .ref a) (e : H a = some (.lst xs)) : False := by
  rcases h with h | ⟨b, o, e2, h1, h2⟩
  · exact h a ex
  · rw [ex] at e2
    obtain rfl : a = b := V.ref.inj e2
    rw [e] at h1
    exact h2 xs (Option.some.inj h1).symm
/-- a pair of ints -/
def PairAt (H : Hp) (x : V) (c : Int × Int) : Prop := ∃ t, x = .ref t ∧ H t = some (.tup [.int c.1, .int c.2])
theorem PairAt.same {H H' : Hp} {x : V} {c : Int × Int} (h : PairAt H x c) (s : Same H H') : PairAt H' x c := by
  obtain ⟨t, e, h1⟩ := h
  exact ⟨t, e, s _ _ h1⟩
/-- a pair of ints that is not the thing at D -/
def PairD (D : Addr) (H : Hp) (x : V) (c : Int × Int) : Prop := ∃ t, x = .ref t ∧ t ≠ D ∧ H t = some (.tup [.int c.1, .int c.2])
theorem PairD.same {D : Addr} {H H' : Hp} {x : V} {c : Int × Int} (h : PairD D H x c) (s : Same H H') : PairD D H' x c := by
  obtain ⟨t, e, n, h1⟩ := h
  exact ⟨t, e, n, s _ _ h1⟩
theorem PairD.upd {D : Addr} {H : Hp} {x : V} {c : Int × Int} {o : HO} (h : PairD D H x c) : PairD D (upd H D o) x c := by
  obtain ⟨t, e, n, h1⟩ := h
  exact ⟨t, e, n, (upd_ne n).trans h1⟩
theorem PairD.at {D : Addr} {H : Hp} {x : V} {c : Int × Int} (h : PairD D H x c) : PairAt H x c := by
  obtain ⟨t, e, n, h1⟩ := h
  exact ⟨t, e, h1⟩
def pairOf (c : Int × Int) : PyData := .tuple [.int c.1, .int c.2]
theorem PairAt.dp {K : PySem.W.Frag} {H : Hp} {xs : List V} {cs : List (Int × Int)} (h : All2 (PairAt H) xs cs) : DpAll K H xs (cs.map pairOf) := by
  induction h with
  | nil => exact .nil
  | cons a _ ih =>
    obtain ⟨t, rfl, ht⟩ := a
    exact .cons (.tup (SqT.of ht) (.cons (.int _) (.cons (.int _) .nil))) ih
theorem eqv_pairs {cs ds : List (Int × Int)} : PyData.eqvAll (cs.map pairOf) (ds.map pairOf) = decide (cs = ds) := by
  induction cs generalizing ds with
  | nil => cases ds <;> simp [PyData.eqvAll]
  | cons c cs ih =>
    cases ds with
    | nil => simp [PyData.eqvAll]
    | cons d ds =>
      have e : PyData.eqv (pairOf c) (pairOf d) = decide (c = d) := by
        obtain ⟨c1, c2⟩ := c
        obtain ⟨d1, d2⟩ := d
        unfold pairOf
        simp only [PyData.eqv, PyData.eqvAll, Prod.mk.injEq, Bool.decide_and, Bool.and_true]
        rfl
      simp only [List.map_cons, PyData.eqvAll, ih, e, List.cons.injEq, Bool.decide_and]
theorem lay_pairs {cs : List (Int × Int)} : PyData.canLayAll0 (cs.map pairOf) = true := by
  induction cs with
  | nil => rfl
  | cons c cs ih =>
    show (PyData.canLay0 (pairOf c) && PyData.canLayAll0 (cs.map pairOf)) = true
    rw [ih]
    rfl
theorem depth_pairs {cs : List (Int × Int)} : PyData.depthAll (cs.map pairOf) ≤ 3 := by
  induction cs with
  | nil => exact Nat.zero_le _
  | cons c cs ih =>
    show max (PyData.depth (pairOf c)) (PyData.depthAll (cs.map pairOf)) ≤ 3
    have h1 : PyData.depth (pairOf c) ≤ 3 := by
      unfold pairOf
      exact (by decide : (PyData.depth (.tuple [.int 0, .int 0])) ≤ 3)
    omega
theorem sh_pairs {cs : List (Int × Int)} : SeqAt.shaped (.list (cs.map pairOf)) = true := by
  show (PyData.canLayAll0 (cs.map pairOf) && decide (PyData.depthAll (cs.map pairOf) + 1 ≤ 64)) = true
  rw [lay_pairs, Bool.true_and, decide_eq_true_eq]
  have := depth_pairs (cs := cs)
  omega
theorem q_neLP {K : PySem.W.Frag} {H : Hp} {Q : VK} {a b : Addr} {xs ys : List V} {cs ds : List (Int × Int)} (h1 : SqL K H a xs) (h2 : SqL K H b ys) (hx : All2 (PairAt H) xs cs) (hy : All2 (PairAt H) ys ds) (q : Q (.bl (!decide (cs = ds))) H) : rNeD K (.ref a) (.ref b) H Q :=
  q_neD (.lst h1 (PairAt.dp hx)) (.lst h2 (PairAt.dp hy)) sh_pairs sh_pairs (by rw [show PyData.eqv (.list (cs.map pairOf)) (.list (ds.map pairOf)) = decide (cs = ds) from eqv_pairs]; exact q)
theorem PairD.all {D : Addr} {H : Hp} {xs : List V} {cs : List (Int × Int)} (h : All2 (PairD D H) xs cs) : All2 (PairAt H) xs cs := h.mono fun _ _ z => z.at
theorem PairAt.all {H H' : Hp} {xs : List V} {cs : List (Int × Int)} (h : All2 (PairAt H) xs cs) (s : Same H H') : All2 (PairAt H') xs cs := h.mono fun _ _ z => z.same s
theorem PairAt.updL {H : Hp} {l : Addr} {zs xs : List V} {o : HO} {cs : List (Int × Int)} (h : All2 (PairAt H) xs cs) (e : H l = some (.lst zs)) : All2 (PairAt (upd H l o)) xs cs := h.mono fun x c z => by
  obtain ⟨t, ex, h1⟩ := z
  refine ⟨t, ex, (upd_ne (fun q => ?_)).trans h1⟩
  rw [q, e] at h1
  cases h1
theorem rep_ints {c : Int} {n : Nat} : (List.replicate n [V.int c]).flatten = (List.replicate n c).map V.int := by
  induction n with
  | zero => rfl
  | succ n ih => rw [List.replicate_succ, List.flatten_cons, ih]; rfl
theorem nn_rep {c : Int} {n : Nat} (h : 0 ≤ c) : NN ((List.replicate n c).map V.int) := NN.of fun m hm => by
  have := List.eq_of_mem_replicate hm
  omega
theorem atI_mapN {ns : List Int} {i : Nat} (h : i < ns.length) : atI (ns.map V.int) (i : Int) = some (V.int (ns.getD i 0)) := by
  have z := atI_map h
  rwa [Int.zero_add] at z
theorem set_cut {ms : List Int} {j : Nat} {x : Int} (h : j < ms.length) : (ms.map V.int).take j ++ [V.int x] ++ (ms.map V.int).drop (j + 1) = (ms.set j x).map V.int := by
  rw [List.set_eq_take_append_cons_drop, if_pos h, List.map_append, List.map_cons, List.map_take, List.map_drop, List.append_assoc]
  rfl
theorem at_all {α : Type} (xs : List α) (P : α → Prop) {i : Int} (hP : ∀ x ∈ xs, P x) (h0 : 0 ≤ i) (h1 : i < xs.length) : ∃ m, atI xs i = some m ∧ P m := by
  obtain ⟨j, rfl⟩ := Int.eq_ofNat_of_zero_le h0
  have hj : j < xs.length := by omega
  exact ⟨xs[j], atI_nat (by simp [hj]), hP _ (List.getElem_mem hj)⟩

section
variable {K : PySem.W.Frag} {σ : L2.St} {H : Hp} {Q : VK} {D : Ends} {a p : Addr} {x y v : V} {td ty to ti te : TE}
theorem q_augS {tget : V → V → Hp → VK → Prop} {tip : TIp} {tset : TSet} (h : to σ H fun o H1 => ti σ H1 fun i H2 => tget o i H2 fun x H3 => te σ H3 fun y H4 => tip x y H4 fun z H5 => tset o i z H5 fun H6 => D.nx σ H6) : tAugS to ti te tget tip tset D σ H := h
theorem q_getL {xs : List V} {j : Nat} (h : SqL K H p xs) (e : xs[j]? = some v) (q : Q v H) : rGetL K (.ref p) (.int (j : Nat)) H Q := ⟨p, xs, j, v, rfl, rfl, h, e, q⟩
theorem q_ipI {f : Int → Int → Int} {i j : Int} (q : Q (.int (f i j)) H) : ipI f (.int i) (.int j) H Q := ⟨i, j, rfl, rfl, q⟩
theorem q_setLN {xs : List V} {j : Nat} {Q : Hp → Prop} (h : H p = some (.lst xs)) (hj : j < xs.length) (q : Q (upd H p (.lst (xs.set j v)))) : rSetL (.ref p) (.int (j : Nat)) v H Q := q_setL h (ixN_at hj) q
theorem q_dget (h : td σ H fun x H1 => ty σ H1 fun y H2 => ∃ a v, x = .ref a ∧ DGet H2 a y (some v) ∧ Q v H2) : tDGet td ty σ H Q := h
theorem vv_pos {kvs : List (Key × V)} {s : Key} {v : V} : valV ((s, v) :: kvs) s = some v := valV_pos rfl
theorem q_dgetS {kvs : List (Key × V)} {s : Str} {P : V → Prop} (e : H a = some (.dK kvs)) (hv : valV kvs (.inr s) = some v) (h : P v) : ∃ b w, V.ref a = .ref b ∧ DGet H b (.str s) (some w) ∧ P w := ⟨a, v, rfl, hv ▸ (DGet.k e : DGet H a (kV (.inr s)) (valV kvs (.inr s))), h⟩
theorem q_inP {xs : List V} {cs : List (Int × Int)} {c : Int × Int} (h1 : SqL K H a xs) (h : All2 (PairAt H) xs cs) (hx : PairAt H x c) (q : Q (.bl (decide (c ∈ cs))) H) : rInD K x (.ref a) H Q := by
  obtain ⟨t, rfl, ht⟩ := hx
  refine ⟨pairOf c, cs.map pairOf, .tup (SqT.of ht) (.cons (.int _) (.cons (.int _) .nil)), .lst h1 (PairAt.dp h), rfl, sh_pairs, ?_⟩
  have e : ((cs.map pairOf).any fun z => PyData.eqv z (pairOf c)) = decide (c ∈ cs) := by
    clear h q
    induction cs with
    | nil => rfl
    | cons d cs ih =>
      have e1 : PyData.eqv (pairOf d) (pairOf c) = decide (d = c) := by
        obtain ⟨c1, c2⟩ := c
        obtain ⟨d1, d2⟩ := d
        unfold pairOf
        simp only [PyData.eqv, PyData.eqvAll, Prod.mk.injEq, Bool.decide_and, Bool.and_true]
        rfl
      rw [List.map_cons, List.any_cons, ih, e1]
      by_cases h : d = c
      · subst h
        simp
      · have h' : ¬ c = d := fun z => h z.symm
        simp [h, h']
  rw [e]
  exact q
theorem q_notInP {xs : List V} {cs : List (Int × Int)} {c : Int × Int} (h1 : SqL K H a xs) (h : All2 (PairAt H) xs cs) (hx : PairAt H x c) (q : Q (.bl (!decide (c ∈ cs))) H) : rNotInD K x (.ref a) H Q := by
  have z : rInD K x (.ref a) H (fun w H' => w = .bl (decide (c ∈ cs)) ∧ H' = H) := q_inP h1 h hx ⟨rfl, rfl⟩
  obtain ⟨d, ds, g1, g2, g3, g4, g5, _⟩ := z
  exact ⟨d, ds, g1, g2, g3, g4, by rw [V.bl.inj g5]; exact q⟩
end
theorem room1 {k : Nat} {A : Around} (r : Room k A) : A.units + 1 < cLine := by
  have := r.un
  omega
theorem room65 {k : Nat} {A : Around} (r : Room k A) : A.units + 65 < cLine := by
  have := r.un
  omega
/-- what is no whole number from l on -/
def NotWn (K : PySem.W.Frag) (H : Hp) (l : Int) (x : V) : Prop := (∃ n, x = .int n ∧ ¬ l ≤ n) ∨ (∃ b, x = .bl b) ∨ ∃ t, TyX K H x t ∧ PySem.W.kitOne K t (.type "int") = some false
theorem NotWn.same {K : PySem.W.Frag} {H H' : Hp} {l : Int} {x : V} (h : NotWn K H l x) (s : Same H H') : NotWn K H' l x := by
  rcases h with h | h | ⟨t, h1, h2⟩
  · exact .inl h
  · exact .inr (.inl h)
  · exact .inr (.inr ⟨t, h1.mono s, h2⟩)
theorem cut1 {x : V} {ys : List V} : cutV (x :: ys) (some 1) none = ys := cut_suf (xs := x :: ys) (k := 1) (by simp)
theorem slt1 {x : V} {ys : List V} : ¬ (HT.sIx (x :: ys).length 0 (some 1) = 0 ∧ HT.sIx (x :: ys).length (x :: ys).length none = (x :: ys).length) := fun h => by
  have z := h.1
  have e : HT.sIx (x :: ys).length 0 (some ((1 : Nat) : Int)) = min 1 (x :: ys).length := HT.sIx_nat _ _ _
  rw [show (1 : Int) = ((1 : Nat) : Int) from rfl, e, List.length_cons] at z
  omega
theorem kps_fld {X : Cx} {K : PySem.W.Frag} {st : Stmt} {ta tv : TE} {f : Str} (hK : X.K = K) (h : PS X st (sFld X.K ta tv f)) : PS X st (sFld K ta tv f) := hK ▸ h
/-- the rest of a tuple behind its first -/
theorem q_slT1 {K : PySem.W.Frag} {H : Hp} {Q : VK} {p : Addr} {x : V} {ys : List V} (h : H p = some (.tup (x :: ys))) (q : ∀ d, H d = none → Q (.ref d) (upd H d (.tup ys))) : rSlT K (.ref p) (some 1) none H Q := q_slT (SqT.of h) slt1 (by rw [cut1]; exact q)
theorem putF_nil {f : Str} {v : V} : putF f v [] = [(f, v)] := rfl
theorem putF_ne {f g : Str} {v z : V} {fs : List (Str × V)} (h : ¬ g = f) : putF f v ((g, z) :: fs) = (g, z) :: putF f v fs := by
  show (if g = f then (g, v) :: fs else (g, z) :: putF f v fs) = _
  rw [if_neg h]
theorem putF_hit {f : Str} {v z : V} {fs : List (Str × V)} : putF f v ((f, z) :: fs) = (f, v) :: fs := by
  show (if f = f then (f, v) :: fs else (f, z) :: putF f v fs) = _
  rw [if_pos rfl]
section
variable {H : Hp} {Q : VK} {p : Addr} {xs : List V}
theorem q_rep1 (h : H p = some (.lst xs)) (hl : xs.length ≤ 1000) (q : ∀ d, H d = none → Q (.ref d) (upd H d (.lst xs))) : rRep (.ref p) (.int (if true = true then 1 else 0)) H Q := by
  refine q_rep (k := 1) h (by decide) (by decide) (line_of (by show xs.length * 1 ≤ _; omega)) ?_
  have e : (List.replicate (1 : Int).toNat xs).flatten = xs := by
    show (List.replicate 1 xs).flatten = xs
    simp
  rw [e]
  exact q
theorem q_rep0 (h : H p = some (.lst xs)) (q : ∀ d, H d = none → Q (.ref d) (upd H d (.lst []))) : rRep (.ref p) (.int (if false = true then 1 else 0)) H Q := by
  refine q_rep (k := 0) h (by decide) (by decide) (line_of (by show xs.length * 0 ≤ _; omega)) ?_
  exact q
end
theorem Rd.up {H H' : Hp} (s : Same H H') {a : Addr} {o : HO} (h : Rd H a o) : Rd H' a o := h.imp (s _ _) (fun ⟨o, q⟩ => ⟨o, s _ _ q⟩)
theorem SqL.up {K : PySem.W.Frag} {H H' : Hp} (s : Same H H') {a : Addr} {xs : List V} (h : SqL K H a xs) : SqL K H' a xs := h.imp (Rd.up s) id
theorem SqT.up {K : PySem.W.Frag} {H H' : Hp} (s : Same H H') {a : Addr} {xs : List V} (h : SqT K H a xs) : SqT K H' a xs := h.imp (Rd.up s) id
mutual
theorem Dp.up {K : PySem.W.Frag} {H H' : Hp} (s : Same H H') {v : V} {d : PyData} : Dp K H v d → Dp K H' v d
  | .non => .non
  | .bl b => .bl b
  | .int i => .int i
  | .str x => .str x
  | .lst h ha => .lst (SqL.up s h) (DpAll.up s ha)
  | .tup h ha => .tup (SqT.up s h) (DpAll.up s ha)
theorem DpAll.up {K : PySem.W.Frag} {H H' : Hp} (s : Same H H') {vs : List V} {ds : List PyData} : DpAll K H vs ds → DpAll K H' vs ds
  | .nil => .nil
  | .cons h t => .cons (Dp.up s h) (DpAll.up s t)
end

/-! ### displays: each thing read by itself, with a continuation that is not known -/
def Con (P : Hp → V → Prop) (σ : L2.St) (t : TE) : Prop := ∀ H (Q : VK), (∀ v H', Same H H' → P H' v → Q v H') → t σ H Q
def ConA (P : Hp → V → Prop) (σ : L2.St) (n : Nat) (t : TA) : Prop := ∀ H (Q : List V → Hp → Prop), (∀ vs H', Same H H' → vs.length = n → (∀ v ∈ vs, P H' v) → Q vs H') → t σ H Q
theorem ConA.nil {P : Hp → V → Prop} {σ : L2.St} : ConA P σ 0 tNil := fun H Q k => q_nil (k [] H (Same.refl _) rfl (fun v h => nomatch h))
theorem ConA.cons {P : Hp → V → Prop} {σ : L2.St} {n : Nat} {t : TE} {u : TA} (hP : ∀ H H' v, Same H H' → P H v → P H' v) (h1 : Con P σ t) (h2 : ConA P σ n u) : ConA P σ (n + 1) (tCons t u) :=
  fun H Q k => q_cons (h1 _ _ fun v H1 s1 p1 => h2 _ _ fun vs H2 s2 l2 p2 => k (v :: vs) H2 (s1.trans s2) (by rw [List.length_cons, l2]) (fun w hw => by
    rcases List.mem_cons.mp hw with rfl | hw
    · exact hP _ _ _ s2 p1
    · exact p2 _ hw))
theorem q_lstC {P : Hp → V → Prop} {σ : L2.St} {n : Nat} {t : TA} {H : Hp} {Q : VK} (hP : ∀ H H' v, Same H H' → P H v → P H' v) (hn : n ≤ 1000) (h : ConA P σ n t) (q : ∀ l vs H', Same H H' → H l = none → H' l = some (.lst vs) → vs.length = n → (∀ v ∈ vs, P H' v) → Q (.ref l) H') : tLst t σ H Q :=
  q_lst (h H _ fun vs H1 s1 l1 p1 => ⟨by rw [l1]; exact Nat.le_trans hn (by decide), fun p hp => q p vs _ (s1.snew (s1.free hp)) (s1.free hp) upd_same l1 fun v hv => hP _ _ _ (Same.new hp) (p1 v hv)⟩)
theorem q_cut {t : TE} {σ : L2.St} {H : Hp} {Q : VK} (F : V → Hp → Prop) (h : ∀ Q : VK, (∀ v H', F v H' → Q v H') → t σ H Q) (k : ∀ v H', F v H' → Q v H') : t σ H Q := h Q k

local macro_rules | `(tactic| walk_at "at") => `(tactic| first | assumption | with_reducible exact at0 | with_reducible exact at1 | with_reducible exact at2 | with_reducible exact at3 | with_reducible exact at4 | fail)
/-! ### steps: side conditions (sd), what stands at an address (lk, sq), a reading's next steps (rd) -/
local macro_rules | `(tactic| walk_at "ne") => `(tactic| first | assumption | (apply Ne.symm; assumption) | (refine' ne_of_none ?h1 ?h2; (case h1 => assumption); (case h2 => walk_at "fr")) | (refine' ne_of_none upd_same ?h2; (case h2 => walk_at "fr")) | (apply Ne.symm; refine' ne_of_none ?h1 ?h2; (case h1 => assumption); (case h2 => walk_at "fr")) | (apply Ne.symm; refine' ne_of_none upd_same ?h2; (case h2 => walk_at "fr")) | (refine' ne_of_none ?h1 ?h2; (case h2 => assumption); (case h1 => walk_at "lk")) | (apply Ne.symm; refine' ne_of_none ?h1 ?h2; (case h2 => assumption); (case h1 => walk_at "lk")) | fail)
local macro_rules | `(tactic| walk_at "lk") => `(tactic| first | assumption | exact upd_same | (refine' Eq.trans (upd_ne ?h1) ?h2; (case h1 => walk_at "ne"); (case h2 => walk_at "lk")) | (refine' same_at ?h1 ?h2; (case h1 => assumption); (case h2 => walk_at "lk")) | (refine' fr1_at ?h1 ?h2 ?h3; (case h1 => assumption); (case h2 => walk_at "ne"); (case h3 => walk_at "lk")) | fail)
local macro_rules | `(tactic| walk_at "sq") => `(tactic| first | assumption | ((with_reducible refine' SqL.of ?h1); (case h1 => walk_at "lk")) | ((with_reducible refine' SqT.of ?h1); (case h1 => walk_at "lk")) | ((with_reducible refine' Same.seq ?h1 ?h2); (case h1 => assumption); (case h2 => walk_at "sq")) | ((with_reducible refine' Same.seqT ?h1 ?h2); (case h1 => assumption); (case h2 => walk_at "sq")) | fail)
local macro_rules | `(tactic| walk_at "sd") => `(tactic| first | omega | (dsimp only; omega) | (simp only [PySem.Str.length_append]; omega) | with_reducible assumption | assumption | (simp; done) | (simp; omega) | decide | rfl | fail)
local macro_rules | `(tactic| walk_at "sdI") => `(tactic| first | (show (0:Int) < _; walk_at "sd") | exact wide_div (b := 8000) (by walk_at "sd") (by walk_at "sd") (by decide) (by decide) | exact Or.inr ⟨by walk_at "sd", by walk_at "sd"⟩ | exact Or.inl ⟨by walk_at "sd", by walk_at "sd"⟩ | exact ⟨by walk_at "sd", by walk_at "sd", by walk_at "sd"⟩ | walk_at "sd" | fail)
local macro_rules | `(tactic| walk_at "rd0") => `(tactic| first
  | with_reducible refine q_seq ?_ | with_reducible refine q_asg ?_ | with_reducible refine q_op ?_ | ((with_reducible refine' q_var ?h1 ?_); (case h1 => exact rfl)) | with_reducible refine q_c ?_
  | with_reducible refine q_gname ?_ | with_reducible refine q_test ?_ | with_reducible refine q_k ?_ | with_reducible refine q_cons ?_ | with_reducible refine q_nil ?_ | with_reducible refine q_cb ?_ | with_reducible refine q_call0 ?_ | ((with_reducible refine q_call ?_))
  | with_reducible refine q_if ?_ | with_reducible refine q_ret ?_ | with_reducible refine q_retN ?_ | with_reducible refine q_drop ?_ | with_reducible refine q_next ?_ | with_reducible refine q_brk ?_ | with_reducible refine q_cont ?_
  | with_reducible refine q_ifN ?_ | with_reducible refine q_ifA ?_ | with_reducible refine q_ifO ?_ | with_reducible refine q_ift ?_ | with_reducible refine q_iff ?_
  | with_reducible refine q_un ?_ | with_reducible refine q_B ?_ | with_reducible refine q_and ?_ | with_reducible refine q_or ?_ | with_reducible refine q_not ?_ | with_reducible refine q_andV ?_ | with_reducible refine q_orV ?_ | with_reducible refine q_notV ?_ | with_reducible refine q_ifE ?_ | with_reducible refine q_chain ?_
  | with_reducible refine q_gsub ?_ | with_reducible refine q_gnil ?_ | with_reducible refine q_gcons ?_ | with_reducible refine q_fld ?_ | with_reducible refine q_sl ?_ | with_reducible refine q_nopart ?_ | with_reducible refine q_part ?_ | with_reducible refine q_i ?_ | with_reducible refine q_bm ?_
  | with_reducible refine q_lst ?_ | with_reducible refine q_tup ?_ | ((with_reducible refine q_new ?h1 ?_); (case h1 => walk_at "sd"))
  | with_reducible refine q_I0 ?_ | ((with_reducible refine q_I ?h1 ?_); (case h1 => walk_at "sdI")) | with_reducible refine q_U ?_
  | with_reducible refine q_eqI ?_ | with_reducible refine q_eqS ?_ | with_reducible refine q_eqB ?_ | ((with_reducible refine q_eq0 ?h1 ?h2 ?_); (case h1 => rfl); (case h2 => (intro z; cases z)))
  | with_reducible refine q_neI ?_ | with_reducible refine q_neS ?_ | with_reducible refine q_neB ?_ | ((with_reducible refine q_ne0 ?h1 ?h2 ?_); (case h1 => rfl); (case h2 => (intro z; cases z)))
  | with_reducible refine q_isT ?_ | with_reducible refine q_isF ?_ | with_reducible refine q_notT ?_ | with_reducible refine q_notF ?_ | with_reducible refine q_isB ?_ | with_reducible refine q_notB ?_ | with_reducible refine q_isNonT ?_ | ((with_reducible refine q_isNonF ?h1 ?_); (case h1 => (intro z; cases z))) | with_reducible refine q_notNonF ?_ | ((with_reducible refine q_notNonT ?h1 ?_); (case h1 => (intro z; cases z)))
  | ((with_reducible refine' q_ixL ?h1 ?h2 ?_); (case h1 => walk_at "sq"); (case h2 => walk_at "at"))
  | ((with_reducible refine' q_ixT ?h1 ?h2 ?_); (case h1 => walk_at "sq"); (case h2 => walk_at "at"))
  | ((with_reducible refine' q_ixS ?h1 ?h2 ?_); (case h1 => walk_at "sd"); (case h2 => walk_at "at"))
  | ((with_reducible refine' q_setL ?h1 ?h2 ?_); (case h1 => walk_at "lk"); (case h2 => rfl))
  | ((with_reducible refine' q_append ?h1 ?h2 ?_); (case h1 => walk_at "lk"); (case h2 => (refine line_lt ?_; walk_at "sd")))
  | ((with_reducible refine' q_tyL ?h1 ?_); (case h1 => walk_at "lk"))
  | ((with_reducible refine' q_slL ?h1 ?_); (case h1 => walk_at "sq"))
  | ((with_reducible refine' q_cat ?h1 ?h2 ?h3 ?_); (case h1 => walk_at "lk"); (case h2 => walk_at "lk"); (case h3 => (refine line_of ?_; walk_at "sd")))
  | ((with_reducible refine q_addStr ?h1 ?_); (case h1 => (refine line_of ?_; walk_at "sd"))) | with_reducible refine q_ltStr ?_ | ((with_reducible refine' q_leStr1 ?h1 ?h2 ?_); (case h1 => (first | assumption | exact rfl)); (case h2 => (first | assumption | exact rfl))) | with_reducible refine q_leStr ?_ | ((with_reducible refine' q_all ?h1 ?_); (case h1 => walk_at "sq")) | ((with_reducible refine' q_any ?h1 ?_); (case h1 => walk_at "sq")) | with_reducible refine q_inSign ?_
  | ((with_reducible refine q_lenS ?h1 ?_); (case h1 => (refine line_of ?_; walk_at "sd"))) | ((with_reducible refine' q_lenL ?h1 ?_); (case h1 => walk_at "sq")) | ((with_reducible refine' q_lenT ?h1 ?_); (case h1 => walk_at "sq"))
  | ((with_reducible refine q_slS ?h1 ?_); (case h1 => (refine line_of ?_; walk_at "sd"))) | with_reducible refine q_callN ?_ | with_reducible refine q_2 rfl rfl ?_ | with_reducible refine q_make0 ?_ | with_reducible refine q_meth0 ?_
  | with_reducible refine q_for ?_ | with_reducible refine q_lc ?_ | with_reducible refine q_rng1 ?_ | ((with_reducible refine q_rng1b ?h1 ?h2 ?_); (case h1 => walk_at "sd"); (case h2 => walk_at "sd")) | with_reducible refine q_iList ?_ | ((with_reducible refine' q_iListb ?h1 ?_); (case h1 => walk_at "sq")) | with_reducible refine q_iStr ?_ | with_reducible refine q_iStrb ?_
  | ((with_reducible refine' q_listL ?h1 ?_); (case h1 => walk_at "sq")) | ((with_reducible refine' q_listT ?h1 ?_); (case h1 => walk_at "sq")) | ((with_reducible refine' q_tupleL ?h1 ?_); (case h1 => walk_at "sq")) | ((with_reducible refine' q_tupleT ?h1 ?_); (case h1 => walk_at "sq")) | ((with_reducible refine' q_sum ?h1 ?_); (case h1 => walk_at "sq"))
  | ((with_reducible refine' q_eqDt ?h1 ?h2 ?h3 ?h4 ?h5 ?_); (case h1 => walk_at "dp"); (case h2 => walk_at "dp"); (case h3 => exact rfl); (case h4 => exact rfl); (case h5 => walk_at "eqv"))
  | with_reducible refine q_dnewK ?_ | with_reducible refine q_disp ?_ | with_reducible refine q_pairs0 ?_ | with_reducible refine q_pairs ?_
  | ((with_reducible refine' q_isiT ?h1 ?h2 ?h3 ?h4 ?_); (case h1 => walk_at "lk"); (case h2 => walk_at "prd"); (case h3 => walk_at "tyx"); (case h4 => walk_at "kia"))
  | with_reducible refine q_sfld ?_ | ((with_reducible refine' q_sfldb ?h1 ?h2 ?h3 ?h4 ?_); (case h1 => walk_at "lk"); (case h2 => walk_at "cls"); (case h3 => walk_at "noa"); (case h4 => walk_at "sd")) | ((with_reducible refine' q_fldb ?h1 ?h2 ?h3 ?h4 ?_); (case h1 => walk_at "lk"); (case h2 => walk_at "cls"); (case h3 => walk_at "noa"); (case h4 => walk_at "lu"))
  | with_reducible refine q_nn ?_
  | with_reducible refine q_max2 ?_ | with_reducible refine q_min2 ?_
  | ((with_reducible refine' q_isi ?h1 ?h2 ?h3 ?_); (case h1 => (first | exact ClsV.ty _ | exact ClsV.own _)); (case h2 => walk_at "tyx"); (case h3 => walk_at "kit")) | fail)
local macro_rules | `(tactic| walk_at "tyx") => `(tactic| first | assumption | exact .base (.int _) | exact .base (.str _) | exact .base (.bl _) | exact .base .non | exact .base (.lst (by assumption)) | exact .base (.tup (by assumption)) | exact .base (.dK (by assumption)) | walk_at "tya" | walk_at "tyo" | ((with_reducible refine' .base (.lst ?h1)); (case h1 => walk_at "lk")) | ((with_reducible refine' .base (.tup ?h1)); (case h1 => walk_at "lk")) | ((with_reducible refine' .base (.dK ?h1)); (case h1 => walk_at "lk")) | (refine' TyX.mono ?h1 ?h2; (case h1 => assumption); (case h2 => walk_at "sm")) | fail)
local macro_rules | `(tactic| walk_at "kit") => `(tactic| first | assumption | walk_at "kio" | with_reducible exact kt_NoneType_int | with_reducible exact kt_NoneType_str | with_reducible exact kt_NoneType_bool | with_reducible exact kt_NoneType_list | with_reducible exact kt_NoneType_tuple | with_reducible exact kt_NoneType_dict | with_reducible exact kt_bool_int | with_reducible exact kt_bool_str | with_reducible exact kt_bool_bool | with_reducible exact kt_bool_list | with_reducible exact kt_bool_tuple | with_reducible exact kt_bool_dict | with_reducible exact kt_int_int | with_reducible exact kt_int_str | with_reducible exact kt_int_bool | with_reducible exact kt_int_list | with_reducible exact kt_int_tuple | with_reducible exact kt_int_dict | with_reducible exact kt_str_int | with_reducible exact kt_str_str | with_reducible exact kt_str_bool | with_reducible exact kt_str_list | with_reducible exact kt_str_tuple | with_reducible exact kt_str_dict | with_reducible exact kt_list_int | with_reducible exact kt_list_str | with_reducible exact kt_list_bool | with_reducible exact kt_list_list | with_reducible exact kt_list_tuple | with_reducible exact kt_list_dict | with_reducible exact kt_tuple_int | with_reducible exact kt_tuple_str | with_reducible exact kt_tuple_bool | with_reducible exact kt_tuple_list | with_reducible exact kt_tuple_tuple | with_reducible exact kt_tuple_dict | with_reducible exact kt_dict_int | with_reducible exact kt_dict_str | with_reducible exact kt_dict_bool | with_reducible exact kt_dict_list | with_reducible exact kt_dict_tuple | with_reducible exact kt_dict_dict | fail)
local macro_rules | `(tactic| walk_at "rd") => `(tactic| repeat (first | walk_at "rd0" | walk_at "rc" | ((with_reducible refine q_ifd ?h1 ?_); (case h1 => walk_at "cd")) | ((with_reducible refine q_ifn ?h1 ?_); (case h1 => walk_at "cd")) | intro _))
local macro_rules | `(tactic| walk_at "sp") => `(tactic| first | with_reducible refine q_ifx (fun _ => ?_) (fun _ => ?_) | with_reducible refine q_ifs (fun _ => ?_) (fun _ => ?_) | fail)
local macro_rules | `(tactic| walk_at "rdx") => `(tactic| (walk_at "rd"; (try (walk_at "sp" <;> walk_at "rdx"))))
local macro_rules | `(tactic| walk_at "sv") => `(tactic| first | rfl | (simp_all; done) | (simp_all; omega) | (simp_all <;> intros <;> omega) | (simp; omega) | fail)
local macro_rules | `(tactic| walk_at "dp") => `(tactic| first | assumption | exact Dp.int _ | exact Dp.bl _ | exact Dp.str _ | exact Dp.non | ((with_reducible refine' Dp.lst ?h1 ?h2); (case h1 => walk_at "sq"); (case h2 => walk_at "dps")) | ((with_reducible refine' Dp.tup ?h1 ?h2); (case h1 => walk_at "sq"); (case h2 => walk_at "dps")) | fail)
local macro_rules | `(tactic| walk_at "dps") => `(tactic| first | assumption | exact DpAll.nil | ((with_reducible refine' DpAll.cons ?h1 ?h2); (case h1 => walk_at "dp"); (case h2 => walk_at "dps")) | fail)
local macro_rules | `(tactic| walk_at "rf") => `(tactic| first | assumption | exact cs_0 | exact cs_9 | exact cs_a | exact cs_z | exact rfl | fail)
local macro_rules | `(tactic| walk_at "fr") => `(tactic| first | assumption | exact upd_free (by assumption) | exact upd_free (upd_free (by assumption)) | exact upd_free (upd_free (upd_free (by assumption))) | exact upd_free (upd_free (upd_free (upd_free (by assumption)))) | exact upd_free (upd_free (upd_free (upd_free (upd_free (by assumption))))) | exact upd_free (upd_free (upd_free (upd_free (upd_free (upd_free (by assumption)))))) | exact upd_free (upd_free (upd_free (upd_free (upd_free (upd_free (upd_free (by assumption))))))) | exact upd_free (upd_free (upd_free (upd_free (upd_free (upd_free (upd_free (upd_free (by assumption)))))))) | exact upd_free (upd_free (upd_free (upd_free (upd_free (upd_free (upd_free (upd_free (upd_free (by assumption))))))))) | exact upd_free (upd_free (upd_free (upd_free (upd_free (upd_free (upd_free (upd_free (upd_free (upd_free (by assumption)))))))))) | exact upd_free (upd_free (upd_free (upd_free (upd_free (upd_free (upd_free (upd_free (upd_free (upd_free (upd_free (by assumption))))))))))) | exact upd_free (upd_free (upd_free (upd_free (upd_free (upd_free (upd_free (upd_free (upd_free (upd_free (upd_free (upd_free (by assumption)))))))))))) | exact upd_free (upd_free (upd_free (upd_free (upd_free (upd_free (upd_free (upd_free (upd_free (upd_free (upd_free (upd_free (upd_free (by assumption))))))))))))) | exact upd_free (upd_free (upd_free (upd_free (upd_free (upd_free (upd_free (upd_free (upd_free (upd_free (upd_free (upd_free (upd_free (upd_free (by assumption)))))))))))))) | exact upd_free (upd_free (upd_free (upd_free (upd_free (upd_free (upd_free (upd_free (upd_free (upd_free (upd_free (upd_free (upd_free (upd_free (upd_free (by assumption))))))))))))))) | (refine' Same.free ?h1 ?h2; (case h1 => assumption); (case h2 => walk_at "fr")) | fail)
local macro_rules | `(tactic| walk_at "sm") => `(tactic| first | assumption | exact Same.refl _ | (refine Same.snew ?h1 ?h2; (case h2 => walk_at "fr"); (case h1 => walk_at "sm")) | (refine' Same.fr1 ?h1 ?h2 ?h3; (case h2 => assumption); (case h3 => walk_at "fr"); (case h1 => walk_at "sm")) | (refine' Same.trans ?h1 ?h2; (case h2 => assumption); (case h1 => walk_at "sm")) | fail)
local macro_rules | `(tactic| walk_at "eqv") => `(tactic| first | (simp [PyData.eqv, PyData.eqvAll, *]; done) | (simp_all [PyData.eqv, PyData.eqvAll]; done) | fail)
local macro_rules | `(tactic| walk_at "prd") => `(tactic| first | exact Paired.nil | (refine' Paired.cons ?h1 ?h2; (case h1 => (first | exact ClsV.ty _ | exact ClsV.own _)); (case h2 => walk_at "prd")) | fail)
local macro_rules | `(tactic| walk_at "kia") => `(tactic| first | assumption | exact ka_nil | exact ka_t (by walk_at "kit") | (refine ka_f (by walk_at "kit") ?_; walk_at "kia") | fail)
local macro_rules | `(tactic| walk_at "lu") => `(tactic| first | assumption | with_reducible exact lu_hd | (refine Eq.trans (lu_tl (by decide +kernel)) ?_; walk_at "lu") | fail)
local macro_rules | `(tactic| walk_at "nn") => `(tactic| first | assumption | exact NN.nil | (refine NN.cons (by walk_at "sd") ?_; walk_at "nn") | fail)
local macro_rules | `(tactic| walk_at "rdn") => `(tactic| repeat (first | walk_at "rd0" | walk_at "rc" | ((with_reducible refine q_ifd ?h1 ?_); (case h1 => walk_at "cd")) | ((with_reducible refine q_ifn ?h1 ?_); (case h1 => walk_at "cd"))))

local macro_rules | `(tactic| walk_at "as") => `(tactic| first | assumption | fail)
local macro_rules | `(tactic| walk_at "lun") => `(tactic| first | assumption | exact lu_nil | (refine lu_tlN (by decide +kernel) ?_; walk_at "lun") | fail)
local macro_rules | `(tactic| walk_at "xm") => `(tactic| first
  | walk_at "xm1"
  | (refine' Eq.trans (xa_cons ?h1 (xa_cons ?h2 xa_nil)) ?h3; (case h1 => walk_at "xm1"); (case h2 => walk_at "xm1"); (case h3 => exact rfl))
  | (refine' Eq.trans (xa_cons ?h1 (xa_cons ?h2 (xa_cons ?h4 xa_nil))) ?h3; (case h1 => walk_at "xm1"); (case h2 => walk_at "xm1"); (case h4 => walk_at "xm1"); (case h3 => exact rfl))
  | (refine' Eq.trans (xa_cons ?h1 (xa_cons ?h2 (xa_cons ?h4 (xa_cons ?h5 xa_nil)))) ?h3; (case h1 => walk_at "xm1"); (case h2 => walk_at "xm1"); (case h4 => walk_at "xm1"); (case h5 => walk_at "xm1"); (case h3 => exact rfl)) | fail)
local macro_rules | `(tactic| walk_at "e1") => `(tactic| first | assumption | exact E1.same _ | exact e1_str | exact e1_int | exact e1_bl | exact e1_non | fail)
local macro_rules | `(tactic| walk_at "e1s") => `(tactic| first | assumption | exact E1s.nil | ((with_reducible refine' E1s.cons ?h1 ?h2); (case h1 => walk_at "e1"); (case h2 => walk_at "e1s")) | fail)
local macro_rules | `(tactic| walk_at "rd0") => `(tactic| first
  | with_reducible refine q_raise ?_ | with_reducible refine q_try ?_ | with_reducible refine q_wE ?_
  | ((with_reducible refine' q_clN ?h1 ?_); (case h1 => walk_at "xm")) | ((with_reducible refine' q_clN0 ?h1 ?_); (case h1 => walk_at "xm"))
  | ((with_reducible refine' q_clP ?h1 ?_); (case h1 => walk_at "xm")) | ((with_reducible refine' q_clP0 ?h1 ?_); (case h1 => walk_at "xm"))
  | with_reducible refine q_xg ?_ | ((with_reducible refine' q_xgb ?h1 ?h2 ?h3 ?h4 ?_); (case h1 => walk_at "lk"); (case h2 => walk_at "xf"); (case h3 => walk_at "xn"); (case h4 => walk_at "lu"))
  | ((with_reducible refine' q_isX ?h1 ?h2 ?h3 ?h4 ?_); (case h1 => walk_at "lk"); (case h2 => walk_at "xc"); (case h3 => (first | exact ClsV.ty _ | exact ClsV.own _)); (case h4 => walk_at "kit"))
  | with_reducible refine q_callSD ?_ | with_reducible refine q_methE ?_ | with_reducible refine q_makeE ?_ | ((with_reducible refine' q_methb ?h1 ?h2 ?_); (case h1 => walk_at "lk"); (case h2 => walk_at "lun"))
  | ((with_reducible refine' q_lenO ?h1 ?_); (case h1 => walk_at "lk")) | ((with_reducible refine' q_lenI ?h1 ?h2 ?_); (case h1 => walk_at "sd"); (case h2 => walk_at "sd"))
  | ((with_reducible refine' q_eqO ?h1 ?h2 ?_); (case h1 => walk_at "lk"); (case h2 => walk_at "lk")) | with_reducible refine q_bz ?_
  | ((with_reducible refine' q_fldP ?h1 ?h2 ?h3 ?h4 ?_); (case h1 => walk_at "lk"); (case h2 => walk_at "cls"); (case h3 => walk_at "noa"); (case h4 => walk_at "lu"))
  | ((with_reducible refine' q_eqTI ?h1 ?h2 ?_); (case h1 => walk_at "sq"); (case h2 => walk_at "sq")) | ((with_reducible refine' q_neTI ?h1 ?h2 ?_); (case h1 => walk_at "sq"); (case h2 => walk_at "sq")) | ((with_reducible refine' q_eqLI ?h1 ?h2 ?_); (case h1 => walk_at "sq"); (case h2 => walk_at "sq")) | ((with_reducible refine' q_neLI ?h1 ?h2 ?_); (case h1 => walk_at "sq"); (case h2 => walk_at "sq"))
  | with_reducible refine q_revL ?_ | ((with_reducible refine' q_revLb ?h1 ?_); (case h1 => walk_at "sq")) | with_reducible refine q_iTup ?_ | ((with_reducible refine' q_iTupb ?h1 ?_); (case h1 => walk_at "sq"))
  | with_reducible refine q_intB ?_ | with_reducible refine q_intI ?_ | with_reducible refine q_yes ?_ | ((with_reducible refine' q_ixL ?h1 ?h2 ?_); (case h1 => walk_at "sq"); (case h2 => (refine atI_map ?_; walk_at "sd")))
  | with_reducible refine q_zipA ?_ | ((with_reducible refine' q_zipT ?h1 ?h2 ?_); (case h1 => walk_at "sq"); (case h2 => walk_at "sq")) | ((with_reducible refine' q_gtup ?h1 ?h2 ?_); (case h1 => walk_at "sq"); (case h2 => exact rfl))
  | ((with_reducible refine' q_neXT ?h1 ?h2 ?h3 ?_); (case h1 => walk_at "sq"); (case h2 => walk_at "sq"); (case h3 => walk_at "e1s")) | ((with_reducible refine' q_eqXT ?h1 ?h2 ?h3 ?_); (case h1 => walk_at "sq"); (case h2 => walk_at "sq"); (case h3 => walk_at "e1s")) | fail)
local macro_rules | `(tactic| walk_at "sd") => `(tactic| first | omega | (simp only [List.length_map, List.length_range, List.length_cons, List.length_nil, List.length_append, List.length_zip, List.length_zipWith] at *; omega) | fail)
local macro_rules | `(tactic| walk_at "cd") => `(tactic| first | assumption | omega | (simp only [List.length_map, List.length_range, List.length_cons, List.length_nil, List.length_append]; omega) | with_reducible decide | exact rfl | fail)

local macro_rules | `(tactic| walk_at "at") => `(tactic| first | with_reducible exact at0z | with_reducible exact at1z | with_reducible exact at2z | fail)

local macro_rules | `(tactic| walk_at "rd0") => `(tactic| first
  | with_reducible refine q_meth0 ?_ | with_reducible refine q_methd ?_ | with_reducible refine q_methE ?_ | with_reducible refine q_methEd ?_ | with_reducible refine q_methN ?_ | with_reducible refine q_enumT ?_ | ((with_reducible refine' q_enumTb ?h1 ?_); (case h1 => walk_at "sq"))
  | ((with_reducible refine' q_insert ?h1 ?h2 ?h3 ?h4 ?_); (case h1 => walk_at "lk"); (case h2 => (refine line_lt ?_; walk_at "sd")); (case h3 => walk_at "sd"); (case h4 => walk_at "sd"))
  | ((with_reducible refine' q_ixL ?h1 ?h2 ?_); (case h1 => walk_at "sq"); (case h2 => ((with_reducible refine atI_mapN ?_); walk_at "sd")))
  | ((with_reducible refine' q_ixT ?h1 ?h2 ?_); (case h1 => walk_at "sq"); (case h2 => ((with_reducible refine atI_mapN ?_); walk_at "sd")))
  | ((with_reducible refine' q_inI ?h1 ?_); (case h1 => walk_at "sq")) | fail)

local macro_rules | `(tactic| walk_at "vv") => `(tactic| first | exact vv_pos | (refine' Eq.trans (valV_neg ?hn) ?_; (case hn => (show ¬ ((Sum.inr _ : Key) = Sum.inr _); decide +kernel)); walk_at "vv") | fail)
local macro_rules | `(tactic| walk_at "rd0") => `(tactic| first
  | with_reducible refine q_augS ?_ | ((with_reducible refine' q_getL ?h1 ?h2 ?_); (case h1 => walk_at "sq"); (case h2 => assumption)) | with_reducible refine q_ipI ?_
  | ((with_reducible refine' q_setLN ?h1 ?h2 ?_); (case h1 => walk_at "lk"); (case h2 => walk_at "sd"))
  | ((with_reducible refine' q_slT1 ?h1 ?_); (case h1 => walk_at "lk"))
  | ((with_reducible refine' q_rep1 ?h1 ?h2 ?_); (case h1 => walk_at "lk"); (case h2 => walk_at "sd")) | ((with_reducible refine' q_rep0 ?h1 ?_); (case h1 => walk_at "lk"))
  | with_reducible refine q_dget ?_ | ((with_reducible refine' q_dgetS ?h1 ?h2 ?_); (case h1 => walk_at "lk"); (case h2 => walk_at "vv")) | fail)

def topS (i : Nat) : Stmt := PySem.Challenge.pw_causehall_k78_plain_deeds.main.body.getD i (.Pass ⟨0, 0, 0, 0⟩)

abbrev s_is_whole : Stmt := topS 10
theorem sc_is_whole : FnScope ["thing", "low", "high"] ["thing", "low", "high"] (defScope s_is_whole) := ⟨rfl, rfl, rfl, by decide +kernel, rfl, by decide +kernel, by decide +kernel⟩
abbrev s_is_member : Stmt := topS 14
theorem sc_is_member : FnScope ["thing", "members"] ["thing", "members"] (defScope s_is_member) := ⟨rfl, rfl, rfl, by decide +kernel, rfl, by decide +kernel, by decide +kernel⟩
abbrev s_check_members : Stmt := topS 16
theorem sc_check_members : FnScope ["members"] ["members"] (defScope s_check_members) := ⟨rfl, rfl, rfl, by decide +kernel, rfl, by decide +kernel, by decide +kernel⟩
abbrev s_check_member : Stmt := topS 17
theorem sc_check_member : FnScope ["member", "members"] ["member", "members"] (defScope s_check_member) := ⟨rfl, rfl, rfl, by decide +kernel, rfl, by decide +kernel, by decide +kernel⟩
abbrev s_is_ident : Stmt := topS 15
theorem sc_is_ident : FnScope ["thing", "members", "high"] ["thing", "members", "high"] (defScope s_is_ident) := ⟨rfl, rfl, rfl, by decide +kernel, rfl, by decide +kernel, by decide +kernel⟩
abbrev s_is_plain_deed : Stmt := topS 20
theorem sc_is_plain_deed : FnScope ["thing", "members"] ["thing", "members"] (defScope s_is_plain_deed) := ⟨rfl, rfl, rfl, by decide +kernel, rfl, by decide +kernel, by decide +kernel⟩
abbrev s_PlainHall_init : Stmt := inClass (topS 19) 0
theorem sc_PlainHall_init : FnScope ["self", "members"] ["self", "members"] (defScope s_PlainHall_init) := ⟨rfl, rfl, rfl, by decide +kernel, rfl, by decide +kernel, by decide +kernel⟩
abbrev s_PlainHall_len : Stmt := inClass (topS 19) 1
theorem sc_PlainHall_len : FnScope ["self"] ["self"] (defScope s_PlainHall_len) := ⟨rfl, rfl, rfl, by decide +kernel, rfl, by decide +kernel, by decide +kernel⟩
abbrev s_PlainHall_row : Stmt := inClass (topS 19) 4
theorem sc_PlainHall_row : FnScope ["self"] ["self"] (defScope s_PlainHall_row) := ⟨rfl, rfl, rfl, by decide +kernel, rfl, by decide +kernel, by decide +kernel⟩
abbrev s_PlainHall_told_by : Stmt := inClass (topS 19) 5
theorem sc_PlainHall_told_by : FnScope ["self", "member"] ["self", "member"] (defScope s_PlainHall_told_by) := ⟨rfl, rfl, rfl, by decide +kernel, rfl, by decide +kernel, by decide +kernel⟩
abbrev s_PlainHall_state : Stmt := inClass (topS 19) 6
theorem sc_PlainHall_state : FnScope ["self"] ["self"] (defScope s_PlainHall_state) := ⟨rfl, rfl, rfl, by decide +kernel, rfl, by decide +kernel, by decide +kernel⟩
abbrev s_PlainHall_eq : Stmt := inClass (topS 19) 2
theorem sc_PlainHall_eq : FnScope ["self", "other"] ["self", "other"] (defScope s_PlainHall_eq) := ⟨rfl, rfl, rfl, by decide +kernel, rfl, by decide +kernel, by decide +kernel⟩
abbrev s_PlainHall_add : Stmt := inClass (topS 19) 8
theorem sc_PlainHall_add : FnScope ["self", "ident", "sender", "number", "ahead"] ["self", "ident"] (defScope s_PlainHall_add) := ⟨rfl, rfl, rfl, by decide +kernel, rfl, by decide +kernel, by decide +kernel⟩
abbrev s_PlainHall_tell : Stmt := inClass (topS 19) 9
theorem sc_PlainHall_tell : FnScope ["self", "member", "at"] ["self", "member"] (defScope s_PlainHall_tell) := ⟨rfl, rfl, rfl, by decide +kernel, rfl, by decide +kernel, by decide +kernel⟩
abbrev s_PlainHall_twin : Stmt := inClass (topS 19) 7
theorem sc_PlainHall_twin : FnScope ["self", "twin"] ["self"] (defScope s_PlainHall_twin) := ⟨rfl, rfl, rfl, by decide +kernel, rfl, by decide +kernel, by decide +kernel⟩
abbrev s_PlainHall_do : Stmt := inClass (topS 19) 3
theorem sc_PlainHall_do : FnScope ["self", "deed"] ["self", "deed"] (defScope s_PlainHall_do) := ⟨rfl, rfl, rfl, by decide +kernel, rfl, by decide +kernel, by decide +kernel⟩
abbrev s_law_cell_at : Stmt := topS 22
theorem sc_law_cell_at : FnScope ["script", "k"] ["script", "k"] (defScope s_law_cell_at) := ⟨rfl, rfl, rfl, by decide +kernel, rfl, by decide +kernel, by decide +kernel⟩
abbrev s_law_take : Stmt := topS 24
theorem sc_law_take : FnScope ["pool", "size", "found"] ["pool", "size"] (defScope s_law_take) := ⟨rfl, rfl, rfl, by decide +kernel, rfl, by decide +kernel, by decide +kernel⟩
abbrev s_law_pool : Stmt := topS 23
theorem sc_law_pool : FnScope ["cell", "number", "k", "mix"] ["cell"] (defScope s_law_pool) := ⟨rfl, rfl, rfl, by decide +kernel, rfl, by decide +kernel, by decide +kernel⟩
abbrev s_law_did : Stmt := topS 25
theorem sc_law_did : FnScope ["plain", "deed", "told", "e", "words", "lacks"] ["plain", "deed"] (defScope s_law_did) := ⟨rfl, rfl, rfl, by decide +kernel, rfl, by decide +kernel, by decide +kernel⟩
abbrev s_law_due : Stmt := topS 26
theorem sc_law_due : FnScope ["state", "deed", "place", "ident"] ["state", "deed"] (defScope s_law_due) := ⟨rfl, rfl, rfl, by decide +kernel, rfl, by decide +kernel, by decide +kernel⟩
abbrev s_law_no_member : Stmt := topS 27
theorem sc_law_no_member : FnScope ["plain", "thing", "e"] ["plain", "thing"] (defScope s_law_no_member) := ⟨rfl, rfl, rfl, by decide +kernel, rfl, by decide +kernel, by decide +kernel⟩
abbrev s_law_stands : Stmt := topS 28
theorem sc_law_stands : FnScope ["plain", "state", "row", "due", "member"] ["plain", "state"] (defScope s_law_stands) := ⟨rfl, rfl, rfl, by decide +kernel, rfl, by decide +kernel, by decide +kernel⟩
abbrev s_law_made : Stmt := topS 30
theorem sc_law_made : FnScope ["thing", "e"] ["thing"] (defScope s_law_made) := ⟨rfl, rfl, rfl, by decide +kernel, rfl, by decide +kernel, by decide +kernel⟩
abbrev s_law_done : Stmt := topS 31
theorem sc_law_done : FnScope ["plain", "state", "deed", "due"] ["plain", "state", "deed"] (defScope s_law_done) := ⟨rfl, rfl, rfl, by decide +kernel, rfl, by decide +kernel, by decide +kernel⟩
abbrev s_law_bad : Stmt := topS 29
theorem sc_law_bad : FnScope ["plain", "state", "members", "some", "thing"] ["plain", "state"] (defScope s_law_bad) := ⟨rfl, rfl, rfl, by decide +kernel, rfl, by decide +kernel, by decide +kernel⟩
abbrev s_law : Stmt := topS 32
theorem sc_law : FnScope ["script", "sizes", "some", "states", "cell", "pool", "side", "way", "twin", "far", "kept", "state", "member", "number", "deed", "size", "ident", "thing"] ["script"] (defScope s_law) := ⟨rfl, rfl, rfl, by decide +kernel, rfl, by decide +kernel, by decide +kernel⟩
structure Tx (K : PySem.W.Frag) (mg : Str → Option Value) where
  f_is_whole : Addr
  d_is_whole : FuncData
  F_is_whole : FunD K "is_whole" "is_whole" (defArgs s_is_whole) (defBody s_is_whole) (defScope s_is_whole) [.non] [] f_is_whole d_is_whole
  m_is_whole : mg "is_whole" = some (.ref f_is_whole)
  k_is_whole : PySem.W.keepIn K (.ref f_is_whole) = true
  b_is_whole : Binds K d_is_whole ["thing", "low", "high"] []
  f_is_member : Addr
  d_is_member : FuncData
  F_is_member : Fun K "is_member" "is_member" s_is_member f_is_member d_is_member
  m_is_member : mg "is_member" = some (.ref f_is_member)
  k_is_member : PySem.W.keepIn K (.ref f_is_member) = true
  b_is_member : Binds K d_is_member ["thing", "members"] []
  f_check_members : Addr
  d_check_members : FuncData
  F_check_members : Fun K "check_members" "check_members" s_check_members f_check_members d_check_members
  m_check_members : mg "check_members" = some (.ref f_check_members)
  k_check_members : PySem.W.keepIn K (.ref f_check_members) = true
  b_check_members : Binds K d_check_members ["members"] []
  f_check_member : Addr
  d_check_member : FuncData
  F_check_member : Fun K "check_member" "check_member" s_check_member f_check_member d_check_member
  m_check_member : mg "check_member" = some (.ref f_check_member)
  k_check_member : PySem.W.keepIn K (.ref f_check_member) = true
  b_check_member : Binds K d_check_member ["member", "members"] []
  f_is_ident : Addr
  d_is_ident : FuncData
  F_is_ident : FunD K "is_ident" "is_ident" (defArgs s_is_ident) (defBody s_is_ident) (defScope s_is_ident) [.non] [] f_is_ident d_is_ident
  m_is_ident : mg "is_ident" = some (.ref f_is_ident)
  k_is_ident : PySem.W.keepIn K (.ref f_is_ident) = true
  ds_is_ident_2 : List Value
  v_is_ident_2 : Vals [.non] ds_is_ident_2
  b_is_ident_2 : Binds K d_is_ident ["thing", "members", "high"] ds_is_ident_2
  b_is_ident : Binds K d_is_ident ["thing", "members", "high"] []
  f_is_plain_deed : Addr
  d_is_plain_deed : FuncData
  F_is_plain_deed : Fun K "is_plain_deed" "is_plain_deed" s_is_plain_deed f_is_plain_deed d_is_plain_deed
  m_is_plain_deed : mg "is_plain_deed" = some (.ref f_is_plain_deed)
  k_is_plain_deed : PySem.W.keepIn K (.ref f_is_plain_deed) = true
  b_is_plain_deed : Binds K d_is_plain_deed ["thing", "members"] []
  f_PlainHall_init : Addr
  d_PlainHall_init : FuncData
  F_PlainHall_init : Fun K "__init__" "PlainHall.__init__" s_PlainHall_init f_PlainHall_init d_PlainHall_init
  b_PlainHall_init : Binds K d_PlainHall_init ["self", "members"] []
  f_PlainHall_len : Addr
  d_PlainHall_len : FuncData
  F_PlainHall_len : Fun K "__len__" "PlainHall.__len__" s_PlainHall_len f_PlainHall_len d_PlainHall_len
  b_PlainHall_len : Binds K d_PlainHall_len ["self"] []
  f_PlainHall_row : Addr
  d_PlainHall_row : FuncData
  F_PlainHall_row : Fun K "row" "PlainHall.row" s_PlainHall_row f_PlainHall_row d_PlainHall_row
  b_PlainHall_row : Binds K d_PlainHall_row ["self"] []
  f_PlainHall_told_by : Addr
  d_PlainHall_told_by : FuncData
  F_PlainHall_told_by : Fun K "told_by" "PlainHall.told_by" s_PlainHall_told_by f_PlainHall_told_by d_PlainHall_told_by
  b_PlainHall_told_by : Binds K d_PlainHall_told_by ["self", "member"] []
  f_PlainHall_state : Addr
  d_PlainHall_state : FuncData
  F_PlainHall_state : Fun K "state" "PlainHall.state" s_PlainHall_state f_PlainHall_state d_PlainHall_state
  b_PlainHall_state : Binds K d_PlainHall_state ["self"] []
  f_PlainHall_eq : Addr
  d_PlainHall_eq : FuncData
  F_PlainHall_eq : Fun K "__eq__" "PlainHall.__eq__" s_PlainHall_eq f_PlainHall_eq d_PlainHall_eq
  b_PlainHall_eq : Binds K d_PlainHall_eq ["self", "other"] []
  f_PlainHall_add : Addr
  d_PlainHall_add : FuncData
  F_PlainHall_add : Fun K "_add" "PlainHall._add" s_PlainHall_add f_PlainHall_add d_PlainHall_add
  b_PlainHall_add : Binds K d_PlainHall_add ["self", "ident"] []
  f_PlainHall_tell : Addr
  d_PlainHall_tell : FuncData
  F_PlainHall_tell : Fun K "_tell" "PlainHall._tell" s_PlainHall_tell f_PlainHall_tell d_PlainHall_tell
  b_PlainHall_tell : Binds K d_PlainHall_tell ["self", "member"] []
  f_PlainHall_twin : Addr
  d_PlainHall_twin : FuncData
  F_PlainHall_twin : Fun K "twin" "PlainHall.twin" s_PlainHall_twin f_PlainHall_twin d_PlainHall_twin
  b_PlainHall_twin : Binds K d_PlainHall_twin ["self"] []
  f_PlainHall_do : Addr
  d_PlainHall_do : FuncData
  F_PlainHall_do : Fun K "do" "PlainHall.do" s_PlainHall_do f_PlainHall_do d_PlainHall_do
  b_PlainHall_do : Binds K d_PlainHall_do ["self", "deed"] []
  f_law_cell_at : Addr
  d_law_cell_at : FuncData
  F_law_cell_at : Fun K "_law_cell_at" "_law_cell_at" s_law_cell_at f_law_cell_at d_law_cell_at
  m_law_cell_at : mg "_law_cell_at" = some (.ref f_law_cell_at)
  k_law_cell_at : PySem.W.keepIn K (.ref f_law_cell_at) = true
  b_law_cell_at : Binds K d_law_cell_at ["script", "k"] []
  f_law_take : Addr
  d_law_take : FuncData
  F_law_take : Fun K "_law_take" "_law_take" s_law_take f_law_take d_law_take
  m_law_take : mg "_law_take" = some (.ref f_law_take)
  k_law_take : PySem.W.keepIn K (.ref f_law_take) = true
  b_law_take : Binds K d_law_take ["pool", "size"] []
  f_law_pool : Addr
  d_law_pool : FuncData
  F_law_pool : Fun K "_law_pool" "_law_pool" s_law_pool f_law_pool d_law_pool
  m_law_pool : mg "_law_pool" = some (.ref f_law_pool)
  k_law_pool : PySem.W.keepIn K (.ref f_law_pool) = true
  b_law_pool : Binds K d_law_pool ["cell"] []
  f_law_did : Addr
  d_law_did : FuncData
  F_law_did : Fun K "_law_did" "_law_did" s_law_did f_law_did d_law_did
  m_law_did : mg "_law_did" = some (.ref f_law_did)
  k_law_did : PySem.W.keepIn K (.ref f_law_did) = true
  b_law_did : Binds K d_law_did ["plain", "deed"] []
  f_law_due : Addr
  d_law_due : FuncData
  F_law_due : Fun K "_law_due" "_law_due" s_law_due f_law_due d_law_due
  m_law_due : mg "_law_due" = some (.ref f_law_due)
  k_law_due : PySem.W.keepIn K (.ref f_law_due) = true
  b_law_due : Binds K d_law_due ["state", "deed"] []
  f_law_no_member : Addr
  d_law_no_member : FuncData
  F_law_no_member : Fun K "_law_no_member" "_law_no_member" s_law_no_member f_law_no_member d_law_no_member
  m_law_no_member : mg "_law_no_member" = some (.ref f_law_no_member)
  k_law_no_member : PySem.W.keepIn K (.ref f_law_no_member) = true
  b_law_no_member : Binds K d_law_no_member ["plain", "thing"] []
  f_law_stands : Addr
  d_law_stands : FuncData
  F_law_stands : Fun K "_law_stands" "_law_stands" s_law_stands f_law_stands d_law_stands
  m_law_stands : mg "_law_stands" = some (.ref f_law_stands)
  k_law_stands : PySem.W.keepIn K (.ref f_law_stands) = true
  b_law_stands : Binds K d_law_stands ["plain", "state"] []
  f_law_made : Addr
  d_law_made : FuncData
  F_law_made : Fun K "_law_made" "_law_made" s_law_made f_law_made d_law_made
  m_law_made : mg "_law_made" = some (.ref f_law_made)
  k_law_made : PySem.W.keepIn K (.ref f_law_made) = true
  b_law_made : Binds K d_law_made ["thing"] []
  f_law_done : Addr
  d_law_done : FuncData
  F_law_done : Fun K "_law_done" "_law_done" s_law_done f_law_done d_law_done
  m_law_done : mg "_law_done" = some (.ref f_law_done)
  k_law_done : PySem.W.keepIn K (.ref f_law_done) = true
  b_law_done : Binds K d_law_done ["plain", "state", "deed"] []
  f_law_bad : Addr
  d_law_bad : FuncData
  F_law_bad : Fun K "_law_bad" "_law_bad" s_law_bad f_law_bad d_law_bad
  m_law_bad : mg "_law_bad" = some (.ref f_law_bad)
  k_law_bad : PySem.W.keepIn K (.ref f_law_bad) = true
  b_law_bad : Binds K d_law_bad ["plain", "state"] []
  f_law : Addr
  d_law : FuncData
  F_law : Fun K "law" "law" s_law f_law d_law
  m_law : mg "law" = some (.ref f_law)
  k_law : PySem.W.keepIn K (.ref f_law) = true
  b_law : Binds K d_law ["script"] []
  C_AllTold : Addr
  g_AllTold : mg "AllTold" = some (.ref C_AllTold)
  C_Barred : Addr
  g_Barred : mg "Barred" = some (.ref C_Barred)
  C_HallError : Addr
  g_HallError : mg "HallError" = some (.ref C_HallError)
  C_Known : Addr
  g_Known : mg "Known" = some (.ref C_Known)
  C_Lacks : Addr
  g_Lacks : mg "Lacks" = some (.ref C_Lacks)
  C_NoDeed : Addr
  g_NoDeed : mg "NoDeed" = some (.ref C_NoDeed)
  C_NoMember : Addr
  g_NoMember : mg "NoMember" = some (.ref C_NoMember)
  C_NoNumber : Addr
  g_NoNumber : mg "NoNumber" = some (.ref C_NoNumber)
  C_PlainHall : Addr
  g_PlainHall : mg "PlainHall" = some (.ref C_PlainHall)
  c_PlainHall : Cls K C_PlainHall
  ha_PlainHall : PySem.W.findIn K (.ref C_PlainHall) "__class__" = some (some (.builtin "object.__class__"))
  hm_PlainHall : PySem.W.mroIn K C_PlainHall (.type "object") = some true
  hdx_PlainHall : PySem.W.hasDictIn K C_PlainHall = true
  ty_PlainHall : PySem.W.typeIn K (.ref C_PlainHall) = some (.type "type")
  nt_NoneType_PlainHall : PySem.W.subIn K (.type "NoneType") (.ref C_PlainHall) = some false
  nt_bool_PlainHall : PySem.W.subIn K (.type "bool") (.ref C_PlainHall) = some false
  nt_int_PlainHall : PySem.W.subIn K (.type "int") (.ref C_PlainHall) = some false
  nt_str_PlainHall : PySem.W.subIn K (.type "str") (.ref C_PlainHall) = some false
  nt_list_PlainHall : PySem.W.subIn K (.type "list") (.ref C_PlainHall) = some false
  nt_tuple_PlainHall : PySem.W.subIn K (.type "tuple") (.ref C_PlainHall) = some false
  nt_dict_PlainHall : PySem.W.subIn K (.type "dict") (.ref C_PlainHall) = some false
  n_PlainHall__members : NoAttr K C_PlainHall "_members"
  n_PlainHall__row : NoAttr K C_PlainHall "_row"
  n_PlainHall__told : NoAttr K C_PlainHall "_told"
  mk_PlainHall : Mk K C_PlainHall f_PlainHall_init
  mt_PlainHall_len : Meth K C_PlainHall "__len__" f_PlainHall_len
  mt_PlainHall_row : Meth K C_PlainHall "row" f_PlainHall_row
  mt_PlainHall_told_by : Meth K C_PlainHall "told_by" f_PlainHall_told_by
  mt_PlainHall_state : Meth K C_PlainHall "state" f_PlainHall_state
  mt_PlainHall_eq : Meth K C_PlainHall "__eq__" f_PlainHall_eq
  mt_PlainHall_add : Meth K C_PlainHall "_add" f_PlainHall_add
  mt_PlainHall_tell : Meth K C_PlainHall "_tell" f_PlainHall_tell
  mt_PlainHall_twin : Meth K C_PlainHall "twin" f_PlainHall_twin
  mt_PlainHall_do : Meth K C_PlainHall "do" f_PlainHall_do
  exC_AllTold : PySem.W.subIn K (.ref C_AllTold) (.type "BaseException") = some true
  hdx_AllTold : PySem.W.hasDictIn K C_AllTold = true
  ty_AllTold : PySem.W.typeIn K (.ref C_AllTold) = some (.type "type")
  ss_AllTold : PySem.W.subIn K (.ref C_AllTold) (.ref C_AllTold) = some true
  exC_Barred : PySem.W.subIn K (.ref C_Barred) (.type "BaseException") = some true
  hdx_Barred : PySem.W.hasDictIn K C_Barred = true
  ty_Barred : PySem.W.typeIn K (.ref C_Barred) = some (.type "type")
  ss_Barred : PySem.W.subIn K (.ref C_Barred) (.ref C_Barred) = some true
  exC_HallError : PySem.W.subIn K (.ref C_HallError) (.type "BaseException") = some true
  hdx_HallError : PySem.W.hasDictIn K C_HallError = true
  ty_HallError : PySem.W.typeIn K (.ref C_HallError) = some (.type "type")
  ss_HallError : PySem.W.subIn K (.ref C_HallError) (.ref C_HallError) = some true
  exC_Known : PySem.W.subIn K (.ref C_Known) (.type "BaseException") = some true
  hdx_Known : PySem.W.hasDictIn K C_Known = true
  ty_Known : PySem.W.typeIn K (.ref C_Known) = some (.type "type")
  ss_Known : PySem.W.subIn K (.ref C_Known) (.ref C_Known) = some true
  exC_Lacks : PySem.W.subIn K (.ref C_Lacks) (.type "BaseException") = some true
  hdx_Lacks : PySem.W.hasDictIn K C_Lacks = true
  ty_Lacks : PySem.W.typeIn K (.ref C_Lacks) = some (.type "type")
  ss_Lacks : PySem.W.subIn K (.ref C_Lacks) (.ref C_Lacks) = some true
  exC_NoDeed : PySem.W.subIn K (.ref C_NoDeed) (.type "BaseException") = some true
  hdx_NoDeed : PySem.W.hasDictIn K C_NoDeed = true
  ty_NoDeed : PySem.W.typeIn K (.ref C_NoDeed) = some (.type "type")
  ss_NoDeed : PySem.W.subIn K (.ref C_NoDeed) (.ref C_NoDeed) = some true
  exC_NoMember : PySem.W.subIn K (.ref C_NoMember) (.type "BaseException") = some true
  hdx_NoMember : PySem.W.hasDictIn K C_NoMember = true
  ty_NoMember : PySem.W.typeIn K (.ref C_NoMember) = some (.type "type")
  ss_NoMember : PySem.W.subIn K (.ref C_NoMember) (.ref C_NoMember) = some true
  exC_NoNumber : PySem.W.subIn K (.ref C_NoNumber) (.type "BaseException") = some true
  hdx_NoNumber : PySem.W.hasDictIn K C_NoNumber = true
  ty_NoNumber : PySem.W.typeIn K (.ref C_NoNumber) = some (.type "type")
  ss_NoNumber : PySem.W.subIn K (.ref C_NoNumber) (.ref C_NoNumber) = some true
  fI_AllTold : Addr
  ox_AllTold : OexS K C_AllTold fI_AllTold "LookupError" "LookupError.__new__" "LookupError.__init__" leT "found"
  xf_AllTold : XfC K C_AllTold
  xc_AllTold : ExcC K C_AllTold
  nf_AllTold : PySem.W.findIn K (.ref C_AllTold) "found" = some none
  sb_AllTold_AllTold : PySem.W.subIn K (.ref C_AllTold) (.ref C_AllTold) = some true
  sb_AllTold_Barred : PySem.W.subIn K (.ref C_AllTold) (.ref C_Barred) = some true
  sb_AllTold_HallError : PySem.W.subIn K (.ref C_AllTold) (.ref C_HallError) = some false
  sb_AllTold_Known : PySem.W.subIn K (.ref C_AllTold) (.ref C_Known) = some false
  sb_AllTold_Lacks : PySem.W.subIn K (.ref C_AllTold) (.ref C_Lacks) = some false
  sb_AllTold_NoDeed : PySem.W.subIn K (.ref C_AllTold) (.ref C_NoDeed) = some false
  sb_AllTold_NoMember : PySem.W.subIn K (.ref C_AllTold) (.ref C_NoMember) = some false
  sb_AllTold_NoNumber : PySem.W.subIn K (.ref C_AllTold) (.ref C_NoNumber) = some false
  fI_Known : Addr
  ox_Known : OexS K C_Known fI_Known "LookupError" "LookupError.__new__" "LookupError.__init__" leT "found"
  xf_Known : XfC K C_Known
  xc_Known : ExcC K C_Known
  nf_Known : PySem.W.findIn K (.ref C_Known) "found" = some none
  sb_Known_AllTold : PySem.W.subIn K (.ref C_Known) (.ref C_AllTold) = some false
  sb_Known_Barred : PySem.W.subIn K (.ref C_Known) (.ref C_Barred) = some true
  sb_Known_HallError : PySem.W.subIn K (.ref C_Known) (.ref C_HallError) = some false
  sb_Known_Known : PySem.W.subIn K (.ref C_Known) (.ref C_Known) = some true
  sb_Known_Lacks : PySem.W.subIn K (.ref C_Known) (.ref C_Lacks) = some false
  sb_Known_NoDeed : PySem.W.subIn K (.ref C_Known) (.ref C_NoDeed) = some false
  sb_Known_NoMember : PySem.W.subIn K (.ref C_Known) (.ref C_NoMember) = some false
  sb_Known_NoNumber : PySem.W.subIn K (.ref C_Known) (.ref C_NoNumber) = some false
  fI_Lacks : Addr
  ox_Lacks : OexS K C_Lacks fI_Lacks "LookupError" "LookupError.__new__" "LookupError.__init__" leT "found"
  xf_Lacks : XfC K C_Lacks
  xc_Lacks : ExcC K C_Lacks
  nf_Lacks : PySem.W.findIn K (.ref C_Lacks) "found" = some none
  sb_Lacks_AllTold : PySem.W.subIn K (.ref C_Lacks) (.ref C_AllTold) = some false
  sb_Lacks_Barred : PySem.W.subIn K (.ref C_Lacks) (.ref C_Barred) = some true
  sb_Lacks_HallError : PySem.W.subIn K (.ref C_Lacks) (.ref C_HallError) = some false
  sb_Lacks_Known : PySem.W.subIn K (.ref C_Lacks) (.ref C_Known) = some false
  sb_Lacks_Lacks : PySem.W.subIn K (.ref C_Lacks) (.ref C_Lacks) = some true
  sb_Lacks_NoDeed : PySem.W.subIn K (.ref C_Lacks) (.ref C_NoDeed) = some false
  sb_Lacks_NoMember : PySem.W.subIn K (.ref C_Lacks) (.ref C_NoMember) = some false
  sb_Lacks_NoNumber : PySem.W.subIn K (.ref C_Lacks) (.ref C_NoNumber) = some false
  fI_NoDeed : Addr
  ox_NoDeed : OexS K C_NoDeed fI_NoDeed "ValueError" "ValueError.__new__" "ValueError.__init__" veT "found"
  xf_NoDeed : XfC K C_NoDeed
  xc_NoDeed : ExcC K C_NoDeed
  nf_NoDeed : PySem.W.findIn K (.ref C_NoDeed) "found" = some none
  sb_NoDeed_AllTold : PySem.W.subIn K (.ref C_NoDeed) (.ref C_AllTold) = some false
  sb_NoDeed_Barred : PySem.W.subIn K (.ref C_NoDeed) (.ref C_Barred) = some false
  sb_NoDeed_HallError : PySem.W.subIn K (.ref C_NoDeed) (.ref C_HallError) = some true
  sb_NoDeed_Known : PySem.W.subIn K (.ref C_NoDeed) (.ref C_Known) = some false
  sb_NoDeed_Lacks : PySem.W.subIn K (.ref C_NoDeed) (.ref C_Lacks) = some false
  sb_NoDeed_NoDeed : PySem.W.subIn K (.ref C_NoDeed) (.ref C_NoDeed) = some true
  sb_NoDeed_NoMember : PySem.W.subIn K (.ref C_NoDeed) (.ref C_NoMember) = some false
  sb_NoDeed_NoNumber : PySem.W.subIn K (.ref C_NoDeed) (.ref C_NoNumber) = some false
  fI_NoMember : Addr
  ox_NoMember : OexS K C_NoMember fI_NoMember "ValueError" "ValueError.__new__" "ValueError.__init__" veT "found"
  xf_NoMember : XfC K C_NoMember
  xc_NoMember : ExcC K C_NoMember
  nf_NoMember : PySem.W.findIn K (.ref C_NoMember) "found" = some none
  sb_NoMember_AllTold : PySem.W.subIn K (.ref C_NoMember) (.ref C_AllTold) = some false
  sb_NoMember_Barred : PySem.W.subIn K (.ref C_NoMember) (.ref C_Barred) = some false
  sb_NoMember_HallError : PySem.W.subIn K (.ref C_NoMember) (.ref C_HallError) = some true
  sb_NoMember_Known : PySem.W.subIn K (.ref C_NoMember) (.ref C_Known) = some false
  sb_NoMember_Lacks : PySem.W.subIn K (.ref C_NoMember) (.ref C_Lacks) = some false
  sb_NoMember_NoDeed : PySem.W.subIn K (.ref C_NoMember) (.ref C_NoDeed) = some false
  sb_NoMember_NoMember : PySem.W.subIn K (.ref C_NoMember) (.ref C_NoMember) = some true
  sb_NoMember_NoNumber : PySem.W.subIn K (.ref C_NoMember) (.ref C_NoNumber) = some false
  fI_NoNumber : Addr
  ox_NoNumber : OexS K C_NoNumber fI_NoNumber "ValueError" "ValueError.__new__" "ValueError.__init__" veT "found"
  xf_NoNumber : XfC K C_NoNumber
  xc_NoNumber : ExcC K C_NoNumber
  nf_NoNumber : PySem.W.findIn K (.ref C_NoNumber) "found" = some none
  sb_NoNumber_AllTold : PySem.W.subIn K (.ref C_NoNumber) (.ref C_AllTold) = some false
  sb_NoNumber_Barred : PySem.W.subIn K (.ref C_NoNumber) (.ref C_Barred) = some false
  sb_NoNumber_HallError : PySem.W.subIn K (.ref C_NoNumber) (.ref C_HallError) = some true
  sb_NoNumber_Known : PySem.W.subIn K (.ref C_NoNumber) (.ref C_Known) = some false
  sb_NoNumber_Lacks : PySem.W.subIn K (.ref C_NoNumber) (.ref C_Lacks) = some false
  sb_NoNumber_NoDeed : PySem.W.subIn K (.ref C_NoNumber) (.ref C_NoDeed) = some false
  sb_NoNumber_NoMember : PySem.W.subIn K (.ref C_NoNumber) (.ref C_NoMember) = some false
  sb_NoNumber_NoNumber : PySem.W.subIn K (.ref C_NoNumber) (.ref C_NoNumber) = some true
  hn : PySem.W.specialIn K (.builtin "object.__class__") "__get__" = some (some (.builtin "getset_descriptor.__get__"))
  htk : PySem.W.takesIn K (.builtin "object.__class__") = some true
  z_all : mg "all" = none
  z_bool : mg "bool" = none
  z_int : mg "int" = none
  z_isinstance : mg "isinstance" = none
  z_len : mg "len" = none
  z_list : mg "list" = none
  z_max : mg "max" = none
  z_range : mg "range" = none
  z_super : mg "super" = none
  z_tuple : mg "tuple" = none
  t_LEAST_MEMBERS : Tok
  g_LEAST_MEMBERS : mg "LEAST_MEMBERS" = some (.int 2 t_LEAST_MEMBERS)
  t_MOST_MEMBERS : Tok
  g_MOST_MEMBERS : mg "MOST_MEMBERS" = some (.int 5 t_MOST_MEMBERS)
def sp_is_whole (K : PySem.W.Frag) : Sp := fun vs H Q E => (∃ (n a : Int), vs = [.int n, .int a, .non] ∧ Q (.bl (decide (a ≤ n))) H) ∨
  (∃ (n a b : Int), vs = [.int n, .int a, .int b] ∧ Q (.bl (decide (a ≤ n) && decide (n ≤ b))) H) ∨
  (∃ (c : Bool) (y z : V), vs = [.bl c, y, z] ∧ Q (.bl false) H) ∨
  (∃ (x y z : V) (t : Value), vs = [x, y, z] ∧ (TyX K H x t) ∧ (PySem.W.kitOne K t (.type "int") = some false) ∧ Q (.bl false) H)
theorem r_is_whole_1 {K : PySem.W.Frag} {H : Hp} {Q : VK} {E : XK} {vv : List V} {n a : Int} (ee : vv = [.int n, .int a, .non])  (k : Q (.bl (decide (a ≤ n))) H) : sp_is_whole K vv H Q E := by
  subst ee
  exact .inl ⟨n, a, rfl, k⟩
theorem r_is_whole_2 {K : PySem.W.Frag} {H : Hp} {Q : VK} {E : XK} {vv : List V} {n a b : Int} (ee : vv = [.int n, .int a, .int b])  (k : Q (.bl (decide (a ≤ n) && decide (n ≤ b))) H) : sp_is_whole K vv H Q E := by
  subst ee
  exact .inr (.inl ⟨n, a, b, rfl, k⟩)
theorem r_is_whole_3 {K : PySem.W.Frag} {H : Hp} {Q : VK} {E : XK} {vv : List V} {c : Bool} {y z : V} (ee : vv = [.bl c, y, z])  (k : Q (.bl false) H) : sp_is_whole K vv H Q E := by
  subst ee
  exact .inr (.inr (.inl ⟨c, y, z, rfl, k⟩))
theorem r_is_whole_4 {K : PySem.W.Frag} {H : Hp} {Q : VK} {E : XK} {vv : List V} {x y z : V} {t : Value} (ee : vv = [x, y, z]) (ht : TyX K H x t) (hk : PySem.W.kitOne K t (.type "int") = some false) (k : Q (.bl false) H) : sp_is_whole K vv H Q E := by
  subst ee
  exact .inr (.inr (.inr (⟨x, y, z, t, rfl, ht, hk, k⟩)))
/-- what is no member -/
def NotM (K : PySem.W.Frag) (H : Hp) (m : Int) (x : V) : Prop := (∃ n, x = .int n ∧ ¬ (0 ≤ n ∧ n ≤ m - 1)) ∨ (∃ b, x = .bl b) ∨ ∃ t, TyX K H x t ∧ PySem.W.kitOne K t (.type "int") = some false
theorem NotM.same {K : PySem.W.Frag} {H H' : Hp} {m : Int} {x : V} (h : NotM K H m x) (s : Same H H') : NotM K H' m x := by
  rcases h with h | h | ⟨t, h1, h2⟩
  · exact .inl h
  · exact .inr (.inl h)
  · exact .inr (.inr ⟨t, h1.mono s, h2⟩)
/-- what is no number of members -/
def NotW (K : PySem.W.Frag) (H : Hp) (x : V) : Prop := (∃ n, x = .int n ∧ ¬ (2 ≤ n ∧ n ≤ 5)) ∨ (∃ b, x = .bl b) ∨ ∃ t, TyX K H x t ∧ PySem.W.kitOne K t (.type "int") = some false
theorem NotW.same {K : PySem.W.Frag} {H H' : Hp} {x : V} (h : NotW K H x) (s : Same H H') : NotW K H' x := by
  rcases h with h | h | ⟨t, h1, h2⟩
  · exact .inl h
  · exact .inr (.inl h)
  · exact .inr (.inr ⟨t, h1.mono s, h2⟩)
def sAdd : Str := "add"
def sTell : Str := "tell"
/-- what is no deed of a plain hall -/
def NotD (K : PySem.W.Frag) (H : Hp) (m : Int) (x : V) : Prop :=
  (∃ ty, TyX K H x ty ∧ PySem.W.kitOne K ty (.type "tuple") = some false) ∨
  (∃ t, x = .ref t ∧ H t = some (.tup [])) ∨
  (∃ t y ys, x = .ref t ∧ H t = some (.tup (y :: ys)) ∧ ys.length ≤ 5 ∧ ((∃ s : Str, y = .str s ∧ s ≠ "add" ∧ s ≠ "tell") ∨ ∃ a ds, y = .ref a ∧ Dp K H y (.list ds) ∧ SeqAt.shaped (.list ds) = true)) ∨
  (∃ t ys, x = .ref t ∧ H t = some (.tup (.str "tell" :: ys)) ∧ ys.length ≤ 5 ∧ ys.length ≠ 1) ∨
  (∃ t y, x = .ref t ∧ H t = some (.tup [.str "tell", y]) ∧ NotM K H m y) ∨
  (∃ t ys, x = .ref t ∧ H t = some (.tup (.str "add" :: ys)) ∧ ys.length ≤ 5 ∧ ys.length ≠ 2) ∨
  (∃ t y z, x = .ref t ∧ H t = some (.tup [.str "add", y, z]) ∧ NotM K H m y) ∨
  (∃ t k z, x = .ref t ∧ H t = some (.tup [.str "add", .int k, z]) ∧ 0 ≤ k ∧ k ≤ m - 1 ∧ NotWn K H 1 z)
theorem sh_hall {cs : List (Int × Int)} {ts : List Int} : SeqAt.shaped (.tuple [.tuple (cs.map pairOf), .tuple (ts.map PyData.int)]) = true := by
  show (PyData.canLayAll0 [PyData.tuple (cs.map pairOf), PyData.tuple (ts.map PyData.int)] && decide (PyData.depthAll [PyData.tuple (cs.map pairOf), PyData.tuple (ts.map PyData.int)] + 1 ≤ 64)) = true
  have h1 : PyData.canLayAll0 [PyData.tuple (cs.map pairOf), PyData.tuple (ts.map PyData.int)] = true := by
    show (PyData.canLayAll0 (cs.map pairOf) && (PyData.canLayAll0 (ts.map PyData.int) && true)) = true
    rw [lay_pairs, lay_ints]
    rfl
  rw [h1, Bool.true_and, decide_eq_true_eq]
  show max (PyData.depthAll (cs.map pairOf) + 1) (max (PyData.depthAll (ts.map PyData.int) + 1) 0) + 1 ≤ 64
  have := depth_pairs (cs := cs)
  have := depth_ints (ns := ts)
  omega
theorem eqv_hall {cs ds : List (Int × Int)} {ts us : List Int} : PyData.eqv (.tuple [.tuple (cs.map pairOf), .tuple (ts.map PyData.int)]) (.tuple [.tuple (ds.map pairOf), .tuple (us.map PyData.int)]) = (decide (cs = ds) && decide (ts = us)) := by
  have e1 : PyData.eqv (.tuple (cs.map pairOf)) (.tuple (ds.map pairOf)) = decide (cs = ds) := eqv_pairs
  have e2 : PyData.eqv (.tuple (ts.map PyData.int)) (.tuple (us.map PyData.int)) = decide (ts = us) := eqv_ints
  show PyData.eqvAll [PyData.tuple (cs.map pairOf), PyData.tuple (ts.map PyData.int)] [PyData.tuple (ds.map pairOf), PyData.tuple (us.map PyData.int)] = _
  simp only [PyData.eqvAll, e1, e2, Bool.and_true]
def sp_is_member (K : PySem.W.Frag) : Sp := fun vs H Q E => (∃ (n m : Int), vs = [.int n, .int m] ∧ Q (.bl (decide (0 ≤ n) && decide (n ≤ m - 1))) H) ∨
  (∃ (x : V) (m : Int), vs = [x, .int m] ∧ (NotM K H m x) ∧ Q (.bl false) H)
theorem r_is_member_1 {K : PySem.W.Frag} {H : Hp} {Q : VK} {E : XK} {vv : List V} {n m : Int} (ee : vv = [.int n, .int m])  (k : Q (.bl (decide (0 ≤ n) && decide (n ≤ m - 1))) H) : sp_is_member K vv H Q E := by
  subst ee
  exact .inl ⟨n, m, rfl, k⟩
theorem r_is_member_2 {K : PySem.W.Frag} {H : Hp} {Q : VK} {E : XK} {vv : List V} {x : V} {m : Int} (ee : vv = [x, .int m]) (hx : NotM K H m x) (k : Q (.bl false) H) : sp_is_member K vv H Q E := by
  subst ee
  exact .inr (⟨x, m, rfl, hx, k⟩)
def sp_check_members (K : PySem.W.Frag) (CN : Addr) : Sp := fun vs H Q E => (∃ (m : Int), vs = [.int m] ∧ (2 ≤ m) ∧ (m ≤ 5) ∧ Q .non H) ∨
  (∃ (x : V), vs = [x] ∧ (NotW K H x) ∧ ∀ d, H d = none → E (.ref CN) (some d) (upd H d (.xd [("found", x)])))
theorem r_check_members_1 {K : PySem.W.Frag} {CN : Addr} {H : Hp} {Q : VK} {E : XK} {vv : List V} {m : Int} (ee : vv = [.int m]) (h2 : 2 ≤ m) (h5 : m ≤ 5) (k : Q .non H) : sp_check_members K CN vv H Q E := by
  subst ee
  exact .inl ⟨m, rfl, h2, h5, k⟩
theorem r_check_members_2 {K : PySem.W.Frag} {CN : Addr} {H : Hp} {Q : VK} {E : XK} {vv : List V} {x : V} (ee : vv = [x]) (hx : NotW K H x) (k : ∀ d, H d = none → E (.ref CN) (some d) (upd H d (.xd [("found", x)]))) : sp_check_members K CN vv H Q E := by
  subst ee
  exact .inr (⟨x, rfl, hx, k⟩)
def sp_check_member (K : PySem.W.Frag) (CM : Addr) : Sp := fun vs H Q E => (∃ (n m : Int), vs = [.int n, .int m] ∧ (0 ≤ n) ∧ (n ≤ m - 1) ∧ Q .non H) ∨
  (∃ (x : V) (m : Int), vs = [x, .int m] ∧ (NotM K H m x) ∧ ∀ d, H d = none → E (.ref CM) (some d) (upd H d (.xd [("found", x)])))
theorem r_check_member_1 {K : PySem.W.Frag} {CM : Addr} {H : Hp} {Q : VK} {E : XK} {vv : List V} {n m : Int} (ee : vv = [.int n, .int m]) (h0 : 0 ≤ n) (h1 : n ≤ m - 1) (k : Q .non H) : sp_check_member K CM vv H Q E := by
  subst ee
  exact .inl ⟨n, m, rfl, h0, h1, k⟩
theorem r_check_member_2 {K : PySem.W.Frag} {CM : Addr} {H : Hp} {Q : VK} {E : XK} {vv : List V} {x : V} {m : Int} (ee : vv = [x, .int m]) (hx : NotM K H m x) (k : ∀ d, H d = none → E (.ref CM) (some d) (upd H d (.xd [("found", x)]))) : sp_check_member K CM vv H Q E := by
  subst ee
  exact .inr (⟨x, m, rfl, hx, k⟩)
def sp_is_ident (K : PySem.W.Frag) : Sp := fun vs H Q E => (∃ (t : Addr) (kk n m : Int), vs = [.ref t, .int m, .non] ∧ (H t = some (.tup [.int kk, .int n])) ∧ Q (.bl (decide (0 ≤ kk) && decide (kk ≤ m - 1) && decide (1 ≤ n))) H) ∨
  (∃ (t : Addr) (ys : List V) (m : Int), vs = [.ref t, .int m, .non] ∧ (H t = some (.tup ys)) ∧ (ys.length ≠ 2) ∧ (ys.length ≤ 5) ∧ Q (.bl false) H) ∨
  (∃ (t : Addr) (y z : V) (m : Int), vs = [.ref t, .int m, .non] ∧ (H t = some (.tup [y, z])) ∧ (NotM K H m y) ∧ Q (.bl false) H) ∨
  (∃ (t : Addr) (kk : Int) (z : V) (m : Int), vs = [.ref t, .int m, .non] ∧ (H t = some (.tup [.int kk, z])) ∧ (0 ≤ kk) ∧ (kk ≤ m - 1) ∧ (NotWn K H 1 z) ∧ Q (.bl false) H)
theorem r_is_ident_1 {K : PySem.W.Frag} {H : Hp} {Q : VK} {E : XK} {vv : List V} {t : Addr} {kk n m : Int} (ee : vv = [.ref t, .int m, .non]) (ht : H t = some (.tup [.int kk, .int n])) (k : Q (.bl (decide (0 ≤ kk) && decide (kk ≤ m - 1) && decide (1 ≤ n))) H) : sp_is_ident K vv H Q E := by
  subst ee
  exact .inl ⟨t, kk, n, m, rfl, ht, k⟩
theorem r_is_ident_2 {K : PySem.W.Frag} {H : Hp} {Q : VK} {E : XK} {vv : List V} {t : Addr} {ys : List V} {m : Int} (ee : vv = [.ref t, .int m, .non]) (ht : H t = some (.tup ys)) (hl : ys.length ≠ 2) (h5 : ys.length ≤ 5) (k : Q (.bl false) H) : sp_is_ident K vv H Q E := by
  subst ee
  exact .inr (.inl ⟨t, ys, m, rfl, ht, hl, h5, k⟩)
theorem r_is_ident_3 {K : PySem.W.Frag} {H : Hp} {Q : VK} {E : XK} {vv : List V} {t : Addr} {y z : V} {m : Int} (ee : vv = [.ref t, .int m, .non]) (ht : H t = some (.tup [y, z])) (hy : NotM K H m y) (k : Q (.bl false) H) : sp_is_ident K vv H Q E := by
  subst ee
  exact .inr (.inr (.inl ⟨t, y, z, m, rfl, ht, hy, k⟩))
theorem r_is_ident_4 {K : PySem.W.Frag} {H : Hp} {Q : VK} {E : XK} {vv : List V} {t : Addr} {kk : Int} {z : V} {m : Int} (ee : vv = [.ref t, .int m, .non]) (ht : H t = some (.tup [.int kk, z])) (h0 : 0 ≤ kk) (h1 : kk ≤ m - 1) (hz : NotWn K H 1 z) (k : Q (.bl false) H) : sp_is_ident K vv H Q E := by
  subst ee
  exact .inr (.inr (.inr (⟨t, kk, z, m, rfl, ht, h0, h1, hz, k⟩)))
def sp_is_plain_deed (K : PySem.W.Frag) : Sp := fun vs H Q E => (∃ (t : Addr) (kk m : Int), vs = [.ref t, .int m] ∧ (H t = some (.tup [.str "tell", .int kk])) ∧ ∀ H', Same H H' → Q (.bl (decide (0 ≤ kk) && decide (kk ≤ m - 1))) H') ∨
  (∃ (t : Addr) (kk n m : Int), vs = [.ref t, .int m] ∧ (H t = some (.tup [.str "add", .int kk, .int n])) ∧ ∀ H', Same H H' → Q (.bl (decide (0 ≤ kk) && decide (kk ≤ m - 1) && decide (1 ≤ n))) H') ∨
  (∃ (x : V) (m : Int), vs = [x, .int m] ∧ (NotD K H m x) ∧ ∀ H', Same H H' → Q (.bl false) H')
theorem r_is_plain_deed_1 {K : PySem.W.Frag} {H : Hp} {Q : VK} {E : XK} {vv : List V} {t : Addr} {kk m : Int} (ee : vv = [.ref t, .int m]) (ht : H t = some (.tup [.str "tell", .int kk])) (k : ∀ H', Same H H' → Q (.bl (decide (0 ≤ kk) && decide (kk ≤ m - 1))) H') : sp_is_plain_deed K vv H Q E := by
  subst ee
  exact .inl ⟨t, kk, m, rfl, ht, k⟩
theorem r_is_plain_deed_2 {K : PySem.W.Frag} {H : Hp} {Q : VK} {E : XK} {vv : List V} {t : Addr} {kk n m : Int} (ee : vv = [.ref t, .int m]) (ht : H t = some (.tup [.str "add", .int kk, .int n])) (k : ∀ H', Same H H' → Q (.bl (decide (0 ≤ kk) && decide (kk ≤ m - 1) && decide (1 ≤ n))) H') : sp_is_plain_deed K vv H Q E := by
  subst ee
  exact .inr (.inl ⟨t, kk, n, m, rfl, ht, k⟩)
theorem r_is_plain_deed_3 {K : PySem.W.Frag} {H : Hp} {Q : VK} {E : XK} {vv : List V} {x : V} {m : Int} (ee : vv = [x, .int m]) (hx : NotD K H m x) (k : ∀ H', Same H H' → Q (.bl false) H') : sp_is_plain_deed K vv H Q E := by
  subst ee
  exact .inr (.inr (⟨x, m, rfl, hx, k⟩))
def sp_PlainHall_init (K : PySem.W.Frag) (C CN : Addr) : Sp := fun vs H Q E => (∃ (p dx : Addr) (m : Int), vs = [.ref p, .int m] ∧ (H p = some (.ins C dx [])) ∧ (2 ≤ m) ∧ (m ≤ 5) ∧ ∀ (r t : Addr) (H' : Hp), Fr1 p H H' → H' p = some (.ins C dx [("_members", .int m), ("_row", .ref r), ("_told", .ref t)]) → H' r = some (.lst []) → H' t = some (.lst ((List.replicate m.toNat (0 : Int)).map V.int)) → H r = none → H t = none → r ≠ t → Q .non H') ∨
  (∃ (p dx : Addr) (x : V), vs = [.ref p, x] ∧ (H p = some (.ins C dx [])) ∧ (NotW K H x) ∧ ∀ d, H d = none → E (.ref CN) (some d) (upd H d (.xd [("found", x)])))
theorem r_PlainHall_init_1 {K : PySem.W.Frag} {C CN : Addr} {H : Hp} {Q : VK} {E : XK} {vv : List V} {p dx : Addr} {m : Int} (ee : vv = [.ref p, .int m]) (hp : H p = some (.ins C dx [])) (h2 : 2 ≤ m) (h5 : m ≤ 5) (k : ∀ (r t : Addr) (H' : Hp), Fr1 p H H' → H' p = some (.ins C dx [("_members", .int m), ("_row", .ref r), ("_told", .ref t)]) → H' r = some (.lst []) → H' t = some (.lst ((List.replicate m.toNat (0 : Int)).map V.int)) → H r = none → H t = none → r ≠ t → Q .non H') : sp_PlainHall_init K C CN vv H Q E := by
  subst ee
  exact .inl ⟨p, dx, m, rfl, hp, h2, h5, k⟩
theorem r_PlainHall_init_2 {K : PySem.W.Frag} {C CN : Addr} {H : Hp} {Q : VK} {E : XK} {vv : List V} {p dx : Addr} {x : V} (ee : vv = [.ref p, x]) (hp : H p = some (.ins C dx [])) (hx : NotW K H x) (k : ∀ d, H d = none → E (.ref CN) (some d) (upd H d (.xd [("found", x)]))) : sp_PlainHall_init K C CN vv H Q E := by
  subst ee
  exact .inr (⟨p, dx, x, rfl, hp, hx, k⟩)
def sp_PlainHall_len (K : PySem.W.Frag) (C : Addr) : Sp := fun vs H Q E => (∃ (p dx r t : Addr) (m : Int) (xs : List V), vs = [.ref p] ∧ (H p = some (.ins C dx [("_members", .int m), ("_row", .ref r), ("_told", .ref t)])) ∧ (H r = some (.lst xs)) ∧ Q (.int (xs.length : Nat)) H)
theorem r_PlainHall_len {K : PySem.W.Frag} {C : Addr} {H : Hp} {Q : VK} {E : XK} {vv : List V} {p dx r t : Addr} {m : Int} {xs : List V} (ee : vv = [.ref p]) (hp : H p = some (.ins C dx [("_members", .int m), ("_row", .ref r), ("_told", .ref t)])) (hr : H r = some (.lst xs)) (k : Q (.int (xs.length : Nat)) H) : sp_PlainHall_len K C vv H Q E := by
  subst ee
  exact ⟨p, dx, r, t, m, xs, rfl, hp, hr, k⟩
def sp_PlainHall_row (K : PySem.W.Frag) (C : Addr) : Sp := fun vs H Q E => (∃ (p dx r t : Addr) (m : Int) (xs : List V), vs = [.ref p] ∧ (H p = some (.ins C dx [("_members", .int m), ("_row", .ref r), ("_told", .ref t)])) ∧ (H r = some (.lst xs)) ∧ ∀ l, H l = none → Q (.ref l) (upd H l (.lst xs)))
theorem r_PlainHall_row {K : PySem.W.Frag} {C : Addr} {H : Hp} {Q : VK} {E : XK} {vv : List V} {p dx r t : Addr} {m : Int} {xs : List V} (ee : vv = [.ref p]) (hp : H p = some (.ins C dx [("_members", .int m), ("_row", .ref r), ("_told", .ref t)])) (hr : H r = some (.lst xs)) (k : ∀ l, H l = none → Q (.ref l) (upd H l (.lst xs))) : sp_PlainHall_row K C vv H Q E := by
  subst ee
  exact ⟨p, dx, r, t, m, xs, rfl, hp, hr, k⟩
def sp_PlainHall_told_by (K : PySem.W.Frag) (C CM : Addr) : Sp := fun vs H Q E => (∃ (p dx r t : Addr) (m : Int) (ts : List Int) (kk : Nat), vs = [.ref p, .int (kk : Nat)] ∧ (H p = some (.ins C dx [("_members", .int m), ("_row", .ref r), ("_told", .ref t)])) ∧ (H t = some (.lst (ts.map V.int))) ∧ ((kk : Int) ≤ m - 1) ∧ (kk < ts.length) ∧ Q (.int (ts.getD kk 0)) H) ∨
  (∃ (p dx r t : Addr) (m : Int) (x : V), vs = [.ref p, x] ∧ (H p = some (.ins C dx [("_members", .int m), ("_row", .ref r), ("_told", .ref t)])) ∧ (NotM K H m x) ∧ ∀ d, H d = none → E (.ref CM) (some d) (upd H d (.xd [("found", x)])))
theorem r_PlainHall_told_by_1 {K : PySem.W.Frag} {C CM : Addr} {H : Hp} {Q : VK} {E : XK} {vv : List V} {p dx r t : Addr} {m : Int} {ts : List Int} {kk : Nat} (ee : vv = [.ref p, .int (kk : Nat)]) (hp : H p = some (.ins C dx [("_members", .int m), ("_row", .ref r), ("_told", .ref t)])) (ht : H t = some (.lst (ts.map V.int))) (hk : (kk : Int) ≤ m - 1) (hl : kk < ts.length) (k : Q (.int (ts.getD kk 0)) H) : sp_PlainHall_told_by K C CM vv H Q E := by
  subst ee
  exact .inl ⟨p, dx, r, t, m, ts, kk, rfl, hp, ht, hk, hl, k⟩
theorem r_PlainHall_told_by_2 {K : PySem.W.Frag} {C CM : Addr} {H : Hp} {Q : VK} {E : XK} {vv : List V} {p dx r t : Addr} {m : Int} {x : V} (ee : vv = [.ref p, x]) (hp : H p = some (.ins C dx [("_members", .int m), ("_row", .ref r), ("_told", .ref t)])) (hx : NotM K H m x) (k : ∀ d, H d = none → E (.ref CM) (some d) (upd H d (.xd [("found", x)]))) : sp_PlainHall_told_by K C CM vv H Q E := by
  subst ee
  exact .inr (⟨p, dx, r, t, m, x, rfl, hp, hx, k⟩)
def sp_PlainHall_state (K : PySem.W.Frag) (C : Addr) : Sp := fun vs H Q E => (∃ (p dx r t : Addr) (m : Int) (xs : List V) (ts : List Int), vs = [.ref p] ∧ (H p = some (.ins C dx [("_members", .int m), ("_row", .ref r), ("_told", .ref t)])) ∧ (H r = some (.lst xs)) ∧ (H t = some (.lst (ts.map V.int))) ∧ ∀ (s a b : Addr) (H' : Hp), Same H H' → H' s = some (.tup [.ref a, .ref b]) → H' a = some (.tup xs) → H' b = some (.tup (ts.map V.int)) → Q (.ref s) H')
theorem r_PlainHall_state {K : PySem.W.Frag} {C : Addr} {H : Hp} {Q : VK} {E : XK} {vv : List V} {p dx r t : Addr} {m : Int} {xs : List V} {ts : List Int} (ee : vv = [.ref p]) (hp : H p = some (.ins C dx [("_members", .int m), ("_row", .ref r), ("_told", .ref t)])) (hr : H r = some (.lst xs)) (ht : H t = some (.lst (ts.map V.int))) (k : ∀ (s a b : Addr) (H' : Hp), Same H H' → H' s = some (.tup [.ref a, .ref b]) → H' a = some (.tup xs) → H' b = some (.tup (ts.map V.int)) → Q (.ref s) H') : sp_PlainHall_state K C vv H Q E := by
  subst ee
  exact ⟨p, dx, r, t, m, xs, ts, rfl, hp, hr, ht, k⟩
def sp_PlainHall_eq (K : PySem.W.Frag) (C : Addr) : Sp := fun vs H Q E => (∃ (p dx r t : Addr) (m : Int) (xs : List V) (cs : List (Int × Int)) (ts : List Int) (q dy u v : Addr) (n : Int) (ys : List V) (ds : List (Int × Int)) (us : List Int), vs = [.ref p, .ref q] ∧ (H p = some (.ins C dx [("_members", .int m), ("_row", .ref r), ("_told", .ref t)])) ∧ (H r = some (.lst xs)) ∧ (H t = some (.lst (ts.map V.int))) ∧ (All2 (PairAt H) xs cs) ∧ (H q = some (.ins C dy [("_members", .int n), ("_row", .ref u), ("_told", .ref v)])) ∧ (H u = some (.lst ys)) ∧ (H v = some (.lst (us.map V.int))) ∧ (All2 (PairAt H) ys ds) ∧ ∀ H', Same H H' → Q (.bl (decide (cs = ds) && decide (ts = us))) H') ∨
  (∃ (p dx r t : Addr) (m : Int) (x : V) (ty : Value), vs = [.ref p, x] ∧ (H p = some (.ins C dx [("_members", .int m), ("_row", .ref r), ("_told", .ref t)])) ∧ (TyX K H x ty) ∧ (PySem.W.kitOne K ty (.ref C) = some false) ∧ Q (.bl false) H)
theorem r_PlainHall_eq_1 {K : PySem.W.Frag} {C : Addr} {H : Hp} {Q : VK} {E : XK} {vv : List V} {p dx r t : Addr} {m : Int} {xs : List V} {cs : List (Int × Int)} {ts : List Int} {q dy u v : Addr} {n : Int} {ys : List V} {ds : List (Int × Int)} {us : List Int} (ee : vv = [.ref p, .ref q]) (hp : H p = some (.ins C dx [("_members", .int m), ("_row", .ref r), ("_told", .ref t)])) (hr : H r = some (.lst xs)) (ht : H t = some (.lst (ts.map V.int))) (hxs : All2 (PairAt H) xs cs) (hq : H q = some (.ins C dy [("_members", .int n), ("_row", .ref u), ("_told", .ref v)])) (hu : H u = some (.lst ys)) (hv : H v = some (.lst (us.map V.int))) (hys : All2 (PairAt H) ys ds) (k : ∀ H', Same H H' → Q (.bl (decide (cs = ds) && decide (ts = us))) H') : sp_PlainHall_eq K C vv H Q E := by
  subst ee
  exact .inl ⟨p, dx, r, t, m, xs, cs, ts, q, dy, u, v, n, ys, ds, us, rfl, hp, hr, ht, hxs, hq, hu, hv, hys, k⟩
theorem r_PlainHall_eq_2 {K : PySem.W.Frag} {C : Addr} {H : Hp} {Q : VK} {E : XK} {vv : List V} {p dx r t : Addr} {m : Int} {x : V} {ty : Value} (ee : vv = [.ref p, x]) (hp : H p = some (.ins C dx [("_members", .int m), ("_row", .ref r), ("_told", .ref t)])) (hx : TyX K H x ty) (hk : PySem.W.kitOne K ty (.ref C) = some false) (k : Q (.bl false) H) : sp_PlainHall_eq K C vv H Q E := by
  subst ee
  exact .inr (⟨p, dx, r, t, m, x, ty, rfl, hp, hx, hk, k⟩)
def sp_PlainHall_add (K : PySem.W.Frag) (C CK CL : Addr) : Sp := fun vs H Q E => (∃ (p dx r t i : Addr) (m : Int) (xs : List V) (cs : List (Int × Int)) (c : Int × Int), vs = [.ref p, .ref i] ∧ (H p = some (.ins C dx [("_members", .int m), ("_row", .ref r), ("_told", .ref t)])) ∧ (H r = some (.lst xs)) ∧ (All2 (PairAt H) xs cs) ∧ (H i = some (.tup [.int c.1, .int c.2])) ∧ (c ∈ cs) ∧ ∀ (d : Addr) (H' : Hp), Same H H' → H' d = some (.xd [("found", .ref i)]) → E (.ref CK) (some d) H') ∨
  (∃ (p dx r t i : Addr) (m : Int) (xs : List V) (cs : List (Int × Int)) (c : Int × Int), vs = [.ref p, .ref i] ∧ (H p = some (.ins C dx [("_members", .int m), ("_row", .ref r), ("_told", .ref t)])) ∧ (H r = some (.lst xs)) ∧ (All2 (PairAt H) xs cs) ∧ (H i = some (.tup [.int c.1, .int c.2])) ∧ (c ∉ cs) ∧ (1 < c.2) ∧ ((c.1, c.2 - 1) ∉ cs) ∧ ∀ (d l a : Addr) (H' : Hp), Same H H' → H' d = some (.xd [("found", .ref l)]) → H' l = some (.lst [.ref a]) → H' a = some (.tup [.int c.1, .int (c.2 - 1)]) → H l = none → E (.ref CL) (some d) H') ∨
  (∃ (p dx r t i : Addr) (m : Int) (xs : List V) (cs : List (Int × Int)) (c : Int × Int), vs = [.ref p, .ref i] ∧ (H p = some (.ins C dx [("_members", .int m), ("_row", .ref r), ("_told", .ref t)])) ∧ (H r = some (.lst xs)) ∧ (All2 (PairAt H) xs cs) ∧ (H i = some (.tup [.int c.1, .int c.2])) ∧ (c ∉ cs) ∧ (¬ (1 < c.2 ∧ (c.1, c.2 - 1) ∉ cs)) ∧ (xs.length ≤ 2000) ∧ ∀ H', Fr1 r H H' → H' r = some (.lst (xs ++ [.ref i])) → Q .non H')
theorem r_PlainHall_add_1 {K : PySem.W.Frag} {C CK CL : Addr} {H : Hp} {Q : VK} {E : XK} {vv : List V} {p dx r t i : Addr} {m : Int} {xs : List V} {cs : List (Int × Int)} {c : Int × Int} (ee : vv = [.ref p, .ref i]) (hp : H p = some (.ins C dx [("_members", .int m), ("_row", .ref r), ("_told", .ref t)])) (hr : H r = some (.lst xs)) (hxs : All2 (PairAt H) xs cs) (hi : H i = some (.tup [.int c.1, .int c.2])) (hm : c ∈ cs) (k : ∀ (d : Addr) (H' : Hp), Same H H' → H' d = some (.xd [("found", .ref i)]) → E (.ref CK) (some d) H') : sp_PlainHall_add K C CK CL vv H Q E := by
  subst ee
  exact .inl ⟨p, dx, r, t, i, m, xs, cs, c, rfl, hp, hr, hxs, hi, hm, k⟩
theorem r_PlainHall_add_2 {K : PySem.W.Frag} {C CK CL : Addr} {H : Hp} {Q : VK} {E : XK} {vv : List V} {p dx r t i : Addr} {m : Int} {xs : List V} {cs : List (Int × Int)} {c : Int × Int} (ee : vv = [.ref p, .ref i]) (hp : H p = some (.ins C dx [("_members", .int m), ("_row", .ref r), ("_told", .ref t)])) (hr : H r = some (.lst xs)) (hxs : All2 (PairAt H) xs cs) (hi : H i = some (.tup [.int c.1, .int c.2])) (hm : c ∉ cs) (hn : 1 < c.2) (hb : (c.1, c.2 - 1) ∉ cs) (k : ∀ (d l a : Addr) (H' : Hp), Same H H' → H' d = some (.xd [("found", .ref l)]) → H' l = some (.lst [.ref a]) → H' a = some (.tup [.int c.1, .int (c.2 - 1)]) → H l = none → E (.ref CL) (some d) H') : sp_PlainHall_add K C CK CL vv H Q E := by
  subst ee
  exact .inr (.inl ⟨p, dx, r, t, i, m, xs, cs, c, rfl, hp, hr, hxs, hi, hm, hn, hb, k⟩)
theorem r_PlainHall_add_3 {K : PySem.W.Frag} {C CK CL : Addr} {H : Hp} {Q : VK} {E : XK} {vv : List V} {p dx r t i : Addr} {m : Int} {xs : List V} {cs : List (Int × Int)} {c : Int × Int} (ee : vv = [.ref p, .ref i]) (hp : H p = some (.ins C dx [("_members", .int m), ("_row", .ref r), ("_told", .ref t)])) (hr : H r = some (.lst xs)) (hxs : All2 (PairAt H) xs cs) (hi : H i = some (.tup [.int c.1, .int c.2])) (hm : c ∉ cs) (hb : ¬ (1 < c.2 ∧ (c.1, c.2 - 1) ∉ cs)) (hl : xs.length ≤ 2000) (k : ∀ H', Fr1 r H H' → H' r = some (.lst (xs ++ [.ref i])) → Q .non H') : sp_PlainHall_add K C CK CL vv H Q E := by
  subst ee
  exact .inr (.inr (⟨p, dx, r, t, i, m, xs, cs, c, rfl, hp, hr, hxs, hi, hm, hb, hl, k⟩))
def sp_PlainHall_tell (K : PySem.W.Frag) (C CA : Addr) : Sp := fun vs H Q E => (∃ (p dx r t : Addr) (m : Int) (xs : List V) (ts : List Int) (kk j : Nat) (x : V), vs = [.ref p, .int (kk : Nat)] ∧ (H p = some (.ins C dx [("_members", .int m), ("_row", .ref r), ("_told", .ref t)])) ∧ (H r = some (.lst xs)) ∧ (H t = some (.lst (ts.map V.int))) ∧ (ts[kk]? = some (j : Int)) ∧ (xs[j]? = some x) ∧ (r ≠ t) ∧ Q x (upd H t (.lst ((ts.set kk ((j : Int) + 1)).map V.int)))) ∨
  (∃ (p dx r t : Addr) (m : Int) (xs : List V) (ts : List Int) (kk j : Nat), vs = [.ref p, .int (kk : Nat)] ∧ (H p = some (.ins C dx [("_members", .int m), ("_row", .ref r), ("_told", .ref t)])) ∧ (H r = some (.lst xs)) ∧ (H t = some (.lst (ts.map V.int))) ∧ (ts[kk]? = some (j : Int)) ∧ (j = xs.length) ∧ ∀ d, H d = none → E (.ref CA) (some d) (upd H d (.xd [("found", .int (kk : Nat))])))
theorem r_PlainHall_tell_1 {K : PySem.W.Frag} {C CA : Addr} {H : Hp} {Q : VK} {E : XK} {vv : List V} {p dx r t : Addr} {m : Int} {xs : List V} {ts : List Int} {kk j : Nat} {x : V} (ee : vv = [.ref p, .int (kk : Nat)]) (hp : H p = some (.ins C dx [("_members", .int m), ("_row", .ref r), ("_told", .ref t)])) (hr : H r = some (.lst xs)) (ht : H t = some (.lst (ts.map V.int))) (hj : ts[kk]? = some (j : Int)) (hx : xs[j]? = some x) (hrt : r ≠ t) (k : Q x (upd H t (.lst ((ts.set kk ((j : Int) + 1)).map V.int)))) : sp_PlainHall_tell K C CA vv H Q E := by
  subst ee
  exact .inl ⟨p, dx, r, t, m, xs, ts, kk, j, x, rfl, hp, hr, ht, hj, hx, hrt, k⟩
theorem r_PlainHall_tell_2 {K : PySem.W.Frag} {C CA : Addr} {H : Hp} {Q : VK} {E : XK} {vv : List V} {p dx r t : Addr} {m : Int} {xs : List V} {ts : List Int} {kk j : Nat} (ee : vv = [.ref p, .int (kk : Nat)]) (hp : H p = some (.ins C dx [("_members", .int m), ("_row", .ref r), ("_told", .ref t)])) (hr : H r = some (.lst xs)) (ht : H t = some (.lst (ts.map V.int))) (hj : ts[kk]? = some (j : Int)) (hx : j = xs.length) (k : ∀ d, H d = none → E (.ref CA) (some d) (upd H d (.xd [("found", .int (kk : Nat))]))) : sp_PlainHall_tell K C CA vv H Q E := by
  subst ee
  exact .inr (⟨p, dx, r, t, m, xs, ts, kk, j, rfl, hp, hr, ht, hj, hx, k⟩)
def sp_PlainHall_twin (K : PySem.W.Frag) (C : Addr) : Sp := fun vs H Q E => (∃ (p dx r t : Addr) (m : Int) (xs : List V) (ts : List Int), vs = [.ref p] ∧ (H p = some (.ins C dx [("_members", .int m), ("_row", .ref r), ("_told", .ref t)])) ∧ (H r = some (.lst xs)) ∧ (H t = some (.lst (ts.map V.int))) ∧ (2 ≤ m) ∧ (m ≤ 5) ∧ ∀ (q dq r2 t2 : Addr) (H' : Hp), Same H H' → H' q = some (.ins C dq [("_members", .int m), ("_row", .ref r2), ("_told", .ref t2)]) → H' r2 = some (.lst xs) → H' t2 = some (.lst (ts.map V.int)) → H r2 = none → H t2 = none → r2 ≠ t2 → Q (.ref q) H')
theorem r_PlainHall_twin {K : PySem.W.Frag} {C : Addr} {H : Hp} {Q : VK} {E : XK} {vv : List V} {p dx r t : Addr} {m : Int} {xs : List V} {ts : List Int} (ee : vv = [.ref p]) (hp : H p = some (.ins C dx [("_members", .int m), ("_row", .ref r), ("_told", .ref t)])) (hr : H r = some (.lst xs)) (ht : H t = some (.lst (ts.map V.int))) (h2 : 2 ≤ m) (h5 : m ≤ 5) (k : ∀ (q dq r2 t2 : Addr) (H' : Hp), Same H H' → H' q = some (.ins C dq [("_members", .int m), ("_row", .ref r2), ("_told", .ref t2)]) → H' r2 = some (.lst xs) → H' t2 = some (.lst (ts.map V.int)) → H r2 = none → H t2 = none → r2 ≠ t2 → Q (.ref q) H') : sp_PlainHall_twin K C vv H Q E := by
  subst ee
  exact ⟨p, dx, r, t, m, xs, ts, rfl, hp, hr, ht, h2, h5, k⟩
def sp_PlainHall_do (K : PySem.W.Frag) (C CA CK CL CD : Addr) : Sp := fun vs H Q E => (∃ (p dx r t d : Addr) (m : Int) (xs : List V) (ts : List Int) (kk j : Nat) (x : V), vs = [.ref p, .ref d] ∧ (H p = some (.ins C dx [("_members", .int m), ("_row", .ref r), ("_told", .ref t)])) ∧ (H r = some (.lst xs)) ∧ (H t = some (.lst (ts.map V.int))) ∧ (H d = some (.tup [.str "tell", .int (kk : Nat)])) ∧ ((kk : Int) ≤ m - 1) ∧ (ts[kk]? = some (j : Int)) ∧ (xs[j]? = some x) ∧ (r ≠ t) ∧ ∀ H', Fr1 t H H' → H' t = some (.lst ((ts.set kk ((j : Int) + 1)).map V.int)) → Q x H') ∨
  (∃ (p dx r t d : Addr) (m : Int) (xs : List V) (ts : List Int) (kk j : Nat), vs = [.ref p, .ref d] ∧ (H p = some (.ins C dx [("_members", .int m), ("_row", .ref r), ("_told", .ref t)])) ∧ (H r = some (.lst xs)) ∧ (H t = some (.lst (ts.map V.int))) ∧ (H d = some (.tup [.str "tell", .int (kk : Nat)])) ∧ ((kk : Int) ≤ m - 1) ∧ (ts[kk]? = some (j : Int)) ∧ (j = xs.length) ∧ ∀ (e : Addr) (H' : Hp), Same H H' → H' e = some (.xd [("found", .int (kk : Nat))]) → E (.ref CA) (some e) H') ∨
  (∃ (p dx r t d : Addr) (m : Int) (xs : List V) (cs : List (Int × Int)) (c : Int × Int), vs = [.ref p, .ref d] ∧ (H p = some (.ins C dx [("_members", .int m), ("_row", .ref r), ("_told", .ref t)])) ∧ (H r = some (.lst xs)) ∧ (All2 (PairAt H) xs cs) ∧ (H d = some (.tup [.str "add", .int c.1, .int c.2])) ∧ (0 ≤ c.1) ∧ (c.1 ≤ m - 1) ∧ (1 ≤ c.2) ∧ (c ∈ cs) ∧ ∀ (e i : Addr) (H' : Hp), Same H H' → H' e = some (.xd [("found", .ref i)]) → H' i = some (.tup [.int c.1, .int c.2]) → E (.ref CK) (some e) H') ∨
  (∃ (p dx r t d : Addr) (m : Int) (xs : List V) (cs : List (Int × Int)) (c : Int × Int), vs = [.ref p, .ref d] ∧ (H p = some (.ins C dx [("_members", .int m), ("_row", .ref r), ("_told", .ref t)])) ∧ (H r = some (.lst xs)) ∧ (All2 (PairAt H) xs cs) ∧ (H d = some (.tup [.str "add", .int c.1, .int c.2])) ∧ (0 ≤ c.1) ∧ (c.1 ≤ m - 1) ∧ (1 < c.2) ∧ (c ∉ cs) ∧ ((c.1, c.2 - 1) ∉ cs) ∧ ∀ (e l a : Addr) (H' : Hp), Same H H' → H' e = some (.xd [("found", .ref l)]) → H' l = some (.lst [.ref a]) → H' a = some (.tup [.int c.1, .int (c.2 - 1)]) → H l = none → E (.ref CL) (some e) H') ∨
  (∃ (p dx r t d : Addr) (m : Int) (xs : List V) (cs : List (Int × Int)) (c : Int × Int), vs = [.ref p, .ref d] ∧ (H p = some (.ins C dx [("_members", .int m), ("_row", .ref r), ("_told", .ref t)])) ∧ (H r = some (.lst xs)) ∧ (All2 (PairAt H) xs cs) ∧ (H d = some (.tup [.str "add", .int c.1, .int c.2])) ∧ (0 ≤ c.1) ∧ (c.1 ≤ m - 1) ∧ (1 ≤ c.2) ∧ (c ∉ cs) ∧ (¬ (1 < c.2 ∧ (c.1, c.2 - 1) ∉ cs)) ∧ (xs.length ≤ 2000) ∧ ∀ (i : Addr) (H' : Hp), Fr1 r H H' → H' r = some (.lst (xs ++ [.ref i])) → H' i = some (.tup [.int c.1, .int c.2]) → Q .non H') ∨
  (∃ (p dx r t : Addr) (m : Int) (xs : List V) (x : V), vs = [.ref p, x] ∧ (H p = some (.ins C dx [("_members", .int m), ("_row", .ref r), ("_told", .ref t)])) ∧ (H r = some (.lst xs)) ∧ (NotD K H m x) ∧ ∀ (e : Addr) (H' : Hp), Same H H' → H' e = some (.xd [("found", x)]) → E (.ref CD) (some e) H')
theorem r_PlainHall_do_1 {K : PySem.W.Frag} {C CA CK CL CD : Addr} {H : Hp} {Q : VK} {E : XK} {vv : List V} {p dx r t d : Addr} {m : Int} {xs : List V} {ts : List Int} {kk j : Nat} {x : V} (ee : vv = [.ref p, .ref d]) (hp : H p = some (.ins C dx [("_members", .int m), ("_row", .ref r), ("_told", .ref t)])) (hr : H r = some (.lst xs)) (ht : H t = some (.lst (ts.map V.int))) (hd : H d = some (.tup [.str "tell", .int (kk : Nat)])) (hm : (kk : Int) ≤ m - 1) (hj : ts[kk]? = some (j : Int)) (hx : xs[j]? = some x) (hrt : r ≠ t) (k : ∀ H', Fr1 t H H' → H' t = some (.lst ((ts.set kk ((j : Int) + 1)).map V.int)) → Q x H') : sp_PlainHall_do K C CA CK CL CD vv H Q E := by
  subst ee
  exact .inl ⟨p, dx, r, t, d, m, xs, ts, kk, j, x, rfl, hp, hr, ht, hd, hm, hj, hx, hrt, k⟩
theorem r_PlainHall_do_2 {K : PySem.W.Frag} {C CA CK CL CD : Addr} {H : Hp} {Q : VK} {E : XK} {vv : List V} {p dx r t d : Addr} {m : Int} {xs : List V} {ts : List Int} {kk j : Nat} (ee : vv = [.ref p, .ref d]) (hp : H p = some (.ins C dx [("_members", .int m), ("_row", .ref r), ("_told", .ref t)])) (hr : H r = some (.lst xs)) (ht : H t = some (.lst (ts.map V.int))) (hd : H d = some (.tup [.str "tell", .int (kk : Nat)])) (hm : (kk : Int) ≤ m - 1) (hj : ts[kk]? = some (j : Int)) (hx : j = xs.length) (k : ∀ (e : Addr) (H' : Hp), Same H H' → H' e = some (.xd [("found", .int (kk : Nat))]) → E (.ref CA) (some e) H') : sp_PlainHall_do K C CA CK CL CD vv H Q E := by
  subst ee
  exact .inr (.inl ⟨p, dx, r, t, d, m, xs, ts, kk, j, rfl, hp, hr, ht, hd, hm, hj, hx, k⟩)
theorem r_PlainHall_do_3 {K : PySem.W.Frag} {C CA CK CL CD : Addr} {H : Hp} {Q : VK} {E : XK} {vv : List V} {p dx r t d : Addr} {m : Int} {xs : List V} {cs : List (Int × Int)} {c : Int × Int} (ee : vv = [.ref p, .ref d]) (hp : H p = some (.ins C dx [("_members", .int m), ("_row", .ref r), ("_told", .ref t)])) (hr : H r = some (.lst xs)) (hxs : All2 (PairAt H) xs cs) (hd : H d = some (.tup [.str "add", .int c.1, .int c.2])) (h0 : 0 ≤ c.1) (h1 : c.1 ≤ m - 1) (hn : 1 ≤ c.2) (hm : c ∈ cs) (k : ∀ (e i : Addr) (H' : Hp), Same H H' → H' e = some (.xd [("found", .ref i)]) → H' i = some (.tup [.int c.1, .int c.2]) → E (.ref CK) (some e) H') : sp_PlainHall_do K C CA CK CL CD vv H Q E := by
  subst ee
  exact .inr (.inr (.inl ⟨p, dx, r, t, d, m, xs, cs, c, rfl, hp, hr, hxs, hd, h0, h1, hn, hm, k⟩))
theorem r_PlainHall_do_4 {K : PySem.W.Frag} {C CA CK CL CD : Addr} {H : Hp} {Q : VK} {E : XK} {vv : List V} {p dx r t d : Addr} {m : Int} {xs : List V} {cs : List (Int × Int)} {c : Int × Int} (ee : vv = [.ref p, .ref d]) (hp : H p = some (.ins C dx [("_members", .int m), ("_row", .ref r), ("_told", .ref t)])) (hr : H r = some (.lst xs)) (hxs : All2 (PairAt H) xs cs) (hd : H d = some (.tup [.str "add", .int c.1, .int c.2])) (h0 : 0 ≤ c.1) (h1 : c.1 ≤ m - 1) (hn : 1 < c.2) (hm : c ∉ cs) (hb : (c.1, c.2 - 1) ∉ cs) (k : ∀ (e l a : Addr) (H' : Hp), Same H H' → H' e = some (.xd [("found", .ref l)]) → H' l = some (.lst [.ref a]) → H' a = some (.tup [.int c.1, .int (c.2 - 1)]) → H l = none → E (.ref CL) (some e) H') : sp_PlainHall_do K C CA CK CL CD vv H Q E := by
  subst ee
  exact .inr (.inr (.inr (.inl ⟨p, dx, r, t, d, m, xs, cs, c, rfl, hp, hr, hxs, hd, h0, h1, hn, hm, hb, k⟩)))
theorem r_PlainHall_do_5 {K : PySem.W.Frag} {C CA CK CL CD : Addr} {H : Hp} {Q : VK} {E : XK} {vv : List V} {p dx r t d : Addr} {m : Int} {xs : List V} {cs : List (Int × Int)} {c : Int × Int} (ee : vv = [.ref p, .ref d]) (hp : H p = some (.ins C dx [("_members", .int m), ("_row", .ref r), ("_told", .ref t)])) (hr : H r = some (.lst xs)) (hxs : All2 (PairAt H) xs cs) (hd : H d = some (.tup [.str "add", .int c.1, .int c.2])) (h0 : 0 ≤ c.1) (h1 : c.1 ≤ m - 1) (hn : 1 ≤ c.2) (hm : c ∉ cs) (hb : ¬ (1 < c.2 ∧ (c.1, c.2 - 1) ∉ cs)) (hl : xs.length ≤ 2000) (k : ∀ (i : Addr) (H' : Hp), Fr1 r H H' → H' r = some (.lst (xs ++ [.ref i])) → H' i = some (.tup [.int c.1, .int c.2]) → Q .non H') : sp_PlainHall_do K C CA CK CL CD vv H Q E := by
  subst ee
  exact .inr (.inr (.inr (.inr (.inl ⟨p, dx, r, t, d, m, xs, cs, c, rfl, hp, hr, hxs, hd, h0, h1, hn, hm, hb, hl, k⟩))))
theorem r_PlainHall_do_6 {K : PySem.W.Frag} {C CA CK CL CD : Addr} {H : Hp} {Q : VK} {E : XK} {vv : List V} {p dx r t : Addr} {m : Int} {xs : List V} {x : V} (ee : vv = [.ref p, x]) (hp : H p = some (.ins C dx [("_members", .int m), ("_row", .ref r), ("_told", .ref t)])) (hr : H r = some (.lst xs)) (hx : NotD K H m x) (k : ∀ (e : Addr) (H' : Hp), Same H H' → H' e = some (.xd [("found", x)]) → E (.ref CD) (some e) H') : sp_PlainHall_do K C CA CK CL CD vv H Q E := by
  subst ee
  exact .inr (.inr (.inr (.inr (.inr (⟨p, dx, r, t, m, xs, x, rfl, hp, hr, hx, k⟩)))))
/-- a deed: tell of a member, or add of a pair -/
abbrev PD := Nat ⊕ (Int × Int)
def DeedAt (H : Hp) (d : Addr) : PD → Prop
  | .inl j => H d = some (.tup [.str "tell", .int (j : Nat)])
  | .inr c => H d = some (.tup [.str "add", .int c.1, .int c.2])
theorem DeedAt.same {H H' : Hp} {d : Addr} {g : PD} (h : DeedAt H d g) (s : Same H H') : DeedAt H' d g := by
  cases g with
  | inl j => exact s _ _ h
  | inr c => exact s _ _ h
def GoodG (m : Int) : PD → Prop
  | .inl j => (j : Int) ≤ m - 1
  | .inr c => 0 ≤ c.1 ∧ c.1 ≤ m - 1 ∧ 1 ≤ c.2
def GoodS (m : Int) (cs : List (Int × Int)) (ts : List Int) : Prop := (ts.length : Int) = m ∧ (∀ j ∈ ts, 0 ≤ j ∧ j ≤ cs.length) ∧ cs.length ≤ 1500
def wAll : List Str := [Str.ofString "all told", Str.ofString "family"]
def wKnown : List Str := [Str.ofString "known", Str.ofString "family"]
def wLacks : List Str := [Str.ofString "lacks", Str.ofString "family"]
def wTold : List Str := [Str.ofString "told"]
def wNo : List Str := [Str.ofString "no deed", Str.ofString "family"]
/-- what a deed brings: the words, the thing, the row, the places -/
def stepP (cs : List (Int × Int)) (ts : List Int) : PD → List Str × PyData × List (Int × Int) × List Int
  | .inl j => if ts.getD j 0 = cs.length then (wAll, .int j, cs, ts) else (wTold, pairOf (cs.getD (ts.getD j 0).toNat (0, 0)), cs, ts.set j (ts.getD j 0 + 1))
  | .inr c => if c ∈ cs then (wKnown, pairOf c, cs, ts) else if 1 < c.2 ∧ (c.1, c.2 - 1) ∉ cs then (wLacks, .list [pairOf (c.1, c.2 - 1)], cs, ts) else (wTold, .none, cs ++ [c], ts)
theorem stepP_all {cs : List (Int × Int)} {ts : List Int} {j : Nat} (e : ts.getD j 0 = cs.length) : stepP cs ts (.inl j) = (wAll, .int j, cs, ts) := by
  unfold stepP
  dsimp only
  rw [if_pos e]
theorem stepP_told {cs : List (Int × Int)} {ts : List Int} {j : Nat} (e : ¬ ts.getD j 0 = cs.length) : stepP cs ts (.inl j) = (wTold, pairOf (cs.getD (ts.getD j 0).toNat (0, 0)), cs, ts.set j (ts.getD j 0 + 1)) := by
  unfold stepP
  dsimp only
  rw [if_neg e]
theorem stepP_known {cs : List (Int × Int)} {ts : List Int} {c : Int × Int} (e : c ∈ cs) : stepP cs ts (.inr c) = (wKnown, pairOf c, cs, ts) := by
  unfold stepP
  dsimp only
  rw [if_pos e]
theorem stepP_lacks {cs : List (Int × Int)} {ts : List Int} {c : Int × Int} (e : ¬ c ∈ cs) (e2 : 1 < c.2 ∧ (c.1, c.2 - 1) ∉ cs) : stepP cs ts (.inr c) = (wLacks, .list [pairOf (c.1, c.2 - 1)], cs, ts) := by
  unfold stepP
  dsimp only
  rw [if_neg e, if_pos e2]
theorem stepP_add {cs : List (Int × Int)} {ts : List Int} {c : Int × Int} (e : ¬ c ∈ cs) (e2 : ¬ (1 < c.2 ∧ (c.1, c.2 - 1) ∉ cs)) : stepP cs ts (.inr c) = (wTold, .none, cs ++ [c], ts) := by
  unfold stepP
  dsimp only
  rw [if_neg e, if_neg e2]
theorem stepP_same {cs : List (Int × Int)} {ts : List Int} {g : PD} (h : (stepP cs ts g).1 ≠ wTold) : (stepP cs ts g).2.2 = (cs, ts) := by
  cases g with
  | inl j =>
    by_cases e : ts.getD j 0 = cs.length
    · rw [stepP_all e]
    · rw [stepP_told e] at h
      exact absurd rfl h
  | inr c =>
    by_cases e : c ∈ cs
    · rw [stepP_known e]
    · by_cases e2 : 1 < c.2 ∧ (c.1, c.2 - 1) ∉ cs
      · rw [stepP_lacks e e2]
      · rw [stepP_add e e2] at h
        exact absurd rfl h
def sp_law_did (K : PySem.W.Frag) (C : Addr) : Sp := fun vs H Q E => (∃ (p dx r t d : Addr) (m : Int) (xs : List V) (cs : List (Int × Int)) (ts : List Int) (g : PD), vs = [.ref p, .ref d] ∧ (H p = some (.ins C dx [("_members", .int m), ("_row", .ref r), ("_told", .ref t)])) ∧ (H r = some (.lst xs)) ∧ (H t = some (.lst (ts.map V.int))) ∧ (All2 (PairAt H) xs cs) ∧ (r ≠ t) ∧ (DeedAt H d g) ∧ (GoodG m g) ∧ (GoodS m cs ts) ∧ ∀ (u w : Addr) (z : V) (zs : List V) (H' : Hp), (∀ b o, b ≠ r → b ≠ t → H b = some o → H' b = some o) → H' r = some (.lst zs) → All2 (PairAt H') zs (stepP cs ts g).2.2.1 → H' t = some (.lst ((stepP cs ts g).2.2.2.map V.int)) → H' u = some (.tup [.ref w, z]) → H' w = some (.lst ((stepP cs ts g).1.map V.str)) → Dp K H' z (stepP cs ts g).2.1 → Q (.ref u) H') ∨
  (∃ (p dx r t : Addr) (m : Int) (xs : List V) (x : V), vs = [.ref p, x] ∧ (H p = some (.ins C dx [("_members", .int m), ("_row", .ref r), ("_told", .ref t)])) ∧ (H r = some (.lst xs)) ∧ (NotD K H m x) ∧ (∃ ty, TyX K H x ty ∧ ∃ b, PySem.W.kitOne K ty (.type "list") = some b) ∧ ∀ (u w : Addr) (H' : Hp), Same H H' → H' u = some (.tup [.ref w, x]) → H' w = some (.lst (wNo.map V.str)) → Q (.ref u) H')
theorem r_law_did_1 {K : PySem.W.Frag} {C : Addr} {H : Hp} {Q : VK} {E : XK} {vv : List V} {p dx r t d : Addr} {m : Int} {xs : List V} {cs : List (Int × Int)} {ts : List Int} {g : PD} (ee : vv = [.ref p, .ref d]) (hp : H p = some (.ins C dx [("_members", .int m), ("_row", .ref r), ("_told", .ref t)])) (hr : H r = some (.lst xs)) (ht : H t = some (.lst (ts.map V.int))) (hxs : All2 (PairAt H) xs cs) (hrt : r ≠ t) (hd : DeedAt H d g) (hg : GoodG m g) (hs : GoodS m cs ts) (k : ∀ (u w : Addr) (z : V) (zs : List V) (H' : Hp), (∀ b o, b ≠ r → b ≠ t → H b = some o → H' b = some o) → H' r = some (.lst zs) → All2 (PairAt H') zs (stepP cs ts g).2.2.1 → H' t = some (.lst ((stepP cs ts g).2.2.2.map V.int)) → H' u = some (.tup [.ref w, z]) → H' w = some (.lst ((stepP cs ts g).1.map V.str)) → Dp K H' z (stepP cs ts g).2.1 → Q (.ref u) H') : sp_law_did K C vv H Q E := by
  subst ee
  exact .inl ⟨p, dx, r, t, d, m, xs, cs, ts, g, rfl, hp, hr, ht, hxs, hrt, hd, hg, hs, k⟩
theorem r_law_did_2 {K : PySem.W.Frag} {C : Addr} {H : Hp} {Q : VK} {E : XK} {vv : List V} {p dx r t : Addr} {m : Int} {xs : List V} {x : V} (ee : vv = [.ref p, x]) (hp : H p = some (.ins C dx [("_members", .int m), ("_row", .ref r), ("_told", .ref t)])) (hr : H r = some (.lst xs)) (hx : NotD K H m x) (hnl : ∃ ty, TyX K H x ty ∧ ∃ b, PySem.W.kitOne K ty (.type "list") = some b) (k : ∀ (u w : Addr) (H' : Hp), Same H H' → H' u = some (.tup [.ref w, x]) → H' w = some (.lst (wNo.map V.str)) → Q (.ref u) H') : sp_law_did K C vv H Q E := by
  subst ee
  exact .inr (⟨p, dx, r, t, m, xs, x, rfl, hp, hr, hx, hnl, k⟩)
/-- what came, by its own addresses: none lies where a list was -/
def Dz (H H' : Hp) (z : V) (d : PyData) : Prop :=
  (∃ n, z = .int n ∧ d = .int n) ∨ (z = .non ∧ d = .none) ∨ (∃ c, PairAt H' z c ∧ d = pairOf c) ∨
  (∃ l x c, z = .ref l ∧ H l = none ∧ H' l = some (.lst [x]) ∧ PairAt H' x c ∧ d = .list [pairOf c])
theorem PairAt.keep {r t : Addr} {H H' : Hp} {x : V} {c : Int × Int} {xs ts : List V} (h : PairAt H x c) (f : ∀ b o, b ≠ r → b ≠ t → H b = some o → H' b = some o) (hr : H r = some (.lst xs)) (ht : H t = some (.lst ts)) : PairAt H' x c := by
  obtain ⟨i, rfl, h⟩ := h
  exact ⟨i, rfl, f _ _ (fun e => by rw [e, hr] at h; cases h) (fun e => by rw [e, ht] at h; cases h) h⟩
theorem Dz.keep {r t : Addr} {H0 H H' : Hp} {z : V} {d : PyData} {xs ts us ws : List V} (h : Dz H0 H z d) (f : ∀ b o, b ≠ r → b ≠ t → H b = some o → H' b = some o) (hr : H r = some (.lst xs)) (ht : H t = some (.lst ts)) (h0r : H0 r = some (.lst us)) (h0t : H0 t = some (.lst ws)) : Dz H0 H' z d := by
  rcases h with h | h | ⟨c, h1, h2⟩ | ⟨l, x, c, h1, h2, h3, h4, h5⟩
  · exact .inl h
  · exact .inr (.inl h)
  · exact .inr (.inr (.inl ⟨c, h1.keep f hr ht, h2⟩))
  · exact .inr (.inr (.inr ⟨l, x, c, h1, h2, f _ _ (fun e => by rw [e, h0r] at h2; cases h2) (fun e => by rw [e, h0t] at h2; cases h2) h3, h4.keep f hr ht, h5⟩))
theorem Dz.dp {K : PySem.W.Frag} {H0 H : Hp} {z : V} {d : PyData} (h : Dz H0 H z d) : Dp K H z d := by
  rcases h with ⟨n, rfl, rfl⟩ | ⟨rfl, rfl⟩ | ⟨c, ⟨i, rfl, h⟩, rfl⟩ | ⟨l, x, c, rfl, h2, h3, ⟨i, rfl, h⟩, rfl⟩
  · exact .int _
  · exact .non
  · exact .tup (SqT.of h) (.cons (.int _) (.cons (.int _) .nil))
  · exact .lst (SqL.of h3) (.cons (.tup (SqT.of h) (.cons (.int _) (.cons (.int _) .nil))) .nil)
theorem DpStrs {K : PySem.W.Frag} {H : Hp} {ws : List Str} : DpAll K H (ws.map V.str) (ws.map PyData.str) := by
  induction ws with
  | nil => exact .nil
  | cons w ws ih => exact .cons (.str w) ih
theorem eqv_strs {ms ns : List Str} : PyData.eqvAll (ms.map PyData.str) (ns.map PyData.str) = decide (ms = ns) := by
  induction ms generalizing ns with
  | nil => cases ns <;> simp [PyData.eqvAll]
  | cons m ms ih =>
    cases ns with
    | nil => simp [PyData.eqvAll]
    | cons n ns =>
      simp only [List.map_cons, PyData.eqvAll, ih, PyData.eqv, List.cons.injEq, Bool.decide_and]
      congr 1
theorem stepP_lay {cs : List (Int × Int)} {ts : List Int} {g : PD} : PyData.canLayAll0 ((stepP cs ts g).1.map PyData.str) = true := by
  have h : (stepP cs ts g).1 = wAll ∨ (stepP cs ts g).1 = wKnown ∨ (stepP cs ts g).1 = wLacks ∨ (stepP cs ts g).1 = wTold := by
    cases g with
    | inl j =>
      by_cases e : ts.getD j 0 = cs.length
      · exact .inl (by rw [stepP_all e])
      · exact .inr (.inr (.inr (by rw [stepP_told e])))
    | inr c =>
      by_cases e : c ∈ cs
      · exact .inr (.inl (by rw [stepP_known e]))
      · by_cases e2 : 1 < c.2 ∧ (c.1, c.2 - 1) ∉ cs
        · exact .inr (.inr (.inl (by rw [stepP_lacks e e2])))
        · exact .inr (.inr (.inr (by rw [stepP_add e e2])))
  rcases h with h | h | h | h <;> rw [h] <;> decide +kernel
theorem DeedAt.keep {r t : Addr} {H H' : Hp} {d : Addr} {g : PD} {xs ts : List V} (h : DeedAt H d g) (f : ∀ b o, b ≠ r → b ≠ t → H b = some o → H' b = some o) (hr : H r = some (.lst xs)) (ht : H t = some (.lst ts)) : DeedAt H' d g := by
  cases g with
  | inl j =>
    have h : H d = some (.tup [.str "tell", .int (j : Nat)]) := h
    exact f _ _ (fun e => by rw [e, hr] at h; cases h) (fun e => by rw [e, ht] at h; cases h) h
  | inr c =>
    have h : H d = some (.tup [.str "add", .int c.1, .int c.2]) := h
    exact f _ _ (fun e => by rw [e, hr] at h; cases h) (fun e => by rw [e, ht] at h; cases h) h
theorem depth_strs {ws : List Str} : PyData.depthAll (ws.map PyData.str) ≤ 1 := by
  induction ws with
  | nil => exact Nat.zero_le _
  | cons w ws ih =>
    show max (PyData.depth (.str w)) (PyData.depthAll (ws.map PyData.str)) ≤ 1
    exact Nat.max_le.mpr ⟨Nat.le_of_ble_eq_true rfl, ih⟩
theorem sh_strs {ws : List Str} (hw : PyData.canLayAll0 (ws.map PyData.str) = true) : SeqAt.shaped (.list (ws.map PyData.str)) = true := by
  show (PyData.canLayAll0 (ws.map PyData.str) && decide (PyData.depthAll (ws.map PyData.str) + 1 ≤ 64)) = true
  rw [hw, Bool.true_and, decide_eq_true_eq]
  have := depth_strs (ws := ws)
  omega
theorem Dz.lay {H0 H : Hp} {z : V} {d : PyData} (h : Dz H0 H z d) : d.canLay0 = true ∧ d.depth ≤ 4 := by
  rcases h with ⟨n, rfl, rfl⟩ | ⟨rfl, rfl⟩ | ⟨c, ⟨i, rfl, h⟩, rfl⟩ | ⟨l, x, c, rfl, h2, h3, ⟨i, rfl, h⟩, rfl⟩
  · exact ⟨rfl, Nat.le_of_ble_eq_true rfl⟩
  · exact ⟨rfl, Nat.le_of_ble_eq_true rfl⟩
  · exact ⟨rfl, Nat.le_of_ble_eq_true rfl⟩
  · exact ⟨rfl, Nat.le_of_ble_eq_true rfl⟩
theorem Dz.canLay {H0 H : Hp} {z : V} {d : PyData} {ws : List Str} (h : Dz H0 H z d) (hw : PyData.canLayAll0 (ws.map PyData.str) = true) : PyData.canLay0 (.tuple [.list (ws.map PyData.str), d]) = true := by
  show (PyData.canLayAll0 (ws.map PyData.str) && (PyData.canLay0 d && true)) = true
  rw [hw, h.lay.1]
  rfl
theorem Dz.sh {H0 H : Hp} {z : V} {d : PyData} {ws : List Str} (h : Dz H0 H z d) (hw : PyData.canLayAll0 (ws.map PyData.str) = true) : SeqAt.shaped (.tuple [.list (ws.map PyData.str), d]) = true := by
  show (PyData.canLay0 (.tuple [.list (ws.map PyData.str), d]) && decide (max (PyData.depthAll (ws.map PyData.str) + 1) (max (PyData.depth d) 0) + 1 ≤ 64)) = true
  rw [h.canLay hw, Bool.true_and, decide_eq_true_eq]
  have := depth_strs (ws := ws)
  have := h.lay.2
  omega
theorem Dz.eqv {H0 H : Hp} {z : V} {d : PyData} {ws : List Str} (h : Dz H0 H z d) (hw : PyData.canLayAll0 (ws.map PyData.str) = true) : PyData.eqv (.tuple [.list (ws.map PyData.str), d]) (.tuple [.list (ws.map PyData.str), d]) = true := SeqAt.eqv_refl _ (h.canLay hw)
def sp_law_due (K : PySem.W.Frag) : Sp := fun vs H Q E => (∃ (s ra ta d : Addr) (m : Int) (ys : List V) (cs : List (Int × Int)) (ts : List Int) (g : PD), vs = [.ref s, .ref d] ∧ (H s = some (.dK [(.inr "row", .ref ra), (.inr "told", .ref ta)])) ∧ (H ra = some (.lst ys)) ∧ (H ta = some (.lst (ts.map V.int))) ∧ (All2 (PairAt H) ys cs) ∧ (ra ≠ ta) ∧ (DeedAt H d g) ∧ (GoodG m g) ∧ (GoodS m cs ts) ∧ ∀ (u w : Addr) (z : V) (zs : List V) (H' : Hp), (∀ b o, b ≠ ra → b ≠ ta → H b = some o → H' b = some o) → H' ra = some (.lst zs) → All2 (PairAt H') zs (stepP cs ts g).2.2.1 → H' ta = some (.lst ((stepP cs ts g).2.2.2.map V.int)) → H w = none → H' u = some (.tup [.ref w, z]) → H' w = some (.lst ((stepP cs ts g).1.map V.str)) → Dz H H' z (stepP cs ts g).2.1 → Q (.ref u) H')
theorem r_law_due {K : PySem.W.Frag} {H : Hp} {Q : VK} {E : XK} {vv : List V} {s ra ta d : Addr} {m : Int} {ys : List V} {cs : List (Int × Int)} {ts : List Int} {g : PD} (ee : vv = [.ref s, .ref d]) (hs : H s = some (.dK [(.inr "row", .ref ra), (.inr "told", .ref ta)])) (hra : H ra = some (.lst ys)) (hta : H ta = some (.lst (ts.map V.int))) (hys : All2 (PairAt H) ys cs) (hrat : ra ≠ ta) (hd : DeedAt H d g) (hg : GoodG m g) (hgs : GoodS m cs ts) (k : ∀ (u w : Addr) (z : V) (zs : List V) (H' : Hp), (∀ b o, b ≠ ra → b ≠ ta → H b = some o → H' b = some o) → H' ra = some (.lst zs) → All2 (PairAt H') zs (stepP cs ts g).2.2.1 → H' ta = some (.lst ((stepP cs ts g).2.2.2.map V.int)) → H w = none → H' u = some (.tup [.ref w, z]) → H' w = some (.lst ((stepP cs ts g).1.map V.str)) → Dz H H' z (stepP cs ts g).2.1 → Q (.ref u) H') : sp_law_due K vv H Q E := by
  subst ee
  exact ⟨s, ra, ta, d, m, ys, cs, ts, g, rfl, hs, hra, hta, hys, hrat, hd, hg, hgs, k⟩
def sp_law_no_member (K : PySem.W.Frag) (C : Addr) : Sp := fun vs H Q E => (∃ (p dx r t : Addr) (m : Int) (x : V) (d : PyData), vs = [.ref p, x] ∧ (H p = some (.ins C dx [("_members", .int m), ("_row", .ref r), ("_told", .ref t)])) ∧ (NotM K H m x) ∧ (Dp K H x d) ∧ (SeqAt.shaped d = true) ∧ (PyData.eqv d d = true) ∧ ∀ H', Same H H' → Q (.bl true) H')
theorem r_law_no_member {K : PySem.W.Frag} {C : Addr} {H : Hp} {Q : VK} {E : XK} {vv : List V} {p dx r t : Addr} {m : Int} {x : V} {d : PyData} (ee : vv = [.ref p, x]) (hp : H p = some (.ins C dx [("_members", .int m), ("_row", .ref r), ("_told", .ref t)])) (hx : NotM K H m x) (hd : Dp K H x d) (hsh : SeqAt.shaped d = true) (hq : PyData.eqv d d = true) (k : ∀ H', Same H H' → Q (.bl true) H') : sp_law_no_member K C vv H Q E := by
  subst ee
  exact ⟨p, dx, r, t, m, x, d, rfl, hp, hx, hd, hsh, hq, k⟩
def sp_law_stands (K : PySem.W.Frag) (C : Addr) : Sp := fun vs H Q E => (∃ (p dx r t s ra ta : Addr) (m : Int) (xs ys : List V) (cs : List (Int × Int)) (ts : List Int), vs = [.ref p, .ref s] ∧ (H p = some (.ins C dx [("_members", .int m), ("_row", .ref r), ("_told", .ref t)])) ∧ (H r = some (.lst xs)) ∧ (H t = some (.lst (ts.map V.int))) ∧ (All2 (PairAt H) xs cs) ∧ (H s = some (.dK [(.inr "row", .ref ra), (.inr "told", .ref ta)])) ∧ (H ra = some (.lst ys)) ∧ (H ta = some (.lst (ts.map V.int))) ∧ (All2 (PairAt H) ys cs) ∧ (GoodS m cs ts) ∧ (m ≤ 5) ∧ ∀ H', Same H H' → Q (.bl true) H')
theorem r_law_stands {K : PySem.W.Frag} {C : Addr} {H : Hp} {Q : VK} {E : XK} {vv : List V} {p dx r t s ra ta : Addr} {m : Int} {xs ys : List V} {cs : List (Int × Int)} {ts : List Int} (ee : vv = [.ref p, .ref s]) (hp : H p = some (.ins C dx [("_members", .int m), ("_row", .ref r), ("_told", .ref t)])) (hr : H r = some (.lst xs)) (ht : H t = some (.lst (ts.map V.int))) (hxs : All2 (PairAt H) xs cs) (hs : H s = some (.dK [(.inr "row", .ref ra), (.inr "told", .ref ta)])) (hra : H ra = some (.lst ys)) (hta : H ta = some (.lst (ts.map V.int))) (hys : All2 (PairAt H) ys cs) (hgs : GoodS m cs ts) (h5 : m ≤ 5) (k : ∀ H', Same H H' → Q (.bl true) H') : sp_law_stands K C vv H Q E := by
  subst ee
  exact ⟨p, dx, r, t, s, ra, ta, m, xs, ys, cs, ts, rfl, hp, hr, ht, hxs, hs, hra, hta, hys, hgs, h5, k⟩
def sp_law_done (K : PySem.W.Frag) (C : Addr) : Sp := fun vs H Q E => (∃ (p dx r t s ra ta d : Addr) (m : Int) (xs ys : List V) (cs : List (Int × Int)) (ts : List Int) (g : PD), vs = [.ref p, .ref s, .ref d] ∧ (H p = some (.ins C dx [("_members", .int m), ("_row", .ref r), ("_told", .ref t)])) ∧ (H r = some (.lst xs)) ∧ (H t = some (.lst (ts.map V.int))) ∧ (All2 (PairAt H) xs cs) ∧ (H s = some (.dK [(.inr "row", .ref ra), (.inr "told", .ref ta)])) ∧ (H ra = some (.lst ys)) ∧ (H ta = some (.lst (ts.map V.int))) ∧ (All2 (PairAt H) ys cs) ∧ (r ≠ t) ∧ (ra ≠ ta) ∧ (r ≠ ra) ∧ (r ≠ ta) ∧ (t ≠ ra) ∧ (t ≠ ta) ∧ (DeedAt H d g) ∧ (GoodG m g) ∧ (GoodS m cs ts) ∧ (GoodS m (stepP cs ts g).2.2.1 (stepP cs ts g).2.2.2) ∧ (m ≤ 5) ∧ ∀ (xs' ys' : List V) (H' : Hp), (∀ b o, b ≠ r → b ≠ t → b ≠ ra → b ≠ ta → H b = some o → H' b = some o) → H' r = some (.lst xs') → All2 (PairAt H') xs' (stepP cs ts g).2.2.1 → H' t = some (.lst ((stepP cs ts g).2.2.2.map V.int)) → H' ra = some (.lst ys') → All2 (PairAt H') ys' (stepP cs ts g).2.2.1 → H' ta = some (.lst ((stepP cs ts g).2.2.2.map V.int)) → Q (.bl true) H')
theorem r_law_done {K : PySem.W.Frag} {C : Addr} {H : Hp} {Q : VK} {E : XK} {vv : List V} {p dx r t s ra ta d : Addr} {m : Int} {xs ys : List V} {cs : List (Int × Int)} {ts : List Int} {g : PD} (ee : vv = [.ref p, .ref s, .ref d]) (hp : H p = some (.ins C dx [("_members", .int m), ("_row", .ref r), ("_told", .ref t)])) (hr : H r = some (.lst xs)) (ht : H t = some (.lst (ts.map V.int))) (hxs : All2 (PairAt H) xs cs) (hs : H s = some (.dK [(.inr "row", .ref ra), (.inr "told", .ref ta)])) (hra : H ra = some (.lst ys)) (hta : H ta = some (.lst (ts.map V.int))) (hys : All2 (PairAt H) ys cs) (hrt : r ≠ t) (hrat : ra ≠ ta) (n1 : r ≠ ra) (n2 : r ≠ ta) (n3 : t ≠ ra) (n4 : t ≠ ta) (hd : DeedAt H d g) (hg : GoodG m g) (hgs : GoodS m cs ts) (hgs2 : GoodS m (stepP cs ts g).2.2.1 (stepP cs ts g).2.2.2) (h5 : m ≤ 5) (k : ∀ (xs' ys' : List V) (H' : Hp), (∀ b o, b ≠ r → b ≠ t → b ≠ ra → b ≠ ta → H b = some o → H' b = some o) → H' r = some (.lst xs') → All2 (PairAt H') xs' (stepP cs ts g).2.2.1 → H' t = some (.lst ((stepP cs ts g).2.2.2.map V.int)) → H' ra = some (.lst ys') → All2 (PairAt H') ys' (stepP cs ts g).2.2.1 → H' ta = some (.lst ((stepP cs ts g).2.2.2.map V.int)) → Q (.bl true) H') : sp_law_done K C vv H Q E := by
  subst ee
  exact ⟨p, dx, r, t, s, ra, ta, d, m, xs, ys, cs, ts, g, rfl, hp, hr, ht, hxs, hs, hra, hta, hys, hrt, hrat, n1, n2, n3, n4, hd, hg, hgs, hgs2, h5, k⟩
theorem stepP_good {m : Int} {cs : List (Int × Int)} {ts : List Int} {g : PD} (h : GoodS m cs ts) (hg : GoodG m g) (hl : cs.length ≤ 1400) : GoodS m (stepP cs ts g).2.2.1 (stepP cs ts g).2.2.2 ∧ (stepP cs ts g).2.2.1.length ≤ cs.length + 1 := by
  obtain ⟨h1, h2, h3⟩ := h
  cases g with
  | inl j =>
    by_cases e : ts.getD j 0 = cs.length
    · rw [stepP_all e]
      exact ⟨⟨h1, h2, h3⟩, Nat.le_succ _⟩
    · rw [stepP_told e]
      have hg : (j : Int) ≤ m - 1 := hg
      have hj : j < ts.length := by omega
      have hjt : ts[j]? = some (ts.getD j 0) := by rw [List.getD_eq_getElem?_getD, List.getElem?_eq_getElem hj]; rfl
      obtain ⟨h4, h5⟩ := h2 _ (List.mem_of_getElem? hjt)
      refine ⟨⟨?_, ?_, h3⟩, Nat.le_succ _⟩
      · show ((ts.set j (ts.getD j 0 + 1)).length : Int) = m
        rw [List.length_set]
        exact h1
      · intro x hx
        rcases List.mem_or_eq_of_mem_set hx with hx | rfl
        · exact h2 _ hx
        · exact ⟨by omega, by show ts.getD j 0 + 1 ≤ (cs.length : Int); omega⟩
  | inr c =>
    by_cases e : c ∈ cs
    · rw [stepP_known e]
      exact ⟨⟨h1, h2, h3⟩, Nat.le_succ _⟩
    · by_cases e2 : 1 < c.2 ∧ (c.1, c.2 - 1) ∉ cs
      · rw [stepP_lacks e e2]
        exact ⟨⟨h1, h2, h3⟩, Nat.le_succ _⟩
      · rw [stepP_add e e2]
        have hl2 : (cs ++ [c]).length = cs.length + 1 := by simp
        refine ⟨⟨h1, fun x hx => ?_, ?_⟩, ?_⟩
        · obtain ⟨h4, h5⟩ := h2 _ hx
          exact ⟨h4, by show x ≤ ((cs ++ [c]).length : Int); omega⟩
        · show (cs ++ [c]).length ≤ 1500
          omega
        · show (cs ++ [c]).length ≤ cs.length + 1
          omega
/-- a thing that is no deed, with its kind known -/
def Own1 (x : V) : Prop := (∃ a, x = .ref a) ∨ (∃ s, x = .str s) ∨ (∃ i, x = .int i) ∨ (∃ b, x = .bl b) ∨ x = .non
def PB (K : PySem.W.Frag) (m : Int) (H : Hp) (x : V) : Prop := NotD K H m x ∧ Own1 x ∧ ∃ ty, TyX K H x ty ∧ ∃ b, PySem.W.kitOne K ty (.type "list") = some b
theorem NotD.same {K : PySem.W.Frag} {H H' : Hp} {m : Int} {x : V} (h : NotD K H m x) (s : Same H H') : NotD K H' m x := by
  rcases h with ⟨ty, h1, h2⟩ | ⟨t, rfl, h1⟩ | ⟨t, y, ys, rfl, h1, h2, h3⟩ | ⟨t, ys, rfl, h1, h2, h3⟩ | ⟨t, y, rfl, h1, h2⟩ | ⟨t, ys, rfl, h1, h2, h3⟩ | ⟨t, y, z, rfl, h1, h2⟩ | ⟨t, j, z, rfl, h1, h2, h3, h4⟩
  · exact .inl ⟨ty, h1.mono s, h2⟩
  · exact .inr (.inl ⟨t, rfl, s _ _ h1⟩)
  · refine .inr (.inr (.inl ⟨t, y, ys, rfl, s _ _ h1, h2, ?_⟩))
    rcases h3 with h3 | ⟨a, ds, h4, h5, h6⟩
    · exact .inl h3
    · exact .inr ⟨a, ds, h4, Dp.up s h5, h6⟩
  · exact .inr (.inr (.inr (.inl ⟨t, ys, rfl, s _ _ h1, h2, h3⟩)))
  · exact .inr (.inr (.inr (.inr (.inl ⟨t, y, rfl, s _ _ h1, h2.same s⟩))))
  · exact .inr (.inr (.inr (.inr (.inr (.inl ⟨t, ys, rfl, s _ _ h1, h2, h3⟩)))))
  · exact .inr (.inr (.inr (.inr (.inr (.inr (.inl ⟨t, y, z, rfl, s _ _ h1, h2.same s⟩))))))
  · exact .inr (.inr (.inr (.inr (.inr (.inr (.inr ⟨t, j, z, rfl, s _ _ h1, h2, h3, h4.same s⟩))))))
theorem PB.same {K : PySem.W.Frag} {H H' : Hp} {m : Int} {x : V} (h : PB K m H x) (s : Same H H') : PB K m H' x := by
  obtain ⟨h1, h0, ty, h2, h3⟩ := h
  exact ⟨h1.same s, h0, ty, h2.mono s, h3⟩
theorem PB.tup {K : PySem.W.Frag} {H : Hp} {m : Int} {t : Addr} {ys : List V} (h : H t = some (.tup ys)) (n : NotD K H m (.ref t)) : PB K m H (.ref t) := ⟨n, .inl ⟨_, rfl⟩, _, .base (.tup h), _, kt_tuple_list⟩
theorem NotM.str {K : PySem.W.Frag} {H : Hp} {m : Int} {s : Str} : NotM K H m (.str s) := .inr (.inr ⟨_, .base (.str _), kt_str_int⟩)
theorem NotM.non {K : PySem.W.Frag} {H : Hp} {m : Int} : NotM K H m .non := .inr (.inr ⟨_, .base .non, kt_NoneType_int⟩)
theorem NotM.bl {K : PySem.W.Frag} {H : Hp} {m : Int} {b : Bool} : NotM K H m (.bl b) := .inr (.inl ⟨_, rfl⟩)
theorem NotM.int {K : PySem.W.Frag} {H : Hp} {m n : Int} (h : ¬ (0 ≤ n ∧ n ≤ m - 1)) : NotM K H m (.int n) := .inl ⟨_, rfl, h⟩
theorem NotM.lst {K : PySem.W.Frag} {H : Hp} {m : Int} {a : Addr} {xs : List V} (h : H a = some (.lst xs)) : NotM K H m (.ref a) := .inr (.inr ⟨_, .base (.lst h), kt_list_int⟩)
theorem NotM.tup {K : PySem.W.Frag} {H : Hp} {m : Int} {a : Addr} {xs : List V} (h : H a = some (.tup xs)) : NotM K H m (.ref a) := .inr (.inr ⟨_, .base (.tup h), kt_tuple_int⟩)
theorem NotWn.str {K : PySem.W.Frag} {H : Hp} {l : Int} {s : Str} : NotWn K H l (.str s) := .inr (.inr ⟨_, .base (.str _), kt_str_int⟩)
theorem NotWn.non {K : PySem.W.Frag} {H : Hp} {l : Int} : NotWn K H l .non := .inr (.inr ⟨_, .base .non, kt_NoneType_int⟩)
theorem NotWn.bl {K : PySem.W.Frag} {H : Hp} {l : Int} {b : Bool} : NotWn K H l (.bl b) := .inr (.inl ⟨_, rfl⟩)
theorem NotWn.int {K : PySem.W.Frag} {H : Hp} {l n : Int} (h : ¬ l ≤ n) : NotWn K H l (.int n) := .inl ⟨_, rfl, h⟩
section
variable {K : PySem.W.Frag} {H : Hp} {m : Int} {t : Addr}
theorem PB.a2 (h : H t = some (.tup [])) : PB K m H (.ref t) := .tup h (.inr (.inl ⟨t, rfl, h⟩))
theorem PB.a3 {y : V} {ys : List V} (h : H t = some (.tup (y :: ys))) (hl : ys.length ≤ 5) {s : Str} (hy : y = .str s) (n1 : s ≠ "add") (n2 : s ≠ "tell") : PB K m H (.ref t) := .tup h (.inr (.inr (.inl ⟨t, y, ys, rfl, h, hl, .inl ⟨s, hy, n1, n2⟩⟩)))
theorem PB.a3l {a : Addr} {ys : List V} (h : H t = some (.tup (.ref a :: ys))) (hl : ys.length ≤ 5) {ds : List PyData} (h1 : Dp K H (.ref a) (.list ds)) (h2 : SeqAt.shaped (.list ds) = true) : PB K m H (.ref t) := .tup h (.inr (.inr (.inl ⟨t, _, ys, rfl, h, hl, .inr ⟨a, ds, rfl, h1, h2⟩⟩)))
theorem PB.a4 {ys : List V} (h : H t = some (.tup (.str "tell" :: ys))) (hl : ys.length ≤ 5) (h1 : ys.length ≠ 1) : PB K m H (.ref t) := .tup h (.inr (.inr (.inr (.inl ⟨t, ys, rfl, h, hl, h1⟩))))
theorem PB.a5 {y : V} (h : H t = some (.tup [.str "tell", y])) (h1 : NotM K H m y) : PB K m H (.ref t) := .tup h (.inr (.inr (.inr (.inr (.inl ⟨t, y, rfl, h, h1⟩)))))
theorem PB.a6 {ys : List V} (h : H t = some (.tup (.str "add" :: ys))) (hl : ys.length ≤ 5) (h1 : ys.length ≠ 2) : PB K m H (.ref t) := .tup h (.inr (.inr (.inr (.inr (.inr (.inl ⟨t, ys, rfl, h, hl, h1⟩))))))
theorem PB.a7 {y z : V} (h : H t = some (.tup [.str "add", y, z])) (h1 : NotM K H m y) : PB K m H (.ref t) := .tup h (.inr (.inr (.inr (.inr (.inr (.inr (.inl ⟨t, y, z, rfl, h, h1⟩)))))))
theorem PB.a8 {j : Int} {z : V} (h : H t = some (.tup [.str "add", .int j, z])) (h0 : 0 ≤ j) (h1 : j ≤ m - 1) (h2 : NotWn K H 1 z) : PB K m H (.ref t) := .tup h (.inr (.inr (.inr (.inr (.inr (.inr (.inr ⟨t, j, z, rfl, h, h0, h1, h2⟩)))))))
end
/-- what is no member, and may be compared -/
def PN (K : PySem.W.Frag) (m : Int) (H : Hp) (x : V) : Prop := NotM K H m x ∧ ∃ d, Dp K H x d ∧ SeqAt.shaped d = true ∧ PyData.eqv d d = true
theorem PN.same {K : PySem.W.Frag} {H H' : Hp} {m : Int} {x : V} (h : PN K m H x) (s : Same H H') : PN K m H' x := by
  obtain ⟨h1, d, h2, h3⟩ := h
  exact ⟨h1.same s, d, Dp.up s h2, h3⟩
def sp_law_bad (K : PySem.W.Frag) (C : Addr) : Sp := fun vs H Q E => (∃ (p dx r t s ra ta : Addr) (m : Int) (xs : List V) (ts : List Int), vs = [.ref p, .ref s] ∧ (H p = some (.ins C dx [("_members", .int m), ("_row", .ref r), ("_told", .ref t)])) ∧ (H r = some (.lst xs)) ∧ (H s = some (.dK [(.inr "row", .ref ra), (.inr "told", .ref ta)])) ∧ (H ta = some (.lst (ts.map V.int))) ∧ ((ts.length : Int) = m) ∧ (2 ≤ m) ∧ (m ≤ 5) ∧ ∀ H', Same H H' → Q (.bl true) H')
theorem r_law_bad {K : PySem.W.Frag} {C : Addr} {H : Hp} {Q : VK} {E : XK} {vv : List V} {p dx r t s ra ta : Addr} {m : Int} {xs : List V} {ts : List Int} (ee : vv = [.ref p, .ref s]) (hp : H p = some (.ins C dx [("_members", .int m), ("_row", .ref r), ("_told", .ref t)])) (hr : H r = some (.lst xs)) (hs : H s = some (.dK [(.inr "row", .ref ra), (.inr "told", .ref ta)])) (hta : H ta = some (.lst (ts.map V.int))) (hm : (ts.length : Int) = m) (h2 : 2 ≤ m) (h5 : m ≤ 5) (k : ∀ H', Same H H' → Q (.bl true) H') : sp_law_bad K C vv H Q E := by
  subst ee
  exact ⟨p, dx, r, t, s, ra, ta, m, xs, ts, rfl, hp, hr, hs, hta, hm, h2, h5, k⟩
def sp_law_made (K : PySem.W.Frag) : Sp := fun vs H Q E => (∃ (x : V) (d : PyData), vs = [x] ∧ (NotW K H x) ∧ (Dp K H x d) ∧ (SeqAt.shaped d = true) ∧ (PyData.eqv d d = true) ∧ ∀ H', Same H H' → Q (.bl true) H')
theorem r_law_made {K : PySem.W.Frag} {H : Hp} {Q : VK} {E : XK} {vv : List V} {x : V} {d : PyData} (ee : vv = [x]) (hx : NotW K H x) (hd : Dp K H x d) (hsh : SeqAt.shaped d = true) (hq : PyData.eqv d d = true) (k : ∀ H', Same H H' → Q (.bl true) H') : sp_law_made K vv H Q E := by
  subst ee
  exact ⟨x, d, rfl, hx, hd, hsh, hq, k⟩
def sp_law_cell_at (K : PySem.W.Frag) : Sp := fun vs H Q E => (∃ (a : Addr) (ns : List Int) (n : Int), vs = [.ref a, .int n] ∧ (SqL K H a (ns.map V.int)) ∧ (0 ≤ n) ∧ (ns.length ≤ 63) ∧ ∀ c : Int, Q (.int c) H)
theorem r_law_cell_at {K : PySem.W.Frag} {H : Hp} {Q : VK} {E : XK} {vv : List V} {a : Addr} {ns : List Int} {n : Int} (ee : vv = [.ref a, .int n]) (hs : SqL K H a (ns.map V.int)) (h0 : 0 ≤ n) (hl : ns.length ≤ 63) (k : ∀ c : Int, Q (.int c) H) : sp_law_cell_at K vv H Q E := by
  subst ee
  exact ⟨a, ns, n, rfl, hs, h0, hl, k⟩
def sp_law_pool  : Sp := fun vs H Q E => (∃ (cell : Int), vs = [.int cell] ∧ ∀ (p : Addr) (n : Int), H p = none → 0 ≤ n → Q (.ref p) (upd H p (.lst [.int n])))
theorem r_law_pool  {H : Hp} {Q : VK} {E : XK} {vv : List V} {cell : Int} (ee : vv = [.int cell])  (k : ∀ (p : Addr) (n : Int), H p = none → 0 ≤ n → Q (.ref p) (upd H p (.lst [.int n]))) : sp_law_pool  vv H Q E := by
  subst ee
  exact ⟨cell, rfl, k⟩
def sp_law_take  : Sp := fun vs H Q E => (∃ (p : Addr) (n m : Int), vs = [.ref p, .int m] ∧ (H p = some (.lst [.int n])) ∧ (0 < m) ∧ (m.natAbs < 2 ^ 8000) ∧ Q (.int (n % m)) (upd H p (.lst [.int (n / m)])))
theorem r_law_take  {H : Hp} {Q : VK} {E : XK} {vv : List V} {p : Addr} {n m : Int} (ee : vv = [.ref p, .int m]) (hp : H p = some (.lst [.int n])) (hm : 0 < m) (hb : m.natAbs < 2 ^ 8000) (k : Q (.int (n % m)) (upd H p (.lst [.int (n / m)]))) : sp_law_take  vv H Q E := by
  subst ee
  exact ⟨p, n, m, rfl, hp, hm, hb, k⟩
def Keep (L : List Addr) (H H' : Hp) : Prop := ∀ b o, b ∉ L → H b = some o → H' b = some o
theorem Keep.of {L : List Addr} {H H' : Hp} (s : Same H H') : Keep L H H' := fun b o _ e => s b o e
/-- a hall's addresses, the state beside it, and what both hold -/
structure HL where
  p : Addr
  s : Addr
  r : Addr
  t : Addr
  ra : Addr
  ta : Addr
  m : Int
  cs : List (Int × Int)
  ts : List Int
def HL.ls (a : HL) : List Addr := [a.r, a.t, a.ra, a.ta]
structure Side (C : Addr) (H : Hp) (a : HL) : Prop where
  hp : ∃ dx, H a.p = some (.ins C dx [("_members", .int a.m), ("_row", .ref a.r), ("_told", .ref a.t)])
  hr : ∃ xs, H a.r = some (.lst xs) ∧ All2 (PairAt H) xs a.cs
  ht : H a.t = some (.lst (a.ts.map V.int))
  hs : H a.s = some (.dK [(.inr "row", .ref a.ra), (.inr "told", .ref a.ta)])
  hra : ∃ ys, H a.ra = some (.lst ys) ∧ All2 (PairAt H) ys a.cs
  hta : H a.ta = some (.lst (a.ts.map V.int))
  hg : GoodS a.m a.cs a.ts
  h2 : 2 ≤ a.m
  h5 : a.m ≤ 5
  hl : a.cs.length ≤ 30
theorem Keep.no {L : List Addr} {H H' : Hp} (f : Keep L H H') (hL : ∀ b ∈ L, ∃ xs, H b = some (.lst xs)) {b : Addr} {o : HO} (e : H b = some o) (n : ∀ xs, o ≠ .lst xs) : H' b = some o :=
  f b o (fun hb => by
    obtain ⟨xs, hx⟩ := hL b hb
    rw [hx] at e
    exact n xs (Option.some.inj e).symm) e
theorem Side.keep {C : Addr} {L : List Addr} {H H' : Hp} {a : HL} (h : Side C H a) (f : Keep L H H') (hL : ∀ b ∈ L, ∃ xs, H b = some (.lst xs)) (n : ∀ b ∈ a.ls, b ∉ L) : Side C H' a where
  hp := h.hp.imp fun dx e => f.no hL e (fun xs => by simp)
  hr := h.hr.imp fun xs e => ⟨f _ _ (n _ (by simp [HL.ls])) e.1, e.2.mono fun y c z => by
    obtain ⟨q, e1, e2⟩ := z
    exact ⟨q, e1, f.no hL e2 (fun xs => by simp)⟩⟩
  ht := f _ _ (n _ (by simp [HL.ls])) h.ht
  hs := f.no hL h.hs (fun xs => by simp)
  hra := h.hra.imp fun xs e => ⟨f _ _ (n _ (by simp [HL.ls])) e.1, e.2.mono fun y c z => by
    obtain ⟨q, e1, e2⟩ := z
    exact ⟨q, e1, f.no hL e2 (fun xs => by simp)⟩⟩
  hta := f _ _ (n _ (by simp [HL.ls])) h.hta
  hg := h.hg
  h2 := h.h2
  h5 := h.h5
  hl := h.hl
theorem Side.same {C : Addr} {H H' : Hp} {a : HL} (h : Side C H a) (s : Same H H') : Side C H' a := h.keep (L := []) (Keep.of s) (fun b hb => nomatch hb) (fun b _ hb => nomatch hb)
theorem Side.lists {C : Addr} {H : Hp} {a : HL} (h : Side C H a) : ∀ b ∈ a.ls, ∃ xs, H b = some (.lst xs) := fun b hb => by
  simp only [HL.ls, List.mem_cons, List.not_mem_nil, or_false] at hb
  rcases hb with rfl | rfl | rfl | rfl
  · exact h.hr.imp fun xs e => e.1
  · exact ⟨_, h.ht⟩
  · exact h.hra.imp fun xs e => e.1
  · exact ⟨_, h.hta⟩
/-- of a list of two, one at a place and the other one -/
def Two (H : Hp) (S : Addr) (i : Int) (x y : V) : Prop := (i = 0 ∧ H S = some (.lst [x, y])) ∨ (i = 1 ∧ H S = some (.lst [y, x]))
theorem Two.keep {L : List Addr} {H H' : Hp} {S : Addr} {i : Int} {x y : V} (h : Two H S i x y) (f : Keep L H H') (n : S ∉ L) : Two H' S i x y := h.imp (fun e => ⟨e.1, f _ _ n e.2⟩) (fun e => ⟨e.1, f _ _ n e.2⟩)
theorem Two.swap {H : Hp} {S : Addr} {i : Int} {x y : V} (h : Two H S i x y) : Two H S (1 - i) y x := by
  rcases h with ⟨rfl, h⟩ | ⟨rfl, h⟩
  · exact .inr ⟨by omega, h⟩
  · exact .inl ⟨by omega, h⟩
theorem Two.lst {H : Hp} {S : Addr} {i : Int} {x y : V} (h : Two H S i x y) : ∃ xs, H S = some (.lst xs) := h.elim (fun e => ⟨_, e.2⟩) (fun e => ⟨_, e.2⟩)
theorem q_twoA {K : PySem.W.Frag} {H : Hp} {Q : VK} {S : Addr} {i : Int} {x y : V} (h : Two H S i x y) (q : Q x H) : rIxL K (.ref S) (.int i) H Q := by
  rcases h with ⟨rfl, h⟩ | ⟨rfl, h⟩
  · exact q_ixL (SqL.of h) at0z q
  · exact q_ixL (SqL.of h) at1z q
theorem q_twoB {K : PySem.W.Frag} {H : Hp} {Q : VK} {S : Addr} {i : Int} {x y : V} (h : Two H S i x y) (q : Q y H) : rIxL K (.ref S) (.int (1 - i)) H Q := q_twoA h.swap q
theorem q_twoS {H : Hp} {Q : Hp → Prop} {S : Addr} {i : Int} {x y z : V} (h : Two H S i x y) (q : ∀ H', Keep [S] H H' → Two H' S i x z → Q H') : rSetL (.ref S) (.int (1 - i)) z H Q := by
  rcases h with ⟨rfl, h⟩ | ⟨rfl, h⟩
  · exact q_setL (j := 1) h rfl (q _ (fun b o n e => (upd_ne (fun w => n (by rw [w]; exact List.mem_singleton.mpr rfl))).trans e) (.inl ⟨rfl, upd_same⟩))
  · exact q_setL (j := 0) h rfl (q _ (fun b o n e => (upd_ne (fun w => n (by rw [w]; exact List.mem_singleton.mpr rfl))).trans e) (.inr ⟨rfl, upd_same⟩))
/-- the two halls, their states, the cells -/
structure TwoH (C S T c : Addr) (xs : List V) (H : Hp) (i : Int) (a b : HL) : Prop where
  hS : Two H S i (.ref a.p) (.ref b.p)
  hT : Two H T i (.ref a.s) (.ref b.s)
  hc : H c = some (.lst xs)
  ha : Side C H a
  hb : Side C H b
  ap : ([S, T, c] ++ (a.ls ++ b.ls)).Nodup
theorem TwoH.swap {C S T c : Addr} {xs : List V} {H : Hp} {i : Int} {a b : HL} (h : TwoH C S T c xs H i a b) : TwoH C S T c xs H (1 - i) b a where
  hS := h.hS.swap
  hT := h.hT.swap
  hc := h.hc
  ha := h.hb
  hb := h.ha
  ap := (List.Perm.append_left _ List.perm_append_comm).nodup h.ap
theorem TwoH.at {C S T c : Addr} {xs : List V} {H : Hp} {i j : Int} {a b : HL} (h : TwoH C S T c xs H i a b) (h0 : 0 ≤ j) (h1 : j < 2) : ∃ a b, TwoH C S T c xs H j a b := by
  have hi : i = 0 ∨ i = 1 := h.hS.elim (fun e => .inl e.1) (fun e => .inr e.1)
  by_cases e : j = i
  · subst e
    exact ⟨a, b, h⟩
  · have e2 : j = 1 - i := by omega
    subst e2
    exact ⟨b, a, h.swap⟩
theorem TwoH.lists {C S T c : Addr} {xs : List V} {H : Hp} {i : Int} {a b : HL} (h : TwoH C S T c xs H i a b) : ∀ x ∈ [S, T, c] ++ (a.ls ++ b.ls), ∃ xs, H x = some (.lst xs) := fun x hx => by
  rcases List.mem_append.mp hx with hx | hx
  · simp only [List.mem_cons, List.not_mem_nil, or_false] at hx
    rcases hx with rfl | rfl | rfl
    · exact h.hS.lst
    · exact h.hT.lst
    · exact ⟨_, h.hc⟩
  · rcases List.mem_append.mp hx with hx | hx
    · exact h.ha.lists x hx
    · exact h.hb.lists x hx
theorem TwoH.keep {C S T c : Addr} {xs : List V} {L : List Addr} {H H' : Hp} {i : Int} {a b : HL} (h : TwoH C S T c xs H i a b) (f : Keep L H H') (hL : ∀ b ∈ L, ∃ xs, H b = some (.lst xs)) (n : ∀ x ∈ [S, T, c] ++ (a.ls ++ b.ls), x ∉ L) : TwoH C S T c xs H' i a b where
  hS := h.hS.keep f (n _ (by simp))
  hT := h.hT.keep f (n _ (by simp))
  hc := f _ _ (n _ (by simp)) h.hc
  ha := h.ha.keep f hL (fun x hx => n x (List.mem_append.mpr (.inr (List.mem_append.mpr (.inl hx)))))
  hb := h.hb.keep f hL (fun x hx => n x (List.mem_append.mpr (.inr (List.mem_append.mpr (.inr hx)))))
  ap := h.ap
theorem TwoH.same {C S T c : Addr} {xs : List V} {H H' : Hp} {i : Int} {a b : HL} (h : TwoH C S T c xs H i a b) (s : Same H H') : TwoH C S T c xs H' i a b := h.keep (L := []) (Keep.of s) (fun b hb => nomatch hb) (fun b _ hb => nomatch hb)
/-- a deed done by the one: both go on -/
theorem TwoH.step {C S T c : Addr} {xs : List V} {H H' : Hp} {i : Int} {a b : HL} {cs : List (Int × Int)} {ts : List Int} (h : TwoH C S T c xs H i a b) (f : Keep a.ls H H') (xr xra : List V)
    (e1 : H' a.r = some (.lst xr)) (e2 : All2 (PairAt H') xr cs) (e3 : H' a.t = some (.lst (ts.map V.int))) (e4 : H' a.ra = some (.lst xra)) (e5 : All2 (PairAt H') xra cs) (e6 : H' a.ta = some (.lst (ts.map V.int)))
    (hg : GoodS a.m cs ts) (hl : cs.length ≤ 30) : TwoH C S T c xs H' i { a with cs := cs, ts := ts } b := by
  obtain ⟨n1, n2, n3⟩ := List.nodup_append.mp h.ap
  obtain ⟨n4, n5, n6⟩ := List.nodup_append.mp n2
  have hL := h.ha.lists
  exact {
    hS := h.hS.keep f (fun hx => n3 S (by simp) S (List.mem_append.mpr (.inl hx)) rfl)
    hT := h.hT.keep f (fun hx => n3 T (by simp) T (List.mem_append.mpr (.inl hx)) rfl)
    hc := f _ _ (fun hx => n3 c (by simp) c (List.mem_append.mpr (.inl hx)) rfl) h.hc
    ha := {
      hp := h.ha.hp.imp fun dx e => f.no hL e (fun xs => by simp)
      hr := ⟨xr, e1, e2⟩
      ht := e3
      hs := f.no hL h.ha.hs (fun xs => by simp)
      hra := ⟨xra, e4, e5⟩
      hta := e6
      hg := hg
      h2 := h.ha.h2
      h5 := h.ha.h5
      hl := hl }
    hb := h.hb.keep f hL (fun x hx hx2 => n6 x hx2 x hx rfl)
    ap := h.ap }
/-- the other one is put to a new one -/
theorem TwoH.put {C S T c : Addr} {xs : List V} {H H' : Hp} {i : Int} {a b b' : HL} (h : TwoH C S T c xs H i a b) (f : Keep [S, T] H H') (hS : Two H' S i (.ref a.p) (.ref b'.p)) (hT : Two H' T i (.ref a.s) (.ref b'.s)) (hb : Side C H' b') (hf : ∀ x ∈ b'.ls, H x = none) (hn : b'.ls.Nodup) : TwoH C S T c xs H' i a b' := by
  have hls := h.lists
  obtain ⟨n1, n2, n3⟩ := List.nodup_append.mp h.ap
  obtain ⟨n4, n5, n6⟩ := List.nodup_append.mp n2
  have hc : c ∉ [S, T] := fun hx => by
    simp only [List.mem_cons, List.not_mem_nil, or_false] at hx
    rcases hx with rfl | rfl <;> simp at n1
  have fr : ∀ x ∈ [S, T, c] ++ (a.ls ++ b.ls), ∀ y ∈ b'.ls, x ≠ y := fun x hx y hy e => by
    obtain ⟨zs, hz⟩ := hls x hx
    rw [e, hf y hy] at hz
    cases hz
  exact {
    hS := hS
    hT := hT
    hc := f _ _ hc h.hc
    ha := h.ha.keep f (fun x hx => hls x (by
      simp only [List.mem_cons, List.not_mem_nil, or_false] at hx
      rcases hx with rfl | rfl <;> simp)) (fun x hx hx2 => n3 x (by
      simp only [List.mem_cons, List.not_mem_nil, or_false] at hx2
      rcases hx2 with rfl | rfl <;> simp) x (List.mem_append.mpr (.inl hx)) rfl)
    hb := hb
    ap := List.nodup_append.mpr ⟨n1, List.nodup_append.mpr ⟨n4, hn, fun x hx y hy => fr x (List.mem_append.mpr (.inr (List.mem_append.mpr (.inl hx)))) y hy⟩, fun x hx y hy => by
      rcases List.mem_append.mp hy with hy | hy
      · exact n3 x hx y (List.mem_append.mpr (.inl hy))
      · exact fr x (List.mem_append.mpr (.inl hx)) y hy⟩ }
theorem q_seqC {t u : TS} {D : Ends} {σ : L2.St} {H : Hp} (F : L2.St → Hp → Prop) (h : ∀ N : L2.St → Hp → Prop, (∀ σ' H', F σ' H' → N σ' H') → t { D with nx := N } σ H) (k : ∀ σ' H', F σ' H' → u D σ' H') : tSeq t u D σ H := h (u D) k
theorem mergeK2 {k1 k2 : Key} {x y : V} (h : k1 ≠ k2) : mergeK [] [(k1, x), (k2, y)] = [(k1, x), (k2, y)] := by
  show putK (putK [] k1 x) k2 y = _
  simp [putK, h]
structure StA (D : Addr) (H1 H : Hp) (x : Addr × Addr × Addr) (m : Int) : Prop where
  s : H x.1 = some (.dK [(.inr "row", .ref x.2.1), (.inr "told", .ref x.2.2)])
  ra : H x.2.1 = some (.lst [])
  ta : H x.2.2 = some (.lst ((List.replicate m.toNat (0 : Int)).map V.int))
  d : x.1 ≠ D ∧ x.2.1 ≠ D ∧ x.2.2 ≠ D
  f : H1 x.2.1 = none ∧ H1 x.2.2 = none
theorem StA.same {D : Addr} {H1 H H' : Hp} {x : Addr × Addr × Addr} {m : Int} (h : StA D H1 H x m) (s : Same H H') : StA D H1 H' x m := ⟨s _ _ h.s, s _ _ h.ra, s _ _ h.ta, h.d, h.f⟩
def Sts (D : Addr) (H1 : Hp) (ms : List Int) (k : Nat) (ys : List V) (H : Hp) : Prop := ∃ l : List (Addr × Addr × Addr), ys = l.map (fun x => V.ref x.1) ∧ l.length = k ∧ (∀ (j : Nat) x, l[j]? = some x → StA D H1 H x (ms.getD j 0)) ∧ (l.flatMap (fun x => [x.2.1, x.2.2])).Nodup
theorem Sts.same {D : Addr} {H1 H H' : Hp} {ms : List Int} {k : Nat} {ys : List V} (h : Sts D H1 ms k ys H) (s : Same H H') : Sts D H1 ms k ys H' := by
  obtain ⟨l, h1, h2, h3, h4⟩ := h
  exact ⟨l, h1, h2, fun j x e => (h3 j x e).same s, h4⟩
theorem Sts.put {D : Addr} {H1 H : Hp} {ms : List Int} {k : Nat} {ys : List V} {o : HO} (h : Sts D H1 ms k ys H) : Sts D H1 ms k ys (upd H D o) := by
  obtain ⟨l, h1, h2, h3, h4⟩ := h
  refine ⟨l, h1, h2, fun j x e => ?_, h4⟩
  obtain ⟨a1, a2, a3, ⟨b1, b2, b3⟩, a5⟩ := h3 j x e
  exact ⟨(upd_ne b1).trans a1, (upd_ne b2).trans a2, (upd_ne b3).trans a3, ⟨b1, b2, b3⟩, a5⟩
theorem Sts.snoc {D : Addr} {H1 H H' : Hp} {ms : List Int} {k : Nat} {ys : List V} {s ra ta : Addr} (h : Sts D H1 ms k ys H) (sm : Same H H') (n : StA D H1 H' (s, ra, ta) (ms.getD k 0)) (f1 : H ra = none) (f2 : H ta = none) (ne : ra ≠ ta) : Sts D H1 ms (k + 1) (ys ++ [.ref s]) H' := by
  obtain ⟨l, rfl, rfl, h3, h4⟩ := h
  refine ⟨l ++ [(s, ra, ta)], by simp, by simp, fun j x e => ?_, ?_⟩
  · rcases Nat.lt_or_ge j l.length with hj | hj
    · rw [List.getElem?_append_left hj] at e
      exact (h3 j x e).same sm
    · rw [List.getElem?_append_right hj] at e
      rcases Nat.eq_zero_or_pos (j - l.length) with hz | hz
      · rw [hz] at e
        have ej : j = l.length := by omega
        subst ej
        simp at e
        subst e
        exact n
      · rw [List.getElem?_eq_none (by simp; omega)] at e
        cases e
  · rw [List.flatMap_append]
    refine List.nodup_append.mpr ⟨h4, by simp [ne], fun x hx y hy => ?_⟩
    obtain ⟨z, hz, hx⟩ := List.mem_flatMap.mp hx
    obtain ⟨j, hj⟩ := List.getElem?_of_mem hz
    have a := h3 j z hj
    have ax : ∃ o, H x = some o := by
      simp only [List.mem_cons, List.not_mem_nil, or_false] at hx
      rcases hx with rfl | rfl
      · exact ⟨_, a.ra⟩
      · exact ⟨_, a.ta⟩
    obtain ⟨o, ho⟩ := ax
    have ay : H y = none := by
      simp only [List.flatMap_cons, List.flatMap_nil, List.append_nil, List.mem_cons, List.not_mem_nil, or_false] at hy
      rcases hy with rfl | rfl
      · exact f1
      · exact f2
    exact ne_of_none ho ay
/-- the two halls and the pool beside them -/
structure PL (C S T c : Addr) (xs : List V) (q : Addr) (H : Hp) (i : Int) (a b : HL) : Prop where
  inv : TwoH C S T c xs H i a b
  hq : ∃ n : Int, H q = some (.lst [.int n])
  nq : q ∉ [S, T, c] ++ (a.ls ++ b.ls)
theorem PL.take {C S T c q : Addr} {xs : List V} {H : Hp} {i : Int} {a b : HL} (h : PL C S T c xs q H i a b) (n : Int) : PL C S T c xs q (upd H q (.lst [.int n])) i a b where
  inv := h.inv.keep (L := [q]) (fun b o nb e => (upd_ne (fun w => nb (by rw [w]; exact List.mem_singleton.mpr rfl))).trans e) (fun b hb => by
    obtain ⟨n, e⟩ := h.hq
    rw [List.mem_singleton.mp hb]
    exact ⟨_, e⟩) (fun x hx hx2 => h.nq (by rw [← List.mem_singleton.mp hx2]; exact hx))
  hq := ⟨n, upd_same⟩
  nq := h.nq
theorem PL.same {C S T c q : Addr} {xs : List V} {H H' : Hp} {i : Int} {a b : HL} (h : PL C S T c xs q H i a b) (s : Same H H') : PL C S T c xs q H' i a b where
  inv := h.inv.same s
  hq := h.hq.imp fun n e => s _ _ e
  nq := h.nq
theorem PL.at {C S T c q : Addr} {xs : List V} {H : Hp} {i j : Int} {a b : HL} (h : PL C S T c xs q H i a b) (h0 : 0 ≤ j) (h1 : j < 2) : ∃ a b, PL C S T c xs q H j a b := by
  have hi : i = 0 ∨ i = 1 := h.inv.hS.elim (fun e => .inl e.1) (fun e => .inr e.1)
  by_cases e : j = i
  · subst e
    exact ⟨a, b, h⟩
  · have e2 : j = 1 - i := by omega
    subst e2
    refine ⟨b, a, h.inv.swap, h.hq, fun hx => h.nq ?_⟩
    rcases List.mem_append.mp hx with hx | hx
    · exact List.mem_append.mpr (.inl hx)
    · refine List.mem_append.mpr (.inr ?_)
      rcases List.mem_append.mp hx with hx | hx
      · exact List.mem_append.mpr (.inr hx)
      · exact List.mem_append.mpr (.inl hx)
theorem PL.new {C S T c q : Addr} {xs : List V} {H : Hp} {i : Int} {a b : HL} (h : TwoH C S T c xs H i a b) (hq : H q = none) (n : Int) : PL C S T c xs q (upd H q (.lst [.int n])) i a b where
  inv := h.same (Same.new hq)
  hq := ⟨n, upd_same⟩
  nq := fun hx => by
    obtain ⟨zs, e⟩ := h.lists q hx
    rw [hq] at e
    cases e
theorem al_nil {H : Hp} : ∀ z ∈ ([] : List Addr), ∃ o, H z = some o := fun z h => nomatch h
theorem al_cons {H : Hp} {y : Addr} {l : List Addr} (h : ∃ o, H y = some o) (h2 : ∀ z ∈ l, ∃ o, H z = some o) : ∀ z ∈ y :: l, ∃ o, H z = some o := fun z hz => by
  rcases List.mem_cons.mp hz with rfl | hz
  · exact h
  · exact h2 z hz
theorem not_al {H : Hp} {x : Addr} {l : List Addr} (hx : H x = none) (h : ∀ z ∈ l, ∃ o, H z = some o) : x ∉ l := fun hm => by
  obtain ⟨o, e⟩ := h x hm
  rw [hx] at e
  cases e
theorem GoodS.zero {m : Int} (h : 0 ≤ m) : GoodS m [] (List.replicate m.toNat 0) := ⟨by simp; omega, fun j hj => by
  rw [List.eq_of_mem_replicate hj]
  exact ⟨Int.le_refl _, Int.le_refl _⟩, by simp⟩
theorem TwoH.nda {C S T c : Addr} {xs : List V} {H : Hp} {i : Int} {a b : HL} (h : TwoH C S T c xs H i a b) : a.r ≠ a.t ∧ a.r ≠ a.ra ∧ a.r ≠ a.ta ∧ a.t ≠ a.ra ∧ a.t ≠ a.ta ∧ a.ra ≠ a.ta := by
  have n := (List.nodup_append.mp (List.nodup_append.mp h.ap).2.1).1
  simp [HL.ls] at n
  exact ⟨n.1.1, n.1.2.1, n.1.2.2, n.2.1.1, n.2.1.2, n.2.2⟩
theorem TwoH.nST {C S T c : Addr} {xs : List V} {H : Hp} {i : Int} {a b : HL} (h : TwoH C S T c xs H i a b) : S ≠ T := by
  have n := (List.nodup_append.mp h.ap).1
  simp at n
  exact n.1.1
theorem PL.put {C S T c q : Addr} {xs : List V} {H H' : Hp} {i : Int} {a b b' : HL} (h : PL C S T c xs q H i a b) (f : Keep [S, T] H H') (hS : Two H' S i (.ref a.p) (.ref b'.p)) (hT : Two H' T i (.ref a.s) (.ref b'.s)) (hb : Side C H' b') (hf : ∀ x ∈ b'.ls, H x = none) (hn : b'.ls.Nodup) : PL C S T c xs q H' i a b' where
  inv := h.inv.put f hS hT hb hf hn
  hq := h.hq.imp fun n e => f _ _ (fun hx => h.nq (by
    simp only [List.mem_cons, List.not_mem_nil, or_false] at hx
    rcases hx with rfl | rfl <;> simp)) e
  nq := fun hx => by
    rcases List.mem_append.mp hx with hx | hx
    · exact h.nq (List.mem_append.mpr (.inl hx))
    · rcases List.mem_append.mp hx with hx | hx
      · exact h.nq (List.mem_append.mpr (.inr (List.mem_append.mpr (.inl hx))))
      · obtain ⟨n, e⟩ := h.hq
        rw [hf q hx] at e
        cases e
theorem PL.step {C S T c q : Addr} {xs : List V} {H H' : Hp} {i : Int} {a b : HL} {cs : List (Int × Int)} {ts : List Int} (h : PL C S T c xs q H i a b) (f : Keep a.ls H H') (xr xra : List V)
    (e1 : H' a.r = some (.lst xr)) (e2 : All2 (PairAt H') xr cs) (e3 : H' a.t = some (.lst (ts.map V.int))) (e4 : H' a.ra = some (.lst xra)) (e5 : All2 (PairAt H') xra cs) (e6 : H' a.ta = some (.lst (ts.map V.int)))
    (hg : GoodS a.m cs ts) (hl : cs.length ≤ 30) : PL C S T c xs q H' i { a with cs := cs, ts := ts } b where
  inv := h.inv.step f xr xra e1 e2 e3 e4 e5 e6 hg hl
  hq := h.hq.imp fun n e => f _ _ (fun hx => h.nq (List.mem_append.mpr (.inr (List.mem_append.mpr (.inl hx))))) e
  nq := h.nq
theorem stepP_len {m : Int} {cs : List (Int × Int)} {ts : List Int} {g : PD} (h : GoodS m cs ts) (hg : GoodG m g) (hl : cs.length ≤ 30) (hl2 : cs.length ≤ 29 ∨ ∃ j, g = .inl j) : (stepP cs ts g).2.2.1.length ≤ 30 := by
  rcases hl2 with hl2 | ⟨j, rfl⟩
  · have := (stepP_good h hg (by omega)).2
    omega
  · by_cases e : ts.getD j 0 = cs.length
    · rw [stepP_all e]
      exact hl
    · rw [stepP_told e]
      exact hl
theorem Keep.free {L : List Addr} {H H' : Hp} {x : Addr} (f : Keep L H H') (hL : ∀ b ∈ L, ∃ xs, H' b = some (.lst xs)) (h : H' x = none) : H x = none := by
  cases e : H x with
  | none => rfl
  | some o =>
    by_cases hx : x ∈ L
    · obtain ⟨xs, e2⟩ := hL x hx
      rw [h] at e2
      cases e2
    · rw [f _ _ hx e] at h
      cases h
theorem small_lt {n : Nat} (h : n ≤ 1000) : n < 2 ^ 8000 := Nat.lt_of_le_of_lt h (by decide +kernel)
theorem tTestIx_m {K : PySem.W.Frag} {i j : Nat} {v : V} : ∀ (σ : L2.St) (H : Hp) (Q Q' : Bool → Hp → Prop), (∀ b H, Q b H → Q' b H) → tTest (tOp rEq (tOp (rIxT K) (tVar i) (tC v)) (tVar j)) σ H Q → tTest (tOp rEq (tOp (rIxT K) (tVar i) (tC v)) (tVar j)) σ H Q' := by
  rintro σ H Q Q' h ⟨v1, e1, p, xs, i, w, e2, e3, h2, ha, v2, e4, h3, kb, e5, q⟩
  exact ⟨v1, e1, p, xs, i, w, e2, e3, h2, ha, v2, e4, h3, kb, e5, h _ _ q⟩
theorem q_eqSt {K : PySem.W.Frag} {H : Hp} {Q : VK} {a b ra ta rb tb : Addr} {xs ys : List V} {cs ds : List (Int × Int)} {ts us : List Int} (ha : H a = some (.dK [(.inr "row", .ref ra), (.inr "told", .ref ta)])) (hb : H b = some (.dK [(.inr "row", .ref rb), (.inr "told", .ref tb)]))
    (h1 : H ra = some (.lst xs)) (h2 : All2 (PairAt H) xs cs) (h3 : H ta = some (.lst (ts.map V.int))) (h4 : H rb = some (.lst ys)) (h5 : All2 (PairAt H) ys ds) (h6 : H tb = some (.lst (us.map V.int))) (q : Q (.bl (decide (cs = ds) && decide (ts = us))) H) : rEqK2 K (.ref a) (.ref b) H Q := by
  have e1 : E1 K H (.ref ra) (.ref rb) (decide (cs = ds)) := by
    have z : E1 K H (.ref ra) (.ref rb) (PyData.eqv (.list (cs.map pairOf)) (.list (ds.map pairOf))) := .dat (.lst (SqL.of h1) (PairAt.dp h2)) (.lst (SqL.of h4) (PairAt.dp h5)) sh_pairs sh_pairs
    rw [show PyData.eqv (.list (cs.map pairOf)) (.list (ds.map pairOf)) = decide (cs = ds) from eqv_pairs] at z
    exact z
  have e2 : E1 K H (.ref ta) (.ref tb) (decide (ts = us)) := by
    have z : E1 K H (.ref ta) (.ref tb) (PyData.eqv (.list (ts.map PyData.int)) (.list (us.map PyData.int))) := .dat (.lst (SqL.of h3) DpInts) (.lst (SqL.of h6) DpInts) sh_ints sh_ints
    rw [show PyData.eqv (.list (ts.map PyData.int)) (.list (us.map PyData.int)) = decide (ts = us) from eqv_ints] at z
    exact z
  exact ⟨a, b, _, _, _, _, _, _, _, _, rfl, rfl, ha, hb, by decide +kernel, e1, e2, q⟩
/-- what is no number of members, and may be compared -/
def PW5 (K : PySem.W.Frag) (H : Hp) (x : V) : Prop := NotW K H x ∧ ∃ d, Dp K H x d ∧ SeqAt.shaped d = true ∧ PyData.eqv d d = true
theorem PW5.same {K : PySem.W.Frag} {H H' : Hp} {x : V} (h : PW5 K H x) (s : Same H H') : PW5 K H' x := by
  obtain ⟨h1, d, h2, h3⟩ := h
  exact ⟨h1.same s, d, Dp.up s h2, h3⟩
def sp_law (K : PySem.W.Frag) : Sp := fun vs H Q E => (∃ (a : Addr) (ns : List Int), vs = [.ref a] ∧ (SqL K H a (ns.map V.int)) ∧ (ns.length ≤ 63) ∧ ∀ H', Q (.bl true) H')
theorem r_law {K : PySem.W.Frag} {H : Hp} {Q : VK} {E : XK} {vv : List V} {a : Addr} {ns : List Int} (ee : vv = [.ref a]) (hs : SqL K H a (ns.map V.int)) (hl : ns.length ≤ 63) (k : ∀ H', Q (.bl true) H') : sp_law K vv H Q E := by
  subst ee
  exact ⟨a, ns, rfl, hs, hl, k⟩

set_option hygiene false
local macro_rules | `(tactic| walk_at "xm1") => `(tactic| first | fail | exact PySem.W.exm_ref (T.exC_AllTold) (T.hdx_AllTold) (T.ty_AllTold) (T.sb_AllTold_AllTold) | exact PySem.W.exm_ref (T.exC_Barred) (T.hdx_Barred) (T.ty_Barred) (T.sb_AllTold_Barred) | exact PySem.W.exm_ref (T.exC_HallError) (T.hdx_HallError) (T.ty_HallError) (T.sb_AllTold_HallError) | exact PySem.W.exm_ref (T.exC_Known) (T.hdx_Known) (T.ty_Known) (T.sb_AllTold_Known) | exact PySem.W.exm_ref (T.exC_Lacks) (T.hdx_Lacks) (T.ty_Lacks) (T.sb_AllTold_Lacks) | exact PySem.W.exm_ref (T.exC_NoDeed) (T.hdx_NoDeed) (T.ty_NoDeed) (T.sb_AllTold_NoDeed) | exact PySem.W.exm_ref (T.exC_NoMember) (T.hdx_NoMember) (T.ty_NoMember) (T.sb_AllTold_NoMember) | exact PySem.W.exm_ref (T.exC_NoNumber) (T.hdx_NoNumber) (T.ty_NoNumber) (T.sb_AllTold_NoNumber) | exact PySem.W.exm_ref (T.exC_AllTold) (T.hdx_AllTold) (T.ty_AllTold) (T.sb_Known_AllTold) | exact PySem.W.exm_ref (T.exC_Barred) (T.hdx_Barred) (T.ty_Barred) (T.sb_Known_Barred) | exact PySem.W.exm_ref (T.exC_HallError) (T.hdx_HallError) (T.ty_HallError) (T.sb_Known_HallError) | exact PySem.W.exm_ref (T.exC_Known) (T.hdx_Known) (T.ty_Known) (T.sb_Known_Known) | exact PySem.W.exm_ref (T.exC_Lacks) (T.hdx_Lacks) (T.ty_Lacks) (T.sb_Known_Lacks) | exact PySem.W.exm_ref (T.exC_NoDeed) (T.hdx_NoDeed) (T.ty_NoDeed) (T.sb_Known_NoDeed) | exact PySem.W.exm_ref (T.exC_NoMember) (T.hdx_NoMember) (T.ty_NoMember) (T.sb_Known_NoMember) | exact PySem.W.exm_ref (T.exC_NoNumber) (T.hdx_NoNumber) (T.ty_NoNumber) (T.sb_Known_NoNumber) | exact PySem.W.exm_ref (T.exC_AllTold) (T.hdx_AllTold) (T.ty_AllTold) (T.sb_Lacks_AllTold) | exact PySem.W.exm_ref (T.exC_Barred) (T.hdx_Barred) (T.ty_Barred) (T.sb_Lacks_Barred) | exact PySem.W.exm_ref (T.exC_HallError) (T.hdx_HallError) (T.ty_HallError) (T.sb_Lacks_HallError) | exact PySem.W.exm_ref (T.exC_Known) (T.hdx_Known) (T.ty_Known) (T.sb_Lacks_Known) | exact PySem.W.exm_ref (T.exC_Lacks) (T.hdx_Lacks) (T.ty_Lacks) (T.sb_Lacks_Lacks) | exact PySem.W.exm_ref (T.exC_NoDeed) (T.hdx_NoDeed) (T.ty_NoDeed) (T.sb_Lacks_NoDeed) | exact PySem.W.exm_ref (T.exC_NoMember) (T.hdx_NoMember) (T.ty_NoMember) (T.sb_Lacks_NoMember) | exact PySem.W.exm_ref (T.exC_NoNumber) (T.hdx_NoNumber) (T.ty_NoNumber) (T.sb_Lacks_NoNumber) | exact PySem.W.exm_ref (T.exC_AllTold) (T.hdx_AllTold) (T.ty_AllTold) (T.sb_NoDeed_AllTold) | exact PySem.W.exm_ref (T.exC_Barred) (T.hdx_Barred) (T.ty_Barred) (T.sb_NoDeed_Barred) | exact PySem.W.exm_ref (T.exC_HallError) (T.hdx_HallError) (T.ty_HallError) (T.sb_NoDeed_HallError) | exact PySem.W.exm_ref (T.exC_Known) (T.hdx_Known) (T.ty_Known) (T.sb_NoDeed_Known) | exact PySem.W.exm_ref (T.exC_Lacks) (T.hdx_Lacks) (T.ty_Lacks) (T.sb_NoDeed_Lacks) | exact PySem.W.exm_ref (T.exC_NoDeed) (T.hdx_NoDeed) (T.ty_NoDeed) (T.sb_NoDeed_NoDeed) | exact PySem.W.exm_ref (T.exC_NoMember) (T.hdx_NoMember) (T.ty_NoMember) (T.sb_NoDeed_NoMember) | exact PySem.W.exm_ref (T.exC_NoNumber) (T.hdx_NoNumber) (T.ty_NoNumber) (T.sb_NoDeed_NoNumber) | exact PySem.W.exm_ref (T.exC_AllTold) (T.hdx_AllTold) (T.ty_AllTold) (T.sb_NoMember_AllTold) | exact PySem.W.exm_ref (T.exC_Barred) (T.hdx_Barred) (T.ty_Barred) (T.sb_NoMember_Barred) | exact PySem.W.exm_ref (T.exC_HallError) (T.hdx_HallError) (T.ty_HallError) (T.sb_NoMember_HallError) | exact PySem.W.exm_ref (T.exC_Known) (T.hdx_Known) (T.ty_Known) (T.sb_NoMember_Known) | exact PySem.W.exm_ref (T.exC_Lacks) (T.hdx_Lacks) (T.ty_Lacks) (T.sb_NoMember_Lacks) | exact PySem.W.exm_ref (T.exC_NoDeed) (T.hdx_NoDeed) (T.ty_NoDeed) (T.sb_NoMember_NoDeed) | exact PySem.W.exm_ref (T.exC_NoMember) (T.hdx_NoMember) (T.ty_NoMember) (T.sb_NoMember_NoMember) | exact PySem.W.exm_ref (T.exC_NoNumber) (T.hdx_NoNumber) (T.ty_NoNumber) (T.sb_NoMember_NoNumber) | exact PySem.W.exm_ref (T.exC_AllTold) (T.hdx_AllTold) (T.ty_AllTold) (T.sb_NoNumber_AllTold) | exact PySem.W.exm_ref (T.exC_Barred) (T.hdx_Barred) (T.ty_Barred) (T.sb_NoNumber_Barred) | exact PySem.W.exm_ref (T.exC_HallError) (T.hdx_HallError) (T.ty_HallError) (T.sb_NoNumber_HallError) | exact PySem.W.exm_ref (T.exC_Known) (T.hdx_Known) (T.ty_Known) (T.sb_NoNumber_Known) | exact PySem.W.exm_ref (T.exC_Lacks) (T.hdx_Lacks) (T.ty_Lacks) (T.sb_NoNumber_Lacks) | exact PySem.W.exm_ref (T.exC_NoDeed) (T.hdx_NoDeed) (T.ty_NoDeed) (T.sb_NoNumber_NoDeed) | exact PySem.W.exm_ref (T.exC_NoMember) (T.hdx_NoMember) (T.ty_NoMember) (T.sb_NoNumber_NoMember) | exact PySem.W.exm_ref (T.exC_NoNumber) (T.hdx_NoNumber) (T.ty_NoNumber) (T.sb_NoNumber_NoNumber) | fail)
local macro_rules | `(tactic| walk_at "xf") => `(tactic| first | fail | exact T.xf_AllTold | exact T.xf_Known | exact T.xf_Lacks | exact T.xf_NoDeed | exact T.xf_NoMember | exact T.xf_NoNumber | fail)
local macro_rules | `(tactic| walk_at "xc") => `(tactic| first | fail | exact T.xc_AllTold | exact T.xc_Known | exact T.xc_Lacks | exact T.xc_NoDeed | exact T.xc_NoMember | exact T.xc_NoNumber | fail)
local macro_rules | `(tactic| walk_at "xn") => `(tactic| first | fail | exact T.nf_AllTold | exact T.nf_Known | exact T.nf_Lacks | exact T.nf_NoDeed | exact T.nf_NoMember | exact T.nf_NoNumber | fail)
local macro_rules | `(tactic| walk_at "tya") => `(tactic| first | fail | ((refine' .base (.ins ?h1 (T.c_PlainHall) (T.ha_PlainHall) (T.hn) (T.htk) (T.hm_PlainHall))); (case h1 => assumption)) | fail)
local macro_rules | `(tactic| walk_at "tyo") => `(tactic| first | fail | ((refine' .base (.ins ?h1 (T.c_PlainHall) (T.ha_PlainHall) (T.hn) (T.htk) (T.hm_PlainHall))); (case h1 => walk_at "lk")) | fail)
local macro_rules | `(tactic| walk_at "kio") => `(tactic| first | fail | exact kit_ref (T.hdx_AllTold) (T.ty_AllTold) (T.ss_AllTold) (T.sb_AllTold_AllTold) | exact kit_ref (T.hdx_Barred) (T.ty_Barred) (T.ss_Barred) (T.sb_AllTold_Barred) | exact kit_ref (T.hdx_HallError) (T.ty_HallError) (T.ss_HallError) (T.sb_AllTold_HallError) | exact kit_ref (T.hdx_Known) (T.ty_Known) (T.ss_Known) (T.sb_AllTold_Known) | exact kit_ref (T.hdx_Lacks) (T.ty_Lacks) (T.ss_Lacks) (T.sb_AllTold_Lacks) | exact kit_ref (T.hdx_NoDeed) (T.ty_NoDeed) (T.ss_NoDeed) (T.sb_AllTold_NoDeed) | exact kit_ref (T.hdx_NoMember) (T.ty_NoMember) (T.ss_NoMember) (T.sb_AllTold_NoMember) | exact kit_ref (T.hdx_NoNumber) (T.ty_NoNumber) (T.ss_NoNumber) (T.sb_AllTold_NoNumber) | exact kit_ref (T.hdx_AllTold) (T.ty_AllTold) (T.ss_AllTold) (T.sb_Known_AllTold) | exact kit_ref (T.hdx_Barred) (T.ty_Barred) (T.ss_Barred) (T.sb_Known_Barred) | exact kit_ref (T.hdx_HallError) (T.ty_HallError) (T.ss_HallError) (T.sb_Known_HallError) | exact kit_ref (T.hdx_Known) (T.ty_Known) (T.ss_Known) (T.sb_Known_Known) | exact kit_ref (T.hdx_Lacks) (T.ty_Lacks) (T.ss_Lacks) (T.sb_Known_Lacks) | exact kit_ref (T.hdx_NoDeed) (T.ty_NoDeed) (T.ss_NoDeed) (T.sb_Known_NoDeed) | exact kit_ref (T.hdx_NoMember) (T.ty_NoMember) (T.ss_NoMember) (T.sb_Known_NoMember) | exact kit_ref (T.hdx_NoNumber) (T.ty_NoNumber) (T.ss_NoNumber) (T.sb_Known_NoNumber) | exact kit_ref (T.hdx_AllTold) (T.ty_AllTold) (T.ss_AllTold) (T.sb_Lacks_AllTold) | exact kit_ref (T.hdx_Barred) (T.ty_Barred) (T.ss_Barred) (T.sb_Lacks_Barred) | exact kit_ref (T.hdx_HallError) (T.ty_HallError) (T.ss_HallError) (T.sb_Lacks_HallError) | exact kit_ref (T.hdx_Known) (T.ty_Known) (T.ss_Known) (T.sb_Lacks_Known) | exact kit_ref (T.hdx_Lacks) (T.ty_Lacks) (T.ss_Lacks) (T.sb_Lacks_Lacks) | exact kit_ref (T.hdx_NoDeed) (T.ty_NoDeed) (T.ss_NoDeed) (T.sb_Lacks_NoDeed) | exact kit_ref (T.hdx_NoMember) (T.ty_NoMember) (T.ss_NoMember) (T.sb_Lacks_NoMember) | exact kit_ref (T.hdx_NoNumber) (T.ty_NoNumber) (T.ss_NoNumber) (T.sb_Lacks_NoNumber) | exact kit_ref (T.hdx_AllTold) (T.ty_AllTold) (T.ss_AllTold) (T.sb_NoDeed_AllTold) | exact kit_ref (T.hdx_Barred) (T.ty_Barred) (T.ss_Barred) (T.sb_NoDeed_Barred) | exact kit_ref (T.hdx_HallError) (T.ty_HallError) (T.ss_HallError) (T.sb_NoDeed_HallError) | exact kit_ref (T.hdx_Known) (T.ty_Known) (T.ss_Known) (T.sb_NoDeed_Known) | exact kit_ref (T.hdx_Lacks) (T.ty_Lacks) (T.ss_Lacks) (T.sb_NoDeed_Lacks) | exact kit_ref (T.hdx_NoDeed) (T.ty_NoDeed) (T.ss_NoDeed) (T.sb_NoDeed_NoDeed) | exact kit_ref (T.hdx_NoMember) (T.ty_NoMember) (T.ss_NoMember) (T.sb_NoDeed_NoMember) | exact kit_ref (T.hdx_NoNumber) (T.ty_NoNumber) (T.ss_NoNumber) (T.sb_NoDeed_NoNumber) | exact kit_ref (T.hdx_AllTold) (T.ty_AllTold) (T.ss_AllTold) (T.sb_NoMember_AllTold) | exact kit_ref (T.hdx_Barred) (T.ty_Barred) (T.ss_Barred) (T.sb_NoMember_Barred) | exact kit_ref (T.hdx_HallError) (T.ty_HallError) (T.ss_HallError) (T.sb_NoMember_HallError) | exact kit_ref (T.hdx_Known) (T.ty_Known) (T.ss_Known) (T.sb_NoMember_Known) | exact kit_ref (T.hdx_Lacks) (T.ty_Lacks) (T.ss_Lacks) (T.sb_NoMember_Lacks) | exact kit_ref (T.hdx_NoDeed) (T.ty_NoDeed) (T.ss_NoDeed) (T.sb_NoMember_NoDeed) | exact kit_ref (T.hdx_NoMember) (T.ty_NoMember) (T.ss_NoMember) (T.sb_NoMember_NoMember) | exact kit_ref (T.hdx_NoNumber) (T.ty_NoNumber) (T.ss_NoNumber) (T.sb_NoMember_NoNumber) | exact kit_ref (T.hdx_AllTold) (T.ty_AllTold) (T.ss_AllTold) (T.sb_NoNumber_AllTold) | exact kit_ref (T.hdx_Barred) (T.ty_Barred) (T.ss_Barred) (T.sb_NoNumber_Barred) | exact kit_ref (T.hdx_HallError) (T.ty_HallError) (T.ss_HallError) (T.sb_NoNumber_HallError) | exact kit_ref (T.hdx_Known) (T.ty_Known) (T.ss_Known) (T.sb_NoNumber_Known) | exact kit_ref (T.hdx_Lacks) (T.ty_Lacks) (T.ss_Lacks) (T.sb_NoNumber_Lacks) | exact kit_ref (T.hdx_NoDeed) (T.ty_NoDeed) (T.ss_NoDeed) (T.sb_NoNumber_NoDeed) | exact kit_ref (T.hdx_NoMember) (T.ty_NoMember) (T.ss_NoMember) (T.sb_NoNumber_NoMember) | exact kit_ref (T.hdx_NoNumber) (T.ty_NoNumber) (T.ss_NoNumber) (T.sb_NoNumber_NoNumber) | with_reducible exact kit_self | exact kit_tyref (T.hdx_PlainHall) (T.ty_PlainHall) (T.nt_NoneType_PlainHall) | exact kit_tyref (T.hdx_PlainHall) (T.ty_PlainHall) (T.nt_bool_PlainHall) | exact kit_tyref (T.hdx_PlainHall) (T.ty_PlainHall) (T.nt_int_PlainHall) | exact kit_tyref (T.hdx_PlainHall) (T.ty_PlainHall) (T.nt_str_PlainHall) | exact kit_tyref (T.hdx_PlainHall) (T.ty_PlainHall) (T.nt_list_PlainHall) | exact kit_tyref (T.hdx_PlainHall) (T.ty_PlainHall) (T.nt_tuple_PlainHall) | exact kit_tyref (T.hdx_PlainHall) (T.ty_PlainHall) (T.nt_dict_PlainHall) | fail)
local macro_rules | `(tactic| walk_at "cls") => `(tactic| first | assumption | exact T.c_PlainHall | fail)
local macro_rules | `(tactic| walk_at "noa") => `(tactic| first | assumption | exact T.n_PlainHall__members | exact T.n_PlainHall__row | exact T.n_PlainHall__told | fail)
local macro_rules | `(tactic| walk_at "rc") => `(tactic| first
  | fail 
  | ((with_reducible refine' r_is_whole_1 ?ze  ?_); (case ze => exact rfl))
  | ((with_reducible refine' r_is_whole_2 ?ze  ?_); (case ze => exact rfl))
  | ((with_reducible refine' r_is_whole_3 ?ze  ?_); (case ze => exact rfl))
  | ((with_reducible refine' r_is_whole_4 ?ze ?z0 ?z1 ?_); (case ze => exact rfl); (case z0 => walk_at "tyx"); (case z1 => walk_at "kit"))
  | ((with_reducible refine' r_is_member_1 ?ze  ?_); (case ze => exact rfl))
  | ((with_reducible refine' r_is_member_2 ?ze ?z0 ?_); (case ze => exact rfl); (case z0 => walk_at "sd"))
  | ((with_reducible refine' r_check_members_1 ?ze ?z0 ?z1 ?_); (case ze => exact rfl); (case z0 => walk_at "sd"); (case z1 => walk_at "sd"))
  | ((with_reducible refine' r_check_members_2 ?ze ?z0 ?_); (case ze => exact rfl); (case z0 => walk_at "sd"))
  | ((with_reducible refine' r_check_member_1 ?ze ?z0 ?z1 ?_); (case ze => exact rfl); (case z0 => walk_at "sd"); (case z1 => walk_at "sd"))
  | ((with_reducible refine' r_check_member_2 ?ze ?z0 ?_); (case ze => exact rfl); (case z0 => walk_at "sd"))
  | ((with_reducible refine' r_is_ident_1 ?ze ?z0 ?_); (case ze => exact rfl); (case z0 => walk_at "lk"))
  | ((with_reducible refine' r_is_ident_2 ?ze ?z0 ?z1 ?z2 ?_); (case ze => exact rfl); (case z0 => walk_at "lk"); (case z1 => walk_at "sd"); (case z2 => walk_at "sd"))
  | ((with_reducible refine' r_is_ident_3 ?ze ?z0 ?z1 ?_); (case ze => exact rfl); (case z0 => walk_at "lk"); (case z1 => walk_at "sd"))
  | ((with_reducible refine' r_is_ident_4 ?ze ?z0 ?z1 ?z2 ?z3 ?_); (case ze => exact rfl); (case z0 => walk_at "lk"); (case z1 => walk_at "sd"); (case z2 => walk_at "sd"); (case z3 => walk_at "sd"))
  | ((with_reducible refine' r_is_plain_deed_1 ?ze ?z0 ?_); (case ze => exact rfl); (case z0 => walk_at "lk"))
  | ((with_reducible refine' r_is_plain_deed_2 ?ze ?z0 ?_); (case ze => exact rfl); (case z0 => walk_at "lk"))
  | ((with_reducible refine' r_is_plain_deed_3 ?ze ?z0 ?_); (case ze => exact rfl); (case z0 => walk_at "sd"))
  | ((with_reducible refine' r_PlainHall_init_1 ?ze ?z0 ?z1 ?z2 ?_); (case ze => exact rfl); (case z0 => walk_at "lk"); (case z1 => walk_at "sd"); (case z2 => walk_at "sd"))
  | ((with_reducible refine' r_PlainHall_init_2 ?ze ?z0 ?z1 ?_); (case ze => exact rfl); (case z0 => walk_at "lk"); (case z1 => walk_at "sd"))
  | ((with_reducible refine' r_PlainHall_len ?ze ?z0 ?z1 ?_); (case ze => exact rfl); (case z0 => walk_at "lk"); (case z1 => walk_at "lk"))
  | ((with_reducible refine' r_PlainHall_row ?ze ?z0 ?z1 ?_); (case ze => exact rfl); (case z0 => walk_at "lk"); (case z1 => walk_at "lk"))
  | ((with_reducible refine' r_PlainHall_told_by_1 ?ze ?z0 ?z1 ?z2 ?z3 ?_); (case ze => exact rfl); (case z0 => walk_at "lk"); (case z1 => walk_at "lk"); (case z2 => walk_at "sd"); (case z3 => walk_at "sd"))
  | ((with_reducible refine' r_PlainHall_told_by_2 ?ze ?z0 ?z1 ?_); (case ze => exact rfl); (case z0 => walk_at "lk"); (case z1 => walk_at "sd"))
  | ((with_reducible refine' r_PlainHall_state ?ze ?z0 ?z1 ?z2 ?_); (case ze => exact rfl); (case z0 => walk_at "lk"); (case z1 => walk_at "lk"); (case z2 => walk_at "lk"))
  | ((with_reducible refine' r_PlainHall_eq_1 ?ze ?z0 ?z1 ?z2 ?z3 ?z4 ?z5 ?z6 ?z7 ?_); (case ze => exact rfl); (case z0 => walk_at "lk"); (case z1 => walk_at "lk"); (case z2 => walk_at "lk"); (case z3 => walk_at "sd"); (case z4 => walk_at "lk"); (case z5 => walk_at "lk"); (case z6 => walk_at "lk"); (case z7 => walk_at "sd"))
  | ((with_reducible refine' r_PlainHall_eq_2 ?ze ?z0 ?z1 ?z2 ?_); (case ze => exact rfl); (case z0 => walk_at "lk"); (case z1 => walk_at "tyx"); (case z2 => walk_at "kit"))
  | ((with_reducible refine' r_PlainHall_add_1 ?ze ?z0 ?z1 ?z2 ?z3 ?z4 ?_); (case ze => exact rfl); (case z0 => walk_at "lk"); (case z1 => walk_at "lk"); (case z2 => walk_at "sd"); (case z3 => walk_at "lk"); (case z4 => walk_at "sd"))
  | ((with_reducible refine' r_PlainHall_add_2 ?ze ?z0 ?z1 ?z2 ?z3 ?z4 ?z5 ?z6 ?_); (case ze => exact rfl); (case z0 => walk_at "lk"); (case z1 => walk_at "lk"); (case z2 => walk_at "sd"); (case z3 => walk_at "lk"); (case z4 => walk_at "sd"); (case z5 => walk_at "sd"); (case z6 => walk_at "sd"))
  | ((with_reducible refine' r_PlainHall_add_3 ?ze ?z0 ?z1 ?z2 ?z3 ?z4 ?z5 ?z6 ?_); (case ze => exact rfl); (case z0 => walk_at "lk"); (case z1 => walk_at "lk"); (case z2 => walk_at "sd"); (case z3 => walk_at "lk"); (case z4 => walk_at "sd"); (case z5 => walk_at "sd"); (case z6 => walk_at "sd"))
  | ((with_reducible refine' r_PlainHall_tell_1 ?ze ?z0 ?z1 ?z2 ?z3 ?z4 ?z5 ?_); (case ze => exact rfl); (case z0 => walk_at "lk"); (case z1 => walk_at "lk"); (case z2 => walk_at "lk"); (case z3 => walk_at "sd"); (case z4 => walk_at "sd"); (case z5 => walk_at "ne"))
  | ((with_reducible refine' r_PlainHall_tell_2 ?ze ?z0 ?z1 ?z2 ?z3 ?z4 ?_); (case ze => exact rfl); (case z0 => walk_at "lk"); (case z1 => walk_at "lk"); (case z2 => walk_at "lk"); (case z3 => walk_at "sd"); (case z4 => walk_at "sd"))
  | ((with_reducible refine' r_PlainHall_twin ?ze ?z0 ?z1 ?z2 ?z3 ?z4 ?_); (case ze => exact rfl); (case z0 => walk_at "lk"); (case z1 => walk_at "lk"); (case z2 => walk_at "lk"); (case z3 => walk_at "sd"); (case z4 => walk_at "sd"))
  | ((with_reducible refine' r_PlainHall_do_1 ?ze ?z0 ?z1 ?z2 ?z3 ?z4 ?z5 ?z6 ?z7 ?_); (case ze => exact rfl); (case z0 => walk_at "lk"); (case z1 => walk_at "lk"); (case z2 => walk_at "lk"); (case z3 => walk_at "lk"); (case z4 => walk_at "sd"); (case z5 => walk_at "sd"); (case z6 => walk_at "sd"); (case z7 => walk_at "ne"))
  | ((with_reducible refine' r_PlainHall_do_2 ?ze ?z0 ?z1 ?z2 ?z3 ?z4 ?z5 ?z6 ?_); (case ze => exact rfl); (case z0 => walk_at "lk"); (case z1 => walk_at "lk"); (case z2 => walk_at "lk"); (case z3 => walk_at "lk"); (case z4 => walk_at "sd"); (case z5 => walk_at "sd"); (case z6 => walk_at "sd"))
  | ((with_reducible refine' r_PlainHall_do_3 ?ze ?z0 ?z1 ?z2 ?z3 ?z4 ?z5 ?z6 ?z7 ?_); (case ze => exact rfl); (case z0 => walk_at "lk"); (case z1 => walk_at "lk"); (case z2 => walk_at "sd"); (case z3 => walk_at "lk"); (case z4 => walk_at "sd"); (case z5 => walk_at "sd"); (case z6 => walk_at "sd"); (case z7 => walk_at "sd"))
  | ((with_reducible refine' r_PlainHall_do_4 ?ze ?z0 ?z1 ?z2 ?z3 ?z4 ?z5 ?z6 ?z7 ?z8 ?_); (case ze => exact rfl); (case z0 => walk_at "lk"); (case z1 => walk_at "lk"); (case z2 => walk_at "sd"); (case z3 => walk_at "lk"); (case z4 => walk_at "sd"); (case z5 => walk_at "sd"); (case z6 => walk_at "sd"); (case z7 => walk_at "sd"); (case z8 => walk_at "sd"))
  | ((with_reducible refine' r_PlainHall_do_5 ?ze ?z0 ?z1 ?z2 ?z3 ?z4 ?z5 ?z6 ?z7 ?z8 ?z9 ?_); (case ze => exact rfl); (case z0 => walk_at "lk"); (case z1 => walk_at "lk"); (case z2 => walk_at "sd"); (case z3 => walk_at "lk"); (case z4 => walk_at "sd"); (case z5 => walk_at "sd"); (case z6 => walk_at "sd"); (case z7 => walk_at "sd"); (case z8 => walk_at "sd"); (case z9 => walk_at "sd"))
  | ((with_reducible refine' r_PlainHall_do_6 ?ze ?z0 ?z1 ?z2 ?_); (case ze => exact rfl); (case z0 => walk_at "lk"); (case z1 => walk_at "lk"); (case z2 => walk_at "sd"))
  | ((with_reducible refine' r_law_did_1 ?ze ?z0 ?z1 ?z2 ?z3 ?z4 ?z5 ?z6 ?z7 ?_); (case ze => exact rfl); (case z0 => walk_at "lk"); (case z1 => walk_at "lk"); (case z2 => walk_at "lk"); (case z3 => walk_at "sd"); (case z4 => walk_at "ne"); (case z5 => walk_at "sd"); (case z6 => walk_at "sd"); (case z7 => walk_at "sd"))
  | ((with_reducible refine' r_law_did_2 ?ze ?z0 ?z1 ?z2 ?z3 ?_); (case ze => exact rfl); (case z0 => walk_at "lk"); (case z1 => walk_at "lk"); (case z2 => walk_at "sd"); (case z3 => walk_at "kit"))
  | ((with_reducible refine' r_law_due ?ze ?z0 ?z1 ?z2 ?z3 ?z4 ?z5 ?z6 ?z7 ?_); (case ze => exact rfl); (case z0 => walk_at "lk"); (case z1 => walk_at "lk"); (case z2 => walk_at "lk"); (case z3 => walk_at "sd"); (case z4 => walk_at "ne"); (case z5 => walk_at "sd"); (case z6 => walk_at "sd"); (case z7 => walk_at "sd"))
  | ((with_reducible refine' r_law_no_member ?ze ?z0 ?z1 ?z2 ?z3 ?z4 ?_); (case ze => exact rfl); (case z0 => walk_at "lk"); (case z1 => walk_at "sd"); (case z2 => walk_at "dp"); (case z3 => walk_at "sd"); (case z4 => walk_at "sd"))
  | ((with_reducible refine' r_law_stands ?ze ?z0 ?z1 ?z2 ?z3 ?z4 ?z5 ?z6 ?z7 ?z8 ?z9 ?_); (case ze => exact rfl); (case z0 => walk_at "lk"); (case z1 => walk_at "lk"); (case z2 => walk_at "lk"); (case z3 => walk_at "sd"); (case z4 => walk_at "lk"); (case z5 => walk_at "lk"); (case z6 => walk_at "lk"); (case z7 => walk_at "sd"); (case z8 => walk_at "sd"); (case z9 => walk_at "sd"))
  | ((with_reducible refine' r_law_done ?ze ?z0 ?z1 ?z2 ?z3 ?z4 ?z5 ?z6 ?z7 ?z8 ?z9 ?z10 ?z11 ?z12 ?z13 ?z14 ?z15 ?z16 ?z17 ?z18 ?_); (case ze => exact rfl); (case z0 => walk_at "lk"); (case z1 => walk_at "lk"); (case z2 => walk_at "lk"); (case z3 => walk_at "sd"); (case z4 => walk_at "lk"); (case z5 => walk_at "lk"); (case z6 => walk_at "lk"); (case z7 => walk_at "sd"); (case z8 => walk_at "ne"); (case z9 => walk_at "ne"); (case z10 => walk_at "ne"); (case z11 => walk_at "ne"); (case z12 => walk_at "ne"); (case z13 => walk_at "ne"); (case z14 => walk_at "sd"); (case z15 => walk_at "sd"); (case z16 => walk_at "sd"); (case z17 => walk_at "sd"); (case z18 => walk_at "sd"))
  | ((with_reducible refine' r_law_bad ?ze ?z0 ?z1 ?z2 ?z3 ?z4 ?z5 ?z6 ?_); (case ze => exact rfl); (case z0 => walk_at "lk"); (case z1 => walk_at "lk"); (case z2 => walk_at "lk"); (case z3 => walk_at "lk"); (case z4 => walk_at "sd"); (case z5 => walk_at "sd"); (case z6 => walk_at "sd"))
  | ((with_reducible refine' r_law_made ?ze ?z0 ?z1 ?z2 ?z3 ?_); (case ze => exact rfl); (case z0 => walk_at "sd"); (case z1 => walk_at "dp"); (case z2 => walk_at "sd"); (case z3 => walk_at "sd"))
  | ((with_reducible refine' r_law_cell_at ?ze ?z0 ?z1 ?z2 ?_); (case ze => exact rfl); (case z0 => walk_at "sq"); (case z1 => walk_at "sd"); (case z2 => walk_at "sd"))
  | ((with_reducible refine' r_law_pool ?ze  ?_); (case ze => exact rfl))
  | ((with_reducible refine' r_law_take ?ze ?z0 ?z1 ?z2 ?_); (case ze => exact rfl); (case z0 => walk_at "lk"); (case z1 => walk_at "sd"); (case z2 => walk_at "sd"))
  | ((with_reducible refine' r_law ?ze ?z0 ?z1 ?_); (case ze => exact rfl); (case z0 => walk_at "sq"); (case z1 => walk_at "sd"))
  | fail)
set_option hygiene true
section
variable {P : Program} [PF P] {w : World} {K : PySem.W.Frag} {mg : Str → Option Value} {base : Heap}

theorem ok_is_whole (T : Tx K mg) : FnOk P w K mg base CX0 1 T.f_is_whole T.d_is_whole ["thing", "low", "high"] (sp_is_whole K) := by
  refine T.F_is_whole.ok sc_is_whole (fun vs H Q E h => ?_) (fun cdv A outer s H vs Q E hr h => ?_)
  · rcases h with ⟨n, a, rfl, k⟩ | ⟨n, a, b, rfl, k⟩ | ⟨c, y, z, rfl, k⟩ | ⟨x, y, z, t, rfl, ht, hk, k⟩
    all_goals rfl
  · have hu := hu_of hr
    refine ⟨_, (pss_cons (ps_if (PW.pt (pw_or (pt_not (pt_val (pe_callB (id := "isinstance") (kx_isi (K := K) rfl) (by rfl) T.z_isinstance (by decide +kernel) (pa_cons (pv 0) (pa_cons (pe_bltn (v := .ty "int") (u := .type "int") (by rfl) T.z_int (by decide +kernel) rfl) (pa_nil)))))) (pw_or1 (pt_val (pe_callB (id := "isinstance") (kx_isi (K := K) rfl) (by rfl) T.z_isinstance (by decide +kernel) (pa_cons (pv 0) (pa_cons (pe_bltn (v := .ty "bool") (u := .type "bool") (by rfl) T.z_bool (by decide +kernel) rfl) (pa_nil))))))))
      (pss_one (ps_ret pe_bl)) pss_nil)
      (pss_one (ps_ret (pe_and (pe_cmpR op_le (pv 1) (pv 0) (nomark _)) (pe_one (pe_or (pe_cmpR op_isNon (pv 2) pe_non (nomark _)) (pe_one (pe_cmpR op_le (pv 0) (pv 2) (nomark _))))))))), ?_⟩
    rcases h with ⟨n, a, rfl, k⟩ | ⟨n, a, b, rfl, k⟩ | ⟨c, y, z, rfl, k⟩ | ⟨x, y, z, t, rfl, ht, hk, k⟩
    · walk_at "rdx"
      all_goals exact R_of k (by walk_at "sv")
    · walk_at "rdx"
      all_goals exact R_of k (by walk_at "sv")
    · walk_at "rdx"
      exact k
    · walk_at "rdx"
      exact k
theorem ok_is_member (T : Tx K mg) : FnOk P w K mg base CX0 2 T.f_is_member T.d_is_member ["thing", "members"] (sp_is_member K) := by
  refine T.F_is_member.ok sc_is_member (fun vs H Q E h => ?_) (fun cdv A outer s H vs Q E hr h => ?_)
  · rcases h with ⟨n, m, rfl, k⟩ | ⟨x, m, rfl, hx, k⟩
    all_goals rfl
  · have hu := hu_of hr
    refine ⟨_, (pss_one (ps_ret (pe_call (ok_is_whole (P := P) T) (hr.mono (by decide)) rfl T.m_is_whole T.k_is_whole T.b_is_whole .nil pass0 (pa_cons (pv 0) (pa_cons pe_int (pa_cons (pe_op op_sub (pv 1) pe_int) (pa_nil))))))), ?_⟩
    rcases h with ⟨n, m, rfl, k⟩ | ⟨x, m, rfl, hx, k⟩
    · walk_at "rdx"
      exact k
    · rcases hx with ⟨n, rfl, hn⟩ | ⟨b, rfl⟩ | ⟨t, ht, hk⟩
      all_goals walk_at "rdx"
      all_goals exact R_of k (by walk_at "sv")
theorem ok_check_members (T : Tx K mg) : FnOk P w K mg base (L2.CX P w) 3 T.f_check_members T.d_check_members ["members"] (sp_check_members K T.C_NoNumber) := by
  refine T.F_check_members.okX sc_check_members (fun vs H Q E h => ?_) (fun cdv A outer s H vs Q E hr h => ?_)
  · rcases h with ⟨m, rfl, h2, h5, k⟩ | ⟨x, rfl, hx, k⟩
    all_goals rfl
  · have hu := hu_of hr
    refine ⟨_, (pss_one (ps_if (pt_not (pt_val (pe_call (ok_is_whole (P := P) T) (hr.mono (by decide)) rfl T.m_is_whole T.k_is_whole T.b_is_whole .nil pass0 (pa_cons (pv 0) (pa_cons (pe_glob (v := .int 2) rfl T.g_LEAST_MEMBERS ⟨_, rfl⟩) (pa_cons (pe_glob (v := .int 5) rfl T.g_MOST_MEMBERS ⟨_, rfl⟩) (pa_nil)))))))
      (pss_one (ps_raiseX rfl (takes_of rfl rfl rfl rfl) ‹PF P› T.ox_NoNumber T.z_super (hr.mono (by decide)) rfl T.g_NoNumber (pv 0))) pss_nil)), ?_⟩
    rcases h with ⟨m, rfl, h2, h5, k⟩ | ⟨x, rfl, hx, k⟩
    · walk_at "rdx"
      all_goals exact k
    · rcases hx with ⟨n, rfl, hn⟩ | ⟨b, rfl⟩ | ⟨t, ht, hk⟩
      all_goals walk_at "rdx"
      all_goals exact k _ (by assumption)
theorem ok_check_member (T : Tx K mg) : FnOk P w K mg base (L2.CX P w) 4 T.f_check_member T.d_check_member ["member", "members"] (sp_check_member K T.C_NoMember) := by
  refine T.F_check_member.okX sc_check_member (fun vs H Q E h => ?_) (fun cdv A outer s H vs Q E hr h => ?_)
  · rcases h with ⟨n, m, rfl, h0, h1, k⟩ | ⟨x, m, rfl, hx, k⟩
    all_goals rfl
  · have hu := hu_of hr
    refine ⟨_, (pss_one (ps_if (pt_not (pt_val (pe_call (ok_is_member (P := P) T) (hr.mono (by decide)) rfl T.m_is_member T.k_is_member T.b_is_member .nil pass0 (pa_cons (pv 0) (pa_cons (pv 1) (pa_nil))))))
      (pss_one (ps_raiseX rfl (takes_of rfl rfl rfl rfl) ‹PF P› T.ox_NoMember T.z_super (hr.mono (by decide)) rfl T.g_NoMember (pv 0))) pss_nil)), ?_⟩
    rcases h with ⟨n, m, rfl, h0, h1, k⟩ | ⟨x, m, rfl, hx, k⟩
    · walk_at "rdx"
      all_goals exact k
    · walk_at "rdx"
      exact k _ (by assumption)
theorem ok_is_ident (T : Tx K mg) : FnOk P w K mg base CX0 3 T.f_is_ident T.d_is_ident ["thing", "members", "high"] (sp_is_ident K) := by
  refine T.F_is_ident.ok sc_is_ident (fun vs H Q E h => ?_) (fun cdv A outer s H vs Q E hr h => ?_)
  · rcases h with ⟨t, kk, n, m, rfl, ht, k⟩ | ⟨t, ys, m, rfl, ht, hl, h5, k⟩ | ⟨t, y, z, m, rfl, ht, hy, k⟩ | ⟨t, kk, z, m, rfl, ht, h0, h1, hz, k⟩
    all_goals rfl
  · have hu := hu_of hr
    refine ⟨_, (pss_cons (ps_if (PW.pt (pw_or (pt_not (pt_val (pe_callB (id := "isinstance") (kx_isi (K := K) rfl) (by rfl) T.z_isinstance (by decide +kernel) (pa_cons (pv 0) (pa_cons (pe_bltn (v := .ty "tuple") (u := .type "tuple") (by rfl) T.z_tuple (by decide +kernel) rfl) (pa_nil)))))) (pw_or1 (pt_cmpR op_ne (pe_callB (id := "len") (kx_len (K := K) rfl) (by rfl) T.z_len (by decide +kernel) (pa_cons (pv 0) (pa_nil))) pe_int (nomark _)))))
      (pss_one (ps_ret pe_bl)) pss_nil)
      (pss_one (ps_ret (pe_and (pe_call (ok_is_member (P := P) T) (hr.mono (by decide)) rfl T.m_is_member T.k_is_member T.b_is_member .nil pass0 (pa_cons (pe_ix (ki_tup (K := K) rfl) (pv 0) pe_int (fun _ _ => rfl)) (pa_cons (pv 1) (pa_nil)))) (pe_one (pe_call (ok_is_whole (P := P) T) (hr.mono (by decide)) rfl T.m_is_whole T.k_is_whole T.b_is_whole .nil pass0 (pa_cons (pe_ix (ki_tup (K := K) rfl) (pv 0) pe_int (fun _ _ => rfl)) (pa_cons pe_int (pa_cons (pv 2) (pa_nil)))))))))), ?_⟩
    rcases h with ⟨t, kk, n, m, rfl, ht, k⟩ | ⟨t, ys, m, rfl, ht, hl, h5, k⟩ | ⟨t, y, z, m, rfl, ht, hy, k⟩ | ⟨t, kk, z, m, rfl, ht, h0, h1, hz, k⟩
    · walk_at "rdx"
      all_goals exact R_of k (by walk_at "sv")
    · walk_at "rdx"
      exact k
    · walk_at "rdx"
      exact k
    · rcases hz with ⟨n, rfl, hn⟩ | ⟨b, rfl⟩ | ⟨t, ht, hk⟩
      all_goals walk_at "rdx"
      all_goals exact R_of k (by walk_at "sv")
theorem ok_is_plain_deed (T : Tx K mg) : FnOk P w K mg base CX0 4 T.f_is_plain_deed T.d_is_plain_deed ["thing", "members"] (sp_is_plain_deed K) := by
  refine T.F_is_plain_deed.ok sc_is_plain_deed (fun vs H Q E h => ?_) (fun cdv A outer s H vs Q E hr h => ?_)
  · rcases h with ⟨t, kk, m, rfl, ht, k⟩ | ⟨t, kk, n, m, rfl, ht, k⟩ | ⟨x, m, rfl, hx, k⟩
    all_goals rfl
  · have hu := hu_of hr
    refine ⟨_, (pss_cons (ps_if (PW.pt (pw_or (pt_not (pt_val (pe_callB (id := "isinstance") (kx_isi (K := K) rfl) (by rfl) T.z_isinstance (by decide +kernel) (pa_cons (pv 0) (pa_cons (pe_bltn (v := .ty "tuple") (u := .type "tuple") (by rfl) T.z_tuple (by decide +kernel) rfl) (pa_nil)))))) (pw_or1 (pt_cmpR op_eq (pe_callB (id := "len") (kx_len (K := K) rfl) (by rfl) T.z_len (by decide +kernel) (pa_cons (pv 0) (pa_nil))) pe_int (nomark _)))))
      (pss_one (ps_ret pe_bl)) pss_nil)
      (pss_cons (ps_if (pt_cmpR (op_or op_eq (op_or (op_eqX rfl (by have h := room128 hr; exact h)) (ko_eqD (K := K) rfl hr.units))) (pe_ix (ki_tup (K := K) rfl) (pv 0) pe_int (fun _ _ => rfl)) pe_str (nomark _))
      (pss_one (ps_ret (pe_call (ok_is_ident (P := P) T) (hr.mono (by decide)) rfl T.m_is_ident T.k_is_ident T.b_is_ident_2 T.v_is_ident_2 pass0 (pa_cons (pe_slice (ks_tup (K := K) rfl) (pv 0) (po_some pe_int) po_none) (pa_cons (pv 1) (pa_nil)))))) pss_nil)
      (pss_one (ps_ret (pe_and (pe_cmpR (op_or op_eq (op_or (op_eqX rfl (by have h := room128 hr; exact h)) (ko_eqD (K := K) rfl hr.units))) (pe_ix (ki_tup (K := K) rfl) (pv 0) pe_int (fun _ _ => rfl)) pe_str (nomark _)) (pe_and (pe_cmpR op_eq (pe_callB (id := "len") (kx_len (K := K) rfl) (by rfl) T.z_len (by decide +kernel) (pa_cons (pv 0) (pa_nil))) pe_int (nomark _)) (pe_one (pe_call (ok_is_member (P := P) T) (hr.mono (by decide)) rfl T.m_is_member T.k_is_member T.b_is_member .nil pass0 (pa_cons (pe_ix (ki_tup (K := K) rfl) (pv 0) pe_int (fun _ _ => rfl)) (pa_cons (pv 1) (pa_nil))))))))))), ?_⟩
    rcases h with ⟨t, kk, m, rfl, ht, k⟩ | ⟨t, kk, n, m, rfl, ht, k⟩ | ⟨x, m, rfl, hx, k⟩
    · have n1 : ¬ (Str.ofString "tell" = Str.ofString "add") := by decide +kernel
      walk_at "rdn"
      refine .inl ?_
      walk_at "rdn"
      refine .inl ?_
      walk_at "rdx"
      exact k _ (Same.refl _)
    · walk_at "rdn"
      refine .inl ?_
      walk_at "rdn"
      intro d hd
      walk_at "rdn"
      exact k _ (Same.new hd)
    · rcases hx with ⟨ty, h1, h2⟩ | ⟨t, rfl, h1⟩ | ⟨t, y, ys, rfl, h1, h2, h3⟩ | ⟨t, ys, rfl, h1, h2, h3⟩ | ⟨t, y, rfl, h1, h2⟩ | ⟨t, ys, rfl, h1, h2, h3⟩ | ⟨t, y, z, rfl, h1, h2⟩ | ⟨t, j, z, rfl, h1, h2, h3, h4⟩
      · walk_at "rdn"
        exact k _ (Same.refl _)
      · walk_at "rdn"
        exact k _ (Same.refl _)
      · rcases h3 with ⟨s, rfl, n1, n2⟩ | ⟨a, ds, rfl, n1, n2⟩
        · have n1' : ¬ (s = Str.ofString "add") := n1
          have n2' : ¬ (s = Str.ofString "tell") := n2
          walk_at "rdn"
          refine .inl ?_
          walk_at "rdn"
          refine .inl ?_
          walk_at "rdn"
          exact k _ (Same.refl _)
        · have ez : ∀ s, PyData.eqv (.list ds) (.str s) = false := fun s => by simp [PyData.eqv]
          walk_at "rdn"
          refine .inr (.inr (q_eqD n1 (.str _) n2 (by decide +kernel) ?_))
          rw [ez]
          walk_at "rdn"
          refine .inr (.inr (q_eqD n1 (.str _) n2 (by decide +kernel) ?_))
          rw [ez]
          walk_at "rdn"
          exact k _ (Same.refl _)
      · have n1 : ¬ (Str.ofString "tell" = Str.ofString "add") := by decide +kernel
        have n3 : ¬ ((↑(V.str (Str.ofString "tell") :: ys).length : Int) = 2) := by rw [List.length_cons]; omega
        walk_at "rdn"
        refine .inl ?_
        walk_at "rdn"
        refine .inl ?_
        walk_at "rdn"
        exact k _ (Same.refl _)
      · have n1 : ¬ (Str.ofString "tell" = Str.ofString "add") := by decide +kernel
        walk_at "rdn"
        refine .inl ?_
        walk_at "rdn"
        refine .inl ?_
        walk_at "rdn"
        exact k _ (Same.refl _)
      · walk_at "rdn"
        refine .inl ?_
        walk_at "rdn"
        intro d hd
        walk_at "rdn"
        exact k _ (Same.new hd)
      · walk_at "rdn"
        refine .inl ?_
        walk_at "rdn"
        intro d hd
        have h2 := h2.same (Same.new (o := .tup [y, z]) hd)
        walk_at "rdn"
        exact k _ (Same.new hd)
      · walk_at "rdn"
        refine .inl ?_
        walk_at "rdn"
        intro d hd
        have h4 := h4.same (Same.new (o := .tup [V.int j, z]) hd)
        walk_at "rdn"
        exact k _ (Same.new hd)
theorem ok_PlainHall_init (T : Tx K mg) : FnOk P w K mg base (L2.CX P w) 5 T.f_PlainHall_init T.d_PlainHall_init ["self", "members"] (sp_PlainHall_init K T.C_PlainHall T.C_NoNumber) := by
  refine T.F_PlainHall_init.okX sc_PlainHall_init (fun vs H Q E h => ?_) (fun cdv A outer s H vs Q E hr h => ?_)
  · rcases h with ⟨p, dx, m, rfl, hp, h2, h5, k⟩ | ⟨p, dx, x, rfl, hp, hx, k⟩
    all_goals rfl
  · have hu := hu_of hr
    refine ⟨_, (pss_cons (ps_expr (pe_callSD (ok_check_members (P := P) T) (hr.mono (by decide)) rfl T.m_check_members T.k_check_members T.b_check_members .nil (fun σ => passX (takes_of rfl rfl rfl rfl) σ) (pa_cons (pv 1) (pa_nil))))
      (pss_cons (kps_fld (K := K) rfl (ps_fld (pv 0) (pv 1) rfl))
      (pss_cons (kps_fld (K := K) rfl (ps_fld (pv 0) (pe_lst pa_nil) rfl))
      (pss_one (kps_fld (K := K) rfl (ps_fld (pv 0) (pe_op op_rep (pe_lst (pa_cons pe_int (pa_nil))) (pv 1)) rfl)))))), ?_⟩
    rcases h with ⟨p, dx, m, rfl, hp, h2, h5, k⟩ | ⟨p, dx, x, rfl, hp, hx, k⟩
    · walk_at "rdn"
      intro r hr
      have npr : p ≠ r := by walk_at "ne"
      walk_at "rdn"
      refine q_sfldb (fs := [("_members", .int m)]) ((upd_ne npr).trans upd_same) T.c_PlainHall T.n_PlainHall__row (by simp) ?_
      rw [putF_ne (by decide +kernel), putF_nil]
      walk_at "rdn"
      intro l hl
      have npl : p ≠ l := by walk_at "ne"
      walk_at "rdn"
      refine q_rep (xs := [V.int 0]) upd_same (by omega) (by omega) (line_of (by simp only [List.length_cons, List.length_nil]; omega)) ?_
      rw [rep_ints]
      intro w hw
      have npw : p ≠ w := by walk_at "ne"
      have nrl : r ≠ l := by walk_at "ne"
      have nrw : r ≠ w := by walk_at "ne"
      walk_at "rdn"
      refine q_sfldb (fs := [("_members", .int m), ("_row", .ref r)]) ((upd_ne npw).trans ((upd_ne npl).trans upd_same)) T.c_PlainHall T.n_PlainHall__told (by simp) ?_
      rw [putF_ne (by decide +kernel), putF_ne (by decide +kernel), putF_nil]
      have nr0 : H r = none := by walk_at "fr"
      have nw0 : H w = none := by walk_at "fr"
      exact k r w _ (fun b o nb e => by walk_at "lk") upd_same (by walk_at "lk") (by walk_at "lk") nr0 nw0 nrw
    · walk_at "rd"
      exact k _ (by assumption)
theorem ok_PlainHall_len (T : Tx K mg) : FnOk P w K mg base CX0 1 T.f_PlainHall_len T.d_PlainHall_len ["self"] (sp_PlainHall_len K T.C_PlainHall) := by
  refine T.F_PlainHall_len.ok sc_PlainHall_len (fun vs H Q E h => ?_) (fun cdv A outer s H vs Q E hr h => ?_)
  · rcases h with ⟨p, dx, r, t, m, xs, rfl, hp, hr, k⟩
    all_goals rfl
  · have hu := hu_of hr
    refine ⟨_, (pss_one (ps_ret (pe_callB (id := "len") (kx_len (K := K) rfl) (by rfl) T.z_len (by decide +kernel) (pa_cons (kp_fld (K := K) rfl (pv 0) rfl) (pa_nil))))), ?_⟩
    rcases h with ⟨p, dx, r, t, m, xs, rfl, hp, hr, k⟩
    walk_at "rd"
    exact k
theorem ok_PlainHall_row (T : Tx K mg) : FnOk P w K mg base CX0 1 T.f_PlainHall_row T.d_PlainHall_row ["self"] (sp_PlainHall_row K T.C_PlainHall) := by
  refine T.F_PlainHall_row.ok sc_PlainHall_row (fun vs H Q E h => ?_) (fun cdv A outer s H vs Q E hr h => ?_)
  · rcases h with ⟨p, dx, r, t, m, xs, rfl, hp, hr, k⟩
    all_goals rfl
  · have hu := hu_of hr
    refine ⟨_, (pss_one (ps_ret (pe_callTy (T := "list") (kx_list (K := K) rfl) (by rfl) T.z_list (by decide +kernel) (pa_cons (kp_fld (K := K) rfl (pv 0) rfl) (pa_nil))))), ?_⟩
    rcases h with ⟨p, dx, r, t, m, xs, rfl, hp, hr, k⟩
    walk_at "rd"
    exact k _ (by assumption)
theorem ok_PlainHall_told_by (T : Tx K mg) : FnOk P w K mg base (L2.CX P w) 5 T.f_PlainHall_told_by T.d_PlainHall_told_by ["self", "member"] (sp_PlainHall_told_by K T.C_PlainHall T.C_NoMember) := by
  refine T.F_PlainHall_told_by.okX sc_PlainHall_told_by (fun vs H Q E h => ?_) (fun cdv A outer s H vs Q E hr h => ?_)
  · rcases h with ⟨p, dx, r, t, m, ts, kk, rfl, hp, ht, hk, hl, k⟩ | ⟨p, dx, r, t, m, x, rfl, hp, hx, k⟩
    all_goals rfl
  · have hu := hu_of hr
    refine ⟨_, (pss_cons (ps_expr (pe_callSD (ok_check_member (P := P) T) (hr.mono (by decide)) rfl T.m_check_member T.k_check_member T.b_check_member .nil (fun σ => passX (takes_of rfl rfl rfl rfl) σ) (pa_cons (pv 1) (pa_cons (kp_fld (K := K) rfl (pv 0) rfl) (pa_nil)))))
      (pss_one (ps_ret (pe_ix (ki_list (K := K) rfl) (kp_fld (K := K) rfl (pv 0) rfl) (pv 1) (fun _ _ => rfl))))), ?_⟩
    rcases h with ⟨p, dx, r, t, m, ts, kk, rfl, hp, ht, hk, hl, k⟩ | ⟨p, dx, r, t, m, x, rfl, hp, hx, k⟩
    · walk_at "rdn"
      exact k
    · walk_at "rd"
      exact k _ (by assumption)
theorem ok_PlainHall_state (T : Tx K mg) : FnOk P w K mg base CX0 1 T.f_PlainHall_state T.d_PlainHall_state ["self"] (sp_PlainHall_state K T.C_PlainHall) := by
  refine T.F_PlainHall_state.ok sc_PlainHall_state (fun vs H Q E h => ?_) (fun cdv A outer s H vs Q E hr h => ?_)
  · rcases h with ⟨p, dx, r, t, m, xs, ts, rfl, hp, hr, ht, k⟩
    all_goals rfl
  · have hu := hu_of hr
    refine ⟨_, (pss_one (ps_ret (pe_tup (pa_cons (pe_callTy (T := "tuple") (kx_tuple (K := K) rfl) (by rfl) T.z_tuple (by decide +kernel) (pa_cons (kp_fld (K := K) rfl (pv 0) rfl) (pa_nil))) (pa_cons (pe_callTy (T := "tuple") (kx_tuple (K := K) rfl) (by rfl) T.z_tuple (by decide +kernel) (pa_cons (kp_fld (K := K) rfl (pv 0) rfl) (pa_nil))) (pa_nil)))))), ?_⟩
    rcases h with ⟨p, dx, r, t, m, xs, ts, rfl, hp, hr, ht, k⟩
    walk_at "rdn"
    intro a ha
    walk_at "rdn"
    intro b hb
    walk_at "rdn"
    intro s hs
    exact k s a b _ (((Same.new ha).trans (Same.new hb)).trans (Same.new hs)) upd_same (by walk_at "lk") (by walk_at "lk")
theorem ok_PlainHall_eq (T : Tx K mg) : FnOk P w K mg base CX0 3 T.f_PlainHall_eq T.d_PlainHall_eq ["self", "other"] (sp_PlainHall_eq K T.C_PlainHall) := by
  refine T.F_PlainHall_eq.ok sc_PlainHall_eq (fun vs H Q E h => ?_) (fun cdv A outer s H vs Q E hr h => ?_)
  · rcases h with ⟨p, dx, r, t, m, xs, cs, ts, q, dy, u, v, n, ys, ds, us, rfl, hp, hr, ht, hxs, hq, hu, hv, hys, k⟩ | ⟨p, dx, r, t, m, x, ty, rfl, hp, hx, hk, k⟩
    all_goals rfl
  · have hu := hu_of hr
    refine ⟨_, (pss_one (ps_ret (pe_and (pe_callB (id := "isinstance") (kx_isi (K := K) rfl) (by rfl) T.z_isinstance (by decide +kernel) (pa_cons (pv 1) (pa_cons (pe_glob (v := .ref T.C_PlainHall) rfl T.g_PlainHall rfl) (pa_nil)))) (pe_one (pe_cmpR (ko_eqD (K := K) rfl hr.units) (pe_meth0 (pv 0) T.c_PlainHall T.mt_PlainHall_state (ok_PlainHall_state (P := P) T) (hr.mono (by decide)) T.b_PlainHall_state .nil pass0) (pe_meth0 (pv 1) T.c_PlainHall T.mt_PlainHall_state (ok_PlainHall_state (P := P) T) (hr.mono (by decide)) T.b_PlainHall_state .nil pass0) (nomark _)))))), ?_⟩
    rcases h with ⟨p, dx, r, t, m, xs, cs, ts, q, dy, u, v, n, ys, ds, us, rfl, hp, hr, ht, hxs, hq, hu, hv, hys, k⟩ | ⟨p, dx, r, t, m, x, ty, rfl, hp, hx, hk, k⟩
    · walk_at "rdn"
      intro s1 a1 b1 H1 e1 f1 f2 f3
      walk_at "rdn"
      intro s2 a2 b2 H2 e2 f4 f5 f6
      have g1 := e2 _ _ f1
      have g2 := e2 _ _ f2
      have g3 := e2 _ _ f3
      have P1 := PairAt.all hxs (e1.trans e2)
      have P2 := PairAt.all hys (e1.trans e2)
      refine q_eqD (.tup (SqT.of g1) (.cons (.tup (SqT.of g2) (PairAt.dp P1)) (.cons (.tup (SqT.of g3) DpInts) .nil))) (.tup (SqT.of f4) (.cons (.tup (SqT.of f5) (PairAt.dp P2)) (.cons (.tup (SqT.of f6) DpInts) .nil))) (sh_hall) (sh_hall) ?_
      exact R_of (k _ (e1.trans e2)) (by rw [eqv_hall])
    · walk_at "rdn"
      exact k
theorem ok_PlainHall_add (T : Tx K mg) : FnOk P w K mg base (L2.CX P w) 3 T.f_PlainHall_add T.d_PlainHall_add ["self", "ident"] (sp_PlainHall_add K T.C_PlainHall T.C_Known T.C_Lacks) := by
  refine T.F_PlainHall_add.okX sc_PlainHall_add (fun vs H Q E h => ?_) (fun cdv A outer s H vs Q E hr h => ?_)
  · rcases h with ⟨p, dx, r, t, i, m, xs, cs, c, rfl, hp, hr, hxs, hi, hm, k⟩ | ⟨p, dx, r, t, i, m, xs, cs, c, rfl, hp, hr, hxs, hi, hm, hn, hb, k⟩ | ⟨p, dx, r, t, i, m, xs, cs, c, rfl, hp, hr, hxs, hi, hm, hb, hl, k⟩
    all_goals rfl
  · have hu := hu_of hr
    refine ⟨_, (pss_cons (ps_asg (pv 1) (kg_tup (K := K) (n := 2) rfl rfl (pgs_cons (pg_name (i := 2) sc_PlainHall_add.nd rfl (Or.inl rfl)) (pgs_cons (pg_name (i := 3) sc_PlainHall_add.nd rfl (Or.inl rfl)) pgs_nil))))
      (pss_cons (ps_if (pt_cmpR (ko_inD (K := K) rfl (room65 hr)) (pv 1) (kp_fld (K := K) rfl (pv 0) rfl) rfl)
      (pss_one (ps_raiseX rfl (takes_of rfl rfl rfl rfl) ‹PF P› T.ox_Known T.z_super (hr.mono (by decide)) rfl T.g_Known (pv 1))) pss_nil)
      (pss_cons (ps_set (i := 4) sc_PlainHall_add.nd rfl (Or.inl rfl) (pe_tup (pa_cons (pv 2) (pa_cons (pe_op op_sub (pv 3) pe_int) (pa_nil)))))
      (pss_cons (ps_if (PW.pt (pw_and (pt_cmpR op_gt (pv 3) pe_int (nomark _)) (pw_and1 (pt_cmpR (ko_notInD (K := K) rfl (room65 hr)) (pv 4) (kp_fld (K := K) rfl (pv 0) rfl) rfl))))
      (pss_one (ps_raiseX rfl (takes_of rfl rfl rfl rfl) ‹PF P› T.ox_Lacks T.z_super (hr.mono (by decide)) rfl T.g_Lacks (pe_lst (pa_cons (pv 4) (pa_nil))))) pss_nil)
      (pss_one (ps_expr (pe_bm PySem.F.plainAttrs_list PySem.F.slot_list_append PySem.F.type_list_append mt_append (kp_fld (K := K) rfl (pv 0) rfl) (pa_cons (pv 1) (pa_nil))))))))), ?_⟩
    rcases h with ⟨p, dx, r, t, i, m, xs, cs, c, rfl, hp, hr, hxs, hi, hm, k⟩ | ⟨p, dx, r, t, i, m, xs, cs, c, rfl, hp, hr, hxs, hi, hm, hn, hb, k⟩ | ⟨p, dx, r, t, i, m, xs, cs, c, rfl, hp, hr, hxs, hi, hm, hb, hl, k⟩
    · walk_at "rdn"
      refine q_inP (SqL.of hr) hxs ⟨i, rfl, hi⟩ ?_
      rw [decide_eq_true hm]
      walk_at "rdn"
      intro d hd
      exact k _ _ (Same.new hd) upd_same
    · walk_at "rdn"
      refine q_inP (SqL.of hr) hxs ⟨i, rfl, hi⟩ ?_
      rw [decide_eq_false hm]
      walk_at "rdn"
      intro a ha
      walk_at "rdn"
      refine q_notInP (c := (c.1, c.2 - 1)) (by walk_at "sq") (PairAt.all hxs (Same.new ha)) ⟨a, rfl, upd_same⟩ ?_
      rw [decide_eq_false hb]
      walk_at "rdn"
      intro l hl
      walk_at "rdn"
      intro d hd
      exact k d l a _ (((Same.new ha).trans (Same.new hl)).trans (Same.new hd)) upd_same (by walk_at "lk") (by walk_at "lk") (by walk_at "fr")
    · walk_at "rdn"
      refine q_inP (SqL.of hr) hxs ⟨i, rfl, hi⟩ ?_
      rw [decide_eq_false hm]
      walk_at "rdn"
      intro a ha
      walk_at "rdn"
      refine q_ifx (fun h1 => ?_) (fun h1 => ?_)
      · have h2 : (c.1, c.2 - 1) ∈ cs := Decidable.byContradiction fun h => hb ⟨h1, h⟩
        walk_at "rdn"
        refine q_notInP (c := (c.1, c.2 - 1)) (by walk_at "sq") (PairAt.all hxs (Same.new ha)) ⟨a, rfl, upd_same⟩ ?_
        rw [decide_eq_true h2]
        walk_at "rdn"
        exact k _ (fun b o nb e => by walk_at "lk") upd_same
      · walk_at "rdn"
        exact k _ (fun b o nb e => by walk_at "lk") upd_same
theorem ok_PlainHall_tell (T : Tx K mg) : FnOk P w K mg base (L2.CX P w) 3 T.f_PlainHall_tell T.d_PlainHall_tell ["self", "member"] (sp_PlainHall_tell K T.C_PlainHall T.C_AllTold) := by
  refine T.F_PlainHall_tell.okX sc_PlainHall_tell (fun vs H Q E h => ?_) (fun cdv A outer s H vs Q E hr h => ?_)
  · rcases h with ⟨p, dx, r, t, m, xs, ts, kk, j, x, rfl, hp, hr, ht, hj, hx, hrt, k⟩ | ⟨p, dx, r, t, m, xs, ts, kk, j, rfl, hp, hr, ht, hj, hx, k⟩
    all_goals rfl
  · have hu := hu_of hr
    refine ⟨_, (pss_cons (ps_set (i := 2) sc_PlainHall_tell.nd rfl (Or.inl rfl) (pe_ix (ki_list (K := K) rfl) (kp_fld (K := K) rfl (pv 0) rfl) (pv 1) (fun _ _ => rfl)))
      (pss_cons (ps_if (pt_cmpR op_eq (pv 2) (pe_callB (id := "len") (kx_len (K := K) rfl) (by rfl) T.z_len (by decide +kernel) (pa_cons (kp_fld (K := K) rfl (pv 0) rfl) (pa_nil))) (nomark _))
      (pss_one (ps_raiseX rfl (takes_of rfl rfl rfl rfl) ‹PF P› T.ox_AllTold T.z_super (hr.mono (by decide)) rfl T.g_AllTold (pv 1))) pss_nil)
      (pss_cons (ps_augS (kp_fld (K := K) rfl (pv 0) rfl) (pv 1) (get_list (K := K) rfl) pe_int ip_add set_list)
      (pss_one (ps_ret (pe_ix (ki_list (K := K) rfl) (kp_fld (K := K) rfl (pv 0) rfl) (pv 2) (fun _ _ => rfl))))))), ?_⟩
    rcases h with ⟨p, dx, r, t, m, xs, ts, kk, j, x, rfl, hp, hr, ht, hj, hx, hrt, k⟩ | ⟨p, dx, r, t, m, xs, ts, kk, j, rfl, hp, hr, ht, hj, hx, k⟩
    · have hkl := (List.getElem?_eq_some_iff.mp hj).1
      have hgd : ts.getD kk 0 = (j : Int) := by rw [List.getD_eq_getElem?_getD, hj]; rfl
      have hjl := (List.getElem?_eq_some_iff.mp hx).1
      have hjm : (ts.map V.int)[kk]? = some (V.int (j : Int)) := by rw [List.getElem?_map, hj]; rfl
      have hpt : p ≠ t := fun e => by rw [e, ht] at hp; cases hp
      have hat : atI xs (j : Int) = some x := atI_nat hx
      walk_at "rdn"
      rw [hgd]
      walk_at "rdn"
      rw [List.map_set] at k
      exact k
    · have hkl := (List.getElem?_eq_some_iff.mp hj).1
      have hgd : ts.getD kk 0 = (j : Int) := by rw [List.getD_eq_getElem?_getD, hj]; rfl
      walk_at "rdn"
      intro d hd
      exact k d hd
theorem ok_PlainHall_twin (T : Tx K mg) : FnOk P w K mg base (L2.CX P w) 7 T.f_PlainHall_twin T.d_PlainHall_twin ["self"] (sp_PlainHall_twin K T.C_PlainHall) := by
  refine T.F_PlainHall_twin.okX sc_PlainHall_twin (fun vs H Q E h => ?_) (fun cdv A outer s H vs Q E hr h => ?_)
  · rcases h with ⟨p, dx, r, t, m, xs, ts, rfl, hp, hr, ht, h2, h5, k⟩
    all_goals rfl
  · have hu := hu_of hr
    refine ⟨_, (pss_cons (ps_set (i := 1) sc_PlainHall_twin.nd rfl (Or.inl rfl) (pe_makeE T.mk_PlainHall (ok_PlainHall_init (P := P) T) (hr.mono (by decide)) rfl T.g_PlainHall T.b_PlainHall_init .nil (fun σ => passX (takes_of rfl rfl rfl rfl) σ) (pa_cons (kp_fld (K := K) rfl (pv 0) rfl) (pa_nil))))
      (pss_cons (kps_fld (K := K) rfl (ps_fld (pv 1) (pe_callTy (T := "list") (kx_list (K := K) rfl) (by rfl) T.z_list (by decide +kernel) (pa_cons (kp_fld (K := K) rfl (pv 0) rfl) (pa_nil))) rfl))
      (pss_cons (kps_fld (K := K) rfl (ps_fld (pv 1) (pe_callTy (T := "list") (kx_list (K := K) rfl) (by rfl) T.z_list (by decide +kernel) (pa_cons (kp_fld (K := K) rfl (pv 0) rfl) (pa_nil))) rfl))
      (pss_one (ps_ret (pv 1)))))), ?_⟩
    rcases h with ⟨p, dx, r, t, m, xs, ts, rfl, hp, hr, ht, h2, h5, k⟩
    walk_at "rdn"
    intro x dx2 nx ndx nex
    have npx : p ≠ x := ne_of_none hp nx
    have nrx : r ≠ x := ne_of_none hr nx
    have ntx : t ≠ x := ne_of_none ht nx
    have nxd : x ≠ dx2 := fun e => nex e.symm
    refine r_PlainHall_init_1 rfl (hp := upd_same) (h2 := h2) (h5 := h5) ?_
    intro r2 t2 H1 f1 e1 e2 e3 n1 n2 n3
    have s1 : Same H H1 := fun b o eb => f1 b o (by walk_at "ne") (by walk_at "lk")
    have n1' : H r2 = none := by walk_at "fr"
    have n2' : H t2 = none := by walk_at "fr"
    have nrr : r2 ≠ x := fun e => by rw [e, e1] at e2; cases e2
    have ntt : t2 ≠ x := fun e => by rw [e, e1] at e3; cases e3
    clear f1 n1 n2
    refine ⟨rfl, ?_⟩
    have hp1 := s1 _ _ hp
    have hr1 := s1 _ _ hr
    have ht1 := s1 _ _ ht
    walk_at "rdn"
    intro r3 hr3
    have nr3x : r3 ≠ x := by walk_at "ne"
    have npr3 : p ≠ r3 := by walk_at "ne"
    have ntr3 : t ≠ r3 := by walk_at "ne"
    walk_at "rdn"
    rw [putF_ne (by decide +kernel), putF_hit]
    intro t3 ht3
    have nt3x : t3 ≠ x := by walk_at "ne"
    have nrt3 : r3 ≠ t3 := by walk_at "ne"
    walk_at "rdn"
    rw [putF_ne (by decide +kernel), putF_ne (by decide +kernel), putF_hit]
    have z1 : H r3 = none := Same.free s1 hr3
    have z2 : H t3 = none := Same.free s1 (upd_free (upd_free ht3))
    refine k x dx2 r3 t3 _ (fun b o eb => ?_) upd_same (by walk_at "lk") (by walk_at "lk") z1 z2 nrt3
    have eb1 := s1 _ _ eb
    have b1 : b ≠ x := ne_of_none eb nx
    have b2 : b ≠ r3 := ne_of_none eb z1
    have b3 : b ≠ t3 := ne_of_none eb z2
    walk_at "lk"
theorem ok_PlainHall_do (T : Tx K mg) : FnOk P w K mg base (L2.CX P w) 6 T.f_PlainHall_do T.d_PlainHall_do ["self", "deed"] (sp_PlainHall_do K T.C_PlainHall T.C_AllTold T.C_Known T.C_Lacks T.C_NoDeed) := by
  refine T.F_PlainHall_do.okX sc_PlainHall_do (fun vs H Q E h => ?_) (fun cdv A outer s H vs Q E hr h => ?_)
  · rcases h with ⟨p, dx, r, t, d, m, xs, ts, kk, j, x, rfl, hp, hr, ht, hd, hm, hj, hx, hrt, k⟩ | ⟨p, dx, r, t, d, m, xs, ts, kk, j, rfl, hp, hr, ht, hd, hm, hj, hx, k⟩ | ⟨p, dx, r, t, d, m, xs, cs, c, rfl, hp, hr, hxs, hd, h0, h1, hn, hm, k⟩ | ⟨p, dx, r, t, d, m, xs, cs, c, rfl, hp, hr, hxs, hd, h0, h1, hn, hm, hb, k⟩ | ⟨p, dx, r, t, d, m, xs, cs, c, rfl, hp, hr, hxs, hd, h0, h1, hn, hm, hb, hl, k⟩ | ⟨p, dx, r, t, m, xs, x, rfl, hp, hr, hx, k⟩
    all_goals rfl
  · have hu := hu_of hr
    refine ⟨_, (pss_cons (ps_if (pt_not (pt_val (pe_call (ok_is_plain_deed (P := P) T) (hr.mono (by decide)) rfl T.m_is_plain_deed T.k_is_plain_deed T.b_is_plain_deed .nil pass0 (pa_cons (pv 1) (pa_cons (kp_fld (K := K) rfl (pv 0) rfl) (pa_nil))))))
      (pss_one (ps_raiseX rfl (takes_of rfl rfl rfl rfl) ‹PF P› T.ox_NoDeed T.z_super (hr.mono (by decide)) rfl T.g_NoDeed (pv 1))) pss_nil)
      (pss_cons (ps_if (pt_cmpR op_eq (pe_ix (ki_tup (K := K) rfl) (pv 1) pe_int (fun _ _ => rfl)) pe_str (nomark _))
      (pss_one (ps_ret (pe_methE (pv 0) T.c_PlainHall T.mt_PlainHall_tell (ok_PlainHall_tell (P := P) T) (hr.mono (by decide)) T.b_PlainHall_tell .nil (fun σ => passX (takes_of rfl rfl rfl rfl) σ) (pa_cons (pe_ix (ki_tup (K := K) rfl) (pv 1) pe_int (fun _ _ => rfl)) (pa_nil))))) pss_nil)
      (pss_cons (ps_expr (pe_methE (pv 0) T.c_PlainHall T.mt_PlainHall_add (ok_PlainHall_add (P := P) T) (hr.mono (by decide)) T.b_PlainHall_add .nil (fun σ => passX (takes_of rfl rfl rfl rfl) σ) (pa_cons (pe_slice (ks_tup (K := K) rfl) (pv 1) (po_some pe_int) po_none) (pa_nil))))
      (pss_one (ps_ret pe_non))))), ?_⟩
    rcases h with ⟨p, dx, r, t, d, m, xs, ts, kk, j, x, rfl, hp, hr, ht, hd, hm, hj, hx, hrt, k⟩ | ⟨p, dx, r, t, d, m, xs, ts, kk, j, rfl, hp, hr, ht, hd, hm, hj, hx, k⟩ | ⟨p, dx, r, t, d, m, xs, cs, c, rfl, hp, hr, hxs, hd, h0, h1, hn, hm, k⟩ | ⟨p, dx, r, t, d, m, xs, cs, c, rfl, hp, hr, hxs, hd, h0, h1, hn, hm, hb, k⟩ | ⟨p, dx, r, t, d, m, xs, cs, c, rfl, hp, hr, hxs, hd, h0, h1, hn, hm, hb, hl, k⟩ | ⟨p, dx, r, t, m, xs, x, rfl, hp, hr, hx, k⟩
    · have n1 : ¬ (Str.ofString "tell" = Str.ofString "add") := by decide +kernel
      walk_at "rdn"
      intro H1 s1
      have hp := s1 _ _ hp
      have hr := s1 _ _ hr
      have ht1 := s1 _ _ ht
      have hd := s1 _ _ hd
      walk_at "rdn"
      exact k _ (fun b o nb e => (upd_ne nb).trans (s1 _ _ e)) upd_same
    · have n1 : ¬ (Str.ofString "tell" = Str.ofString "add") := by decide +kernel
      walk_at "rdn"
      intro H1 s1
      have hp := s1 _ _ hp
      have hr := s1 _ _ hr
      have ht1 := s1 _ _ ht
      have hd := s1 _ _ hd
      walk_at "rdn"
      intro e he
      exact k e _ (s1.trans (Same.new he)) upd_same
    · have n1 : ¬ (Str.ofString "add" = Str.ofString "tell") := by decide +kernel
      walk_at "rdn"
      intro H1 s1
      have hp := s1 _ _ hp
      have hr := s1 _ _ hr
      have hd := s1 _ _ hd
      have hxs := PairAt.all hxs s1
      walk_at "rdn"
      intro i hi
      have s2 := Same.new (o := .tup [V.int c.1, V.int c.2]) hi
      walk_at "rdn"
      refine r_PlainHall_add_1 rfl (hp := s2 _ _ hp) (hr := s2 _ _ hr) (hxs := PairAt.all hxs s2) (hi := upd_same) (hm := hm) ?_
      intro e H2 s3 he
      exact k e i H2 (s1.trans (s2.trans s3)) he (s3 _ _ upd_same)
    · have n1 : ¬ (Str.ofString "add" = Str.ofString "tell") := by decide +kernel
      walk_at "rdn"
      intro H1 s1
      have hp := s1 _ _ hp
      have hr := s1 _ _ hr
      have hd := s1 _ _ hd
      have hxs := PairAt.all hxs s1
      walk_at "rdn"
      intro i hi
      have s2 := Same.new (o := .tup [V.int c.1, V.int c.2]) hi
      walk_at "rdn"
      refine r_PlainHall_add_2 rfl (hp := s2 _ _ hp) (hr := s2 _ _ hr) (hxs := PairAt.all hxs s2) (hi := upd_same) (hm := hm) (hn := hn) (hb := hb) ?_
      intro e l a H2 s3 he hl ha nl
      exact k e l a H2 (s1.trans (s2.trans s3)) he hl ha (Same.free s1 (Same.free s2 nl))
    · have n1 : ¬ (Str.ofString "add" = Str.ofString "tell") := by decide +kernel
      walk_at "rdn"
      intro H1 s1
      have hp := s1 _ _ hp
      have hr1 := s1 _ _ hr
      have hd := s1 _ _ hd
      have hxs := PairAt.all hxs s1
      walk_at "rdn"
      intro i hi
      have s2 := Same.new (o := .tup [V.int c.1, V.int c.2]) hi
      have nri : i ≠ r := fun e => by rw [e, hr1] at hi; cases hi
      walk_at "rdn"
      refine r_PlainHall_add_3 rfl (hp := s2 _ _ hp) (hr := s2 _ _ hr1) (hxs := PairAt.all hxs s2) (hi := upd_same) (hm := hm) (hb := hb) (hl := hl) ?_
      intro H2 f3 he
      walk_at "rdn"
      exact k i H2 (fun b o nb e => f3 _ _ nb (s2 _ _ (s1 _ _ e))) he (f3 _ _ nri upd_same)
    · walk_at "rdn"
      intro H1 s1
      walk_at "rdn"
      intro e he
      exact k e _ (s1.trans (Same.new he)) upd_same
theorem ok_law_cell_at (T : Tx K mg) : FnOk P w K mg base CX0 1 T.f_law_cell_at T.d_law_cell_at ["script", "k"] (sp_law_cell_at K) := by
  refine T.F_law_cell_at.ok sc_law_cell_at (fun vs H Q E h => ?_) (fun cdv A outer s H vs Q E hr h => ?_)
  · rcases h with ⟨a, ns, n, rfl, hs, h0, hl, k⟩
    all_goals rfl
  · have hu := hu_of hr
    refine ⟨_, (pss_cons (ps_if (pt_cmpR op_lt (pv 1) (pe_callB (id := "len") (kx_len (K := K) rfl) (by rfl) T.z_len (by decide +kernel) (pa_cons (pv 0) (pa_nil))) (nomark _))
      (pss_one (ps_ret (pe_ix (ki_list (K := K) rfl) (pv 0) (pv 1) (fun _ _ => rfl)))) pss_nil)
      (pss_one (ps_ret pe_int))), ?_⟩
    rcases h with ⟨a, ns, n, rfl, hs, h0, hl, k⟩
    walk_at "rdn"
    refine q_ifx (fun hc => ?_) (fun hc => ?_)
    · obtain ⟨j, rfl⟩ := Int.eq_ofNat_of_zero_le h0
      simp only [List.length_map] at hc
      have hj : j < ns.length := by omega
      walk_at "rdn"
      exact k _
    · walk_at "rdn"
      exact k _
theorem ok_law_take (T : Tx K mg) : FnOk P w K mg base CX0 1 T.f_law_take T.d_law_take ["pool", "size"] (sp_law_take ) := by
  refine T.F_law_take.ok sc_law_take (fun vs H Q E h => ?_) (fun cdv A outer s H vs Q E hr h => ?_)
  · rcases h with ⟨p, n, m, rfl, hp, hm, hb, k⟩
    all_goals rfl
  · have hu := hu_of hr
    refine ⟨_, (pss_cons (ps_set (i := 2) sc_law_take.nd rfl (Or.inl rfl) (pe_op op_mod (pe_ix (ki_list (K := K) rfl) (pv 0) pe_int (fun _ _ => rfl)) (pv 1)))
      (pss_cons (ps_asg (pe_op op_fdivW (pe_ix (ki_list (K := K) rfl) (pv 0) pe_int (fun _ _ => rfl)) (pv 1)) (pg_sub (pv 0) pe_int set_list))
      (pss_one (ps_ret (pv 2))))), ?_⟩
    rcases h with ⟨p, n, m, rfl, hp, hm, hb, k⟩
    walk_at "rd"
    exact k
theorem ok_law_pool (T : Tx K mg) : FnOk P w K mg base CX0 1 T.f_law_pool T.d_law_pool ["cell"] (sp_law_pool ) := by
  refine T.F_law_pool.ok sc_law_pool (fun vs H Q E h => ?_) (fun cdv A outer s H vs Q E hr h => ?_)
  · rcases h with ⟨cell, rfl, k⟩
    all_goals rfl
  · have hu := hu_of hr
    refine ⟨_, (pss_cons (ps_if (pt_cmpR op_ge (pv 0) (pe_op op_pow pe_int pe_int) (nomark _))
      (pss_one (ps_ret (pe_lst (pa_cons (pv 0) (pa_nil))))) pss_nil)
      (pss_cons (ps_set (i := 1) sc_law_pool.nd rfl (Or.inl rfl) pe_int)
      (pss_cons (ps_for PassesOwn.never rfl (pi_range1 rfl T.z_range (pa_cons pe_int (pa_nil))) (pg_name (i := 2) sc_law_pool.nd rfl (Or.inl rfl))
      (pss_cons (ps_set (i := 3) sc_law_pool.nd rfl (Or.inl rfl) (pe_op op_mod (pe_op op_pow (pe_op op_add (pe_op op_add (pe_op op_mul (pe_op op_mod (pv 0) pe_int) pe_int) (pe_op op_mul pe_int (pv 2))) pe_int) pe_int) pe_int))
      (pss_one (ps_set (i := 1) sc_law_pool.nd rfl (Or.inl rfl) (pe_op op_add (pe_op op_mul (pv 1) pe_int) (pe_op op_mod (pe_op op_pow (pe_op op_add (pe_op op_mul (pv 3) pe_int) (pv 2)) pe_int) pe_int))))))
      (pss_one (ps_ret (pe_lst (pa_cons (pv 1) (pa_nil)))))))), ?_⟩
    rcases h with ⟨cell, rfl, k⟩
    walk_at "rd"
    refine q_ifx (fun hc => ?_) (fun hc => ?_)
    · walk_at "rd"
      have : (10:Int) ^ Int.toNat 18 = 1000000000000000000 := by decide
      exact k _ _ (by assumption) (by omega)
    · walk_at "rd"
      refine for_range (n := 9) (fun i σ H' => ∃ (z : Int) (a b : Option V), σ = [some (.int cell), some (.int z), a, b] ∧ 0 ≤ z ∧ H' = H) ⟨0, none, none, rfl, Int.le_refl _, rfl⟩ ?_ ?_
      · rintro i σ H' hi ⟨z, a, b, rfl, hz, rfl⟩
        walk_at "rd"
        exact ⟨_, _, _, rfl, by omega, rfl⟩
      · rintro σ H' ⟨z, a, b, rfl, hz, rfl⟩
        walk_at "rd"
        exact k _ _ (by assumption) hz
theorem ok_law_did (T : Tx K mg) : FnOk P w K mg base CX0 8 T.f_law_did T.d_law_did ["plain", "deed"] (sp_law_did K T.C_PlainHall) := by
  refine T.F_law_did.ok sc_law_did (fun vs H Q E h => ?_) (fun cdv A outer s H vs Q E hr h => ?_)
  · rcases h with ⟨p, dx, r, t, d, m, xs, cs, ts, g, rfl, hp, hr, ht, hxs, hrt, hd, hg, hs, k⟩ | ⟨p, dx, r, t, m, xs, x, rfl, hp, hr, hx, hnl, k⟩
    all_goals rfl
  · have hu := hu_of hr
    refine ⟨_, (pss_cons (ps_tryX rfl rfl sc_law_did.nd takes0 (fun W pn xe tk po => (pss_one (ps_set (i := 2) sc_law_did.nd rfl (Or.inl rfl) (pe_methE (pv 0) T.c_PlainHall T.mt_PlainHall_do (ok_PlainHall_do (P := P) T) (hr.mono (by decide)) T.b_PlainHall_do .nil (fun σ => passX tk σ) (pa_cons (pv 1) (pa_nil))))))
      (.named (i := 3) (TK.three (show Names _ "Known" (.ref T.C_Known) from ⟨rfl, by decide, .inl T.g_Known⟩) (show Names _ "Lacks" (.ref T.C_Lacks) from ⟨rfl, by decide, .inl T.g_Lacks⟩) (show Names _ "AllTold" (.ref T.C_AllTold) from ⟨rfl, by decide, .inl T.g_AllTold⟩)) rfl rfl (fun a oe cls d pn hz hf => (pss_cons (ps_set (i := 4) sc_law_did.nd rfl (Or.inl rfl) (pe_op op_cat (pe_op op_rep (pe_lst (pa_cons pe_str (pa_nil))) (pe_callTy (T := "int") call_int1 (by rfl) T.z_int (by decide +kernel) (pa_cons (pe_callB (id := "isinstance") (call_isX hz hf rfl) (by rfl) T.z_isinstance (by decide +kernel) (pa_cons (pv 3) (pa_cons (pe_glob (v := .ref T.C_Known) rfl T.g_Known rfl) (pa_nil)))) (pa_nil)))) (pe_op op_rep (pe_lst (pa_cons pe_str (pa_nil))) (pe_callTy (T := "int") call_int1 (by rfl) T.z_int (by decide +kernel) (pa_cons (pe_callB (id := "isinstance") (call_isX hz hf rfl) (by rfl) T.z_isinstance (by decide +kernel) (pa_cons (pv 3) (pa_cons (pe_glob (v := .ref T.C_Lacks) rfl T.g_Lacks rfl) (pa_nil)))) (pa_nil))))))
      (pss_cons (ps_set (i := 4) sc_law_did.nd rfl (Or.inl rfl) (pe_op op_cat (pe_op op_cat (pv 4) (pe_op op_rep (pe_lst (pa_cons pe_str (pa_nil))) (pe_callTy (T := "int") call_int1 (by rfl) T.z_int (by decide +kernel) (pa_cons (pe_callB (id := "isinstance") (call_isX hz hf rfl) (by rfl) T.z_isinstance (by decide +kernel) (pa_cons (pv 3) (pa_cons (pe_glob (v := .ref T.C_AllTold) rfl T.g_AllTold rfl) (pa_nil)))) (pa_nil))))) (pe_op op_rep (pe_lst (pa_cons pe_str (pa_nil))) (pe_callTy (T := "int") call_int1 (by rfl) T.z_int (by decide +kernel) (pa_cons (pe_callB (id := "isinstance") (call_isX hz hf rfl) (by rfl) T.z_isinstance (by decide +kernel) (pa_cons (pv 3) (pa_cons (pe_glob (v := .ref T.C_Barred) rfl T.g_Barred rfl) (pa_nil)))) (pa_nil))))))
      (pss_cons (ps_if (pt_not (pt_val (pe_callB (id := "isinstance") (kx_isi (K := K) rfl) (by rfl) T.z_isinstance (by decide +kernel) (pa_cons (pe_xg rfl hz hf (pv 3)) (pa_cons (pe_bltn (v := .ty "list") (u := .type "list") (by rfl) T.z_list (by decide +kernel) rfl) (pa_nil))))))
      (pss_one (ps_ret (pe_tup (pa_cons (pv 4) (pa_cons (pe_xg rfl hz hf (pv 3)) (pa_nil)))))) pss_nil)
      (pss_cons (ps_set (i := 5) sc_law_did.nd rfl (Or.inl rfl) (pe_callTy (T := "list") (kx_list (K := K) rfl) (by rfl) T.z_list (by decide +kernel) (pa_cons (pe_xg rfl hz hf (pv 3)) (pa_nil))))
      (pss_cons (ps_expr (kbm (K := K) rfl (pe_bm PySem.F.plainAttrs_list PySem.F.slot_list_append PySem.F.type_list_append mt_append (pe_xg rfl hz hf (pv 3)) (pa_cons pe_str (pa_nil)))))
      (pss_one (ps_ret (pe_tup (pa_cons (pv 4) (pa_cons (pv 5) (pa_nil)))))))))))) (.named (i := 3) (TK.one (show Names _ "NoDeed" (.ref T.C_NoDeed) from ⟨rfl, by decide, .inl T.g_NoDeed⟩)) rfl rfl (fun a oe cls d pn hz hf => (pss_one (ps_ret (pe_tup (pa_cons (pe_op op_cat (pe_lst (pa_cons pe_str (pa_nil))) (pe_op op_rep (pe_lst (pa_cons pe_str (pa_nil))) (pe_callTy (T := "int") call_int1 (by rfl) T.z_int (by decide +kernel) (pa_cons (pe_callB (id := "isinstance") (call_isX hz hf rfl) (by rfl) T.z_isinstance (by decide +kernel) (pa_cons (pv 3) (pa_cons (pe_glob (v := .ref T.C_HallError) rfl T.g_HallError rfl) (pa_nil)))) (pa_nil))))) (pa_cons (pe_xg rfl hz hf (pv 3)) (pa_nil))))))) .nil)))
      (pss_one (ps_ret (pe_tup (pa_cons (pe_lst (pa_cons pe_str (pa_nil))) (pa_cons (pv 2) (pa_nil))))))), ?_⟩
    rcases h with ⟨p, dx, r, t, d, m, xs, cs, ts, g, rfl, hp, hr, ht, hxs, hrt, hd, hg, hs, k⟩ | ⟨p, dx, r, t, m, xs, x, rfl, hp, hr, hx, hnl, k⟩
    · have hpr : p ≠ r := fun e => by rw [e, hr] at hp; cases hp
      have hpt : p ≠ t := fun e => by rw [e, ht] at hp; cases hp
      cases g with
      | inl j =>
        obtain ⟨hl, hj, hc⟩ := hs
        have hjl : j < ts.length := by
          have h : (j : Int) ≤ m - 1 := hg
          omega
        have hjt : ts[j]? = some (ts.getD j 0) := by rw [List.getD_eq_getElem?_getD, List.getElem?_eq_getElem hjl]; rfl
        obtain ⟨h0, h1⟩ := hj _ (List.mem_of_getElem? hjt)
        obtain ⟨at_, hat⟩ := Int.eq_ofNat_of_zero_le h0
        have hlen := hxs.len
        by_cases e : ts.getD j 0 = cs.length
        · rw [stepP_all e] at k
          walk_at "rdn"
          refine r_PlainHall_do_2 rfl (hp := hp) (hr := hr) (ht := ht) (hd := hd) (hm := hg) (j := at_) (hj := by rw [hjt, hat]) (hx := by omega) ?_
          intro e1 H1 s1 h1
          clear hd hj hc
          walk_at "rdn"
          intro a ha
          walk_at "rdn"
          intro l1 hl1
          have s101 : Same H1 (upd H1 l1 (.lst [.str (Str.ofString "known")])) := Same.new hl1
          have e101 : upd H1 l1 (.lst [.str (Str.ofString "known")]) l1 = some (.lst [.str (Str.ofString "known")]) := upd_same
          generalize upd H1 l1 (.lst [.str (Str.ofString "known")]) = G101 at s101 e101 ⊢
          clear hl1
          walk_at "rdn"
          intro r1 hr1
          have s102 : Same G101 (upd G101 r1 (.lst [])) := Same.new hr1
          have e102 : upd G101 r1 (.lst []) r1 = some (.lst []) := upd_same
          generalize upd G101 r1 (.lst []) = G102 at s102 e102 ⊢
          clear hr1
          walk_at "rdn"
          intro l2 hl2
          have s103 : Same G102 (upd G102 l2 (.lst [.str (Str.ofString "lacks")])) := Same.new hl2
          have e103 : upd G102 l2 (.lst [.str (Str.ofString "lacks")]) l2 = some (.lst [.str (Str.ofString "lacks")]) := upd_same
          generalize upd G102 l2 (.lst [.str (Str.ofString "lacks")]) = G103 at s103 e103 ⊢
          clear hl2
          walk_at "rdn"
          intro r2 hr2
          have s104 : Same G103 (upd G103 r2 (.lst [])) := Same.new hr2
          have e104 : upd G103 r2 (.lst []) r2 = some (.lst []) := upd_same
          generalize upd G103 r2 (.lst []) = G104 at s104 e104 ⊢
          clear hr2
          walk_at "rdn"
          intro c1 hc1
          have s105 : Same G104 (upd G104 c1 (.lst ([] ++ []))) := Same.new hc1
          have e105 : upd G104 c1 (.lst ([] ++ [])) c1 = some (.lst ([] ++ [])) := upd_same
          generalize upd G104 c1 (.lst ([] ++ [])) = G105 at s105 e105 ⊢
          clear hc1
          walk_at "rdn"
          intro l3 hl3
          have s106 : Same G105 (upd G105 l3 (.lst [.str (Str.ofString "all told")])) := Same.new hl3
          have e106 : upd G105 l3 (.lst [.str (Str.ofString "all told")]) l3 = some (.lst [.str (Str.ofString "all told")]) := upd_same
          generalize upd G105 l3 (.lst [.str (Str.ofString "all told")]) = G106 at s106 e106 ⊢
          clear hl3
          walk_at "rdn"
          intro r3 hr3
          have s107 : Same G106 (upd G106 r3 (.lst [.str (Str.ofString "all told")])) := Same.new hr3
          have e107 : upd G106 r3 (.lst [.str (Str.ofString "all told")]) r3 = some (.lst [.str (Str.ofString "all told")]) := upd_same
          generalize upd G106 r3 (.lst [.str (Str.ofString "all told")]) = G107 at s107 e107 ⊢
          clear hr3
          walk_at "rdn"
          intro c2 hc2
          have s108 : Same G107 (upd G107 c2 (.lst ([] ++ [] ++ [.str (Str.ofString "all told")]))) := Same.new hc2
          have e108 : upd G107 c2 (.lst ([] ++ [] ++ [.str (Str.ofString "all told")])) c2 = some (.lst ([] ++ [] ++ [.str (Str.ofString "all told")])) := upd_same
          generalize upd G107 c2 (.lst ([] ++ [] ++ [.str (Str.ofString "all told")])) = G108 at s108 e108 ⊢
          clear hc2
          walk_at "rdn"
          intro l4 hl4
          have s109 : Same G108 (upd G108 l4 (.lst [.str (Str.ofString "family")])) := Same.new hl4
          have e109 : upd G108 l4 (.lst [.str (Str.ofString "family")]) l4 = some (.lst [.str (Str.ofString "family")]) := upd_same
          generalize upd G108 l4 (.lst [.str (Str.ofString "family")]) = G109 at s109 e109 ⊢
          clear hl4
          walk_at "rdn"
          intro r4 hr4
          have s110 : Same G109 (upd G109 r4 (.lst [.str (Str.ofString "family")])) := Same.new hr4
          have e110 : upd G109 r4 (.lst [.str (Str.ofString "family")]) r4 = some (.lst [.str (Str.ofString "family")]) := upd_same
          generalize upd G109 r4 (.lst [.str (Str.ofString "family")]) = G110 at s110 e110 ⊢
          clear hr4
          walk_at "rdn"
          intro c3 hc3
          have s111 : Same G110 (upd G110 c3 (.lst ([] ++ [] ++ [.str (Str.ofString "all told")] ++ [.str (Str.ofString "family")]))) := Same.new hc3
          have e111 : upd G110 c3 (.lst ([] ++ [] ++ [.str (Str.ofString "all told")] ++ [.str (Str.ofString "family")])) c3 = some (.lst ([] ++ [] ++ [.str (Str.ofString "all told")] ++ [.str (Str.ofString "family")])) := upd_same
          generalize upd G110 c3 (.lst ([] ++ [] ++ [.str (Str.ofString "all told")] ++ [.str (Str.ofString "family")])) = G111 at s111 e111 ⊢
          clear hc3
          walk_at "rdn"
          have S1 : Same H1 G111 := ((((((((((s101.trans s102).trans s103).trans s104).trans s105).trans s106).trans s107).trans s108).trans s109).trans s110).trans s111)
          intro u hu
          have s2 : Same G111 (upd G111 u (.tup [.ref c3, .int j])) := Same.new hu
          have S := (s1.trans S1).trans s2
          exact k u c3 (.int j) xs _ (fun b o _ _ e => S _ _ e) (S _ _ hr) (PairAt.all hxs S) (S _ _ ht) upd_same (show _ = some (HO.lst [V.str (Str.ofString "all told"), V.str (Str.ofString "family")]) from s2 _ _ e111) (.int _)
        · rw [stepP_told e] at k
          have hal : at_ < cs.length := by omega
          obtain ⟨x, hx⟩ : ∃ x, xs[at_]? = some x := ⟨_, List.getElem?_eq_getElem (by omega)⟩
          walk_at "rdn"
          refine r_PlainHall_do_1 rfl (hp := hp) (hr := hr) (ht := ht) (hd := hd) (hm := hg) (j := at_) (hj := by rw [hjt, hat]) (hx := hx) (hrt := hrt) ?_
          intro H1 f1 h1
          walk_at "rdn"
          intro w hw
          walk_at "rdn"
          intro u hu
          have s2 : Same H1 (upd (upd H1 w (.lst [.str (Str.ofString "told")])) u (.tup [.ref w, x])) := (Same.new hw).trans (Same.new hu)
          obtain ⟨c, hca, hP⟩ := hxs.get hx
          have hxs1 : All2 (PairAt H1) xs cs := hxs.mono fun y c z => by
            obtain ⟨q, e, h⟩ := z
            exact ⟨q, e, f1 _ _ (fun z => by rw [z, ht] at h; cases h) h⟩
          have hxs2 := PairAt.all hxs1 s2
          obtain ⟨c', hca', q, rfl, hq⟩ := hxs2.get hx
          have ec : cs.getD (ts.getD j 0).toNat (0, 0) = c' := by
            rw [hat, Int.toNat_natCast, List.getD_eq_getElem?_getD, hca']
            rfl
          refine k u w _ xs _ (fun b o n1 n2 e => s2 _ _ (f1 _ _ n2 e)) (s2 _ _ (f1 _ _ hrt hr)) hxs2 (s2 _ _ (by rw [hat]; exact h1)) upd_same (show _ = some (HO.lst [V.str (Str.ofString "told")]) from by walk_at "lk") ?_
          rw [ec]
          exact .tup (SqT.of hq) (.cons (.int _) (.cons (.int _) .nil))
      | inr c =>
        obtain ⟨g0, g1, g2⟩ := hg
        by_cases e : c ∈ cs
        · rw [stepP_known e] at k
          walk_at "rdn"
          intro e1 i H1 s1 h1 h2
          clear hd
          walk_at "rdn"
          intro a ha
          walk_at "rdn"
          intro l1 hl1
          have s101 : Same H1 (upd H1 l1 (.lst [.str (Str.ofString "known")])) := Same.new hl1
          have e101 : upd H1 l1 (.lst [.str (Str.ofString "known")]) l1 = some (.lst [.str (Str.ofString "known")]) := upd_same
          generalize upd H1 l1 (.lst [.str (Str.ofString "known")]) = G101 at s101 e101 ⊢
          clear hl1
          walk_at "rdn"
          intro r1 hr1
          have s102 : Same G101 (upd G101 r1 (.lst [.str (Str.ofString "known")])) := Same.new hr1
          have e102 : upd G101 r1 (.lst [.str (Str.ofString "known")]) r1 = some (.lst [.str (Str.ofString "known")]) := upd_same
          generalize upd G101 r1 (.lst [.str (Str.ofString "known")]) = G102 at s102 e102 ⊢
          clear hr1
          walk_at "rdn"
          intro l2 hl2
          have s103 : Same G102 (upd G102 l2 (.lst [.str (Str.ofString "lacks")])) := Same.new hl2
          have e103 : upd G102 l2 (.lst [.str (Str.ofString "lacks")]) l2 = some (.lst [.str (Str.ofString "lacks")]) := upd_same
          generalize upd G102 l2 (.lst [.str (Str.ofString "lacks")]) = G103 at s103 e103 ⊢
          clear hl2
          walk_at "rdn"
          intro r2 hr2
          have s104 : Same G103 (upd G103 r2 (.lst [])) := Same.new hr2
          have e104 : upd G103 r2 (.lst []) r2 = some (.lst []) := upd_same
          generalize upd G103 r2 (.lst []) = G104 at s104 e104 ⊢
          clear hr2
          walk_at "rdn"
          intro c1 hc1
          have s105 : Same G104 (upd G104 c1 (.lst ([.str (Str.ofString "known")] ++ []))) := Same.new hc1
          have e105 : upd G104 c1 (.lst ([.str (Str.ofString "known")] ++ [])) c1 = some (.lst ([.str (Str.ofString "known")] ++ [])) := upd_same
          generalize upd G104 c1 (.lst ([.str (Str.ofString "known")] ++ [])) = G105 at s105 e105 ⊢
          clear hc1
          walk_at "rdn"
          intro l3 hl3
          have s106 : Same G105 (upd G105 l3 (.lst [.str (Str.ofString "all told")])) := Same.new hl3
          have e106 : upd G105 l3 (.lst [.str (Str.ofString "all told")]) l3 = some (.lst [.str (Str.ofString "all told")]) := upd_same
          generalize upd G105 l3 (.lst [.str (Str.ofString "all told")]) = G106 at s106 e106 ⊢
          clear hl3
          walk_at "rdn"
          intro r3 hr3
          have s107 : Same G106 (upd G106 r3 (.lst [])) := Same.new hr3
          have e107 : upd G106 r3 (.lst []) r3 = some (.lst []) := upd_same
          generalize upd G106 r3 (.lst []) = G107 at s107 e107 ⊢
          clear hr3
          walk_at "rdn"
          intro c2 hc2
          have s108 : Same G107 (upd G107 c2 (.lst ([.str (Str.ofString "known")] ++ [] ++ []))) := Same.new hc2
          have e108 : upd G107 c2 (.lst ([.str (Str.ofString "known")] ++ [] ++ [])) c2 = some (.lst ([.str (Str.ofString "known")] ++ [] ++ [])) := upd_same
          generalize upd G107 c2 (.lst ([.str (Str.ofString "known")] ++ [] ++ [])) = G108 at s108 e108 ⊢
          clear hc2
          walk_at "rdn"
          intro l4 hl4
          have s109 : Same G108 (upd G108 l4 (.lst [.str (Str.ofString "family")])) := Same.new hl4
          have e109 : upd G108 l4 (.lst [.str (Str.ofString "family")]) l4 = some (.lst [.str (Str.ofString "family")]) := upd_same
          generalize upd G108 l4 (.lst [.str (Str.ofString "family")]) = G109 at s109 e109 ⊢
          clear hl4
          walk_at "rdn"
          intro r4 hr4
          have s110 : Same G109 (upd G109 r4 (.lst [.str (Str.ofString "family")])) := Same.new hr4
          have e110 : upd G109 r4 (.lst [.str (Str.ofString "family")]) r4 = some (.lst [.str (Str.ofString "family")]) := upd_same
          generalize upd G109 r4 (.lst [.str (Str.ofString "family")]) = G110 at s110 e110 ⊢
          clear hr4
          walk_at "rdn"
          intro c3 hc3
          have s111 : Same G110 (upd G110 c3 (.lst ([.str (Str.ofString "known")] ++ [] ++ [] ++ [.str (Str.ofString "family")]))) := Same.new hc3
          have e111 : upd G110 c3 (.lst ([.str (Str.ofString "known")] ++ [] ++ [] ++ [.str (Str.ofString "family")])) c3 = some (.lst ([.str (Str.ofString "known")] ++ [] ++ [] ++ [.str (Str.ofString "family")])) := upd_same
          generalize upd G110 c3 (.lst ([.str (Str.ofString "known")] ++ [] ++ [] ++ [.str (Str.ofString "family")])) = G111 at s111 e111 ⊢
          clear hc3
          walk_at "rdn"
          have S1 : Same H1 G111 := ((((((((((s101.trans s102).trans s103).trans s104).trans s105).trans s106).trans s107).trans s108).trans s109).trans s110).trans s111)
          intro u hu
          have s2 : Same G111 (upd G111 u (.tup [.ref c3, .ref i])) := Same.new hu
          have S := (s1.trans S1).trans s2
          exact k u c3 (.ref i) xs _ (fun b o _ _ e => S _ _ e) (S _ _ hr) (PairAt.all hxs S) (S _ _ ht) upd_same (show _ = some (HO.lst [V.str (Str.ofString "known"), V.str (Str.ofString "family")]) from s2 _ _ e111) (.tup (SqT.of (s2 _ _ (S1 _ _ h2))) (.cons (.int _) (.cons (.int _) .nil)))
        · by_cases e2 : 1 < c.2 ∧ (c.1, c.2 - 1) ∉ cs
          · rw [stepP_lacks e e2] at k
            walk_at "rdn"
            refine r_PlainHall_do_4 rfl (hp := hp) (hr := hr) (hxs := hxs) (hd := hd) (h0 := g0) (h1 := g1) (hn := e2.1) (hm := e) (hb := e2.2) ?_
            intro e1 l i H1 s1 h1 h2 h3 h4
            clear hd
            walk_at "rdn"
            intro a ha
            walk_at "rdn"
            intro l1 hl1
            have s101 : Same H1 (upd H1 l1 (.lst [.str (Str.ofString "known")])) := Same.new hl1
            have e101 : upd H1 l1 (.lst [.str (Str.ofString "known")]) l1 = some (.lst [.str (Str.ofString "known")]) := upd_same
            generalize upd H1 l1 (.lst [.str (Str.ofString "known")]) = G101 at s101 e101 ⊢
            clear hl1
            walk_at "rdn"
            intro r1 hr1
            have s102 : Same G101 (upd G101 r1 (.lst [])) := Same.new hr1
            have e102 : upd G101 r1 (.lst []) r1 = some (.lst []) := upd_same
            generalize upd G101 r1 (.lst []) = G102 at s102 e102 ⊢
            clear hr1
            walk_at "rdn"
            intro l2 hl2
            have s103 : Same G102 (upd G102 l2 (.lst [.str (Str.ofString "lacks")])) := Same.new hl2
            have e103 : upd G102 l2 (.lst [.str (Str.ofString "lacks")]) l2 = some (.lst [.str (Str.ofString "lacks")]) := upd_same
            generalize upd G102 l2 (.lst [.str (Str.ofString "lacks")]) = G103 at s103 e103 ⊢
            clear hl2
            walk_at "rdn"
            intro r2 hr2
            have s104 : Same G103 (upd G103 r2 (.lst [.str (Str.ofString "lacks")])) := Same.new hr2
            have e104 : upd G103 r2 (.lst [.str (Str.ofString "lacks")]) r2 = some (.lst [.str (Str.ofString "lacks")]) := upd_same
            generalize upd G103 r2 (.lst [.str (Str.ofString "lacks")]) = G104 at s104 e104 ⊢
            clear hr2
            walk_at "rdn"
            intro c1 hc1
            have s105 : Same G104 (upd G104 c1 (.lst ([] ++ [.str (Str.ofString "lacks")]))) := Same.new hc1
            have e105 : upd G104 c1 (.lst ([] ++ [.str (Str.ofString "lacks")])) c1 = some (.lst ([] ++ [.str (Str.ofString "lacks")])) := upd_same
            generalize upd G104 c1 (.lst ([] ++ [.str (Str.ofString "lacks")])) = G105 at s105 e105 ⊢
            clear hc1
            walk_at "rdn"
            intro l3 hl3
            have s106 : Same G105 (upd G105 l3 (.lst [.str (Str.ofString "all told")])) := Same.new hl3
            have e106 : upd G105 l3 (.lst [.str (Str.ofString "all told")]) l3 = some (.lst [.str (Str.ofString "all told")]) := upd_same
            generalize upd G105 l3 (.lst [.str (Str.ofString "all told")]) = G106 at s106 e106 ⊢
            clear hl3
            walk_at "rdn"
            intro r3 hr3
            have s107 : Same G106 (upd G106 r3 (.lst [])) := Same.new hr3
            have e107 : upd G106 r3 (.lst []) r3 = some (.lst []) := upd_same
            generalize upd G106 r3 (.lst []) = G107 at s107 e107 ⊢
            clear hr3
            walk_at "rdn"
            intro c2 hc2
            have s108 : Same G107 (upd G107 c2 (.lst ([] ++ [.str (Str.ofString "lacks")] ++ []))) := Same.new hc2
            have e108 : upd G107 c2 (.lst ([] ++ [.str (Str.ofString "lacks")] ++ [])) c2 = some (.lst ([] ++ [.str (Str.ofString "lacks")] ++ [])) := upd_same
            generalize upd G107 c2 (.lst ([] ++ [.str (Str.ofString "lacks")] ++ [])) = G108 at s108 e108 ⊢
            clear hc2
            walk_at "rdn"
            intro l4 hl4
            have s109 : Same G108 (upd G108 l4 (.lst [.str (Str.ofString "family")])) := Same.new hl4
            have e109 : upd G108 l4 (.lst [.str (Str.ofString "family")]) l4 = some (.lst [.str (Str.ofString "family")]) := upd_same
            generalize upd G108 l4 (.lst [.str (Str.ofString "family")]) = G109 at s109 e109 ⊢
            clear hl4
            walk_at "rdn"
            intro r4 hr4
            have s110 : Same G109 (upd G109 r4 (.lst [.str (Str.ofString "family")])) := Same.new hr4
            have e110 : upd G109 r4 (.lst [.str (Str.ofString "family")]) r4 = some (.lst [.str (Str.ofString "family")]) := upd_same
            generalize upd G109 r4 (.lst [.str (Str.ofString "family")]) = G110 at s110 e110 ⊢
            clear hr4
            walk_at "rdn"
            intro c3 hc3
            have s111 : Same G110 (upd G110 c3 (.lst ([] ++ [.str (Str.ofString "lacks")] ++ [] ++ [.str (Str.ofString "family")]))) := Same.new hc3
            have e111 : upd G110 c3 (.lst ([] ++ [.str (Str.ofString "lacks")] ++ [] ++ [.str (Str.ofString "family")])) c3 = some (.lst ([] ++ [.str (Str.ofString "lacks")] ++ [] ++ [.str (Str.ofString "family")])) := upd_same
            generalize upd G110 c3 (.lst ([] ++ [.str (Str.ofString "lacks")] ++ [] ++ [.str (Str.ofString "family")])) = G111 at s111 e111 ⊢
            clear hc3
            walk_at "rdn"
            have S1 : Same H1 G111 := ((((((((((s101.trans s102).trans s103).trans s104).trans s105).trans s106).trans s107).trans s108).trans s109).trans s110).trans s111)
            have hl5' := (S1 _ _ h2)
            intro l5 hl5
            have n5 : l5 ≠ l := fun e => by rw [e, hl5'] at hl5; cases hl5
            have s112 : Same G111 (upd G111 l5 (.lst [.ref i])) := Same.new hl5
            have e112 : upd G111 l5 (.lst [.ref i]) l5 = some (.lst [.ref i]) := upd_same
            generalize upd G111 l5 (.lst [.ref i]) = G112 at s112 e112 ⊢
            clear hl5
            have h5 := s112 _ _ hl5'
            have nc : c3 ≠ l := fun e => by
              rw [e, hl5'] at e111
              have := congrArg (fun x : Option HO => match x with | some (.lst q) => q.length | _ => 0) e111
              simp at this
            have ni : i ≠ l := fun e => by rw [e, h2] at h3; cases h3
            have h6 := s112 _ _ (S1 _ _ h3)
            have e7 := s112 _ _ e111
            have S2 : Same H G112 := (s1.trans S1).trans s112
            have h7 : G112 e1 = some (.xd [("found", .ref l)]) := s112 _ _ (S1 _ _ h1)
            have S3 : Same H (upd G112 l (.lst [.ref i, .str "spoilt"])) := fun b o eb => by
              have nb : b ≠ l := fun z => by rw [z, h4] at eb; cases eb
              rw [upd_ne nb]
              exact S2 _ _ eb
            clear s101 s102 s103 s104 s105 s106 s107 s108 s109 s110 s111 e101 e102 e103 e104 e105 e106 e107 e108 e109 e110
            walk_at "rdn"
            intro u hu
            have S4 := S3.trans (Same.new (o := .tup [.ref c3, .ref l5]) hu)
            have nu1 : l5 ≠ u := fun e => by rw [← e, upd_ne n5, e112] at hu; cases hu
            have nu2 : c3 ≠ u := fun e => by rw [← e, upd_ne nc, e7] at hu; cases hu
            have nu3 : i ≠ u := fun e => by rw [← e, upd_ne ni, h6] at hu; cases hu
            refine k u c3 (.ref l5) xs _ (fun b o _ _ e => S4 _ _ e) (S4 _ _ hr) (PairAt.all hxs S4) (S4 _ _ ht) upd_same ?_ ?_
            · rw [upd_ne nu2, upd_ne nc, e7]
              rfl
            · exact .lst (SqL.of (by rw [upd_ne nu1, upd_ne n5, e112])) (.cons (.tup (SqT.of (by rw [upd_ne nu3, upd_ne ni, h6])) (.cons (.int _) (.cons (.int _) .nil))) .nil)
          · rw [stepP_add e e2] at k
            walk_at "rdn"
            refine r_PlainHall_do_5 rfl (hp := hp) (hr := hr) (hxs := hxs) (hd := hd) (h0 := g0) (h1 := g1) (hn := g2) (hm := e) (hb := e2) (hl := by have := hxs.len; have := hs.2.2; omega) ?_
            intro i H1 f1 h1 h2
            walk_at "rdn"
            intro w hw
            walk_at "rdn"
            intro u hu
            have s2 : Same H1 (upd (upd H1 w (.lst [.str (Str.ofString "told")])) u (.tup [.ref w, .non])) := (Same.new hw).trans (Same.new hu)
            have hxs1 : All2 (PairAt H1) xs cs := hxs.mono fun y c z => by
              obtain ⟨q, e, h⟩ := z
              exact ⟨q, e, f1 _ _ (fun z => by rw [z, hr] at h; cases h) h⟩
            exact k u w _ (xs ++ [.ref i]) _ (fun b o n1 n2 e => s2 _ _ (f1 _ _ n1 e)) (s2 _ _ h1) (PairAt.all (hxs1.snoc ⟨i, rfl, h2⟩) s2) (s2 _ _ (f1 _ _ hrt.symm ht)) upd_same (show _ = some (HO.lst [V.str (Str.ofString "told")]) from by walk_at "lk") .non
    · obtain ⟨ty, h1, b, h2⟩ := hnl
      walk_at "rdn"
      intro e1 H1 s1 h3
      have h4 := h1.mono s1
      walk_at "rd"
      exact k _ _ _ (by walk_at "sm") upd_same (show _ = some (HO.lst [V.str (Str.ofString "no deed"), V.str (Str.ofString "family")]) from by walk_at "lk")
theorem ok_law_due (T : Tx K mg) : FnOk P w K mg base CX0 1 T.f_law_due T.d_law_due ["state", "deed"] (sp_law_due K) := by
  refine T.F_law_due.ok sc_law_due (fun vs H Q E h => ?_) (fun cdv A outer s H vs Q E hr h => ?_)
  · rcases h with ⟨s, ra, ta, d, m, ys, cs, ts, g, rfl, hs, hra, hta, hys, hrat, hd, hg, hgs, k⟩
    all_goals rfl
  · have hu := hu_of hr
    refine ⟨_, (pss_cons (ps_if (pt_cmpR op_eq (pe_ix (ki_tup (K := K) rfl) (pv 1) pe_int (fun _ _ => rfl)) pe_str (nomark _))
      (pss_cons (ps_set (i := 2) sc_law_due.nd rfl (Or.inl rfl) (pe_ix (ki_list (K := K) rfl) (pe_dget (room1 hr) (pv 0) pe_str (fun _ _ => rfl)) (pe_ix (ki_tup (K := K) rfl) (pv 1) pe_int (fun _ _ => rfl)) (fun _ _ => rfl)))
      (pss_cons (ps_if (pt_cmpR op_eq (pv 2) (pe_callB (id := "len") (kx_len (K := K) rfl) (by rfl) T.z_len (by decide +kernel) (pa_cons (pe_dget (room1 hr) (pv 0) pe_str (fun _ _ => rfl)) (pa_nil))) (nomark _))
      (pss_one (ps_ret (pe_tup (pa_cons (pe_lst (pa_cons pe_str (pa_cons pe_str (pa_nil)))) (pa_cons (pe_ix (ki_tup (K := K) rfl) (pv 1) pe_int (fun _ _ => rfl)) (pa_nil)))))) pss_nil)
      (pss_cons (ps_asg (pe_op op_add (pv 2) pe_int) (pg_sub (pe_dget (room1 hr) (pv 0) pe_str (fun _ _ => rfl)) (pe_ix (ki_tup (K := K) rfl) (pv 1) pe_int (fun _ _ => rfl)) set_list))
      (pss_one (ps_ret (pe_tup (pa_cons (pe_lst (pa_cons pe_str (pa_nil))) (pa_cons (pe_ix (ki_list (K := K) rfl) (pe_dget (room1 hr) (pv 0) pe_str (fun _ _ => rfl)) (pv 2) (fun _ _ => rfl)) (pa_nil))))))))) pss_nil)
      (pss_cons (ps_set (i := 3) sc_law_due.nd rfl (Or.inl rfl) (pe_slice (ks_tup (K := K) rfl) (pv 1) (po_some pe_int) po_none))
      (pss_cons (ps_if (pt_cmpR (ko_inD (K := K) rfl (room65 hr)) (pv 3) (pe_dget (room1 hr) (pv 0) pe_str (fun _ _ => rfl)) rfl)
      (pss_one (ps_ret (pe_tup (pa_cons (pe_lst (pa_cons pe_str (pa_cons pe_str (pa_nil)))) (pa_cons (pv 3) (pa_nil)))))) pss_nil)
      (pss_cons (ps_if (PW.pt (pw_and (pt_cmpR op_gt (pe_ix (ki_tup (K := K) rfl) (pv 3) pe_int (fun _ _ => rfl)) pe_int (nomark _)) (pw_and1 (pt_cmpR (ko_notInD (K := K) rfl (room65 hr)) (pe_tup (pa_cons (pe_ix (ki_tup (K := K) rfl) (pv 3) pe_int (fun _ _ => rfl)) (pa_cons (pe_op op_sub (pe_ix (ki_tup (K := K) rfl) (pv 3) pe_int (fun _ _ => rfl)) pe_int) (pa_nil)))) (pe_dget (room1 hr) (pv 0) pe_str (fun _ _ => rfl)) rfl))))
      (pss_one (ps_ret (pe_tup (pa_cons (pe_lst (pa_cons pe_str (pa_cons pe_str (pa_nil)))) (pa_cons (pe_lst (pa_cons (pe_tup (pa_cons (pe_ix (ki_tup (K := K) rfl) (pv 3) pe_int (fun _ _ => rfl)) (pa_cons (pe_op op_sub (pe_ix (ki_tup (K := K) rfl) (pv 3) pe_int (fun _ _ => rfl)) pe_int) (pa_nil)))) (pa_nil))) (pa_nil)))))) pss_nil)
      (pss_cons (ps_expr (pe_bm PySem.F.plainAttrs_list PySem.F.slot_list_append PySem.F.type_list_append mt_append (pe_dget (room1 hr) (pv 0) pe_str (fun _ _ => rfl)) (pa_cons (pv 3) (pa_nil))))
      (pss_one (ps_ret (pe_tup (pa_cons (pe_lst (pa_cons pe_str (pa_nil))) (pa_cons pe_non (pa_nil))))))))))), ?_⟩
    rcases h with ⟨s, ra, ta, d, m, ys, cs, ts, g, rfl, hs, hra, hta, hys, hrat, hd, hg, hgs, k⟩
    cases g with
    | inl j =>
      obtain ⟨hl, hj, hc⟩ := hgs
      have hjl : j < ts.length := by
        have h : (j : Int) ≤ m - 1 := hg
        omega
      have hjt : ts[j]? = some (ts.getD j 0) := by rw [List.getD_eq_getElem?_getD, List.getElem?_eq_getElem hjl]; rfl
      obtain ⟨h0, h1⟩ := hj _ (List.mem_of_getElem? hjt)
      obtain ⟨at_, hat⟩ := Int.eq_ofNat_of_zero_le h0
      have hlen := hys.len
      have hd' : H d = some (.tup [.str "tell", .int (j : Nat)]) := hd
      rw [hat] at hjt
      by_cases e : ts.getD j 0 = cs.length
      · rw [stepP_all e] at k
        have e' : (at_ : Int) = ys.length := by omega
        walk_at "rdn"
        intro w hw
        have s1 : Same H (upd H w (.lst [.str "all told", .str "family"])) := Same.new hw
        have e1 : upd H w (.lst [.str "all told", .str "family"]) w = some (.lst [.str "all told", .str "family"]) := upd_same
        generalize upd H w (.lst [.str "all told", .str "family"]) = G1 at s1 e1 ⊢
        have hd1 := s1 _ _ hd'
        walk_at "rdn"
        intro u hu
        have s2 : Same G1 (upd G1 u (.tup [.ref w, .int j])) := Same.new hu
        have S := s1.trans s2
        exact k u w (.int j) ys _ (fun b o _ _ e => S _ _ e) (S _ _ hra) (PairAt.all hys S) (S _ _ hta) hw upd_same (show _ = some (HO.lst [V.str (Str.ofString "all told"), V.str (Str.ofString "family")]) from s2 _ _ e1) (.inl ⟨_, rfl, rfl⟩)
      · rw [stepP_told e] at k
        have e' : ¬ (at_ : Int) = ys.length := by omega
        have hal : at_ < cs.length := by omega
        obtain ⟨x, hx⟩ : ∃ x, ys[at_]? = some x := ⟨_, List.getElem?_eq_getElem (by omega)⟩
        walk_at "rdn"
        have em : ((ts.map V.int).set j (V.int (ts.getD j 0 + 1))) = (ts.set j (ts.getD j 0 + 1)).map V.int := by rw [List.map_set]
        rw [em]
        have f1 : ∀ b o, b ≠ ta → H b = some o → upd H ta (.lst ((ts.set j (ts.getD j 0 + 1)).map V.int)) b = some o := fun b o n e => by rw [upd_ne n]; exact e
        have e1 : upd H ta (.lst ((ts.set j (ts.getD j 0 + 1)).map V.int)) ta = some (.lst ((ts.set j (ts.getD j 0 + 1)).map V.int)) := upd_same
        have f2 : ∀ b, upd H ta (.lst ((ts.set j (ts.getD j 0 + 1)).map V.int)) b = none → H b = none := fun b e => upd_free e
        generalize upd H ta (.lst ((ts.set j (ts.getD j 0 + 1)).map V.int)) = G1 at f1 e1 f2 ⊢
        have nst : s ≠ ta := fun z => by rw [z, hta] at hs; cases hs
        have gs := f1 _ _ nst hs
        have gra := f1 _ _ hrat hra
        have gys : All2 (PairAt G1) ys cs := hys.mono fun _ _ z => z.keep (fun b o n _ e => f1 b o n e) hta hta
        walk_at "rdn"
        intro w hw
        have hw0 := f2 _ hw
        have s2 : Same G1 (upd G1 w (.lst [.str "told"])) := Same.new hw
        have e2 : upd G1 w (.lst [.str "told"]) w = some (.lst [.str "told"]) := upd_same
        generalize upd G1 w (.lst [.str "told"]) = G2 at s2 e2 ⊢
        clear hw
        have gs2 := s2 _ _ gs
        have gra2 := s2 _ _ gra
        rw [hat]
        walk_at "rdn"
        refine q_ixL (SqL.of gra2) (show atI ys (at_ : Int) = some x from by rw [atI, ixN_at (by omega)]; exact hx) ?_
        walk_at "rdn"
        intro u hu
        have s3 : Same G2 (upd G2 u (.tup [.ref w, x])) := Same.new hu
        have S := s2.trans s3
        have P := PairAt.all gys S
        obtain ⟨c', hca', hq⟩ := P.get hx
        have ec : cs.getD (ts.getD j 0).toNat (0, 0) = c' := by
          rw [hat, Int.toNat_natCast, List.getD_eq_getElem?_getD, hca']
          rfl
        refine k u w x ys _ (fun b o _ n2 e => S _ _ (f1 _ _ n2 e)) (S _ _ gra) P (S _ _ e1) hw0 upd_same (show _ = some (HO.lst [V.str (Str.ofString "told")]) from s3 _ _ e2) ?_
        rw [ec]
        exact .inr (.inr (.inl ⟨c', hq, rfl⟩))
    | inr c =>
      have hd' : H d = some (.tup [.str "add", .int c.1, .int c.2]) := hd
      have hlb : ys.length ≤ 2000 := by
        have := hys.len
        have := hgs.2.2
        omega
      walk_at "rdn"
      intro i hi
      have s1 : Same H (upd H i (.tup [.int c.1, .int c.2])) := Same.new hi
      have e1 : upd H i (.tup [.int c.1, .int c.2]) i = some (.tup [.int c.1, .int c.2]) := upd_same
      generalize upd H i (.tup [.int c.1, .int c.2]) = G1 at s1 e1 ⊢
      have gs := s1 _ _ hs
      have gra := s1 _ _ hra
      have gta := s1 _ _ hta
      have gys := PairAt.all hys s1
      clear hi
      have pc : PairAt G1 (.ref i) c := ⟨i, rfl, e1⟩
      walk_at "rdn"
      refine q_inP (SqL.of gra) gys pc ?_
      by_cases e : c ∈ cs
      · rw [stepP_known e] at k
        rw [decide_eq_true e]
        walk_at "rdn"
        intro w hw
        have s2 : Same G1 (upd G1 w (.lst [.str "known", .str "family"])) := Same.new hw
        have e2 : upd G1 w (.lst [.str "known", .str "family"]) w = some (.lst [.str "known", .str "family"]) := upd_same
        generalize upd G1 w (.lst [.str "known", .str "family"]) = G2 at s2 e2 ⊢
        walk_at "rdn"
        intro u hu
        have s3 : Same G2 (upd G2 u (.tup [.ref w, .ref i])) := Same.new hu
        have S := (s1.trans s2).trans s3
        exact k u w (.ref i) ys _ (fun b o _ _ e => S _ _ e) (S _ _ hra) (PairAt.all hys S) (S _ _ hta) (s1.free hw) upd_same (show _ = some (HO.lst [V.str (Str.ofString "known"), V.str (Str.ofString "family")]) from s3 _ _ e2) (.inr (.inr (.inl ⟨c, pc.same (s2.trans s3), rfl⟩)))
      · rw [decide_eq_false e]
        walk_at "rdn"
        by_cases hn : 1 < c.2
        · rw [decide_eq_true hn]
          walk_at "rdn"
          intro a ha
          have s2 : Same G1 (upd G1 a (.tup [.int c.1, .int (c.2 - 1)])) := Same.new ha
          have e2 : upd G1 a (.tup [.int c.1, .int (c.2 - 1)]) a = some (.tup [.int c.1, .int (c.2 - 1)]) := upd_same
          generalize upd G1 a (.tup [.int c.1, .int (c.2 - 1)]) = G2 at s2 e2 ⊢
          clear ha
          have gs2 := s2 _ _ gs
          have gra2 := s2 _ _ gra
          have gys2 := PairAt.all gys s2
          have e12 := s2 _ _ e1
          walk_at "rdn"
          refine q_notInP (c := (c.1, c.2 - 1)) (SqL.of gra2) gys2 ⟨a, rfl, e2⟩ ?_
          by_cases hb : (c.1, c.2 - 1) ∈ cs
          · rw [stepP_add e (fun z => z.2 hb)] at k
            rw [decide_eq_true hb]
            have q2 : upd G2 ra (.lst (ys ++ [.ref i])) ra = some (.lst (ys ++ [.ref i])) := upd_same
            have f3 : ∀ b o, b ≠ ra → b ≠ ta → H b = some o → upd G2 ra (.lst (ys ++ [.ref i])) b = some o := fun b o n _ e => by rw [upd_ne n]; exact s2 _ _ (s1 _ _ e)
            have f4 : ∀ b, upd G2 ra (.lst (ys ++ [.ref i])) b = none → H b = none := fun b e => s1.free (s2.free (upd_free e))
            have q3 : upd G2 ra (.lst (ys ++ [.ref i])) ta = some (.lst (ts.map V.int)) := by rw [upd_ne hrat.symm]; exact s2 _ _ gta
            have q4 : All2 (PairAt (upd G2 ra (.lst (ys ++ [.ref i])))) (ys ++ [.ref i]) (cs ++ [c]) := All2.mono (gys2.snoc (pc.same s2)) (fun _ _ z => PairAt.keep (r := ra) (t := ra) z (fun b o n _ e => by rw [upd_ne n]; exact e) gra2 gra2)
            walk_at "rdn"
            generalize upd G2 ra (.lst (ys ++ [.ref i])) = G3 at q2 q3 q4 f3 f4 ⊢
            walk_at "rdn"
            intro w hw
            have s4 : Same G3 (upd G3 w (.lst [.str "told"])) := Same.new hw
            have e4 : upd G3 w (.lst [.str "told"]) w = some (.lst [.str "told"]) := upd_same
            generalize upd G3 w (.lst [.str "told"]) = G4 at s4 e4 ⊢
            walk_at "rdn"
            intro u hu
            have s5 : Same G4 (upd G4 u (.tup [.ref w, .non])) := Same.new hu
            have S := s4.trans s5
            exact k u w .non (ys ++ [.ref i]) _ (fun b o n1 n2 e => S _ _ (f3 _ _ n1 n2 e)) (S _ _ q2) (PairAt.all q4 S) (S _ _ q3) (f4 _ hw) upd_same (show _ = some (HO.lst [V.str (Str.ofString "told")]) from s5 _ _ e4) (.inr (.inl ⟨rfl, rfl⟩))
          · rw [stepP_lacks e ⟨hn, hb⟩] at k
            rw [decide_eq_false hb]
            walk_at "rdn"
            intro w hw
            have s4 : Same G2 (upd G2 w (.lst [.str "lacks", .str "family"])) := Same.new hw
            have e4 : upd G2 w (.lst [.str "lacks", .str "family"]) w = some (.lst [.str "lacks", .str "family"]) := upd_same
            generalize upd G2 w (.lst [.str "lacks", .str "family"]) = G4 at s4 e4 ⊢
            have e14 := s4 _ _ e12
            walk_at "rdn"
            intro a2 ha2
            have s5 : Same G4 (upd G4 a2 (.tup [.int c.1, .int (c.2 - 1)])) := Same.new ha2
            have e5 : upd G4 a2 (.tup [.int c.1, .int (c.2 - 1)]) a2 = some (.tup [.int c.1, .int (c.2 - 1)]) := upd_same
            generalize upd G4 a2 (.tup [.int c.1, .int (c.2 - 1)]) = G5 at s5 e5 ⊢
            walk_at "rdn"
            intro l2 hl2
            have s6 : Same G5 (upd G5 l2 (.lst [.ref a2])) := Same.new hl2
            have e6 : upd G5 l2 (.lst [.ref a2]) l2 = some (.lst [.ref a2]) := upd_same
            have S5 : Same H G5 := ((s1.trans s2).trans s4).trans s5
            have hl0 := S5.free hl2
            generalize upd G5 l2 (.lst [.ref a2]) = G6 at s6 e6 ⊢
            walk_at "rdn"
            intro u hu
            have s7 : Same G6 (upd G6 u (.tup [.ref w, .ref l2])) := Same.new hu
            have S := S5.trans (s6.trans s7)
            exact k u w (.ref l2) ys _ (fun b o _ _ e => S _ _ e) (S _ _ hra) (PairAt.all hys S) (S _ _ hta) (s1.free (s2.free hw)) upd_same (show _ = some (HO.lst [V.str (Str.ofString "lacks"), V.str (Str.ofString "family")]) from s7 _ _ (s6 _ _ (s5 _ _ e4))) (.inr (.inr (.inr ⟨l2, .ref a2, (c.1, c.2 - 1), rfl, hl0, s7 _ _ e6, ⟨a2, rfl, s7 _ _ (s6 _ _ e5)⟩, rfl⟩)))
        · rw [stepP_add e (fun z => hn z.1)] at k
          rw [decide_eq_false hn]
          have q2 : upd G1 ra (.lst (ys ++ [.ref i])) ra = some (.lst (ys ++ [.ref i])) := upd_same
          have f3 : ∀ b o, b ≠ ra → b ≠ ta → H b = some o → upd G1 ra (.lst (ys ++ [.ref i])) b = some o := fun b o n _ e => by rw [upd_ne n]; exact s1 _ _ e
          have f4 : ∀ b, upd G1 ra (.lst (ys ++ [.ref i])) b = none → H b = none := fun b e => s1.free (upd_free e)
          have q3 : upd G1 ra (.lst (ys ++ [.ref i])) ta = some (.lst (ts.map V.int)) := by rw [upd_ne hrat.symm]; exact gta
          have q4 : All2 (PairAt (upd G1 ra (.lst (ys ++ [.ref i])))) (ys ++ [.ref i]) (cs ++ [c]) := All2.mono (gys.snoc pc) (fun _ _ z => PairAt.keep (r := ra) (t := ra) z (fun b o n _ e => by rw [upd_ne n]; exact e) gra gra)
          walk_at "rdn"
          generalize upd G1 ra (.lst (ys ++ [.ref i])) = G3 at q2 q3 q4 f3 f4 ⊢
          walk_at "rdn"
          intro w hw
          have s4 : Same G3 (upd G3 w (.lst [.str "told"])) := Same.new hw
          have e4 : upd G3 w (.lst [.str "told"]) w = some (.lst [.str "told"]) := upd_same
          generalize upd G3 w (.lst [.str "told"]) = G4 at s4 e4 ⊢
          walk_at "rdn"
          intro u hu
          have s5 : Same G4 (upd G4 u (.tup [.ref w, .non])) := Same.new hu
          have S := s4.trans s5
          exact k u w .non (ys ++ [.ref i]) _ (fun b o n1 n2 e => S _ _ (f3 _ _ n1 n2 e)) (S _ _ q2) (PairAt.all q4 S) (S _ _ q3) (f4 _ hw) upd_same (show _ = some (HO.lst [V.str (Str.ofString "told")]) from s5 _ _ e4) (.inr (.inl ⟨rfl, rfl⟩))
theorem ok_law_no_member (T : Tx K mg) : FnOk P w K mg base CX0 7 T.f_law_no_member T.d_law_no_member ["plain", "thing"] (sp_law_no_member K T.C_PlainHall) := by
  refine T.F_law_no_member.ok sc_law_no_member (fun vs H Q E h => ?_) (fun cdv A outer s H vs Q E hr h => ?_)
  · rcases h with ⟨p, dx, r, t, m, x, d, rfl, hp, hx, hd, hsh, hq, k⟩
    all_goals rfl
  · have hu := hu_of hr
    refine ⟨_, (pss_cons (ps_tryX rfl rfl sc_law_no_member.nd takes0 (fun W pn xe tk po => (pss_one (ps_expr (pe_methE (pv 0) T.c_PlainHall T.mt_PlainHall_told_by (ok_PlainHall_told_by (P := P) T) (hr.mono (by decide)) T.b_PlainHall_told_by .nil (fun σ => passX tk σ) (pa_cons (pv 1) (pa_nil))))))
      (.named (i := 2) (TK.one (show Names _ "NoMember" (.ref T.C_NoMember) from ⟨rfl, by decide, .inl T.g_NoMember⟩)) rfl rfl (fun a oe cls d pn hz hf => (pss_one (ps_ret (pe_and (pe_cmpR (op_or op_eq (op_or (op_eqX rfl (by have h := room128 hr; exact h)) (ko_eqD (K := K) rfl hr.units))) (pe_xg rfl hz hf (pv 2)) (pv 1) (nomark _)) (pe_one (pe_callB (id := "isinstance") (call_isX hz hf rfl) (by rfl) T.z_isinstance (by decide +kernel) (pa_cons (pv 2) (pa_cons (pe_glob (v := .ref T.C_HallError) rfl T.g_HallError rfl) (pa_nil))))))))) .nil))
      (pss_one (ps_ret pe_bl))), ?_⟩
    rcases h with ⟨p, dx, r, t, m, x, d, rfl, hp, hx, hd, hsh, hq, k⟩
    walk_at "rdn"
    intro e1 he1
    have s1 : Same H (upd H e1 (.xd [("found", x)])) := Same.new he1
    have f1 : upd H e1 (.xd [("found", x)]) e1 = some (.xd [("found", x)]) := upd_same
    generalize upd H e1 (.xd [("found", x)]) = G1 at s1 f1 ⊢
    clear he1
    have hd1 := Dp.up s1 hd
    walk_at "rdn"
    intro a ha
    walk_at "rdn"
    refine .inr (.inr (q_eqD hd1 hd1 hsh hsh ?_))
    rw [hq]
    walk_at "rdn"
    exact k _ s1
theorem ok_law_stands (T : Tx K mg) : FnOk P w K mg base CX0 6 T.f_law_stands T.d_law_stands ["plain", "state"] (sp_law_stands K T.C_PlainHall) := by
  refine T.F_law_stands.ok sc_law_stands (fun vs H Q E h => ?_) (fun cdv A outer s H vs Q E hr h => ?_)
  · rcases h with ⟨p, dx, r, t, s, ra, ta, m, xs, ys, cs, ts, rfl, hp, hr, ht, hxs, hs, hra, hta, hys, hgs, h5, k⟩
    all_goals rfl
  · have hu := hu_of hr
    refine ⟨_, (pss_cons (ps_set (i := 2) sc_law_stands.nd rfl (Or.inl rfl) (pe_meth0 (pv 0) T.c_PlainHall T.mt_PlainHall_row (ok_PlainHall_row (P := P) T) (hr.mono (by decide)) T.b_PlainHall_row .nil pass0))
      (pss_cons (ps_set (i := 3) sc_law_stands.nd rfl (Or.inl rfl) (pe_tup (pa_cons (pe_callTy (T := "tuple") (kx_tuple (K := K) rfl) (by rfl) T.z_tuple (by decide +kernel) (pa_cons (pe_dget (room1 hr) (pv 1) pe_str (fun _ _ => rfl)) (pa_nil))) (pa_cons (pe_callTy (T := "tuple") (kx_tuple (K := K) rfl) (by rfl) T.z_tuple (by decide +kernel) (pa_cons (pe_dget (room1 hr) (pv 1) pe_str (fun _ _ => rfl)) (pa_nil))) (pa_nil)))))
      (pss_cons (ps_if (PW.pt (pw_or (pt_not (pt_val (pe_callB (id := "isinstance") (kx_isi (K := K) rfl) (by rfl) T.z_isinstance (by decide +kernel) (pa_cons (pv 2) (pa_cons (pe_bltn (v := .ty "list") (u := .type "list") (by rfl) T.z_list (by decide +kernel) rfl) (pa_nil)))))) (pw_or (pt_cmpR (ko_neD (K := K) rfl hr.units) (pv 2) (pe_dget (room1 hr) (pv 1) pe_str (fun _ _ => rfl)) (nomark _)) (pw_or1 (pt_cmpR op_ne (pe_callB (id := "len") (call_lenO rfl T.mt_PlainHall_len.at_ T.mt_PlainHall_len.fn (ok_PlainHall_len (P := P) T) (hr.mono (by decide)) T.b_PlainHall_len pass0) (by rfl) T.z_len (by decide +kernel) (pa_cons (pv 0) (pa_nil))) (pe_callB (id := "len") (kx_len (K := K) rfl) (by rfl) T.z_len (by decide +kernel) (pa_cons (pv 2) (pa_nil))) (nomark _))))))
      (pss_one (ps_ret pe_bl)) pss_nil)
      (pss_cons (ps_if (pt_cmpR (ko_neD (K := K) rfl hr.units) (pe_meth0 (pv 0) T.c_PlainHall T.mt_PlainHall_state (ok_PlainHall_state (P := P) T) (hr.mono (by decide)) T.b_PlainHall_state .nil pass0) (pv 3) (nomark _))
      (pss_one (ps_ret pe_bl)) pss_nil)
      (pss_cons (ps_expr (pe_bm PySem.F.plainAttrs_list PySem.F.slot_list_append PySem.F.type_list_append mt_append (pv 2) (pa_cons (pe_tup (pa_cons pe_int (pa_cons pe_int (pa_nil)))) (pa_nil))))
      (pss_cons (ps_for PassesOwn.never rfl (pi_range1 rfl T.z_range (pa_cons (pe_callB (id := "len") (kx_len (K := K) rfl) (by rfl) T.z_len (by decide +kernel) (pa_cons (pe_dget (room1 hr) (pv 1) pe_str (fun _ _ => rfl)) (pa_nil))) (pa_nil))) (pg_name (i := 4) sc_law_stands.nd rfl (Or.inl rfl))
      (pss_one (ps_if (PW.pt (pw_or (pt_cmpR op_ne (pe_meth (pv 0) T.c_PlainHall T.mt_PlainHall_told_by (ok_PlainHall_told_by (P := P) T) (hr.mono (by decide)) T.b_PlainHall_told_by .nil passL (pa_cons (pv 4) (pa_nil))) (pe_ix (ki_list (K := K) rfl) (pe_dget (room1 hr) (pv 1) pe_str (fun _ _ => rfl)) (pv 4) (fun _ _ => rfl)) (nomark _)) (pw_or1 (pt_val (pe_callB (id := "isinstance") (kx_isi (K := K) rfl) (by rfl) T.z_isinstance (by decide +kernel) (pa_cons (pe_meth (pv 0) T.c_PlainHall T.mt_PlainHall_told_by (ok_PlainHall_told_by (P := P) T) (hr.mono (by decide)) T.b_PlainHall_told_by .nil passL (pa_cons (pv 4) (pa_nil))) (pa_cons (pe_bltn (v := .ty "bool") (u := .type "bool") (by rfl) T.z_bool (by decide +kernel) rfl) (pa_nil))))))))
      (pss_one (ps_ret pe_bl)) pss_nil)))
      (pss_one (ps_ret (pe_and (pe_cmpR (ko_eqD (K := K) rfl hr.units) (pe_meth0 (pv 0) T.c_PlainHall T.mt_PlainHall_row (ok_PlainHall_row (P := P) T) (hr.mono (by decide)) T.b_PlainHall_row .nil pass0) (pe_dget (room1 hr) (pv 1) pe_str (fun _ _ => rfl)) (nomark _)) (pe_one (pe_not (pe_cmpR (op_eqOther rfl T.mt_PlainHall_eq.at_ T.mt_PlainHall_eq.fn (ok_PlainHall_eq (P := P) T) (hr.mono (by decide)) T.b_PlainHall_eq pass0) (pv 0) (pv 3) (nomark _))))))))))))), ?_⟩
    rcases h with ⟨p, dx, r, t, s, ra, ta, m, xs, ys, cs, ts, rfl, hp, hr, ht, hxs, hs, hra, hta, hys, hgs, h5, k⟩
    obtain ⟨hl, hj, hc⟩ := hgs
    have hlen := hxs.len
    have hlen2 := hys.len
    walk_at "rdn"
    intro l hl1
    have s1 : Same H (upd H l (.lst xs)) := Same.new hl1
    have e1 : upd H l (.lst xs) l = some (.lst xs) := upd_same
    generalize upd H l (.lst xs) = G1 at s1 e1 ⊢
    have hp1 := s1 _ _ hp
    have hr1 := s1 _ _ hr
    have ht1 := s1 _ _ ht
    have hs1 := s1 _ _ hs
    have hra1 := s1 _ _ hra
    have hta1 := s1 _ _ hta
    walk_at "rdn"
    intro b1 hb1
    have s2 : Same G1 (upd G1 b1 (.tup ys)) := Same.new hb1
    have e2 : upd G1 b1 (.tup ys) b1 = some (.tup ys) := upd_same
    generalize upd G1 b1 (.tup ys) = G2 at s2 e2 ⊢
    clear hb1
    have hp2 := s2 _ _ hp1
    have hr2 := s2 _ _ hr1
    have ht2 := s2 _ _ ht1
    have hs2 := s2 _ _ hs1
    have hra2 := s2 _ _ hra1
    have hta2 := s2 _ _ hta1
    have el2 := s2 _ _ e1
    walk_at "rdn"
    intro b2 hb2
    have s3 : Same G2 (upd G2 b2 (.tup (ts.map V.int))) := Same.new hb2
    have e3 : upd G2 b2 (.tup (ts.map V.int)) b2 = some (.tup (ts.map V.int)) := upd_same
    generalize upd G2 b2 (.tup (ts.map V.int)) = G3 at s3 e3 ⊢
    clear hb2
    have e23 := s3 _ _ e2
    walk_at "rdn"
    intro du hdu
    have s4 : Same G3 (upd G3 du (.tup [.ref b1, .ref b2])) := Same.new hdu
    have e4 : upd G3 du (.tup [.ref b1, .ref b2]) du = some (.tup [.ref b1, .ref b2]) := upd_same
    generalize upd G3 du (.tup [.ref b1, .ref b2]) = G4 at s4 e4 ⊢
    clear hdu
    have s34 := s3.trans s4
    have hp4 := s34 _ _ hp2
    have hr4 := s34 _ _ hr2
    have ht4 := s34 _ _ ht2
    have hs4 := s34 _ _ hs2
    have hra4 := s34 _ _ hra2
    have hta4 := s34 _ _ hta2
    have el4 := s34 _ _ el2
    have e24 := s4 _ _ e23
    have e34 := s4 _ _ e3
    have S4 : Same H G4 := (s1.trans s2).trans s34
    have pxs := PairAt.all hxs S4
    have pys := PairAt.all hys S4
    clear hp1 hr1 ht1 hs1 hra1 hta1 hp2 hr2 ht2 hs2 hra2 hta2 el2 e23 s34 s2 s3 s4 e1 e2 e3
    walk_at "rdn"
    refine q_neLP (SqL.of el4) (SqL.of hra4) pxs pys ?_
    rw [decide_eq_true rfl]
    walk_at "rdn"
    intro s5 a5 b5 G5 S5 g1 g2 g3
    have pxs5 := PairAt.all pxs S5
    have pys5 := PairAt.all pys S5
    have du5 := S5 _ _ e4
    have e25 := S5 _ _ e24
    have e35 := S5 _ _ e34
    have hp5 := S5 _ _ hp4
    have hr5 := S5 _ _ hr4
    have ht5 := S5 _ _ ht4
    have hs5 := S5 _ _ hs4
    have hra5 := S5 _ _ hra4
    have hta5 := S5 _ _ hta4
    have el5 := S5 _ _ el4
    walk_at "rdn"
    refine q_neD (.tup (SqT.of g1) (.cons (.tup (SqT.of g2) (PairAt.dp pxs5)) (.cons (.tup (SqT.of g3) DpInts) .nil))) (.tup (SqT.of du5) (.cons (.tup (SqT.of e25) (PairAt.dp pys5)) (.cons (.tup (SqT.of e35) DpInts) .nil))) sh_hall sh_hall ?_
    rw [eqv_hall, decide_eq_true rfl, decide_eq_true rfl]
    clear hp4 hr4 ht4 hs4 hra4 hta4 el4 e4 e24 e34 pxs pys g1 g2 g3
    walk_at "rdn"
    intro pe hpe
    have nlr : l ≠ r := fun e => by rw [e, hr] at hl1; cases hl1
    have nlt : l ≠ t := fun e => by rw [e, ht] at hl1; cases hl1
    have nls : l ≠ s := fun e => by rw [e, hs] at hl1; cases hl1
    have nlra : l ≠ ra := fun e => by rw [e, hra] at hl1; cases hl1
    have nlta : l ≠ ta := fun e => by rw [e, hta] at hl1; cases hl1
    have s6 : Same G5 (upd G5 pe (.tup [.int 0, .int 99])) := Same.new hpe
    generalize upd G5 pe (.tup [.int 0, .int 99]) = G6 at s6 ⊢
    have el6 := s6 _ _ el5
    have hll : xs.length ≤ 2000 := by omega
    have S6 : Same H G6 := (S4.trans S5).trans s6
    walk_at "rdn"
    have S7 : Same H (upd G6 l (.lst (xs ++ [.ref pe]))) := fun b o eb => by
      have nb : b ≠ l := fun z => by rw [z, hl1] at eb; cases eb
      rw [upd_ne nb]
      exact S6 _ _ eb
    have s7 : ∀ b o, b ≠ l → G5 b = some o → upd G6 l (.lst (xs ++ [.ref pe])) b = some o := fun b o n e => by rw [upd_ne n]; exact s6 _ _ e
    have nlu : du ≠ l := fun e => by rw [e] at du5; rw [el5] at du5; cases du5
    have du7 := s7 _ _ nlu du5
    clear s7
    generalize upd G6 l (.lst (xs ++ [.ref pe])) = G7 at S7 du7 ⊢
    clear s6 el6 S6 el5 hp5 hr5 ht5 hs5 hra5 hta5 e25 e35 pxs5 pys5 du5 s1
    have hp7 := S7 _ _ hp
    have hr7 := S7 _ _ hr
    have ht7 := S7 _ _ ht
    have hs7 := S7 _ _ hs
    have hra7 := S7 _ _ hra
    have hta7 := S7 _ _ hta
    have htl : (ts.map V.int).length = ts.length := List.length_map ..
    have htm : ts.length ≤ 5 := by omega
    walk_at "rdn"
    rw [Int.toNat_natCast]
    refine for_range (fun i σ H9 => ∃ u : Option V, σ = [some (.ref p), some (.ref s), some (.ref l), some (.ref du), u] ∧ H9 = G7) ?_ ?_ ?_
    · exact ⟨none, rfl, rfl⟩
    · rintro i σ H9 hi ⟨u, rfl, rfl⟩
      have hi2 : i < ts.length := by omega
      have him : (i : Int) ≤ m - 1 := by omega
      rw [Int.zero_add]
      walk_at "rdn"
      exact ⟨_, rfl, rfl⟩
    · rintro σ H9 ⟨u, rfl, rfl⟩
      walk_at "rdn"
      intro l2 hl2
      have s8 : Same H9 (upd H9 l2 (.lst xs)) := Same.new hl2
      have e8 : upd H9 l2 (.lst xs) l2 = some (.lst xs) := upd_same
      generalize upd H9 l2 (.lst xs) = G8 at s8 e8 ⊢
      have hp8 := s8 _ _ hp7
      have hs8 := s8 _ _ hs7
      have hra8 := s8 _ _ hra7
      have du8 := s8 _ _ du7
      have S8 := S7.trans s8
      walk_at "rdn"
      refine q_eqD (.lst (SqL.of e8) (PairAt.dp (PairAt.all hxs S8))) (.lst (SqL.of hra8) (PairAt.dp (PairAt.all hys S8))) sh_pairs sh_pairs ?_
      rw [show PyData.eqv (.list (cs.map pairOf)) (.list (cs.map pairOf)) = true from eqv_pairs.trans (decide_eq_true rfl)]
      walk_at "rdn"
      refine ⟨p, _, _, _, rfl, hp8, .base (.tup du8), T.nt_tuple_PlainHall, ?_⟩
      walk_at "rdn"
      exact k _ S8
theorem ok_law_made (T : Tx K mg) : FnOk P w K mg base CX0 7 T.f_law_made T.d_law_made ["thing"] (sp_law_made K) := by
  refine T.F_law_made.ok sc_law_made (fun vs H Q E h => ?_) (fun cdv A outer s H vs Q E hr h => ?_)
  · rcases h with ⟨x, d, rfl, hx, hd, hsh, hq, k⟩
    all_goals rfl
  · have hu := hu_of hr
    refine ⟨_, (pss_cons (ps_tryX rfl rfl sc_law_made.nd takes0 (fun W pn xe tk po => (pss_one (ps_expr (pe_makeE T.mk_PlainHall (ok_PlainHall_init (P := P) T) (hr.mono (by decide)) rfl T.g_PlainHall T.b_PlainHall_init .nil (fun σ => passX tk σ) (pa_cons (pv 0) (pa_nil))))))
      (.named (i := 1) (TK.one (show Names _ "NoNumber" (.ref T.C_NoNumber) from ⟨rfl, by decide, .inl T.g_NoNumber⟩)) rfl rfl (fun a oe cls d pn hz hf => (pss_one (ps_ret (pe_and (pe_cmpR (op_or op_eq (op_or (op_eqX rfl (by have h := room128 hr; exact h)) (ko_eqD (K := K) rfl hr.units))) (pe_xg rfl hz hf (pv 1)) (pv 0) (nomark _)) (pe_one (pe_callB (id := "isinstance") (call_isX hz hf rfl) (by rfl) T.z_isinstance (by decide +kernel) (pa_cons (pv 1) (pa_cons (pe_glob (v := .ref T.C_HallError) rfl T.g_HallError rfl) (pa_nil))))))))) .nil))
      (pss_one (ps_ret pe_bl))), ?_⟩
    rcases h with ⟨x, d, rfl, hx, hd, hsh, hq, k⟩
    walk_at "rdn"
    intro o dx h1 h2 h3
    have s1 : Same H (upd (upd H dx (.own o)) o (.ins T.C_PlainHall dx [])) := (Same.new h2).trans (Same.new (by rw [upd_ne (Ne.symm h3)]; exact h1))
    have e1 : upd (upd H dx (.own o)) o (.ins T.C_PlainHall dx []) o = some (.ins T.C_PlainHall dx []) := upd_same
    have hx1 := hx.same s1
    generalize upd (upd H dx (.own o)) o (.ins T.C_PlainHall dx []) = G1 at s1 e1 hx1 ⊢
    refine r_PlainHall_init_2 rfl (hp := e1) (hx := hx1) ?_
    intro d hd1
    have s2 : Same G1 (upd G1 d (.xd [("found", x)])) := Same.new hd1
    have e2 : upd G1 d (.xd [("found", x)]) d = some (.xd [("found", x)]) := upd_same
    generalize upd G1 d (.xd [("found", x)]) = G2 at s2 e2 ⊢
    have hd2 := Dp.up (s1.trans s2) hd
    walk_at "rdn"
    intro a ha
    walk_at "rdn"
    refine .inr (.inr (q_eqD hd2 hd2 hsh hsh ?_))
    rw [hq]
    walk_at "rdn"
    exact k _ (s1.trans s2)
theorem ok_law_done (T : Tx K mg) : FnOk P w K mg base CX0 9 T.f_law_done T.d_law_done ["plain", "state", "deed"] (sp_law_done K T.C_PlainHall) := by
  refine T.F_law_done.ok sc_law_done (fun vs H Q E h => ?_) (fun cdv A outer s H vs Q E hr h => ?_)
  · rcases h with ⟨p, dx, r, t, s, ra, ta, d, m, xs, ys, cs, ts, g, rfl, hp, hr, ht, hxs, hs, hra, hta, hys, hrt, hrat, n1, n2, n3, n4, hd, hg, hgs, hgs2, h5, k⟩
    all_goals rfl
  · have hu := hu_of hr
    refine ⟨_, (pss_cons (ps_set (i := 3) sc_law_done.nd rfl (Or.inl rfl) (pe_call (ok_law_due (P := P) T) (hr.mono (by decide)) rfl T.m_law_due T.k_law_due T.b_law_due .nil pass0 (pa_cons (pv 1) (pa_cons (pv 2) (pa_nil)))))
      (pss_cons (ps_if (PW.pt (pw_or (pt_cmpR (ko_neD (K := K) rfl hr.units) (pe_call (ok_law_did (P := P) T) (hr.mono (by decide)) rfl T.m_law_did T.k_law_did T.b_law_did .nil pass0 (pa_cons (pv 0) (pa_cons (pv 2) (pa_nil)))) (pv 3) (nomark _)) (pw_or1 (pt_not (pt_val (pe_call (ok_law_stands (P := P) T) (hr.mono (by decide)) rfl T.m_law_stands T.k_law_stands T.b_law_stands .nil pass0 (pa_cons (pv 0) (pa_cons (pv 1) (pa_nil)))))))))
      (pss_one (ps_ret pe_bl)) pss_nil)
      (pss_one (ps_ret (pe_or (pe_cmpR (ko_eqD (K := K) rfl hr.units) (pe_ix (ki_tup (K := K) rfl) (pv 3) pe_int (fun _ _ => rfl)) (pe_lst (pa_cons pe_str (pa_nil))) (nomark _)) (pe_one (pe_cmpR (ko_eqD (K := K) rfl hr.units) (pe_call (ok_law_did (P := P) T) (hr.mono (by decide)) rfl T.m_law_did T.k_law_did T.b_law_did .nil pass0 (pa_cons (pv 0) (pa_cons (pv 2) (pa_nil)))) (pv 3) (nomark _)))))))), ?_⟩
    rcases h with ⟨p, dx, r, t, s, ra, ta, d, m, xs, ys, cs, ts, g, rfl, hp, hr, ht, hxs, hs, hra, hta, hys, hrt, hrat, n1, n2, n3, n4, hd, hg, hgs, hgs2, h5, k⟩
    walk_at "rdn"
    intro u w z zs G1 f1 e1 e2 e3 hw0 e4 e5 ez
    have hp1 := f1 _ _ (fun e => by rw [e, hra] at hp; cases hp) (fun e => by rw [e, hta] at hp; cases hp) hp
    have hs1 := f1 _ _ (fun e => by rw [e, hra] at hs; cases hs) (fun e => by rw [e, hta] at hs; cases hs) hs
    have hr1 := f1 _ _ n1 n2 hr
    have ht1 := f1 _ _ n3 n4 ht
    have hxs1 : All2 (PairAt G1) xs cs := hxs.mono fun _ _ z => z.keep f1 hra hta
    have hd1 := hd.keep f1 hra hta
    walk_at "rdn"
    intro u2 w2 z2 zs2 G2 f2 g1 g2 g3 g4 g5 gz
    have hp2 := f2 _ _ (fun e => by rw [e, hr1] at hp1; cases hp1) (fun e => by rw [e, ht1] at hp1; cases hp1) hp1
    have hs2 := f2 _ _ (fun e => by rw [e, hr1] at hs1; cases hs1) (fun e => by rw [e, ht1] at hs1; cases hs1) hs1
    have k1 := f2 _ _ n1.symm n3.symm e1
    have k3 := f2 _ _ n2.symm n4.symm e3
    have k2 : All2 (PairAt G2) zs (stepP cs ts g).2.2.1 := e2.mono fun _ _ z => z.keep f2 hr1 ht1
    have k4 := f2 _ _ (fun e => by rw [e, hr1] at e4; cases e4) (fun e => by rw [e, ht1] at e4; cases e4) e4
    have k5 := f2 _ _ (fun e => by rw [e, hr] at hw0; cases hw0) (fun e => by rw [e, ht] at hw0; cases hw0) e5
    have kz := ez.keep f2 hr1 ht1 hr ht
    walk_at "rdn"
    refine q_neD (.tup (SqT.of g4) (.cons (.lst (SqL.of g5) DpStrs) (.cons gz .nil))) (.tup (SqT.of k4) (.cons (.lst (SqL.of k5) DpStrs) (.cons kz.dp .nil))) (ez.sh stepP_lay) (ez.sh stepP_lay) ?_
    rw [ez.eqv stepP_lay]
    walk_at "rdn"
    intro G3 s3
    walk_at "rdn"
    intro q hq
    have s4 : Same G3 (upd G3 q (.lst (wTold.map V.str))) := Same.new hq
    have e6 : upd G3 q (.lst (wTold.map V.str)) q = some (.lst (wTold.map V.str)) := upd_same
    change rEqD K (V.ref w) (V.ref q) (upd G3 q (.lst (wTold.map V.str))) _
    generalize upd G3 q (.lst (wTold.map V.str)) = G4 at s4 e6 ⊢
    have S := s3.trans s4
    refine q_eqD (.lst (SqL.of (S _ _ k5)) DpStrs) (.lst (SqL.of e6) DpStrs) (sh_strs stepP_lay) (sh_strs (by decide +kernel)) ?_
    rw [show PyData.eqv (.list ((stepP cs ts g).1.map PyData.str)) (.list (wTold.map PyData.str)) = decide ((stepP cs ts g).1 = wTold) from eqv_strs]
    by_cases h : (stepP cs ts g).1 = wTold
    · rw [decide_eq_true h]
      walk_at "rdn"
      exact k zs2 zs G4 (fun b o b1 b2 b3 b4 e => S _ _ (f2 _ _ b1 b2 (f1 _ _ b3 b4 e))) (S _ _ g1) (PairAt.all g2 S) (S _ _ g3) (S _ _ k1) (PairAt.all k2 S) (S _ _ k3)
    · rw [decide_eq_false h]
      have h1 : (stepP cs ts g).2.2.1 = cs := by rw [stepP_same h]
      have h2 : (stepP cs ts g).2.2.2 = ts := by rw [stepP_same h]
      have hr4 := S _ _ g1
      have ht4 := S _ _ g3
      rw [h2] at ht4
      have hx4 := PairAt.all g2 S
      rw [h1] at hx4
      have hd4 : DeedAt G4 d g := (hd1.keep f2 hr1 ht1).same S
      have hp4 := S _ _ hp2
      have kz4 : Dz H G4 z (stepP cs ts g).2.1 := kz.keep (r := r) (t := t) (fun b o _ _ e => S _ _ e) g1 g3 hr ht
      have k44 := S _ _ k4
      have k45 := S _ _ k5
      walk_at "rdn"
      intro u3 w3 z3 zs3 G5 f5 j1 j2 j3 j4 j5 jz
      have kz5 := kz4.keep f5 hr4 ht4 hr ht
      have k54 := f5 _ _ (fun e => by rw [e, hr4] at k44; cases k44) (fun e => by rw [e, ht4] at k44; cases k44) k44
      have k55 := f5 _ _ (fun e => by rw [e, hr] at hw0; cases hw0) (fun e => by rw [e, ht] at hw0; cases hw0) k45
      walk_at "rdn"
      refine q_eqD (.tup (SqT.of j4) (.cons (.lst (SqL.of j5) DpStrs) (.cons jz .nil))) (.tup (SqT.of k54) (.cons (.lst (SqL.of k55) DpStrs) (.cons kz5.dp .nil))) (ez.sh stepP_lay) (ez.sh stepP_lay) ?_
      rw [ez.eqv stepP_lay]
      exact k zs3 zs G5 (fun b o b1 b2 b3 b4 e => f5 _ _ b1 b2 (S _ _ (f2 _ _ b1 b2 (f1 _ _ b3 b4 e)))) j1 j2 j3 (f5 _ _ n1.symm n3.symm (S _ _ k1)) ((PairAt.all k2 S).mono fun _ _ z => z.keep f5 hr4 ht4) (f5 _ _ n2.symm n4.symm (S _ _ k3))
theorem ok_law_bad (T : Tx K mg) : FnOk P w K mg base CX0 9 T.f_law_bad T.d_law_bad ["plain", "state"] (sp_law_bad K T.C_PlainHall) := by
  refine T.F_law_bad.ok sc_law_bad (fun vs H Q E h => ?_) (fun cdv A outer s H vs Q E hr h => ?_)
  · rcases h with ⟨p, dx, r, t, s, ra, ta, m, xs, ts, rfl, hp, hr, hs, hta, hm, h2, h5, k⟩
    all_goals rfl
  · have hu := hu_of hr
    refine ⟨_, (pss_cons (ps_set (i := 2) sc_law_bad.nd rfl (Or.inl rfl) (pe_callB (id := "len") (kx_len (K := K) rfl) (by rfl) T.z_len (by decide +kernel) (pa_cons (pe_dget (room1 hr) (pv 1) pe_str (fun _ _ => rfl)) (pa_nil))))
      (pss_cons (ps_set (i := 3) sc_law_bad.nd rfl (Or.inl rfl) (pe_lst (pa_cons pe_non (pa_cons pe_int (pa_cons pe_str (pa_cons (pe_lst (pa_cons pe_str (pa_cons pe_int (pa_nil)))) (pa_cons (pe_tup pa_nil) (pa_cons (pe_tup (pa_cons pe_str (pa_nil))) (pa_cons (pe_tup (pa_cons pe_str (pa_cons (pv 2) (pa_nil)))) (pa_cons (pe_tup (pa_cons pe_str (pa_cons (pe_un un_neg pe_int) (pa_nil)))) (pa_nil)))))))))))
      (pss_cons (ps_set (i := 3) sc_law_bad.nd rfl (Or.inl rfl) (pe_op op_cat (pv 3) (pe_lst (pa_cons (pe_tup (pa_cons pe_str (pa_cons pe_bl (pa_nil)))) (pa_cons (pe_tup (pa_cons pe_str (pa_cons pe_int (pa_cons pe_int (pa_nil))))) (pa_cons pe_dnewK (pa_cons (pe_tup (pa_cons pe_str (pa_cons pe_non (pa_nil)))) (pa_cons (pe_tup (pa_cons pe_str (pa_cons pe_str (pa_nil)))) (pa_cons (pe_tup (pa_cons pe_str (pa_cons (pe_lst (pa_cons pe_int (pa_nil))) (pa_nil)))) (pa_nil))))))))))
      (pss_cons (ps_set (i := 3) sc_law_bad.nd rfl (Or.inl rfl) (pe_op op_cat (pv 3) (pe_lst (pa_cons (pe_tup (pa_cons pe_str (pa_cons pe_int (pa_cons pe_int (pa_nil))))) (pa_cons (pe_tup (pa_cons pe_str (pa_cons (pv 2) (pa_cons pe_int (pa_nil))))) (pa_cons (pe_tup (pa_cons pe_str (pa_cons pe_int (pa_nil)))) (pa_cons (pe_tup (pa_cons pe_str (pa_cons pe_int (pa_cons pe_bl (pa_nil))))) (pa_nil))))))))
      (pss_cons (ps_set (i := 3) sc_law_bad.nd rfl (Or.inl rfl) (pe_op op_cat (pv 3) (pe_lst (pa_cons (pe_tup (pa_cons pe_str (pa_cons pe_int (pa_cons pe_str (pa_nil))))) (pa_cons (pe_tup (pa_cons pe_str (pa_cons pe_non (pa_cons pe_int (pa_nil))))) (pa_cons (pe_tup (pa_cons pe_str (pa_cons pe_bl (pa_cons pe_int (pa_nil))))) (pa_cons (pe_tup (pa_cons pe_str (pa_cons pe_bl (pa_cons pe_int (pa_nil))))) (pa_cons (pe_tup (pa_cons pe_str (pa_cons (pe_un un_neg pe_int) (pa_cons pe_int (pa_nil))))) (pa_nil)))))))))
      (pss_cons (ps_set (i := 3) sc_law_bad.nd rfl (Or.inl rfl) (pe_op op_cat (pv 3) (pe_lst (pa_cons (pe_tup (pa_cons pe_str (pa_cons pe_int (pa_nil)))) (pa_cons (pe_tup (pa_cons pe_str (pa_cons pe_int (pa_cons pe_int (pa_cons pe_int (pa_nil)))))) (pa_cons (pe_tup (pa_cons (pe_lst (pa_cons pe_str (pa_nil))) (pa_cons pe_int (pa_cons pe_int (pa_nil))))) (pa_cons (pe_tup (pa_cons pe_str (pa_cons pe_int (pa_cons (pe_un un_neg pe_int) (pa_nil))))) (pa_cons (pe_tup (pa_cons pe_str (pa_cons pe_int (pa_cons pe_non (pa_nil))))) (pa_cons (pe_tup (pa_cons pe_str (pa_cons pe_str (pa_cons pe_int (pa_nil))))) (pa_nil))))))))))
      (pss_cons (ps_if (pt_not (pt_val (pe_callB (id := "all") (kx_all (K := K) rfl rfl) (by rfl) T.z_all (by decide +kernel) (pa_cons (pe_lc (own := [("thing", 4)]) (g := gName 4) (tt := tYes) rfl sc_law_bad.nd (kpi_list (K := K) rfl (pv 3)) (blkOk_by (own := [("thing", 4)]) (N := ["plain", "state", "members", "some", "thing"]) (sc := defScope s_law_bad) (by decide +kernel)) (fun _ _ _ _ _ => (pg_name (i := 4) sc_law_bad.nd rfl (Or.inl rfl))) (fun _ _ _ _ _ => pts_nil) (fun _ _ _ _ _ => (pe_cmpR (op_eqX rfl (by have h := room128 hr; exact h)) (pe_call (ok_law_did (P := P) T) (hr.mono (by decide)) rfl T.m_law_did T.k_law_did T.b_law_did .nil pass0 (pa_cons (pv 0) (pa_cons (pv 4) (pa_nil)))) (pe_tup (pa_cons (pe_lst (pa_cons pe_str (pa_cons pe_str (pa_nil)))) (pa_cons (pv 4) (pa_nil)))) (nomark _)))) (pa_nil)))))
      (pss_one (ps_ret pe_bl)) pss_nil)
      (pss_one (ps_ret (pe_callB (id := "all") (kx_all (K := K) rfl rfl) (by rfl) T.z_all (by decide +kernel) (pa_cons (pe_lc (own := [("thing", 4)]) (g := gName 4) (tt := tYes) rfl sc_law_bad.nd (kpi_list (K := K) rfl (pe_lst (pa_cons (pv 2) (pa_cons (pe_un un_neg pe_int) (pa_cons pe_non (pa_cons pe_bl (pa_cons pe_str (pa_cons (pe_lst (pa_cons pe_int (pa_nil))) (pa_cons (pe_tup (pa_cons pe_int (pa_nil))) (pa_nil)))))))))) (blkOk_by (own := [("thing", 4)]) (N := ["plain", "state", "members", "some", "thing"]) (sc := defScope s_law_bad) (by decide +kernel)) (fun _ _ _ _ _ => (pg_name (i := 4) sc_law_bad.nd rfl (Or.inl rfl))) (fun _ _ _ _ _ => pts_nil) (fun _ _ _ _ _ => (pe_call (ok_law_no_member (P := P) T) (hr.mono (by decide)) rfl T.m_law_no_member T.k_law_no_member T.b_law_no_member .nil pass0 (pa_cons (pv 0) (pa_cons (pv 4) (pa_nil)))))) (pa_nil)))))))))))), ?_⟩
    rcases h with ⟨p, dx, r, t, s, ra, ta, m, xs, ts, rfl, hp, hr, hs, hta, hm, h2, h5, k⟩
    have htl : (ts.map V.int).length = ts.length := List.length_map ..
    have hP : ∀ H H' v, Same H H' → PB K m H v → PB K m H' v := fun _ _ _ s h => h.same s
    with_reducible refine q_seq ?_
    with_reducible refine q_asg ?_
    refine q_cut (fun v H' => v = .int m ∧ H' = H) (fun Q k => ?_) ?_
    · walk_at "rdn"
      rw [htl, hm]
      exact k _ _ ⟨rfl, rfl⟩
    rintro _ _ ⟨rfl, rfl⟩
    with_reducible refine q_gname ?_
    with_reducible refine q_seq ?_
    with_reducible refine q_asg ?_
    refine q_lstC (n := 8) hP (by decide) (ConA.cons hP ?e0_0 (ConA.cons hP ?e0_1 (ConA.cons hP ?e0_2 (ConA.cons hP ?e0_3 (ConA.cons hP ?e0_4 (ConA.cons hP ?e0_5 (ConA.cons hP ?e0_6 (ConA.cons hP ?e0_7 (ConA.nil))))))))) ?_
    · intro G R kk
      walk_at "rdn"
      exact kk _ _ (Same.refl _) ⟨.inl ⟨_, .base .non, kt_NoneType_tuple⟩, .inr (.inr (.inr (.inr rfl))), _, .base .non, _, kt_NoneType_list⟩
    · intro G R kk
      walk_at "rdn"
      exact kk _ _ (Same.refl _) ⟨.inl ⟨_, .base (.int _), kt_int_tuple⟩, .inr (.inr (.inl ⟨_, rfl⟩)), _, .base (.int _), _, kt_int_list⟩
    · intro G R kk
      walk_at "rdn"
      exact kk _ _ (Same.refl _) ⟨.inl ⟨_, .base (.str _), kt_str_tuple⟩, .inr (.inl ⟨_, rfl⟩), _, .base (.str _), _, kt_str_list⟩
    · intro G R kk
      walk_at "rdn"
      intro t ht
      exact kk _ _ (Same.new ht) (show PB K m _ _ from ⟨.inl ⟨_, .base (.lst upd_same), kt_list_tuple⟩, .inl ⟨_, rfl⟩, _, .base (.lst upd_same), _, kt_list_list⟩)
    · intro G R kk
      walk_at "rdn"
      intro t ht
      exact kk _ _ (Same.new ht) (PB.a2 upd_same)
    · intro G R kk
      walk_at "rdn"
      intro t ht
      exact kk _ _ (Same.new ht) (PB.a4 (ys := []) upd_same (by decide) (by decide))
    · intro G R kk
      walk_at "rdn"
      intro t ht
      exact kk _ _ (Same.new ht) (PB.a5 upd_same (.int (by omega)))
    · intro G R kk
      walk_at "rdn"
      intro t ht
      exact kk _ _ (Same.new ht) (PB.a5 upd_same (.int (by omega)))
    intro b0 vs0 G0 s0 nb0 hb0 lb0 pb0
    with_reducible refine q_gname ?_
    have S := s0
    generalize vs0 = ws0 at hb0 lb0 pb0
    clear s0 nb0
    have hc := hb0
    have hn := lb0
    have hp0 := pb0
    clear hb0 lb0 pb0
    with_reducible refine q_seq ?_
    with_reducible refine q_asg ?_
    with_reducible refine q_op ?_
    (with_reducible refine' q_var ?h1 ?_); (case h1 => exact rfl)
    refine q_lstC (n := 6) hP (by decide) (ConA.cons hP ?e1_0 (ConA.cons hP ?e1_1 (ConA.cons hP ?e1_2 (ConA.cons hP ?e1_3 (ConA.cons hP ?e1_4 (ConA.cons hP ?e1_5 (ConA.nil))))))) ?_
    · intro G R kk
      walk_at "rdn"
      intro t ht
      exact kk _ _ (Same.new ht) (PB.a5 upd_same .bl)
    · intro G R kk
      walk_at "rdn"
      intro t ht
      exact kk _ _ (Same.new ht) (PB.a4 (ys := [_, _]) upd_same (by decide) (by decide))
    · intro G R kk
      walk_at "rdn"
      intro t ht
      exact kk _ _ (Same.new ht) (show PB K m _ _ from ⟨.inl ⟨_, .base (.dK upd_same), kt_dict_tuple⟩, .inl ⟨_, rfl⟩, _, .base (.dK upd_same), _, kt_dict_list⟩)
    · intro G R kk
      walk_at "rdn"
      intro t ht
      exact kk _ _ (Same.new ht) (PB.a5 upd_same .non)
    · intro G R kk
      walk_at "rdn"
      intro t ht
      exact kk _ _ (Same.new ht) (PB.a5 upd_same .str)
    · intro G R kk
      walk_at "rdn"
      intro i hi
      walk_at "rdn"
      intro t ht
      exact kk _ _ ((Same.new hi).trans (Same.new ht)) (PB.a5 upd_same (.lst (by walk_at "lk")))
    intro b1 vs1 G1 s1 nb1 hb1 lb1 pb1
    refine q_cat (s1 _ _ hc) hb1 (line_of (by omega)) ?_
    intro c1 hc1
    with_reducible refine q_gname ?_
    have S := S.trans (s1.trans (Same.new (o := .lst (ws0 ++ vs1)) hc1))
    have pp : ∀ v ∈ ws0 ++ vs1, PB K m (upd G1 c1 (.lst (ws0 ++ vs1))) v := fun v hv => by
      rcases List.mem_append.mp hv with hv | hv
      · exact (hp0 v hv).same (s1.trans (Same.new hc1))
      · exact (pb1 v hv).same (Same.new hc1)
    have ln : (ws0 ++ vs1).length = 14 := by rw [List.length_append]; omega
    have hq : upd G1 c1 (.lst (ws0 ++ vs1)) c1 = some (.lst (ws0 ++ vs1)) := upd_same
    generalize upd G1 c1 (.lst (ws0 ++ vs1)) = F1 at S pp hq ⊢
    generalize ws0 ++ vs1 = ws1 at pp hq ln
    clear hp0 hc hn s1 nb1 hb1 lb1 pb1 hc1
    have hp0 := pp
    have hc := hq
    have hn := ln
    clear pp hq ln
    with_reducible refine q_seq ?_
    with_reducible refine q_asg ?_
    with_reducible refine q_op ?_
    (with_reducible refine' q_var ?h1 ?_); (case h1 => exact rfl)
    refine q_lstC (n := 4) hP (by decide) (ConA.cons hP ?e2_0 (ConA.cons hP ?e2_1 (ConA.cons hP ?e2_2 (ConA.cons hP ?e2_3 (ConA.nil))))) ?_
    · intro G R kk
      walk_at "rdn"
      intro t ht
      exact kk _ _ (Same.new ht) (PB.a8 upd_same (by omega) (by omega) (.int (by omega)))
    · intro G R kk
      walk_at "rdn"
      intro t ht
      exact kk _ _ (Same.new ht) (PB.a7 upd_same (.int (by omega)))
    · intro G R kk
      walk_at "rdn"
      intro t ht
      exact kk _ _ (Same.new ht) (PB.a6 (ys := [_]) upd_same (by decide) (by decide))
    · intro G R kk
      walk_at "rdn"
      intro t ht
      exact kk _ _ (Same.new ht) (PB.a8 upd_same (by omega) (by omega) .bl)
    intro b2 vs2 G2 s2 nb2 hb2 lb2 pb2
    refine q_cat (s2 _ _ hc) hb2 (line_of (by omega)) ?_
    intro c2 hc2
    with_reducible refine q_gname ?_
    have S := S.trans (s2.trans (Same.new (o := .lst (ws1 ++ vs2)) hc2))
    have pp : ∀ v ∈ ws1 ++ vs2, PB K m (upd G2 c2 (.lst (ws1 ++ vs2))) v := fun v hv => by
      rcases List.mem_append.mp hv with hv | hv
      · exact (hp0 v hv).same (s2.trans (Same.new hc2))
      · exact (pb2 v hv).same (Same.new hc2)
    have ln : (ws1 ++ vs2).length = 18 := by rw [List.length_append]; omega
    have hq : upd G2 c2 (.lst (ws1 ++ vs2)) c2 = some (.lst (ws1 ++ vs2)) := upd_same
    generalize upd G2 c2 (.lst (ws1 ++ vs2)) = F2 at S pp hq ⊢
    generalize ws1 ++ vs2 = ws2 at pp hq ln
    clear hp0 hc hn s2 nb2 hb2 lb2 pb2 hc2
    have hp0 := pp
    have hc := hq
    have hn := ln
    clear pp hq ln
    with_reducible refine q_seq ?_
    with_reducible refine q_asg ?_
    with_reducible refine q_op ?_
    (with_reducible refine' q_var ?h1 ?_); (case h1 => exact rfl)
    refine q_lstC (n := 5) hP (by decide) (ConA.cons hP ?e3_0 (ConA.cons hP ?e3_1 (ConA.cons hP ?e3_2 (ConA.cons hP ?e3_3 (ConA.cons hP ?e3_4 (ConA.nil)))))) ?_
    · intro G R kk
      walk_at "rdn"
      intro t ht
      exact kk _ _ (Same.new ht) (PB.a8 upd_same (by omega) (by omega) .str)
    · intro G R kk
      walk_at "rdn"
      intro t ht
      exact kk _ _ (Same.new ht) (PB.a7 upd_same .non)
    · intro G R kk
      walk_at "rdn"
      intro t ht
      exact kk _ _ (Same.new ht) (PB.a7 upd_same .bl)
    · intro G R kk
      walk_at "rdn"
      intro t ht
      exact kk _ _ (Same.new ht) (PB.a7 upd_same .bl)
    · intro G R kk
      walk_at "rdn"
      intro t ht
      exact kk _ _ (Same.new ht) (PB.a7 upd_same (.int (by omega)))
    intro b3 vs3 G3 s3 nb3 hb3 lb3 pb3
    refine q_cat (s3 _ _ hc) hb3 (line_of (by omega)) ?_
    intro c3 hc3
    with_reducible refine q_gname ?_
    have S := S.trans (s3.trans (Same.new (o := .lst (ws2 ++ vs3)) hc3))
    have pp : ∀ v ∈ ws2 ++ vs3, PB K m (upd G3 c3 (.lst (ws2 ++ vs3))) v := fun v hv => by
      rcases List.mem_append.mp hv with hv | hv
      · exact (hp0 v hv).same (s3.trans (Same.new hc3))
      · exact (pb3 v hv).same (Same.new hc3)
    have ln : (ws2 ++ vs3).length = 23 := by rw [List.length_append]; omega
    have hq : upd G3 c3 (.lst (ws2 ++ vs3)) c3 = some (.lst (ws2 ++ vs3)) := upd_same
    generalize upd G3 c3 (.lst (ws2 ++ vs3)) = F3 at S pp hq ⊢
    generalize ws2 ++ vs3 = ws3 at pp hq ln
    clear hp0 hc hn s3 nb3 hb3 lb3 pb3 hc3
    have hp0 := pp
    have hc := hq
    have hn := ln
    clear pp hq ln
    with_reducible refine q_seq ?_
    with_reducible refine q_asg ?_
    with_reducible refine q_op ?_
    (with_reducible refine' q_var ?h1 ?_); (case h1 => exact rfl)
    refine q_lstC (n := 6) hP (by decide) (ConA.cons hP ?e4_0 (ConA.cons hP ?e4_1 (ConA.cons hP ?e4_2 (ConA.cons hP ?e4_3 (ConA.cons hP ?e4_4 (ConA.cons hP ?e4_5 (ConA.nil))))))) ?_
    · intro G R kk
      walk_at "rdn"
      intro t ht
      exact kk _ _ (Same.new ht) (PB.a3 (ys := [_]) upd_same (by decide) rfl (by decide +kernel) (by decide +kernel))
    · intro G R kk
      walk_at "rdn"
      intro t ht
      exact kk _ _ (Same.new ht) (PB.a6 (ys := [_, _, _]) upd_same (by decide) (by decide))
    · intro G R kk
      walk_at "rdn"
      intro i hi
      walk_at "rdn"
      intro t ht
      exact kk _ _ ((Same.new hi).trans (Same.new ht)) (PB.a3l (ys := [_, _]) upd_same (by decide) (.lst (SqL.of (by walk_at "lk")) (.cons (.str _) .nil)) (by decide +kernel))
    · intro G R kk
      walk_at "rdn"
      intro t ht
      exact kk _ _ (Same.new ht) (PB.a8 upd_same (by omega) (by omega) (.int (by omega)))
    · intro G R kk
      walk_at "rdn"
      intro t ht
      exact kk _ _ (Same.new ht) (PB.a8 upd_same (by omega) (by omega) .non)
    · intro G R kk
      walk_at "rdn"
      intro t ht
      exact kk _ _ (Same.new ht) (PB.a7 upd_same .str)
    intro b4 vs4 G4 s4 nb4 hb4 lb4 pb4
    refine q_cat (s4 _ _ hc) hb4 (line_of (by omega)) ?_
    intro c4 hc4
    with_reducible refine q_gname ?_
    have S := S.trans (s4.trans (Same.new (o := .lst (ws3 ++ vs4)) hc4))
    have pp : ∀ v ∈ ws3 ++ vs4, PB K m (upd G4 c4 (.lst (ws3 ++ vs4))) v := fun v hv => by
      rcases List.mem_append.mp hv with hv | hv
      · exact (hp0 v hv).same (s4.trans (Same.new hc4))
      · exact (pb4 v hv).same (Same.new hc4)
    have ln : (ws3 ++ vs4).length = 29 := by rw [List.length_append]; omega
    have hq : upd G4 c4 (.lst (ws3 ++ vs4)) c4 = some (.lst (ws3 ++ vs4)) := upd_same
    generalize upd G4 c4 (.lst (ws3 ++ vs4)) = F4 at S pp hq ⊢
    generalize ws3 ++ vs4 = ws4 at pp hq ln
    clear hp0 hc hn s4 nb4 hb4 lb4 pb4 hc4
    have hp0 := pp
    have hc := hq
    have hn := ln
    clear pp hq ln
    have hpF := S _ _ hp
    have hrF := S _ _ hr
    walk_at "rdn"
    intro D1 hD1
    refine lc_itemsB (fun _ => true) (SqL.of hc) (by omega) hD1 (fun x hx H2 R s2 hR => ?_) (fun H2 s2 e => ?_)
    · obtain ⟨n1, n0, ty, n2, n3⟩ := (hp0 x hx).same s2
      have hp2 := s2 _ _ hpF
      have hr2 := s2 _ _ hrF
      clear hp hr hs hta hp0 hc hn hpF hrF hx
      walk_at "rdn"
      refine r_law_did_2 rfl (hp := hp2) (hr := hr2) (hx := n1) (hnl := ⟨ty, n2, n3⟩) ?_
      intro u w H3 s3 hu hw
      walk_at "rdn"
      intro w2 hw2
      walk_at "rdn"
      intro u2 hu2
      walk_at "rdn"
      have hw' : upd (upd H3 w2 (HO.lst [V.str (Str.ofString "no deed"), V.str (Str.ofString "family")])) u2 (HO.tup [V.ref w2, x]) w = some (.lst (wNo.map V.str)) := by walk_at "lk"
      have hw2' : upd (upd H3 w2 (HO.lst [V.str (Str.ofString "no deed"), V.str (Str.ofString "family")])) u2 (HO.tup [V.ref w2, x]) w2 = some (.lst (wNo.map V.str)) := by walk_at "lk"
      refine q_eqXT (SqT.of (by walk_at "lk")) (SqT.of upd_same) (e1s_2 (.dat (.lst (SqL.of hw') DpStrs) (.lst (SqL.of hw2') DpStrs) (by decide +kernel) (by decide +kernel)) (e1_self n0)) ?_
      rw [show PyData.eqv (.list (wNo.map PyData.str)) (.list (wNo.map PyData.str)) = true by decide +kernel]
      exact hR _ (s3.trans ((Same.new hw2).trans (Same.new hu2)))
    · have S2 := S.trans s2
      have hpF := s2 _ _ hpF
      clear hp hr hs hta hp0 hc hn hrF
      walk_at "rdn"
      refine q_ifs (fun _ => ?_) (fun hf => absurd hf (by simp))
      with_reducible refine q_next ?_
      with_reducible refine q_ret ?_
      with_reducible refine q_cb ?_
      with_reducible refine q_cons ?_
      with_reducible refine q_lc ?_
      with_reducible refine q_iList ?_
      have hPN : ∀ H H' v, Same H H' → PN K m H v → PN K m H' v := fun _ _ _ s h => h.same s
      refine q_lstC (n := 7) hPN (by decide) (ConA.cons hPN ?f1 (ConA.cons hPN ?f2 (ConA.cons hPN ?f3 (ConA.cons hPN ?f4 (ConA.cons hPN ?f5 (ConA.cons hPN ?f6 (ConA.cons hPN ?f7 ConA.nil))))))) ?_
      · intro G R kk
        walk_at "rdn"
        exact kk _ _ (Same.refl _) ⟨.int (by omega), _, .int _, rfl, by simp [PyData.eqv]⟩
      · intro G R kk
        walk_at "rdn"
        exact kk _ _ (Same.refl _) ⟨.int (by omega), _, .int _, by decide +kernel, by decide +kernel⟩
      · intro G R kk
        walk_at "rdn"
        exact kk _ _ (Same.refl _) ⟨.non, _, .non, by decide +kernel, by decide +kernel⟩
      · intro G R kk
        walk_at "rdn"
        exact kk _ _ (Same.refl _) ⟨.bl, _, .bl _, by decide +kernel, by decide +kernel⟩
      · intro G R kk
        walk_at "rdn"
        exact kk _ _ (Same.refl _) ⟨.str, _, .str _, by decide +kernel, by decide +kernel⟩
      · intro G R kk
        walk_at "rdn"
        intro i hi
        exact kk _ _ (Same.new hi) ⟨.lst upd_same, _, .lst (SqL.of upd_same) (.cons (.int _) .nil), by decide +kernel, by decide +kernel⟩
      · intro G R kk
        walk_at "rdn"
        intro i hi
        exact kk _ _ (Same.new hi) ⟨.tup upd_same, _, .tup (SqT.of upd_same) (.cons (.int _) .nil), by decide +kernel, by decide +kernel⟩
      intro l3 vs3 G3 s3 nl3 hl3 ln3 hv3
      have hp3 := s3 _ _ hpF
      walk_at "rdn"
      intro D2 hD2
      refine lc_itemsB (fun _ => true) (SqL.of hl3) (by omega) hD2 (fun x hx H4 R s4 hR => ?_) (fun H4 s4 e => ?_)
      · obtain ⟨n1, d, n2, n3, n4⟩ := (hv3 x hx).same s4
        have hp4 := s4 _ _ hp3
        clear hpF hp3 hv3 hl3
        walk_at "rdn"
        exact hR
      · walk_at "rdn"
        exact R_of (k _ (S2.trans (s3.trans s4))) (by simp)
theorem ok_law (T : Tx K mg) : FnOk P w K mg base CX0 11 T.f_law T.d_law ["script"] (sp_law K) := by
  refine T.F_law.ok sc_law (fun vs H Q E h => ?_) (fun cdv A outer s H vs Q E hr h => ?_)
  · rcases h with ⟨a, ns, rfl, hs, hl, k⟩
    all_goals rfl
  · have hu := hu_of hr
    refine ⟨_, (pss_cons (ps_set (i := 1) sc_law.nd rfl (Or.inl rfl) (pe_lst (pa_cons (pe_op op_add pe_int (pe_op op_mod (pe_call (ok_law_cell_at (P := P) T) (hr.mono (by decide)) rfl T.m_law_cell_at T.k_law_cell_at T.b_law_cell_at .nil pass0 (pa_cons (pv 0) (pa_cons pe_int (pa_nil)))) pe_int)) (pa_cons (pe_op op_add pe_int (pe_op op_mod (pe_op op_fdivW (pe_call (ok_law_cell_at (P := P) T) (hr.mono (by decide)) rfl T.m_law_cell_at T.k_law_cell_at T.b_law_cell_at .nil pass0 (pa_cons (pv 0) (pa_cons pe_int (pa_nil)))) pe_int) pe_int)) (pa_nil)))))
      (pss_cons (ps_set (i := 2) sc_law.nd rfl (Or.inl rfl) (pe_lst (pa_cons (pe_make T.mk_PlainHall (ok_PlainHall_init (P := P) T) (hr.mono (by decide)) rfl T.g_PlainHall T.b_PlainHall_init .nil passL (pa_cons (pe_ix (ki_list (K := K) rfl) (pv 1) pe_int (fun _ _ => rfl)) (pa_nil))) (pa_cons (pe_make T.mk_PlainHall (ok_PlainHall_init (P := P) T) (hr.mono (by decide)) rfl T.g_PlainHall T.b_PlainHall_init .nil passL (pa_cons (pe_ix (ki_list (K := K) rfl) (pv 1) pe_int (fun _ _ => rfl)) (pa_nil))) (pa_nil)))))
      (pss_cons (ps_setLc (i := 3) (own := [("size", 15)]) (g := gName 15) (tt := tYes) rfl sc_law.nd rfl rfl (sw_true rfl rfl rfl (by decide +kernel)) (kpi_list (K := K) rfl (pv 1)) (blkOk_by (own := [("size", 15)]) (N := ["script", "sizes", "some", "states", "cell", "pool", "side", "way", "twin", "far", "kept", "state", "member", "number", "deed", "size", "ident", "thing"]) (sc := defScope s_law) (by decide +kernel)) (fun _ _ _ _ _ => (pg_name (i := 15) sc_law.nd rfl (Or.inl rfl))) (fun _ _ _ _ _ => pts_nil) (fun _ _ _ _ _ => (pe_disp (pps_cons pe_str (pe_lst pa_nil) (pps_cons pe_str (pe_op op_rep (pe_lst (pa_cons pe_int (pa_nil))) (pv 15)) pps_nil)) (by rfl) (by rfl) (fun z => by cases z) (by decide))))
      (pss_cons (ps_for PassesOwn.never rfl (kpi_list (K := K) rfl (pe_slice (ks_list (K := K) rfl) (pv 0) (po_some pe_int) (po_some pe_int))) (pg_name (i := 4) sc_law.nd rfl (Or.inl rfl))
      (pss_cons (ps_set (i := 5) sc_law.nd rfl (Or.inl rfl) (pe_call (ok_law_pool (P := P) T) (hr.mono (by decide)) rfl T.m_law_pool T.k_law_pool T.b_law_pool .nil pass0 (pa_cons (pv 4) (pa_nil))))
      (pss_cons (ps_set (i := 6) sc_law.nd rfl (Or.inl rfl) (pe_call (ok_law_take (P := P) T) (hr.mono (by decide)) rfl T.m_law_take T.k_law_take T.b_law_take .nil pass0 (pa_cons (pv 5) (pa_cons pe_int (pa_nil)))))
      (pss_cons (ps_set (i := 7) sc_law.nd rfl (Or.inl rfl) (pe_call (ok_law_take (P := P) T) (hr.mono (by decide)) rfl T.m_law_take T.k_law_take T.b_law_take .nil pass0 (pa_cons (pv 5) (pa_cons pe_int (pa_nil)))))
      (pss_cons (ps_set (i := 8) sc_law.nd rfl (Or.inl rfl) (pe_call (ok_law_take (P := P) T) (hr.mono (by decide)) rfl T.m_law_take T.k_law_take T.b_law_take .nil pass0 (pa_cons (pv 5) (pa_cons pe_int (pa_nil)))))
      (pss_cons (ps_set (i := 9) sc_law.nd rfl (Or.inl rfl) (pe_call (ok_law_take (P := P) T) (hr.mono (by decide)) rfl T.m_law_take T.k_law_take T.b_law_take .nil pass0 (pa_cons (pv 5) (pa_cons (pe_ix (ki_list (K := K) rfl) (pe_lst (pa_cons pe_int (pa_cons pe_int (pa_cons (pe_op op_pow pe_int pe_int) (pa_nil))))) (pe_call (ok_law_take (P := P) T) (hr.mono (by decide)) rfl T.m_law_take T.k_law_take T.b_law_take .nil pass0 (pa_cons (pv 5) (pa_cons pe_int (pa_nil)))) (fun _ _ => rfl)) (pa_nil)))))
      (pss_cons (ps_if (pt_cmpR op_eq (pv 8) pe_int (nomark _))
      (pss_cons (ps_asg (pe_meth0 (pe_ix (ki_list (K := K) rfl) (pv 2) (pv 6) (fun _ _ => rfl)) T.c_PlainHall T.mt_PlainHall_twin (ok_PlainHall_twin (P := P) T) (hr.mono (by decide)) T.b_PlainHall_twin .nil passL) (pg_sub (pv 2) (pe_op op_sub pe_int (pv 6)) set_list))
      (pss_cons (ps_set (i := 10) sc_law.nd rfl (Or.inl rfl) (pe_ix (ki_list (K := K) rfl) (pv 3) (pv 6) (fun _ _ => rfl)))
      (pss_one (ps_asg (pe_disp (pps_cons pe_str (pe_callTy (T := "list") (kx_list (K := K) rfl) (by rfl) T.z_list (by decide +kernel) (pa_cons (pe_dget (room1 hr) (pv 10) pe_str (fun _ _ => rfl)) (pa_nil))) (pps_cons pe_str (pe_callTy (T := "list") (kx_list (K := K) rfl) (by rfl) T.z_list (by decide +kernel) (pa_cons (pe_dget (room1 hr) (pv 10) pe_str (fun _ _ => rfl)) (pa_nil))) pps_nil)) (by rfl) (by rfl) (fun z => by cases z) (by decide)) (pg_sub (pv 3) (pe_op op_sub pe_int (pv 6)) set_list))))) pss_nil)
      (pss_cons (ps_set (i := 11) sc_law.nd rfl (Or.inl rfl) (pe_ix (ki_list (K := K) rfl) (pv 3) (pv 6) (fun _ _ => rfl)))
      (pss_cons (ps_set (i := 12) sc_law.nd rfl (Or.inr rfl) (pe_call (ok_law_take (P := P) T) (hr.mono (by decide)) rfl T.m_law_take T.k_law_take T.b_law_take .nil pass0 (pa_cons (pv 5) (pa_cons (pe_callB (id := "len") (kx_len (K := K) rfl) (by rfl) T.z_len (by decide +kernel) (pa_cons (pe_dget (room1 hr) (pv 11) pe_str (fun _ _ => rfl)) (pa_nil))) (pa_nil)))))
      (pss_cons (ps_set (i := 13) sc_law.nd rfl (Or.inl rfl) (pe_callB (id := "len") (kx_len (K := K) rfl) (by rfl) T.z_len (by decide +kernel) (pa_cons (pe_lc (own := [("ident", 16)]) (g := gName 16) rfl sc_law.nd (kpi_list (K := K) rfl (pe_dget (room1 hr) (pv 11) pe_str (fun _ _ => rfl))) (blkOk_by (own := [("ident", 16)]) (N := ["script", "sizes", "some", "states", "cell", "pool", "side", "way", "twin", "far", "kept", "state", "member", "number", "deed", "size", "ident", "thing"]) (sc := defScope s_law) (by decide +kernel)) (fun _ _ _ _ _ => (pg_name (i := 16) sc_law.nd rfl (Or.inl rfl))) (fun _ _ _ _ _ => (pts_one (pt_cmpR op_eq (pe_ix (ki_tup (K := K) rfl) (pv 16) pe_int (fun _ _ => rfl)) (pv 12) (nomark _)))) (fun _ _ _ _ _ => (pv 16))) (pa_nil))))
      (pss_cons (ps_set (i := 14) sc_law.nd rfl (Or.inl rfl) (pe_tup (pa_cons pe_str (pa_cons (pv 12) (pa_nil)))))
      (pss_cons (ps_if (pt_cmpR op_lt (pv 7) pe_int (nomark _))
      (pss_one (ps_set (i := 14) sc_law.nd rfl (Or.inl rfl) (pe_tup (pa_cons pe_str (pa_cons (pv 12) (pa_cons (pe_op op_add (pv 13) pe_int) (pa_nil))))))) pss_nil)
      (pss_cons (ps_if (pt_cmpR op_eq (pv 7) pe_int (nomark _))
      (pss_one (ps_set (i := 14) sc_law.nd rfl (Or.inl rfl) (pe_tup (pa_cons pe_str (pa_cons (pv 12) (pa_cons (pe_callB (id := "max") (call_maxA rfl) (by rfl) T.z_max (by decide +kernel) (pa_cons pe_int (pa_cons (pe_op op_sub (pe_op op_add (pv 13) pe_int) (pv 9)) (pa_nil)))) (pa_nil))))))) pss_nil)
      (pss_cons (ps_if (pt_cmpR op_eq (pv 7) pe_int (nomark _))
      (pss_one (ps_set (i := 14) sc_law.nd rfl (Or.inl rfl) (pe_tup (pa_cons pe_str (pa_cons (pv 12) (pa_cons (pe_op op_add (pe_op op_add (pv 13) pe_int) (pv 9)) (pa_nil))))))) pss_nil)
      (pss_cons (ps_if (pt_cmpR op_gt (pe_callB (id := "len") (kx_len (K := K) rfl) (by rfl) T.z_len (by decide +kernel) (pa_cons (pe_dget (room1 hr) (pv 11) pe_str (fun _ _ => rfl)) (pa_nil))) pe_int (nomark _))
      (pss_one (ps_set (i := 14) sc_law.nd rfl (Or.inl rfl) (pe_tup (pa_cons pe_str (pa_cons (pv 12) (pa_nil)))))) pss_nil)
      (pss_cons (ps_if (pt_not (pt_val (pe_call (ok_law_done (P := P) T) (hr.mono (by decide)) rfl T.m_law_done T.k_law_done T.b_law_done .nil pass0 (pa_cons (pe_ix (ki_list (K := K) rfl) (pv 2) (pv 6) (fun _ _ => rfl)) (pa_cons (pv 11) (pa_cons (pv 14) (pa_nil)))))))
      (pss_one (ps_ret pe_bl)) pss_nil)
      (pss_cons (ps_if (pt_not (pt_val (pe_call (ok_law_stands (P := P) T) (hr.mono (by decide)) rfl T.m_law_stands T.k_law_stands T.b_law_stands .nil pass0 (pa_cons (pe_ix (ki_list (K := K) rfl) (pv 2) (pe_op op_sub pe_int (pv 6)) (fun _ _ => rfl)) (pa_cons (pe_ix (ki_list (K := K) rfl) (pv 3) (pe_op op_sub pe_int (pv 6)) (fun _ _ => rfl)) (pa_nil))))))
      (pss_one (ps_ret pe_bl)) pss_nil)
      (pss_cons (ps_if (pt_cmpR op_ne (pe_cmpR (op_eqO rfl T.mt_PlainHall_eq.at_ T.mt_PlainHall_eq.fn (ok_PlainHall_eq (P := P) T) (hr.mono (by decide)) T.b_PlainHall_eq pass0) (pe_ix (ki_list (K := K) rfl) (pv 2) pe_int (fun _ _ => rfl)) (pe_ix (ki_list (K := K) rfl) (pv 2) pe_int (fun _ _ => rfl)) (nomark _)) (pe_cmpR (op_eqK2 (K := K) rfl (room128 hr)) (pe_ix (ki_list (K := K) rfl) (pv 3) pe_int (fun _ _ => rfl)) (pe_ix (ki_list (K := K) rfl) (pv 3) pe_int (fun _ _ => rfl)) (nomark _)) (nomark _))
      (pss_one (ps_ret pe_bl)) pss_nil)
      (pss_cons (ps_if (PW.pt (pw_and (pt_cmpR op_eq (pv 8) pe_int (nomark _)) (pw_and1 (pt_not (pt_val (pe_call (ok_law_bad (P := P) T) (hr.mono (by decide)) rfl T.m_law_bad T.k_law_bad T.b_law_bad .nil pass0 (pa_cons (pe_ix (ki_list (K := K) rfl) (pv 2) (pv 6) (fun _ _ => rfl)) (pa_cons (pv 11) (pa_nil)))))))))
      (pss_one (ps_ret pe_bl)) pss_nil)
      (pss_one (ps_if (pt_not (pt_val (pe_call (ok_law_stands (P := P) T) (hr.mono (by decide)) rfl T.m_law_stands T.k_law_stands T.b_law_stands .nil pass0 (pa_cons (pe_ix (ki_list (K := K) rfl) (pv 2) (pv 6) (fun _ _ => rfl)) (pa_cons (pv 11) (pa_nil))))))
      (pss_one (ps_ret pe_bl)) pss_nil)))))))))))))))))))))
      (pss_cons (ps_if (PW.pt (pw_or (pt_not (pt_val (pe_call (ok_law_bad (P := P) T) (hr.mono (by decide)) rfl T.m_law_bad T.k_law_bad T.b_law_bad .nil pass0 (pa_cons (pe_ix (ki_list (K := K) rfl) (pv 2) pe_int (fun _ _ => rfl)) (pa_cons (pe_ix (ki_list (K := K) rfl) (pv 3) pe_int (fun _ _ => rfl)) (pa_nil)))))) (pw_or1 (pt_not (pt_val (pe_call (ok_law_stands (P := P) T) (hr.mono (by decide)) rfl T.m_law_stands T.k_law_stands T.b_law_stands .nil pass0 (pa_cons (pe_ix (ki_list (K := K) rfl) (pv 2) pe_int (fun _ _ => rfl)) (pa_cons (pe_ix (ki_list (K := K) rfl) (pv 3) pe_int (fun _ _ => rfl)) (pa_nil)))))))))
      (pss_one (ps_ret pe_bl)) pss_nil)
      (pss_one (ps_ret (pe_callB (id := "all") (kx_all (K := K) rfl rfl) (by rfl) T.z_all (by decide +kernel) (pa_cons (pe_lc (own := [("thing", 17)]) (g := gName 17) (tt := tYes) rfl sc_law.nd (kpi_list (K := K) rfl (pe_lst (pa_cons pe_int (pa_cons pe_int (pa_cons pe_int (pa_cons (pe_un un_neg pe_int) (pa_cons pe_non (pa_cons pe_bl (pa_cons pe_str (pa_cons (pe_lst (pa_cons pe_int (pa_nil))) (pa_cons (pe_op op_pow pe_int pe_int) (pa_nil)))))))))))) (blkOk_by (own := [("thing", 17)]) (N := ["script", "sizes", "some", "states", "cell", "pool", "side", "way", "twin", "far", "kept", "state", "member", "number", "deed", "size", "ident", "thing"]) (sc := defScope s_law) (by decide +kernel)) (fun _ _ _ _ _ => (pg_name (i := 17) sc_law.nd rfl (Or.inl rfl))) (fun _ _ _ _ _ => pts_nil) (fun _ _ _ _ _ => (pe_call (ok_law_made (P := P) T) (hr.mono (by decide)) rfl T.m_law_made T.k_law_made T.b_law_made .nil pass0 (pa_cons (pv 17) (pa_nil))))) (pa_nil)))))))))), ?_⟩
    rcases h with ⟨a, ns, rfl, hs, hl, k⟩
    walk_at "rdn"
    intro c0
    walk_at "rdn"
    intro c1
    walk_at "rdn"
    intro z1 hz1
    obtain ⟨m0, hm0⟩ : ∃ m0, m0 = 2 + c0 % 4 := ⟨_, rfl⟩
    obtain ⟨m1, hm1⟩ : ∃ m1, m1 = 2 + c1 / 4 % 4 := ⟨_, rfl⟩
    have g0 : 2 ≤ m0 := by omega
    have g0' : m0 ≤ 5 := by omega
    have g1 : 2 ≤ m1 := by omega
    have g1' : m1 ≤ 5 := by omega
    rw [← hm0, ← hm1]
    clear hm0 hm1
    have sA : Same H (upd H z1 (.lst [.int m0, .int m1])) := Same.new hz1
    have eA : upd H z1 (.lst [.int m0, .int m1]) z1 = some (.lst [.int m0, .int m1]) := upd_same
    generalize upd H z1 (.lst [.int m0, .int m1]) = A1 at sA eA ⊢
    have hs := sA.seq hs
    clear hz1
    walk_at "rdn"
    intro p0 dx0 np0 ndx0 ne0
    refine r_PlainHall_init_1 rfl (hp := upd_same) (h2 := g0) (h5 := g0') ?_
    intro r0 t0 A2 f1 e1 e2 e3 n1 n2 n3
    refine ⟨rfl, ?_⟩
    have s1 : Same A1 A2 := fun b o eb => f1 b o (by walk_at "ne") (by walk_at "lk")
    have q1 : A1 r0 = none := by walk_at "fr"
    have q2 : A1 t0 = none := by walk_at "fr"
    have eA := s1 _ _ eA
    have hs := s1.seq hs
    clear f1 n1 n2 np0 ndx0 ne0
    walk_at "rdn"
    intro p1 dx1 np1 ndx1 ne1
    refine r_PlainHall_init_1 rfl (hp := upd_same) (h2 := g1) (h5 := g1') ?_
    intro r1 t1 A3 f2 e4 e5 e6 n4 n5 n6
    refine ⟨rfl, ?_⟩
    have s2 : Same A2 A3 := fun b o eb => f2 b o (by walk_at "ne") (by walk_at "lk")
    have q3 : A2 r1 = none := by walk_at "fr"
    have q4 : A2 t1 = none := by walk_at "fr"
    have eA := s2 _ _ eA
    have hs := s2.seq hs
    have b1 := s2 _ _ e1
    have b2 := s2 _ _ e2
    have b3 := s2 _ _ e3
    clear f2 n4 n5 np1 ndx1 ne1
    walk_at "rdn"
    intro S hS
    have ap1 : [S, r0, t0, r1, t1].Nodup := by
      have x1 : S ≠ r0 := by walk_at "ne"
      have x2 : S ≠ t0 := by walk_at "ne"
      have x3 : S ≠ r1 := by walk_at "ne"
      have x4 : S ≠ t1 := by walk_at "ne"
      have x5 : r0 ≠ r1 := ne_of_none e2 q3
      have x6 : r0 ≠ t1 := ne_of_none e2 q4
      have x7 : t0 ≠ r1 := ne_of_none e3 q3
      have x8 : t0 ≠ t1 := ne_of_none e3 q4
      simp [x1, x2, x3, x4, x5, x6, x7, x8, n3, n6]
    have s3 : Same A3 (upd A3 S (.lst [.ref p0, .ref p1])) := Same.new hS
    have eS : upd A3 S (.lst [.ref p0, .ref p1]) S = some (.lst [.ref p0, .ref p1]) := upd_same
    generalize upd A3 S (.lst [.ref p0, .ref p1]) = A4 at s3 eS ⊢
    have b1 := s3 _ _ b1
    have b2 := s3 _ _ b2
    have b3 := s3 _ _ b3
    have b4 := s3 _ _ e4
    have b5 := s3 _ _ e5
    have b6 := s3 _ _ e6
    have eA := s3 _ _ eA
    have hs := s3.seq hs
    clear sA s1 s2 s3 e1 e2 e3 e4 e5 e6 q1 q2 q3 q4 n3 n6 hS
    walk_at "rdn"
    intro D hD
    refine lc_any walk_list (fun k ys H' => Sts D A4 [m0, m1] k ys H') (by simp) (fun k ys H H' h s => h.same s) (fun k ys H acc h => h.put) ⟨[], rfl, rfl, fun j x e => (by simp at e), by simp⟩ (fun H' s => s.seq (SqL.of eA)) hD ?_ ?_ gName_m tYes_m
    · rintro j x ys B1 B2 R R2 hj s5 hst hDB ⟨rfl, hx⟩ hR hR2
      obtain ⟨mm, rfl, hmm, hm2, hm5⟩ : ∃ mm : Int, x = .int mm ∧ mm = [m0, m1].getD j 0 ∧ 2 ≤ mm ∧ mm ≤ 5 := by
        simp only [List.length_cons, List.length_nil] at hj
        rcases (show j = 0 ∨ j = 1 by omega) with rfl | rfl
        · exact ⟨m0, by simpa using hx.symm, rfl, g0, g0'⟩
        · exact ⟨m1, by simpa using hx.symm, rfl, g1, g1'⟩
      refine ⟨wipe_set, q_yes ⟨hR true _ (Same.refl _) (fun h => nomatch h), fun _ => ?_⟩⟩
      clear hR hs eS b1 b2 b3 b4 b5 b6 eA ap1
      walk_at "rdn"
      intro s1 hs1
      walk_at "rdn"
      intro ra hra
      walk_at "rdn"
      intro u1 hu1
      walk_at "rdn"
      refine q_rep (xs := [V.int 0]) upd_same (by omega) (by omega) (line_of (by simp only [List.length_cons, List.length_nil]; omega)) ?_
      rw [rep_ints]
      intro ta hta
      walk_at "rdn"
      have n1 : s1 ≠ ra := by walk_at "ne"
      have n2 : s1 ≠ ta := by walk_at "ne"
      have n3 : ra ≠ ta := by walk_at "ne"
      have n4 : ra ≠ u1 := by walk_at "ne"
      have y1 : B2 ra = none := by walk_at "fr"
      have y2 : B2 ta = none := by walk_at "fr"
      have d1 : s1 ≠ D := (ne_of_none hDB hs1).symm
      have d2 : ra ≠ D := (ne_of_none hDB y1).symm
      have d3 : ta ≠ D := (ne_of_none hDB y2).symm
      refine q_kvs [(.inr "row", .ref ra), (.inr "told", .ref ta)] (by walk_at "lk") rfl (by simp) ?_
      rw [mergeK2 (by decide +kernel)]
      have w1 : (upd (upd (upd (upd B2 s1 (HO.dK [])) ra (HO.lst [])) u1 (HO.lst [V.int 0])) ta (HO.lst (List.map V.int (List.replicate mm.toNat 0)))) ra = some (.lst []) := by walk_at "lk"
      have w2 : (upd (upd (upd (upd B2 s1 (HO.dK [])) ra (HO.lst [])) u1 (HO.lst [V.int 0])) ta (HO.lst (List.map V.int (List.replicate mm.toNat 0)))) ta = some (.lst ((List.replicate mm.toNat (0 : Int)).map V.int)) := upd_same
      have w3 : Same B2 (upd (upd (upd (upd B2 s1 (HO.dK [])) ra (HO.lst [])) u1 (HO.lst [V.int 0])) ta (HO.lst (List.map V.int (List.replicate mm.toNat 0)))) := by walk_at "sm"
      generalize upd (upd (upd (upd B2 s1 (HO.dK [])) ra (HO.lst [])) u1 (HO.lst [V.int 0])) ta (HO.lst (List.map V.int (List.replicate mm.toNat 0))) = B3 at w1 w2 w3 ⊢
      refine hR2 _ _ ?_ ?_
      · exact Same.snew w3 hs1
      · exact Sts.snoc hst (Same.snew w3 hs1) ⟨upd_same, (upd_ne n1.symm).trans w1, by rw [← hmm]; exact (upd_ne n2.symm).trans w2, ⟨d1, d2, d3⟩, s5.free y1, s5.free y2⟩ y1 y2 n3
    · intro ys B1 s5 hst hDB
      obtain ⟨l, rfl, hl2, hl3, hnd⟩ := hst
      obtain ⟨⟨s0, ra0, ta0⟩, ⟨s1, ra1, ta1⟩, rfl⟩ : ∃ x0 x1, l = [x0, x1] := by
        match l, hl2 with
        | [x0, x1], _ => exact ⟨x0, x1, rfl⟩
      have k0 : StA D A4 B1 (s0, ra0, ta0) m0 := hl3 0 _ rfl
      have k1 : StA D A4 B1 (s1, ra1, ta1) m1 := hl3 1 _ rfl
      have nd2 : [D, S, r0, t0, r1, t1, ra0, ta0, ra1, ta1].Nodup := by
        refine List.nodup_cons.mpr ⟨?_, (List.nodup_append (l₁ := [S, r0, t0, r1, t1]) (l₂ := [ra0, ta0, ra1, ta1])).mpr ⟨ap1, hnd, ?_⟩⟩
        · intro hx
          rcases List.mem_append.mp (show D ∈ [S, r0, t0, r1, t1] ++ [ra0, ta0, ra1, ta1] from hx) with hx | hx
          · exact not_al hD (al_cons ⟨_, eS⟩ (al_cons ⟨_, b2⟩ (al_cons ⟨_, b3⟩ (al_cons ⟨_, b5⟩ (al_cons ⟨_, b6⟩ al_nil))))) hx
          · simp only [List.mem_cons, List.not_mem_nil, or_false] at hx
            rcases hx with hx | hx | hx | hx
            · exact k0.d.2.1 hx.symm
            · exact k0.d.2.2 hx.symm
            · exact k1.d.2.1 hx.symm
            · exact k1.d.2.2 hx.symm
        · intro x hx y hy
          have hy0 : A4 y = none := by
            simp only [List.mem_cons, List.not_mem_nil, or_false] at hy
            rcases hy with rfl | rfl | rfl | rfl
            · exact k0.f.1
            · exact k0.f.2
            · exact k1.f.1
            · exact k1.f.2
          intro e
          exact not_al hy0 (al_cons ⟨_, eS⟩ (al_cons ⟨_, b2⟩ (al_cons ⟨_, b3⟩ (al_cons ⟨_, b5⟩ (al_cons ⟨_, b6⟩ al_nil))))) (e ▸ hx)
      have eS := s5 _ _ eS
      have b2 := s5 _ _ b2
      have b3 := s5 _ _ b3
      have b5 := s5 _ _ b5
      have b6 := s5 _ _ b6
      have side0 : Side T.C_PlainHall B1 ⟨p0, s0, r0, t0, ra0, ta0, m0, [], List.replicate m0.toNat 0⟩ := ⟨⟨dx0, s5 _ _ b1⟩, ⟨[], b2, .nil⟩, b3, k0.s, ⟨[], k0.ra, .nil⟩, k0.ta, GoodS.zero (m := m0) (by omega), g0, g0', by simp⟩
      have side1 : Side T.C_PlainHall B1 ⟨p1, s1, r1, t1, ra1, ta1, m1, [], List.replicate m1.toNat 0⟩ := ⟨⟨dx1, s5 _ _ b4⟩, ⟨[], b5, .nil⟩, b6, k1.s, ⟨[], k1.ra, .nil⟩, k1.ta, GoodS.zero (m := m1) (by omega), g1, g1', by simp⟩
      have hs := s5.seq hs
      walk_at "rdn"
      intro d hd
      have nd3 : [d, D, S, r0, t0, r1, t1, ra0, ta0, ra1, ta1].Nodup := List.nodup_cons.mpr ⟨not_al hd (al_cons ⟨_, hDB⟩ (al_cons ⟨_, eS⟩ (al_cons ⟨_, b2⟩ (al_cons ⟨_, b3⟩ (al_cons ⟨_, b5⟩ (al_cons ⟨_, b6⟩ (al_cons ⟨_, k0.ra⟩ (al_cons ⟨_, k0.ta⟩ (al_cons ⟨_, k1.ra⟩ (al_cons ⟨_, k1.ta⟩ al_nil)))))))))), nd2⟩
      have hlen := cutV_length (List.map V.int ns) (some 1) (some 61)
      rw [List.length_map] at hlen
      have hall : ∀ x ∈ cutV (List.map V.int ns) (some 1) (some 61), ∃ n : Int, x = .int n := fun x hx => by
        obtain ⟨n, _, rfl⟩ := List.mem_map.mp (cutV_mem hx)
        exact ⟨n, rfl⟩
      generalize cutV (List.map V.int ns) (some 1) (some 61) = xs at hlen hall ⊢
      have sd : Same B1 (upd B1 d (.lst xs)) := Same.new hd
      have ed : upd B1 d (.lst xs) d = some (.lst xs) := upd_same
      generalize upd B1 d (.lst xs) = B2 at sd ed ⊢
      have inv : TwoH T.C_PlainHall S D d xs B2 0 ⟨p0, s0, r0, t0, ra0, ta0, m0, [], List.replicate m0.toNat 0⟩ ⟨p1, s1, r1, t1, ra1, ta1, m1, [], List.replicate m1.toNat 0⟩ :=
        ⟨.inl ⟨rfl, sd _ _ eS⟩, .inl ⟨rfl, sd _ _ hDB⟩, ed, side0.same sd, side1.same sd, List.Perm.nodup (List.Perm.map (fun i => [d, D, S, r0, t0, r1, t1, ra0, ta0, ra1, ta1].getD i d) (show [0, 1, 2, 3, 4, 5, 6, 7, 8, 9, 10].Perm [2, 1, 0, 3, 4, 7, 8, 5, 6, 9, 10] by decide)) nd3⟩
      clear hd hs eS eA hDB ap1 b1 b2 b3 b4 b5 b6 nd2 nd3 side0 side1 k0 k1 hl3 hnd sd s5 hlen
      walk_at "rdn"
      refine for_list (K := K) (a := d) (xs := xs) (fun i σ H' => (∃ u4 u5 u6 u7 u8 u9 u10 u11 u12 u13 u14 u15 u16 u17 : Option V, σ = [some (.ref a), some (.ref z1), some (.ref S), some (.ref D), u4, u5, u6, u7, u8, u9, u10, u11, u12, u13, u14, u15, u16, u17]) ∧ ∃ x y, TwoH T.C_PlainHall S D d xs H' 0 x y) ⟨⟨none, none, none, none, none, none, none, none, none, none, none, none, none, none, rfl⟩, _, _, inv⟩ (fun i σ H' _ h => by
        obtain ⟨_, x, y, h⟩ := h
        exact SqL.of h.hc) ?_ ?_
      · rintro i cell σ H1 hx ⟨⟨u4, u5, u6, u7, u8, u9, u10, u11, u12, u13, u14, u15, u16, u17, rfl⟩, x, y, inv⟩
        obtain ⟨n, rfl⟩ := hall cell (List.mem_of_getElem? hx)
        with_reducible refine q_gname ?_
        refine q_seqC (fun σ' H' => ∃ q, σ' = [some (.ref a), some (.ref z1), some (.ref S), some (.ref D), some (.int n), some (.ref q), u6, u7, u8, u9, u10, u11, u12, u13, u14, u15, u16, u17] ∧ PL T.C_PlainHall S D d xs q H' 0 x y) (fun N k1 => ?_) ?_
        · walk_at "rdn"
          intro q z hq hz
          walk_at "rdn"
          exact k1 _ _ ⟨q, rfl, PL.new inv hq z⟩
        rintro σ H2 ⟨q, rfl, pl⟩
        clear inv
        refine q_seqC (fun σ' H' => ∃ j : Int, 0 ≤ j ∧ j < 2 ∧ σ' = [some (.ref a), some (.ref z1), some (.ref S), some (.ref D), some (.int n), some (.ref q), some (.int j), u7, u8, u9, u10, u11, u12, u13, u14, u15, u16, u17] ∧ PL T.C_PlainHall S D d xs q H' 0 x y) (fun N k1 => ?_) ?_
        · obtain ⟨z, hz⟩ := pl.hq
          walk_at "rdn"
          exact k1 _ _ ⟨_, by omega, by omega, rfl, pl.take _⟩
        rintro σ H3 ⟨j, hj0, hj1, rfl, pl⟩
        obtain ⟨x, y, pl⟩ := pl.at hj0 hj1
        refine q_seqC (fun σ' H' => ∃ wy : Int, σ' = [some (.ref a), some (.ref z1), some (.ref S), some (.ref D), some (.int n), some (.ref q), some (.int j), some (.int wy), u8, u9, u10, u11, u12, u13, u14, u15, u16, u17] ∧ PL T.C_PlainHall S D d xs q H' j x y) (fun N k1 => ?_) ?_
        · obtain ⟨z, hz⟩ := pl.hq
          walk_at "rdn"
          exact k1 _ _ ⟨_, rfl, pl.take _⟩
        rintro σ H4 ⟨wy, rfl, pl⟩
        refine q_seqC (fun σ' H' => ∃ tw : Int, σ' = [some (.ref a), some (.ref z1), some (.ref S), some (.ref D), some (.int n), some (.ref q), some (.int j), some (.int wy), some (.int tw), u9, u10, u11, u12, u13, u14, u15, u16, u17] ∧ PL T.C_PlainHall S D d xs q H' j x y) (fun N k1 => ?_) ?_
        · obtain ⟨z, hz⟩ := pl.hq
          walk_at "rdn"
          exact k1 _ _ ⟨_, rfl, pl.take _⟩
        rintro σ H5 ⟨tw, rfl, pl⟩
        refine q_seqC (fun σ' H' => ∃ far : Int, 0 ≤ far ∧ σ' = [some (.ref a), some (.ref z1), some (.ref S), some (.ref D), some (.int n), some (.ref q), some (.int j), some (.int wy), some (.int tw), some (.int far), u10, u11, u12, u13, u14, u15, u16, u17] ∧ PL T.C_PlainHall S D d xs q H' j x y) (fun N k1 => ?_) ?_
        · obtain ⟨z, hz⟩ := pl.hq
          walk_at "rdn"
          intro l hl
          have pl1 := (pl.same (Same.new (o := .lst [.int 1, .int 4, .int (10 ^ Int.toNat 29)]) hl)).take (z / 3)
          have nlq : q ≠ l := by walk_at "ne"
          walk_at "rdn"
          obtain ⟨v, hv, mm, rfl, hm0, hmb⟩ := at_all [V.int 1, V.int 4, V.int (10 ^ Int.toNat 29)] (fun v => ∃ m : Int, v = .int m ∧ 0 < m ∧ m.natAbs < 2 ^ 8000) (i := z % 3) (fun v hv => by
            simp only [List.mem_cons, List.not_mem_nil, or_false] at hv
            rcases hv with rfl | rfl | rfl
            · exact ⟨_, rfl, by decide, by decide +kernel⟩
            · exact ⟨_, rfl, by decide, by decide +kernel⟩
            · exact ⟨_, rfl, by decide +kernel, by decide +kernel⟩) (by omega) (by simp; omega)
          refine q_ixL (K := K) (SqL.of (by walk_at "lk")) hv ?_
          walk_at "rdn"
          exact k1 _ _ ⟨_, Int.emod_nonneg _ (by omega), rfl, pl1.take _⟩
        rintro σ H6 ⟨far, hfar, rfl, pl⟩
        refine q_seqC (fun σ' H' => ∃ (u10 : Option V) (y : HL), σ' = [some (.ref a), some (.ref z1), some (.ref S), some (.ref D), some (.int n), some (.ref q), some (.int j), some (.int wy), some (.int tw), some (.int far), u10, u11, u12, u13, u14, u15, u16, u17] ∧ PL T.C_PlainHall S D d xs q H' j x y) (fun N k1 => ?_) ?_
        · walk_at "rdn"
          refine q_ifx (fun h => ?_) (fun h => ?_)
          · obtain ⟨dx, hp⟩ := pl.inv.ha.hp
            obtain ⟨xr, hr, hxr⟩ := pl.inv.ha.hr
            obtain ⟨xra, hra, hxra⟩ := pl.inv.ha.hra
            have ht := pl.inv.ha.ht
            have hs := pl.inv.ha.hs
            have hta := pl.inv.ha.hta
            have h2 := pl.inv.ha.h2
            have h5 := pl.inv.ha.h5
            walk_at "rdn"
            refine q_twoA pl.inv.hS ?_
            walk_at "rdn"
            intro q2 dq r2 t2 G1 s1 e1 e2 e3 n1 n2 n3
            walk_at "rdn"
            refine q_twoS ((pl.same s1).inv.hS) ?_
            intro G2 f2 hS2
            have nST := pl.inv.nST
            have hL2 : ∀ b ∈ [S], ∃ xs, G1 b = some (.lst xs) := fun b hb => by rw [List.mem_singleton.mp hb]; exact (pl.same s1).inv.hS.lst
            have hT2 := ((pl.same s1).inv.hT).keep f2 (fun hx => nST (List.mem_singleton.mp hx).symm)
            have hs2 := f2.no hL2 (s1 _ _ hs) (fun xs => by simp)
            have nSl : ∀ b ∈ x.ls, b ∉ [S] := fun b hb hx => (List.nodup_append.mp pl.inv.ap).2.2 S (by simp) b (List.mem_append.mpr (.inl hb)) (List.mem_singleton.mp hx).symm
            have hra2 := f2 _ _ (nSl _ (by simp [HL.ls])) (s1 _ _ hra)
            have hta2 := f2 _ _ (nSl _ (by simp [HL.ls])) (s1 _ _ hta)
            walk_at "rdn"
            refine q_twoA hT2 ?_
            walk_at "rdn"
            intro s9 hs9
            walk_at "rdn"
            intro l1 hl1
            walk_at "rdn"
            intro l2 hl2
            walk_at "rdn"
            refine q_kvs [(.inr "row", .ref l1), (.inr "told", .ref l2)] (by walk_at "lk") rfl (by simp) ?_
            rw [mergeK2 (by decide +kernel)]
            have m1 : s9 ≠ l1 := by walk_at "ne"
            have m2 : s9 ≠ l2 := by walk_at "ne"
            have m3 : l1 ≠ l2 := by walk_at "ne"
            have y1 : G2 l1 = none := by walk_at "fr"
            have y2 : G2 l2 = none := by walk_at "fr"
            have w1 : (upd (upd (upd (upd G2 s9 (HO.dK [])) l1 (HO.lst xra)) l2 (HO.lst (x.ts.map V.int))) s9 (HO.dK [(.inr "row", .ref l1), (.inr "told", .ref l2)])) s9 = some (.dK [(.inr "row", .ref l1), (.inr "told", .ref l2)]) := upd_same
            have w2 : (upd (upd (upd (upd G2 s9 (HO.dK [])) l1 (HO.lst xra)) l2 (HO.lst (x.ts.map V.int))) s9 (HO.dK [(.inr "row", .ref l1), (.inr "told", .ref l2)])) l1 = some (.lst xra) := by walk_at "lk"
            have w3 : (upd (upd (upd (upd G2 s9 (HO.dK [])) l1 (HO.lst xra)) l2 (HO.lst (x.ts.map V.int))) s9 (HO.dK [(.inr "row", .ref l1), (.inr "told", .ref l2)])) l2 = some (.lst (x.ts.map V.int)) := by walk_at "lk"
            have s3 : Same G2 (upd (upd (upd (upd G2 s9 (HO.dK [])) l1 (HO.lst xra)) l2 (HO.lst (x.ts.map V.int))) s9 (HO.dK [(.inr "row", .ref l1), (.inr "told", .ref l2)])) := Same.snew (((Same.new hs9).trans (Same.new hl1)).trans (Same.new hl2)) hs9
            generalize (upd (upd (upd (upd G2 s9 (HO.dK [])) l1 (HO.lst xra)) l2 (HO.lst (x.ts.map V.int))) s9 (HO.dK [(.inr "row", .ref l1), (.inr "told", .ref l2)])) = G3 at w1 w2 w3 s3 ⊢
            clear hl1 hl2 hs9
            have hL1 : ∀ b ∈ [S], ∃ xs, G2 b = some (.lst xs) := fun b hb => by rw [List.mem_singleton.mp hb]; exact hS2.lst
            have hL4 : ∀ b ∈ [D], ∃ xs, G3 b = some (.lst xs) := fun b hb => by rw [List.mem_singleton.mp hb]; exact (hT2.lst).imp fun _ e => s3 _ _ e
            have z1 := s1.free (f2.free hL1 y1)
            have z2 := s1.free (f2.free hL1 y2)
            have o1 := pl.inv.lists S (by simp)
            have o2 := pl.inv.lists D (by simp)
            have i1 : r2 ∉ [S] := fun hx => by obtain ⟨_, e⟩ := o1; rw [← List.mem_singleton.mp hx, n1] at e; cases e
            have i2 : t2 ∉ [S] := fun hx => by obtain ⟨_, e⟩ := o1; rw [← List.mem_singleton.mp hx, n2] at e; cases e
            have v2 := f2 _ _ i1 e2
            have v3 := f2 _ _ i2 e3
            have pm : ∀ {ys : List V} {ds : List (Int × Int)}, All2 (PairAt H6) ys ds → All2 (PairAt G3) ys ds := fun h => h.mono fun z c w => by
              obtain ⟨i, e1, e2⟩ := w
              exact ⟨i, e1, s3 _ _ (f2.no hL2 (s1 _ _ e2) (fun xs => by simp))⟩
            have side3 : Side T.C_PlainHall G3 ⟨q2, s9, r2, t2, l1, l2, x.m, x.cs, x.ts⟩ := ⟨⟨dq, s3 _ _ (f2.no hL2 e1 (fun xs => by simp))⟩, ⟨xr, s3 _ _ v2, pm hxr⟩, s3 _ _ v3, w1, ⟨xra, w2, pm hxra⟩, w3, pl.inv.ha.hg, h2, h5, pl.inv.ha.hl⟩
            have hf : ∀ b ∈ [r2, t2, l1, l2], H6 b = none := fun b hb => by
              simp only [List.mem_cons, List.not_mem_nil, or_false] at hb
              rcases hb with rfl | rfl | rfl | rfl
              · exact n1
              · exact n2
              · exact z1
              · exact z2
            have hn : [r2, t2, l1, l2].Nodup := by
              have x1 : r2 ≠ l1 := ne_of_none v2 y1
              have x2 : r2 ≠ l2 := ne_of_none v2 y2
              have x3 : t2 ≠ l1 := ne_of_none v3 y1
              have x4 : t2 ≠ l2 := ne_of_none v3 y2
              simp [n3, m3, x1, x2, x3, x4]
            have hT3 := hT2.keep (Keep.of (L := []) s3) (fun hx => nomatch hx)
            have hS3 := hS2.keep (Keep.of (L := []) s3) (fun hx => nomatch hx)
            walk_at "rdn"
            refine q_twoS hT3 ?_
            intro G4 f4 hT4
            have hS4 := hS3.keep f4 (fun hx => nST (List.mem_singleton.mp hx))
            have side4 := side3.keep f4 hL4 (fun b hb hx => by
              obtain ⟨_, e⟩ := o2
              rw [← List.mem_singleton.mp hx, hf b hb] at e
              cases e)
            have kf : Keep [S, D] H6 G4 := fun b o nb e => f4 _ _ (fun hx => nb (List.mem_cons.mpr (.inr hx))) (s3 _ _ (f2 _ _ (fun hx => nb (List.mem_cons.mpr (.inl (List.mem_singleton.mp hx)))) (s1 _ _ e)))
            walk_at "rdn"
            exact k1 _ _ ⟨_, ⟨q2, s9, r2, t2, l1, l2, x.m, x.cs, x.ts⟩, rfl, pl.put kf hS4 hT4 side4 hf hn⟩
          · walk_at "rdn"
            exact k1 _ _ ⟨_, _, rfl, pl⟩
        rintro σ H7 ⟨u10, y, rfl, pl⟩
        refine q_seqC (fun σ' H' => σ' = [some (.ref a), some (.ref z1), some (.ref S), some (.ref D), some (.int n), some (.ref q), some (.int j), some (.int wy), some (.int tw), some (.int far), u10, some (.ref x.s), u12, u13, u14, u15, u16, u17] ∧ PL T.C_PlainHall S D d xs q H' j x y) (fun N k1 => ?_) ?_
        · walk_at "rdn"
          refine q_twoA pl.inv.hT ?_
          walk_at "rdn"
          exact k1 _ _ ⟨rfl, pl⟩
        rintro σ H8 ⟨rfl, pl⟩
        refine q_seqC (fun σ' H' => ∃ kk : Nat, (kk : Int) ≤ x.m - 1 ∧ σ' = [some (.ref a), some (.ref z1), some (.ref S), some (.ref D), some (.int n), some (.ref q), some (.int j), some (.int wy), some (.int tw), some (.int far), u10, some (.ref x.s), some (.int (kk : Nat)), u13, u14, u15, u16, u17] ∧ PL T.C_PlainHall S D d xs q H' j x y) (fun N k1 => ?_) ?_
        · obtain ⟨z, hz⟩ := pl.hq
          have hs := pl.inv.ha.hs
          have hta := pl.inv.ha.hta
          have h2 := pl.inv.ha.h2
          have h5 := pl.inv.ha.h5
          have hlen := pl.inv.ha.hg.1
          have hlm : (x.ts.map V.int).length = x.ts.length := List.length_map ..
          walk_at "rdn"
          have hpos : (0 : Int) < ((x.ts.map V.int).length : Nat) := by rw [hlm]; omega
          obtain ⟨kk, hkk⟩ := Int.eq_ofNat_of_zero_le (Int.emod_nonneg z (show ((x.ts.map V.int).length : Int) ≠ 0 by omega))
          have hlt := Int.emod_lt_of_pos z hpos
          rw [hkk] at hlt ⊢
          exact k1 _ _ ⟨kk, by omega, rfl, pl.take _⟩
        rintro σ H9 ⟨kk, hkk, rfl, pl⟩
        refine q_seqC (fun σ' H' => ∃ nn : Nat, σ' = [some (.ref a), some (.ref z1), some (.ref S), some (.ref D), some (.int n), some (.ref q), some (.int j), some (.int wy), some (.int tw), some (.int far), u10, some (.ref x.s), some (.int (kk : Nat)), some (.int (nn : Nat)), u14, u15, u16, u17] ∧ PL T.C_PlainHall S D d xs q H' j x y) (fun N k1 => ?_) ?_
        · have hs := pl.inv.ha.hs
          obtain ⟨xra, hra, hxra⟩ := pl.inv.ha.hra
          have hln := hxra.len
          have hl30 := pl.inv.ha.hl
          walk_at "rdn"
          intro D2 hD2
          refine lc_any walk_list (fun _ _ _ => True) (by omega) (fun _ _ _ _ _ _ => trivial) (fun _ _ _ _ _ => trivial) trivial (fun H' s => s.seq (SqL.of hra)) hD2 ?_ ?_ gName_m ?_
          · rintro k2 v ys B1 B2 R R2 hk2 s6 _ hDB ⟨rfl, hv⟩ hR hR2
            obtain ⟨c, hc, i, rfl, hi⟩ := hxra.get hv
            have hi := s6 _ _ hi
            refine ⟨wipe_set, ?_⟩
            walk_at "rdn"
            exact ⟨hR _ _ (Same.refl _) (fun _ => trivial), fun _ => by
              walk_at "rdn"
              exact hR2 _ _ (Same.refl _) trivial⟩
          · intro ys B1 s6 _ hD3
            walk_at "rdn"
            exact k1 _ _ ⟨ys.length, rfl, pl.same s6⟩
          · exact tTestIx_m
        rintro σ HA ⟨nn, rfl, pl⟩
        refine q_seqC (fun σ' H' => ∃ (dd : Addr) (g : PD), σ' = [some (.ref a), some (.ref z1), some (.ref S), some (.ref D), some (.int n), some (.ref q), some (.int j), some (.int wy), some (.int tw), some (.int far), u10, some (.ref x.s), some (.int (kk : Nat)), some (.int (nn : Nat)), some (.ref dd), u15, u16, u17] ∧ DeedAt H' dd g ∧ GoodG x.m g ∧ PL T.C_PlainHall S D d xs q H' j x y) (fun N k1 => ?_) ?_
        · walk_at "rdn"
          intro d2 hd2
          walk_at "rdn"
          exact k1 _ _ ⟨d2, .inl kk, rfl, upd_same, hkk, pl.same (Same.new hd2)⟩
        rintro σ HB ⟨dd, g, rfl, hdg, hgg, pl⟩
        refine q_seqC (fun σ' H' => ∃ (dd : Addr) (g : PD), σ' = [some (.ref a), some (.ref z1), some (.ref S), some (.ref D), some (.int n), some (.ref q), some (.int j), some (.int wy), some (.int tw), some (.int far), u10, some (.ref x.s), some (.int (kk : Nat)), some (.int (nn : Nat)), some (.ref dd), u15, u16, u17] ∧ DeedAt H' dd g ∧ GoodG x.m g ∧ PL T.C_PlainHall S D d xs q H' j x y) (fun N k1 => ?_) ?_
        · walk_at "rdn"
          refine q_ifx (fun h => ?_) (fun h => ?_)
          · walk_at "rdn"
            intro d2 hd2
            walk_at "rdn"
            exact k1 _ _ ⟨d2, .inr ((kk : Int), (nn : Int) + 1), rfl, upd_same, ⟨(by show (0 : Int) ≤ kk; omega), hkk, (by show (1 : Int) ≤ (nn : Int) + 1; omega)⟩, pl.same (Same.new hd2)⟩
          · walk_at "rdn"
            exact k1 _ _ ⟨dd, g, rfl, hdg, hgg, pl⟩
        rintro σ HC ⟨dd, g, rfl, hdg, hgg, pl⟩
        have _u := hgg
        refine q_seqC (fun σ' H' => ∃ (dd : Addr) (g : PD), σ' = [some (.ref a), some (.ref z1), some (.ref S), some (.ref D), some (.int n), some (.ref q), some (.int j), some (.int wy), some (.int tw), some (.int far), u10, some (.ref x.s), some (.int (kk : Nat)), some (.int (nn : Nat)), some (.ref dd), u15, u16, u17] ∧ DeedAt H' dd g ∧ GoodG x.m g ∧ PL T.C_PlainHall S D d xs q H' j x y) (fun N k1 => ?_) ?_
        · walk_at "rdn"
          refine q_ifx (fun h => ?_) (fun h => ?_)
          · walk_at "rdn"
            intro d2 hd2
            walk_at "rdn"
            exact k1 _ _ ⟨d2, .inr ((kk : Int), max 1 ((nn : Int) + 2 - far)), rfl, upd_same, ⟨(by show (0 : Int) ≤ kk; omega), hkk, (by show (1 : Int) ≤ max 1 ((nn : Int) + 2 - far); omega)⟩, pl.same (Same.new hd2)⟩
          · walk_at "rdn"
            exact k1 _ _ ⟨dd, g, rfl, hdg, hgg, pl⟩
        rintro σ HD ⟨dd, g, rfl, hdg, hgg, pl⟩
        have _u := hgg
        refine q_seqC (fun σ' H' => ∃ (dd : Addr) (g : PD), σ' = [some (.ref a), some (.ref z1), some (.ref S), some (.ref D), some (.int n), some (.ref q), some (.int j), some (.int wy), some (.int tw), some (.int far), u10, some (.ref x.s), some (.int (kk : Nat)), some (.int (nn : Nat)), some (.ref dd), u15, u16, u17] ∧ DeedAt H' dd g ∧ GoodG x.m g ∧ PL T.C_PlainHall S D d xs q H' j x y) (fun N k1 => ?_) ?_
        · walk_at "rdn"
          refine q_ifx (fun h => ?_) (fun h => ?_)
          · walk_at "rdn"
            intro d2 hd2
            walk_at "rdn"
            exact k1 _ _ ⟨d2, .inr ((kk : Int), (nn : Int) + 1 + far), rfl, upd_same, ⟨(by show (0 : Int) ≤ kk; omega), hkk, (by show (1 : Int) ≤ (nn : Int) + 1 + far; omega)⟩, pl.same (Same.new hd2)⟩
          · walk_at "rdn"
            exact k1 _ _ ⟨dd, g, rfl, hdg, hgg, pl⟩
        rintro σ HE ⟨dd, g, rfl, hdg, hgg, pl⟩
        have _u := hgg
        refine q_seqC (fun σ' H' => ∃ (dd : Addr) (g : PD), σ' = [some (.ref a), some (.ref z1), some (.ref S), some (.ref D), some (.int n), some (.ref q), some (.int j), some (.int wy), some (.int tw), some (.int far), u10, some (.ref x.s), some (.int (kk : Nat)), some (.int (nn : Nat)), some (.ref dd), u15, u16, u17] ∧ DeedAt H' dd g ∧ GoodG x.m g ∧ (x.cs.length ≤ 29 ∨ ∃ j, g = .inl j) ∧ PL T.C_PlainHall S D d xs q H' j x y) (fun N k1 => ?_) ?_
        · have hs := pl.inv.ha.hs
          obtain ⟨xra, hra, hxra⟩ := pl.inv.ha.hra
          have hln := hxra.len
          walk_at "rdn"
          refine q_ifx (fun h => ?_) (fun h => ?_)
          · walk_at "rdn"
            intro d2 hd2
            walk_at "rdn"
            exact k1 _ _ ⟨d2, .inl kk, rfl, upd_same, hkk, .inr ⟨_, rfl⟩, pl.same (Same.new hd2)⟩
          · walk_at "rdn"
            exact k1 _ _ ⟨dd, g, rfl, hdg, hgg, .inl (by omega), pl⟩
        rintro σ HF ⟨dd, g, rfl, hdg, hgg, hlt, pl⟩
        refine q_seqC (fun σ' H' => ∃ z : HL, z.s = x.s ∧ σ' = [some (.ref a), some (.ref z1), some (.ref S), some (.ref D), some (.int n), some (.ref q), some (.int j), some (.int wy), some (.int tw), some (.int far), u10, some (.ref z.s), some (.int (kk : Nat)), some (.int (nn : Nat)), some (.ref dd), u15, u16, u17] ∧ PL T.C_PlainHall S D d xs q H' j z y) (fun N k1 => ?_) ?_
        · obtain ⟨dx, hp⟩ := pl.inv.ha.hp
          obtain ⟨xr, hr, hxr⟩ := pl.inv.ha.hr
          obtain ⟨xra, hra, hxra⟩ := pl.inv.ha.hra
          have ht := pl.inv.ha.ht
          have hs := pl.inv.ha.hs
          have hta := pl.inv.ha.hta
          obtain ⟨a1, a2, a3, a4, a5, a6⟩ := pl.inv.nda
          have gd := pl.inv.ha.hg
          have l30 := pl.inv.ha.hl
          have gd2 := (stepP_good gd hgg (by omega)).1
          have gl := stepP_len gd hgg l30 hlt
          walk_at "rdn"
          refine q_twoA pl.inv.hS ?_
          walk_at "rdn"
          refine r_law_done rfl (hp := hp) (hr := hr) (ht := ht) (hxs := hxr) (hs := hs) (hra := hra) (hta := hta) (hys := hxra) (hrt := a1) (hrat := a6) (n1 := a2) (n2 := a3) (n3 := a4) (n4 := a5) (hd := hdg) (hg := hgg) (hgs := gd) (hgs2 := gd2) (h5 := pl.inv.ha.h5) ?_
          intro xs1 ys1 G1 f1 v1 v2 v3 v4 v5 v6
          walk_at "rdn"
          exact k1 _ _ ⟨{ x with cs := (stepP x.cs x.ts g).2.2.1, ts := (stepP x.cs x.ts g).2.2.2 }, rfl, rfl, pl.step (fun b o nb e => f1 b o (fun w => nb (by rw [w]; simp [HL.ls])) (fun w => nb (by rw [w]; simp [HL.ls])) (fun w => nb (by rw [w]; simp [HL.ls])) (fun w => nb (by rw [w]; simp [HL.ls])) e) xs1 ys1 v1 v2 v3 v4 v5 v6 gd2 gl⟩
        rintro σ HG ⟨z, hzs, rfl, pl⟩
        clear hlt hdg hgg hzs
        refine q_seqC (fun σ' H' => σ' = [some (.ref a), some (.ref z1), some (.ref S), some (.ref D), some (.int n), some (.ref q), some (.int j), some (.int wy), some (.int tw), some (.int far), u10, some (.ref z.s), some (.int (kk : Nat)), some (.int (nn : Nat)), some (.ref dd), u15, u16, u17] ∧ PL T.C_PlainHall S D d xs q H' j z y) (fun N k1 => ?_) ?_
        · obtain ⟨fx, fp⟩ := pl.inv.hb.hp
          obtain ⟨fr, fhr, fxr⟩ := pl.inv.hb.hr
          obtain ⟨fra, fhra, fxra⟩ := pl.inv.hb.hra
          walk_at "rdn"
          refine q_twoB pl.inv.hS ?_
          walk_at "rdn"
          refine q_twoB pl.inv.hT ?_
          walk_at "rdn"
          refine r_law_stands rfl (hp := fp) (hr := fhr) (ht := pl.inv.hb.ht) (hxs := fxr) (hs := pl.inv.hb.hs) (hra := fhra) (hta := pl.inv.hb.hta) (hys := fxra) (hgs := pl.inv.hb.hg) (h5 := pl.inv.hb.h5) ?_
          intro G1 s1
          walk_at "rdn"
          exact k1 _ _ ⟨rfl, pl.same s1⟩
        rintro σ HI ⟨rfl, pl⟩
        refine q_seqC (fun σ' H' => σ' = [some (.ref a), some (.ref z1), some (.ref S), some (.ref D), some (.int n), some (.ref q), some (.int j), some (.int wy), some (.int tw), some (.int far), u10, some (.ref z.s), some (.int (kk : Nat)), some (.int (nn : Nat)), some (.ref dd), u15, u16, u17] ∧ PL T.C_PlainHall S D d xs q H' j z y) (fun N k1 => ?_) ?_
        · obtain ⟨fx, fp⟩ := pl.inv.ha.hp
          obtain ⟨fr, fhr, fxr⟩ := pl.inv.ha.hr
          obtain ⟨fra, fhra, fxra⟩ := pl.inv.ha.hra
          obtain ⟨gx, gp⟩ := pl.inv.hb.hp
          obtain ⟨gr, ghr, gxr⟩ := pl.inv.hb.hr
          obtain ⟨gra, ghra, gxra⟩ := pl.inv.hb.hra
          have hS0 := pl.inv.hS
          have hT0 := pl.inv.hT
          rcases hS0 with ⟨rfl, hS⟩ | ⟨rfl, hS⟩
          · have hT := hT0.elim (fun e => e.2) (fun e => absurd e.1 (by omega))
            walk_at "rdn"
            refine r_PlainHall_eq_1 rfl (hp := fp) (hr := fhr) (ht := pl.inv.ha.ht) (hxs := fxr) (hq := gp) (hu := ghr) (hv := pl.inv.hb.ht) (hys := gxr) ?_
            intro G1 s1
            have pl1 := pl.same s1
            have hT1 := s1 _ _ hT
            walk_at "rdn"
            refine q_eqSt pl1.inv.ha.hs pl1.inv.hb.hs (s1 _ _ fhra) (PairAt.all fxra s1) pl1.inv.ha.hta (s1 _ _ ghra) (PairAt.all gxra s1) pl1.inv.hb.hta ?_
            walk_at "rdn"
            exact k1 _ _ ⟨rfl, pl1⟩
          · have hT := hT0.elim (fun e => absurd e.1 (by omega)) (fun e => e.2)
            walk_at "rdn"
            refine r_PlainHall_eq_1 rfl (hp := gp) (hr := ghr) (ht := pl.inv.hb.ht) (hxs := gxr) (hq := fp) (hu := fhr) (hv := pl.inv.ha.ht) (hys := fxr) ?_
            intro G1 s1
            have pl1 := pl.same s1
            have hT1 := s1 _ _ hT
            walk_at "rdn"
            refine q_eqSt pl1.inv.hb.hs pl1.inv.ha.hs (s1 _ _ ghra) (PairAt.all gxra s1) pl1.inv.hb.hta (s1 _ _ fhra) (PairAt.all fxra s1) pl1.inv.ha.hta ?_
            walk_at "rdn"
            exact k1 _ _ ⟨rfl, pl1⟩
        rintro σ HJ ⟨rfl, pl⟩
        refine q_seqC (fun σ' H' => σ' = [some (.ref a), some (.ref z1), some (.ref S), some (.ref D), some (.int n), some (.ref q), some (.int j), some (.int wy), some (.int tw), some (.int far), u10, some (.ref z.s), some (.int (kk : Nat)), some (.int (nn : Nat)), some (.ref dd), u15, u16, u17] ∧ PL T.C_PlainHall S D d xs q H' j z y) (fun N k1 => ?_) ?_
        · obtain ⟨fx, fp⟩ := pl.inv.ha.hp
          obtain ⟨fr, fhr, fxr⟩ := pl.inv.ha.hr
          obtain ⟨fra, fhra, fxra⟩ := pl.inv.ha.hra
          have hm := pl.inv.ha.hg.1
          walk_at "rdn"
          refine q_ifx (fun h => ?_) (fun h => ?_)
          · walk_at "rdn"
            refine q_twoA pl.inv.hS ?_
            walk_at "rdn"
            refine r_law_bad rfl (hp := fp) (hr := fhr) (hs := pl.inv.ha.hs) (hta := pl.inv.ha.hta) (hm := hm) (h2 := pl.inv.ha.h2) (h5 := pl.inv.ha.h5) ?_
            intro G1 s1
            walk_at "rdn"
            exact k1 _ _ ⟨rfl, pl.same s1⟩
          · walk_at "rdn"
            exact k1 _ _ ⟨rfl, pl⟩
        rintro σ HK ⟨rfl, pl⟩
        obtain ⟨fx, fp⟩ := pl.inv.ha.hp
        obtain ⟨fr, fhr, fxr⟩ := pl.inv.ha.hr
        obtain ⟨fra, fhra, fxra⟩ := pl.inv.ha.hra
        walk_at "rdn"
        refine q_twoA pl.inv.hS ?_
        walk_at "rdn"
        refine r_law_stands rfl (hp := fp) (hr := fhr) (ht := pl.inv.ha.ht) (hxs := fxr) (hs := pl.inv.ha.hs) (hra := fhra) (hta := pl.inv.ha.hta) (hys := fxra) (hgs := pl.inv.ha.hg) (h5 := pl.inv.ha.h5) ?_
        intro G1 s1
        walk_at "rdn"
        obtain ⟨x0, y0, iv⟩ := (pl.inv.same s1).at (j := 0) (by omega) (by omega)
        exact ⟨⟨_, _, _, _, _, _, _, _, _, _, _, _, _, _, rfl⟩, x0, y0, iv⟩
      · rintro σ H1 ⟨⟨u4, u5, u6, u7, u8, u9, u10, u11, u12, u13, u14, u15, u16, u17, rfl⟩, x, y, inv⟩
        obtain ⟨fx, fp⟩ := inv.ha.hp
        obtain ⟨fr, fhr, fxr⟩ := inv.ha.hr
        obtain ⟨fra, fhra, fxra⟩ := inv.ha.hra
        have hm := inv.ha.hg.1
        walk_at "rdn"
        refine q_twoA inv.hS ?_
        walk_at "rdn"
        refine q_twoA inv.hT ?_
        walk_at "rdn"
        refine r_law_bad rfl (hp := fp) (hr := fhr) (hs := inv.ha.hs) (hta := inv.ha.hta) (hm := hm) (h2 := inv.ha.h2) (h5 := inv.ha.h5) ?_
        intro G1 s1
        have inv1 := inv.same s1
        walk_at "rdn"
        refine q_twoA inv1.hS ?_
        walk_at "rdn"
        refine q_twoA inv1.hT ?_
        walk_at "rdn"
        refine r_law_stands rfl (hp := s1 _ _ fp) (hr := s1 _ _ fhr) (ht := inv1.ha.ht) (hxs := PairAt.all fxr s1) (hs := inv1.ha.hs) (hra := s1 _ _ fhra) (hta := inv1.ha.hta) (hys := PairAt.all fxra s1) (hgs := inv1.ha.hg) (h5 := inv1.ha.h5) ?_
        intro G2 s2
        clear inv inv1 fp fhr fxr fhra fxra hm s1 s2
        with_reducible refine q_k ?_
        with_reducible refine q_ifN ?_
        with_reducible refine q_ift ?_
        refine q_next ?_
        with_reducible refine q_ret ?_
        with_reducible refine q_cb ?_
        with_reducible refine q_cons ?_
        with_reducible refine q_lc ?_
        with_reducible refine q_iList ?_
        have hPW : ∀ H H' v, Same H H' → PW5 K H v → PW5 K H' v := fun _ _ _ s h => h.same s
        refine q_lstC (n := 9) hPW (by decide) (ConA.cons hPW ?e9_0 (ConA.cons hPW ?e9_1 (ConA.cons hPW ?e9_2 (ConA.cons hPW ?e9_3 (ConA.cons hPW ?e9_4 (ConA.cons hPW ?e9_5 (ConA.cons hPW ?e9_6 (ConA.cons hPW ?e9_7 (ConA.cons hPW ?e9_8 (ConA.nil)))))))))) ?_
        · intro G R kk
          walk_at "rdn"
          exact kk _ _ (Same.refl _) ⟨.inl ⟨_, rfl, by omega⟩, _, .int _, by decide +kernel, by decide +kernel⟩
        · intro G R kk
          walk_at "rdn"
          exact kk _ _ (Same.refl _) ⟨.inl ⟨_, rfl, by omega⟩, _, .int _, by decide +kernel, by decide +kernel⟩
        · intro G R kk
          walk_at "rdn"
          exact kk _ _ (Same.refl _) ⟨.inl ⟨_, rfl, by omega⟩, _, .int _, by decide +kernel, by decide +kernel⟩
        · intro G R kk
          walk_at "rdn"
          exact kk _ _ (Same.refl _) ⟨.inl ⟨_, rfl, by omega⟩, _, .int _, by decide +kernel, by decide +kernel⟩
        · intro G R kk
          walk_at "rdn"
          exact kk _ _ (Same.refl _) ⟨.inr (.inr ⟨_, .base .non, kt_NoneType_int⟩), _, .non, by decide +kernel, by decide +kernel⟩
        · intro G R kk
          walk_at "rdn"
          exact kk _ _ (Same.refl _) ⟨.inr (.inl ⟨_, rfl⟩), _, .bl _, by decide +kernel, by decide +kernel⟩
        · intro G R kk
          walk_at "rdn"
          exact kk _ _ (Same.refl _) ⟨.inr (.inr ⟨_, .base (.str _), kt_str_int⟩), _, .str _, by decide +kernel, by decide +kernel⟩
        · intro G R kk
          walk_at "rdn"
          intro i hi
          exact kk _ _ (Same.new hi) ⟨.inr (.inr ⟨_, .base (.lst upd_same), kt_list_int⟩), _, .lst (SqL.of upd_same) (.cons (.int _) .nil), by decide +kernel, by decide +kernel⟩
        · intro G R kk
          walk_at "rdn"
          exact kk _ _ (Same.refl _) ⟨.inl ⟨_, rfl, by decide +kernel⟩, _, .int _, rfl, by simp [PyData.eqv]⟩
        intro l3 vs3 G3 s3 nl3 hl3 ln3 hv3
        walk_at "rdn"
        intro D2 hD2
        refine lc_itemsB (fun _ => true) (SqL.of hl3) (by omega) hD2 (fun x hx H4 R s4 hR => ?_) (fun H4 s4 e => ?_)
        · obtain ⟨n1, d, n2, n3, n4⟩ := (hv3 x hx).same s4
          walk_at "rdn"
          exact hR
        · walk_at "rdn"
          exact R_of (k _) (by simp)

end
theorem all_mk {l : PySem.W.OpenLaw} [PF l.prog] {w : World} {K : PySem.W.Frag} {h : Heap} {mg : Str → Option Value} {fa : Addr} (X : K.In h) (G : h.Ns mainGlobals mg) (hfa : mg "law" = some (.ref fa))
    {f_is_whole : Addr} {od_is_whole an_is_whole : Option Addr} {sl_is_whole : Array (Option Value)} {oc_is_whole kV_is_whole dc_is_whole pm_is_whole cd_is_whole ct_is_whole : Value}
    {da_is_whole : Addr} {ddd_is_whole : Option Addr} {dn_is_whole : Nat} {dsl_is_whole : Array (Option Value)}
    {f_is_member : Addr} {od_is_member an_is_member : Option Addr} {sl_is_member : Array (Option Value)} {oc_is_member kV_is_member dc_is_member pm_is_member cd_is_member ct_is_member : Value}
    {f_check_members : Addr} {od_check_members an_check_members : Option Addr} {sl_check_members : Array (Option Value)} {oc_check_members kV_check_members dc_check_members pm_check_members cd_check_members ct_check_members : Value}
    {f_check_member : Addr} {od_check_member an_check_member : Option Addr} {sl_check_member : Array (Option Value)} {oc_check_member kV_check_member dc_check_member pm_check_member cd_check_member ct_check_member : Value}
    {f_is_ident : Addr} {od_is_ident an_is_ident : Option Addr} {sl_is_ident : Array (Option Value)} {oc_is_ident kV_is_ident dc_is_ident pm_is_ident cd_is_ident ct_is_ident : Value}
    {da_is_ident : Addr} {ddd_is_ident : Option Addr} {dn_is_ident : Nat} {dsl_is_ident : Array (Option Value)}
    {f_is_plain_deed : Addr} {od_is_plain_deed an_is_plain_deed : Option Addr} {sl_is_plain_deed : Array (Option Value)} {oc_is_plain_deed kV_is_plain_deed dc_is_plain_deed pm_is_plain_deed cd_is_plain_deed ct_is_plain_deed : Value}
    {f_PlainHall_init : Addr} {od_PlainHall_init an_PlainHall_init : Option Addr} {sl_PlainHall_init : Array (Option Value)} {oc_PlainHall_init kV_PlainHall_init dc_PlainHall_init pm_PlainHall_init cd_PlainHall_init ct_PlainHall_init : Value}
    {f_PlainHall_len : Addr} {od_PlainHall_len an_PlainHall_len : Option Addr} {sl_PlainHall_len : Array (Option Value)} {oc_PlainHall_len kV_PlainHall_len dc_PlainHall_len pm_PlainHall_len cd_PlainHall_len ct_PlainHall_len : Value}
    {f_PlainHall_row : Addr} {od_PlainHall_row an_PlainHall_row : Option Addr} {sl_PlainHall_row : Array (Option Value)} {oc_PlainHall_row kV_PlainHall_row dc_PlainHall_row pm_PlainHall_row cd_PlainHall_row ct_PlainHall_row : Value}
    {f_PlainHall_told_by : Addr} {od_PlainHall_told_by an_PlainHall_told_by : Option Addr} {sl_PlainHall_told_by : Array (Option Value)} {oc_PlainHall_told_by kV_PlainHall_told_by dc_PlainHall_told_by pm_PlainHall_told_by cd_PlainHall_told_by ct_PlainHall_told_by : Value}
    {f_PlainHall_state : Addr} {od_PlainHall_state an_PlainHall_state : Option Addr} {sl_PlainHall_state : Array (Option Value)} {oc_PlainHall_state kV_PlainHall_state dc_PlainHall_state pm_PlainHall_state cd_PlainHall_state ct_PlainHall_state : Value}
    {f_PlainHall_eq : Addr} {od_PlainHall_eq an_PlainHall_eq : Option Addr} {sl_PlainHall_eq : Array (Option Value)} {oc_PlainHall_eq kV_PlainHall_eq dc_PlainHall_eq pm_PlainHall_eq cd_PlainHall_eq ct_PlainHall_eq : Value}
    {f_PlainHall_add : Addr} {od_PlainHall_add an_PlainHall_add : Option Addr} {sl_PlainHall_add : Array (Option Value)} {oc_PlainHall_add kV_PlainHall_add dc_PlainHall_add pm_PlainHall_add cd_PlainHall_add ct_PlainHall_add : Value}
    {f_PlainHall_tell : Addr} {od_PlainHall_tell an_PlainHall_tell : Option Addr} {sl_PlainHall_tell : Array (Option Value)} {oc_PlainHall_tell kV_PlainHall_tell dc_PlainHall_tell pm_PlainHall_tell cd_PlainHall_tell ct_PlainHall_tell : Value}
    {f_PlainHall_twin : Addr} {od_PlainHall_twin an_PlainHall_twin : Option Addr} {sl_PlainHall_twin : Array (Option Value)} {oc_PlainHall_twin kV_PlainHall_twin dc_PlainHall_twin pm_PlainHall_twin cd_PlainHall_twin ct_PlainHall_twin : Value}
    {f_PlainHall_do : Addr} {od_PlainHall_do an_PlainHall_do : Option Addr} {sl_PlainHall_do : Array (Option Value)} {oc_PlainHall_do kV_PlainHall_do dc_PlainHall_do pm_PlainHall_do cd_PlainHall_do ct_PlainHall_do : Value}
    {f_law_cell_at : Addr} {od_law_cell_at an_law_cell_at : Option Addr} {sl_law_cell_at : Array (Option Value)} {oc_law_cell_at kV_law_cell_at dc_law_cell_at pm_law_cell_at cd_law_cell_at ct_law_cell_at : Value}
    {f_law_take : Addr} {od_law_take an_law_take : Option Addr} {sl_law_take : Array (Option Value)} {oc_law_take kV_law_take dc_law_take pm_law_take cd_law_take ct_law_take : Value}
    {f_law_pool : Addr} {od_law_pool an_law_pool : Option Addr} {sl_law_pool : Array (Option Value)} {oc_law_pool kV_law_pool dc_law_pool pm_law_pool cd_law_pool ct_law_pool : Value}
    {f_law_did : Addr} {od_law_did an_law_did : Option Addr} {sl_law_did : Array (Option Value)} {oc_law_did kV_law_did dc_law_did pm_law_did cd_law_did ct_law_did : Value}
    {f_law_due : Addr} {od_law_due an_law_due : Option Addr} {sl_law_due : Array (Option Value)} {oc_law_due kV_law_due dc_law_due pm_law_due cd_law_due ct_law_due : Value}
    {f_law_no_member : Addr} {od_law_no_member an_law_no_member : Option Addr} {sl_law_no_member : Array (Option Value)} {oc_law_no_member kV_law_no_member dc_law_no_member pm_law_no_member cd_law_no_member ct_law_no_member : Value}
    {f_law_stands : Addr} {od_law_stands an_law_stands : Option Addr} {sl_law_stands : Array (Option Value)} {oc_law_stands kV_law_stands dc_law_stands pm_law_stands cd_law_stands ct_law_stands : Value}
    {f_law_made : Addr} {od_law_made an_law_made : Option Addr} {sl_law_made : Array (Option Value)} {oc_law_made kV_law_made dc_law_made pm_law_made cd_law_made ct_law_made : Value}
    {f_law_done : Addr} {od_law_done an_law_done : Option Addr} {sl_law_done : Array (Option Value)} {oc_law_done kV_law_done dc_law_done pm_law_done cd_law_done ct_law_done : Value}
    {f_law_bad : Addr} {od_law_bad an_law_bad : Option Addr} {sl_law_bad : Array (Option Value)} {oc_law_bad kV_law_bad dc_law_bad pm_law_bad cd_law_bad ct_law_bad : Value}
    {f_law : Addr} {od_law an_law : Option Addr} {sl_law : Array (Option Value)} {oc_law kV_law dc_law pm_law cd_law ct_law : Value}
    {C_AllTold : Addr}
    {C_Barred : Addr}
    {C_HallError : Addr}
    {C_Known : Addr}
    {C_Lacks : Addr}
    {C_NoDeed : Addr}
    {C_NoMember : Addr}
    {C_NoNumber : Addr}
    {C_PlainHall : Addr}
    {fI_AllTold cda_AllTold cc_AllTold : Addr} {odI_AllTold anI_AllTold : Option Addr} {slI_AllTold ccsI_AllTold cslI_AllTold : Array (Option Value)} {ocI_AllTold kVI_AllTold dcI_AllTold pmI_AllTold ctI_AllTold cclI_AllTold clI_AllTold : Value} {cddI_AllTold cldI_AllTold : Option Addr} {vsI_AllTold : Array Value} {tfI_AllTold : Tok}
    {fI_Known cda_Known cc_Known : Addr} {odI_Known anI_Known : Option Addr} {slI_Known ccsI_Known cslI_Known : Array (Option Value)} {ocI_Known kVI_Known dcI_Known pmI_Known ctI_Known cclI_Known clI_Known : Value} {cddI_Known cldI_Known : Option Addr} {vsI_Known : Array Value} {tfI_Known : Tok}
    {fI_Lacks cda_Lacks cc_Lacks : Addr} {odI_Lacks anI_Lacks : Option Addr} {slI_Lacks ccsI_Lacks cslI_Lacks : Array (Option Value)} {ocI_Lacks kVI_Lacks dcI_Lacks pmI_Lacks ctI_Lacks cclI_Lacks clI_Lacks : Value} {cddI_Lacks cldI_Lacks : Option Addr} {vsI_Lacks : Array Value} {tfI_Lacks : Tok}
    {fI_NoDeed cda_NoDeed cc_NoDeed : Addr} {odI_NoDeed anI_NoDeed : Option Addr} {slI_NoDeed ccsI_NoDeed cslI_NoDeed : Array (Option Value)} {ocI_NoDeed kVI_NoDeed dcI_NoDeed pmI_NoDeed ctI_NoDeed cclI_NoDeed clI_NoDeed : Value} {cddI_NoDeed cldI_NoDeed : Option Addr} {vsI_NoDeed : Array Value} {tfI_NoDeed : Tok}
    {fI_NoMember cda_NoMember cc_NoMember : Addr} {odI_NoMember anI_NoMember : Option Addr} {slI_NoMember ccsI_NoMember cslI_NoMember : Array (Option Value)} {ocI_NoMember kVI_NoMember dcI_NoMember pmI_NoMember ctI_NoMember cclI_NoMember clI_NoMember : Value} {cddI_NoMember cldI_NoMember : Option Addr} {vsI_NoMember : Array Value} {tfI_NoMember : Tok}
    {fI_NoNumber cda_NoNumber cc_NoNumber : Addr} {odI_NoNumber anI_NoNumber : Option Addr} {slI_NoNumber ccsI_NoNumber cslI_NoNumber : Array (Option Value)} {ocI_NoNumber kVI_NoNumber dcI_NoNumber pmI_NoNumber ctI_NoNumber cclI_NoNumber clI_NoNumber : Value} {cddI_NoNumber cldI_NoNumber : Option Addr} {vsI_NoNumber : Array Value} {tfI_NoNumber : Tok}
    {t_LEAST_MEMBERS : Tok}
    {t_MOST_MEMBERS : Tok}
    (aC_PlainHall : PySem.W.nsIn K mainGlobals "PlainHall" = some (some (.ref C_PlainHall)))
    (aC_NoNumber : PySem.W.nsIn K mainGlobals "NoNumber" = some (some (.ref C_NoNumber)))
    (aC_NoMember : PySem.W.nsIn K mainGlobals "NoMember" = some (some (.ref C_NoMember)))
    (aC_NoDeed : PySem.W.nsIn K mainGlobals "NoDeed" = some (some (.ref C_NoDeed)))
    (aC_Lacks : PySem.W.nsIn K mainGlobals "Lacks" = some (some (.ref C_Lacks)))
    (aC_Known : PySem.W.nsIn K mainGlobals "Known" = some (some (.ref C_Known)))
    (aC_HallError : PySem.W.nsIn K mainGlobals "HallError" = some (some (.ref C_HallError)))
    (aC_Barred : PySem.W.nsIn K mainGlobals "Barred" = some (some (.ref C_Barred)))
    (aC_AllTold : PySem.W.nsIn K mainGlobals "AllTold" = some (some (.ref C_AllTold)))
    (a_is_whole : PySem.W.nsIn K mainGlobals "is_whole" = some (some (.ref f_is_whole)))
    (l_is_whole : K.lookup f_is_whole = some ⟨oc_is_whole, od_is_whole, .func (PySem.W.fnOf "is_whole" "is_whole" (defArgs s_is_whole) (defBody s_is_whole) (defScope s_is_whole) (.ref da_is_whole) kV_is_whole dc_is_whole pm_is_whole an_is_whole cd_is_whole ct_is_whole), sl_is_whole⟩)
    (c_is_whole : PySem.W.codeIn K cd_is_whole "is_whole" = true)
    (k_is_whole : PySem.W.keepIn K (.ref f_is_whole) = true)
    (e_is_whole : K.lookup da_is_whole = some ⟨.type "tuple", ddd_is_whole, .seq #[.none] dn_is_whole, dsl_is_whole⟩)
    (a_is_member : PySem.W.nsIn K mainGlobals "is_member" = some (some (.ref f_is_member)))
    (l_is_member : K.lookup f_is_member = some ⟨oc_is_member, od_is_member, .func (PySem.W.fnOf "is_member" "is_member" (defArgs s_is_member) (defBody s_is_member) (defScope s_is_member) .none kV_is_member dc_is_member pm_is_member an_is_member cd_is_member ct_is_member), sl_is_member⟩)
    (c_is_member : PySem.W.codeIn K cd_is_member "is_member" = true)
    (k_is_member : PySem.W.keepIn K (.ref f_is_member) = true)
    (a_check_members : PySem.W.nsIn K mainGlobals "check_members" = some (some (.ref f_check_members)))
    (l_check_members : K.lookup f_check_members = some ⟨oc_check_members, od_check_members, .func (PySem.W.fnOf "check_members" "check_members" (defArgs s_check_members) (defBody s_check_members) (defScope s_check_members) .none kV_check_members dc_check_members pm_check_members an_check_members cd_check_members ct_check_members), sl_check_members⟩)
    (c_check_members : PySem.W.codeIn K cd_check_members "check_members" = true)
    (k_check_members : PySem.W.keepIn K (.ref f_check_members) = true)
    (a_check_member : PySem.W.nsIn K mainGlobals "check_member" = some (some (.ref f_check_member)))
    (l_check_member : K.lookup f_check_member = some ⟨oc_check_member, od_check_member, .func (PySem.W.fnOf "check_member" "check_member" (defArgs s_check_member) (defBody s_check_member) (defScope s_check_member) .none kV_check_member dc_check_member pm_check_member an_check_member cd_check_member ct_check_member), sl_check_member⟩)
    (c_check_member : PySem.W.codeIn K cd_check_member "check_member" = true)
    (k_check_member : PySem.W.keepIn K (.ref f_check_member) = true)
    (a_is_ident : PySem.W.nsIn K mainGlobals "is_ident" = some (some (.ref f_is_ident)))
    (l_is_ident : K.lookup f_is_ident = some ⟨oc_is_ident, od_is_ident, .func (PySem.W.fnOf "is_ident" "is_ident" (defArgs s_is_ident) (defBody s_is_ident) (defScope s_is_ident) (.ref da_is_ident) kV_is_ident dc_is_ident pm_is_ident an_is_ident cd_is_ident ct_is_ident), sl_is_ident⟩)
    (c_is_ident : PySem.W.codeIn K cd_is_ident "is_ident" = true)
    (k_is_ident : PySem.W.keepIn K (.ref f_is_ident) = true)
    (e_is_ident : K.lookup da_is_ident = some ⟨.type "tuple", ddd_is_ident, .seq #[.none] dn_is_ident, dsl_is_ident⟩)
    (a_is_plain_deed : PySem.W.nsIn K mainGlobals "is_plain_deed" = some (some (.ref f_is_plain_deed)))
    (l_is_plain_deed : K.lookup f_is_plain_deed = some ⟨oc_is_plain_deed, od_is_plain_deed, .func (PySem.W.fnOf "is_plain_deed" "is_plain_deed" (defArgs s_is_plain_deed) (defBody s_is_plain_deed) (defScope s_is_plain_deed) .none kV_is_plain_deed dc_is_plain_deed pm_is_plain_deed an_is_plain_deed cd_is_plain_deed ct_is_plain_deed), sl_is_plain_deed⟩)
    (c_is_plain_deed : PySem.W.codeIn K cd_is_plain_deed "is_plain_deed" = true)
    (k_is_plain_deed : PySem.W.keepIn K (.ref f_is_plain_deed) = true)
    (a_PlainHall_init : PySem.W.findIn K (.ref C_PlainHall) "__init__" = some (some (.ref f_PlainHall_init)))
    (i_PlainHall_init : PySem.W.isFn K (.ref f_PlainHall_init) = true)
    (l_PlainHall_init : K.lookup f_PlainHall_init = some ⟨oc_PlainHall_init, od_PlainHall_init, .func (PySem.W.fnOf "__init__" "PlainHall.__init__" (defArgs s_PlainHall_init) (defBody s_PlainHall_init) (defScope s_PlainHall_init) .none kV_PlainHall_init dc_PlainHall_init pm_PlainHall_init an_PlainHall_init cd_PlainHall_init ct_PlainHall_init), sl_PlainHall_init⟩)
    (c_PlainHall_init : PySem.W.codeIn K cd_PlainHall_init "PlainHall.__init__" = true)
    (k_PlainHall_init : PySem.W.keepIn K (.ref f_PlainHall_init) = true)
    (a_PlainHall_len : PySem.W.findIn K (.ref C_PlainHall) "__len__" = some (some (.ref f_PlainHall_len)))
    (i_PlainHall_len : PySem.W.isFn K (.ref f_PlainHall_len) = true)
    (l_PlainHall_len : K.lookup f_PlainHall_len = some ⟨oc_PlainHall_len, od_PlainHall_len, .func (PySem.W.fnOf "__len__" "PlainHall.__len__" (defArgs s_PlainHall_len) (defBody s_PlainHall_len) (defScope s_PlainHall_len) .none kV_PlainHall_len dc_PlainHall_len pm_PlainHall_len an_PlainHall_len cd_PlainHall_len ct_PlainHall_len), sl_PlainHall_len⟩)
    (c_PlainHall_len : PySem.W.codeIn K cd_PlainHall_len "PlainHall.__len__" = true)
    (k_PlainHall_len : PySem.W.keepIn K (.ref f_PlainHall_len) = true)
    (a_PlainHall_row : PySem.W.findIn K (.ref C_PlainHall) "row" = some (some (.ref f_PlainHall_row)))
    (i_PlainHall_row : PySem.W.isFn K (.ref f_PlainHall_row) = true)
    (l_PlainHall_row : K.lookup f_PlainHall_row = some ⟨oc_PlainHall_row, od_PlainHall_row, .func (PySem.W.fnOf "row" "PlainHall.row" (defArgs s_PlainHall_row) (defBody s_PlainHall_row) (defScope s_PlainHall_row) .none kV_PlainHall_row dc_PlainHall_row pm_PlainHall_row an_PlainHall_row cd_PlainHall_row ct_PlainHall_row), sl_PlainHall_row⟩)
    (c_PlainHall_row : PySem.W.codeIn K cd_PlainHall_row "PlainHall.row" = true)
    (k_PlainHall_row : PySem.W.keepIn K (.ref f_PlainHall_row) = true)
    (a_PlainHall_told_by : PySem.W.findIn K (.ref C_PlainHall) "told_by" = some (some (.ref f_PlainHall_told_by)))
    (i_PlainHall_told_by : PySem.W.isFn K (.ref f_PlainHall_told_by) = true)
    (l_PlainHall_told_by : K.lookup f_PlainHall_told_by = some ⟨oc_PlainHall_told_by, od_PlainHall_told_by, .func (PySem.W.fnOf "told_by" "PlainHall.told_by" (defArgs s_PlainHall_told_by) (defBody s_PlainHall_told_by) (defScope s_PlainHall_told_by) .none kV_PlainHall_told_by dc_PlainHall_told_by pm_PlainHall_told_by an_PlainHall_told_by cd_PlainHall_told_by ct_PlainHall_told_by), sl_PlainHall_told_by⟩)
    (c_PlainHall_told_by : PySem.W.codeIn K cd_PlainHall_told_by "PlainHall.told_by" = true)
    (k_PlainHall_told_by : PySem.W.keepIn K (.ref f_PlainHall_told_by) = true)
    (a_PlainHall_state : PySem.W.findIn K (.ref C_PlainHall) "state" = some (some (.ref f_PlainHall_state)))
    (i_PlainHall_state : PySem.W.isFn K (.ref f_PlainHall_state) = true)
    (l_PlainHall_state : K.lookup f_PlainHall_state = some ⟨oc_PlainHall_state, od_PlainHall_state, .func (PySem.W.fnOf "state" "PlainHall.state" (defArgs s_PlainHall_state) (defBody s_PlainHall_state) (defScope s_PlainHall_state) .none kV_PlainHall_state dc_PlainHall_state pm_PlainHall_state an_PlainHall_state cd_PlainHall_state ct_PlainHall_state), sl_PlainHall_state⟩)
    (c_PlainHall_state : PySem.W.codeIn K cd_PlainHall_state "PlainHall.state" = true)
    (k_PlainHall_state : PySem.W.keepIn K (.ref f_PlainHall_state) = true)
    (a_PlainHall_eq : PySem.W.findIn K (.ref C_PlainHall) "__eq__" = some (some (.ref f_PlainHall_eq)))
    (i_PlainHall_eq : PySem.W.isFn K (.ref f_PlainHall_eq) = true)
    (l_PlainHall_eq : K.lookup f_PlainHall_eq = some ⟨oc_PlainHall_eq, od_PlainHall_eq, .func (PySem.W.fnOf "__eq__" "PlainHall.__eq__" (defArgs s_PlainHall_eq) (defBody s_PlainHall_eq) (defScope s_PlainHall_eq) .none kV_PlainHall_eq dc_PlainHall_eq pm_PlainHall_eq an_PlainHall_eq cd_PlainHall_eq ct_PlainHall_eq), sl_PlainHall_eq⟩)
    (c_PlainHall_eq : PySem.W.codeIn K cd_PlainHall_eq "PlainHall.__eq__" = true)
    (k_PlainHall_eq : PySem.W.keepIn K (.ref f_PlainHall_eq) = true)
    (a_PlainHall_add : PySem.W.findIn K (.ref C_PlainHall) "_add" = some (some (.ref f_PlainHall_add)))
    (i_PlainHall_add : PySem.W.isFn K (.ref f_PlainHall_add) = true)
    (l_PlainHall_add : K.lookup f_PlainHall_add = some ⟨oc_PlainHall_add, od_PlainHall_add, .func (PySem.W.fnOf "_add" "PlainHall._add" (defArgs s_PlainHall_add) (defBody s_PlainHall_add) (defScope s_PlainHall_add) .none kV_PlainHall_add dc_PlainHall_add pm_PlainHall_add an_PlainHall_add cd_PlainHall_add ct_PlainHall_add), sl_PlainHall_add⟩)
    (c_PlainHall_add : PySem.W.codeIn K cd_PlainHall_add "PlainHall._add" = true)
    (k_PlainHall_add : PySem.W.keepIn K (.ref f_PlainHall_add) = true)
    (a_PlainHall_tell : PySem.W.findIn K (.ref C_PlainHall) "_tell" = some (some (.ref f_PlainHall_tell)))
    (i_PlainHall_tell : PySem.W.isFn K (.ref f_PlainHall_tell) = true)
    (l_PlainHall_tell : K.lookup f_PlainHall_tell = some ⟨oc_PlainHall_tell, od_PlainHall_tell, .func (PySem.W.fnOf "_tell" "PlainHall._tell" (defArgs s_PlainHall_tell) (defBody s_PlainHall_tell) (defScope s_PlainHall_tell) .none kV_PlainHall_tell dc_PlainHall_tell pm_PlainHall_tell an_PlainHall_tell cd_PlainHall_tell ct_PlainHall_tell), sl_PlainHall_tell⟩)
    (c_PlainHall_tell : PySem.W.codeIn K cd_PlainHall_tell "PlainHall._tell" = true)
    (k_PlainHall_tell : PySem.W.keepIn K (.ref f_PlainHall_tell) = true)
    (a_PlainHall_twin : PySem.W.findIn K (.ref C_PlainHall) "twin" = some (some (.ref f_PlainHall_twin)))
    (i_PlainHall_twin : PySem.W.isFn K (.ref f_PlainHall_twin) = true)
    (l_PlainHall_twin : K.lookup f_PlainHall_twin = some ⟨oc_PlainHall_twin, od_PlainHall_twin, .func (PySem.W.fnOf "twin" "PlainHall.twin" (defArgs s_PlainHall_twin) (defBody s_PlainHall_twin) (defScope s_PlainHall_twin) .none kV_PlainHall_twin dc_PlainHall_twin pm_PlainHall_twin an_PlainHall_twin cd_PlainHall_twin ct_PlainHall_twin), sl_PlainHall_twin⟩)
    (c_PlainHall_twin : PySem.W.codeIn K cd_PlainHall_twin "PlainHall.twin" = true)
    (k_PlainHall_twin : PySem.W.keepIn K (.ref f_PlainHall_twin) = true)
    (a_PlainHall_do : PySem.W.findIn K (.ref C_PlainHall) "do" = some (some (.ref f_PlainHall_do)))
    (i_PlainHall_do : PySem.W.isFn K (.ref f_PlainHall_do) = true)
    (l_PlainHall_do : K.lookup f_PlainHall_do = some ⟨oc_PlainHall_do, od_PlainHall_do, .func (PySem.W.fnOf "do" "PlainHall.do" (defArgs s_PlainHall_do) (defBody s_PlainHall_do) (defScope s_PlainHall_do) .none kV_PlainHall_do dc_PlainHall_do pm_PlainHall_do an_PlainHall_do cd_PlainHall_do ct_PlainHall_do), sl_PlainHall_do⟩)
    (c_PlainHall_do : PySem.W.codeIn K cd_PlainHall_do "PlainHall.do" = true)
    (k_PlainHall_do : PySem.W.keepIn K (.ref f_PlainHall_do) = true)
    (a_law_cell_at : PySem.W.nsIn K mainGlobals "_law_cell_at" = some (some (.ref f_law_cell_at)))
    (l_law_cell_at : K.lookup f_law_cell_at = some ⟨oc_law_cell_at, od_law_cell_at, .func (PySem.W.fnOf "_law_cell_at" "_law_cell_at" (defArgs s_law_cell_at) (defBody s_law_cell_at) (defScope s_law_cell_at) .none kV_law_cell_at dc_law_cell_at pm_law_cell_at an_law_cell_at cd_law_cell_at ct_law_cell_at), sl_law_cell_at⟩)
    (c_law_cell_at : PySem.W.codeIn K cd_law_cell_at "_law_cell_at" = true)
    (k_law_cell_at : PySem.W.keepIn K (.ref f_law_cell_at) = true)
    (a_law_take : PySem.W.nsIn K mainGlobals "_law_take" = some (some (.ref f_law_take)))
    (l_law_take : K.lookup f_law_take = some ⟨oc_law_take, od_law_take, .func (PySem.W.fnOf "_law_take" "_law_take" (defArgs s_law_take) (defBody s_law_take) (defScope s_law_take) .none kV_law_take dc_law_take pm_law_take an_law_take cd_law_take ct_law_take), sl_law_take⟩)
    (c_law_take : PySem.W.codeIn K cd_law_take "_law_take" = true)
    (k_law_take : PySem.W.keepIn K (.ref f_law_take) = true)
    (a_law_pool : PySem.W.nsIn K mainGlobals "_law_pool" = some (some (.ref f_law_pool)))
    (l_law_pool : K.lookup f_law_pool = some ⟨oc_law_pool, od_law_pool, .func (PySem.W.fnOf "_law_pool" "_law_pool" (defArgs s_law_pool) (defBody s_law_pool) (defScope s_law_pool) .none kV_law_pool dc_law_pool pm_law_pool an_law_pool cd_law_pool ct_law_pool), sl_law_pool⟩)
    (c_law_pool : PySem.W.codeIn K cd_law_pool "_law_pool" = true)
    (k_law_pool : PySem.W.keepIn K (.ref f_law_pool) = true)
    (a_law_did : PySem.W.nsIn K mainGlobals "_law_did" = some (some (.ref f_law_did)))
    (l_law_did : K.lookup f_law_did = some ⟨oc_law_did, od_law_did, .func (PySem.W.fnOf "_law_did" "_law_did" (defArgs s_law_did) (defBody s_law_did) (defScope s_law_did) .none kV_law_did dc_law_did pm_law_did an_law_did cd_law_did ct_law_did), sl_law_did⟩)
    (c_law_did : PySem.W.codeIn K cd_law_did "_law_did" = true)
    (k_law_did : PySem.W.keepIn K (.ref f_law_did) = true)
    (a_law_due : PySem.W.nsIn K mainGlobals "_law_due" = some (some (.ref f_law_due)))
    (l_law_due : K.lookup f_law_due = some ⟨oc_law_due, od_law_due, .func (PySem.W.fnOf "_law_due" "_law_due" (defArgs s_law_due) (defBody s_law_due) (defScope s_law_due) .none kV_law_due dc_law_due pm_law_due an_law_due cd_law_due ct_law_due), sl_law_due⟩)
    (c_law_due : PySem.W.codeIn K cd_law_due "_law_due" = true)
    (k_law_due : PySem.W.keepIn K (.ref f_law_due) = true)
    (a_law_no_member : PySem.W.nsIn K mainGlobals "_law_no_member" = some (some (.ref f_law_no_member)))
    (l_law_no_member : K.lookup f_law_no_member = some ⟨oc_law_no_member, od_law_no_member, .func (PySem.W.fnOf "_law_no_member" "_law_no_member" (defArgs s_law_no_member) (defBody s_law_no_member) (defScope s_law_no_member) .none kV_law_no_member dc_law_no_member pm_law_no_member an_law_no_member cd_law_no_member ct_law_no_member), sl_law_no_member⟩)
    (c_law_no_member : PySem.W.codeIn K cd_law_no_member "_law_no_member" = true)
    (k_law_no_member : PySem.W.keepIn K (.ref f_law_no_member) = true)
    (a_law_stands : PySem.W.nsIn K mainGlobals "_law_stands" = some (some (.ref f_law_stands)))
    (l_law_stands : K.lookup f_law_stands = some ⟨oc_law_stands, od_law_stands, .func (PySem.W.fnOf "_law_stands" "_law_stands" (defArgs s_law_stands) (defBody s_law_stands) (defScope s_law_stands) .none kV_law_stands dc_law_stands pm_law_stands an_law_stands cd_law_stands ct_law_stands), sl_law_stands⟩)
    (c_law_stands : PySem.W.codeIn K cd_law_stands "_law_stands" = true)
    (k_law_stands : PySem.W.keepIn K (.ref f_law_stands) = true)
    (a_law_made : PySem.W.nsIn K mainGlobals "_law_made" = some (some (.ref f_law_made)))
    (l_law_made : K.lookup f_law_made = some ⟨oc_law_made, od_law_made, .func (PySem.W.fnOf "_law_made" "_law_made" (defArgs s_law_made) (defBody s_law_made) (defScope s_law_made) .none kV_law_made dc_law_made pm_law_made an_law_made cd_law_made ct_law_made), sl_law_made⟩)
    (c_law_made : PySem.W.codeIn K cd_law_made "_law_made" = true)
    (k_law_made : PySem.W.keepIn K (.ref f_law_made) = true)
    (a_law_done : PySem.W.nsIn K mainGlobals "_law_done" = some (some (.ref f_law_done)))
    (l_law_done : K.lookup f_law_done = some ⟨oc_law_done, od_law_done, .func (PySem.W.fnOf "_law_done" "_law_done" (defArgs s_law_done) (defBody s_law_done) (defScope s_law_done) .none kV_law_done dc_law_done pm_law_done an_law_done cd_law_done ct_law_done), sl_law_done⟩)
    (c_law_done : PySem.W.codeIn K cd_law_done "_law_done" = true)
    (k_law_done : PySem.W.keepIn K (.ref f_law_done) = true)
    (a_law_bad : PySem.W.nsIn K mainGlobals "_law_bad" = some (some (.ref f_law_bad)))
    (l_law_bad : K.lookup f_law_bad = some ⟨oc_law_bad, od_law_bad, .func (PySem.W.fnOf "_law_bad" "_law_bad" (defArgs s_law_bad) (defBody s_law_bad) (defScope s_law_bad) .none kV_law_bad dc_law_bad pm_law_bad an_law_bad cd_law_bad ct_law_bad), sl_law_bad⟩)
    (c_law_bad : PySem.W.codeIn K cd_law_bad "_law_bad" = true)
    (k_law_bad : PySem.W.keepIn K (.ref f_law_bad) = true)
    (a_law : PySem.W.nsIn K mainGlobals "law" = some (some (.ref f_law)))
    (l_law : K.lookup f_law = some ⟨oc_law, od_law, .func (PySem.W.fnOf "law" "law" (defArgs s_law) (defBody s_law) (defScope s_law) .none kV_law dc_law pm_law an_law cd_law ct_law), sl_law⟩)
    (c_law : PySem.W.codeIn K cd_law "law" = true)
    (k_law : PySem.W.keepIn K (.ref f_law) = true)
    (kC_AllTold : PySem.W.keepIn K (.ref C_AllTold) = true)
    (kC_Barred : PySem.W.keepIn K (.ref C_Barred) = true)
    (kC_HallError : PySem.W.keepIn K (.ref C_HallError) = true)
    (kC_Known : PySem.W.keepIn K (.ref C_Known) = true)
    (kC_Lacks : PySem.W.keepIn K (.ref C_Lacks) = true)
    (kC_NoDeed : PySem.W.keepIn K (.ref C_NoDeed) = true)
    (kC_NoMember : PySem.W.keepIn K (.ref C_NoMember) = true)
    (kC_NoNumber : PySem.W.keepIn K (.ref C_NoNumber) = true)
    (kC_PlainHall : PySem.W.keepIn K (.ref C_PlainHall) = true)
    (pg_PlainHall : PySem.W.plainGet K C_PlainHall Str.empty = true)
    (hd_PlainHall : PySem.W.hasDictIn K C_PlainHall = true)
    (po_PlainHall : PySem.W.plainOver K C_PlainHall = true)
    (sa_PlainHall : PySem.W.findIn K (.ref C_PlainHall) "__setattr__" = some (some (.builtin "object.__setattr__")))
    (mk_PlainHall : PySem.W.makesIn K C_PlainHall = true)
    (ha_PlainHall : PySem.W.findIn K (.ref C_PlainHall) "__class__" = some (some (.builtin "object.__class__")))
    (hm_PlainHall : PySem.W.mroIn K C_PlainHall (.type "object") = some true)
    (ty_PlainHall : PySem.W.typeIn K (.ref C_PlainHall) = some (.type "type"))
    (nt_NoneType_PlainHall : PySem.W.subIn K (.type "NoneType") (.ref C_PlainHall) = some false)
    (nt_bool_PlainHall : PySem.W.subIn K (.type "bool") (.ref C_PlainHall) = some false)
    (nt_int_PlainHall : PySem.W.subIn K (.type "int") (.ref C_PlainHall) = some false)
    (nt_str_PlainHall : PySem.W.subIn K (.type "str") (.ref C_PlainHall) = some false)
    (nt_list_PlainHall : PySem.W.subIn K (.type "list") (.ref C_PlainHall) = some false)
    (nt_tuple_PlainHall : PySem.W.subIn K (.type "tuple") (.ref C_PlainHall) = some false)
    (nt_dict_PlainHall : PySem.W.subIn K (.type "dict") (.ref C_PlainHall) = some false)
    (n_PlainHall__members : PySem.W.findIn K (.ref C_PlainHall) "_members" = some none)
    (n_PlainHall__row : PySem.W.findIn K (.ref C_PlainHall) "_row" = some none)
    (n_PlainHall__told : PySem.W.findIn K (.ref C_PlainHall) "_told" = some none)
    (exC_AllTold : PySem.W.subIn K (.ref C_AllTold) (.type "BaseException") = some true)
    (hdx_AllTold : PySem.W.hasDictIn K C_AllTold = true)
    (ty_AllTold : PySem.W.typeIn K (.ref C_AllTold) = some (.type "type"))
    (ss_AllTold : PySem.W.subIn K (.ref C_AllTold) (.ref C_AllTold) = some true)
    (exC_Barred : PySem.W.subIn K (.ref C_Barred) (.type "BaseException") = some true)
    (hdx_Barred : PySem.W.hasDictIn K C_Barred = true)
    (ty_Barred : PySem.W.typeIn K (.ref C_Barred) = some (.type "type"))
    (ss_Barred : PySem.W.subIn K (.ref C_Barred) (.ref C_Barred) = some true)
    (exC_HallError : PySem.W.subIn K (.ref C_HallError) (.type "BaseException") = some true)
    (hdx_HallError : PySem.W.hasDictIn K C_HallError = true)
    (ty_HallError : PySem.W.typeIn K (.ref C_HallError) = some (.type "type"))
    (ss_HallError : PySem.W.subIn K (.ref C_HallError) (.ref C_HallError) = some true)
    (exC_Known : PySem.W.subIn K (.ref C_Known) (.type "BaseException") = some true)
    (hdx_Known : PySem.W.hasDictIn K C_Known = true)
    (ty_Known : PySem.W.typeIn K (.ref C_Known) = some (.type "type"))
    (ss_Known : PySem.W.subIn K (.ref C_Known) (.ref C_Known) = some true)
    (exC_Lacks : PySem.W.subIn K (.ref C_Lacks) (.type "BaseException") = some true)
    (hdx_Lacks : PySem.W.hasDictIn K C_Lacks = true)
    (ty_Lacks : PySem.W.typeIn K (.ref C_Lacks) = some (.type "type"))
    (ss_Lacks : PySem.W.subIn K (.ref C_Lacks) (.ref C_Lacks) = some true)
    (exC_NoDeed : PySem.W.subIn K (.ref C_NoDeed) (.type "BaseException") = some true)
    (hdx_NoDeed : PySem.W.hasDictIn K C_NoDeed = true)
    (ty_NoDeed : PySem.W.typeIn K (.ref C_NoDeed) = some (.type "type"))
    (ss_NoDeed : PySem.W.subIn K (.ref C_NoDeed) (.ref C_NoDeed) = some true)
    (exC_NoMember : PySem.W.subIn K (.ref C_NoMember) (.type "BaseException") = some true)
    (hdx_NoMember : PySem.W.hasDictIn K C_NoMember = true)
    (ty_NoMember : PySem.W.typeIn K (.ref C_NoMember) = some (.type "type"))
    (ss_NoMember : PySem.W.subIn K (.ref C_NoMember) (.ref C_NoMember) = some true)
    (exC_NoNumber : PySem.W.subIn K (.ref C_NoNumber) (.type "BaseException") = some true)
    (hdx_NoNumber : PySem.W.hasDictIn K C_NoNumber = true)
    (ty_NoNumber : PySem.W.typeIn K (.ref C_NoNumber) = some (.type "type"))
    (ss_NoNumber : PySem.W.subIn K (.ref C_NoNumber) (.ref C_NoNumber) = some true)
    (opq : PySem.W.nsIn K PySem.cStatics "thirdparty.any" = some none)
    (xhn : PySem.W.specialIn K (.builtin "object.__class__") "__get__" = some (some (.builtin "getset_descriptor.__get__")))
    (xht : PySem.W.takesIn K (.builtin "object.__class__") = some true)
    (ii_AllTold : PySem.W.findIn K (.ref C_AllTold) "__init__" = some (some (.ref fI_AllTold)))
    (lI_AllTold : K.lookup fI_AllTold = some ⟨ocI_AllTold, odI_AllTold, .func (PySem.W.ksFn "__init__" "AllTold.__init__" (defArgs (inClass (topS 8) 0)) (defBody (inClass (topS 8) 0)) (defScope (inClass (topS 8) 0)) .none kVI_AllTold dcI_AllTold pmI_AllTold anI_AllTold (.ref cda_AllTold) ctI_AllTold cc_AllTold), slI_AllTold⟩)
    (coI_AllTold : PySem.W.codeIn K (.ref cda_AllTold) "AllTold.__init__" = true)
    (cdI_AllTold : K.lookup cda_AllTold = some ⟨cclI_AllTold, cddI_AllTold, .fields vsI_AllTold, ccsI_AllTold⟩)
    (vfI_AllTold : vsI_AllTold[2]? = some (.str (Str.ofString "/claim/cut.py") tfI_AllTold))
    (clI_AllTold : K.lookup cc_AllTold = some ⟨clI_AllTold, cldI_AllTold, .cell (some (.ref C_AllTold)), cslI_AllTold⟩)
    (in_AllTold : PySem.W.excInitIn K C_AllTold leT "LookupError.__new__" = true)
    (ov_AllTold : PySem.W.excOver K C_AllTold leT = true)
    (sax_AllTold : PySem.W.findIn K (.ref C_AllTold) "__setattr__" = some (some (.builtin "object.__setattr__")))
    (nf_AllTold : PySem.W.findIn K (.ref C_AllTold) "found" = some none)
    (sB_AllTold : PySem.W.subIn K (.ref C_AllTold) (.type "LookupError") = some true)
    (sC_AllTold : PySem.W.mroIn K C_AllTold (.ref C_AllTold) = some true)
    (ti_AllTold : PySem.W.typeIn K (.ref fI_AllTold) = some (.type "function"))
    (sup_AllTold : PySem.W.ks_superIn K C_AllTold C_AllTold "__init__" = some (some (.builtin "LookupError.__init__")))
    (xga_AllTold : PySem.W.findIn K (.ref C_AllTold) "__getattribute__" = some (some (.builtin "BaseException.__getattribute__")))
    (xgg_AllTold : PySem.W.findIn K (.ref C_AllTold) "__getattr__" = some none)
    (xha_AllTold : PySem.W.findIn K (.ref C_AllTold) "__class__" = some (some (.builtin "object.__class__")))
    (xhm_AllTold : PySem.W.mroIn K C_AllTold (.type "object") = some true)
    (sb_AllTold_AllTold : PySem.W.subIn K (.ref C_AllTold) (.ref C_AllTold) = some true)
    (sb_AllTold_Barred : PySem.W.subIn K (.ref C_AllTold) (.ref C_Barred) = some true)
    (sb_AllTold_HallError : PySem.W.subIn K (.ref C_AllTold) (.ref C_HallError) = some false)
    (sb_AllTold_Known : PySem.W.subIn K (.ref C_AllTold) (.ref C_Known) = some false)
    (sb_AllTold_Lacks : PySem.W.subIn K (.ref C_AllTold) (.ref C_Lacks) = some false)
    (sb_AllTold_NoDeed : PySem.W.subIn K (.ref C_AllTold) (.ref C_NoDeed) = some false)
    (sb_AllTold_NoMember : PySem.W.subIn K (.ref C_AllTold) (.ref C_NoMember) = some false)
    (sb_AllTold_NoNumber : PySem.W.subIn K (.ref C_AllTold) (.ref C_NoNumber) = some false)
    (ii_Known : PySem.W.findIn K (.ref C_Known) "__init__" = some (some (.ref fI_Known)))
    (lI_Known : K.lookup fI_Known = some ⟨ocI_Known, odI_Known, .func (PySem.W.ksFn "__init__" "Known.__init__" (defArgs (inClass (topS 7) 0)) (defBody (inClass (topS 7) 0)) (defScope (inClass (topS 7) 0)) .none kVI_Known dcI_Known pmI_Known anI_Known (.ref cda_Known) ctI_Known cc_Known), slI_Known⟩)
    (coI_Known : PySem.W.codeIn K (.ref cda_Known) "Known.__init__" = true)
    (cdI_Known : K.lookup cda_Known = some ⟨cclI_Known, cddI_Known, .fields vsI_Known, ccsI_Known⟩)
    (vfI_Known : vsI_Known[2]? = some (.str (Str.ofString "/claim/cut.py") tfI_Known))
    (clI_Known : K.lookup cc_Known = some ⟨clI_Known, cldI_Known, .cell (some (.ref C_Known)), cslI_Known⟩)
    (in_Known : PySem.W.excInitIn K C_Known leT "LookupError.__new__" = true)
    (ov_Known : PySem.W.excOver K C_Known leT = true)
    (sax_Known : PySem.W.findIn K (.ref C_Known) "__setattr__" = some (some (.builtin "object.__setattr__")))
    (nf_Known : PySem.W.findIn K (.ref C_Known) "found" = some none)
    (sB_Known : PySem.W.subIn K (.ref C_Known) (.type "LookupError") = some true)
    (sC_Known : PySem.W.mroIn K C_Known (.ref C_Known) = some true)
    (ti_Known : PySem.W.typeIn K (.ref fI_Known) = some (.type "function"))
    (sup_Known : PySem.W.ks_superIn K C_Known C_Known "__init__" = some (some (.builtin "LookupError.__init__")))
    (xga_Known : PySem.W.findIn K (.ref C_Known) "__getattribute__" = some (some (.builtin "BaseException.__getattribute__")))
    (xgg_Known : PySem.W.findIn K (.ref C_Known) "__getattr__" = some none)
    (xha_Known : PySem.W.findIn K (.ref C_Known) "__class__" = some (some (.builtin "object.__class__")))
    (xhm_Known : PySem.W.mroIn K C_Known (.type "object") = some true)
    (sb_Known_AllTold : PySem.W.subIn K (.ref C_Known) (.ref C_AllTold) = some false)
    (sb_Known_Barred : PySem.W.subIn K (.ref C_Known) (.ref C_Barred) = some true)
    (sb_Known_HallError : PySem.W.subIn K (.ref C_Known) (.ref C_HallError) = some false)
    (sb_Known_Known : PySem.W.subIn K (.ref C_Known) (.ref C_Known) = some true)
    (sb_Known_Lacks : PySem.W.subIn K (.ref C_Known) (.ref C_Lacks) = some false)
    (sb_Known_NoDeed : PySem.W.subIn K (.ref C_Known) (.ref C_NoDeed) = some false)
    (sb_Known_NoMember : PySem.W.subIn K (.ref C_Known) (.ref C_NoMember) = some false)
    (sb_Known_NoNumber : PySem.W.subIn K (.ref C_Known) (.ref C_NoNumber) = some false)
    (ii_Lacks : PySem.W.findIn K (.ref C_Lacks) "__init__" = some (some (.ref fI_Lacks)))
    (lI_Lacks : K.lookup fI_Lacks = some ⟨ocI_Lacks, odI_Lacks, .func (PySem.W.ksFn "__init__" "Lacks.__init__" (defArgs (inClass (topS 6) 0)) (defBody (inClass (topS 6) 0)) (defScope (inClass (topS 6) 0)) .none kVI_Lacks dcI_Lacks pmI_Lacks anI_Lacks (.ref cda_Lacks) ctI_Lacks cc_Lacks), slI_Lacks⟩)
    (coI_Lacks : PySem.W.codeIn K (.ref cda_Lacks) "Lacks.__init__" = true)
    (cdI_Lacks : K.lookup cda_Lacks = some ⟨cclI_Lacks, cddI_Lacks, .fields vsI_Lacks, ccsI_Lacks⟩)
    (vfI_Lacks : vsI_Lacks[2]? = some (.str (Str.ofString "/claim/cut.py") tfI_Lacks))
    (clI_Lacks : K.lookup cc_Lacks = some ⟨clI_Lacks, cldI_Lacks, .cell (some (.ref C_Lacks)), cslI_Lacks⟩)
    (in_Lacks : PySem.W.excInitIn K C_Lacks leT "LookupError.__new__" = true)
    (ov_Lacks : PySem.W.excOver K C_Lacks leT = true)
    (sax_Lacks : PySem.W.findIn K (.ref C_Lacks) "__setattr__" = some (some (.builtin "object.__setattr__")))
    (nf_Lacks : PySem.W.findIn K (.ref C_Lacks) "found" = some none)
    (sB_Lacks : PySem.W.subIn K (.ref C_Lacks) (.type "LookupError") = some true)
    (sC_Lacks : PySem.W.mroIn K C_Lacks (.ref C_Lacks) = some true)
    (ti_Lacks : PySem.W.typeIn K (.ref fI_Lacks) = some (.type "function"))
    (sup_Lacks : PySem.W.ks_superIn K C_Lacks C_Lacks "__init__" = some (some (.builtin "LookupError.__init__")))
    (xga_Lacks : PySem.W.findIn K (.ref C_Lacks) "__getattribute__" = some (some (.builtin "BaseException.__getattribute__")))
    (xgg_Lacks : PySem.W.findIn K (.ref C_Lacks) "__getattr__" = some none)
    (xha_Lacks : PySem.W.findIn K (.ref C_Lacks) "__class__" = some (some (.builtin "object.__class__")))
    (xhm_Lacks : PySem.W.mroIn K C_Lacks (.type "object") = some true)
    (sb_Lacks_AllTold : PySem.W.subIn K (.ref C_Lacks) (.ref C_AllTold) = some false)
    (sb_Lacks_Barred : PySem.W.subIn K (.ref C_Lacks) (.ref C_Barred) = some true)
    (sb_Lacks_HallError : PySem.W.subIn K (.ref C_Lacks) (.ref C_HallError) = some false)
    (sb_Lacks_Known : PySem.W.subIn K (.ref C_Lacks) (.ref C_Known) = some false)
    (sb_Lacks_Lacks : PySem.W.subIn K (.ref C_Lacks) (.ref C_Lacks) = some true)
    (sb_Lacks_NoDeed : PySem.W.subIn K (.ref C_Lacks) (.ref C_NoDeed) = some false)
    (sb_Lacks_NoMember : PySem.W.subIn K (.ref C_Lacks) (.ref C_NoMember) = some false)
    (sb_Lacks_NoNumber : PySem.W.subIn K (.ref C_Lacks) (.ref C_NoNumber) = some false)
    (ii_NoDeed : PySem.W.findIn K (.ref C_NoDeed) "__init__" = some (some (.ref fI_NoDeed)))
    (lI_NoDeed : K.lookup fI_NoDeed = some ⟨ocI_NoDeed, odI_NoDeed, .func (PySem.W.ksFn "__init__" "NoDeed.__init__" (defArgs (inClass (topS 5) 0)) (defBody (inClass (topS 5) 0)) (defScope (inClass (topS 5) 0)) .none kVI_NoDeed dcI_NoDeed pmI_NoDeed anI_NoDeed (.ref cda_NoDeed) ctI_NoDeed cc_NoDeed), slI_NoDeed⟩)
    (coI_NoDeed : PySem.W.codeIn K (.ref cda_NoDeed) "NoDeed.__init__" = true)
    (cdI_NoDeed : K.lookup cda_NoDeed = some ⟨cclI_NoDeed, cddI_NoDeed, .fields vsI_NoDeed, ccsI_NoDeed⟩)
    (vfI_NoDeed : vsI_NoDeed[2]? = some (.str (Str.ofString "/claim/cut.py") tfI_NoDeed))
    (clI_NoDeed : K.lookup cc_NoDeed = some ⟨clI_NoDeed, cldI_NoDeed, .cell (some (.ref C_NoDeed)), cslI_NoDeed⟩)
    (in_NoDeed : PySem.W.excInitIn K C_NoDeed veT "ValueError.__new__" = true)
    (ov_NoDeed : PySem.W.excOver K C_NoDeed veT = true)
    (sax_NoDeed : PySem.W.findIn K (.ref C_NoDeed) "__setattr__" = some (some (.builtin "object.__setattr__")))
    (nf_NoDeed : PySem.W.findIn K (.ref C_NoDeed) "found" = some none)
    (sB_NoDeed : PySem.W.subIn K (.ref C_NoDeed) (.type "ValueError") = some true)
    (sC_NoDeed : PySem.W.mroIn K C_NoDeed (.ref C_NoDeed) = some true)
    (ti_NoDeed : PySem.W.typeIn K (.ref fI_NoDeed) = some (.type "function"))
    (sup_NoDeed : PySem.W.ks_superIn K C_NoDeed C_NoDeed "__init__" = some (some (.builtin "ValueError.__init__")))
    (xga_NoDeed : PySem.W.findIn K (.ref C_NoDeed) "__getattribute__" = some (some (.builtin "BaseException.__getattribute__")))
    (xgg_NoDeed : PySem.W.findIn K (.ref C_NoDeed) "__getattr__" = some none)
    (xha_NoDeed : PySem.W.findIn K (.ref C_NoDeed) "__class__" = some (some (.builtin "object.__class__")))
    (xhm_NoDeed : PySem.W.mroIn K C_NoDeed (.type "object") = some true)
    (sb_NoDeed_AllTold : PySem.W.subIn K (.ref C_NoDeed) (.ref C_AllTold) = some false)
    (sb_NoDeed_Barred : PySem.W.subIn K (.ref C_NoDeed) (.ref C_Barred) = some false)
    (sb_NoDeed_HallError : PySem.W.subIn K (.ref C_NoDeed) (.ref C_HallError) = some true)
    (sb_NoDeed_Known : PySem.W.subIn K (.ref C_NoDeed) (.ref C_Known) = some false)
    (sb_NoDeed_Lacks : PySem.W.subIn K (.ref C_NoDeed) (.ref C_Lacks) = some false)
    (sb_NoDeed_NoDeed : PySem.W.subIn K (.ref C_NoDeed) (.ref C_NoDeed) = some true)
    (sb_NoDeed_NoMember : PySem.W.subIn K (.ref C_NoDeed) (.ref C_NoMember) = some false)
    (sb_NoDeed_NoNumber : PySem.W.subIn K (.ref C_NoDeed) (.ref C_NoNumber) = some false)
    (ii_NoMember : PySem.W.findIn K (.ref C_NoMember) "__init__" = some (some (.ref fI_NoMember)))
    (lI_NoMember : K.lookup fI_NoMember = some ⟨ocI_NoMember, odI_NoMember, .func (PySem.W.ksFn "__init__" "NoMember.__init__" (defArgs (inClass (topS 4) 0)) (defBody (inClass (topS 4) 0)) (defScope (inClass (topS 4) 0)) .none kVI_NoMember dcI_NoMember pmI_NoMember anI_NoMember (.ref cda_NoMember) ctI_NoMember cc_NoMember), slI_NoMember⟩)
    (coI_NoMember : PySem.W.codeIn K (.ref cda_NoMember) "NoMember.__init__" = true)
    (cdI_NoMember : K.lookup cda_NoMember = some ⟨cclI_NoMember, cddI_NoMember, .fields vsI_NoMember, ccsI_NoMember⟩)
    (vfI_NoMember : vsI_NoMember[2]? = some (.str (Str.ofString "/claim/cut.py") tfI_NoMember))
    (clI_NoMember : K.lookup cc_NoMember = some ⟨clI_NoMember, cldI_NoMember, .cell (some (.ref C_NoMember)), cslI_NoMember⟩)
    (in_NoMember : PySem.W.excInitIn K C_NoMember veT "ValueError.__new__" = true)
    (ov_NoMember : PySem.W.excOver K C_NoMember veT = true)
    (sax_NoMember : PySem.W.findIn K (.ref C_NoMember) "__setattr__" = some (some (.builtin "object.__setattr__")))
    (nf_NoMember : PySem.W.findIn K (.ref C_NoMember) "found" = some none)
    (sB_NoMember : PySem.W.subIn K (.ref C_NoMember) (.type "ValueError") = some true)
    (sC_NoMember : PySem.W.mroIn K C_NoMember (.ref C_NoMember) = some true)
    (ti_NoMember : PySem.W.typeIn K (.ref fI_NoMember) = some (.type "function"))
    (sup_NoMember : PySem.W.ks_superIn K C_NoMember C_NoMember "__init__" = some (some (.builtin "ValueError.__init__")))
    (xga_NoMember : PySem.W.findIn K (.ref C_NoMember) "__getattribute__" = some (some (.builtin "BaseException.__getattribute__")))
    (xgg_NoMember : PySem.W.findIn K (.ref C_NoMember) "__getattr__" = some none)
    (xha_NoMember : PySem.W.findIn K (.ref C_NoMember) "__class__" = some (some (.builtin "object.__class__")))
    (xhm_NoMember : PySem.W.mroIn K C_NoMember (.type "object") = some true)
    (sb_NoMember_AllTold : PySem.W.subIn K (.ref C_NoMember) (.ref C_AllTold) = some false)
    (sb_NoMember_Barred : PySem.W.subIn K (.ref C_NoMember) (.ref C_Barred) = some false)
    (sb_NoMember_HallError : PySem.W.subIn K (.ref C_NoMember) (.ref C_HallError) = some true)
    (sb_NoMember_Known : PySem.W.subIn K (.ref C_NoMember) (.ref C_Known) = some false)
    (sb_NoMember_Lacks : PySem.W.subIn K (.ref C_NoMember) (.ref C_Lacks) = some false)
    (sb_NoMember_NoDeed : PySem.W.subIn K (.ref C_NoMember) (.ref C_NoDeed) = some false)
    (sb_NoMember_NoMember : PySem.W.subIn K (.ref C_NoMember) (.ref C_NoMember) = some true)
    (sb_NoMember_NoNumber : PySem.W.subIn K (.ref C_NoMember) (.ref C_NoNumber) = some false)
    (ii_NoNumber : PySem.W.findIn K (.ref C_NoNumber) "__init__" = some (some (.ref fI_NoNumber)))
    (lI_NoNumber : K.lookup fI_NoNumber = some ⟨ocI_NoNumber, odI_NoNumber, .func (PySem.W.ksFn "__init__" "NoNumber.__init__" (defArgs (inClass (topS 3) 0)) (defBody (inClass (topS 3) 0)) (defScope (inClass (topS 3) 0)) .none kVI_NoNumber dcI_NoNumber pmI_NoNumber anI_NoNumber (.ref cda_NoNumber) ctI_NoNumber cc_NoNumber), slI_NoNumber⟩)
    (coI_NoNumber : PySem.W.codeIn K (.ref cda_NoNumber) "NoNumber.__init__" = true)
    (cdI_NoNumber : K.lookup cda_NoNumber = some ⟨cclI_NoNumber, cddI_NoNumber, .fields vsI_NoNumber, ccsI_NoNumber⟩)
    (vfI_NoNumber : vsI_NoNumber[2]? = some (.str (Str.ofString "/claim/cut.py") tfI_NoNumber))
    (clI_NoNumber : K.lookup cc_NoNumber = some ⟨clI_NoNumber, cldI_NoNumber, .cell (some (.ref C_NoNumber)), cslI_NoNumber⟩)
    (in_NoNumber : PySem.W.excInitIn K C_NoNumber veT "ValueError.__new__" = true)
    (ov_NoNumber : PySem.W.excOver K C_NoNumber veT = true)
    (sax_NoNumber : PySem.W.findIn K (.ref C_NoNumber) "__setattr__" = some (some (.builtin "object.__setattr__")))
    (nf_NoNumber : PySem.W.findIn K (.ref C_NoNumber) "found" = some none)
    (sB_NoNumber : PySem.W.subIn K (.ref C_NoNumber) (.type "ValueError") = some true)
    (sC_NoNumber : PySem.W.mroIn K C_NoNumber (.ref C_NoNumber) = some true)
    (ti_NoNumber : PySem.W.typeIn K (.ref fI_NoNumber) = some (.type "function"))
    (sup_NoNumber : PySem.W.ks_superIn K C_NoNumber C_NoNumber "__init__" = some (some (.builtin "ValueError.__init__")))
    (xga_NoNumber : PySem.W.findIn K (.ref C_NoNumber) "__getattribute__" = some (some (.builtin "BaseException.__getattribute__")))
    (xgg_NoNumber : PySem.W.findIn K (.ref C_NoNumber) "__getattr__" = some none)
    (xha_NoNumber : PySem.W.findIn K (.ref C_NoNumber) "__class__" = some (some (.builtin "object.__class__")))
    (xhm_NoNumber : PySem.W.mroIn K C_NoNumber (.type "object") = some true)
    (sb_NoNumber_AllTold : PySem.W.subIn K (.ref C_NoNumber) (.ref C_AllTold) = some false)
    (sb_NoNumber_Barred : PySem.W.subIn K (.ref C_NoNumber) (.ref C_Barred) = some false)
    (sb_NoNumber_HallError : PySem.W.subIn K (.ref C_NoNumber) (.ref C_HallError) = some true)
    (sb_NoNumber_Known : PySem.W.subIn K (.ref C_NoNumber) (.ref C_Known) = some false)
    (sb_NoNumber_Lacks : PySem.W.subIn K (.ref C_NoNumber) (.ref C_Lacks) = some false)
    (sb_NoNumber_NoDeed : PySem.W.subIn K (.ref C_NoNumber) (.ref C_NoDeed) = some false)
    (sb_NoNumber_NoMember : PySem.W.subIn K (.ref C_NoNumber) (.ref C_NoMember) = some false)
    (sb_NoNumber_NoNumber : PySem.W.subIn K (.ref C_NoNumber) (.ref C_NoNumber) = some true)
    (x_hn : PySem.W.specialIn K (.builtin "object.__class__") "__get__" = some (some (.builtin "getset_descriptor.__get__")))
    (x_htk : PySem.W.takesIn K (.builtin "object.__class__") = some true)
    (z_all : PySem.W.nsIn K mainGlobals "all" = some none)
    (z_bool : PySem.W.nsIn K mainGlobals "bool" = some none)
    (z_int : PySem.W.nsIn K mainGlobals "int" = some none)
    (z_isinstance : PySem.W.nsIn K mainGlobals "isinstance" = some none)
    (z_len : PySem.W.nsIn K mainGlobals "len" = some none)
    (z_list : PySem.W.nsIn K mainGlobals "list" = some none)
    (z_max : PySem.W.nsIn K mainGlobals "max" = some none)
    (z_range : PySem.W.nsIn K mainGlobals "range" = some none)
    (z_super : PySem.W.nsIn K mainGlobals "super" = some none)
    (z_tuple : PySem.W.nsIn K mainGlobals "tuple" = some none)
    (g_LEAST_MEMBERS : PySem.W.nsIn K mainGlobals "LEAST_MEMBERS" = some (some (.int 2 t_LEAST_MEMBERS)))
    (g_MOST_MEMBERS : PySem.W.nsIn K mainGlobals "MOST_MEMBERS" = some (some (.int 5 t_MOST_MEMBERS))) :
    ∃ fd : FuncData, (∀ (s : Shared) (v : Value), BindsTo s fd ⟨[v], []⟩ [("script", v)]) ∧ ∀ base : Heap, K.In base → base.Ns mainGlobals mg → FnOk l.prog w K mg base CX0 11 fa fd ["script"] (sp_law K) := by
  have ee := hfa.symm.trans (PySem.W.mg_of X G a_law)
  cases ee
  have F_is_whole : FunD K "is_whole" "is_whole" (defArgs s_is_whole) (defBody s_is_whole) (defScope s_is_whole) [.non] [] f_is_whole _ := ⟨⟨_, _, _, _, _, _, _, _, _, _, rfl, l_is_whole, c_is_whole, .inr ⟨(by intro z; cases z), _, _, _, _, rfl, e_is_whole, rfl, (.cons rfl .nil)⟩, .inl rfl⟩, k_is_whole⟩
  obtain ⟨ds_is_whole, v_is_whole, b_is_whole⟩ := F_is_whole.binds1 (ps := ["thing", "low", "high"]) 3 1 (by intro z; cases z) rfl (fun _ _ _ _ _ _ _ us its h1 h2 => match us, its, h1, h2 with | [_, _, _], [_], _, _ => ⟨_, rfl, rfl⟩)
  cases v_is_whole
  have F_is_member := fun_mk (st := s_is_member) l_is_member c_is_member k_is_member
  have b_is_member := F_is_member.binds (ps := ["thing", "members"]) fun _ _ _ _ _ _ us hl => match us, hl with | [_, _], _ => rfl
  have F_check_members := fun_mk (st := s_check_members) l_check_members c_check_members k_check_members
  have b_check_members := F_check_members.binds (ps := ["members"]) fun _ _ _ _ _ _ us hl => match us, hl with | [_], _ => rfl
  have F_check_member := fun_mk (st := s_check_member) l_check_member c_check_member k_check_member
  have b_check_member := F_check_member.binds (ps := ["member", "members"]) fun _ _ _ _ _ _ us hl => match us, hl with | [_, _], _ => rfl
  have F_is_ident : FunD K "is_ident" "is_ident" (defArgs s_is_ident) (defBody s_is_ident) (defScope s_is_ident) [.non] [] f_is_ident _ := ⟨⟨_, _, _, _, _, _, _, _, _, _, rfl, l_is_ident, c_is_ident, .inr ⟨(by intro z; cases z), _, _, _, _, rfl, e_is_ident, rfl, (.cons rfl .nil)⟩, .inl rfl⟩, k_is_ident⟩
  obtain ⟨ds_is_ident_2, v_is_ident_2, b_is_ident_2⟩ := F_is_ident.binds1 (ps := ["thing", "members", "high"]) 2 0 (by intro z; cases z) rfl (fun _ _ _ _ _ _ _ us its h1 h2 => match us, its, h1, h2 with | [_, _], [_], _, _ => ⟨_, rfl, rfl⟩)
  obtain ⟨ds_is_ident, v_is_ident, b_is_ident⟩ := F_is_ident.binds1 (ps := ["thing", "members", "high"]) 3 1 (by intro z; cases z) rfl (fun _ _ _ _ _ _ _ us its h1 h2 => match us, its, h1, h2 with | [_, _, _], [_], _, _ => ⟨_, rfl, rfl⟩)
  cases v_is_ident
  have F_is_plain_deed := fun_mk (st := s_is_plain_deed) l_is_plain_deed c_is_plain_deed k_is_plain_deed
  have b_is_plain_deed := F_is_plain_deed.binds (ps := ["thing", "members"]) fun _ _ _ _ _ _ us hl => match us, hl with | [_, _], _ => rfl
  have F_PlainHall_init := fun_mk (st := s_PlainHall_init) l_PlainHall_init c_PlainHall_init k_PlainHall_init
  have b_PlainHall_init := F_PlainHall_init.binds (ps := ["self", "members"]) fun _ _ _ _ _ _ us hl => match us, hl with | [_, _], _ => rfl
  have F_PlainHall_len := fun_mk (st := s_PlainHall_len) l_PlainHall_len c_PlainHall_len k_PlainHall_len
  have b_PlainHall_len := F_PlainHall_len.binds (ps := ["self"]) fun _ _ _ _ _ _ us hl => match us, hl with | [_], _ => rfl
  have F_PlainHall_row := fun_mk (st := s_PlainHall_row) l_PlainHall_row c_PlainHall_row k_PlainHall_row
  have b_PlainHall_row := F_PlainHall_row.binds (ps := ["self"]) fun _ _ _ _ _ _ us hl => match us, hl with | [_], _ => rfl
  have F_PlainHall_told_by := fun_mk (st := s_PlainHall_told_by) l_PlainHall_told_by c_PlainHall_told_by k_PlainHall_told_by
  have b_PlainHall_told_by := F_PlainHall_told_by.binds (ps := ["self", "member"]) fun _ _ _ _ _ _ us hl => match us, hl with | [_, _], _ => rfl
  have F_PlainHall_state := fun_mk (st := s_PlainHall_state) l_PlainHall_state c_PlainHall_state k_PlainHall_state
  have b_PlainHall_state := F_PlainHall_state.binds (ps := ["self"]) fun _ _ _ _ _ _ us hl => match us, hl with | [_], _ => rfl
  have F_PlainHall_eq := fun_mk (st := s_PlainHall_eq) l_PlainHall_eq c_PlainHall_eq k_PlainHall_eq
  have b_PlainHall_eq := F_PlainHall_eq.binds (ps := ["self", "other"]) fun _ _ _ _ _ _ us hl => match us, hl with | [_, _], _ => rfl
  have F_PlainHall_add := fun_mk (st := s_PlainHall_add) l_PlainHall_add c_PlainHall_add k_PlainHall_add
  have b_PlainHall_add := F_PlainHall_add.binds (ps := ["self", "ident"]) fun _ _ _ _ _ _ us hl => match us, hl with | [_, _], _ => rfl
  have F_PlainHall_tell := fun_mk (st := s_PlainHall_tell) l_PlainHall_tell c_PlainHall_tell k_PlainHall_tell
  have b_PlainHall_tell := F_PlainHall_tell.binds (ps := ["self", "member"]) fun _ _ _ _ _ _ us hl => match us, hl with | [_, _], _ => rfl
  have F_PlainHall_twin := fun_mk (st := s_PlainHall_twin) l_PlainHall_twin c_PlainHall_twin k_PlainHall_twin
  have b_PlainHall_twin := F_PlainHall_twin.binds (ps := ["self"]) fun _ _ _ _ _ _ us hl => match us, hl with | [_], _ => rfl
  have F_PlainHall_do := fun_mk (st := s_PlainHall_do) l_PlainHall_do c_PlainHall_do k_PlainHall_do
  have b_PlainHall_do := F_PlainHall_do.binds (ps := ["self", "deed"]) fun _ _ _ _ _ _ us hl => match us, hl with | [_, _], _ => rfl
  have F_law_cell_at := fun_mk (st := s_law_cell_at) l_law_cell_at c_law_cell_at k_law_cell_at
  have b_law_cell_at := F_law_cell_at.binds (ps := ["script", "k"]) fun _ _ _ _ _ _ us hl => match us, hl with | [_, _], _ => rfl
  have F_law_take := fun_mk (st := s_law_take) l_law_take c_law_take k_law_take
  have b_law_take := F_law_take.binds (ps := ["pool", "size"]) fun _ _ _ _ _ _ us hl => match us, hl with | [_, _], _ => rfl
  have F_law_pool := fun_mk (st := s_law_pool) l_law_pool c_law_pool k_law_pool
  have b_law_pool := F_law_pool.binds (ps := ["cell"]) fun _ _ _ _ _ _ us hl => match us, hl with | [_], _ => rfl
  have F_law_did := fun_mk (st := s_law_did) l_law_did c_law_did k_law_did
  have b_law_did := F_law_did.binds (ps := ["plain", "deed"]) fun _ _ _ _ _ _ us hl => match us, hl with | [_, _], _ => rfl
  have F_law_due := fun_mk (st := s_law_due) l_law_due c_law_due k_law_due
  have b_law_due := F_law_due.binds (ps := ["state", "deed"]) fun _ _ _ _ _ _ us hl => match us, hl with | [_, _], _ => rfl
  have F_law_no_member := fun_mk (st := s_law_no_member) l_law_no_member c_law_no_member k_law_no_member
  have b_law_no_member := F_law_no_member.binds (ps := ["plain", "thing"]) fun _ _ _ _ _ _ us hl => match us, hl with | [_, _], _ => rfl
  have F_law_stands := fun_mk (st := s_law_stands) l_law_stands c_law_stands k_law_stands
  have b_law_stands := F_law_stands.binds (ps := ["plain", "state"]) fun _ _ _ _ _ _ us hl => match us, hl with | [_, _], _ => rfl
  have F_law_made := fun_mk (st := s_law_made) l_law_made c_law_made k_law_made
  have b_law_made := F_law_made.binds (ps := ["thing"]) fun _ _ _ _ _ _ us hl => match us, hl with | [_], _ => rfl
  have F_law_done := fun_mk (st := s_law_done) l_law_done c_law_done k_law_done
  have b_law_done := F_law_done.binds (ps := ["plain", "state", "deed"]) fun _ _ _ _ _ _ us hl => match us, hl with | [_, _, _], _ => rfl
  have F_law_bad := fun_mk (st := s_law_bad) l_law_bad c_law_bad k_law_bad
  have b_law_bad := F_law_bad.binds (ps := ["plain", "state"]) fun _ _ _ _ _ _ us hl => match us, hl with | [_, _], _ => rfl
  have F_law := fun_mk (st := s_law) l_law c_law k_law
  have b_law := F_law.binds (ps := ["script"]) fun _ _ _ _ _ _ us hl => match us, hl with | [_], _ => rfl
  have g_AllTold := PySem.W.mg_of X G aC_AllTold
  have g_Barred := PySem.W.mg_of X G aC_Barred
  have g_HallError := PySem.W.mg_of X G aC_HallError
  have g_Known := PySem.W.mg_of X G aC_Known
  have g_Lacks := PySem.W.mg_of X G aC_Lacks
  have g_NoDeed := PySem.W.mg_of X G aC_NoDeed
  have g_NoMember := PySem.W.mg_of X G aC_NoMember
  have g_NoNumber := PySem.W.mg_of X G aC_NoNumber
  have g_PlainHall := PySem.W.mg_of X G aC_PlainHall
  have hdx_PlainHall := hd_PlainHall
  have c_PlainHall : Cls K C_PlainHall := ⟨pg_PlainHall, hd_PlainHall, po_PlainHall, sa_PlainHall⟩
  have mkk_PlainHall : Mk K C_PlainHall f_PlainHall_init := ⟨mk_PlainHall, a_PlainHall_init, i_PlainHall_init, kC_PlainHall⟩
  have mt_PlainHall_len : Meth K C_PlainHall "__len__" f_PlainHall_len := ⟨a_PlainHall_len, i_PlainHall_len, k_PlainHall_len⟩
  have mt_PlainHall_row : Meth K C_PlainHall "row" f_PlainHall_row := ⟨a_PlainHall_row, i_PlainHall_row, k_PlainHall_row⟩
  have mt_PlainHall_told_by : Meth K C_PlainHall "told_by" f_PlainHall_told_by := ⟨a_PlainHall_told_by, i_PlainHall_told_by, k_PlainHall_told_by⟩
  have mt_PlainHall_state : Meth K C_PlainHall "state" f_PlainHall_state := ⟨a_PlainHall_state, i_PlainHall_state, k_PlainHall_state⟩
  have mt_PlainHall_eq : Meth K C_PlainHall "__eq__" f_PlainHall_eq := ⟨a_PlainHall_eq, i_PlainHall_eq, k_PlainHall_eq⟩
  have mt_PlainHall_add : Meth K C_PlainHall "_add" f_PlainHall_add := ⟨a_PlainHall_add, i_PlainHall_add, k_PlainHall_add⟩
  have mt_PlainHall_tell : Meth K C_PlainHall "_tell" f_PlainHall_tell := ⟨a_PlainHall_tell, i_PlainHall_tell, k_PlainHall_tell⟩
  have mt_PlainHall_twin : Meth K C_PlainHall "twin" f_PlainHall_twin := ⟨a_PlainHall_twin, i_PlainHall_twin, k_PlainHall_twin⟩
  have mt_PlainHall_do : Meth K C_PlainHall "do" f_PlainHall_do := ⟨a_PlainHall_do, i_PlainHall_do, k_PlainHall_do⟩
  have ox_AllTold : OexS K C_AllTold fI_AllTold "LookupError" "LookupError.__new__" "LookupError.__init__" _ "found" := {
    base := PySem.F.excBase_LookupError, wrap := PySem.W.kxs_LookupError, stor := PySem.F.store_LookupError, ini := in_AllTold, over := ov_AllTold, hd := hdx_AllTold, sa := sax_AllTold, nf := nf_AllTold, exC := exC_AllTold, sB := sB_AllTold, sC := sC_AllTold, tyC := ty_AllTold, kC := kC_AllTold, ii := ii_AllTold, ti := ti_AllTold, sup := sup_AllTold, opq := opq,
    fn := ⟨⟨_, _, _, _, _, _, _, _, _, _, _, _, _, _, _, _, _, _, _, _, _, _, _, _, _, _, _, _, _, _, _, _, _, _, _, lI_AllTold, coI_AllTold, cdI_AllTold, vfI_AllTold, clI_AllTold, fun _ _ _ => .of_eq rfl, fun _ _ _ => .of_eq rfl, ⟨_, fun _ => rfl⟩, rfl, rfl, rfl, by decide +kernel, by decide +kernel, by decide +kernel, by decide +kernel, by decide +kernel⟩⟩ }
  have xf_AllTold : XfC K C_AllTold := ⟨xga_AllTold, xgg_AllTold, exC_AllTold, hdx_AllTold⟩
  have xc_AllTold : ExcC K C_AllTold := ⟨xga_AllTold, xgg_AllTold, exC_AllTold, hdx_AllTold, xha_AllTold, xhn, xht, xhm_AllTold⟩
  have ox_Known : OexS K C_Known fI_Known "LookupError" "LookupError.__new__" "LookupError.__init__" _ "found" := {
    base := PySem.F.excBase_LookupError, wrap := PySem.W.kxs_LookupError, stor := PySem.F.store_LookupError, ini := in_Known, over := ov_Known, hd := hdx_Known, sa := sax_Known, nf := nf_Known, exC := exC_Known, sB := sB_Known, sC := sC_Known, tyC := ty_Known, kC := kC_Known, ii := ii_Known, ti := ti_Known, sup := sup_Known, opq := opq,
    fn := ⟨⟨_, _, _, _, _, _, _, _, _, _, _, _, _, _, _, _, _, _, _, _, _, _, _, _, _, _, _, _, _, _, _, _, _, _, _, lI_Known, coI_Known, cdI_Known, vfI_Known, clI_Known, fun _ _ _ => .of_eq rfl, fun _ _ _ => .of_eq rfl, ⟨_, fun _ => rfl⟩, rfl, rfl, rfl, by decide +kernel, by decide +kernel, by decide +kernel, by decide +kernel, by decide +kernel⟩⟩ }
  have xf_Known : XfC K C_Known := ⟨xga_Known, xgg_Known, exC_Known, hdx_Known⟩
  have xc_Known : ExcC K C_Known := ⟨xga_Known, xgg_Known, exC_Known, hdx_Known, xha_Known, xhn, xht, xhm_Known⟩
  have ox_Lacks : OexS K C_Lacks fI_Lacks "LookupError" "LookupError.__new__" "LookupError.__init__" _ "found" := {
    base := PySem.F.excBase_LookupError, wrap := PySem.W.kxs_LookupError, stor := PySem.F.store_LookupError, ini := in_Lacks, over := ov_Lacks, hd := hdx_Lacks, sa := sax_Lacks, nf := nf_Lacks, exC := exC_Lacks, sB := sB_Lacks, sC := sC_Lacks, tyC := ty_Lacks, kC := kC_Lacks, ii := ii_Lacks, ti := ti_Lacks, sup := sup_Lacks, opq := opq,
    fn := ⟨⟨_, _, _, _, _, _, _, _, _, _, _, _, _, _, _, _, _, _, _, _, _, _, _, _, _, _, _, _, _, _, _, _, _, _, _, lI_Lacks, coI_Lacks, cdI_Lacks, vfI_Lacks, clI_Lacks, fun _ _ _ => .of_eq rfl, fun _ _ _ => .of_eq rfl, ⟨_, fun _ => rfl⟩, rfl, rfl, rfl, by decide +kernel, by decide +kernel, by decide +kernel, by decide +kernel, by decide +kernel⟩⟩ }
  have xf_Lacks : XfC K C_Lacks := ⟨xga_Lacks, xgg_Lacks, exC_Lacks, hdx_Lacks⟩
  have xc_Lacks : ExcC K C_Lacks := ⟨xga_Lacks, xgg_Lacks, exC_Lacks, hdx_Lacks, xha_Lacks, xhn, xht, xhm_Lacks⟩
  have ox_NoDeed : OexS K C_NoDeed fI_NoDeed "ValueError" "ValueError.__new__" "ValueError.__init__" _ "found" := {
    base := PySem.F.excBase_ValueError, wrap := PySem.W.kxs_ValueError, stor := PySem.F.store_ValueError, ini := in_NoDeed, over := ov_NoDeed, hd := hdx_NoDeed, sa := sax_NoDeed, nf := nf_NoDeed, exC := exC_NoDeed, sB := sB_NoDeed, sC := sC_NoDeed, tyC := ty_NoDeed, kC := kC_NoDeed, ii := ii_NoDeed, ti := ti_NoDeed, sup := sup_NoDeed, opq := opq,
    fn := ⟨⟨_, _, _, _, _, _, _, _, _, _, _, _, _, _, _, _, _, _, _, _, _, _, _, _, _, _, _, _, _, _, _, _, _, _, _, lI_NoDeed, coI_NoDeed, cdI_NoDeed, vfI_NoDeed, clI_NoDeed, fun _ _ _ => .of_eq rfl, fun _ _ _ => .of_eq rfl, ⟨_, fun _ => rfl⟩, rfl, rfl, rfl, by decide +kernel, by decide +kernel, by decide +kernel, by decide +kernel, by decide +kernel⟩⟩ }
  have xf_NoDeed : XfC K C_NoDeed := ⟨xga_NoDeed, xgg_NoDeed, exC_NoDeed, hdx_NoDeed⟩
  have xc_NoDeed : ExcC K C_NoDeed := ⟨xga_NoDeed, xgg_NoDeed, exC_NoDeed, hdx_NoDeed, xha_NoDeed, xhn, xht, xhm_NoDeed⟩
  have ox_NoMember : OexS K C_NoMember fI_NoMember "ValueError" "ValueError.__new__" "ValueError.__init__" _ "found" := {
    base := PySem.F.excBase_ValueError, wrap := PySem.W.kxs_ValueError, stor := PySem.F.store_ValueError, ini := in_NoMember, over := ov_NoMember, hd := hdx_NoMember, sa := sax_NoMember, nf := nf_NoMember, exC := exC_NoMember, sB := sB_NoMember, sC := sC_NoMember, tyC := ty_NoMember, kC := kC_NoMember, ii := ii_NoMember, ti := ti_NoMember, sup := sup_NoMember, opq := opq,
    fn := ⟨⟨_, _, _, _, _, _, _, _, _, _, _, _, _, _, _, _, _, _, _, _, _, _, _, _, _, _, _, _, _, _, _, _, _, _, _, lI_NoMember, coI_NoMember, cdI_NoMember, vfI_NoMember, clI_NoMember, fun _ _ _ => .of_eq rfl, fun _ _ _ => .of_eq rfl, ⟨_, fun _ => rfl⟩, rfl, rfl, rfl, by decide +kernel, by decide +kernel, by decide +kernel, by decide +kernel, by decide +kernel⟩⟩ }
  have xf_NoMember : XfC K C_NoMember := ⟨xga_NoMember, xgg_NoMember, exC_NoMember, hdx_NoMember⟩
  have xc_NoMember : ExcC K C_NoMember := ⟨xga_NoMember, xgg_NoMember, exC_NoMember, hdx_NoMember, xha_NoMember, xhn, xht, xhm_NoMember⟩
  have ox_NoNumber : OexS K C_NoNumber fI_NoNumber "ValueError" "ValueError.__new__" "ValueError.__init__" _ "found" := {
    base := PySem.F.excBase_ValueError, wrap := PySem.W.kxs_ValueError, stor := PySem.F.store_ValueError, ini := in_NoNumber, over := ov_NoNumber, hd := hdx_NoNumber, sa := sax_NoNumber, nf := nf_NoNumber, exC := exC_NoNumber, sB := sB_NoNumber, sC := sC_NoNumber, tyC := ty_NoNumber, kC := kC_NoNumber, ii := ii_NoNumber, ti := ti_NoNumber, sup := sup_NoNumber, opq := opq,
    fn := ⟨⟨_, _, _, _, _, _, _, _, _, _, _, _, _, _, _, _, _, _, _, _, _, _, _, _, _, _, _, _, _, _, _, _, _, _, _, lI_NoNumber, coI_NoNumber, cdI_NoNumber, vfI_NoNumber, clI_NoNumber, fun _ _ _ => .of_eq rfl, fun _ _ _ => .of_eq rfl, ⟨_, fun _ => rfl⟩, rfl, rfl, rfl, by decide +kernel, by decide +kernel, by decide +kernel, by decide +kernel, by decide +kernel⟩⟩ }
  have xf_NoNumber : XfC K C_NoNumber := ⟨xga_NoNumber, xgg_NoNumber, exC_NoNumber, hdx_NoNumber⟩
  have xc_NoNumber : ExcC K C_NoNumber := ⟨xga_NoNumber, xgg_NoNumber, exC_NoNumber, hdx_NoNumber, xha_NoNumber, xhn, xht, xhm_NoNumber⟩
  let T : Tx K mg := { f_is_whole := f_is_whole, d_is_whole := _, F_is_whole := F_is_whole, m_is_whole := PySem.W.mg_of X G a_is_whole, k_is_whole := k_is_whole, b_is_whole := b_is_whole, f_is_member := f_is_member, d_is_member := _, F_is_member := F_is_member, m_is_member := PySem.W.mg_of X G a_is_member, k_is_member := k_is_member, b_is_member := b_is_member, f_check_members := f_check_members, d_check_members := _, F_check_members := F_check_members, m_check_members := PySem.W.mg_of X G a_check_members, k_check_members := k_check_members, b_check_members := b_check_members, f_check_member := f_check_member, d_check_member := _, F_check_member := F_check_member, m_check_member := PySem.W.mg_of X G a_check_member, k_check_member := k_check_member, b_check_member := b_check_member, f_is_ident := f_is_ident, d_is_ident := _, F_is_ident := F_is_ident, m_is_ident := PySem.W.mg_of X G a_is_ident, k_is_ident := k_is_ident, ds_is_ident_2 := ds_is_ident_2, v_is_ident_2 := v_is_ident_2, b_is_ident_2 := b_is_ident_2, b_is_ident := b_is_ident, f_is_plain_deed := f_is_plain_deed, d_is_plain_deed := _, F_is_plain_deed := F_is_plain_deed, m_is_plain_deed := PySem.W.mg_of X G a_is_plain_deed, k_is_plain_deed := k_is_plain_deed, b_is_plain_deed := b_is_plain_deed, f_PlainHall_init := f_PlainHall_init, d_PlainHall_init := _, F_PlainHall_init := F_PlainHall_init, b_PlainHall_init := b_PlainHall_init, f_PlainHall_len := f_PlainHall_len, d_PlainHall_len := _, F_PlainHall_len := F_PlainHall_len, b_PlainHall_len := b_PlainHall_len, f_PlainHall_row := f_PlainHall_row, d_PlainHall_row := _, F_PlainHall_row := F_PlainHall_row, b_PlainHall_row := b_PlainHall_row, f_PlainHall_told_by := f_PlainHall_told_by, d_PlainHall_told_by := _, F_PlainHall_told_by := F_PlainHall_told_by, b_PlainHall_told_by := b_PlainHall_told_by, f_PlainHall_state := f_PlainHall_state, d_PlainHall_state := _, F_PlainHall_state := F_PlainHall_state, b_PlainHall_state := b_PlainHall_state, f_PlainHall_eq := f_PlainHall_eq, d_PlainHall_eq := _, F_PlainHall_eq := F_PlainHall_eq, b_PlainHall_eq := b_PlainHall_eq, f_PlainHall_add := f_PlainHall_add, d_PlainHall_add := _, F_PlainHall_add := F_PlainHall_add, b_PlainHall_add := b_PlainHall_add, f_PlainHall_tell := f_PlainHall_tell, d_PlainHall_tell := _, F_PlainHall_tell := F_PlainHall_tell, b_PlainHall_tell := b_PlainHall_tell, f_PlainHall_twin := f_PlainHall_twin, d_PlainHall_twin := _, F_PlainHall_twin := F_PlainHall_twin, b_PlainHall_twin := b_PlainHall_twin, f_PlainHall_do := f_PlainHall_do, d_PlainHall_do := _, F_PlainHall_do := F_PlainHall_do, b_PlainHall_do := b_PlainHall_do, f_law_cell_at := f_law_cell_at, d_law_cell_at := _, F_law_cell_at := F_law_cell_at, m_law_cell_at := PySem.W.mg_of X G a_law_cell_at, k_law_cell_at := k_law_cell_at, b_law_cell_at := b_law_cell_at, f_law_take := f_law_take, d_law_take := _, F_law_take := F_law_take, m_law_take := PySem.W.mg_of X G a_law_take, k_law_take := k_law_take, b_law_take := b_law_take, f_law_pool := f_law_pool, d_law_pool := _, F_law_pool := F_law_pool, m_law_pool := PySem.W.mg_of X G a_law_pool, k_law_pool := k_law_pool, b_law_pool := b_law_pool, f_law_did := f_law_did, d_law_did := _, F_law_did := F_law_did, m_law_did := PySem.W.mg_of X G a_law_did, k_law_did := k_law_did, b_law_did := b_law_did, f_law_due := f_law_due, d_law_due := _, F_law_due := F_law_due, m_law_due := PySem.W.mg_of X G a_law_due, k_law_due := k_law_due, b_law_due := b_law_due, f_law_no_member := f_law_no_member, d_law_no_member := _, F_law_no_member := F_law_no_member, m_law_no_member := PySem.W.mg_of X G a_law_no_member, k_law_no_member := k_law_no_member, b_law_no_member := b_law_no_member, f_law_stands := f_law_stands, d_law_stands := _, F_law_stands := F_law_stands, m_law_stands := PySem.W.mg_of X G a_law_stands, k_law_stands := k_law_stands, b_law_stands := b_law_stands, f_law_made := f_law_made, d_law_made := _, F_law_made := F_law_made, m_law_made := PySem.W.mg_of X G a_law_made, k_law_made := k_law_made, b_law_made := b_law_made, f_law_done := f_law_done, d_law_done := _, F_law_done := F_law_done, m_law_done := PySem.W.mg_of X G a_law_done, k_law_done := k_law_done, b_law_done := b_law_done, f_law_bad := f_law_bad, d_law_bad := _, F_law_bad := F_law_bad, m_law_bad := PySem.W.mg_of X G a_law_bad, k_law_bad := k_law_bad, b_law_bad := b_law_bad, f_law := fa, d_law := _, F_law := F_law, m_law := PySem.W.mg_of X G a_law, k_law := k_law, b_law := b_law, C_AllTold := C_AllTold, g_AllTold := g_AllTold, C_Barred := C_Barred, g_Barred := g_Barred, C_HallError := C_HallError, g_HallError := g_HallError, C_Known := C_Known, g_Known := g_Known, C_Lacks := C_Lacks, g_Lacks := g_Lacks, C_NoDeed := C_NoDeed, g_NoDeed := g_NoDeed, C_NoMember := C_NoMember, g_NoMember := g_NoMember, C_NoNumber := C_NoNumber, g_NoNumber := g_NoNumber, C_PlainHall := C_PlainHall, g_PlainHall := g_PlainHall, c_PlainHall := c_PlainHall, ha_PlainHall := ha_PlainHall, hm_PlainHall := hm_PlainHall, hdx_PlainHall := hdx_PlainHall, ty_PlainHall := ty_PlainHall, nt_NoneType_PlainHall := nt_NoneType_PlainHall, nt_bool_PlainHall := nt_bool_PlainHall, nt_int_PlainHall := nt_int_PlainHall, nt_str_PlainHall := nt_str_PlainHall, nt_list_PlainHall := nt_list_PlainHall, nt_tuple_PlainHall := nt_tuple_PlainHall, nt_dict_PlainHall := nt_dict_PlainHall, n_PlainHall__members := n_PlainHall__members, n_PlainHall__row := n_PlainHall__row, n_PlainHall__told := n_PlainHall__told, mk_PlainHall := mkk_PlainHall, mt_PlainHall_len := mt_PlainHall_len, mt_PlainHall_row := mt_PlainHall_row, mt_PlainHall_told_by := mt_PlainHall_told_by, mt_PlainHall_state := mt_PlainHall_state, mt_PlainHall_eq := mt_PlainHall_eq, mt_PlainHall_add := mt_PlainHall_add, mt_PlainHall_tell := mt_PlainHall_tell, mt_PlainHall_twin := mt_PlainHall_twin, mt_PlainHall_do := mt_PlainHall_do, exC_AllTold := exC_AllTold, hdx_AllTold := hdx_AllTold, ty_AllTold := ty_AllTold, ss_AllTold := ss_AllTold, exC_Barred := exC_Barred, hdx_Barred := hdx_Barred, ty_Barred := ty_Barred, ss_Barred := ss_Barred, exC_HallError := exC_HallError, hdx_HallError := hdx_HallError, ty_HallError := ty_HallError, ss_HallError := ss_HallError, exC_Known := exC_Known, hdx_Known := hdx_Known, ty_Known := ty_Known, ss_Known := ss_Known, exC_Lacks := exC_Lacks, hdx_Lacks := hdx_Lacks, ty_Lacks := ty_Lacks, ss_Lacks := ss_Lacks, exC_NoDeed := exC_NoDeed, hdx_NoDeed := hdx_NoDeed, ty_NoDeed := ty_NoDeed, ss_NoDeed := ss_NoDeed, exC_NoMember := exC_NoMember, hdx_NoMember := hdx_NoMember, ty_NoMember := ty_NoMember, ss_NoMember := ss_NoMember, exC_NoNumber := exC_NoNumber, hdx_NoNumber := hdx_NoNumber, ty_NoNumber := ty_NoNumber, ss_NoNumber := ss_NoNumber, fI_AllTold := fI_AllTold, ox_AllTold := ox_AllTold, xf_AllTold := xf_AllTold, xc_AllTold := xc_AllTold, nf_AllTold := nf_AllTold, sb_AllTold_AllTold := sb_AllTold_AllTold, sb_AllTold_Barred := sb_AllTold_Barred, sb_AllTold_HallError := sb_AllTold_HallError, sb_AllTold_Known := sb_AllTold_Known, sb_AllTold_Lacks := sb_AllTold_Lacks, sb_AllTold_NoDeed := sb_AllTold_NoDeed, sb_AllTold_NoMember := sb_AllTold_NoMember, sb_AllTold_NoNumber := sb_AllTold_NoNumber, fI_Known := fI_Known, ox_Known := ox_Known, xf_Known := xf_Known, xc_Known := xc_Known, nf_Known := nf_Known, sb_Known_AllTold := sb_Known_AllTold, sb_Known_Barred := sb_Known_Barred, sb_Known_HallError := sb_Known_HallError, sb_Known_Known := sb_Known_Known, sb_Known_Lacks := sb_Known_Lacks, sb_Known_NoDeed := sb_Known_NoDeed, sb_Known_NoMember := sb_Known_NoMember, sb_Known_NoNumber := sb_Known_NoNumber, fI_Lacks := fI_Lacks, ox_Lacks := ox_Lacks, xf_Lacks := xf_Lacks, xc_Lacks := xc_Lacks, nf_Lacks := nf_Lacks, sb_Lacks_AllTold := sb_Lacks_AllTold, sb_Lacks_Barred := sb_Lacks_Barred, sb_Lacks_HallError := sb_Lacks_HallError, sb_Lacks_Known := sb_Lacks_Known, sb_Lacks_Lacks := sb_Lacks_Lacks, sb_Lacks_NoDeed := sb_Lacks_NoDeed, sb_Lacks_NoMember := sb_Lacks_NoMember, sb_Lacks_NoNumber := sb_Lacks_NoNumber, fI_NoDeed := fI_NoDeed, ox_NoDeed := ox_NoDeed, xf_NoDeed := xf_NoDeed, xc_NoDeed := xc_NoDeed, nf_NoDeed := nf_NoDeed, sb_NoDeed_AllTold := sb_NoDeed_AllTold, sb_NoDeed_Barred := sb_NoDeed_Barred, sb_NoDeed_HallError := sb_NoDeed_HallError, sb_NoDeed_Known := sb_NoDeed_Known, sb_NoDeed_Lacks := sb_NoDeed_Lacks, sb_NoDeed_NoDeed := sb_NoDeed_NoDeed, sb_NoDeed_NoMember := sb_NoDeed_NoMember, sb_NoDeed_NoNumber := sb_NoDeed_NoNumber, fI_NoMember := fI_NoMember, ox_NoMember := ox_NoMember, xf_NoMember := xf_NoMember, xc_NoMember := xc_NoMember, nf_NoMember := nf_NoMember, sb_NoMember_AllTold := sb_NoMember_AllTold, sb_NoMember_Barred := sb_NoMember_Barred, sb_NoMember_HallError := sb_NoMember_HallError, sb_NoMember_Known := sb_NoMember_Known, sb_NoMember_Lacks := sb_NoMember_Lacks, sb_NoMember_NoDeed := sb_NoMember_NoDeed, sb_NoMember_NoMember := sb_NoMember_NoMember, sb_NoMember_NoNumber := sb_NoMember_NoNumber, fI_NoNumber := fI_NoNumber, ox_NoNumber := ox_NoNumber, xf_NoNumber := xf_NoNumber, xc_NoNumber := xc_NoNumber, nf_NoNumber := nf_NoNumber, sb_NoNumber_AllTold := sb_NoNumber_AllTold, sb_NoNumber_Barred := sb_NoNumber_Barred, sb_NoNumber_HallError := sb_NoNumber_HallError, sb_NoNumber_Known := sb_NoNumber_Known, sb_NoNumber_Lacks := sb_NoNumber_Lacks, sb_NoNumber_NoDeed := sb_NoNumber_NoDeed, sb_NoNumber_NoMember := sb_NoNumber_NoMember, sb_NoNumber_NoNumber := sb_NoNumber_NoNumber, hn := x_hn, htk := x_htk, z_all := PySem.W.mg_none_of X G z_all, z_bool := PySem.W.mg_none_of X G z_bool, z_int := PySem.W.mg_none_of X G z_int, z_isinstance := PySem.W.mg_none_of X G z_isinstance, z_len := PySem.W.mg_none_of X G z_len, z_list := PySem.W.mg_none_of X G z_list, z_max := PySem.W.mg_none_of X G z_max, z_range := PySem.W.mg_none_of X G z_range, z_super := PySem.W.mg_none_of X G z_super, z_tuple := PySem.W.mg_none_of X G z_tuple, t_LEAST_MEMBERS := t_LEAST_MEMBERS, g_LEAST_MEMBERS := PySem.W.mg_of X G g_LEAST_MEMBERS, t_MOST_MEMBERS := t_MOST_MEMBERS, g_MOST_MEMBERS := PySem.W.mg_of X G g_MOST_MEMBERS }
  exact ⟨_, fun s v => .of_eq rfl, fun base _ _ => ok_law T⟩
theorem walk {l : PySem.W.OpenLaw} [PF l.prog] {q : Program} {loose : List Str} {XP : (Str → Option Value) → Heap → Prop} {YP : World → Heap → Prop} {d : DefRec} {K : Params → PySem.W.Frag} (hn : l.most = some 63) (hdf : d.params.defaults = [])
    (hY : ∀ (w : World) (h : Heap), YP w h → (K w.params).In h)
    (F : ∀ (w : World) (mg : Str → Option Value) (fa : Addr) (h : Heap), (K w.params).In h → h.Ns mainGlobals mg → mg d.name = some (.ref fa) →
      ∃ fd : FuncData, (∀ (s : Shared) (u : Value), BindsTo s fd ⟨[u], []⟩ [("script", u)]) ∧ ∀ base : Heap, (K w.params).In base → base.Ns mainGlobals mg → FnOk l.prog w (K w.params) mg base CX0 11 fa fd ["script"] (sp_law (K w.params))) :
    PySem.W.WalkO q loose XP YP l.row.toRowW d [] (fun f vs => PySem.call f vs) :=
  L2.walk_of (n := 63) (k := 11) (x := "script") (CX := fun _ => CX0) (sp := fun w => sp_law (K w.params)) hn (by decide) hdf ⟨rfl, by decide, by decide⟩ hY F (fun _ _ a ns hl _ hS => ⟨a, ns, rfl, hS, hl, fun _ => rfl⟩) fun _ _ _ _ _ z => z
end CH
instance : CH.PF (PySem.Challenge.rw_causehall_k78_plain_deeds).prog := ⟨by rfl, by decide +kernel⟩
open PySem PySem.W PyProof.Rows
set_option maxRecDepth 100000 in
set_option maxHeartbeats 0 in
theorem PySem.Challenge.cw_causehall_k78_plain_deeds_holds : PySem.Challenge.rw_causehall_k78_plain_deeds.Holds := by
  w_on; o_law; k_head; (case hw => w_witness2)
  k_fill
  refine CH.walk (l := PySem.Challenge.rw_causehall_k78_plain_deeds) rfl rfl (fun w h Y => PySem.W.kIn_of Y) ?F
  case F =>
    intro w mg fa h KX G hmg
    refine' CH.all_mk KX G hmg ?aC_PlainHall ?aC_NoNumber ?aC_NoMember ?aC_NoDeed ?aC_Lacks ?aC_Known ?aC_HallError ?aC_Barred ?aC_AllTold ?a_is_whole ?l_is_whole ?c_is_whole ?k_is_whole ?e_is_whole ?a_is_member ?l_is_member ?c_is_member ?k_is_member ?a_check_members ?l_check_members ?c_check_members ?k_check_members ?a_check_member ?l_check_member ?c_check_member ?k_check_member ?a_is_ident ?l_is_ident ?c_is_ident ?k_is_ident ?e_is_ident ?a_is_plain_deed ?l_is_plain_deed ?c_is_plain_deed ?k_is_plain_deed ?a_PlainHall_init ?i_PlainHall_init ?l_PlainHall_init ?c_PlainHall_init ?k_PlainHall_init ?a_PlainHall_len ?i_PlainHall_len ?l_PlainHall_len ?c_PlainHall_len ?k_PlainHall_len ?a_PlainHall_row ?i_PlainHall_row ?l_PlainHall_row ?c_PlainHall_row ?k_PlainHall_row ?a_PlainHall_told_by ?i_PlainHall_told_by ?l_PlainHall_told_by ?c_PlainHall_told_by ?k_PlainHall_told_by ?a_PlainHall_state ?i_PlainHall_state ?l_PlainHall_state ?c_PlainHall_state ?k_PlainHall_state ?a_PlainHall_eq ?i_PlainHall_eq ?l_PlainHall_eq ?c_PlainHall_eq ?k_PlainHall_eq ?a_PlainHall_add ?i_PlainHall_add ?l_PlainHall_add ?c_PlainHall_add ?k_PlainHall_add ?a_PlainHall_tell ?i_PlainHall_tell ?l_PlainHall_tell ?c_PlainHall_tell ?k_PlainHall_tell ?a_PlainHall_twin ?i_PlainHall_twin ?l_PlainHall_twin ?c_PlainHall_twin ?k_PlainHall_twin ?a_PlainHall_do ?i_PlainHall_do ?l_PlainHall_do ?c_PlainHall_do ?k_PlainHall_do ?a_law_cell_at ?l_law_cell_at ?c_law_cell_at ?k_law_cell_at ?a_law_take ?l_law_take ?c_law_take ?k_law_take ?a_law_pool ?l_law_pool ?c_law_pool ?k_law_pool ?a_law_did ?l_law_did ?c_law_did ?k_law_did ?a_law_due ?l_law_due ?c_law_due ?k_law_due ?a_law_no_member ?l_law_no_member ?c_law_no_member ?k_law_no_member ?a_law_stands ?l_law_stands ?c_law_stands ?k_law_stands ?a_law_made ?l_law_made ?c_law_made ?k_law_made ?a_law_done ?l_law_done ?c_law_done ?k_law_done ?a_law_bad ?l_law_bad ?c_law_bad ?k_law_bad ?a_law ?l_law ?c_law ?k_law ?kC_AllTold ?kC_Barred ?kC_HallError ?kC_Known ?kC_Lacks ?kC_NoDeed ?kC_NoMember ?kC_NoNumber ?kC_PlainHall ?pg_PlainHall ?hd_PlainHall ?po_PlainHall ?sa_PlainHall ?mk_PlainHall ?ha_PlainHall ?hm_PlainHall ?ty_PlainHall ?nt_NoneType_PlainHall ?nt_bool_PlainHall ?nt_int_PlainHall ?nt_str_PlainHall ?nt_list_PlainHall ?nt_tuple_PlainHall ?nt_dict_PlainHall ?n_PlainHall__members ?n_PlainHall__row ?n_PlainHall__told ?exC_AllTold ?hdx_AllTold ?ty_AllTold ?ss_AllTold ?exC_Barred ?hdx_Barred ?ty_Barred ?ss_Barred ?exC_HallError ?hdx_HallError ?ty_HallError ?ss_HallError ?exC_Known ?hdx_Known ?ty_Known ?ss_Known ?exC_Lacks ?hdx_Lacks ?ty_Lacks ?ss_Lacks ?exC_NoDeed ?hdx_NoDeed ?ty_NoDeed ?ss_NoDeed ?exC_NoMember ?hdx_NoMember ?ty_NoMember ?ss_NoMember ?exC_NoNumber ?hdx_NoNumber ?ty_NoNumber ?ss_NoNumber ?opq ?xhn ?xht ?ii_AllTold ?lI_AllTold ?coI_AllTold ?cdI_AllTold ?vfI_AllTold ?clI_AllTold ?in_AllTold ?ov_AllTold ?sax_AllTold ?nf_AllTold ?sB_AllTold ?sC_AllTold ?ti_AllTold ?sup_AllTold ?xga_AllTold ?xgg_AllTold ?xha_AllTold ?xhm_AllTold ?sb_AllTold_AllTold ?sb_AllTold_Barred ?sb_AllTold_HallError ?sb_AllTold_Known ?sb_AllTold_Lacks ?sb_AllTold_NoDeed ?sb_AllTold_NoMember ?sb_AllTold_NoNumber ?ii_Known ?lI_Known ?coI_Known ?cdI_Known ?vfI_Known ?clI_Known ?in_Known ?ov_Known ?sax_Known ?nf_Known ?sB_Known ?sC_Known ?ti_Known ?sup_Known ?xga_Known ?xgg_Known ?xha_Known ?xhm_Known ?sb_Known_AllTold ?sb_Known_Barred ?sb_Known_HallError ?sb_Known_Known ?sb_Known_Lacks ?sb_Known_NoDeed ?sb_Known_NoMember ?sb_Known_NoNumber ?ii_Lacks ?lI_Lacks ?coI_Lacks ?cdI_Lacks ?vfI_Lacks ?clI_Lacks ?in_Lacks ?ov_Lacks ?sax_Lacks ?nf_Lacks ?sB_Lacks ?sC_Lacks ?ti_Lacks ?sup_Lacks ?xga_Lacks ?xgg_Lacks ?xha_Lacks ?xhm_Lacks ?sb_Lacks_AllTold ?sb_Lacks_Barred ?sb_Lacks_HallError ?sb_Lacks_Known ?sb_Lacks_Lacks ?sb_Lacks_NoDeed ?sb_Lacks_NoMember ?sb_Lacks_NoNumber ?ii_NoDeed ?lI_NoDeed ?coI_NoDeed ?cdI_NoDeed ?vfI_NoDeed ?clI_NoDeed ?in_NoDeed ?ov_NoDeed ?sax_NoDeed ?nf_NoDeed ?sB_NoDeed ?sC_NoDeed ?ti_NoDeed ?sup_NoDeed ?xga_NoDeed ?xgg_NoDeed ?xha_NoDeed ?xhm_NoDeed ?sb_NoDeed_AllTold ?sb_NoDeed_Barred ?sb_NoDeed_HallError ?sb_NoDeed_Known ?sb_NoDeed_Lacks ?sb_NoDeed_NoDeed ?sb_NoDeed_NoMember ?sb_NoDeed_NoNumber ?ii_NoMember ?lI_NoMember ?coI_NoMember ?cdI_NoMember ?vfI_NoMember ?clI_NoMember ?in_NoMember ?ov_NoMember ?sax_NoMember ?nf_NoMember ?sB_NoMember ?sC_NoMember ?ti_NoMember ?sup_NoMember ?xga_NoMember ?xgg_NoMember ?xha_NoMember ?xhm_NoMember ?sb_NoMember_AllTold ?sb_NoMember_Barred ?sb_NoMember_HallError ?sb_NoMember_Known ?sb_NoMember_Lacks ?sb_NoMember_NoDeed ?sb_NoMember_NoMember ?sb_NoMember_NoNumber ?ii_NoNumber ?lI_NoNumber ?coI_NoNumber ?cdI_NoNumber ?vfI_NoNumber ?clI_NoNumber ?in_NoNumber ?ov_NoNumber ?sax_NoNumber ?nf_NoNumber ?sB_NoNumber ?sC_NoNumber ?ti_NoNumber ?sup_NoNumber ?xga_NoNumber ?xgg_NoNumber ?xha_NoNumber ?xhm_NoNumber ?sb_NoNumber_AllTold ?sb_NoNumber_Barred ?sb_NoNumber_HallError ?sb_NoNumber_Known ?sb_NoNumber_Lacks ?sb_NoNumber_NoDeed ?sb_NoNumber_NoMember ?sb_NoNumber_NoNumber ?x_hn ?x_htk ?z_all ?z_bool ?z_int ?z_isinstance ?z_len ?z_list ?z_max ?z_range ?z_super ?z_tuple ?g_LEAST_MEMBERS ?g_MOST_MEMBERS
    (case aC_PlainHall => k_is)
    (case aC_NoNumber => k_is)
    (case aC_NoMember => k_is)
    (case aC_NoDeed => k_is)
    (case aC_Lacks => k_is)
    (case aC_Known => k_is)
    (case aC_HallError => k_is)
    (case aC_Barred => k_is)
    (case aC_AllTold => k_is)
    (case a_is_whole => k_is)
    (case l_is_whole => k_is)
    (case c_is_whole => k_is)
    (case k_is_whole => k_is)
    (case e_is_whole => k_is)
    (case a_is_member => k_is)
    (case l_is_member => k_is)
    (case c_is_member => k_is)
    (case k_is_member => k_is)
    (case a_check_members => k_is)
    (case l_check_members => k_is)
    (case c_check_members => k_is)
    (case k_check_members => k_is)
    (case a_check_member => k_is)
    (case l_check_member => k_is)
    (case c_check_member => k_is)
    (case k_check_member => k_is)
    (case a_is_ident => k_is)
    (case l_is_ident => k_is)
    (case c_is_ident => k_is)
    (case k_is_ident => k_is)
    (case e_is_ident => k_is)
    (case a_is_plain_deed => k_is)
    (case l_is_plain_deed => k_is)
    (case c_is_plain_deed => k_is)
    (case k_is_plain_deed => k_is)
    (case a_PlainHall_init => k_is)
    (case i_PlainHall_init => k_is)
    (case l_PlainHall_init => k_is)
    (case c_PlainHall_init => k_is)
    (case k_PlainHall_init => k_is)
    (case a_PlainHall_len => k_is)
    (case i_PlainHall_len => k_is)
    (case l_PlainHall_len => k_is)
    (case c_PlainHall_len => k_is)
    (case k_PlainHall_len => k_is)
    (case a_PlainHall_row => k_is)
    (case i_PlainHall_row => k_is)
    (case l_PlainHall_row => k_is)
    (case c_PlainHall_row => k_is)
    (case k_PlainHall_row => k_is)
    (case a_PlainHall_told_by => k_is)
    (case i_PlainHall_told_by => k_is)
    (case l_PlainHall_told_by => k_is)
    (case c_PlainHall_told_by => k_is)
    (case k_PlainHall_told_by => k_is)
    (case a_PlainHall_state => k_is)
    (case i_PlainHall_state => k_is)
    (case l_PlainHall_state => k_is)
    (case c_PlainHall_state => k_is)
    (case k_PlainHall_state => k_is)
    (case a_PlainHall_eq => k_is)
    (case i_PlainHall_eq => k_is)
    (case l_PlainHall_eq => k_is)
    (case c_PlainHall_eq => k_is)
    (case k_PlainHall_eq => k_is)
    (case a_PlainHall_add => k_is)
    (case i_PlainHall_add => k_is)
    (case l_PlainHall_add => k_is)
    (case c_PlainHall_add => k_is)
    (case k_PlainHall_add => k_is)
    (case a_PlainHall_tell => k_is)
    (case i_PlainHall_tell => k_is)
    (case l_PlainHall_tell => k_is)
    (case c_PlainHall_tell => k_is)
    (case k_PlainHall_tell => k_is)
    (case a_PlainHall_twin => k_is)
    (case i_PlainHall_twin => k_is)
    (case l_PlainHall_twin => k_is)
    (case c_PlainHall_twin => k_is)
    (case k_PlainHall_twin => k_is)
    (case a_PlainHall_do => k_is)
    (case i_PlainHall_do => k_is)
    (case l_PlainHall_do => k_is)
    (case c_PlainHall_do => k_is)
    (case k_PlainHall_do => k_is)
    (case a_law_cell_at => k_is)
    (case l_law_cell_at => k_is)
    (case c_law_cell_at => k_is)
    (case k_law_cell_at => k_is)
    (case a_law_take => k_is)
    (case l_law_take => k_is)
    (case c_law_take => k_is)
    (case k_law_take => k_is)
    (case a_law_pool => k_is)
    (case l_law_pool => k_is)
    (case c_law_pool => k_is)
    (case k_law_pool => k_is)
    (case a_law_did => k_is)
    (case l_law_did => k_is)
    (case c_law_did => k_is)
    (case k_law_did => k_is)
    (case a_law_due => k_is)
    (case l_law_due => k_is)
    (case c_law_due => k_is)
    (case k_law_due => k_is)
    (case a_law_no_member => k_is)
    (case l_law_no_member => k_is)
    (case c_law_no_member => k_is)
    (case k_law_no_member => k_is)
    (case a_law_stands => k_is)
    (case l_law_stands => k_is)
    (case c_law_stands => k_is)
    (case k_law_stands => k_is)
    (case a_law_made => k_is)
    (case l_law_made => k_is)
    (case c_law_made => k_is)
    (case k_law_made => k_is)
    (case a_law_done => k_is)
    (case l_law_done => k_is)
    (case c_law_done => k_is)
    (case k_law_done => k_is)
    (case a_law_bad => k_is)
    (case l_law_bad => k_is)
    (case c_law_bad => k_is)
    (case k_law_bad => k_is)
    (case a_law => k_is)
    (case l_law => k_is)
    (case c_law => k_is)
    (case k_law => k_is)
    (case kC_AllTold => k_is)
    (case kC_Barred => k_is)
    (case kC_HallError => k_is)
    (case kC_Known => k_is)
    (case kC_Lacks => k_is)
    (case kC_NoDeed => k_is)
    (case kC_NoMember => k_is)
    (case kC_NoNumber => k_is)
    (case kC_PlainHall => k_is)
    (case pg_PlainHall => k_is)
    (case hd_PlainHall => k_is)
    (case po_PlainHall => k_is)
    (case sa_PlainHall => k_is)
    (case mk_PlainHall => k_is)
    (case ha_PlainHall => k_is)
    (case hm_PlainHall => k_is)
    (case ty_PlainHall => k_is)
    (case nt_NoneType_PlainHall => k_is)
    (case nt_bool_PlainHall => k_is)
    (case nt_int_PlainHall => k_is)
    (case nt_str_PlainHall => k_is)
    (case nt_list_PlainHall => k_is)
    (case nt_tuple_PlainHall => k_is)
    (case nt_dict_PlainHall => k_is)
    (case n_PlainHall__members => k_is)
    (case n_PlainHall__row => k_is)
    (case n_PlainHall__told => k_is)
    (case exC_AllTold => k_is)
    (case hdx_AllTold => k_is)
    (case ty_AllTold => k_is)
    (case ss_AllTold => k_is)
    (case exC_Barred => k_is)
    (case hdx_Barred => k_is)
    (case ty_Barred => k_is)
    (case ss_Barred => k_is)
    (case exC_HallError => k_is)
    (case hdx_HallError => k_is)
    (case ty_HallError => k_is)
    (case ss_HallError => k_is)
    (case exC_Known => k_is)
    (case hdx_Known => k_is)
    (case ty_Known => k_is)
    (case ss_Known => k_is)
    (case exC_Lacks => k_is)
    (case hdx_Lacks => k_is)
    (case ty_Lacks => k_is)
    (case ss_Lacks => k_is)
    (case exC_NoDeed => k_is)
    (case hdx_NoDeed => k_is)
    (case ty_NoDeed => k_is)
    (case ss_NoDeed => k_is)
    (case exC_NoMember => k_is)
    (case hdx_NoMember => k_is)
    (case ty_NoMember => k_is)
    (case ss_NoMember => k_is)
    (case exC_NoNumber => k_is)
    (case hdx_NoNumber => k_is)
    (case ty_NoNumber => k_is)
    (case ss_NoNumber => k_is)
    (case opq => k_is)
    (case xhn => k_is)
    (case xht => k_is)
    (case ii_AllTold => k_is)
    (case lI_AllTold => k_is)
    (case coI_AllTold => k_is)
    (case cdI_AllTold => k_is)
    (case vfI_AllTold => exact rfl)
    (case clI_AllTold => k_is)
    (case in_AllTold => kx_is)
    (case ov_AllTold => kx_is)
    (case sax_AllTold => k_is)
    (case nf_AllTold => k_is)
    (case sB_AllTold => k_is)
    (case sC_AllTold => k_is)
    (case ti_AllTold => k_is)
    (case sup_AllTold => ks_is)
    (case xga_AllTold => k_is)
    (case xgg_AllTold => k_is)
    (case xha_AllTold => k_is)
    (case xhm_AllTold => k_is)
    (case sb_AllTold_AllTold => k_is)
    (case sb_AllTold_Barred => k_is)
    (case sb_AllTold_HallError => k_is)
    (case sb_AllTold_Known => k_is)
    (case sb_AllTold_Lacks => k_is)
    (case sb_AllTold_NoDeed => k_is)
    (case sb_AllTold_NoMember => k_is)
    (case sb_AllTold_NoNumber => k_is)
    (case ii_Known => k_is)
    (case lI_Known => k_is)
    (case coI_Known => k_is)
    (case cdI_Known => k_is)
    (case vfI_Known => exact rfl)
    (case clI_Known => k_is)
    (case in_Known => kx_is)
    (case ov_Known => kx_is)
    (case sax_Known => k_is)
    (case nf_Known => k_is)
    (case sB_Known => k_is)
    (case sC_Known => k_is)
    (case ti_Known => k_is)
    (case sup_Known => ks_is)
    (case xga_Known => k_is)
    (case xgg_Known => k_is)
    (case xha_Known => k_is)
    (case xhm_Known => k_is)
    (case sb_Known_AllTold => k_is)
    (case sb_Known_Barred => k_is)
    (case sb_Known_HallError => k_is)
    (case sb_Known_Known => k_is)
    (case sb_Known_Lacks => k_is)
    (case sb_Known_NoDeed => k_is)
    (case sb_Known_NoMember => k_is)
    (case sb_Known_NoNumber => k_is)
    (case ii_Lacks => k_is)
    (case lI_Lacks => k_is)
    (case coI_Lacks => k_is)
    (case cdI_Lacks => k_is)
    (case vfI_Lacks => exact rfl)
    (case clI_Lacks => k_is)
    (case in_Lacks => kx_is)
    (case ov_Lacks => kx_is)
    (case sax_Lacks => k_is)
    (case nf_Lacks => k_is)
    (case sB_Lacks => k_is)
    (case sC_Lacks => k_is)
    (case ti_Lacks => k_is)
    (case sup_Lacks => ks_is)
    (case xga_Lacks => k_is)
    (case xgg_Lacks => k_is)
    (case xha_Lacks => k_is)
    (case xhm_Lacks => k_is)
    (case sb_Lacks_AllTold => k_is)
    (case sb_Lacks_Barred => k_is)
    (case sb_Lacks_HallError => k_is)
    (case sb_Lacks_Known => k_is)
    (case sb_Lacks_Lacks => k_is)
    (case sb_Lacks_NoDeed => k_is)
    (case sb_Lacks_NoMember => k_is)
    (case sb_Lacks_NoNumber => k_is)
    (case ii_NoDeed => k_is)
    (case lI_NoDeed => k_is)
    (case coI_NoDeed => k_is)
    (case cdI_NoDeed => k_is)
    (case vfI_NoDeed => exact rfl)
    (case clI_NoDeed => k_is)
    (case in_NoDeed => kx_is)
    (case ov_NoDeed => kx_is)
    (case sax_NoDeed => k_is)
    (case nf_NoDeed => k_is)
    (case sB_NoDeed => k_is)
    (case sC_NoDeed => k_is)
    (case ti_NoDeed => k_is)
    (case sup_NoDeed => ks_is)
    (case xga_NoDeed => k_is)
    (case xgg_NoDeed => k_is)
    (case xha_NoDeed => k_is)
    (case xhm_NoDeed => k_is)
    (case sb_NoDeed_AllTold => k_is)
    (case sb_NoDeed_Barred => k_is)
    (case sb_NoDeed_HallError => k_is)
    (case sb_NoDeed_Known => k_is)
    (case sb_NoDeed_Lacks => k_is)
    (case sb_NoDeed_NoDeed => k_is)
    (case sb_NoDeed_NoMember => k_is)
    (case sb_NoDeed_NoNumber => k_is)
    (case ii_NoMember => k_is)
    (case lI_NoMember => k_is)
    (case coI_NoMember => k_is)
    (case cdI_NoMember => k_is)
    (case vfI_NoMember => exact rfl)
    (case clI_NoMember => k_is)
    (case in_NoMember => kx_is)
    (case ov_NoMember => kx_is)
    (case sax_NoMember => k_is)
    (case nf_NoMember => k_is)
    (case sB_NoMember => k_is)
    (case sC_NoMember => k_is)
    (case ti_NoMember => k_is)
    (case sup_NoMember => ks_is)
    (case xga_NoMember => k_is)
    (case xgg_NoMember => k_is)
    (case xha_NoMember => k_is)
    (case xhm_NoMember => k_is)
    (case sb_NoMember_AllTold => k_is)
    (case sb_NoMember_Barred => k_is)
    (case sb_NoMember_HallError => k_is)
    (case sb_NoMember_Known => k_is)
    (case sb_NoMember_Lacks => k_is)
    (case sb_NoMember_NoDeed => k_is)
    (case sb_NoMember_NoMember => k_is)
    (case sb_NoMember_NoNumber => k_is)
    (case ii_NoNumber => k_is)
    (case lI_NoNumber => k_is)
    (case coI_NoNumber => k_is)
    (case cdI_NoNumber => k_is)
    (case vfI_NoNumber => exact rfl)
    (case clI_NoNumber => k_is)
    (case in_NoNumber => kx_is)
    (case ov_NoNumber => kx_is)
    (case sax_NoNumber => k_is)
    (case nf_NoNumber => k_is)
    (case sB_NoNumber => k_is)
    (case sC_NoNumber => k_is)
    (case ti_NoNumber => k_is)
    (case sup_NoNumber => ks_is)
    (case xga_NoNumber => k_is)
    (case xgg_NoNumber => k_is)
    (case xha_NoNumber => k_is)
    (case xhm_NoNumber => k_is)
    (case sb_NoNumber_AllTold => k_is)
    (case sb_NoNumber_Barred => k_is)
    (case sb_NoNumber_HallError => k_is)
    (case sb_NoNumber_Known => k_is)
    (case sb_NoNumber_Lacks => k_is)
    (case sb_NoNumber_NoDeed => k_is)
    (case sb_NoNumber_NoMember => k_is)
    (case sb_NoNumber_NoNumber => k_is)
    (case x_hn => k_is)
    (case x_htk => k_is)
    (case z_all => k_is)
    (case z_bool => k_is)
    (case z_int => k_is)
    (case z_isinstance => k_is)
    (case z_len => k_is)
    (case z_list => k_is)
    (case z_max => k_is)
    (case z_range => k_is)
    (case z_super => k_is)
    (case z_tuple => k_is)
    (case g_LEAST_MEMBERS => k_is)
    (case g_MOST_MEMBERS => k_is)
